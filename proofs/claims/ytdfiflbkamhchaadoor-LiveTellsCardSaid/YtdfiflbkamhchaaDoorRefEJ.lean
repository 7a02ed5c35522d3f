/- The reference's outer: the rules 1 to 4. -/
import Derived.Test.YtdfiflbkamhchaaDoorRefDJ
import Derived.Test.YtdfiflbkamhchaaDoorRefAJ
import Derived.Test.YtdfiflbkamhchaaDoorLvTJ
import Derived.StillTailTactics
namespace Go.Proofs.YtdfiflbkamhchaaDoor
open Go.ChangeShapes Go.WideShapes Go.RowKit Go.Deep
set_option linter.unusedVariables false

def sumTo (bs : List BlkD) (k : Nat) : Nat := itemsK (bs.take k) + (bs.take k).length
theorem sumTo_step {bs : List BlkD} {k : Nat} {b : BlkD} (h : bs[k]? = some b) : sumTo bs (k + 1) = sumTo bs k + b.phis.length + b.ins.length + 1 := by
  have hk : k < bs.length := (List.getElem?_eq_some_iff.1 h).1
  unfold sumTo; rw [itemsK_step h, List.length_take, List.length_take]; omega
theorem sumTo_done {bs : List BlkD} {k : Nat} (h : bs.length ≤ k) : sumTo bs k = bs.length + itemsK bs := by
  unfold sumTo; rw [List.take_of_length_le h]; omega
/-- What the parts of a small function come to. -/
def NearS (bs : List BlkD) : Prop := ∀ b ∈ bs, b.phis.length ≤ 100000 ∧ b.ins.length ≤ 100000
theorem sumTo_le {bs : List BlkD} (h : NearS bs) (k : Nat) : sumTo bs k ≤ 200001 * (bs.take k).length := by
  unfold sumTo itemsK
  have : ∀ l : List BlkD, (∀ b ∈ l, b.phis.length ≤ 100000 ∧ b.ins.length ≤ 100000) → (l.map fun b => b.phis.length + b.ins.length).sum + l.length ≤ 200001 * l.length := by
    intro l
    induction l with
    | nil => simp
    | cons b l ih =>
      intro hl
      have h1 := hl b (by simp)
      have h2 := ih (fun b hb => hl b (by simp [hb]))
      simp only [List.map_cons, List.sum_cons, List.length_cons]
      omega
  exact this _ (fun b hb => h b (List.mem_of_mem_take hb))

set_option maxRecDepth 100000 in
set_option maxHeartbeats 16000000 in
theorem outer_any (f : FunD) (v : Value) (w : World) (hv : VFun w v f) (hn : f.blocks.length ≤ 100000) (hNS : NearS f.blocks) :
    Calls Tryd.prog 34 #[v] w fun e w' => e = .returned (.int .i64 (outerE f)) ∧ Below w.heap.size w w' := by
  have hv0 := hv
  obtain ⟨Ar, cr, A, c, rfl, hr, hb, hp64, hr64⟩ := hv
  have hbl := hb.len
  have hrl := hr.len
  have HNS := Lib.hid hNS
  clear hNS
  obtain ⟨w1, hw1⟩ : ∃ w1, w1 = w.alloc (.cells #[.int .i64 f.params, .int .i64 f.result, .slice Ar f.regs.length cr, .slice A f.blocks.length c] 41) := ⟨_, rfl⟩
  have hB : Below w.heap.size w w1 := by rw [hw1]; exact (Below.refl _ _).alloc (Nat.le_refl _) _
  have hK := kept_of_below hB
  have hc0 : w1.cell? ⟨w.heap.size, 0, none⟩ = some (.int .i64 f.params) := by rw [hw1]; simp
  have hc1 : w1.cell? ⟨w.heap.size, 1, none⟩ = some (.int .i64 f.result) := by rw [hw1]; simp
  have hc2 : w1.cell? ⟨w.heap.size, 2, none⟩ = some (.slice Ar f.regs.length cr) := by rw [hw1]; simp
  have hc3 : w1.cell? ⟨w.heap.size, 3, none⟩ = some (.slice A f.blocks.length c) := by rw [hw1]; simp
  have hs1 : w.heap.size < w1.heap.size := by rw [hw1]; simp
  go_enter Tryd.func34, Tryd.ntmps34
  go_wp2_with fail
  rw [← hw1]
  clear hw1
  go_loopw [3, 4] (fun n i wr => ∃ k q : Nat, k ≤ f.blocks.length ∧ i = .int .i64 k ∧ n = .int .i64 (sumTo f.blocks k) ∧ wr = w1.drewN q) (fun _ i _ => f.blocks.length - (intOf i).toNat)
  case atStart => exact ⟨0, 0, Nat.zero_le _, rfl, rfl, rfl⟩
  case round =>
    obtain ⟨k, q, hk, rfl, rfl, rfl⟩ := hrel
    by_cases hlt : k < f.blocks.length
    · obtain ⟨b, o, kb, rfl, hkb, ⟨Ap, cp, hphi, hphis⟩, ⟨Ai, ci, hins, hinss⟩, -, -, -⟩ := (SBlks.keep hK hb).at_ hlt
      have hpl := hphis.len
      have hil := hinss.len
      have hk0 : (0 : Int) ≤ k := by omega
      have hk1 : (k : Int) < f.blocks.length := by omega
      have HSt := Lib.hid (sumTo_step hkb.out)
      have hle := Nat.le_trans (sumTo_le HNS.out k) (Nat.mul_le_mul_left _ (show (f.blocks.take k).length ≤ 100000 by simp; omega))
      have hpn : kb.phis.length ≤ 100000 := (HNS.out kb (List.mem_of_getElem? hkb.out)).1
      have hin : kb.ins.length ≤ 100000 := (HNS.out kb (List.mem_of_getElem? hkb.out)).2
      generalize sumTo f.blocks k = s at *
      go_wp2_with fail
      go_quiet (fail)
      go_wp2_with fail
      go_roundw
      case rel => exact ⟨k + 1, _, by omega, by go_num, by rw [HSt.out]; go_num, rfl⟩
      case measure => simp [intOf]; omega
    · have hle := Nat.le_trans (sumTo_le HNS.out k) (Nat.mul_le_mul_left _ (show (f.blocks.take k).length ≤ 100000 by simp; omega))
      have HS := Lib.hid (sumTo_done (Nat.le_of_not_lt hlt))
      generalize sumTo f.blocks k = s at *
      by_cases hW : 1 ≤ f.blocks.length ∧ f.blocks.length ≤ 64 ∧ f.regs.length ≤ 256 ∧ s ≤ 256
      · obtain ⟨hW1, hW2, hW3, hW4⟩ := hW
        have HW : Hid (withinB f = true) := Lib.hid (decide_eq_true ⟨hW1, hW2, hW3, by rw [← HS.out]; exact hW4⟩)
        -- begin
        go_wp2_with fail
        clear hW1 hW2 hW3 hW4
        go_loopw [5] (fun i wr => ∃ k q : Nat, k ≤ f.regs.length ∧ i = .int .i64 k ∧ Hid ((f.regs.take k).all isTy = true) ∧ wr = w1.drewN q) (fun i _ => f.regs.length - (intOf i).toNat)
        case atStart => exact ⟨0, q, Nat.zero_le _, rfl, Lib.hid rfl, rfl⟩
        case round =>
          obtain ⟨k', q', hk', rfl, hty, rfl⟩ := hrel
          by_cases hlt' : k' < f.regs.length
          · obtain ⟨b', o', x, rfl, hx, hxc, -⟩ := (SInts.keep hK hr).int hlt'
            have hk0' : (0 : Int) ≤ k' := by omega
            have hk1' : (k' : Int) < f.regs.length := by omega
            by_cases x1 : x = 1
            · have HT : Hid (isTy x = true) := Lib.hid (decide_eq_true (.inl x1))
              have x1' : (x != 1) = false := by simp [x1]
              clear x1
              go_wp2_with fail
              go_roundw
              case rel => exact ⟨k' + 1, _, by omega, by go_num, Lib.hid (by rw [all_step hx.out hty.out]; exact HT.out), rfl⟩
              case measure => simp [intOf]; omega
            · have x1' : (x != 1) = true := by rw [bne_iff_ne]; exact x1
              by_cases x2 : x = 2
              · have HT : Hid (isTy x = true) := Lib.hid (decide_eq_true (.inr x2))
                have x2' : (x != 2) = false := by simp [x2]
                clear x1 x2
                go_wp2_with fail
                go_roundw
                case rel => exact ⟨k' + 1, _, by omega, by go_num, Lib.hid (by rw [all_step hx.out hty.out]; exact HT.out), rfl⟩
                case measure => simp [intOf]; omega
              · have HT : Hid (outerE f = 3) := Lib.hid (by
                  have h1 : isTy x = false := decide_eq_false (fun h => h.elim x1 x2)
                  unfold outerE; rw [HW.out, if_pos rfl, show typedB f = false by unfold typedB; rw [all_stop hx.out h1]; rfl]; rfl)
                have x2' : (x != 2) = true := by rw [bne_iff_ne]; exact x2
                clear x1 x2
                go_wp2_with fail
                go_ret
                exact ⟨by rw [HT.out]; rfl, below_drewN hB _⟩
          · have HA := Lib.hid (all_done hty.out (Nat.le_of_not_lt hlt'))
            clear hty
            by_cases hP : (0 ≤ f.params ∧ f.params ≤ 8 ∧ f.params ≤ f.regs.length) ∧ (0 ≤ f.result ∧ f.result ≤ 2)
            · obtain ⟨⟨p1, p2, p3⟩, p4, p5⟩ := hP
              have HTY : Hid (outerE f = if endsWellB f && meetB f then 0 else 6) := Lib.hid (by
                unfold outerE; rw [HW.out, if_pos rfl, show typedB f = true by unfold typedB; rw [HA.out, decide_eq_true ⟨p1, p2, p3⟩, decide_eq_true (by omega)]; rfl, if_pos rfl])
              go_wp2_with fail
              clear p1 p2 p3 p4 p5 HW HA
              go_loopw [6] (fun i wr => ∃ k : Nat, k ≤ f.blocks.length ∧ i = .int .i64 k ∧ Hid ((f.blocks.take k).all (fun b => shapeB f.blocks.length b.term) = true) ∧ Below w1.heap.size w1 wr) (fun i _ => f.blocks.length - (intOf i).toNat)
              case atStart => exact ⟨0, Nat.zero_le _, rfl, Lib.hid rfl, below_drewN (Below.refl _ _) _⟩
              case round =>
                obtain ⟨k, hk, rfl, hi, hbel⟩ := hrel
                have hs := hbel.size
                have hkw : Kept w1 wr := kept_of_below hbel
                have hBr : Below w.heap.size w wr := hB.trans (hbel.mono (by omega))
                have hc0 := hkw _ _ hc0
                have hc1 := hkw _ _ hc1
                have hc2 := hkw _ _ hc2
                have hc3 := hkw _ _ hc3
                by_cases hlt : k < f.blocks.length
                · obtain ⟨b, o, kb, rfl, hkb, ⟨Ap, cp, hphi, hphis⟩, ⟨Ai, ci, hins, hinss⟩, ⟨hkd, h64k⟩, ⟨har, h64a⟩, ⟨At, ct, hto, htos⟩⟩ := (SBlks.keep (hK.trans hkw) hb).at_ hlt
                  have htl := htos.len
                  have hk0 : (0 : Int) ≤ k := by omega
                  have hk1 : (k : Int) < f.blocks.length := by omega
                  go_wp2_with fail
                  go_still_tail 7, (by kernel_rfl)
                  change wpList _ _ _ _ _ wr.drew
                  have hbd : Below w1.heap.size w1 wr.drew := hbel.drew
                  have hvf : VFun wr.drew (.agg #[.int .i64 f.params, .int .i64 f.result, .slice Ar f.regs.length cr, .slice (some ⟨b, o, none⟩) f.blocks.length c]) f := VFun.keep (hK.trans (kept_of_below hbd)) hv0
                  have hvt : VTerm wr.drew (.agg #[.int .i64 kb.term.kind, .int .i64 kb.term.arg, .slice At kb.term.to.length ct]) kb.term := ⟨At, ct, rfl, SInts.keep (kept_of_below (Below.refl _ wr).drew) htos, h64k, h64a⟩
                  generalize wr.drew = w2 at *
                  go_wp2_with fail
                  refine (shape_any f kb.term _ _ _ hvf hvt).mono ?_
                  rintro e w3 ⟨rfl, hb3⟩
                  have hb3' : Below w1.heap.size w1 w3 := hbd.trans (hb3.mono hbd.size)
                  cases hsh : shapeB f.blocks.length kb.term
                  · have HD : Hid (outerE f = 6) := Lib.hid (by rw [HTY.out, show endsWellB f = false from all_stop hkb.out hsh]; rfl)
                    clear hsh
                    go_wp2_with fail
                    go_ret
                    exact ⟨by rw [HD.out]; rfl, hB.trans (hb3'.mono hB.size)⟩
                  · have HD : Hid ((f.blocks.take (k + 1)).all (fun b => shapeB f.blocks.length b.term) = true) := Lib.hid (by rw [all_step hkb.out hi.out]; exact hsh)
                    clear hsh
                    go_wp2_with fail
                    go_roundw
                    case rel => exact ⟨k + 1, by omega, by go_num, HD, hb3'⟩
                    case measure => simp [intOf]; omega
                · have HTZ : Hid (outerE f = if meetB f then 0 else 6) := Lib.hid (by rw [HTY.out, show endsWellB f = true from all_done hi.out (Nat.le_of_not_lt hlt), Bool.true_and])
                  clear HTY hi
                  go_wp2_with fail
                  clear hc0 hc1 hc2 hc3
                  have hc0 := ‹w1.cell? ⟨w.heap.size, 0, none⟩ = _›
                  have hc1 := ‹w1.cell? ⟨w.heap.size, 1, none⟩ = _›
                  have hc2 := ‹w1.cell? ⟨w.heap.size, 2, none⟩ = _›
                  have hc3 := ‹w1.cell? ⟨w.heap.size, 3, none⟩ = _›
                  obtain ⟨wo, rfl⟩ : ∃ wo, wo = wr := ⟨wr, rfl⟩
                  go_loopw [8] (fun i wr => ∃ k : Nat, k ≤ f.blocks.length ∧ i = .int .i64 k ∧ Hid (meetUp f.blocks k = true) ∧ Below w1.heap.size w1 wr) (fun i _ => f.blocks.length - (intOf i).toNat)
                  case atStart => exact ⟨0, Nat.zero_le _, rfl, Lib.hid rfl, hbel⟩
                  case round =>
                    clear hs hkw hBr hbel
                    obtain ⟨k, hk, rfl, hi, hbel⟩ := hrel
                    have hs := hbel.size
                    have hkw : Kept w1 wr := kept_of_below hbel
                    have hBr : Below w.heap.size w wr := hB.trans (hbel.mono (by omega))
                    have hc0w := hkw _ _ hc0
                    have hc1w := hkw _ _ hc1
                    have hc2w := hkw _ _ hc2
                    have hc3w := hkw _ _ hc3
                    by_cases hlt : k < f.blocks.length
                    · obtain ⟨b, o, kb, rfl, hkb, ⟨Ap, cp, hphi, hphis⟩, -, -, -, -⟩ := (SBlks.keep hK hb).at_ hlt
                      have hpl := hphis.len
                      have hk0 : (0 : Int) ≤ k := by omega
                      have hk1 : (k : Int) < f.blocks.length := by omega
                      have HM := Lib.hid (fun h => meetUp_step hkb.out (h : meetUp f.blocks k = true))
                      have HS := Lib.hid (meetUp_stop hkb.out)
                      go_wp2_with fail
                      obtain ⟨wo2, rfl⟩ : ∃ wo2, wo2 = wr := ⟨wr, rfl⟩
                      go_loopw [9] (fun i wr => ∃ j : Nat, j ≤ kb.phis.length ∧ i = .int .i64 j ∧ Hid ((kb.phis.take j).all (fun p => decide (p.args.length = (aheadL f.blocks k).length)) = true) ∧ Below w1.heap.size w1 wr) (fun i _ => kb.phis.length - (intOf i).toNat)
                      case atStart => exact ⟨0, Nat.zero_le _, rfl, Lib.hid rfl, hbel⟩
                      case round =>
                        clear hs hkw hBr hbel hc0w hc1w hc2w hc3w
                        obtain ⟨j, hj, rfl, hj2, hbel⟩ := hrel
                        have hs := hbel.size
                        have hkw : Kept w1 wr := kept_of_below hbel
                        have hBr : Below w.heap.size w wr := hB.trans (hbel.mono (by omega))
                        have hc0 := hkw _ _ hc0
                        have hc1 := hkw _ _ hc1
                        have hc2 := hkw _ _ hc2
                        have hc3 := hkw _ _ hc3
                        have hphi := hkw _ _ hphi
                        by_cases hjt : j < kb.phis.length
                        · obtain ⟨b', o', p, rfl, hp, -, Aa, ca, hag, hags⟩ := (SPhis.keep hkw hphis).at_ hjt
                          have hal := hags.len
                          have hj0 : (0 : Int) ≤ j := by omega
                          have hj1 : (j : Int) < kb.phis.length := by omega
                          have HAH := Lib.hid (refAhead_any f k (.agg #[.int .i64 f.params, .int .i64 f.result, .slice Ar f.regs.length cr, .slice (some ⟨b, o, none⟩) f.blocks.length c]) wr.drew (VFun.keep ((hK.trans hkw).trans (kept_of_below (Below.refl _ wr).drew)) hv0) (by omega))
                          generalize aheadL f.blocks k = l at *
                          by_cases hpe : p.args.length = l.length
                          · have hpe' : ((p.args.length : Int) != l.length) = false := by simp [hpe]
                            have HP : Hid ((kb.phis.take (j + 1)).all (fun p => decide (p.args.length = l.length)) = true) := Lib.hid (by rw [all_step hp.out hj2.out]; exact decide_eq_true hpe)
                            clear hpe
                            go_wp2_with fail
                            refine wp_region_last (L := 15) (S := fun w' => w'.cell? ⟨w.heap.size, 0, none⟩ = some (.int .i64 f.params) ∧ w'.cell? ⟨w.heap.size, 1, none⟩ = some (.int .i64 f.result) ∧ w'.cell? ⟨w.heap.size, 2, none⟩ = some (.slice Ar f.regs.length cr) ∧ w'.cell? ⟨w.heap.size, 3, none⟩ = some (.slice (some ⟨b, o, none⟩) f.blocks.length c) ∧ w'.cell? ⟨b, o + k * 5, none⟩ = some (.slice (some ⟨b', o', none⟩) kb.phis.length cp) ∧ w'.cell? ⟨b', o' + j * 2 + 1, none⟩ = some (.slice Aa p.args.length ca)) (by kernel_rfl) (by rfl) (by kernel_rfl) (by kernel_rfl) ?_
                            change wpAnyH _ _ _ _ _ _ _ _ (World.drew _)
                            have hS : ∀ w', Below wr.heap.size wr w' → w'.cell? ⟨w.heap.size, 0, none⟩ = some (.int .i64 f.params) ∧ w'.cell? ⟨w.heap.size, 1, none⟩ = some (.int .i64 f.result) ∧ w'.cell? ⟨w.heap.size, 2, none⟩ = some (.slice Ar f.regs.length cr) ∧ w'.cell? ⟨w.heap.size, 3, none⟩ = some (.slice (some ⟨b, o, none⟩) f.blocks.length c) ∧ w'.cell? ⟨b, o + k * 5, none⟩ = some (.slice (some ⟨b', o', none⟩) kb.phis.length cp) ∧ w'.cell? ⟨b', o' + j * 2 + 1, none⟩ = some (.slice Aa p.args.length ca) :=
                              fun w' h => ⟨kept_of_below h _ _ hc0, kept_of_below h _ _ hc1, kept_of_below h _ _ hc2, kept_of_below h _ _ hc3, kept_of_below h _ _ hphi, kept_of_below h _ _ hag⟩
                            have hS0 := hS wr.drew (Below.refl _ _).drew
                            refine takeH (i := 0) (some 137) (v := ?_) rfl (by kernel_rfl) (by kernel_rfl) (by kernel_rfl) (fun _ _ _ h => h) hS0 (fun o ho => ?_) ?_
                            rotate_left
                            · simp only [List.getElem?_toArray, List.getElem?_cons_zero, Option.some.injEq] at ho; subst ho; refine Or.inl ⟨by rfl, fun w' hSw => ?_⟩; (try dsimp only at hSw); go_simp; try with_reducible rfl
                            simp only [Act.put, List.setIfInBounds_toArray, List.set_cons_zero, List.set_cons_succ]
                            refine takeH (i := 1) (some 138) (v := ?_) rfl (by kernel_rfl) (by kernel_rfl) (by kernel_rfl) (fun _ _ _ h => h) hS0 (fun o ho => ?_) ?_
                            rotate_left
                            · simp only [List.getElem?_toArray, List.getElem?_cons_zero, List.getElem?_cons_succ, Option.some.injEq] at ho; subst ho; refine Or.inl ⟨by rfl, fun w' hSw => ?_⟩; (try dsimp only at hSw); go_simp; try with_reducible rfl
                            simp only [Act.put, List.setIfInBounds_toArray, List.set_cons_zero, List.set_cons_succ]
                            refine takeH (i := 2) (some 139) (v := ?_) rfl (by kernel_rfl) (by kernel_rfl) (by kernel_rfl) (fun _ _ _ h => h) hS0 (fun o ho => ?_) ?_
                            rotate_left
                            · simp only [List.getElem?_toArray, List.getElem?_cons_zero, List.getElem?_cons_succ, Option.some.injEq] at ho; subst ho; refine Or.inl ⟨by rfl, fun w' hSw => ?_⟩; (try dsimp only at hSw); go_simp; try with_reducible rfl
                            simp only [Act.put, List.setIfInBounds_toArray, List.set_cons_zero, List.set_cons_succ]
                            refine takeH (i := 3) (some 140) (v := ?_) rfl (by kernel_rfl) (by kernel_rfl) (by kernel_rfl) (fun _ _ _ h => h) hS0 (fun o ho => ?_) ?_
                            rotate_left
                            · simp only [List.getElem?_toArray, List.getElem?_cons_zero, List.getElem?_cons_succ, Option.some.injEq] at ho; subst ho; refine Or.inl ⟨by rfl, fun w' hSw => ?_⟩; (try dsimp only at hSw); go_simp; try with_reducible rfl
                            simp only [Act.put, List.setIfInBounds_toArray, List.set_cons_zero, List.set_cons_succ]
                            refine takeH (i := 4) (some 141) (v := ?_) rfl (by kernel_rfl) (by kernel_rfl) (by kernel_rfl) (fun _ _ _ h => h) hS0 (fun o ho => ?_) ?_
                            rotate_left
                            · simp only [List.getElem?_toArray, List.getElem?_cons_zero, List.getElem?_cons_succ, Option.some.injEq] at ho; subst ho; refine Or.inl ⟨by rfl, fun w' hSw => ?_⟩; (try dsimp only at hSw); go_simp; try with_reducible rfl
                            simp only [Act.put, List.setIfInBounds_toArray, List.set_cons_zero, List.set_cons_succ]
                            refine takeH (i := 5) (some 142) (v := ?_) rfl (by kernel_rfl) (by kernel_rfl) (by kernel_rfl) (fun _ _ _ h => h) hS0 (fun o ho => ?_) ?_
                            rotate_left
                            · simp only [List.getElem?_toArray, List.getElem?_cons_zero, List.getElem?_cons_succ, Option.some.injEq] at ho; subst ho; refine Or.inl ⟨by rfl, fun w' hSw => ?_⟩; (try dsimp only at hSw); go_simp; try with_reducible rfl
                            simp only [Act.put, List.setIfInBounds_toArray, List.set_cons_zero, List.set_cons_succ]
                            refine takeH (i := 6) (some 143) (v := ?_) rfl (by kernel_rfl) (by kernel_rfl) (by kernel_rfl) (fun _ _ _ h => h) hS0 (fun o ho => ?_) ?_
                            rotate_left
                            · simp only [List.getElem?_toArray, List.getElem?_cons_zero, List.getElem?_cons_succ, Option.some.injEq] at ho; subst ho; refine Or.inl ⟨by rfl, fun w' hSw => ?_⟩; (try dsimp only at hSw); go_simp; try with_reducible rfl
                            simp only [Act.put, List.setIfInBounds_toArray, List.set_cons_zero, List.set_cons_succ]
                            refine takeH (i := 7) (some 144) (v := ?_) rfl (by kernel_rfl) (by kernel_rfl) (by kernel_rfl) (fun _ _ _ h => h) hS0 (fun o ho => ?_) ?_
                            rotate_left
                            · simp only [List.getElem?_toArray, List.getElem?_cons_zero, List.getElem?_cons_succ, Option.some.injEq] at ho; subst ho; refine Or.inl ⟨by rfl, fun w' hSw => ?_⟩; (try dsimp only at hSw); go_simp; try with_reducible rfl
                            simp only [Act.put, List.setIfInBounds_toArray, List.set_cons_zero, List.set_cons_succ]
                            refine takeH (i := 8) (some 145) (v := ?_) rfl (by kernel_rfl) (by kernel_rfl) (by kernel_rfl) (fun _ _ _ h => h) hS0 (fun o ho => ?_) ?_
                            rotate_left
                            · simp only [List.getElem?_toArray, List.getElem?_cons_zero, List.getElem?_cons_succ, Option.some.injEq] at ho; subst ho; refine Or.inl ⟨by rfl, fun w' hSw => ?_⟩; (try dsimp only at hSw); go_simp; try with_reducible rfl
                            simp only [Act.put, List.setIfInBounds_toArray, List.set_cons_zero, List.set_cons_succ]
                            refine takeH (i := 9) (some 146) (v := ?_) rfl (by kernel_rfl) (by kernel_rfl) (by kernel_rfl) (fun _ _ _ h => h) hS0 (fun o ho => ?_) ?_
                            rotate_left
                            · simp only [List.getElem?_toArray, List.getElem?_cons_zero, List.getElem?_cons_succ, Option.some.injEq] at ho; subst ho; refine Or.inl ⟨by rfl, fun w' hSw => ?_⟩; (try dsimp only at hSw); go_simp; try with_reducible rfl
                            simp only [Act.put, List.setIfInBounds_toArray, List.set_cons_zero, List.set_cons_succ]
                            refine takeH (i := 10) (some 147) (v := ?_) rfl (by kernel_rfl) (by kernel_rfl) (by kernel_rfl) (fun _ _ _ h => h) hS0 (fun o ho => ?_) ?_
                            rotate_left
                            · simp only [List.getElem?_toArray, List.getElem?_cons_zero, List.getElem?_cons_succ, Option.some.injEq] at ho; subst ho; refine Or.inl ⟨by rfl, fun w' hSw => ?_⟩; (try dsimp only at hSw); go_simp; try with_reducible rfl
                            simp only [Act.put, List.setIfInBounds_toArray, List.set_cons_zero, List.set_cons_succ]
                            refine takeH (i := 11) (some 148) (v := ?_) rfl (by kernel_rfl) (by kernel_rfl) (by kernel_rfl) (fun _ _ _ h => h) hS0 (fun o ho => ?_) ?_
                            rotate_left
                            · simp only [List.getElem?_toArray, List.getElem?_cons_zero, List.getElem?_cons_succ, Option.some.injEq] at ho; subst ho; refine Or.inl ⟨by rfl, fun w' hSw => ?_⟩; (try dsimp only at hSw); go_simp; try with_reducible rfl
                            simp only [Act.put, List.setIfInBounds_toArray, List.set_cons_zero, List.set_cons_succ]
                            refine takeH (i := 12) (some 149) (v := ?_) rfl (by kernel_rfl) (by kernel_rfl) (by kernel_rfl) (fun _ _ _ h => h) hS0 (fun o ho => ?_) ?_
                            rotate_left
                            · simp only [List.getElem?_toArray, List.getElem?_cons_zero, List.getElem?_cons_succ, Option.some.injEq] at ho; subst ho; refine Or.inl ⟨by rfl, fun w' hSw => ?_⟩; (try dsimp only at hSw); go_simp; try with_reducible rfl
                            simp only [Act.put, List.setIfInBounds_toArray, List.set_cons_zero, List.set_cons_succ]
                            refine oneH (i := 13) (by kernel_rfl) (fun o ho K hK => ?_)
                            simp only [List.getElem?_toArray, List.getElem?_cons_zero, List.getElem?_cons_succ, Option.some.injEq] at ho; subst ho
                            go_simp
                            refine HAH.out.mono ?_
                            rintro e w7 ⟨⟨r, rfl, hr7⟩, hb7⟩
                            obtain ⟨A7, c7, rfl, hs7⟩ := hr7
                            have hl7 := hs7.len
                            have hb7' : Below wr.heap.size wr w7 := (Below.refl _ wr).drew.trans hb7
                            have hS7 := hS w7 hb7'
                            go_wp2_with fail
                            refine hK.out _ _ hS7 ?_
                            clear hK K
                            refine takeH (i := 14) (some 151) (v := ?_) rfl (by kernel_rfl) (by kernel_rfl) (by kernel_rfl) (fun _ _ _ h => h) hS7 (fun o ho => ?_) ?_
                            rotate_left
                            · simp only [List.getElem?_toArray, List.getElem?_cons_zero, List.getElem?_cons_succ, Option.some.injEq] at ho; subst ho; refine Or.inl ⟨by rfl, fun w' hSw => ?_⟩; (try dsimp only at hSw); go_simp; try with_reducible rfl
                            simp only [Act.put, List.setIfInBounds_toArray, List.set_cons_zero, List.set_cons_succ]
                            refine wpAnyH_done (by kernel_rfl) ?_ _
                            refine lastH (by decide) (fun o ho K hK => ?_)
                            simp only [List.getElem?_toArray, List.getElem?_cons_zero, List.getElem?_cons_succ, Option.some.injEq] at ho; subst ho
                            go_simp
                            refine hK.out _ _ ?_
                            clear hK K
                            go_wp2_with fail
                            go_roundw
                            case rel => exact ⟨j + 1, by omega, by go_num, HP, hbel.trans (hb7'.mono (by omega))⟩
                            case measure => simp [intOf]; omega
                          · have hpe' : ((p.args.length : Int) != l.length) = true := by rw [bne_iff_ne]; omega
                            have HP : Hid (outerE f = 6) := Lib.hid (by rw [HTZ.out, show meetB f = false from HS.out (all_stop hp.out (decide_eq_false hpe))]; rfl)
                            clear hpe
                            go_wp2_with fail
                            refine wp_region_last (L := 15) (S := fun w' => w'.cell? ⟨w.heap.size, 0, none⟩ = some (.int .i64 f.params) ∧ w'.cell? ⟨w.heap.size, 1, none⟩ = some (.int .i64 f.result) ∧ w'.cell? ⟨w.heap.size, 2, none⟩ = some (.slice Ar f.regs.length cr) ∧ w'.cell? ⟨w.heap.size, 3, none⟩ = some (.slice (some ⟨b, o, none⟩) f.blocks.length c) ∧ w'.cell? ⟨b, o + k * 5, none⟩ = some (.slice (some ⟨b', o', none⟩) kb.phis.length cp) ∧ w'.cell? ⟨b', o' + j * 2 + 1, none⟩ = some (.slice Aa p.args.length ca)) (by kernel_rfl) (by rfl) (by kernel_rfl) (by kernel_rfl) ?_
                            change wpAnyH _ _ _ _ _ _ _ _ (World.drew _)
                            have hS : ∀ w', Below wr.heap.size wr w' → w'.cell? ⟨w.heap.size, 0, none⟩ = some (.int .i64 f.params) ∧ w'.cell? ⟨w.heap.size, 1, none⟩ = some (.int .i64 f.result) ∧ w'.cell? ⟨w.heap.size, 2, none⟩ = some (.slice Ar f.regs.length cr) ∧ w'.cell? ⟨w.heap.size, 3, none⟩ = some (.slice (some ⟨b, o, none⟩) f.blocks.length c) ∧ w'.cell? ⟨b, o + k * 5, none⟩ = some (.slice (some ⟨b', o', none⟩) kb.phis.length cp) ∧ w'.cell? ⟨b', o' + j * 2 + 1, none⟩ = some (.slice Aa p.args.length ca) :=
                              fun w' h => ⟨kept_of_below h _ _ hc0, kept_of_below h _ _ hc1, kept_of_below h _ _ hc2, kept_of_below h _ _ hc3, kept_of_below h _ _ hphi, kept_of_below h _ _ hag⟩
                            have hS0 := hS wr.drew (Below.refl _ _).drew
                            refine takeH (i := 0) (some 137) (v := ?_) rfl (by kernel_rfl) (by kernel_rfl) (by kernel_rfl) (fun _ _ _ h => h) hS0 (fun o ho => ?_) ?_
                            rotate_left
                            · simp only [List.getElem?_toArray, List.getElem?_cons_zero, Option.some.injEq] at ho; subst ho; refine Or.inl ⟨by rfl, fun w' hSw => ?_⟩; (try dsimp only at hSw); go_simp; try with_reducible rfl
                            simp only [Act.put, List.setIfInBounds_toArray, List.set_cons_zero, List.set_cons_succ]
                            refine takeH (i := 1) (some 138) (v := ?_) rfl (by kernel_rfl) (by kernel_rfl) (by kernel_rfl) (fun _ _ _ h => h) hS0 (fun o ho => ?_) ?_
                            rotate_left
                            · simp only [List.getElem?_toArray, List.getElem?_cons_zero, List.getElem?_cons_succ, Option.some.injEq] at ho; subst ho; refine Or.inl ⟨by rfl, fun w' hSw => ?_⟩; (try dsimp only at hSw); go_simp; try with_reducible rfl
                            simp only [Act.put, List.setIfInBounds_toArray, List.set_cons_zero, List.set_cons_succ]
                            refine takeH (i := 2) (some 139) (v := ?_) rfl (by kernel_rfl) (by kernel_rfl) (by kernel_rfl) (fun _ _ _ h => h) hS0 (fun o ho => ?_) ?_
                            rotate_left
                            · simp only [List.getElem?_toArray, List.getElem?_cons_zero, List.getElem?_cons_succ, Option.some.injEq] at ho; subst ho; refine Or.inl ⟨by rfl, fun w' hSw => ?_⟩; (try dsimp only at hSw); go_simp; try with_reducible rfl
                            simp only [Act.put, List.setIfInBounds_toArray, List.set_cons_zero, List.set_cons_succ]
                            refine takeH (i := 3) (some 140) (v := ?_) rfl (by kernel_rfl) (by kernel_rfl) (by kernel_rfl) (fun _ _ _ h => h) hS0 (fun o ho => ?_) ?_
                            rotate_left
                            · simp only [List.getElem?_toArray, List.getElem?_cons_zero, List.getElem?_cons_succ, Option.some.injEq] at ho; subst ho; refine Or.inl ⟨by rfl, fun w' hSw => ?_⟩; (try dsimp only at hSw); go_simp; try with_reducible rfl
                            simp only [Act.put, List.setIfInBounds_toArray, List.set_cons_zero, List.set_cons_succ]
                            refine takeH (i := 4) (some 141) (v := ?_) rfl (by kernel_rfl) (by kernel_rfl) (by kernel_rfl) (fun _ _ _ h => h) hS0 (fun o ho => ?_) ?_
                            rotate_left
                            · simp only [List.getElem?_toArray, List.getElem?_cons_zero, List.getElem?_cons_succ, Option.some.injEq] at ho; subst ho; refine Or.inl ⟨by rfl, fun w' hSw => ?_⟩; (try dsimp only at hSw); go_simp; try with_reducible rfl
                            simp only [Act.put, List.setIfInBounds_toArray, List.set_cons_zero, List.set_cons_succ]
                            refine takeH (i := 5) (some 142) (v := ?_) rfl (by kernel_rfl) (by kernel_rfl) (by kernel_rfl) (fun _ _ _ h => h) hS0 (fun o ho => ?_) ?_
                            rotate_left
                            · simp only [List.getElem?_toArray, List.getElem?_cons_zero, List.getElem?_cons_succ, Option.some.injEq] at ho; subst ho; refine Or.inl ⟨by rfl, fun w' hSw => ?_⟩; (try dsimp only at hSw); go_simp; try with_reducible rfl
                            simp only [Act.put, List.setIfInBounds_toArray, List.set_cons_zero, List.set_cons_succ]
                            refine takeH (i := 6) (some 143) (v := ?_) rfl (by kernel_rfl) (by kernel_rfl) (by kernel_rfl) (fun _ _ _ h => h) hS0 (fun o ho => ?_) ?_
                            rotate_left
                            · simp only [List.getElem?_toArray, List.getElem?_cons_zero, List.getElem?_cons_succ, Option.some.injEq] at ho; subst ho; refine Or.inl ⟨by rfl, fun w' hSw => ?_⟩; (try dsimp only at hSw); go_simp; try with_reducible rfl
                            simp only [Act.put, List.setIfInBounds_toArray, List.set_cons_zero, List.set_cons_succ]
                            refine takeH (i := 7) (some 144) (v := ?_) rfl (by kernel_rfl) (by kernel_rfl) (by kernel_rfl) (fun _ _ _ h => h) hS0 (fun o ho => ?_) ?_
                            rotate_left
                            · simp only [List.getElem?_toArray, List.getElem?_cons_zero, List.getElem?_cons_succ, Option.some.injEq] at ho; subst ho; refine Or.inl ⟨by rfl, fun w' hSw => ?_⟩; (try dsimp only at hSw); go_simp; try with_reducible rfl
                            simp only [Act.put, List.setIfInBounds_toArray, List.set_cons_zero, List.set_cons_succ]
                            refine takeH (i := 8) (some 145) (v := ?_) rfl (by kernel_rfl) (by kernel_rfl) (by kernel_rfl) (fun _ _ _ h => h) hS0 (fun o ho => ?_) ?_
                            rotate_left
                            · simp only [List.getElem?_toArray, List.getElem?_cons_zero, List.getElem?_cons_succ, Option.some.injEq] at ho; subst ho; refine Or.inl ⟨by rfl, fun w' hSw => ?_⟩; (try dsimp only at hSw); go_simp; try with_reducible rfl
                            simp only [Act.put, List.setIfInBounds_toArray, List.set_cons_zero, List.set_cons_succ]
                            refine takeH (i := 9) (some 146) (v := ?_) rfl (by kernel_rfl) (by kernel_rfl) (by kernel_rfl) (fun _ _ _ h => h) hS0 (fun o ho => ?_) ?_
                            rotate_left
                            · simp only [List.getElem?_toArray, List.getElem?_cons_zero, List.getElem?_cons_succ, Option.some.injEq] at ho; subst ho; refine Or.inl ⟨by rfl, fun w' hSw => ?_⟩; (try dsimp only at hSw); go_simp; try with_reducible rfl
                            simp only [Act.put, List.setIfInBounds_toArray, List.set_cons_zero, List.set_cons_succ]
                            refine takeH (i := 10) (some 147) (v := ?_) rfl (by kernel_rfl) (by kernel_rfl) (by kernel_rfl) (fun _ _ _ h => h) hS0 (fun o ho => ?_) ?_
                            rotate_left
                            · simp only [List.getElem?_toArray, List.getElem?_cons_zero, List.getElem?_cons_succ, Option.some.injEq] at ho; subst ho; refine Or.inl ⟨by rfl, fun w' hSw => ?_⟩; (try dsimp only at hSw); go_simp; try with_reducible rfl
                            simp only [Act.put, List.setIfInBounds_toArray, List.set_cons_zero, List.set_cons_succ]
                            refine takeH (i := 11) (some 148) (v := ?_) rfl (by kernel_rfl) (by kernel_rfl) (by kernel_rfl) (fun _ _ _ h => h) hS0 (fun o ho => ?_) ?_
                            rotate_left
                            · simp only [List.getElem?_toArray, List.getElem?_cons_zero, List.getElem?_cons_succ, Option.some.injEq] at ho; subst ho; refine Or.inl ⟨by rfl, fun w' hSw => ?_⟩; (try dsimp only at hSw); go_simp; try with_reducible rfl
                            simp only [Act.put, List.setIfInBounds_toArray, List.set_cons_zero, List.set_cons_succ]
                            refine takeH (i := 12) (some 149) (v := ?_) rfl (by kernel_rfl) (by kernel_rfl) (by kernel_rfl) (fun _ _ _ h => h) hS0 (fun o ho => ?_) ?_
                            rotate_left
                            · simp only [List.getElem?_toArray, List.getElem?_cons_zero, List.getElem?_cons_succ, Option.some.injEq] at ho; subst ho; refine Or.inl ⟨by rfl, fun w' hSw => ?_⟩; (try dsimp only at hSw); go_simp; try with_reducible rfl
                            simp only [Act.put, List.setIfInBounds_toArray, List.set_cons_zero, List.set_cons_succ]
                            refine oneH (i := 13) (by kernel_rfl) (fun o ho K hK => ?_)
                            simp only [List.getElem?_toArray, List.getElem?_cons_zero, List.getElem?_cons_succ, Option.some.injEq] at ho; subst ho
                            go_simp
                            refine HAH.out.mono ?_
                            rintro e w7 ⟨⟨r, rfl, hr7⟩, hb7⟩
                            obtain ⟨A7, c7, rfl, hs7⟩ := hr7
                            have hl7 := hs7.len
                            have hb7' : Below wr.heap.size wr w7 := (Below.refl _ wr).drew.trans hb7
                            have hS7 := hS w7 hb7'
                            go_wp2_with fail
                            refine hK.out _ _ hS7 ?_
                            clear hK K
                            refine takeH (i := 14) (some 151) (v := ?_) rfl (by kernel_rfl) (by kernel_rfl) (by kernel_rfl) (fun _ _ _ h => h) hS7 (fun o ho => ?_) ?_
                            rotate_left
                            · simp only [List.getElem?_toArray, List.getElem?_cons_zero, List.getElem?_cons_succ, Option.some.injEq] at ho; subst ho; refine Or.inl ⟨by rfl, fun w' hSw => ?_⟩; (try dsimp only at hSw); go_simp; try with_reducible rfl
                            simp only [Act.put, List.setIfInBounds_toArray, List.set_cons_zero, List.set_cons_succ]
                            refine wpAnyH_done (by kernel_rfl) ?_ _
                            refine lastH (by decide) (fun o ho K hK => ?_)
                            simp only [List.getElem?_toArray, List.getElem?_cons_zero, List.getElem?_cons_succ, Option.some.injEq] at ho; subst ho
                            go_simp
                            refine hK.out _ _ ?_
                            clear hK K
                            go_wp2_with fail
                            go_ret
                            exact ⟨by rw [HP.out]; rfl, hBr.trans (hb7'.mono hBr.size)⟩
                        · have HD : Hid (meetUp f.blocks (k + 1) = true) := Lib.hid (by rw [HM.out hi.out]; exact all_done hj2.out (Nat.le_of_not_lt hjt))
                          go_wp2_with fail
                          go_roundw
                          case rel => exact ⟨k + 1, by omega, by go_num, HD, hbel⟩
                          case measure => simp [intOf]; omega
                    · have HD : Hid (outerE f = 0) := Lib.hid (by rw [HTZ.out, show meetB f = true from meetUp_done hi.out (Nat.le_of_not_lt hlt)]; rfl)
                      go_wp2_with fail
                      go_ret
                      exact ⟨by rw [HD.out]; rfl, hBr⟩
            · have HT : Hid (outerE f = 3) := Lib.hid (by
                unfold outerE; rw [HW.out, if_pos rfl, show typedB f = false by
                  unfold typedB; rw [HA.out, Bool.true_and, Bool.and_eq_false_iff]
                  by_cases h : 0 ≤ f.params ∧ f.params ≤ 8 ∧ f.params ≤ f.regs.length
                  · exact .inr (decide_eq_false (fun h' => hP ⟨h, by omega⟩))
                  · exact .inl (decide_eq_false h)]; rfl)
              by_cases p1 : f.params < 0
              · clear hP
                go_wp2_with fail
                go_ret
                exact ⟨by rw [HT.out]; rfl, below_drewN hB _⟩
              · by_cases p2 : 8 < f.params
                · clear hP
                  go_wp2_with fail
                  go_ret
                  exact ⟨by rw [HT.out]; rfl, below_drewN hB _⟩
                · by_cases p3 : (f.regs.length : Int) < f.params
                  · clear hP
                    go_wp2_with fail
                    go_ret
                    exact ⟨by rw [HT.out]; rfl, below_drewN hB _⟩
                  · by_cases p4 : f.result < 0
                    · clear hP
                      go_wp2_with fail
                      go_ret
                      exact ⟨by rw [HT.out]; rfl, below_drewN hB _⟩
                    · have p5 : 2 < f.result := by omega
                      clear hP
                      go_wp2_with fail
                      go_ret
                      exact ⟨by rw [HT.out]; rfl, below_drewN hB _⟩
        -- end
      · have HW : Hid (outerE f = 5) := Lib.hid (by unfold outerE; rw [show withinB f = false from decide_eq_false (by rw [← HS.out]; exact hW)]; rfl)
        by_cases g1 : f.blocks.length < 1
        · go_wp2_with fail
          go_ret
          exact ⟨by rw [HW.out]; rfl, below_drewN hB _⟩
        · by_cases g2 : 64 < f.blocks.length
          · clear hW
            go_wp2_with fail
            go_ret
            exact ⟨by rw [HW.out]; rfl, below_drewN hB _⟩
          · by_cases g3 : 256 < f.regs.length
            · clear hW
              go_wp2_with fail
              go_ret
              exact ⟨by rw [HW.out]; rfl, below_drewN hB _⟩
            · have g4 : 256 < s := by omega
              clear hW
              go_wp2_with fail
              go_ret
              exact ⟨by rw [HW.out]; rfl, below_drewN hB _⟩
end Go.Proofs.YtdfiflbkamhchaaDoor
