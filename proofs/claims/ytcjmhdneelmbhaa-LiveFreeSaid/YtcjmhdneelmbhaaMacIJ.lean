/- A block is entered from another one. (Written by gen/genmach.py.) -/
import Derived.Test.YtcjmhdneelmbhaaMacGJ
namespace Go.Proofs.Ytcjmhdneelmbhaa
open Go.ChangeShapes Go.WideShapes Go.RowKit Go.Deep
set_option linter.unusedVariables false

theorem idx_take {l : List Int} {x : Int} {j : Nat} (h : x ∉ l.take j) (hj : l[j]? = some x) : l.idxOf x = j := by
  have hlt := (List.getElem?_eq_some_iff.1 hj).1
  have e2 : l.drop j = x :: l.drop (j + 1) := by
    rw [List.drop_eq_getElem_cons hlt, (List.getElem?_eq_some_iff.1 hj).2]
  have e : l.idxOf x = (l.take j ++ l.drop j).idxOf x := by rw [List.take_append_drop]
  rw [e, List.idxOf_append, if_neg h, e2, List.idxOf_cons_self, List.length_take, Nat.min_eq_left (by omega), Nat.zero_add]
/-- 'slices.Index' of what is there. -/
theorem index_any (l : List Int) (x : Int) (A : Option Addr) (c : Nat) (w : World) (hs : SL w 1 RInt A c l) (hx : x ∈ l) :
    Calls Try.prog 95 #[.slice A l.length c, .int .i64 x] w fun e w' => e = .returned (.int .i64 (l.idxOf x : Nat)) ∧ w' = w := by
  have hlen := hs.len
  have HX := Lib.hid hx
  clear hx
  go_enter Try.func95, Try.ntmps95
  go_wp2_with fail
  go_loopw [8] (fun i wr => ∃ j : Nat, j ≤ l.length ∧ i = .int .i64 j ∧ Hid (x ∉ l.take j) ∧ wr = w) (fun i _ => l.length - (intOf i).toNat)
  case atStart => exact ⟨0, Nat.zero_le _, rfl, Lib.hid (by simp), rfl⟩
  case round =>
    obtain ⟨j, hj, rfl, hi, rfl⟩ := hrel
    by_cases hjt : j < l.length
    · obtain ⟨b, o, y, rfl, hy, hyc, -⟩ := hs.int hjt
      have hj0 : (0 : Int) ≤ j := by omega
      have hj1 : (j : Int) < l.length := by omega
      by_cases hxy : x = y
      · have hb : (x == y) = true := by simp [hxy]
        have HE : Hid (l.idxOf x = j) := Lib.hid (idx_take hi.out (by rw [hy.out, hxy]))
        clear hxy
        go_wp2_with fail
        go_ret
        exact ⟨by rw [HE.out]; rfl, rfl⟩
      · have hb : (x == y) = false := by simp [hxy]
        have HN : Hid (x ∉ l.take (j + 1)) := Lib.hid (by
          rw [take_succ_of hy.out, List.mem_append, List.mem_singleton]
          rintro (h | h)
          · exact hi.out h
          · exact hxy h)
        clear hxy
        go_wp2_with fail
        go_roundw
        case rel => exact ⟨j + 1, by omega, by go_num, HN, trivial⟩
        case measure => simp [intOf]; omega
    · exact absurd HX.out (by have := hi.out; rwa [List.take_of_length_le (by omega)] at this)

def valOf (s : St) (fm : Nat) (p : PhiD) : Int := s.cur.regs (p.args.getD fm 0).toNat
theorem setAll_step {r : Nat → Int} {l : List (Int × Int)} {j : Nat} {d v : Int} (h : l[j]? = some (d, v)) : setAll r (l.take (j + 1)) = upd (setAll r (l.take j)) d.toNat v := by
  unfold setAll; rw [take_succ_of h, List.foldl_append]; rfl

def jumpS (s : St) (tb : Nat) : St := { s with cur := { s.cur with blk := tb, at_ := 0 } }
/-- The place is set, in the same function. -/
theorem mac_jump {K P : Nat} {m : List FunD} {w : World} {s : St} {rd : List Int} {tb : Nat} (h : Mac K P m w s rd) : Mac K P m ((w.setCell ⟨P, 1, none⟩ (.int .i64 tb)).setCell ⟨P, 2, none⟩ (.int .i64 0)) (jumpS s tb) rd ∧
    BB K P w ((w.setCell ⟨P, 1, none⟩ (.int .i64 tb)).setCell ⟨P, 2, none⟩ (.int .i64 0)) := by
  obtain ⟨q, hb, he, hd, hP, hK⟩ := h
  have h1 : MacB P (w.setCell ⟨P, 1, none⟩ (.int .i64 tb)) { s with cur := { s.cur with blk := tb } } q :=
    hb.set (set_place (by omega) rfl (fun j _ hj => by
      unfold placeC
      by_cases h : j = 0
      · rw [if_pos h, if_pos h]
      · rw [if_neg h, if_neg h, if_neg hj, if_neg hj]) rfl rfl (fun _ => rfl))
  have h2 : MacB P ((w.setCell ⟨P, 1, none⟩ (.int .i64 tb)).setCell ⟨P, 2, none⟩ (.int .i64 0)) (jumpS s tb) q :=
    h1.set (set_place (by omega) rfl (fun j hj hne => by
      unfold placeC
      by_cases h : j = 0
      · rw [if_pos h, if_pos h]; rfl
      · rw [if_neg h, if_neg h, if_pos (by omega), if_pos (by omega)]; rfl) rfl rfl (fun _ => rfl))
  exact ⟨mac_of h2 he hd hP hK (by simp [World.setCell]) (fun k hk hne => (set_others k (by simpa [World.setCell] using hk) hne).trans (set_others k hk hne)) rfl rfl rfl,
    ((BB.refl K P w).setCell (p := ⟨P, 1, none⟩) (.inl rfl) _).setCell (p := ⟨P, 2, none⟩) (.inl rfl) _⟩
/-- What a run leans on in a block that is entered. -/
structure EnterOk (m : List FunD) (s : St) (tb : Nat) (f : FunD) (kt : BlkD) : Prop where
  hf : m[s.cur.fn]? = some f
  hb : f.blocks[tb]? = some kt
  mem : (s.cur.blk : Int) ∈ aheadL f.blocks (tb : Int)
  few : kt.phis.length ≤ 1000
  phis : ∀ p ∈ kt.phis, p.args.length = (aheadL f.blocks (tb : Int)).length ∧ InR 256 p.dst ∧ ∀ a ∈ p.args, InR 256 a

set_option maxRecDepth 100000 in
set_option maxHeartbeats 16000000 in
theorem goTo_any (K P : Nat) (m : List FunD) (w : World) (s : St) (rd : List Int) (tb : Nat) (f : FunD) (kt : BlkD) (h : Mac K P m w s rd) (hok : EnterOk m s tb f kt) :
    Calls Try.prog 80 #[.pointer (some ⟨P, 0, none⟩), .int .i64 tb] w fun e w' => e = .returned (.tuple #[]) ∧ (∃ rd', Mac K P m w' { s with cur := goToF f s.cur tb } rd') ∧ BB K P w w' := by
  obtain ⟨i64, p1, p2, p3, p4⟩ := info_parts Try.info2
  have HI := Lib.hid (And.intro p1 (And.intro p2 (And.intro p3 p4)))
  clear p1 p2 p3 p4
  obtain ⟨hf, hbt, hmem, hfew, hphs⟩ := hok
  obtain ⟨q0, hb0, he0, hd0, hP, hK⟩ := h
  have hfl := (List.getElem?_eq_some_iff.1 hf).1
  have htl := (List.getElem?_eq_some_iff.1 hbt).1
  obtain ⟨b, o, c, f', hvf, hf', ⟨-, -, -, -, ⟨Ab, cb, hblkc, hbs⟩⟩⟩ := he0.fun_ hfl
  obtain rfl : f = f' := Option.some.inj (hf.symm.trans hf'.out)
  obtain ⟨b2, o2, kt', rfl, hkt, ⟨-, ⟨Ap, cp, hphc, hphs0⟩, -, -, -, -⟩⟩ := hbs.at_ htl
  obtain rfl : kt = kt' := Option.some.inj (hbt.symm.trans hkt.out)
  obtain ⟨ba0, oa0, ca0, f', hva, hf'', ⟨-, ⟨Ag, cg, hahc, hahs⟩⟩⟩ := he0.ah hfl
  obtain rfl : f = f' := Option.some.inj (hf.symm.trans hf''.out)
  obtain ⟨b4, o4, lr, rfl, hlr, ⟨-, ⟨Al, cl, hrowc, hrows⟩⟩⟩ := hahs.at_ (k := tb) (by rw [rows_len]; exact htl)
  obtain rfl : lr = aheadL f.blocks tb := rows_at hlr.out
  rw [rows_len] at hahc
  have hrowsP := SL.imp (R' := RInt) (w' := w) (fun b o x hx => hx.2) hrows
  have cf : w.cell? ⟨P, 260, none⟩ = some (.slice (some ⟨b, o, none⟩) m.length c) := (hb0.cell (by omega)).trans (congrArg some hvf)
  have cah : w.cell? ⟨P, 261, none⟩ = some (.slice (some ⟨ba0, oa0, none⟩) m.length ca0) := (hb0.cell (by omega)).trans (congrArg some hva)
  have c0 : w.cell? ⟨P, 0, none⟩ = some (.int .i64 s.cur.fn) := hb0.cell (by omega)
  have c1 : w.cell? ⟨P, 1, none⟩ = some (.int .i64 s.cur.blk) := hb0.cell (by omega)
  have k1 : (0 : Int) ≤ s.cur.fn := by omega
  have k2 : (s.cur.fn : Int) < m.length := by omega
  have k3 : (0 : Int) ≤ tb := by omega
  have k4 : (tb : Int) < f.blocks.length := by omega
  rw [Nat.mul_one] at hrowc
  have HIX := Lib.hid (fun n => index_any (aheadL f.blocks tb) s.cur.blk Al cl (w.drewN n) (SL.imp (R' := RInt) (w' := w.drewN n) (fun b o x hx => hx) hrowsP) hmem)
  obtain ⟨fm, hfm⟩ : ∃ fm, fm = (aheadL f.blocks (tb : Int)).idxOf (s.cur.blk : Int) := ⟨_, rfl⟩
  have HIX2 := Lib.hid (fun n n' => index_any (aheadL f.blocks tb) s.cur.blk Al cl ((w.drewN n).drewN n') (SL.imp (R' := RInt) (w' := (w.drewN n).drewN n') (fun b o x hx => hx) hrowsP) hmem)
  rw [← hfm] at HIX HIX2
  have hfml : fm < (aheadL f.blocks (tb : Int)).length := by rw [hfm]; exact List.idxOf_lt_length_of_mem hmem
  have HFM := Lib.hid hfm
  have HPH := Lib.hid hphs
  have HPS := Lib.hid hphs0
  have HFL := Lib.hid hfml
  have HKT := Lib.hid hbt
  -- the row that is begun anew
  have hnew : ∃ v0, (∃ A0 c0, q0.vr = .slice A0 rd.length c0 ∧ v0 = .slice A0 0 c0) ∧ v0.ownBlock = q0.vr.ownBlock ∧ w.ownsRow K 2 1 v0 0 [] := by
    have h1 := hd0.rdv
    rcases h1.2 with ⟨h2, h3⟩ | ⟨g, cap, cur, h2, _⟩
    · exact ⟨.slice none 0 0, ⟨none, 0, by rw [h2, h3], rfl⟩, by rw [h2], World.ownsRow_nil _ _ _ _⟩
    · rw [h2] at h1
      exact ⟨.slice (some ⟨g, 0, none⟩) 0 cap, ⟨_, _, h2, rfl⟩, by rw [h2]; rfl, owns_zero h1⟩
  obtain ⟨v0, ⟨A0, cp0, hvr, rfl⟩, hv0, hown0⟩ := hnew
  have cr0 : w.cell? ⟨P, 262, none⟩ = some (.slice A0 rd.length cp0) := (hb0.cell (by omega)).trans (congrArg some hvr)
  have fr0 := hb0.free 262
  have HM1 := Lib.hid (fun n => mac_read (w := w.drewN n) (rd' := (kt.phis.take 0).map (valOf s fm)) (show MacB P (w.drewN n) s q0 from hb0) (he0.keep (w' := w.drewN n) (fun _ _ _ h => h)) (hd0.go (w' := w.drewN n) (fun _ _ _ => rfl) rfl rfl rfl rfl rfl) hP hK (gro_same hv0) (show (w.drewN n).ownsRow K 2 1 (.slice A0 0 cp0) 0 [] from hown0))
  clear hb0 he0 hd0 hvf hf' hbs hkt hva hf'' hahs hlr hrows hrowsP hmem hfm hphs hphs0 hfml hbt hown0 hvr hv0 hf
  go_enter Try.func80, Try.ntmps80
  go_wp2_with fail
  go_quiet (fail)
  have HIX1 := Lib.hid (HIX2.out nq)
  have q1 : (w.drewN nq).cell? ⟨P, 261, none⟩ = some (.slice (some ⟨ba0, oa0, none⟩) m.length ca0) := cah
  have q2 : (w.drewN nq).cell? ⟨P, 0, none⟩ = some (.int .i64 s.cur.fn) := c0
  have q3 : (w.drewN nq).cell? ⟨P, 1, none⟩ = some (.int .i64 s.cur.blk) := c1
  have q4 : (w.drewN nq).cell? ⟨ba0, oa0 + s.cur.fn, none⟩ = some (.slice (some ⟨b4, o4, none⟩) f.blocks.length cg) := hahc
  have q5 : (w.drewN nq).cell? ⟨b4, o4 + tb, none⟩ = some (.slice Al (aheadL f.blocks tb).length cl) := hrowc
  have HR0 : Hid (∀ n, ((w.drewN nq).drewN n).cell? ⟨P, 262, none⟩ = some (.slice A0 rd.length cp0)) := Lib.hid (fun _ => cr0)
  have HF0 : Hid (∀ n, ((w.drewN nq).drewN n).frozen? ⟨P, 262, none⟩ = false) := Lib.hid (fun _ => fr0)
  have HMQ := Lib.hid (fun n => (show ((w.drewN nq).drewN n) = w.drewN (nq + n) by simp) ▸ HM1.out (nq + n))
  have HBQ := Lib.hid ((BB.refl K P w).drewN nq)
  clear HIX HIX2 cah c0 c1 hahc hrowc cr0 fr0 HM1 cf hblkc hphc
  go_wp2_with fail
  generalize w.drewN nq = w1 at *
  go_quiet ((go_at_call 95; exact Calls.quiet_of_same (HIX1.out _)))
  have r0 := HR0.out nq
  have f0 := HF0.out nq
  have HM2 := Lib.hid (HMQ.out nq)
  have HB2 := Lib.hid (HBQ.out.drewN nq)
  clear HR0 HF0 HMQ HBQ q1 q2 q3 q4 q5 HIX1 k1 k2 k3 k4
  generalize w1.drewN nq = w2 at *
  go_wp2_with fail
  go_loopw [56] (fun i wr => ∃ j : Nat, j ≤ kt.phis.length ∧ i = .int .i64 j ∧ Mac K P m wr s ((kt.phis.take j).map (valOf s fm)) ∧ BB K P w wr) (fun i _ => kt.phis.length - (intOf i).toNat)
  case atStart => exact ⟨0, Nat.zero_le _, rfl, HM2.out.1, HB2.out.trans HM2.out.2⟩
  case round =>
    obtain ⟨j, hj, rfl, hm, hbb⟩ := hrel
    clear r0 f0
    by_cases hjt : j < kt.phis.length
    · obtain ⟨q, hb, he, hd, -, hK0⟩ := hm
      obtain ⟨b5, o5, p, rfl, hp, ⟨hbo, ⟨hpd, -⟩, Aa, ca, hpc, hpas⟩⟩ := (SPhisB.go hbb.kept (fun _ h => h) HPS.out).at_ hjt
      obtain ⟨hpl, hpdst, hpargs⟩ := HPH.out p (List.mem_of_getElem? hp.out)
      have hfmp : fm < p.args.length := by rw [hpl]; exact HFL.out
      obtain ⟨ba, oa, y, rfl, hy, ⟨hba, hyc, -⟩⟩ := hpas.at_ hfmp
      rw [Nat.mul_one] at hyc
      have hyin := hpargs y (List.mem_of_getElem? hy.out)
      obtain ⟨r, hry⟩ : ∃ r : Nat, y = r := ⟨y.toNat, by have := hyin.1; omega⟩
      subst hry
      have hr256 : r < 256 := by have := hyin.2; omega
      have hr0 : (0 : Int) ≤ r := by omega
      have hr1 : (r : Int) < 256 := by omega
      have hj0 : (0 : Int) ≤ j := by omega
      have hj1 : (j : Int) < kt.phis.length := by omega
      have hf0 : (0 : Int) ≤ fm := by omega
      have hf1 : (fm : Int) < p.args.length := by omega
      have HVAL : Hid (valOf s fm p = s.cur.regs r) := Lib.hid (by unfold valOf; rw [List.getD_eq_getElem?_getD, hy.out]; rfl)
      have HX := hp
      have HBA := Lib.hid hba
      have cv0 : wr.cell? ⟨P, 262, none⟩ = some q.vr := hb.cell (by omega)
      have creg0 : wr.cell? ⟨P, 3 + r, none⟩ = some (.int .i64 (s.cur.regs r)) := hb.reg hr256
      have HOWr : Hid (wr.ownsRow K 2 1 q.vr j (((kt.phis.take j).map (valOf s fm)).map (Value.int .i64))) := Lib.hid (by have := hd.rdv; rwa [List.length_map, List.length_take, Nat.min_eq_left hj] at this)
      have hPlt := hb.lt
      have H0 := Lib.hid (And.intro hb (And.intro he hd))
      clear hb he hd hpas hpl hpdst hpargs hyin hfmp hba hbo hp
      go_wp2_with fail
      obtain ⟨w5, hw5, hs5, hk5, hB5, hc5, -⟩ := named wr #[.int .i64 p.dst, .slice (some ⟨ba, oa, none⟩) p.args.length ca] 76
      have cv := hk5 _ _ cv0
      have creg := hk5 _ _ creg0
      have carg := hk5 _ _ hyc
      have cpa : w5.cell? ⟨wr.heap.size, 1, none⟩ = some (.slice (some ⟨ba, oa, none⟩) p.args.length ca) := hc5 1 _ rfl
      have HMB : Hid (MacB P w5 s q) := Lib.hid ((hB5.block P hPlt).trans H0.out.1)
      have HME := Lib.hid (H0.out.2.1.keep (KeptB.of hk5))
      have HMD := Lib.hid (H0.out.2.2.go (w' := w5) (fun k _ h => hB5.block k h) rfl rfl rfl rfl rfl)
      have HOW : Hid (w5.ownsRow K 2 1 q.vr j (((kt.phis.take j).map (valOf s fm)).map (Value.int .i64))) := Lib.hid (owns_keep HOWr.out (fun g _ _ h => hB5.block g h))
      have HB5 : Hid (BB K P wr w5) := Lib.hid (BB.of_below hB5 hK0)
      have hK0 : K ≤ w5.heap.size := by omega
      have hwr5 : wr.heap.size < w5.heap.size := by omega
      rw [← hw5]
      clear hw5 hs5 hk5 hB5 hc5 cv0 creg0 hyc hpd hpc H0 hPlt
      refine wp_region_last (L := 19) (S := fun w' => w'.cell? ⟨P, 262, none⟩ = some q.vr ∧ w'.cell? ⟨wr.heap.size, 1, none⟩ = some (.slice (some ⟨ba, oa, none⟩) p.args.length ca) ∧ w'.cell? ⟨ba, oa + fm, none⟩ = some (.int .i64 r) ∧ w'.cell? ⟨P, 3 + r, none⟩ = some (.int .i64 (s.cur.regs r))) (by kernel_rfl) (by rfl) (by kernel_rfl) (by kernel_rfl) ?_
      change wpAnyH _ _ _ _ _ _ _ _ (World.drew _)
      have hS : ∀ w', Below w5.heap.size w5 w' → w'.cell? ⟨P, 262, none⟩ = some q.vr ∧ w'.cell? ⟨wr.heap.size, 1, none⟩ = some (.slice (some ⟨ba, oa, none⟩) p.args.length ca) ∧ w'.cell? ⟨ba, oa + fm, none⟩ = some (.int .i64 r) ∧ w'.cell? ⟨P, 3 + r, none⟩ = some (.int .i64 (s.cur.regs r)) := fun w' h => ⟨kept_of_below h _ _ cv, kept_of_below h _ _ cpa, kept_of_below h _ _ carg, kept_of_below h _ _ creg⟩
      have hS0 := hS w5.drew (Below.refl _ _).drew
      clear cv creg cpa carg
      refine takeH (i := 0) (some 60) (v := ?_) rfl (by kernel_rfl) (by kernel_rfl) (by kernel_rfl) (fun _ _ _ h => h) hS0 (fun o ho => ?_) ?_
      rotate_left
      · simp only [List.getElem?_toArray, List.getElem?_cons_zero, Option.some.injEq] at ho; subst ho; refine Or.inl ⟨by rfl, fun w' hSw => ?_⟩; (try dsimp only at hSw); go_simp; try with_reducible rfl
      simp only [Act.put, List.setIfInBounds_toArray, List.set_cons_zero, List.set_cons_succ]
      refine takeH (i := 1) (some 61) (v := ?_) rfl (by kernel_rfl) (by kernel_rfl) (by kernel_rfl) (fun _ _ _ h => h) hS0 (fun o ho => ?_) ?_
      rotate_left
      · simp only [List.getElem?_toArray, List.getElem?_cons_zero, List.getElem?_cons_succ, Option.some.injEq] at ho; subst ho; refine Or.inl ⟨by rfl, fun w' hSw => ?_⟩; (try dsimp only at hSw); go_simp; try with_reducible rfl
      simp only [Act.put, List.setIfInBounds_toArray, List.set_cons_zero, List.set_cons_succ]
      refine takeH (i := 2) (some 62) (v := ?_) rfl (by kernel_rfl) (by kernel_rfl) (by kernel_rfl) (fun _ _ _ h => h) hS0 (fun o ho => ?_) ?_
      rotate_left
      · simp only [List.getElem?_toArray, List.getElem?_cons_zero, List.getElem?_cons_succ, Option.some.injEq] at ho; subst ho; refine Or.inl ⟨by rfl, fun w' hSw => ?_⟩; (try dsimp only at hSw); go_simp; try with_reducible rfl
      simp only [Act.put, List.setIfInBounds_toArray, List.set_cons_zero, List.set_cons_succ]
      refine takeH (i := 3) (some 63) (v := ?_) rfl (by kernel_rfl) (by kernel_rfl) (by kernel_rfl) (fun _ _ _ h => h) hS0 (fun o ho => ?_) ?_
      rotate_left
      · simp only [List.getElem?_toArray, List.getElem?_cons_zero, List.getElem?_cons_succ, Option.some.injEq] at ho; subst ho; refine Or.inl ⟨by rfl, fun w' hSw => ?_⟩; (try dsimp only at hSw); go_simp; try with_reducible rfl
      simp only [Act.put, List.setIfInBounds_toArray, List.set_cons_zero, List.set_cons_succ]
      refine takeH (i := 4) (some 64) (v := ?_) rfl (by kernel_rfl) (by kernel_rfl) (by kernel_rfl) (fun _ _ _ h => h) hS0 (fun o ho => ?_) ?_
      rotate_left
      · simp only [List.getElem?_toArray, List.getElem?_cons_zero, List.getElem?_cons_succ, Option.some.injEq] at ho; subst ho; refine Or.inl ⟨by rfl, fun w' hSw => ?_⟩; (try dsimp only at hSw); go_simp; try with_reducible rfl
      simp only [Act.put, List.setIfInBounds_toArray, List.set_cons_zero, List.set_cons_succ]
      refine takeH (i := 5) (some 65) (v := ?_) rfl (by kernel_rfl) (by kernel_rfl) (by kernel_rfl) (fun _ _ _ h => h) hS0 (fun o ho => ?_) ?_
      rotate_left
      · simp only [List.getElem?_toArray, List.getElem?_cons_zero, List.getElem?_cons_succ, Option.some.injEq] at ho; subst ho; refine Or.inl ⟨by rfl, fun w' hSw => ?_⟩; (try dsimp only at hSw); go_simp; try with_reducible rfl
      simp only [Act.put, List.setIfInBounds_toArray, List.set_cons_zero, List.set_cons_succ]
      refine takeH (i := 6) (some 66) (v := ?_) rfl (by kernel_rfl) (by kernel_rfl) (by kernel_rfl) (fun _ _ _ h => h) hS0 (fun o ho => ?_) ?_
      rotate_left
      · simp only [List.getElem?_toArray, List.getElem?_cons_zero, List.getElem?_cons_succ, Option.some.injEq] at ho; subst ho; refine Or.inl ⟨by rfl, fun w' hSw => ?_⟩; (try dsimp only at hSw); go_simp; try with_reducible rfl
      simp only [Act.put, List.setIfInBounds_toArray, List.set_cons_zero, List.set_cons_succ]
      refine takeH (i := 7) (some 67) (v := ?_) rfl (by kernel_rfl) (by kernel_rfl) (by kernel_rfl) (fun _ _ _ h => h) hS0 (fun o ho => ?_) ?_
      rotate_left
      · simp only [List.getElem?_toArray, List.getElem?_cons_zero, List.getElem?_cons_succ, Option.some.injEq] at ho; subst ho; refine Or.inl ⟨by rfl, fun w' hSw => ?_⟩; (try dsimp only at hSw); go_simp; try with_reducible rfl
      simp only [Act.put, List.setIfInBounds_toArray, List.set_cons_zero, List.set_cons_succ]
      refine takeH (i := 8) (some 68) (v := ?_) rfl (by kernel_rfl) (by kernel_rfl) (by kernel_rfl) (fun _ _ _ h => h) hS0 (fun o ho => ?_) ?_
      rotate_left
      · simp only [List.getElem?_toArray, List.getElem?_cons_zero, List.getElem?_cons_succ, Option.some.injEq] at ho; subst ho; refine Or.inl ⟨by rfl, fun w' hSw => ?_⟩; (try dsimp only at hSw); go_simp; try with_reducible rfl
      simp only [Act.put, List.setIfInBounds_toArray, List.set_cons_zero, List.set_cons_succ]
      refine takeH (i := 9) (some 69) (v := ?_) rfl (by kernel_rfl) (by kernel_rfl) (by kernel_rfl) (fun _ _ _ h => h) hS0 (fun o ho => ?_) ?_
      rotate_left
      · simp only [List.getElem?_toArray, List.getElem?_cons_zero, List.getElem?_cons_succ, Option.some.injEq] at ho; subst ho; refine Or.inl ⟨by rfl, fun w' hSw => ?_⟩; (try dsimp only at hSw); go_simp; try with_reducible rfl
      simp only [Act.put, List.setIfInBounds_toArray, List.set_cons_zero, List.set_cons_succ]
      refine takeH (i := 10) (some 70) (v := ?_) rfl (by kernel_rfl) (by kernel_rfl) (by kernel_rfl) (fun _ _ _ h => h) hS0 (fun o ho => ?_) ?_
      rotate_left
      · simp only [List.getElem?_toArray, List.getElem?_cons_zero, List.getElem?_cons_succ, Option.some.injEq] at ho; subst ho; refine Or.inl ⟨by rfl, fun w' hSw => ?_⟩; (try dsimp only at hSw); go_simp; try with_reducible rfl
      simp only [Act.put, List.setIfInBounds_toArray, List.set_cons_zero, List.set_cons_succ]
      refine takeH (i := 11) (some 71) (v := ?_) rfl (by kernel_rfl) (by kernel_rfl) (by kernel_rfl) (fun _ _ _ h => h) hS0 (fun o ho => ?_) ?_
      rotate_left
      · simp only [List.getElem?_toArray, List.getElem?_cons_zero, List.getElem?_cons_succ, Option.some.injEq] at ho; subst ho; refine Or.inl ⟨by rfl, fun w' hSw => ?_⟩; (try dsimp only at hSw); go_simp; try with_reducible rfl
      simp only [Act.put, List.setIfInBounds_toArray, List.set_cons_zero, List.set_cons_succ]
      refine takeH (i := 12) (some 72) (v := ?_) rfl (by kernel_rfl) (by kernel_rfl) (by kernel_rfl) (fun _ _ _ h => h) hS0 (fun o ho => ?_) ?_
      rotate_left
      · simp only [List.getElem?_toArray, List.getElem?_cons_zero, List.getElem?_cons_succ, Option.some.injEq] at ho; subst ho; refine Or.inl ⟨by rfl, fun w' hSw => ?_⟩; (try dsimp only at hSw); go_simp; try with_reducible rfl
      simp only [Act.put, List.setIfInBounds_toArray, List.set_cons_zero, List.set_cons_succ]
      refine takeH (i := 13) (some 73) (v := ?_) rfl (by kernel_rfl) (by kernel_rfl) (by kernel_rfl) (fun _ _ _ h => h) hS0 (fun o ho => ?_) ?_
      rotate_left
      · simp only [List.getElem?_toArray, List.getElem?_cons_zero, List.getElem?_cons_succ, Option.some.injEq] at ho; subst ho; refine Or.inl ⟨by rfl, fun w' hSw => ?_⟩; (try dsimp only at hSw); go_simp; try with_reducible rfl
      simp only [Act.put, List.setIfInBounds_toArray, List.set_cons_zero, List.set_cons_succ]
      refine takeH (i := 14) (some 74) (v := ?_) rfl (by kernel_rfl) (by kernel_rfl) (by kernel_rfl) (fun _ _ _ h => h) hS0 (fun o ho => ?_) ?_
      rotate_left
      · simp only [List.getElem?_toArray, List.getElem?_cons_zero, List.getElem?_cons_succ, Option.some.injEq] at ho; subst ho; refine Or.inl ⟨by rfl, fun w' hSw => ?_⟩; (try dsimp only at hSw); go_simp; try with_reducible rfl
      simp only [Act.put, List.setIfInBounds_toArray, List.set_cons_zero, List.set_cons_succ]
      refine oneH (i := 15) (by kernel_rfl) (fun o ho K' hK => ?_)
      simp only [List.getElem?_toArray, List.getElem?_cons_zero, List.getElem?_cons_succ, Option.some.injEq] at ho; subst ho
      go_simp
      have hb8 : Below w5.heap.size w5 (w5.alloc (.cells #[.int .i64 (s.cur.regs r)] 2)).drew := ((Below.refl _ w5).alloc (Nat.le_refl _) _).drew
      refine hK.out _ _ (hS _ hb8) ?_
      clear hK K'
      refine oneH (i := 16) (by kernel_rfl) (fun o ho K' hK => ?_)
      simp only [List.getElem?_toArray, List.getElem?_cons_zero, List.getElem?_cons_succ, Option.some.injEq] at ho; subst ho
      refine step_append_lies _ (by rfl) _ _ _ (by rfl) K 2 i64 (.int .i64 0) 1 8 Try.underlying25 HI.out.1 HI.out.2.1 HI.out.2.2.1 HI.out.2.2.2 rfl (by decide) q.vr j _ (by rfl) (HOW.out.alloc _)
        ⟨w5.heap.size, 0, none⟩ 1 1 [.int .i64 (s.cur.regs r)] (by rfl) (by rfl) (cell_one_new _ _ _) (by intro u hu; rw [List.mem_singleton.1 hu]; rfl) (by decide) (by unfold maxLen; omega) (by omega) (by simp; omega) (w5.heap.size + 1) (by simp) ?_
      intro g cap wC hownC hgrowC hlocC hltC
      have hGR : Hid (Gro w5 wC q.vr (.slice (some ⟨g, 0, none⟩) (j + 1) cap)) := Lib.hid (gro_append (w := w5) hgrowC hlocC)
      have hmC := (mac_read HMB.out HME.out HMD.out hP hK0 hGR.out (rd' := (kt.phis.take (j + 1)).map (valOf s fm)) (by
        rw [List.length_map, List.length_take, Nat.min_eq_left (by omega)]
        have e : ((kt.phis.take (j + 1)).map (valOf s fm)).map (Value.int .i64) = ((kt.phis.take j).map (valOf s fm)).map (Value.int .i64) ++ [.int .i64 (s.cur.regs r)] := by
          rw [take_succ_of HX.out, List.map_append, List.map_append, List.map_singleton, List.map_singleton, HVAL.out]
        rw [e]; exact hownC))
      have HMC := Lib.hid hmC
      clear hmC
      have hPv : q.vr.ownBlock ≠ some P := by intro e; have := (HOW.out.lt P e).1; omega
      have hbC := gro_block hGR.out HMB.out hPv
      have kC : ∀ (a : Addr) (v : Value), q.vr.ownBlock ≠ some a.block → w5.cell? a = some v → wC.cell? a = some v := fun a v hne hv => (World.cell?_of_block (hGR.out.block a.block (block_lt_of_cell hv) hne)).trans hv
      have hSC : wC.cell? ⟨P, 262, none⟩ = some q.vr ∧ wC.cell? ⟨wr.heap.size, 1, none⟩ = some (.slice (some ⟨ba, oa, none⟩) p.args.length ca) ∧ wC.cell? ⟨ba, oa + fm, none⟩ = some (.int .i64 r) ∧ wC.cell? ⟨P, 3 + r, none⟩ = some (.int .i64 (s.cur.regs r)) := ⟨hbC.cell (by omega), kC _ _ (by intro e; have := (HOWr.out.lt _ e).2; dsimp only at this; omega) (hS _ (Below.refl _ _)).2.1, kC _ _ (by intro e; have := (HOW.out.lt _ e).1; have := HBA.out.1; dsimp only at *; omega) (hS _ (Below.refl _ _)).2.2.1, hbC.reg hr256⟩
      have xc : wC.cell? ⟨P, 262, none⟩ = some q.vr := hSC.1
      have xf : wC.frozen? ⟨P, 262, none⟩ = false := hbC.free 262
      refine hK.out _ _ hSC ?_
      clear hK K'
      simp only [Act.put, List.setIfInBounds_toArray, List.set_cons_zero, List.set_cons_succ]
      refine takeH (i := 17) (some 77) (v := ?_) rfl (by kernel_rfl) (by kernel_rfl) (by kernel_rfl) (fun _ _ _ h => h) hSC (fun o ho => ?_) ?_
      rotate_left
      · simp only [List.getElem?_toArray, List.getElem?_cons_zero, List.getElem?_cons_succ, Option.some.injEq] at ho; subst ho; refine Or.inl ⟨by rfl, fun w' hSw => ?_⟩; (try dsimp only at hSw); go_simp; try with_reducible rfl
      simp only [Act.put, List.setIfInBounds_toArray, List.set_cons_zero, List.set_cons_succ]
      refine takeH (i := 18) (some 78) (v := ?_) rfl (by kernel_rfl) (by kernel_rfl) (by kernel_rfl) (fun _ _ _ h => h) hSC (fun o ho => ?_) ?_
      rotate_left
      · simp only [List.getElem?_toArray, List.getElem?_cons_zero, List.getElem?_cons_succ, Option.some.injEq] at ho; subst ho; refine Or.inl ⟨by rfl, fun w' hSw => ?_⟩; (try dsimp only at hSw); go_simp; try with_reducible rfl
      simp only [Act.put, List.setIfInBounds_toArray, List.set_cons_zero, List.set_cons_succ]
      refine wpAnyH_done (by kernel_rfl) ?_ _
      refine lastH (by decide) (fun o ho K' hK => ?_)
      simp only [List.getElem?_toArray, List.getElem?_cons_zero, List.getElem?_cons_succ, Option.some.injEq] at ho; subst ho
      go_simp
      refine hK.out _ _ ?_
      clear hK K'
      go_wp2_with fail
      go_roundw
      case rel => exact ⟨j + 1, by omega, by go_num, HMC.out.1, (hbb.trans HB5.out).trans HMC.out.2⟩
      case measure => simp [intOf]; omega
    · have e : kt.phis.take j = kt.phis := List.take_of_length_le (by omega)
      rw [e] at hm
      have HM3 := Lib.hid hm
      clear hm e
      go_wp2_with fail
      go_loopw [82] (fun i wr => ∃ j : Nat, j ≤ kt.phis.length ∧ i = .int .i64 j ∧ Mac K P m wr (withR s (setAll s.cur.regs (((kt.phis.map PhiD.dst).zip (kt.phis.map (valOf s fm))).take j))) (kt.phis.map (valOf s fm)) ∧ BB K P w wr) (fun i _ => kt.phis.length - (intOf i).toNat)
      case atStart => exact ⟨0, Nat.zero_le _, rfl, HM3.out, hbb⟩
      case round =>
        obtain ⟨j, hj, rfl, hm, hbb⟩ := hrel
        by_cases hjt : j < kt.phis.length
        · obtain ⟨b5, o5, p, rfl, hp, ⟨hbo, ⟨hpd, -⟩, Aa, ca, hpc, -⟩⟩ := (SPhisB.go hbb.kept (fun _ h => h) HPS.out).at_ hjt
          have hpdst := (HPH.out p (List.mem_of_getElem? hp.out)).2.1
          obtain ⟨d, hdd⟩ : ∃ d : Nat, p.dst = d := ⟨p.dst.toNat, by have := hpdst.1; omega⟩
          have hd256 : d < 256 := by have := hpdst.2; omega
          have hz0 : (0 : Int) ≤ d := by omega
          have hz1 : (d : Int) < 256 := by omega
          have hj0 : (0 : Int) ≤ j := by omega
          have hj1 : (j : Int) < kt.phis.length := by omega
          have hK0 : K ≤ wr.heap.size := by obtain ⟨_, _, _, _, _, h⟩ := hm; exact h
          have HM0 := Lib.hid hm
          have HST : Hid (setR (withR s (setAll s.cur.regs (((kt.phis.map PhiD.dst).zip (kt.phis.map (valOf s fm))).take j))) d (valOf s fm p) = withR s (setAll s.cur.regs (((kt.phis.map PhiD.dst).zip (kt.phis.map (valOf s fm))).take (j + 1)))) := Lib.hid (by
            rw [setAll_step (j := j) (d := p.dst) (v := valOf s fm p) (by rw [List.getElem?_zip_eq_some, List.getElem?_map, List.getElem?_map, hp.out]; exact ⟨rfl, rfl⟩), hdd]
            rfl)
          rw [hdd] at hpd
          clear hm hpdst hbo
          go_wp2_with fail
          obtain ⟨w5, hw5, hs5, hk5, hB5, hc5, -⟩ := named wr #[.int .i64 d, .slice Aa p.args.length ca] 76
          have hm5 := HM0.out.below hB5
          have HB5 : Hid (BB K P w w5) := Lib.hid (hbb.trans (BB.of_below hB5 hK0))
          have HM5 := Lib.hid hm5
          obtain ⟨q, hb, he, hd, -, -⟩ := hm5
          obtain ⟨g, cap, hvr, hcells⟩ := hd.read (by rw [List.length_map]; omega)
          rw [List.length_map] at hvr
          have cv : w5.cell? ⟨P, 262, none⟩ = some (.slice (some ⟨g, 0, none⟩) kt.phis.length cap) := (hb.cell (by omega)).trans (congrArg some hvr)
          have cval : w5.cell? ⟨g, j, none⟩ = some (.int .i64 (valOf s fm p)) := hcells j _ (by
            rw [List.getElem?_map]
            rw [hp.out]; rfl)
          have cdst : w5.cell? ⟨wr.heap.size, 0, none⟩ = some (.int .i64 d) := hc5 0 _ rfl
          have creg : w5.cell? ⟨P, 3 + d, none⟩ = _ := hb.reg hd256
          have freg := hb.free (3 + d)
          rw [← hw5]
          clear hw5 hs5 hk5 hB5 hc5 hb he hd hcells hvr hpd hpc hdd
          go_still_tail 13, (by kernel_rfl)
          change wpList _ _ _ _ _ w5.drew
          go_wp2_with fail
          obtain ⟨z1, z2⟩ := mac_setR HM5.out hd256 (valOf s fm p)
          rw [HST.out] at z1
          go_roundw
          case rel => exact ⟨j + 1, by omega, by go_num, z1.drewN 1, (HB5.out.trans z2).drewN 1⟩
          case measure => simp [intOf]; omega
        · have e : ((kt.phis.map PhiD.dst).zip (kt.phis.map (valOf s fm))).take j = (kt.phis.map PhiD.dst).zip (kt.phis.map (valOf s fm)) := List.take_of_length_le (by simp; omega)
          rw [e] at hm
          obtain ⟨q, hb, he, hd, -, hK0⟩ := hm
          have c1 : wr.cell? ⟨P, 1, none⟩ = some (.int .i64 s.cur.blk) := hb.cell (by omega)
          have c2 : wr.cell? ⟨P, 2, none⟩ = some (.int .i64 s.cur.at_) := hb.cell (by omega)
          have f1 := hb.free 1
          have f2 := hb.free 2
          have HJ := Lib.hid (mac_jump (tb := tb) ⟨q, hb, he, hd, hP, hK0⟩)
          have HFIN : Hid (({ s with cur := goToF f s.cur tb } : St) = jumpS (withR s (setAll s.cur.regs ((kt.phis.map PhiD.dst).zip (kt.phis.map (valOf s fm))))) tb) := Lib.hid (by
            unfold goToF phiVals blkAt
            rw [getD_of HKT.out, ← HFM.out]
            rfl)
          clear hb he hd e
          go_wp2_with fail
          go_end0
          refine ⟨rfl, ⟨_, by rw [HFIN.out]; exact HJ.out.1⟩, hbb.trans HJ.out.2⟩
end Go.Proofs.Ytcjmhdneelmbhaa

/- A block's end is done. -/
namespace Go.Proofs.Ytcjmhdneelmbhaa
open Go.ChangeShapes Go.WideShapes Go.RowKit Go.Deep
set_option linter.unusedVariables false

theorem hasTo_mem {x : Int} {l : List Int} (h : x ∈ l) : hasTo x l = true := by unfold hasTo; rw [List.any_eq_true]; exact ⟨x, h, by simp⟩
theorem aheadK_has (bs : List BlkD) (i k : Nat) (b : BlkD) (x : Int) (h : bs[k]? = some b) (hx : x ∈ b.term.to) : ((i + k : Nat) : Int) ∈ aheadK bs i x := by
  induction bs generalizing i k with
  | nil => simp at h
  | cons y r ih =>
    simp only [aheadK, List.mem_append]
    cases k with
    | zero =>
      obtain rfl := Option.some.inj h
      left; rw [if_pos (hasTo_mem hx)]; simp
    | succ k =>
      right
      have := ih (i + 1) k h
      rwa [show i + 1 + k = i + (k + 1) by omega] at this
theorem ahead_has {bs : List BlkD} {k : Nat} {b : BlkD} {x : Int} (h : bs[k]? = some b) (hx : x ∈ b.term.to) : (k : Int) ∈ aheadL bs x := by
  have := aheadK_has bs 0 k b x h hx
  rwa [Nat.zero_add] at this
/-- Where a run stands is all right. -/
structure OkC (m : List FunD) (fr : Fr) (f : FunD) (kb : BlkD) : Prop where
  hf : m[fr.fn]? = some f
  hb : f.blocks[fr.blk]? = some kb
  hat : fr.at_ ≤ kb.ins.length
  zero : ∀ i, f.regs.length ≤ i → fr.regs i = 0
theorem enter_ok {m : List FunD} {s : St} {f : FunD} {kb : BlkD} (hF : FunOk m f) (h : OkC m s.cur f kb) {x : Int} (hx : x ∈ kb.term.to) : ∃ kt, EnterOk m s x.toNat f kt ∧ x = (x.toNat : Int) := by
  have hto := hF.to kb (List.mem_of_getElem? h.hb) x hx
  have hlt : x.toNat < f.blocks.length := by omega
  refine ⟨f.blocks[x.toNat], ⟨h.hf, List.getElem?_eq_getElem hlt, ?_, ?_, fun p hp => ?_⟩, by omega⟩
  · have := ahead_has h.hb hx
    rwa [show x = ((x.toNat : Nat) : Int) by omega] at this
  · have := hF.items _ (List.getElem_mem hlt); omega
  · obtain ⟨h1, h2, h3⟩ := hF.phis x.toNat _ (List.getElem?_eq_getElem hlt) p hp
    have := hF.nr
    exact ⟨h1, ⟨h2.1, by have := h2.2; omega⟩, fun a ha => ⟨(h3 a ha).1, by have := (h3 a ha).2; omega⟩⟩

def ToldM' (K P : Nat) (m : List FunD) (w : World) (s : St) (e : Ending) (w' : World) : Prop := e = .returned (.tuple #[]) ∧ (∃ rd, Mac K P m w' s rd) ∧ BB K P w w'
theorem box_bb {K P : Nat} {m : List FunD} {w w1 : World} {s : St} {rd : List Int} (h : Mac K P m w s rd) (hB : Below w.heap.size w w1) : BB K P w w1 := by obtain ⟨_, _, _, _, _, hK⟩ := h; exact BB.of_below hB hK

set_option maxRecDepth 100000 in
set_option maxHeartbeats 8000000 in
theorem end_any (K P : Nat) (m : List FunD) (w : World) (s : St) (rd : List Int) (f : FunD) (kb : BlkD) (v : Value) (h : Mac K P m w s rd) (hF : FunOk m f) (hok : OkC m s.cur f kb) (hst : ∀ c ∈ s.stack, Waits m c) (hsl : s.stack.length ≤ 1048576)
    (hv : VTerm w v kb.term) : Calls Try.prog 61 #[.pointer (some ⟨P, 0, none⟩), v] w (ToldM' K P m w (endS m s kb.term)) := by
  obtain ⟨At, ct, rfl, hto, hk64, ha64⟩ := hv
  obtain ⟨w1, hw1, hs1, hk1, hB1, hc1, hf1⟩ := named w #[.int .i64 kb.term.kind, .int .i64 kb.term.arg, .slice At kb.term.to.length ct] 36
  have b0 : w1.cell? ⟨w.heap.size, 0, none⟩ = some (.int .i64 kb.term.kind) := hc1 0 _ rfl
  have b1 : w1.cell? ⟨w.heap.size, 1, none⟩ = some (.int .i64 kb.term.arg) := hc1 1 _ rfl
  have b2 : w1.cell? ⟨w.heap.size, 2, none⟩ = some (.slice At kb.term.to.length ct) := hc1 2 _ rfl
  have hto1 := SInts.keep hk1 hto
  have hm1 := h.below hB1
  have hbb1 := box_bb h hB1
  have hr256 := hF.nr
  have hwlt : w.heap.size < w1.heap.size := by omega
  rcases hF.kind kb (List.mem_of_getElem? hok.hb) with ⟨hk, hl⟩ | ⟨hk, hl, harg⟩ | ⟨hk, hl, harg⟩
  · -- a jump
    obtain ⟨x, hx⟩ := len_one hl
    obtain ⟨kt, hek, hxn⟩ := enter_ok hF hok (x := x) (by rw [hx]; simp)
    obtain ⟨n, hn⟩ : ∃ n : Nat, n = x.toNat := ⟨_, rfl⟩
    rw [← hn] at hek hxn
    have HE : Hid (endS m s kb.term = { s with cur := goToF f s.cur n }) := Lib.hid (by
      unfold endS; rw [if_neg (by omega), if_neg (by omega), getD_of hok.hf, hx, hn]; rfl)
    have HG := Lib.hid (fun k => goTo_any K P m (w1.drewN k) s rd n f kt (hm1.drewN k) hek)
    obtain ⟨bt, ot, y, rfl, hy, hyc, -⟩ := hto1.int (k := 0) (by omega)
    have hyx : y = n := by have := hy.out; rw [hx] at this; rw [← hxn]; exact (Option.some.inj this).symm
    rw [hyx, Nat.add_zero] at hyc
    have e3 : (kb.term.kind == 3) = false := by rw [hk]; rfl
    have e2 : (kb.term.kind == 2) = false := by rw [hk]; rfl
    have l0 : (0 : Int) < kb.term.to.length := by omega
    clear hto hto1 hm1 h hF hok hst hsl hy hyx hek hxn hn hx hc1 hf1 hk1 hB1 hs1 hk64 ha64 hr256 hk hl
    rw [HE.out]
    go_enter Try.func61, Try.ntmps61
    go_wp2_with fail
    rw [← hw1]
    clear hw1
    go_quiet (fail)
    go_wp2_with fail
    refine (HG.out nq).mono ?_
    rintro e w' ⟨rfl, h1, h2⟩
    go_wp2_with fail
    go_end0
    exact ⟨rfl, h1, (hbb1.drewN nq).trans h2⟩
  · -- a branch
    obtain ⟨x, x2, hx⟩ := len_two hl
    obtain ⟨r, hr⟩ : ∃ r : Nat, kb.term.arg = r := ⟨kb.term.arg.toNat, by have := harg.1; omega⟩
    have hr2 : r < 256 := by have := harg.2; omega
    have hr0 : (0 : Int) ≤ r := by omega
    have hr1 : (r : Int) < 256 := by omega
    have creg : w1.cell? ⟨P, 3 + r, none⟩ = some (.int .i64 (s.cur.regs r)) := by obtain ⟨q, hb, _⟩ := hm1; exact hb.reg hr2
    by_cases hz : s.cur.regs r = 0
    · obtain ⟨kt, hek, hxn⟩ := enter_ok hF hok (x := x2) (by rw [hx]; simp)
      obtain ⟨n, hn⟩ : ∃ n : Nat, n = x2.toNat := ⟨_, rfl⟩
      rw [← hn] at hek hxn
      have HE : Hid (endS m s kb.term = { s with cur := goToF f s.cur n }) := Lib.hid (by
        unfold endS; rw [if_neg (by omega), if_pos ⟨hk, by rw [hr]; exact hz⟩, getD_of hok.hf, hx, hn]; rfl)
      have HG := Lib.hid (fun k => goTo_any K P m (w1.drewN k) s rd n f kt (hm1.drewN k) hek)
      obtain ⟨bt, ot, y, rfl, hy, hyc, -⟩ := hto1.int (k := 1) (by omega)
      have hyx : y = n := by have := hy.out; rw [hx] at this; rw [← hxn]; exact (Option.some.inj this).symm
      rw [hyx] at hyc
      rw [hr] at b1
      rw [hz] at creg
      have HYC := Lib.hid hyc
      clear harg hz hr hyc
      have e3 : (kb.term.kind == 3) = false := by rw [hk]; rfl
      have e2 : (kb.term.kind == 2) = true := by rw [hk]; rfl
      have l0 : (0 : Int) < kb.term.to.length := by omega
      have l1 : (1 : Int) < kb.term.to.length := by omega
      clear hto hto1 hm1 h hF hok hst hsl hy hyx hek hxn hn hx hc1 hf1 hk1 hB1 hs1 hk64 ha64 hr256 hk hl
      rw [HE.out]
      have hyc : w1.cell? ⟨bt, ot + 1, none⟩ = some (.int .i64 n) := HYC.out
      go_enter Try.func61, Try.ntmps61
      go_wp2_with fail
      rw [← hw1]
      clear hw1
      go_quiet (fail)
      go_wp2_with fail
      refine (HG.out nq).mono ?_
      rintro e w' ⟨rfl, h1, h2⟩
      go_wp2_with fail
      go_end0
      exact ⟨rfl, h1, (hbb1.drewN nq).trans h2⟩
    · obtain ⟨kt, hek, hxn⟩ := enter_ok hF hok (x := x) (by rw [hx]; simp)
      obtain ⟨n, hn⟩ : ∃ n : Nat, n = x.toNat := ⟨_, rfl⟩
      rw [← hn] at hek hxn
      have HE : Hid (endS m s kb.term = { s with cur := goToF f s.cur n }) := Lib.hid (by
        unfold endS; rw [if_neg (by omega), if_neg (by rw [hr]; exact fun h => hz h.2), getD_of hok.hf, hx, hn]; rfl)
      have HG := Lib.hid (fun k => goTo_any K P m (w1.drewN k) s rd n f kt (hm1.drewN k) hek)
      obtain ⟨bt, ot, y, rfl, hy, hyc, -⟩ := hto1.int (k := 0) (by omega)
      have hyx : y = n := by have := hy.out; rw [hx] at this; rw [← hxn]; exact (Option.some.inj this).symm
      rw [hyx, Nat.add_zero] at hyc
      rw [hr] at b1
      have hzb : (s.cur.regs r == 0) = false := by simp [hz]
      clear harg hz hr
      have e3 : (kb.term.kind == 3) = false := by rw [hk]; rfl
      have e2 : (kb.term.kind == 2) = true := by rw [hk]; rfl
      have l0 : (0 : Int) < kb.term.to.length := by omega
      have l1 : (1 : Int) < kb.term.to.length := by omega
      clear hto hto1 hm1 h hF hok hst hsl hy hyx hek hxn hn hx hc1 hf1 hk1 hB1 hs1 hk64 ha64 hr256 hk hl
      rw [HE.out]
      go_enter Try.func61, Try.ntmps61
      go_wp2_with fail
      rw [← hw1]
      clear hw1
      go_quiet (fail)
      go_wp2_with fail
      refine (HG.out nq).mono ?_
      rintro e w' ⟨rfl, h1, h2⟩
      go_wp2_with fail
      go_end0
      exact ⟨rfl, h1, (hbb1.drewN nq).trans h2⟩
  · -- a return
    have hreg : kb.term.arg = -1 ∨ InR 256 kb.term.arg := by
      rcases harg with h | h
      · exact .inl h
      · exact .inr ⟨h.1, by have := h.2; omega⟩
    have HE : Hid (endS m s kb.term = giveS m s (backV s kb.term.arg)) := Lib.hid (by unfold endS backV; rw [if_pos hk])
    have HG := Lib.hid (giveBack_any K P m w1 s rd kb.term.arg hm1 hreg hst hsl)
    have e3 : (kb.term.kind == 3) = true := by rw [hk]; rfl
    have e2 : (kb.term.kind == 2) = false := by rw [hk]; rfl
    clear hto hto1 hm1 h hF hok hst hsl hc1 hf1 hk1 hB1 hs1 hk64 ha64 hr256 harg hreg hk hl
    rw [HE.out]
    go_enter Try.func61, Try.ntmps61
    go_wp2_with fail
    rw [← hw1]
    refine HG.out.mono ?_
    rintro e w' ⟨rfl, h1, h2⟩
    go_wp2_with fail
    go_end0
    exact ⟨rfl, ⟨_, h1⟩, hbb1.trans h2⟩
end Go.Proofs.Ytcjmhdneelmbhaa
