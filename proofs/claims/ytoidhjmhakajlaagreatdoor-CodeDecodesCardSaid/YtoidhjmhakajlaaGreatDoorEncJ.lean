/- ofBlock, ofFunc, Module, Func, Plain: what the document says, given that ofInstr does. -/
import Derived.Test.YtoidhjmhakajlaaGreatDoorInsJ
import Derived.Test.YtoidhjmhakajlaaGreatDoorOkMJ
import Derived.Test.YtoidhjmhakajlaaGreatDoorChkBJ
import Derived.Test.YtoidhjmhakajlaaGreatDoorChkCJ
import Derived.StillTailTactics
import Derived.Test.YtoidhjmhakajlaaGreatDoorWriLJ
import Derived.Lib.SlBytesConst
namespace Go.Proofs.YtoidhjmhakajlaaGreatDoor
open Go.ChangeShapes Go.WideShapes Go.RowKit Go.Deep
set_option linter.unusedVariables false

/-- ofInstr does what the document says, where the registers are of types. -/
def OfIns : Prop := ∀ (m : List FunD) (f : FunD) (x : InsD) (vm vf vx : Value) (w : World), VMod w vm m → VFun w vf f → VIns w vx x → (∀ t ∈ f.regs, t = 1 ∨ t = 2) →
  Calls Tryz.prog 100 #[vm, vf, vx] w fun e w' => e = .returned (errV (insE m f x)) ∧ Below w.heap.size w w'

theorem first_map_at {α : Type} {l : List α} {k : Nat} {x : α} (p : α → Int) (h : l[k]? = some x) (h0 : firstE ((l.take k).map p) = 0) : firstE ((l.take (k + 1)).map p) = p x := by
  have := firstE_snoc (map_at p h) (by rw [map_take]; exact h0)
  rwa [map_take] at this
theorem first_map_stop {α : Type} {l : List α} {k : Nat} {x : α} (p : α → Int) (h : l[k]? = some x) (h0 : firstE ((l.take k).map p) = 0) (hx : p x ≠ 0) : firstE (l.map p) = p x :=
  firstE_stop (map_at p h) (by rw [map_take]; exact h0) hx
theorem first_map_done {α : Type} {l : List α} {k : Nat} (p : α → Int) (h0 : firstE ((l.take k).map p) = 0) (hk : l.length ≤ k) : firstE (l.map p) = 0 := by rwa [List.take_of_length_le hk] at h0

set_option maxRecDepth 100000 in
set_option maxHeartbeats 4000000 in
theorem ofBlock_any (OI : OfIns) (m : List FunD) (f : FunD) (b : BlkD) (vm vf vb : Value) (w : World) (hm : VMod w vm m) (hf : VFun w vf f) (hb : VBlk w vb b) (hty : ∀ t ∈ f.regs, t = 1 ∨ t = 2) :
    Calls Tryz.prog 76 #[vm, vf, vb] w fun e w' => e = .returned (errV (blockE m f b)) ∧ Below w.heap.size w w' := by
  have hm0 := hm
  have hf0 := hf
  have HTYP := Lib.hid hty
  clear hty
  obtain ⟨Am, cm, rfl, hms⟩ := hm
  obtain ⟨Ar, cr, Ab, cb, rfl, hr, hbs, hp64, hr64⟩ := hf
  obtain ⟨Ap, cp, Ai, ci, At, ct, rfl, hps, his, hts, hk64, ha64⟩ := hb
  have hpl := hps.len
  have hil := his.len
  go_enter Tryz.func76, Tryz.ntmps76
  go_wp2_with fail
  obtain ⟨wa, hwa, hsa, hka, hba, hca, -⟩ := named w #[.slice Am m.length cm] 24
  obtain ⟨wb, hwb, hsb, hkb, hbb, hcb, -⟩ := named wa #[.int .i64 f.params, .int .i64 f.result, .slice Ar f.regs.length cr, .slice Ab f.blocks.length cb] 57
  obtain ⟨w1, hw1, hs1, hk1, hb1, hc1, -⟩ := named wb #[.slice Ap b.phis.length cp, .slice Ai b.ins.length ci, .int .i64 b.term.kind, .int .i64 b.term.arg, .slice At b.term.to.length ct] 63
  rw [← hwa, ← hwb, ← hw1]
  rw [hsa] at hcb
  rw [hsb, hsa] at hc1
  have hB1 : Below w.heap.size w w1 := (hba.trans (hbb.mono (by omega))).trans (hb1.mono (by omega))
  have q0 : w1.cell? ⟨w.heap.size, 0, none⟩ = some (.slice Am m.length cm) := hk1 _ _ (hkb _ _ (hca 0 _ rfl))
  have f0 : w1.cell? ⟨w.heap.size + 1, 0, none⟩ = some (.int .i64 f.params) := hk1 _ _ (hcb 0 _ rfl)
  have f1 : w1.cell? ⟨w.heap.size + 1, 1, none⟩ = some (.int .i64 f.result) := hk1 _ _ (hcb 1 _ rfl)
  have f2 : w1.cell? ⟨w.heap.size + 1, 2, none⟩ = some (.slice Ar f.regs.length cr) := hk1 _ _ (hcb 2 _ rfl)
  have f3 : w1.cell? ⟨w.heap.size + 1, 3, none⟩ = some (.slice Ab f.blocks.length cb) := hk1 _ _ (hcb 3 _ rfl)
  have b1 : w1.cell? ⟨w.heap.size + 1 + 1, 1, none⟩ = some (.slice Ai b.ins.length ci) := hc1 1 _ rfl
  have b2 : w1.cell? ⟨w.heap.size + 1 + 1, 2, none⟩ = some (.int .i64 b.term.kind) := hc1 2 _ rfl
  have b3 : w1.cell? ⟨w.heap.size + 1 + 1, 3, none⟩ = some (.int .i64 b.term.arg) := hc1 3 _ rfl
  have b4 : w1.cell? ⟨w.heap.size + 1 + 1, 4, none⟩ = some (.slice At b.term.to.length ct) := hc1 4 _ rfl
  have hs1 : w.heap.size + 1 + 1 < w1.heap.size := by omega
  clear hwa hwb hw1 hsa hsb hca hcb hc1 hka hkb hk1 hba hbb hb1
  have hk1 := kept_of_below hB1
  go_loopw [16] (fun i wr => ∃ k : Nat, k ≤ b.phis.length ∧ i = .int .i64 k ∧ Below w1.heap.size w1 wr ∧ Hid (firstE ((b.phis.take k).map (phiE f)) = 0)) (fun i _ => b.phis.length - (intOf i).toNat)
  case atStart => exact ⟨0, Nat.zero_le _, rfl, Below.refl _ _, Lib.hid rfl⟩
  case round =>
    obtain ⟨k, hk, rfl, hbel, hi⟩ := hrel
    obtain ⟨wo, rfl⟩ : ∃ wo, wo = wr := ⟨wr, rfl⟩
    have hkw : Kept w1 wo := kept_of_below hbel
    have hB : Below w.heap.size w wo := hB1.trans (hbel.mono (by omega))
    have hso := hbel.size
    have e0 := hkw _ _ f0
    have e1 := hkw _ _ f1
    have e2 := hkw _ _ f2
    have e3 := hkw _ _ f3
    have n1 : w.heap.size + 1 < wo.heap.size := by omega
    have n2 : w.heap.size + 1 + 1 < wo.heap.size := by omega
    by_cases hlt : k < b.phis.length
    · obtain ⟨bb, oo, p, rfl, hp, ⟨hpd, hpd64⟩, Aa, ca, hag, hags⟩ := (SPhis.keep (hk1.trans hkw) hps).at_ hlt
      go_wp2_with fail
      obtain ⟨w2, hw2, hs2, hk2, hbel2, -, -⟩ := named wo #[.int .i64 p.dst, .slice Aa p.args.length ca] 67
      have hb2 : Below w1.heap.size w1 w2 := hbel.trans (hbel2.mono (by omega))
      have hB2 : Below w.heap.size w w2 := hB.trans (hbel2.mono hB.size)
      rw [← hw2]
      clear hw2 hs2
      refine (ofPhi_any f p _ _ _ (VFun.keep ((hk1.trans hkw).trans hk2) hf0) ⟨Aa, ca, rfl, SInts.keep hk2 hags, hpd64⟩).mono ?_
      rintro e w3 ⟨rfl, hb3⟩
      have hb3' : Below w1.heap.size w1 w3 := hb2.trans (hb3.mono hb2.size)
      have hB3 : Below w.heap.size w w3 := hB2.trans (hb3.mono hB2.size)
      by_cases hc : phiE f p = 0
      · have HC := Lib.hid hc
        rw [hc, errV_zero]
        clear hc
        go_wp2_with fail
        go_roundw
        case rel => exact ⟨k + 1, by omega, by go_num, hb3', Lib.hid (by rw [first_map_at (phiE f) hp.out hi.out]; exact HC.out)⟩
        case measure => simp [intOf]; omega
      · have HC : Hid (blockE m f b = phiE f p) := Lib.hid (by
          have := first_map_stop (phiE f) hp.out hi.out hc
          unfold blockE; rw [this, if_neg hc])
        rw [errV_pos hc]
        have HC2 := Lib.hid hc
        clear hc
        go_wp2_with fail
        go_ret
        exact ⟨by rw [HC.out, errV_pos HC2.out]; rfl, hB3⟩
    · have HP := Lib.hid (first_map_done (phiE f) hi.out (Nat.le_of_not_lt hlt))
      have hbo := hbel
      have y1 := hkw _ _ b1
      clear hi
      go_wp2_with fail
      go_loopw [30] (fun i wr => ∃ k : Nat, k ≤ b.ins.length ∧ i = .int .i64 k ∧ Below w1.heap.size w1 wr ∧ Hid (firstE ((b.ins.take k).map (insE m f)) = 0)) (fun i _ => b.ins.length - (intOf i).toNat)
      case atStart => exact ⟨0, Nat.zero_le _, rfl, hbo, Lib.hid rfl⟩
      case round =>
        obtain ⟨k, hk, rfl, hbel, hi⟩ := hrel
        have hkw : Kept w1 wr := kept_of_below hbel
        have hB : Below w.heap.size w wr := hB1.trans (hbel.mono (by omega))
        have hso := hbel.size
        have a0 := hkw _ _ q0
        have e0 := hkw _ _ f0
        have e1 := hkw _ _ f1
        have e2 := hkw _ _ f2
        have e3 := hkw _ _ f3
        have n0 : w.heap.size < wr.heap.size := by omega
        have n1 : w.heap.size + 1 < wr.heap.size := by omega
        have n2 : w.heap.size + 1 + 1 < wr.heap.size := by omega
        by_cases hlt : k < b.ins.length
        · obtain ⟨bb, oo, x, rfl, hx, ⟨h0, z0⟩, ⟨h1, z1⟩, ⟨Aa, ca, hag, hags⟩, ⟨h3, z3⟩, ⟨h4, z4⟩⟩ := (SInss.keep (hk1.trans hkw) his).at_ hlt
          go_wp2_with fail
          obtain ⟨w2, hw2, hs2, hk2, hbel2, -, -⟩ := named wr #[.int .i64 x.op, .int .i64 x.dst, .slice Aa x.args.length ca, .int .i64 x.imm, .int .i64 x.fn] 65
          have hb2 : Below w1.heap.size w1 w2 := hbel.trans (hbel2.mono (by omega))
          have hB2 : Below w.heap.size w w2 := hB.trans (hbel2.mono hB.size)
          rw [← hw2]
          clear hw2 hs2
          have hK := (hk1.trans hkw).trans hk2
          refine (OI m f x _ _ _ _ (VMod.keep hK hm0) (VFun.keep hK hf0) ⟨Aa, ca, rfl, SInts.keep hk2 hags, z0, z1, z3, z4⟩ HTYP.out).mono ?_
          rintro e w3 ⟨rfl, hb3⟩
          have hb3' : Below w1.heap.size w1 w3 := hb2.trans (hb3.mono hb2.size)
          have hB3 : Below w.heap.size w w3 := hB2.trans (hb3.mono hB2.size)
          by_cases hc : insE m f x = 0
          · have HC := Lib.hid hc
            rw [hc, errV_zero]
            clear hc
            go_wp2_with fail
            go_roundw
            case rel => exact ⟨k + 1, by omega, by go_num, hb3', Lib.hid (by rw [first_map_at (insE m f) hx.out hi.out]; exact HC.out)⟩
            case measure => simp [intOf]; omega
          · have HC : Hid (blockE m f b = insE m f x) := Lib.hid (by
              have := first_map_stop (insE m f) hx.out hi.out hc
              unfold blockE; rw [HP.out, if_pos rfl, this, if_neg hc])
            rw [errV_pos hc]
            have HC2 := Lib.hid hc
            clear hc
            go_wp2_with fail
            go_ret
            exact ⟨by rw [HC.out, errV_pos HC2.out]; rfl, hB3⟩
        · have HI : Hid (blockE m f b = termE f b.term) := Lib.hid (by
            have := first_map_done (insE m f) hi.out (Nat.le_of_not_lt hlt)
            unfold blockE; rw [HP.out, if_pos rfl, this, if_pos rfl])
          have t2 := hkw _ _ b2
          have t3 := hkw _ _ b3
          have t4 := hkw _ _ b4
          have hK := hk1.trans hkw
          go_wp2_with fail
          refine (ofTerm_any f b.term _ _ _ (VFun.keep hK hf0) ⟨At, ct, rfl, SInts.keep hK hts, hk64, ha64⟩).mono ?_
          rintro e w3 ⟨rfl, hb3⟩
          have hB3 : Below w.heap.size w w3 := hB.trans (hb3.mono hB.size)
          go_wp2_with fail
          go_ret
          exact ⟨by rw [HI.out]; rfl, hB3⟩
end Go.Proofs.YtoidhjmhakajlaaGreatDoor

/- ofFunc, Module, Func, Plain: what the document says, given that ofInstr does. -/
namespace Go.Proofs.YtoidhjmhakajlaaGreatDoor
open Go.ChangeShapes Go.WideShapes Go.RowKit Go.Deep
set_option linter.unusedVariables false

theorem typed_regs {f : FunD} (h : typedB f = true) : ∀ t ∈ f.regs, t = 1 ∨ t = 2 := fun t ht => by
  unfold typedB at h
  rw [Bool.and_eq_true, Bool.and_eq_true] at h
  exact of_decide_eq_true (List.all_eq_true.1 h.1.1 t ht)

set_option maxRecDepth 100000 in
set_option maxHeartbeats 4000000 in
theorem ofFunc_any (OI : OfIns) (m : List FunD) (f : FunD) (vm vf : Value) (w : World) (hm : VMod w vm m) (hf : VFun w vf f) (hlim : Lim f) :
    Calls Tryz.prog 43 #[vm, vf] w fun e w' => e = .returned (errV (funE m f)) ∧ Below w.heap.size w w' := by
  have hm0 := hm
  have hf0 := hf
  obtain ⟨Am, cm, rfl, hms⟩ := hm
  obtain ⟨Ar, cr, Ab, cb, rfl, hr, hbs, hp64, hr64⟩ := hf
  have hbl := hbs.len
  go_enter Tryz.func43, Tryz.ntmps43
  go_wp2_with fail
  obtain ⟨wa, hwa, hsa, hka, hba, hca, -⟩ := named w #[.slice Am m.length cm] 24
  obtain ⟨w1, hw1, hs1, hk1, hb1, hc1, -⟩ := named wa #[.int .i64 f.params, .int .i64 f.result, .slice Ar f.regs.length cr, .slice Ab f.blocks.length cb] 57
  rw [← hwa, ← hw1]
  rw [hsa] at hc1
  have hB1 : Below w.heap.size w w1 := hba.trans (hb1.mono (by omega))
  have q0 : w1.cell? ⟨w.heap.size, 0, none⟩ = some (.slice Am m.length cm) := hk1 _ _ (hca 0 _ rfl)
  have f0 : w1.cell? ⟨w.heap.size + 1, 0, none⟩ = some (.int .i64 f.params) := hc1 0 _ rfl
  have f1 : w1.cell? ⟨w.heap.size + 1, 1, none⟩ = some (.int .i64 f.result) := hc1 1 _ rfl
  have f2 : w1.cell? ⟨w.heap.size + 1, 2, none⟩ = some (.slice Ar f.regs.length cr) := hc1 2 _ rfl
  have f3 : w1.cell? ⟨w.heap.size + 1, 3, none⟩ = some (.slice Ab f.blocks.length cb) := hc1 3 _ rfl
  have hs1 : w.heap.size + 1 < w1.heap.size := by omega
  clear hwa hw1 hsa hca hc1 hka hk1 hba hb1
  have hk1 := kept_of_below hB1
  refine (isWithin_any f _ _ (VFun.keep hk1 hf0) hlim).mono ?_
  rintro e w2 ⟨rfl, hb2⟩
  have hB2 : Below w.heap.size w w2 := hB1.trans (hb2.mono hB1.size)
  have hk2 := kept_of_below hb2
  have q0 := hk2 _ _ q0
  have f0 := hk2 _ _ f0
  have f1 := hk2 _ _ f1
  have f2 := hk2 _ _ f2
  have f3 := hk2 _ _ f3
  have hs2 : w.heap.size + 1 < w2.heap.size := by have := hb2.size; omega
  cases hwi : withinB f
  · have HE : Hid (funE m f = 5) := Lib.hid (by unfold funE outerE; rw [hwi]; rfl)
    clear hwi
    go_wp2_with fail
    go_ret
    exact ⟨by rw [HE.out]; rfl, hB2⟩
  · have HWI := Lib.hid hwi
    have hn64 : f.blocks.length ≤ 64 := by unfold withinB at hwi; exact (of_decide_eq_true hwi).2.1
    clear hwi
    go_wp2_with fail
    refine (isTyped_any f _ _ (VFun.keep (hk1.trans hk2) hf0)).mono ?_
    rintro e w3 ⟨rfl, hb3⟩
    have hB3 : Below w.heap.size w w3 := hB2.trans (hb3.mono hB2.size)
    have hk3 := kept_of_below hb3
    have q0 := hk3 _ _ q0
    have f0 := hk3 _ _ f0
    have f1 := hk3 _ _ f1
    have f2 := hk3 _ _ f2
    have f3 := hk3 _ _ f3
    cases hty : typedB f
    · have HE : Hid (funE m f = 3) := Lib.hid (by unfold funE outerE; rw [HWI.out, hty]; rfl)
      clear hty
      go_wp2_with fail
      go_ret
      exact ⟨by rw [HE.out]; rfl, hB3⟩
    · have HTY := Lib.hid hty
      clear hty
      go_wp2_with fail
      refine (endsWell_any f _ _ (VFun.keep ((hk1.trans hk2).trans hk3) hf0)).mono ?_
      rintro e w4 ⟨rfl, hb4⟩
      have hB4 : Below w.heap.size w w4 := hB3.trans (hb4.mono hB3.size)
      have hk4 := kept_of_below hb4
      have q0 := hk4 _ _ q0
      have f0 := hk4 _ _ f0
      have f1 := hk4 _ _ f1
      have f2 := hk4 _ _ f2
      have f3 := hk4 _ _ f3
      cases hew : endsWellB f
      · have HE : Hid (funE m f = 6) := Lib.hid (by unfold funE outerE; rw [HWI.out, HTY.out, hew]; rfl)
        clear hew
        go_wp2_with fail
        go_ret
        exact ⟨by rw [HE.out]; rfl, hB4⟩
      · have HEW := Lib.hid hew
        clear hew
        go_wp2_with fail
        refine (phisMeet_any f _ _ (VFun.keep (((hk1.trans hk2).trans hk3).trans hk4) hf0) (by omega)).mono ?_
        rintro e w5 ⟨rfl, hb5⟩
        have hB5 : Below w.heap.size w w5 := hB4.trans (hb5.mono hB4.size)
        have hk5 := kept_of_below hb5
        have hK5 := (((hk1.trans hk2).trans hk3).trans hk4).trans hk5
        have q0 := hk5 _ _ q0
        have f0 := hk5 _ _ f0
        have f1 := hk5 _ _ f1
        have f2 := hk5 _ _ f2
        have f3 := hk5 _ _ f3
        have hs5 : w.heap.size + 1 < w5.heap.size := by have := hb3.size; have := hb4.size; have := hb5.size; omega
        cases hme : meetB f
        · have HE : Hid (funE m f = 6) := Lib.hid (by unfold funE outerE; rw [HWI.out, HTY.out, HEW.out, hme]; rfl)
          clear hme
          go_wp2_with fail
          go_ret
          exact ⟨by rw [HE.out]; rfl, hB5⟩
        · have HO : Hid (funE m f = firstE (f.blocks.map (blockE m f))) := Lib.hid (by
            have : outerE f = 0 := by unfold outerE; rw [HWI.out, HTY.out, HEW.out, hme]; rfl
            unfold funE; rw [if_pos this])
          clear hme
          go_wp2_with fail
          go_loopw [29] (fun i wr => ∃ k : Nat, k ≤ f.blocks.length ∧ i = .int .i64 k ∧ Below w5.heap.size w5 wr ∧ Hid (firstE ((f.blocks.take k).map (blockE m f)) = 0)) (fun i _ => f.blocks.length - (intOf i).toNat)
          case atStart => exact ⟨0, Nat.zero_le _, rfl, Below.refl _ _, Lib.hid rfl⟩
          case round =>
            obtain ⟨k, hk, rfl, hbel, hi⟩ := hrel
            have hkw : Kept w5 wr := kept_of_below hbel
            have hB : Below w.heap.size w wr := hB5.trans (hbel.mono hB5.size)
            have hso := hbel.size
            have a0 := hkw _ _ q0
            have e0 := hkw _ _ f0
            have e1 := hkw _ _ f1
            have e2 := hkw _ _ f2
            have e3 := hkw _ _ f3
            have n0 : w.heap.size < wr.heap.size := by omega
            have n1 : w.heap.size + 1 < wr.heap.size := by omega
            by_cases hlt : k < f.blocks.length
            · obtain ⟨bb, oo, b, rfl, hx, ⟨Ap, cp, h0, z0⟩, ⟨Ai, ci, h1, z1⟩, ⟨h2, z2⟩, ⟨h3, z3⟩, ⟨At, ct, h4, z4⟩⟩ := (SBlks.keep (hK5.trans hkw) hbs).at_ hlt
              go_wp2_with fail
              obtain ⟨wn, hwn, hsn, hkn, hbn, -, -⟩ := named wr #[.slice Ap b.phis.length cp, .slice Ai b.ins.length ci, .int .i64 b.term.kind, .int .i64 b.term.arg, .slice At b.term.to.length ct] 63
              have hbn' : Below w5.heap.size w5 wn := hbel.trans (hbn.mono (by omega))
              have hBn : Below w.heap.size w wn := hB.trans (hbn.mono hB.size)
              rw [← hwn]
              clear hwn hsn
              have hK := (hK5.trans hkw).trans hkn
              refine (ofBlock_any OI m f b _ _ _ _ (VMod.keep hK hm0) (VFun.keep hK hf0) ⟨Ap, cp, Ai, ci, At, ct, rfl, SPhis.keep hkn z0, SInss.keep hkn z1, SInts.keep hkn z4, z2, z3⟩ (typed_regs HTY.out)).mono ?_
              rintro e w7 ⟨rfl, hb7⟩
              have hb7' : Below w5.heap.size w5 w7 := hbn'.trans (hb7.mono hbn'.size)
              have hB7 : Below w.heap.size w w7 := hBn.trans (hb7.mono hBn.size)
              by_cases hc : blockE m f b = 0
              · have HC := Lib.hid hc
                rw [hc, errV_zero]
                clear hc
                go_wp2_with fail
                go_roundw
                case rel => exact ⟨k + 1, by omega, by go_num, hb7', Lib.hid (by rw [first_map_at (blockE m f) hx.out hi.out]; exact HC.out)⟩
                case measure => simp [intOf]; omega
              · have HC : Hid (funE m f = blockE m f b) := Lib.hid (by rw [HO.out]; exact first_map_stop (blockE m f) hx.out hi.out hc)
                rw [errV_pos hc]
                have HC2 := Lib.hid hc
                clear hc
                go_wp2_with fail
                go_ret
                exact ⟨by rw [HC.out, errV_pos HC2.out]; rfl, hB7⟩
            · have HE : Hid (funE m f = 0) := Lib.hid (by rw [HO.out]; exact first_map_done (blockE m f) hi.out (Nat.le_of_not_lt hlt))
              go_wp2_with fail
              go_ret
              exact ⟨by rw [HE.out]; rfl, hB⟩

/-- An error with its place, as the code answers it. -/
def ErrAt (w : World) (v : Value) (p : Int × Int) : Prop :=
  (p.1 = 0 ∧ v = .nilIface) ∨ (p.1 ≠ 0 ∧ p.2 = -1 ∧ v = .iface 51 (.int .i64 p.1)) ∨
  (p.1 ≠ 0 ∧ 0 ≤ p.2 ∧ ∃ g, v = .iface 70 (.pointer (some ⟨g, 0, none⟩)) ∧ w.cell? ⟨g, 0, none⟩ = some (.int .i64 p.2) ∧ w.cell? ⟨g, 1, none⟩ = some (.iface 51 (.int .i64 p.1)))
theorem ErrAt.keep {w w' : World} (h : Kept w w') {v : Value} {p : Int × Int} (hv : ErrAt w v p) : ErrAt w' v p := by
  rcases hv with h1 | h1 | ⟨h1, h2, g, h3, h4, h5⟩
  · exact .inl h1
  · exact .inr (.inl h1)
  · exact .inr (.inr ⟨h1, h2, g, h3, h _ _ h4, h _ _ h5⟩)
theorem ErrAt.nil {w : World} {v : Value} {p : Int × Int} (hv : ErrAt w v p) (hp : p.1 = 0) : v = .nilIface := by
  rcases hv with h1 | h1 | h1
  · exact h1.2
  · exact absurd hp h1.1
  · exact absurd hp h1.1
theorem ErrAt.iface {w : World} {v : Value} {p : Int × Int} (hv : ErrAt w v p) (hp : p.1 ≠ 0) : ∃ t x, v = .iface t x := by
  rcases hv with h1 | h1 | ⟨_, _, g, h3, _⟩
  · exact absurd h1.1 hp
  · exact ⟨_, _, h1.2.2⟩
  · exact ⟨_, _, h3⟩

set_option maxRecDepth 100000 in
set_option maxHeartbeats 4000000 in
theorem module_any (OI : OfIns) (m : List FunD) (vm : Value) (w : World) (hm : VMod w vm m) (hlim : ∀ f ∈ m, Lim f) :
    Calls Tryz.prog 22 #[vm] w fun e w' => (∃ v, e = .returned v ∧ ErrAt w' v (modE m)) ∧ Below w.heap.size w w' := by
  have hm0 := hm
  obtain ⟨Am, cm, rfl, hms⟩ := hm
  have hml := hms.len
  by_cases h32 : 32 < m.length
  · have HE : Hid (modE m = (5, -1)) := Lib.hid (if_pos h32)
    go_enter Tryz.func22, Tryz.ntmps22
    go_wp2_with fail
    go_ret
    exact ⟨⟨_, rfl, by rw [HE.out]; exact .inr (.inl ⟨by decide, rfl, rfl⟩)⟩, (Below.refl _ _).alloc (Nat.le_refl _) _⟩
  · have HM : Hid (modE m = modK m m 0) := Lib.hid (if_neg h32)
    go_enter Tryz.func22, Tryz.ntmps22
    go_wp2_with fail
    obtain ⟨w1, hw1, hs1, hk1, hB1, hc1, -⟩ := named w #[.slice Am m.length cm] 24
    rw [← hw1]
    have q0 : w1.cell? ⟨w.heap.size, 0, none⟩ = some (.slice Am m.length cm) := hc1 0 _ rfl
    have hs1 : w.heap.size < w1.heap.size := by omega
    clear hw1 hc1
    go_loopw [14] (fun i wr => ∃ k : Nat, k ≤ m.length ∧ i = .int .i64 k ∧ Below w1.heap.size w1 wr ∧ Hid ((modK m (m.take k) 0).1 = 0)) (fun i _ => m.length - (intOf i).toNat)
    case atStart => exact ⟨0, Nat.zero_le _, rfl, Below.refl _ _, Lib.hid rfl⟩
    case round =>
      obtain ⟨k, hk, rfl, hbel, hi⟩ := hrel
      have hkw : Kept w1 wr := kept_of_below hbel
      have hB : Below w.heap.size w wr := hB1.trans (hbel.mono hB1.size)
      have hso := hbel.size
      have a0 := hkw _ _ q0
      have n0 : w.heap.size < wr.heap.size := by omega
      by_cases hlt : k < m.length
      · obtain ⟨bb, oo, f, rfl, hx, ⟨h0, z0⟩, ⟨h1, z1⟩, ⟨Ar, cr, h2, z2⟩, Ab, cb, h3, z3⟩ := (SFuns.keep (hk1.trans hkw) hms).at_ hlt
        go_wp2_with fail
        obtain ⟨wn, hwn, hsn, hkn, hbn, -, -⟩ := named wr #[.int .i64 f.params, .int .i64 f.result, .slice Ar f.regs.length cr, .slice Ab f.blocks.length cb] 57
        have hbn' : Below w1.heap.size w1 wn := hbel.trans (hbn.mono (by omega))
        have hBn : Below w.heap.size w wn := hB.trans (hbn.mono hB.size)
        rw [← hwn]
        clear hwn hsn
        have hK := (hk1.trans hkw).trans hkn
        refine (ofFunc_any OI m f _ _ _ (VMod.keep hK hm0) ⟨Ar, cr, Ab, cb, rfl, SInts.keep hkn z2, SBlks.keep hkn z3, z0, z1⟩ (hlim f (List.mem_of_getElem? hx.out))).mono ?_
        rintro e w7 ⟨rfl, hb7⟩
        have hb7' : Below w1.heap.size w1 w7 := hbn'.trans (hb7.mono hbn'.size)
        have hB7 : Below w.heap.size w w7 := hBn.trans (hb7.mono hBn.size)
        by_cases hc : funE m f = 0
        · have HC := Lib.hid hc
          rw [hc, errV_zero]
          clear hc
          go_wp2_with fail
          go_roundw
          case rel => exact ⟨k + 1, by omega, by go_num, hb7', Lib.hid (by rw [modK_step hx.out hi.out, if_pos HC.out])⟩
          case measure => simp [intOf]; omega
        · have HC : Hid (modE m = (funE m f, (k : Int))) := Lib.hid (by rw [HM.out]; exact modK_stop hx.out hi.out hc)
          rw [errV_pos hc]
          have HC2 := Lib.hid hc
          clear hc
          go_wp2_with fail
          go_ret
          exact ⟨⟨_, rfl, by rw [HC.out]; exact .inr (.inr ⟨HC2.out, by show (0 : Int) ≤ k; omega, w7.heap.size, rfl, by simp, by simp⟩)⟩, hB7.alloc hB7.size _⟩
      · have HE : Hid (modE m = (0, -1)) := Lib.hid (by
          have := hi.out
          rw [List.take_of_length_le (Nat.le_of_not_lt hlt)] at this
          rw [HM.out]; exact modK_ok this)
        go_wp2_with fail
        go_ret
        exact ⟨⟨_, rfl, by rw [HE.out]; exact .inl ⟨rfl, rfl⟩⟩, hB⟩
end Go.Proofs.YtoidhjmhakajlaaGreatDoor

/- write and Encode: a proper module's bytes. -/
namespace Go.Proofs.YtoidhjmhakajlaaGreatDoor
open Go.ChangeShapes Go.WideShapes Go.RowKit Go.Deep
set_option linter.unusedVariables false

theorem SL.mem {α : Type} {w : World} {sz c : Nat} {R : World → Nat → Nat → α → Prop} {A : Option Addr} {xs : List α} (h : SL w sz R A c xs) {x : α} (hx : x ∈ xs) : ∃ b o, R w b o x := by
  obtain ⟨i, hi⟩ := List.getElem?_of_mem hx
  obtain ⟨b, o, _, hr⟩ := h.2.2 (List.length_pos_of_mem hx)
  exact ⟨b, _, hr i x hi⟩
theorem imms_of {w : World} {v : Value} {m : List FunD} (h : VMod w v m) : Imms m := fun f hf b hb x hx => by
  obtain ⟨_, _, _, hs⟩ := h
  obtain ⟨_, _, _, _, _, _, _, _, h1⟩ := hs.mem hf
  obtain ⟨_, _, _, ⟨_, _, _, h2⟩, _⟩ := h1.mem hb
  obtain ⟨_, _, h3⟩ := h2.mem hx
  exact h3.2.2.2.1.2

/-- Bytes that the call made. -/
def NewB (w w' : World) (b : Value) (ys : List UInt8) : Prop := ∃ g cap, b = .slice (some ⟨g, 0, none⟩) ys.length cap ∧ w'.ownsRow w.heap.size 5 1 (.slice (some ⟨g, 0, none⟩) ys.length cap) ys.length (ys.map bv)
def ToldB (w : World) (ys : List UInt8) (e : Ending) (w' : World) : Prop := ∃ b, e = .returned b ∧ NewB w w' b ys ∧ Below w.heap.size w w'
theorem own_slice {w : World} {base n : Nat} {e : TypeId} {v : Value} {xs : List Value} (h : w.ownsRow base e 1 v n xs) (hn : 0 < n) : ∃ g cap, v = .slice (some ⟨g, 0, none⟩) n cap := by
  obtain ⟨g, cap, e, _, _⟩ := h.form hn
  exact ⟨g, cap, e⟩

set_option maxRecDepth 100000 in
set_option maxHeartbeats 1000000 in
theorem write_any (m : List FunD) (v : Value) (w : World) (hv : VMod w v m) (hok : okMod m) :
    Calls Tryz.prog 23 #[v] w (ToldB w (modB m)) := by
  obtain ⟨A, c, rfl, hs⟩ := hv
  have hlm := mod_len hok
  have h32 := hok.1
  have kc : (convert 27 27 (.slice (some ⟨w.heap.size + 1, 0, none⟩) 4 4)).run Tryz.prog ((w.alloc (.cells #[.slice A m.length c] 24)).alloc (.cells #[.int .u8 102, .int .u8 116, .int .u8 108, .int .u8 49] 5)) =
      .ok (.slice (some ⟨w.heap.size + 1, 0, none⟩) 4 4) ((w.alloc (.cells #[.slice A m.length c] 24)).alloc (.cells #[.int .u8 102, .int .u8 116, .int .u8 108, .int .u8 49] 5 (4, 5))) := by
    have h := Lib.run_convert_bytes_const (P := Tryz.prog) (w.alloc (.cells #[.slice A m.length c] 24)) 27 5 #[.int .u8 102, .int .u8 116, .int .u8 108, .int .u8 49] 4 4 Tryz.underlying27 Tryz.underlying5
    rwa [show (w.alloc (.cells #[.slice A m.length c] 24)).heap.size = w.heap.size + 1 by simp] at h
  go_enter Tryz.func23, Tryz.ntmps23
  go_wp2_with fail
  obtain ⟨w1, hw1⟩ : ∃ w1, w1 = ((w.alloc (.cells #[.slice A m.length c] 24)).alloc (.cells #[.int .u8 102, .int .u8 116, .int .u8 108, .int .u8 49] 5 (4, 5))).alloc (.cells #[.slice (some ⟨w.heap.size + 1, 0, none⟩) 4 4] 101) := ⟨_, rfl⟩
  have e1 : (w.alloc (.cells #[.slice A m.length c] 24)).heap.size = w.heap.size + 1 := by simp
  have e2 : ((w.alloc (.cells #[.slice A m.length c] 24)).alloc (.cells #[.int .u8 102, .int .u8 116, .int .u8 108, .int .u8 49] 5 (4, 5))).heap.size = w.heap.size + 1 + 1 := by simp
  have hB1 : Below w.heap.size w w1 := by rw [hw1]; exact (((Below.refl _ _).alloc (Nat.le_refl _) _).alloc (by simp) _).alloc (by simp; omega) _
  have hP1 : w1.heap[w.heap.size + 1 + 1]? = some (.cells #[.slice (some ⟨w.heap.size + 1, 0, none⟩) 4 4] 101 (0, 0)) := by
    rw [hw1, ← e2]; exact heap_alloc_new _ _
  have hG1 : w1.heap[w.heap.size + 1]? = some (.cells markV 5 (4, 5)) := by
    rw [hw1, Below.heap_alloc _ _ _ (by simp), ← e1]; exact heap_alloc_new _ _
  have hW := withNumber_first w.heap.size m.length (w.heap.size + 1) w1 (by omega) hG1 hB1.size
  have hN := number_of w (w.heap.size + 1 + 1) w1 _ _ m.length (by omega) hB1 (by omega) hP1 (fun k hk => by have := Option.some.inj hk; simp at this; omega) (fun e => by have := Option.some.inj e; simp at this) hW
  rw [← hw1]
  clear hw1 e1 e2 kc hP1 hG1 hW
  refine (writeFuns_any w (w.heap.size + 1 + 1) w1 markB m A c hs hok.2 (by rw [intB_nat]; exact hN) (by show (modB m).length ≤ _; omega)).mono ?_
  rintro e w2 ⟨rfl, ⟨hB2, -, v2, hc2, ho2, hv2⟩, -⟩
  obtain ⟨g, cap, rfl⟩ := own_slice ho2 (by unfold markB; simp)
  have c2 := cell_of_block hc2 0
  clear hN hs
  have HO := Lib.hid ho2
  change Hid (w2.ownsRow w.heap.size 5 1 (.slice (some ⟨g, 0, none⟩) (modB m).length cap) (modB m).length ((modB m).map bv)) at HO
  change w2.cell? ⟨w.heap.size + 1 + 1, 0, none⟩ = #[.slice (some ⟨g, 0, none⟩) (modB m).length cap][0]? at c2
  clear ho2 hc2 hv2
  generalize modB m = ys at *
  go_wp2_with fail
  go_ret
  exact ⟨_, rfl, ⟨g, cap, rfl, HO.out⟩, hB2⟩

/-- What Encode tells. -/
def ToldE (m : List FunD) (w : World) (e : Ending) (w' : World) : Prop :=
  ∃ b v, e = .returned (.tuple #[b, v]) ∧ ErrAt w' v (modE m) ∧ ((modE m).1 ≠ 0 → b = .slice none 0 0) ∧ ((modE m).1 = 0 → NewB w w' b (modB m)) ∧ Below w.heap.size w w'
theorem NewB.base {w0 w w' : World} {b : Value} {ys : List UInt8} (h : NewB w w' b ys) (hb : w0.heap.size ≤ w.heap.size) : NewB w0 w' b ys := by
  obtain ⟨g, cap, e, h1⟩ := h
  exact ⟨g, cap, e, own_base h1 hb⟩

set_option maxRecDepth 100000 in
set_option maxHeartbeats 1000000 in
theorem encode_any (OI : OfIns) (m : List FunD) (v : Value) (w : World) (hv : VMod w v m) (hlim : ∀ f ∈ m, Lim f) :
    Calls Tryz.prog 8 #[v] w (ToldE m w) := by
  have hi := imms_of hv
  have hv0 := hv
  obtain ⟨A, c, rfl, hs⟩ := hv
  go_enter Tryz.func8, Tryz.ntmps8
  go_wp2_with fail
  obtain ⟨w1, hw1, hs1, hk1, hB1, hc1, -⟩ := named w #[.slice A m.length c] 24
  have q0 : w1.cell? ⟨w.heap.size, 0, none⟩ = some (.slice A m.length c) := hc1 0 _ rfl
  rw [← hw1]
  clear hw1 hc1
  refine (module_any OI m _ w1 (VMod.keep hk1 hv0) hlim).mono ?_
  rintro e w2 ⟨⟨ve, rfl, he⟩, hb2⟩
  have hB2 : Below w.heap.size w w2 := hB1.trans (hb2.mono hB1.size)
  have hk2 := kept_of_below hb2
  have q0 := hk2 _ _ q0
  by_cases hp : (modE m).1 = 0
  · obtain rfl := he.nil hp
    have HP := Lib.hid hp
    have HE := Lib.hid he
    clear hp he
    go_wp2_with fail
    refine (write_any m _ w2 (VMod.keep (hk1.trans hk2) hv0) (ok_of_proper HP.out hi)).mono ?_
    rintro e w3 ⟨b, rfl, hn, hb3⟩
    have hB3 : Below w.heap.size w w3 := hB2.trans (hb3.mono hB2.size)
    go_wp2_with fail
    go_ret2
    exact ⟨_, _, rfl, .inl ⟨HP.out, rfl⟩, fun h => absurd HP.out h, fun _ => hn.base hB2.size, hB3⟩
  · obtain ⟨t, x, rfl⟩ := he.iface hp
    have HP := Lib.hid hp
    have HE := Lib.hid he
    clear hp he
    go_wp2_with fail
    go_ret2
    exact ⟨_, _, rfl, HE.out, fun _ => rfl, fun h => absurd h HP.out, hB2⟩
end Go.Proofs.YtoidhjmhakajlaaGreatDoor
