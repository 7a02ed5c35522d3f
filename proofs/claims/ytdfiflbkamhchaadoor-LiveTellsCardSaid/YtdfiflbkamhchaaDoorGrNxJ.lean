/- ofFunc, Module, Func, Plain: what the document says, given that ofInstr does. -/
import Derived.Test.YtdfiflbkamhchaaDoorChkDJ
import Derived.StillTailTactics
import Derived.Test.YtdfiflbkamhchaaDoorLvVJ
import Derived.Test.YtdfiflbkamhchaaDoorLimJ
import Derived.Test.YtdfiflbkamhchaaDoorRefAJ
import Derived.Test.YtdfiflbkamhchaaDoorDmFrJ
import Derived.Test.YtdfiflbkamhchaaDoorLvGJ
import Derived.Deep.DeepCutAuto
import Derived.Deep.QuietTactic
import Derived.BigQuiet
namespace Go.Proofs.YtdfiflbkamhchaaDoor
open Go.ChangeShapes Go.WideShapes Go.RowKit Go.Deep
set_option linter.unusedVariables false

theorem typed_regs {f : FunD} (h : typedB f = true) : ∀ t ∈ f.regs, t = 1 ∨ t = 2 := fun t ht => by
  unfold typedB at h
  rw [Bool.and_eq_true, Bool.and_eq_true] at h
  exact of_decide_eq_true (List.all_eq_true.1 h.1.1 t ht)

set_option maxRecDepth 100000 in
set_option maxHeartbeats 4000000 in
theorem ofFunc_any (OI : OfIns) (m : List FunD) (f : FunD) (vm vf : Value) (w : World) (hm : VMod w vm m) (hf : VFun w vf f) (hlim : Lim f) :
    Calls Tryd.prog 41 #[vm, vf] w fun e w' => e = .returned (errV (funE m f)) ∧ Below w.heap.size w w' := by
  have hm0 := hm
  have hf0 := hf
  obtain ⟨Am, cm, rfl, hms⟩ := hm
  obtain ⟨Ar, cr, Ab, cb, rfl, hr, hbs, hp64, hr64⟩ := hf
  have hbl := hbs.len
  go_enter Tryd.func41, Tryd.ntmps41
  go_wp2_with fail
  obtain ⟨wa, hwa, hsa, hka, hba, hca, -⟩ := named w #[.slice Am m.length cm] 24
  obtain ⟨w1, hw1, hs1, hk1, hb1, hc1, -⟩ := named wa #[.int .i64 f.params, .int .i64 f.result, .slice Ar f.regs.length cr, .slice Ab f.blocks.length cb] 41
  rw [← hwa, ← hw1]
  rw [hsa] at hc1
  have hB1 : Below w.heap.size w w1 := hba.trans (hb1.mono (by omega))
  have q0 : w1.cell? ⟨w.heap.size, 0, none⟩ = some (.slice Am m.length cm) := hk1 _ _ (hca 0 _ rfl)
  have f0 : w1.cell? ⟨w.heap.size + 1, 0, none⟩ = some (.int .i64 f.params) := hc1 0 _ rfl
  have f1 : w1.cell? ⟨w.heap.size + 1, 1, none⟩ = some (.int .i64 f.result) := hc1 1 _ rfl
  have f2 : w1.cell? ⟨w.heap.size + 1, 2, none⟩ = some (.slice Ar f.regs.length cr) := hc1 2 _ rfl
  have f3 : w1.cell? ⟨w.heap.size + 1, 3, none⟩ = some (.slice Ab f.blocks.length cb) := hc1 3 _ rfl
  have hs1 : w.heap.size + 1 < w1.heap.size := by omega
  clear hwa hw1 hsa hca hc1 hka hk1 hba hb1
  have hk1 := kept_of_below hB1
  refine (isWithin_any f _ _ (VFun.keep hk1 hf0) hlim).mono ?_
  rintro e w2 ⟨rfl, hb2⟩
  have hB2 : Below w.heap.size w w2 := hB1.trans (hb2.mono hB1.size)
  have hk2 := kept_of_below hb2
  have q0 := hk2 _ _ q0
  have f0 := hk2 _ _ f0
  have f1 := hk2 _ _ f1
  have f2 := hk2 _ _ f2
  have f3 := hk2 _ _ f3
  have hs2 : w.heap.size + 1 < w2.heap.size := by have := hb2.size; omega
  cases hwi : withinB f
  · have HE : Hid (funE m f = 5) := Lib.hid (by unfold funE outerE; rw [hwi]; rfl)
    clear hwi
    go_wp2_with fail
    go_ret
    exact ⟨by rw [HE.out]; rfl, hB2⟩
  · have HWI := Lib.hid hwi
    have hn64 : f.blocks.length ≤ 64 := by unfold withinB at hwi; exact (of_decide_eq_true hwi).2.1
    clear hwi
    go_wp2_with fail
    refine (isTyped_any f _ _ (VFun.keep (hk1.trans hk2) hf0)).mono ?_
    rintro e w3 ⟨rfl, hb3⟩
    have hB3 : Below w.heap.size w w3 := hB2.trans (hb3.mono hB2.size)
    have hk3 := kept_of_below hb3
    have q0 := hk3 _ _ q0
    have f0 := hk3 _ _ f0
    have f1 := hk3 _ _ f1
    have f2 := hk3 _ _ f2
    have f3 := hk3 _ _ f3
    cases hty : typedB f
    · have HE : Hid (funE m f = 3) := Lib.hid (by unfold funE outerE; rw [HWI.out, hty]; rfl)
      clear hty
      go_wp2_with fail
      go_ret
      exact ⟨by rw [HE.out]; rfl, hB3⟩
    · have HTY := Lib.hid hty
      clear hty
      go_wp2_with fail
      refine (endsWell_any f _ _ (VFun.keep ((hk1.trans hk2).trans hk3) hf0)).mono ?_
      rintro e w4 ⟨rfl, hb4⟩
      have hB4 : Below w.heap.size w w4 := hB3.trans (hb4.mono hB3.size)
      have hk4 := kept_of_below hb4
      have q0 := hk4 _ _ q0
      have f0 := hk4 _ _ f0
      have f1 := hk4 _ _ f1
      have f2 := hk4 _ _ f2
      have f3 := hk4 _ _ f3
      cases hew : endsWellB f
      · have HE : Hid (funE m f = 6) := Lib.hid (by unfold funE outerE; rw [HWI.out, HTY.out, hew]; rfl)
        clear hew
        go_wp2_with fail
        go_ret
        exact ⟨by rw [HE.out]; rfl, hB4⟩
      · have HEW := Lib.hid hew
        clear hew
        go_wp2_with fail
        refine (phisMeet_any f _ _ (VFun.keep (((hk1.trans hk2).trans hk3).trans hk4) hf0) (by omega)).mono ?_
        rintro e w5 ⟨rfl, hb5⟩
        have hB5 : Below w.heap.size w w5 := hB4.trans (hb5.mono hB4.size)
        have hk5 := kept_of_below hb5
        have hK5 := (((hk1.trans hk2).trans hk3).trans hk4).trans hk5
        have q0 := hk5 _ _ q0
        have f0 := hk5 _ _ f0
        have f1 := hk5 _ _ f1
        have f2 := hk5 _ _ f2
        have f3 := hk5 _ _ f3
        have hs5 : w.heap.size + 1 < w5.heap.size := by have := hb3.size; have := hb4.size; have := hb5.size; omega
        cases hme : meetB f
        · have HE : Hid (funE m f = 6) := Lib.hid (by unfold funE outerE; rw [HWI.out, HTY.out, HEW.out, hme]; rfl)
          clear hme
          go_wp2_with fail
          go_ret
          exact ⟨by rw [HE.out]; rfl, hB5⟩
        · have HO : Hid (funE m f = firstE (f.blocks.map (blockE m f))) := Lib.hid (by
            have : outerE f = 0 := by unfold outerE; rw [HWI.out, HTY.out, HEW.out, hme]; rfl
            unfold funE; rw [if_pos this])
          clear hme
          go_wp2_with fail
          go_loopw [29] (fun i wr => ∃ k : Nat, k ≤ f.blocks.length ∧ i = .int .i64 k ∧ Below w5.heap.size w5 wr ∧ Hid (firstE ((f.blocks.take k).map (blockE m f)) = 0)) (fun i _ => f.blocks.length - (intOf i).toNat)
          case atStart => exact ⟨0, Nat.zero_le _, rfl, Below.refl _ _, Lib.hid rfl⟩
          case round =>
            obtain ⟨k, hk, rfl, hbel, hi⟩ := hrel
            have hkw : Kept w5 wr := kept_of_below hbel
            have hB : Below w.heap.size w wr := hB5.trans (hbel.mono hB5.size)
            have hso := hbel.size
            have a0 := hkw _ _ q0
            have e0 := hkw _ _ f0
            have e1 := hkw _ _ f1
            have e2 := hkw _ _ f2
            have e3 := hkw _ _ f3
            have n0 : w.heap.size < wr.heap.size := by omega
            have n1 : w.heap.size + 1 < wr.heap.size := by omega
            by_cases hlt : k < f.blocks.length
            · obtain ⟨bb, oo, b, rfl, hx, ⟨Ap, cp, h0, z0⟩, ⟨Ai, ci, h1, z1⟩, ⟨h2, z2⟩, ⟨h3, z3⟩, ⟨At, ct, h4, z4⟩⟩ := (SBlks.keep (hK5.trans hkw) hbs).at_ hlt
              go_wp2_with fail
              obtain ⟨wn, hwn, hsn, hkn, hbn, -, -⟩ := named wr #[.slice Ap b.phis.length cp, .slice Ai b.ins.length ci, .int .i64 b.term.kind, .int .i64 b.term.arg, .slice At b.term.to.length ct] 52
              have hbn' : Below w5.heap.size w5 wn := hbel.trans (hbn.mono (by omega))
              have hBn : Below w.heap.size w wn := hB.trans (hbn.mono hB.size)
              rw [← hwn]
              clear hwn hsn
              have hK := (hK5.trans hkw).trans hkn
              refine (ofBlock_any OI m f b _ _ _ _ (VMod.keep hK hm0) (VFun.keep hK hf0) ⟨Ap, cp, Ai, ci, At, ct, rfl, SPhis.keep hkn z0, SInss.keep hkn z1, SInts.keep hkn z4, z2, z3⟩ (typed_regs HTY.out)).mono ?_
              rintro e w7 ⟨rfl, hb7⟩
              have hb7' : Below w5.heap.size w5 w7 := hbn'.trans (hb7.mono hbn'.size)
              have hB7 : Below w.heap.size w w7 := hBn.trans (hb7.mono hBn.size)
              by_cases hc : blockE m f b = 0
              · have HC := Lib.hid hc
                rw [hc, errV_zero]
                clear hc
                go_wp2_with fail
                go_roundw
                case rel => exact ⟨k + 1, by omega, by go_num, hb7', Lib.hid (by rw [first_map_at (blockE m f) hx.out hi.out]; exact HC.out)⟩
                case measure => simp [intOf]; omega
              · have HC : Hid (funE m f = blockE m f b) := Lib.hid (by rw [HO.out]; exact first_map_stop (blockE m f) hx.out hi.out hc)
                rw [errV_pos hc]
                have HC2 := Lib.hid hc
                clear hc
                go_wp2_with fail
                go_ret
                exact ⟨by rw [HC.out, errV_pos HC2.out]; rfl, hB7⟩
            · have HE : Hid (funE m f = 0) := Lib.hid (by rw [HO.out]; exact first_map_done (blockE m f) hi.out (Nat.le_of_not_lt hlt))
              go_wp2_with fail
              go_ret
              exact ⟨by rw [HE.out]; rfl, hB⟩

/-- An error with its place, as the code answers it. -/
def ErrAt (w : World) (v : Value) (p : Int × Int) : Prop :=
  (p.1 = 0 ∧ v = .nilIface) ∨ (p.1 ≠ 0 ∧ p.2 = -1 ∧ v = .iface 38 (.int .i64 p.1)) ∨
  (p.1 ≠ 0 ∧ 0 ≤ p.2 ∧ ∃ g, v = .iface 65 (.pointer (some ⟨g, 0, none⟩)) ∧ w.cell? ⟨g, 0, none⟩ = some (.int .i64 p.2) ∧ w.cell? ⟨g, 1, none⟩ = some (.iface 38 (.int .i64 p.1)))
theorem ErrAt.keep {w w' : World} (h : Kept w w') {v : Value} {p : Int × Int} (hv : ErrAt w v p) : ErrAt w' v p := by
  rcases hv with h1 | h1 | ⟨h1, h2, g, h3, h4, h5⟩
  · exact .inl h1
  · exact .inr (.inl h1)
  · exact .inr (.inr ⟨h1, h2, g, h3, h _ _ h4, h _ _ h5⟩)
theorem ErrAt.nil {w : World} {v : Value} {p : Int × Int} (hv : ErrAt w v p) (hp : p.1 = 0) : v = .nilIface := by
  rcases hv with h1 | h1 | h1
  · exact h1.2
  · exact absurd hp h1.1
  · exact absurd hp h1.1
theorem ErrAt.iface {w : World} {v : Value} {p : Int × Int} (hv : ErrAt w v p) (hp : p.1 ≠ 0) : ∃ t x, v = .iface t x := by
  rcases hv with h1 | h1 | ⟨_, _, g, h3, _⟩
  · exact absurd h1.1 hp
  · exact ⟨_, _, h1.2.2⟩
  · exact ⟨_, _, h3⟩

set_option maxRecDepth 100000 in
set_option maxHeartbeats 4000000 in
theorem module_any (OI : OfIns) (m : List FunD) (vm : Value) (w : World) (hm : VMod w vm m) (hlim : ∀ f ∈ m, Lim f) :
    Calls Tryd.prog 23 #[vm] w fun e w' => (∃ v, e = .returned v ∧ ErrAt w' v (modE m)) ∧ Below w.heap.size w w' := by
  have hm0 := hm
  obtain ⟨Am, cm, rfl, hms⟩ := hm
  have hml := hms.len
  by_cases h32 : 32 < m.length
  · have HE : Hid (modE m = (5, -1)) := Lib.hid (if_pos h32)
    go_enter Tryd.func23, Tryd.ntmps23
    go_wp2_with fail
    go_ret
    exact ⟨⟨_, rfl, by rw [HE.out]; exact .inr (.inl ⟨by decide, rfl, rfl⟩)⟩, (Below.refl _ _).alloc (Nat.le_refl _) _⟩
  · have HM : Hid (modE m = modK m m 0) := Lib.hid (if_neg h32)
    go_enter Tryd.func23, Tryd.ntmps23
    go_wp2_with fail
    obtain ⟨w1, hw1, hs1, hk1, hB1, hc1, -⟩ := named w #[.slice Am m.length cm] 24
    rw [← hw1]
    have q0 : w1.cell? ⟨w.heap.size, 0, none⟩ = some (.slice Am m.length cm) := hc1 0 _ rfl
    have hs1 : w.heap.size < w1.heap.size := by omega
    clear hw1 hc1
    go_loopw [14] (fun i wr => ∃ k : Nat, k ≤ m.length ∧ i = .int .i64 k ∧ Below w1.heap.size w1 wr ∧ Hid ((modK m (m.take k) 0).1 = 0)) (fun i _ => m.length - (intOf i).toNat)
    case atStart => exact ⟨0, Nat.zero_le _, rfl, Below.refl _ _, Lib.hid rfl⟩
    case round =>
      obtain ⟨k, hk, rfl, hbel, hi⟩ := hrel
      have hkw : Kept w1 wr := kept_of_below hbel
      have hB : Below w.heap.size w wr := hB1.trans (hbel.mono hB1.size)
      have hso := hbel.size
      have a0 := hkw _ _ q0
      have n0 : w.heap.size < wr.heap.size := by omega
      by_cases hlt : k < m.length
      · obtain ⟨bb, oo, f, rfl, hx, ⟨h0, z0⟩, ⟨h1, z1⟩, ⟨Ar, cr, h2, z2⟩, Ab, cb, h3, z3⟩ := (SFuns.keep (hk1.trans hkw) hms).at_ hlt
        go_wp2_with fail
        obtain ⟨wn, hwn, hsn, hkn, hbn, -, -⟩ := named wr #[.int .i64 f.params, .int .i64 f.result, .slice Ar f.regs.length cr, .slice Ab f.blocks.length cb] 41
        have hbn' : Below w1.heap.size w1 wn := hbel.trans (hbn.mono (by omega))
        have hBn : Below w.heap.size w wn := hB.trans (hbn.mono hB.size)
        rw [← hwn]
        clear hwn hsn
        have hK := (hk1.trans hkw).trans hkn
        refine (ofFunc_any OI m f _ _ _ (VMod.keep hK hm0) ⟨Ar, cr, Ab, cb, rfl, SInts.keep hkn z2, SBlks.keep hkn z3, z0, z1⟩ (hlim f (List.mem_of_getElem? hx.out))).mono ?_
        rintro e w7 ⟨rfl, hb7⟩
        have hb7' : Below w1.heap.size w1 w7 := hbn'.trans (hb7.mono hbn'.size)
        have hB7 : Below w.heap.size w w7 := hBn.trans (hb7.mono hBn.size)
        by_cases hc : funE m f = 0
        · have HC := Lib.hid hc
          rw [hc, errV_zero]
          clear hc
          go_wp2_with fail
          go_roundw
          case rel => exact ⟨k + 1, by omega, by go_num, hb7', Lib.hid (by rw [modK_step hx.out hi.out, if_pos HC.out])⟩
          case measure => simp [intOf]; omega
        · have HC : Hid (modE m = (funE m f, (k : Int))) := Lib.hid (by rw [HM.out]; exact modK_stop hx.out hi.out hc)
          rw [errV_pos hc]
          have HC2 := Lib.hid hc
          clear hc
          go_wp2_with fail
          go_ret
          exact ⟨⟨_, rfl, by rw [HC.out]; exact .inr (.inr ⟨HC2.out, by show (0 : Int) ≤ k; omega, w7.heap.size, rfl, by simp, by simp⟩)⟩, hB7.alloc hB7.size _⟩
      · have HE : Hid (modE m = (0, -1)) := Lib.hid (by
          have := hi.out
          rw [List.take_of_length_le (Nat.le_of_not_lt hlt)] at this
          rw [HM.out]; exact modK_ok this)
        go_wp2_with fail
        go_ret
        exact ⟨⟨_, rfl, by rw [HE.out]; exact .inl ⟨rfl, rfl⟩⟩, hB⟩
end Go.Proofs.YtdfiflbkamhchaaDoor

/- The program's Live. -/
namespace Go.Proofs.YtdfiflbkamhchaaDoor
open Go.ChangeShapes Go.WideShapes Go.RowKit Go.Deep
set_option linter.unusedVariables false

theorem ins_dst {m : List FunD} {f : FunD} {x : InsD} (h : insE m f x = 0) : (∀ a ∈ x.args, InR f.regs.length a) ∧ (x.dst = -1 ∨ InR f.regs.length x.dst) := by
  unfold insE at h
  by_cases h17 : x.op = 17
  · rw [if_pos h17] at h
    obtain ⟨h1, h⟩ := ite_zero (by decide) h
    obtain ⟨h2, h⟩ := ite_zero (by decide) h
    obtain ⟨g1, g2⟩ := rest_in h
    exact ⟨g1, by rcases g2 with g2 | g2; exact .inl g2.2; exact .inr g2.2⟩
  · rw [if_neg h17] at h
    split at h
    · exact absurd h (by decide)
    · rename_i ts d hs
      obtain ⟨hl, h⟩ := ite_zero (by decide) h
      obtain ⟨g1, g2⟩ := rest_in h
      exact ⟨g1, by rcases g2 with g2 | g2; exact .inl g2.2; exact .inr g2.2⟩
theorem term_arg {f : FunD} {t : TermD} (h : termE f t = 0) : t.arg = -1 ∨ InR f.regs.length t.arg := by
  unfold termE at h
  by_cases h0 : wantOf f t = 0
  · rw [if_pos h0] at h; exact .inl (ite_zero (by decide) h).1
  · rw [if_neg h0] at h; exact .inr (ite_zero (by decide) h).1
theorem lv_ok {m : List FunD} (hp : Proper m) (hs : SmallM m) {f : FunD} (hf : f ∈ m) : LvOk f := by
  have hG := (proper_ok hp).2 f hf
  have hsf := hs.2 f hf
  have h0 : funE m f = 0 := (proper_iff.1 hp).2 f hf
  obtain ⟨-, hb⟩ := funE_zero.1 h0
  refine ⟨hG.nb.2, hG.nr, fun i k hk => ⟨fun x hx => ?_, ?_, ?_⟩, fun i k hk => ⟨?_, fun p hp => hG.phis i k hk p hp⟩⟩
  · have h1 := ins_dst ((blockE_zero.1 (hb k (List.mem_of_getElem? hk))).2.1 x hx)
    exact ⟨h1.1, h1.2, (hsf.2.2.2 k (List.mem_of_getElem? hk)).2.2.2.1 x hx⟩
  · exact (hsf.2.2.2 k (List.mem_of_getElem? hk)).1
  · exact term_arg (blockE_zero.1 (hb k (List.mem_of_getElem? hk))).2.2
  · exact (hsf.2.2.2 k (List.mem_of_getElem? hk)).2.1

/-- Whether a module is proper, and has such a function. -/
def ToldWh (m : List FunD) (n : Int) (w : World) (e : Ending) (w' : World) : Prop :=
  (∃ v, e = .returned v ∧ ((¬ Proper m ∧ ErrAt w' v (modE m)) ∨ (Proper m ∧ ¬ (0 ≤ n ∧ n < m.length) ∧ v = .iface 38 (.int .i64 1)) ∨ (Proper m ∧ (0 ≤ n ∧ n < m.length) ∧ v = .nilIface))) ∧ Below w.heap.size w w'
theorem err_form {w : World} {v : Value} {p : Int × Int} (h : ErrAt w v p) (hp : p.1 ≠ 0) : ∃ t x, v = .iface t x := by
  rcases h with h | h | h
  · exact absurd h.1 hp
  · exact ⟨_, _, h.2.2⟩
  · obtain ⟨_, _, g, h3, _⟩ := h; exact ⟨_, _, h3⟩
set_option maxRecDepth 100000 in
set_option maxHeartbeats 8000000 in
theorem whether_any (m : List FunD) (n : Int) (v : Value) (w : World) (hv : VMod w v m) (hsm : SmallM m) : Calls Tryd.prog 12 #[v, .int .i64 n] w (ToldWh m n w) := by
  have hv0 := hv
  obtain ⟨Am, cm, rfl, hm⟩ := hv
  have hml := hm.len
  have HSM := Lib.hid hsm
  clear hm hsm
  go_enter Tryd.func12, Tryd.ntmps12
  go_upto_region 1 with fail
  obtain ⟨w1, hw1, hs1, hk1, hbel1, hc1, -⟩ := named w #[.slice Am m.length cm] 24
  rw [← hw1]
  have c0 : w1.cell? ⟨w.heap.size, 0, none⟩ = some (.slice Am m.length cm) := hc1 0 _ rfl
  have HB1 := Lib.hid hbel1
  have HS1 : Hid (w1.heap.size = w.heap.size + 1) := Lib.hid hs1
  have HV1 := Lib.hid (VMod.keep hk1 hv0)
  clear hw1 hs1 hk1 hc1 hbel1 hv0
  go_wp2_with fail
  refine (module_any ofIns m _ _ HV1.out (lim_of_small HSM.out)).mono ?_
  rintro e w3 ⟨⟨ve, rfl, hErr⟩, hb3⟩
  have q3 := kept_of_below hb3 _ _ c0
  have HB3 : Hid (Below w.heap.size w w3) := Lib.hid (HB1.out.trans (hb3.mono (by have := HS1.out; omega)))
  have HERR := Lib.hid hErr
  clear c0 hb3 hErr
  by_cases hp : Proper m
  · have hve := HERR.out.nil hp
    subst hve
    have HPR := Lib.hid hp
    clear hp
    by_cases h1 : n < 0
    · go_wp2_with fail
      go_ret
      exact ⟨⟨_, rfl, .inr (.inl ⟨HPR.out, by omega, rfl⟩)⟩, HB3.out⟩
    · by_cases h2 : n < m.length
      · have h3 : decide (n < 0) = false := decide_eq_false h1
        have h4 : ¬ (m.length : Int) ≤ n := by omega
        go_wp2_with fail
        go_ret
        exact ⟨⟨_, rfl, .inr (.inr ⟨HPR.out, by omega, rfl⟩)⟩, HB3.out⟩
      · have h3 : decide (n < 0) = false := decide_eq_false h1
        have h4 : (m.length : Int) ≤ n := by omega
        go_wp2_with fail
        go_ret
        exact ⟨⟨_, rfl, .inr (.inl ⟨HPR.out, by omega, rfl⟩)⟩, HB3.out⟩
  · obtain ⟨te, xe, hve⟩ := err_form HERR.out hp
    subst hve
    have HPR := Lib.hid hp
    clear hp
    go_wp2_with fail
    go_ret
    exact ⟨⟨_, rfl, .inl ⟨HPR.out, HERR.out⟩⟩, HB3.out⟩
/-- What is wanted at beginnings and ends, or what is amiss. -/
def ToldLive (m : List FunD) (n : Int) (w : World) (e : Ending) (w' : World) : Prop :=
  (∃ va vb ve, e = .returned (.tuple #[va, vb, ve]) ∧
    ((va = .slice none 0 0 ∧ vb = .slice none 0 0 ∧ ((¬ Proper m ∧ ErrAt w' ve (modE m)) ∨ (Proper m ∧ ¬ (0 ≤ n ∧ n < m.length) ∧ ve = .iface 38 (.int .i64 1)))) ∨
     (Proper m ∧ ve = .nilIface ∧ ∃ (k : Nat) (f : FunD) (G3 G4 : Nat) (A E : Nat → Nat → Bool), n = (k : Int) ∧ m[k]? = some f ∧ va = .slice (some ⟨G3, 0, none⟩) f.blocks.length f.blocks.length ∧ vb = .slice (some ⟨G4, 0, none⟩) f.blocks.length f.blocks.length ∧ w.heap.size ≤ G3 ∧ G3 + f.blocks.length < G4 ∧
       BG1 w' G3 f.blocks.length f.regs.length A ∧ BG1 w' G4 f.blocks.length f.regs.length E ∧ (∀ b r, A b r = true ↔ Want f.blocks false b r) ∧ (∀ b r, E b r = true ↔ Want f.blocks true b r) ∧ LvOk f))) ∧ Below w.heap.size w w'
set_option maxRecDepth 100000 in
set_option maxHeartbeats 8000000 in
theorem live_any (m : List FunD) (n : Int) (v : Value) (w : World) (hv : VMod w v m) (hsm : SmallM m) : Calls Tryd.prog 6 #[v, .int .i64 n] w (ToldLive m n w) := by
  have hv0 := hv
  obtain ⟨Am, cm, rfl, hm⟩ := hv
  have HSM := Lib.hid hsm
  have HMM := Lib.hid hm
  clear hm hsm
  go_enter Tryd.func6, Tryd.ntmps6
  go_upto_region 1 with fail
  obtain ⟨w1, hw1, hs1, hk1, hbel1, hc1, -⟩ := named w #[.slice Am m.length cm] 24
  rw [← hw1]
  have c0 : w1.cell? ⟨w.heap.size, 0, none⟩ = some (.slice Am m.length cm) := hc1 0 _ rfl
  have HB1 := Lib.hid hbel1
  have HS1 : Hid (w1.heap.size = w.heap.size + 1) := Lib.hid hs1
  have HV1 := Lib.hid (VMod.keep hk1 hv0)
  clear hw1 hs1 hk1 hc1 hbel1 hv0
  go_wp2_with fail
  refine (whether_any m n _ _ HV1.out HSM.out).mono ?_
  rintro e w3 ⟨⟨ve, rfl, hErr⟩, hb3⟩
  have q3 := kept_of_below hb3 _ _ c0
  have HB3 : Hid (Below w.heap.size w w3) := Lib.hid (HB1.out.trans (hb3.mono (by have := HS1.out; omega)))
  have HERR := Lib.hid hErr
  clear c0 hb3 hErr
  rcases HERR.out with ⟨hp, he⟩ | ⟨hp, hn, rfl⟩ | ⟨hp, hn, rfl⟩
  · obtain ⟨te, xe, hve⟩ := err_form he hp
    subst hve
    have HPR := Lib.hid hp
    have HE := Lib.hid he
    clear hp he
    go_wp2_with fail
    (try simp only [Exit.inBlock, Exit.then])
    refine bodyPost_ret (results_tmp3 rfl _ _ _) rfl ?_
    exact ⟨⟨_, _, _, rfl, .inl ⟨rfl, rfl, .inl ⟨HPR.out, HE.out⟩⟩⟩, HB3.out⟩
  · have HPR := Lib.hid (And.intro hp hn)
    clear hp hn
    go_wp2_with fail
    (try simp only [Exit.inBlock, Exit.then])
    refine bodyPost_ret (results_tmp3 rfl _ _ _) rfl ?_
    exact ⟨⟨_, _, _, rfl, .inl ⟨rfl, rfl, .inr ⟨HPR.out.1, HPR.out.2, rfl⟩⟩⟩, HB3.out⟩
  · obtain ⟨k, rfl⟩ : ∃ k : Nat, n = (k : Int) := ⟨n.toNat, by omega⟩
    have hkl : k < m.length := by omega
    have hk3 : Kept w w3 := kept_of_below HB3.out
    obtain ⟨b, o, f, rfl, hF, ⟨c0, z0⟩, ⟨c1, z1⟩, ⟨Ar, cr, c2, z2⟩, ⟨Ab, cb, c3, z3⟩⟩ := (SFuns.keep hk3 HMM.out).at_ hkl
    have hok := lv_ok hp HSM.out (List.mem_of_getElem? hF.out)
    have hvf : VFun w3 (.agg #[.int .i64 f.params, .int .i64 f.result, .slice Ar f.regs.length cr, .slice Ab f.blocks.length cb]) f := ⟨Ar, cr, Ab, cb, rfl, z2, z3, z0, z1⟩
    have HWT := Lib.hid (wantsOf_any f _ w3 hvf hok)
    have HPR := Lib.hid hp
    have HOK := Lib.hid hok
    have HFF := Lib.hid hF
    have hk0 : (0 : Int) ≤ k := by omega
    have hk1 : (k : Int) < m.length := by omega
    clear hp hn hk3 hok hvf hF z0 z1 z2 z3
    go_wp2_with fail
    refine HWT.out.mono ?_
    rintro e w4 ⟨Wa, H, Ga, K, vo, s, rfl, hH, hM, hgo, hto, hop, hb4⟩
    obtain ⟨P, hP⟩ : ∃ P, H + 4 * (f.blocks.length + 1) = P := ⟨_, rfl⟩
    obtain ⟨-, -, -, p3, p4, -⟩ := hM.cells hP
    have HM := Lib.hid hM
    have HWA := Lib.hid (want_A hgo hto hop)
    have HWE := Lib.hid (want_E hgo hto hop)
    have HB4 : Hid (Below w.heap.size w w4) := Lib.hid (HB3.out.trans (hb4.mono HB3.out.size))
    have HHZ : Hid (w.heap.size ≤ H) := Lib.hid (by have := HB3.out.size; omega)
    rw [hP]
    clear hM hgo hto hop hb4 hP hH
    go_wp2_with fail
    go_quiet (fail)
    go_wp2_with fail
    (try simp only [Exit.inBlock, Exit.then])
    refine bodyPost_ret (results_tmp3 rfl _ _ _) rfl ?_
    have hbd := below_drewN (Below.refl w4.heap.size w4) nq
    refine ⟨⟨_, _, _, rfl, .inr ⟨HPR.out, rfl, k, f, _, _, s.A, s.E, rfl, HFF.out, rfl, rfl, by have := HHZ.out; omega, by omega, (HM.out.below hbd).g3, (HM.out.below hbd).g4, HWA.out, HWE.out, HOK.out⟩⟩, below_drewN HB4.out nq⟩
end Go.Proofs.YtdfiflbkamhchaaDoor

/- The program's Next: a row of rows, row i what block i leads to. -/
namespace Go.Proofs.YtdfiflbkamhchaaDoor
open Go.ChangeShapes Go.WideShapes Go.RowKit Go.Deep
set_option linter.unusedVariables false

/-! ### A row of rows of the call's own -/
structure Gri (w : World) (G K n : Nat) (V : Nat → Value) (L : Nat → List Int) : Prop where
  row : w.rowIs G 32 n V
  own : ∀ i, i < n → w.ownsRow K 3 1 (V i) (L i).length ((L i).map (Value.int .i64))
  apart : ∀ i j, i < n → j < n → i ≠ j → (V i).ownBlock = none ∨ (V i).ownBlock ≠ (V j).ownBlock
  lt : G < K

theorem Gri.congr {w : World} {G K n : Nat} {V : Nat → Value} {L L' : Nat → List Int} (h : Gri w G K n V L) (e : ∀ i, i < n → L i = L' i) : Gri w G K n V L' :=
  ⟨h.row, fun i hi => by rw [← e i hi]; exact h.own i hi, h.apart, h.lt⟩
theorem Gri.alloc {w : World} {G K n : Nat} {V : Nat → Value} {L : Nat → List Int} (h : Gri w G K n V L) (o : Obj) : Gri (w.alloc o) G K n V L :=
  ⟨h.row.alloc o, fun i hi => (h.own i hi).alloc o, h.apart, h.lt⟩
theorem Gri.drewN {w : World} {G K n : Nat} {V : Nat → Value} {L : Nat → List Int} (h : Gri w G K n V L) (k : Nat) : Gri (w.drewN k) G K n V L := ⟨h.row, h.own, h.apart, h.lt⟩
theorem Gri.of_blocks {w w' : World} {G K n : Nat} {V : Nat → Value} {L : Nat → List Int} (h : Gri w G K n V L) (hG : w'.heap[G]? = w.heap[G]?) (hK : ∀ g, K ≤ g → g < w.heap.size → w'.heap[g]? = w.heap[g]?) : Gri w' G K n V L :=
  ⟨h.row.of_block hG, fun i hi => ownsRow_block (h.own i hi) fun g hg => hK g ((h.own i hi).lt g hg).1 ((h.own i hi).lt g hg).2, h.apart, h.lt⟩
theorem Gri.below {w w' : World} {G K n : Nat} {V : Nat → Value} {L : Nat → List Int} (h : Gri w G K n V L) (hb : Below w.heap.size w w') : Gri w' G K n V L :=
  h.of_blocks (hb.block _ h.row.lt) fun g _ hg => hb.block g hg
theorem Gri.setOther {w : World} {G K n : Nat} {V : Nat → Value} {L : Nat → List Int} (h : Gri w G K n V L) {a : Addr} (h1 : G ≠ a.block) (h2 : a.block < K) (v : Value) : Gri (w.setCell a v) G K n V L :=
  h.of_blocks (Below.heap_setCell _ _ _ _ h1) fun g hg _ => Below.heap_setCell _ _ _ _ (by omega)
theorem Gri.made (w : World) (G K n : Nat) (hG : G = w.heap.size) (hK : G < K) : Gri (w.alloc (.cells (madeCells #[.slice none 0 0] n) 32)) G K n (fun _ => .slice none 0 0) (fun _ => []) := by
  subst hG
  exact ⟨World.rowIs_made w _ n _, fun i _ => World.ownsRow_nil _ _ _ _, fun i j _ _ _ => .inl rfl, hK⟩
theorem Gri.push {w w3 : World} {G K n : Nat} {V : Nat → Value} {L : Nat → List Int} (h : Gri w G K n V L) {t : Nat} (ht : t < n) {g cap : Nat} {x : Int}
    (hown : w3.ownsRow K 3 1 (.slice (some ⟨g, 0, none⟩) ((L t).length + 1) cap) ((L t).length + 1) ((L t).map (Value.int .i64) ++ [.int .i64 x]))
    (hgrow : w.grownBy w3 (V t).ownBlock) (hloc : (V t).ownBlock = some g ∨ g = w.heap.size) :
    Gri (w3.setCell ⟨G, t, none⟩ (.slice (some ⟨g, 0, none⟩) ((L t).length + 1) cap)) G K n (fun j => if j = t then .slice (some ⟨g, 0, none⟩) ((L t).length + 1) cap else V j) (fun j => if j = t then L t ++ [x] else L j) := by
  have hGK := h.lt
  have hblk : w3.heap[G]? = w.heap[G]? := hgrow.block G h.row.lt (fun e => by have := ((h.own t ht).lt G e.symm).1; omega)
  have hrow3 : w3.rowIs G 32 n V := h.row.of_block hblk
  refine ⟨hrow3.set t _, fun j hj => ?_, fun i j hi hj hij => ?_, hGK⟩
  · by_cases e : j = t
    · subst e
      simp only [if_true]
      have := ownsRow_setCell_below hown (a := ⟨G, j, none⟩) (by show G < K; omega) (.slice (some ⟨g, 0, none⟩) ((L j).length + 1) cap)
      simpa using this
    · simp only [if_neg e]
      exact ownsRow_setCell_below ((h.own j hj).kept hgrow (h.apart j t hj ht e)) (a := ⟨G, t, none⟩) (by show G < K; omega) _
  · have key : ∀ j, j < n → j ≠ t → (V j).ownBlock = none ∨ (V j).ownBlock ≠ some g := fun j hj hjt => by
      rcases hloc with e | e
      · rw [← e]; exact h.apart j t hj ht hjt
      · cases hb : (V j).ownBlock with
        | none => exact .inl rfl
        | some b => right; intro e2; have := ((h.own j hj).lt b hb).2; simp at e2; omega
    by_cases ei : i = t
    · subst ei
      simp only [if_true, if_neg (Ne.symm hij)]
      right
      rcases key j hj (Ne.symm hij) with e | e
      · rw [e]; simp [Value.ownBlock]
      · intro e2; exact e (e2.symm.trans rfl)
    · by_cases ej : j = t
      · subst ej
        simp only [if_true, if_neg ei]
        exact key i hi ei
      · simp only [if_neg ei, if_neg ej]
        exact h.apart i j hi hj hij
/-- Read as a list of lists. -/
theorem Gri.reads {w : World} {G K n : Nat} {V : Nat → Value} {L : Nat → List Int} (h : Gri w G K n V L) (hn : n ≤ 1000000) (h64 : ∀ i, i < n → ∀ x ∈ L i, I64 x) : SL w 1 RRow (some ⟨G, 0, none⟩) n ((List.range n).map L) := by
  refine ⟨by simp, ⟨by unfold maxLen; omega, fun e => by cases e⟩, fun _ => ⟨G, 0, rfl, fun i x hi => ?_⟩⟩
  have hl : i < n := by have := (List.getElem?_eq_some_iff.1 hi).1; simpa using this
  rw [List.getElem?_map] at hi
  obtain ⟨q, hq, rfl⟩ := Option.map_eq_some_iff.1 hi
  obtain ⟨_, rfl⟩ := List.getElem?_eq_some_iff.1 hq
  rw [Nat.mul_one, Nat.zero_add, List.getElem_range]
  obtain ⟨A, c, e, hs⟩ := vs_of_own (h.own i hl) (h64 i hl)
  exact ⟨A, c, (h.row.cell hl).trans (congrArg some e), hs⟩

/-! ### What the loops come to -/
def NX (bs : List BlkD) (k : Nat) (t : List Int) (i : Nat) : List Int := if i < k then zs (nxF bs i) else if i = k then zs (nextN bs.length t) else []
def LastOk (la : Nat → Int) (n k : Nat) (acc : List Nat) : Prop := ∀ t, t < n → 0 ≤ la t ∧ la t ≤ k + 1 ∧ (la t = k + 1 ↔ t ∈ acc)
theorem NX_zero (bs : List BlkD) (i : Nat) : NX bs 0 [] i = [] := by unfold NX nextN; simp [zs]
theorem NX_all {bs : List BlkD} {k : Nat} {b : BlkD} (h : bs[k]? = some b) (i : Nat) : NX bs k b.term.to i = NX bs (k + 1) [] i := by
  unfold NX
  by_cases h1 : i < k
  · rw [if_pos h1, if_pos (by omega)]
  · rw [if_neg h1]
    by_cases h2 : i = k
    · subst h2; rw [if_pos rfl, if_pos (by omega), nxF_at h]
    · rw [if_neg h2, if_neg (by omega)]
      by_cases h3 : i = k + 1
      · rw [if_pos h3]; rfl
      · rw [if_neg h3]
theorem NX_end (bs : List BlkD) (i : Nat) (h : i < bs.length) : NX bs bs.length [] i = zs (nxF bs i) := by unfold NX; rw [if_pos h]
theorem NX_here (bs : List BlkD) (k : Nat) (t : List Int) : NX bs k t k = zs (nextN bs.length t) := by unfold NX; rw [if_neg (by omega), if_pos rfl]
theorem nextN_step {n : Nat} {t : List Int} {j : Nat} {x : Int} (hx : t[j]? = some x) : nextN n (t.take (j + 1)) = addT n (nextN n (t.take j)) x := by
  rw [take_succ_of hx, nextN_snoc]
theorem addT_old {n : Nat} {acc : List Nat} {x : Int} (h : ¬ (0 ≤ x ∧ x < n ∧ x.toNat ∉ acc)) : addT n acc x = acc := by unfold addT; rw [if_neg h]
theorem addT_new {n : Nat} {acc : List Nat} {q : Nat} (h : q < n) (h2 : q ∉ acc) : addT n acc (q : Int) = acc ++ [q] := by unfold addT; rw [if_pos ⟨by omega, by omega, by simpa using h2⟩]; simp
theorem NX_old {bs : List BlkD} {k : Nat} {t : List Int} {j : Nat} {x : Int} (hx : t[j]? = some x) (h : ¬ (0 ≤ x ∧ x < bs.length ∧ x.toNat ∉ nextN bs.length (t.take j))) (i : Nat) : NX bs k (t.take j) i = NX bs k (t.take (j + 1)) i := by
  unfold NX; rw [nextN_step hx, addT_old h]
theorem NX_new {bs : List BlkD} {k : Nat} {t : List Int} {j q : Nat} (hx : t[j]? = some (q : Int)) (hq : q < bs.length) (h : q ∉ nextN bs.length (t.take j)) (i : Nat) :
    (if i = k then NX bs k (t.take j) k ++ [(q : Int)] else NX bs k (t.take j) i) = NX bs k (t.take (j + 1)) i := by
  by_cases e : i = k
  · subst e; rw [if_pos rfl, NX_here, NX_here, nextN_step hx, addT_new hq h, zs_snoc]
  · rw [if_neg e]; unfold NX; rw [if_neg e, if_neg e]
theorem LastOk.old {la : Nat → Int} {n k j : Nat} {t : List Int} {x : Int} (hl : LastOk la n k (nextN n (t.take j))) (hx : t[j]? = some x) (h : ¬ (0 ≤ x ∧ x < n ∧ x.toNat ∉ nextN n (t.take j))) : LastOk la n k (nextN n (t.take (j + 1))) := by
  rw [nextN_step hx, addT_old h]; exact hl
theorem LastOk.new {la : Nat → Int} {n k j q : Nat} {t : List Int} (hl : LastOk la n k (nextN n (t.take j))) (hx : t[j]? = some (q : Int)) (hq : q < n) (h : q ∉ nextN n (t.take j)) : LastOk (fun i => if i = q then (k : Int) + 1 else la i) n k (nextN n (t.take (j + 1))) := by
  rw [nextN_step hx, addT_new hq h]
  intro i hi
  obtain ⟨h1, h2, h3⟩ := hl i hi
  simp only [List.mem_append, List.mem_singleton]
  by_cases e : i = q
  · simp only [if_pos e]; exact ⟨by omega, by omega, by simp [e]⟩
  · simp only [if_neg e]; exact ⟨h1, h2, h3.trans (by simp [e])⟩
theorem LastOk.next {la : Nat → Int} {n k : Nat} {acc : List Nat} (hl : LastOk la n k acc) : LastOk la n (k + 1) (nextN n []) := fun i hi => by
  obtain ⟨h1, h2, h3⟩ := hl i hi
  exact ⟨h1, by push_cast; omega, ⟨fun h => by push_cast at h; omega, fun h => by simp [nextN] at h⟩⟩
theorem LastOk.start (n : Nat) : LastOk (fun _ => 0) n 0 (nextN n []) := fun i hi => ⟨by simp, by simp, ⟨fun h => by simp at h, fun h => by simp [nextN] at h⟩⟩
/-- A row that the call owns, as a list that lies in its blocks. -/
theorem slB_of_own {w : World} {base : Nat} {v : Value} {xs : List Int} (h : w.ownsRow base 3 1 v xs.length (xs.map (Value.int .i64))) (hx : ∀ x ∈ xs, I64 x) {B : Nat → Prop} (hB : ∀ g, base ≤ g → g < w.heap.size → B g) :
    ∃ A c, v = .slice A xs.length c ∧ SL w 1 (RIntB B) A c xs := by
  obtain ⟨A, c, e, hs⟩ := vs_of_own h hx
  obtain ⟨h1, h2, h3⟩ := hs
  refine ⟨A, c, e, h1, h2, fun hp => ?_⟩
  obtain ⟨b, o, e2, hr⟩ := h3 hp
  have hl := h.lt b (by rw [e, e2]; rfl)
  exact ⟨b, o, e2, fun i x hi => ⟨hB b hl.1 hl.2, hr i x hi⟩⟩
end Go.Proofs.YtdfiflbkamhchaaDoor

/- The reference of layer 5: Next. No condition. -/
namespace Go.Proofs.YtdfiflbkamhchaaDoor
open Go.ChangeShapes Go.WideShapes Go.RowKit Go.Deep
set_option linter.unusedVariables false

/-! ### Next -/
def outB (n : Nat) (x : Int) : Bool := decide (x < 0) || decide ((n : Int) ≤ x)
def hasB (n : Nat) (acc : List Nat) (x : Int) (i : Nat) : Bool := outB n x || decide (∃ q ∈ acc.take i, (q : Int) = x)
theorem hasB_step {n : Nat} {acc : List Nat} {x : Int} {i q : Nat} (h : acc[i]? = some q) : hasB n acc x (i + 1) = (hasB n acc x i || ((q : Int) == x)) := by
  unfold hasB
  rw [take_succ_of h, Bool.or_assoc]
  congr 1
  rw [Bool.eq_iff_iff, Bool.or_eq_true, decide_eq_true_iff, decide_eq_true_iff, beq_iff_eq]
  constructor
  · rintro ⟨p, hp, e⟩
    rcases List.mem_append.1 hp with hp | hp
    · exact .inl ⟨p, hp, e⟩
    · rw [List.mem_singleton.1 hp] at e; exact .inr e
  · rintro (⟨p, hp, e⟩ | e)
    · exact ⟨p, List.mem_append.2 (.inl hp), e⟩
    · exact ⟨q, by simp, e⟩
theorem addT_has {n : Nat} {acc : List Nat} {x : Int} (h : hasB n acc x acc.length = true) : addT n acc x = acc := by
  apply addT_old
  rintro ⟨h1, h2, h3⟩
  unfold hasB outB at h
  rw [List.take_length] at h
  simp only [Bool.or_eq_true, decide_eq_true_iff] at h
  rcases h with (h | h) | ⟨q, hq, e⟩
  · omega
  · omega
  · exact h3 (by rw [← e]; simpa using hq)
theorem addT_has_not {n : Nat} {acc : List Nat} {x : Int} (h : hasB n acc x acc.length = false) : 0 ≤ x ∧ x < n ∧ addT n acc x = acc ++ [x.toNat] := by
  unfold hasB outB at h
  rw [List.take_length] at h
  simp only [Bool.or_eq_false_iff, decide_eq_false_iff_not] at h
  obtain ⟨⟨h1, h2⟩, h3⟩ := h
  refine ⟨by omega, by omega, ?_⟩
  unfold addT
  rw [if_pos ⟨by omega, by omega, fun hm => h3 ⟨_, hm, by omega⟩⟩]

def ToldN_ (bs : List BlkD) (a : Nat) (w : World) (e : Ending) (w' : World) : Prop :=
  (∃ v, e = .returned v ∧ w'.ownsRow w.heap.size 3 1 v (nxF bs a).length ((zs (nxF bs a)).map (Value.int .i64))) ∧ Below w.heap.size w w'

set_option maxRecDepth 100000 in
set_option maxHeartbeats 4000000 in
theorem refNext_any (f : FunD) (a : Nat) (v : Value) (w : World) (hv : VFun w v f) (hn : f.blocks.length ≤ 1000000) (ha : a < f.blocks.length) :
    Calls Tryd.prog 18 #[v, .int .i64 a] w (ToldN_ f.blocks a w) := by
  obtain ⟨Ar, cr, A, c, rfl, -, hb, -, -⟩ := hv
  have hbl := hb.len
  obtain ⟨i0, hi, hz0, hz1, hz2⟩ := info_parts Tryd.info3
  have HI := Lib.hid (And.intro hi (And.intro hz0 (And.intro hz1 hz2)))
  clear hi hz0 hz1 hz2
  have ha0 : (0 : Int) ≤ a := by omega
  have ha1 : (a : Int) < f.blocks.length := by omega
  go_enter Tryd.func18, Tryd.ntmps18
  go_wp2_with fail
  obtain ⟨w1, hw1, hs1, hk1, hbel1, hc1, -⟩ := named w #[.int .i64 f.params, .int .i64 f.result, .slice Ar f.regs.length cr, .slice A f.blocks.length c] 41
  have c3 := hc1 3 _ rfl
  rw [← hw1]
  have HB1 := Lib.hid hbel1
  have HS1 : Hid (w.heap.size ≤ w1.heap.size) := Lib.hid (by omega)
  obtain ⟨b, o, kb, rfl, hkb, -, -, -, -, A', c', hto, htos⟩ := (SBlks.keep hk1 hb).at_ ha
  have htl := htos.len
  have HT := Lib.hid (nxF_at hkb.out)
  clear hw1 hs1 hk1 hbel1 hc1 hb
  go_loopw [5, 6] (fun out i wr => ∃ k : Nat, k ≤ kb.term.to.length ∧ i = .int .i64 k ∧ Below w1.heap.size w1 wr ∧
    wr.ownsRow w1.heap.size 3 1 out (nextN f.blocks.length (kb.term.to.take k)).length ((zs (nextN f.blocks.length (kb.term.to.take k))).map (Value.int .i64))) (fun _ i _ => kb.term.to.length - (intOf i).toNat)
  case atStart => exact ⟨0, Nat.zero_le _, rfl, Below.refl _ _, rfl, .inl ⟨rfl, rfl⟩⟩
  case round =>
    obtain ⟨k, hk, rfl, hbel, hown⟩ := hrel
    have hs := hbel.size
    have hkw : Kept w1 wr := kept_of_below hbel
    have hbox := hkw _ _ c3
    have htoc := hkw _ _ hto
    by_cases hlt : k < kb.term.to.length
    · obtain ⟨b', o', x, rfl, hx, hxc, -⟩ := (SInts.keep hkw htos).int hlt
      have HST := Lib.hid (nextN_step (n := f.blocks.length) hx.out)
      have hfew := nextN_few f.blocks.length (kb.term.to.take k)
      have HBEL := Lib.hid hbel
      have HKW := Lib.hid hkw
      clear hbel hkw
      have hmem : ∀ q ∈ nextN f.blocks.length (kb.term.to.take k), q < f.blocks.length := fun q hq => (nextN_mem.1 hq).1
      generalize nextN f.blocks.length (kb.term.to.take k) = acc at *
      obtain ⟨Ao, co, rfl, hso⟩ := slB_of_own (B := fun _ => True) (xs := zs acc) (by rw [zs_len]; exact hown) (fun y hy => by obtain ⟨q, hq, rfl⟩ := zs_mem hy; have := hmem q hq; unfold I64; omega) (fun _ _ _ => trivial)
      rw [zs_len] at hown ⊢
      have HOWN := Lib.hid hown
      have HM := Lib.hid hmem
      clear hown hmem
      go_upto_region 6 with fail
      go_cut [8] (fun s8 wx => s8 = .bool (outB f.blocks.length x) ∧ wx = wr)
      case first =>
        by_cases h0 : x < 0
        · have e : outB f.blocks.length x = true := by unfold outB; simp [h0]
          go_wp2_with fail
          go_meet
          exact ⟨by rw [e], rfl⟩
        · by_cases h1 : (f.blocks.length : Int) ≤ x
          · have e : outB f.blocks.length x = true := by unfold outB; simp [h1]
            go_wp2_with fail
            go_meet
            exact ⟨by rw [e], rfl⟩
          · have e : outB f.blocks.length x = false := by unfold outB; simp; omega
            have h1' : decide ((f.blocks.length : Int) ≤ x) = false := decide_eq_false h1
            go_wp2_with fail
            go_meet
            exact ⟨by rw [e], rfl⟩
      case rest =>
        obtain ⟨rfl, rfl⟩ := hcut
        have hal : acc.length ≤ 1000000 := by omega
        go_wp2_with fail
        go_loop [8, 9] (fun h i => ∃ j : Nat, j ≤ acc.length ∧ i = .int .i64 j ∧ h = .bool (hasB f.blocks.length acc x j)) (fun _ i => acc.length - (intOf i).toNat)
        case atStart => exact ⟨0, Nat.zero_le _, rfl, by unfold hasB; simp⟩
        case round =>
          obtain ⟨j, hj, rfl, rfl⟩ := hrel
          by_cases hjt : j < acc.length
          · obtain ⟨bo, oo, y, rfl, hy, -, hyc, -⟩ := hso.at_ (k := j) (by rw [zs_len]; exact hjt)
            obtain ⟨q, hq, rfl⟩ := zs_at hy.out
            have hyc : wc.cell? ⟨bo, oo + j, none⟩ = some (.int .i64 (q : Int)) := by rw [Nat.mul_one] at hyc; exact hyc
            have HSTEP := Lib.hid (hasB_step (n := f.blocks.length) (x := x) hq)
            have hj0 : (0 : Int) ≤ j := by omega
            have hj1 : (j : Int) < acc.length := by omega
            clear hq hso
            generalize hasB f.blocks.length acc x j = h0 at *
            cases h0
            · cases hqx : ((q : Int) == x)
              · have HQ := Lib.hid hqx
                go_wp2_with fail
                go_round
                case rel => exact ⟨j + 1, by omega, by go_num, by rw [HSTEP.out, HQ.out]; rfl⟩
                case measure => simp [intOf]; omega
              · have HQ := Lib.hid hqx
                go_wp2_with fail
                go_round
                case rel => exact ⟨j + 1, by omega, by go_num, by rw [HSTEP.out, HQ.out]; rfl⟩
                case measure => simp [intOf]; omega
            · go_wp2_with fail
              go_round
              case rel => exact ⟨j + 1, by omega, by go_num, by rw [HSTEP.out]; rfl⟩
              case measure => simp [intOf]; omega
          · obtain rfl : j = acc.length := by omega
            cases hh : hasB f.blocks.length acc x acc.length
            · have HH := Lib.hid (addT_has_not hh)
              clear hh hjt hj
              go_wp2_with (at_builtin; refine wpList_append_lies _ rfl (.tmp 58) (.tmp 60) 32 rfl w1.heap.size 3 i0 (.int .i64 0) 1 8 Tryd.underlying32 HI.out.1 HI.out.2.1 HI.out.2.2.1 HI.out.2.2.2 rfl (by decide) _ _ _ rfl (HOWN.out.alloc _) ⟨wc.heap.size, 0, none⟩ 1 1 [.int .i64 x] rfl rfl ?d1 ?d2 ?d0 ?d3 ?d4 ?d5 (wc.heap.size + 1) ?d6 ?_)
              case d2 => rfl
              case d3 => unfold maxLen; omega
              case d4 => omega
              case d5 => omega
              intro g cap w3 hown3 hgrow3 hloc3 hlt3
              have hb3 : Below w1.heap.size w1 w3 := (HBEL.out.alloc hs _).grown hgrow3 (by simp; omega) (fun g hg => (HOWN.out.lt g hg).1)
              obtain ⟨q, hq⟩ : ∃ q : Nat, x = q := ⟨x.toNat, by have := HH.out; omega⟩
              have hnew : w3.ownsRow w1.heap.size 3 1 (.slice (some ⟨g, 0, none⟩) (acc.length + 1) cap) (nextN f.blocks.length (kb.term.to.take (k + 1))).length ((zs (nextN f.blocks.length (kb.term.to.take (k + 1)))).map (Value.int .i64)) := by
                rw [HST.out, HH.out.2.2, hq]
                simpa [zs, hq] using hown3
              have HNEW := Lib.hid hnew
              have HB3 := Lib.hid hb3
              clear hown3 hgrow3 hloc3 hnew hb3 hq
              go_wp2_with fail
              go_roundw
              case rel => exact ⟨k + 1, by omega, by go_num, HB3.out, HNEW.out⟩
              case measure => simp [intOf]; omega
            · have HH := Lib.hid (addT_has hh)
              have HOWN2 : Hid (wc.ownsRow w1.heap.size 3 1 (.slice Ao acc.length co) (nextN f.blocks.length (kb.term.to.take (k + 1))).length ((zs (nextN f.blocks.length (kb.term.to.take (k + 1)))).map (Value.int .i64))) := Lib.hid (by rw [HST.out, HH.out]; exact HOWN.out)
              clear hh hjt hj
              go_wp2_with fail
              go_roundw
              case rel => exact ⟨k + 1, by omega, by go_num, HBEL.out, HOWN2.out⟩
              case measure => simp [intOf]; omega
    · have hjj : kb.term.to.take k = kb.term.to := List.take_of_length_le (by omega)
      rw [hjj, ← HT.out] at hown
      have HO := Lib.hid (own_base hown (base' := w.heap.size) HS1.out)
      have HBF : Hid (Below w.heap.size w wr) := Lib.hid (HB1.out.trans (hbel.mono HB1.out.size))
      clear hjj hown hbel hkw
      go_wp2_with fail
      go_ret
      exact ⟨⟨_, rfl, HO.out⟩, HBF.out⟩
end Go.Proofs.YtdfiflbkamhchaaDoor
