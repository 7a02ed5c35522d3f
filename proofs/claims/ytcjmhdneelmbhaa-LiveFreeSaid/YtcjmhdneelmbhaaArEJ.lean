/- ofFunc, Module, Func, Plain: what the document says, given that ofInstr does. -/
import Derived.Test.YtcjmhdneelmbhaaInsAJ
import Derived.StillTailTactics
import Derived.Test.YtcjmhdneelmbhaaLvVJ
import Derived.Test.YtcjmhdneelmbhaaLimJ
import Derived.BigQuiet
import Derived.Test.YtcjmhdneelmbhaaSpecJ
import Derived.Test.YtcjmhdneelmbhaaPrpJ
import Derived.WalkKit
import Derived.ProofKit
import Derived.OpenShut
import Derived.Outline
import Derived.WalkSpells
import Derived.Deep.QuietTactic
import Derived.Lib.Hide
import Derived.Deep.DeepMust
namespace Go.Proofs.Ytcjmhdneelmbhaa
open Go.ChangeShapes Go.WideShapes Go.RowKit Go.Deep
set_option linter.unusedVariables false

theorem typed_regs {f : FunD} (h : typedB f = true) : ∀ t ∈ f.regs, t = 1 ∨ t = 2 := fun t ht => by
  unfold typedB at h
  rw [Bool.and_eq_true, Bool.and_eq_true] at h
  exact of_decide_eq_true (List.all_eq_true.1 h.1.1 t ht)

set_option maxRecDepth 100000 in
set_option maxHeartbeats 4000000 in
theorem ofFunc_any (OI : OfIns) (m : List FunD) (f : FunD) (vm vf : Value) (w : World) (hm : VMod w vm m) (hf : VFun w vf f) (hlim : Lim f) :
    Calls Try.prog 42 #[vm, vf] w fun e w' => e = .returned (errV (funE m f)) ∧ Below w.heap.size w w' := by
  have hm0 := hm
  have hf0 := hf
  obtain ⟨Am, cm, rfl, hms⟩ := hm
  obtain ⟨Ar, cr, Ab, cb, rfl, hr, hbs, hp64, hr64⟩ := hf
  have hbl := hbs.len
  go_enter Try.func42, Try.ntmps42
  go_wp2_with fail
  obtain ⟨wa, hwa, hsa, hka, hba, hca, -⟩ := named w #[.slice Am m.length cm] 24
  obtain ⟨w1, hw1, hs1, hk1, hb1, hc1, -⟩ := named wa #[.int .i64 f.params, .int .i64 f.result, .slice Ar f.regs.length cr, .slice Ab f.blocks.length cb] 43
  rw [← hwa, ← hw1]
  rw [hsa] at hc1
  have hB1 : Below w.heap.size w w1 := hba.trans (hb1.mono (by omega))
  have q0 : w1.cell? ⟨w.heap.size, 0, none⟩ = some (.slice Am m.length cm) := hk1 _ _ (hca 0 _ rfl)
  have f0 : w1.cell? ⟨w.heap.size + 1, 0, none⟩ = some (.int .i64 f.params) := hc1 0 _ rfl
  have f1 : w1.cell? ⟨w.heap.size + 1, 1, none⟩ = some (.int .i64 f.result) := hc1 1 _ rfl
  have f2 : w1.cell? ⟨w.heap.size + 1, 2, none⟩ = some (.slice Ar f.regs.length cr) := hc1 2 _ rfl
  have f3 : w1.cell? ⟨w.heap.size + 1, 3, none⟩ = some (.slice Ab f.blocks.length cb) := hc1 3 _ rfl
  have hs1 : w.heap.size + 1 < w1.heap.size := by omega
  clear hwa hw1 hsa hca hc1 hka hk1 hba hb1
  have hk1 := kept_of_below hB1
  refine (isWithin_any f _ _ (VFun.keep hk1 hf0) hlim).mono ?_
  rintro e w2 ⟨rfl, hb2⟩
  have hB2 : Below w.heap.size w w2 := hB1.trans (hb2.mono hB1.size)
  have hk2 := kept_of_below hb2
  have q0 := hk2 _ _ q0
  have f0 := hk2 _ _ f0
  have f1 := hk2 _ _ f1
  have f2 := hk2 _ _ f2
  have f3 := hk2 _ _ f3
  have hs2 : w.heap.size + 1 < w2.heap.size := by have := hb2.size; omega
  cases hwi : withinB f
  · have HE : Hid (funE m f = 5) := Lib.hid (by unfold funE outerE; rw [hwi]; rfl)
    clear hwi
    go_wp2_with fail
    go_ret
    exact ⟨by rw [HE.out]; rfl, hB2⟩
  · have HWI := Lib.hid hwi
    have hn64 : f.blocks.length ≤ 64 := by unfold withinB at hwi; exact (of_decide_eq_true hwi).2.1
    clear hwi
    go_wp2_with fail
    refine (isTyped_any f _ _ (VFun.keep (hk1.trans hk2) hf0)).mono ?_
    rintro e w3 ⟨rfl, hb3⟩
    have hB3 : Below w.heap.size w w3 := hB2.trans (hb3.mono hB2.size)
    have hk3 := kept_of_below hb3
    have q0 := hk3 _ _ q0
    have f0 := hk3 _ _ f0
    have f1 := hk3 _ _ f1
    have f2 := hk3 _ _ f2
    have f3 := hk3 _ _ f3
    cases hty : typedB f
    · have HE : Hid (funE m f = 3) := Lib.hid (by unfold funE outerE; rw [HWI.out, hty]; rfl)
      clear hty
      go_wp2_with fail
      go_ret
      exact ⟨by rw [HE.out]; rfl, hB3⟩
    · have HTY := Lib.hid hty
      clear hty
      go_wp2_with fail
      refine (endsWell_any f _ _ (VFun.keep ((hk1.trans hk2).trans hk3) hf0)).mono ?_
      rintro e w4 ⟨rfl, hb4⟩
      have hB4 : Below w.heap.size w w4 := hB3.trans (hb4.mono hB3.size)
      have hk4 := kept_of_below hb4
      have q0 := hk4 _ _ q0
      have f0 := hk4 _ _ f0
      have f1 := hk4 _ _ f1
      have f2 := hk4 _ _ f2
      have f3 := hk4 _ _ f3
      cases hew : endsWellB f
      · have HE : Hid (funE m f = 6) := Lib.hid (by unfold funE outerE; rw [HWI.out, HTY.out, hew]; rfl)
        clear hew
        go_wp2_with fail
        go_ret
        exact ⟨by rw [HE.out]; rfl, hB4⟩
      · have HEW := Lib.hid hew
        clear hew
        go_wp2_with fail
        refine (phisMeet_any f _ _ (VFun.keep (((hk1.trans hk2).trans hk3).trans hk4) hf0) (by omega)).mono ?_
        rintro e w5 ⟨rfl, hb5⟩
        have hB5 : Below w.heap.size w w5 := hB4.trans (hb5.mono hB4.size)
        have hk5 := kept_of_below hb5
        have hK5 := (((hk1.trans hk2).trans hk3).trans hk4).trans hk5
        have q0 := hk5 _ _ q0
        have f0 := hk5 _ _ f0
        have f1 := hk5 _ _ f1
        have f2 := hk5 _ _ f2
        have f3 := hk5 _ _ f3
        have hs5 : w.heap.size + 1 < w5.heap.size := by have := hb3.size; have := hb4.size; have := hb5.size; omega
        cases hme : meetB f
        · have HE : Hid (funE m f = 6) := Lib.hid (by unfold funE outerE; rw [HWI.out, HTY.out, HEW.out, hme]; rfl)
          clear hme
          go_wp2_with fail
          go_ret
          exact ⟨by rw [HE.out]; rfl, hB5⟩
        · have HO : Hid (funE m f = firstE (f.blocks.map (blockE m f))) := Lib.hid (by
            have : outerE f = 0 := by unfold outerE; rw [HWI.out, HTY.out, HEW.out, hme]; rfl
            unfold funE; rw [if_pos this])
          clear hme
          go_wp2_with fail
          go_loopw [29] (fun i wr => ∃ k : Nat, k ≤ f.blocks.length ∧ i = .int .i64 k ∧ Below w5.heap.size w5 wr ∧ Hid (firstE ((f.blocks.take k).map (blockE m f)) = 0)) (fun i _ => f.blocks.length - (intOf i).toNat)
          case atStart => exact ⟨0, Nat.zero_le _, rfl, Below.refl _ _, Lib.hid rfl⟩
          case round =>
            obtain ⟨k, hk, rfl, hbel, hi⟩ := hrel
            have hkw : Kept w5 wr := kept_of_below hbel
            have hB : Below w.heap.size w wr := hB5.trans (hbel.mono hB5.size)
            have hso := hbel.size
            have a0 := hkw _ _ q0
            have e0 := hkw _ _ f0
            have e1 := hkw _ _ f1
            have e2 := hkw _ _ f2
            have e3 := hkw _ _ f3
            have n0 : w.heap.size < wr.heap.size := by omega
            have n1 : w.heap.size + 1 < wr.heap.size := by omega
            by_cases hlt : k < f.blocks.length
            · obtain ⟨bb, oo, b, rfl, hx, ⟨Ap, cp, h0, z0⟩, ⟨Ai, ci, h1, z1⟩, ⟨h2, z2⟩, ⟨h3, z3⟩, ⟨At, ct, h4, z4⟩⟩ := (SBlks.keep (hK5.trans hkw) hbs).at_ hlt
              go_wp2_with fail
              obtain ⟨wn, hwn, hsn, hkn, hbn, -, -⟩ := named wr #[.slice Ap b.phis.length cp, .slice Ai b.ins.length ci, .int .i64 b.term.kind, .int .i64 b.term.arg, .slice At b.term.to.length ct] 40
              have hbn' : Below w5.heap.size w5 wn := hbel.trans (hbn.mono (by omega))
              have hBn : Below w.heap.size w wn := hB.trans (hbn.mono hB.size)
              rw [← hwn]
              clear hwn hsn
              have hK := (hK5.trans hkw).trans hkn
              refine (ofBlock_any OI m f b _ _ _ _ (VMod.keep hK hm0) (VFun.keep hK hf0) ⟨Ap, cp, Ai, ci, At, ct, rfl, SPhis.keep hkn z0, SInss.keep hkn z1, SInts.keep hkn z4, z2, z3⟩ (typed_regs HTY.out)).mono ?_
              rintro e w7 ⟨rfl, hb7⟩
              have hb7' : Below w5.heap.size w5 w7 := hbn'.trans (hb7.mono hbn'.size)
              have hB7 : Below w.heap.size w w7 := hBn.trans (hb7.mono hBn.size)
              by_cases hc : blockE m f b = 0
              · have HC := Lib.hid hc
                rw [hc, errV_zero]
                clear hc
                go_wp2_with fail
                go_roundw
                case rel => exact ⟨k + 1, by omega, by go_num, hb7', Lib.hid (by rw [first_map_at (blockE m f) hx.out hi.out]; exact HC.out)⟩
                case measure => simp [intOf]; omega
              · have HC : Hid (funE m f = blockE m f b) := Lib.hid (by rw [HO.out]; exact first_map_stop (blockE m f) hx.out hi.out hc)
                rw [errV_pos hc]
                have HC2 := Lib.hid hc
                clear hc
                go_wp2_with fail
                go_ret
                exact ⟨by rw [HC.out, errV_pos HC2.out]; rfl, hB7⟩
            · have HE : Hid (funE m f = 0) := Lib.hid (by rw [HO.out]; exact first_map_done (blockE m f) hi.out (Nat.le_of_not_lt hlt))
              go_wp2_with fail
              go_ret
              exact ⟨by rw [HE.out]; rfl, hB⟩

/-- An error with its place, as the code answers it. -/
def ErrAt (w : World) (v : Value) (p : Int × Int) : Prop :=
  (p.1 = 0 ∧ v = .nilIface) ∨ (p.1 ≠ 0 ∧ p.2 = -1 ∧ v = .iface 57 (.int .i64 p.1)) ∨
  (p.1 ≠ 0 ∧ 0 ≤ p.2 ∧ ∃ g, v = .iface 104 (.pointer (some ⟨g, 0, none⟩)) ∧ w.cell? ⟨g, 0, none⟩ = some (.int .i64 p.2) ∧ w.cell? ⟨g, 1, none⟩ = some (.iface 57 (.int .i64 p.1)))
theorem ErrAt.keep {w w' : World} (h : Kept w w') {v : Value} {p : Int × Int} (hv : ErrAt w v p) : ErrAt w' v p := by
  rcases hv with h1 | h1 | ⟨h1, h2, g, h3, h4, h5⟩
  · exact .inl h1
  · exact .inr (.inl h1)
  · exact .inr (.inr ⟨h1, h2, g, h3, h _ _ h4, h _ _ h5⟩)
theorem ErrAt.nil {w : World} {v : Value} {p : Int × Int} (hv : ErrAt w v p) (hp : p.1 = 0) : v = .nilIface := by
  rcases hv with h1 | h1 | h1
  · exact h1.2
  · exact absurd hp h1.1
  · exact absurd hp h1.1
theorem ErrAt.iface {w : World} {v : Value} {p : Int × Int} (hv : ErrAt w v p) (hp : p.1 ≠ 0) : ∃ t x, v = .iface t x := by
  rcases hv with h1 | h1 | ⟨_, _, g, h3, _⟩
  · exact absurd h1.1 hp
  · exact ⟨_, _, h1.2.2⟩
  · exact ⟨_, _, h3⟩

set_option maxRecDepth 100000 in
set_option maxHeartbeats 4000000 in
theorem module_any (OI : OfIns) (m : List FunD) (vm : Value) (w : World) (hm : VMod w vm m) (hlim : ∀ f ∈ m, Lim f) :
    Calls Try.prog 27 #[vm] w fun e w' => (∃ v, e = .returned v ∧ ErrAt w' v (modE m)) ∧ Below w.heap.size w w' := by
  have hm0 := hm
  obtain ⟨Am, cm, rfl, hms⟩ := hm
  have hml := hms.len
  by_cases h32 : 32 < m.length
  · have HE : Hid (modE m = (5, -1)) := Lib.hid (if_pos h32)
    go_enter Try.func27, Try.ntmps27
    go_wp2_with fail
    go_ret
    exact ⟨⟨_, rfl, by rw [HE.out]; exact .inr (.inl ⟨by decide, rfl, rfl⟩)⟩, (Below.refl _ _).alloc (Nat.le_refl _) _⟩
  · have HM : Hid (modE m = modK m m 0) := Lib.hid (if_neg h32)
    go_enter Try.func27, Try.ntmps27
    go_wp2_with fail
    obtain ⟨w1, hw1, hs1, hk1, hB1, hc1, -⟩ := named w #[.slice Am m.length cm] 24
    rw [← hw1]
    have q0 : w1.cell? ⟨w.heap.size, 0, none⟩ = some (.slice Am m.length cm) := hc1 0 _ rfl
    have hs1 : w.heap.size < w1.heap.size := by omega
    clear hw1 hc1
    go_loopw [14] (fun i wr => ∃ k : Nat, k ≤ m.length ∧ i = .int .i64 k ∧ Below w1.heap.size w1 wr ∧ Hid ((modK m (m.take k) 0).1 = 0)) (fun i _ => m.length - (intOf i).toNat)
    case atStart => exact ⟨0, Nat.zero_le _, rfl, Below.refl _ _, Lib.hid rfl⟩
    case round =>
      obtain ⟨k, hk, rfl, hbel, hi⟩ := hrel
      have hkw : Kept w1 wr := kept_of_below hbel
      have hB : Below w.heap.size w wr := hB1.trans (hbel.mono hB1.size)
      have hso := hbel.size
      have a0 := hkw _ _ q0
      have n0 : w.heap.size < wr.heap.size := by omega
      by_cases hlt : k < m.length
      · obtain ⟨bb, oo, f, rfl, hx, ⟨h0, z0⟩, ⟨h1, z1⟩, ⟨Ar, cr, h2, z2⟩, Ab, cb, h3, z3⟩ := (SFuns.keep (hk1.trans hkw) hms).at_ hlt
        go_wp2_with fail
        obtain ⟨wn, hwn, hsn, hkn, hbn, -, -⟩ := named wr #[.int .i64 f.params, .int .i64 f.result, .slice Ar f.regs.length cr, .slice Ab f.blocks.length cb] 43
        have hbn' : Below w1.heap.size w1 wn := hbel.trans (hbn.mono (by omega))
        have hBn : Below w.heap.size w wn := hB.trans (hbn.mono hB.size)
        rw [← hwn]
        clear hwn hsn
        have hK := (hk1.trans hkw).trans hkn
        refine (ofFunc_any OI m f _ _ _ (VMod.keep hK hm0) ⟨Ar, cr, Ab, cb, rfl, SInts.keep hkn z2, SBlks.keep hkn z3, z0, z1⟩ (hlim f (List.mem_of_getElem? hx.out))).mono ?_
        rintro e w7 ⟨rfl, hb7⟩
        have hb7' : Below w1.heap.size w1 w7 := hbn'.trans (hb7.mono hbn'.size)
        have hB7 : Below w.heap.size w w7 := hBn.trans (hb7.mono hBn.size)
        by_cases hc : funE m f = 0
        · have HC := Lib.hid hc
          rw [hc, errV_zero]
          clear hc
          go_wp2_with fail
          go_roundw
          case rel => exact ⟨k + 1, by omega, by go_num, hb7', Lib.hid (by rw [modK_step hx.out hi.out, if_pos HC.out])⟩
          case measure => simp [intOf]; omega
        · have HC : Hid (modE m = (funE m f, (k : Int))) := Lib.hid (by rw [HM.out]; exact modK_stop hx.out hi.out hc)
          rw [errV_pos hc]
          have HC2 := Lib.hid hc
          clear hc
          go_wp2_with fail
          go_ret
          exact ⟨⟨_, rfl, by rw [HC.out]; exact .inr (.inr ⟨HC2.out, by show (0 : Int) ≤ k; omega, w7.heap.size, rfl, by simp, by simp⟩)⟩, hB7.alloc hB7.size _⟩
      · have HE : Hid (modE m = (0, -1)) := Lib.hid (by
          have := hi.out
          rw [List.take_of_length_le (Nat.le_of_not_lt hlt)] at this
          rw [HM.out]; exact modK_ok this)
        go_wp2_with fail
        go_ret
        exact ⟨⟨_, rfl, by rw [HE.out]; exact .inl ⟨rfl, rfl⟩⟩, hB⟩
end Go.Proofs.Ytcjmhdneelmbhaa

/- The program's Live. -/
namespace Go.Proofs.Ytcjmhdneelmbhaa
open Go.ChangeShapes Go.WideShapes Go.RowKit Go.Deep
set_option linter.unusedVariables false

theorem ins_dst {m : List FunD} {f : FunD} {x : InsD} (h : insE m f x = 0) : (∀ a ∈ x.args, InR f.regs.length a) ∧ (x.dst = -1 ∨ InR f.regs.length x.dst) := by
  unfold insE at h
  by_cases h17 : x.op = 17
  · rw [if_pos h17] at h
    obtain ⟨h1, h⟩ := ite_zero (by decide) h
    obtain ⟨h2, h⟩ := ite_zero (by decide) h
    obtain ⟨g1, g2⟩ := rest_in h
    exact ⟨g1, by rcases g2 with g2 | g2; exact .inl g2.2; exact .inr g2.2⟩
  · rw [if_neg h17] at h
    split at h
    · exact absurd h (by decide)
    · rename_i ts d hs
      obtain ⟨hl, h⟩ := ite_zero (by decide) h
      obtain ⟨g1, g2⟩ := rest_in h
      exact ⟨g1, by rcases g2 with g2 | g2; exact .inl g2.2; exact .inr g2.2⟩
theorem term_arg {f : FunD} {t : TermD} (h : termE f t = 0) : t.arg = -1 ∨ InR f.regs.length t.arg := by
  unfold termE at h
  by_cases h0 : wantOf f t = 0
  · rw [if_pos h0] at h; exact .inl (ite_zero (by decide) h).1
  · rw [if_neg h0] at h; exact .inr (ite_zero (by decide) h).1
theorem lv_ok {m : List FunD} (hp : Proper m) (hs : SmallM m) {f : FunD} (hf : f ∈ m) : LvOk f := by
  have hG := (proper_ok hp).2 f hf
  have hsf := hs.2 f hf
  have h0 : funE m f = 0 := (proper_iff.1 hp).2 f hf
  obtain ⟨-, hb⟩ := funE_zero.1 h0
  refine ⟨hG.nb.2, hG.nr, fun i k hk => ⟨fun x hx => ?_, ?_, ?_⟩, fun i k hk => ⟨?_, fun p hp => hG.phis i k hk p hp⟩⟩
  · have h1 := ins_dst ((blockE_zero.1 (hb k (List.mem_of_getElem? hk))).2.1 x hx)
    exact ⟨h1.1, h1.2, (hsf.2.2.2 k (List.mem_of_getElem? hk)).2.2.2.1 x hx⟩
  · exact (hsf.2.2.2 k (List.mem_of_getElem? hk)).1
  · exact term_arg (blockE_zero.1 (hb k (List.mem_of_getElem? hk))).2.2
  · exact (hsf.2.2.2 k (List.mem_of_getElem? hk)).2.1

/-- Whether a module is proper, and has such a function. -/
def ToldWh (m : List FunD) (n : Int) (w : World) (e : Ending) (w' : World) : Prop :=
  (∃ v, e = .returned v ∧ ((¬ Proper m ∧ ErrAt w' v (modE m)) ∨ (Proper m ∧ ¬ (0 ≤ n ∧ n < m.length) ∧ v = .iface 57 (.int .i64 1)) ∨ (Proper m ∧ (0 ≤ n ∧ n < m.length) ∧ v = .nilIface))) ∧ Below w.heap.size w w'
theorem err_form {w : World} {v : Value} {p : Int × Int} (h : ErrAt w v p) (hp : p.1 ≠ 0) : ∃ t x, v = .iface t x := by
  rcases h with h | h | h
  · exact absurd h.1 hp
  · exact ⟨_, _, h.2.2⟩
  · obtain ⟨_, _, g, h3, _⟩ := h; exact ⟨_, _, h3⟩
set_option maxRecDepth 100000 in
set_option maxHeartbeats 8000000 in
theorem whether_any (m : List FunD) (n : Int) (v : Value) (w : World) (hv : VMod w v m) (hsm : SmallM m) : Calls Try.prog 24 #[v, .int .i64 n] w (ToldWh m n w) := by
  have hv0 := hv
  obtain ⟨Am, cm, rfl, hm⟩ := hv
  have hml := hm.len
  have HSM := Lib.hid hsm
  clear hm hsm
  go_enter Try.func24, Try.ntmps24
  go_upto_region 1 with fail
  obtain ⟨w1, hw1, hs1, hk1, hbel1, hc1, -⟩ := named w #[.slice Am m.length cm] 24
  rw [← hw1]
  have c0 : w1.cell? ⟨w.heap.size, 0, none⟩ = some (.slice Am m.length cm) := hc1 0 _ rfl
  have HB1 := Lib.hid hbel1
  have HS1 : Hid (w1.heap.size = w.heap.size + 1) := Lib.hid hs1
  have HV1 := Lib.hid (VMod.keep hk1 hv0)
  clear hw1 hs1 hk1 hc1 hbel1 hv0
  go_wp2_with fail
  refine (module_any ofIns m _ _ HV1.out (lim_of_small HSM.out)).mono ?_
  rintro e w3 ⟨⟨ve, rfl, hErr⟩, hb3⟩
  have q3 := kept_of_below hb3 _ _ c0
  have HB3 : Hid (Below w.heap.size w w3) := Lib.hid (HB1.out.trans (hb3.mono (by have := HS1.out; omega)))
  have HERR := Lib.hid hErr
  clear c0 hb3 hErr
  by_cases hp : Proper m
  · have hve := HERR.out.nil hp
    subst hve
    have HPR := Lib.hid hp
    clear hp
    by_cases h1 : n < 0
    · go_wp2_with fail
      go_ret
      exact ⟨⟨_, rfl, .inr (.inl ⟨HPR.out, by omega, rfl⟩)⟩, HB3.out⟩
    · by_cases h2 : n < m.length
      · have h3 : decide (n < 0) = false := decide_eq_false h1
        have h4 : ¬ (m.length : Int) ≤ n := by omega
        go_wp2_with fail
        go_ret
        exact ⟨⟨_, rfl, .inr (.inr ⟨HPR.out, by omega, rfl⟩)⟩, HB3.out⟩
      · have h3 : decide (n < 0) = false := decide_eq_false h1
        have h4 : (m.length : Int) ≤ n := by omega
        go_wp2_with fail
        go_ret
        exact ⟨⟨_, rfl, .inr (.inl ⟨HPR.out, by omega, rfl⟩)⟩, HB3.out⟩
  · obtain ⟨te, xe, hve⟩ := err_form HERR.out hp
    subst hve
    have HPR := Lib.hid hp
    clear hp
    go_wp2_with fail
    go_ret
    exact ⟨⟨_, rfl, .inl ⟨HPR.out, HERR.out⟩⟩, HB3.out⟩
/-- What is wanted at beginnings and ends, or what is amiss. -/
def ToldLive (m : List FunD) (n : Int) (w : World) (e : Ending) (w' : World) : Prop :=
  (∃ va vb ve, e = .returned (.tuple #[va, vb, ve]) ∧
    ((va = .slice none 0 0 ∧ vb = .slice none 0 0 ∧ ((¬ Proper m ∧ ErrAt w' ve (modE m)) ∨ (Proper m ∧ ¬ (0 ≤ n ∧ n < m.length) ∧ ve = .iface 57 (.int .i64 1)))) ∨
     (Proper m ∧ ve = .nilIface ∧ ∃ (k : Nat) (f : FunD) (G3 G4 : Nat) (A E : Nat → Nat → Bool), n = (k : Int) ∧ m[k]? = some f ∧ va = .slice (some ⟨G3, 0, none⟩) f.blocks.length f.blocks.length ∧ vb = .slice (some ⟨G4, 0, none⟩) f.blocks.length f.blocks.length ∧ w.heap.size ≤ G3 ∧ G3 + f.blocks.length < G4 ∧
       BG1 w' G3 f.blocks.length f.regs.length A ∧ BG1 w' G4 f.blocks.length f.regs.length E ∧ (∀ b r, A b r = true ↔ Want f.blocks false b r) ∧ (∀ b r, E b r = true ↔ Want f.blocks true b r) ∧ LvOk f))) ∧ Below w.heap.size w w'
set_option maxRecDepth 100000 in
set_option maxHeartbeats 8000000 in
theorem live_any (m : List FunD) (n : Int) (v : Value) (w : World) (hv : VMod w v m) (hsm : SmallM m) : Calls Try.prog 10 #[v, .int .i64 n] w (ToldLive m n w) := by
  have hv0 := hv
  obtain ⟨Am, cm, rfl, hm⟩ := hv
  have HSM := Lib.hid hsm
  have HMM := Lib.hid hm
  clear hm hsm
  go_enter Try.func10, Try.ntmps10
  go_upto_region 1 with fail
  obtain ⟨w1, hw1, hs1, hk1, hbel1, hc1, -⟩ := named w #[.slice Am m.length cm] 24
  rw [← hw1]
  have c0 : w1.cell? ⟨w.heap.size, 0, none⟩ = some (.slice Am m.length cm) := hc1 0 _ rfl
  have HB1 := Lib.hid hbel1
  have HS1 : Hid (w1.heap.size = w.heap.size + 1) := Lib.hid hs1
  have HV1 := Lib.hid (VMod.keep hk1 hv0)
  clear hw1 hs1 hk1 hc1 hbel1 hv0
  go_wp2_with fail
  refine (whether_any m n _ _ HV1.out HSM.out).mono ?_
  rintro e w3 ⟨⟨ve, rfl, hErr⟩, hb3⟩
  have q3 := kept_of_below hb3 _ _ c0
  have HB3 : Hid (Below w.heap.size w w3) := Lib.hid (HB1.out.trans (hb3.mono (by have := HS1.out; omega)))
  have HERR := Lib.hid hErr
  clear c0 hb3 hErr
  rcases HERR.out with ⟨hp, he⟩ | ⟨hp, hn, rfl⟩ | ⟨hp, hn, rfl⟩
  · obtain ⟨te, xe, hve⟩ := err_form he hp
    subst hve
    have HPR := Lib.hid hp
    have HE := Lib.hid he
    clear hp he
    go_wp2_with fail
    (try simp only [Exit.inBlock, Exit.then])
    refine bodyPost_ret (results_tmp3 rfl _ _ _) rfl ?_
    exact ⟨⟨_, _, _, rfl, .inl ⟨rfl, rfl, .inl ⟨HPR.out, HE.out⟩⟩⟩, HB3.out⟩
  · have HPR := Lib.hid (And.intro hp hn)
    clear hp hn
    go_wp2_with fail
    (try simp only [Exit.inBlock, Exit.then])
    refine bodyPost_ret (results_tmp3 rfl _ _ _) rfl ?_
    exact ⟨⟨_, _, _, rfl, .inl ⟨rfl, rfl, .inr ⟨HPR.out.1, HPR.out.2, rfl⟩⟩⟩, HB3.out⟩
  · obtain ⟨k, rfl⟩ : ∃ k : Nat, n = (k : Int) := ⟨n.toNat, by omega⟩
    have hkl : k < m.length := by omega
    have hk3 : Kept w w3 := kept_of_below HB3.out
    obtain ⟨b, o, f, rfl, hF, ⟨c0, z0⟩, ⟨c1, z1⟩, ⟨Ar, cr, c2, z2⟩, ⟨Ab, cb, c3, z3⟩⟩ := (SFuns.keep hk3 HMM.out).at_ hkl
    have hok := lv_ok hp HSM.out (List.mem_of_getElem? hF.out)
    have hvf : VFun w3 (.agg #[.int .i64 f.params, .int .i64 f.result, .slice Ar f.regs.length cr, .slice Ab f.blocks.length cb]) f := ⟨Ar, cr, Ab, cb, rfl, z2, z3, z0, z1⟩
    have HWT := Lib.hid (wantsOf_any f _ w3 hvf hok)
    have HPR := Lib.hid hp
    have HOK := Lib.hid hok
    have HFF := Lib.hid hF
    have hk0 : (0 : Int) ≤ k := by omega
    have hk1 : (k : Int) < m.length := by omega
    clear hp hn hk3 hok hvf hF z0 z1 z2 z3
    go_wp2_with fail
    refine HWT.out.mono ?_
    rintro e w4 ⟨Wa, H, Ga, K, vo, s, rfl, hH, hM, hgo, hto, hop, hb4⟩
    obtain ⟨P, hP⟩ : ∃ P, H + 4 * (f.blocks.length + 1) = P := ⟨_, rfl⟩
    obtain ⟨-, -, -, p3, p4, -⟩ := hM.cells hP
    have HM := Lib.hid hM
    have HWA := Lib.hid (want_A hgo hto hop)
    have HWE := Lib.hid (want_E hgo hto hop)
    have HB4 : Hid (Below w.heap.size w w4) := Lib.hid (HB3.out.trans (hb4.mono HB3.out.size))
    have HHZ : Hid (w.heap.size ≤ H) := Lib.hid (by have := HB3.out.size; omega)
    rw [hP]
    clear hM hgo hto hop hb4 hP hH
    go_wp2_with fail
    go_quiet (fail)
    go_wp2_with fail
    (try simp only [Exit.inBlock, Exit.then])
    refine bodyPost_ret (results_tmp3 rfl _ _ _) rfl ?_
    have hbd := below_drewN (Below.refl w4.heap.size w4) nq
    refine ⟨⟨_, _, _, rfl, .inr ⟨HPR.out, rfl, k, f, _, _, s.A, s.E, rfl, HFF.out, rfl, rfl, by have := HHZ.out; omega, by omega, (HM.out.below hbd).g3, (HM.out.below hbd).g4, HWA.out, HWE.out, HOK.out⟩⟩, below_drewN HB4.out nq⟩
end Go.Proofs.Ytcjmhdneelmbhaa

/- The document's first example of layer 8. -/
namespace Go.Proofs.Ytcjmhdneelmbhaa
open Go.ChangeShapes Go.WideShapes Go.RowKit Go.Deep
set_option linter.unusedVariables false

theorem sl_nil8 {α : Type} {w : World} {sz : Nat} {R : World → Nat → Nat → α → Prop} : SL w sz R none 0 [] := ⟨Nat.le_refl _, ⟨by unfold maxLen; omega, fun _ => rfl⟩, fun h => absurd h (by simp)⟩
def f8 : FunD := ⟨1, 1, [1], [⟨[], [], ⟨3, 0, []⟩⟩]⟩
theorem proper8 : Proper [f8] := by unfold Proper; decide
set_option maxRecDepth 100000 in
set_option maxHeartbeats 4000000 in
theorem up8_any (w : World) : Calls Try.prog 8 #[] w fun e w' => e = .returned (.bool true) ∧ Below w.heap.size w w' := by
  go_enter Try.func8, Try.ntmps8
  go_wp2_with fail
  obtain ⟨N, hN⟩ : ∃ N, N = w.heap.size := ⟨_, rfl⟩
  obtain ⟨W4, hW4⟩ : ∃ W4, W4 = (((w.alloc (.cells #[.int .i64 1] 3)).alloc (.cells #[.slice none 0 0, .slice none 0 0, .int .i64 3, .int .i64 0, .slice none 0 0] 40)).alloc (.cells #[.int .i64 1, .int .i64 1, .slice (some ⟨N, 0, none⟩) 1 1, .slice (some ⟨N + 1, 0, none⟩) 1 1] 43)).alloc (.cells #[.int .i64 1, .int .i64 1, .slice (some ⟨N, 0, none⟩) 1 1, .slice (some ⟨N + 1, 0, none⟩) 1 1] 43) := ⟨_, rfl⟩
  have hb : W4.heap[N]? = some (.cells #[.int .i64 1] 3) ∧ W4.heap[N + 1]? = some (.cells #[.slice none 0 0, .slice none 0 0, .int .i64 3, .int .i64 0, .slice none 0 0] 40) ∧ W4.heap[N + 1 + 1 + 1]? = some (.cells #[.int .i64 1, .int .i64 1, .slice (some ⟨N, 0, none⟩) 1 1, .slice (some ⟨N + 1, 0, none⟩) 1 1] 43) ∧ Below N w W4 := by
    subst hW4 hN
    have h0 := heap_alloc_new w (.cells #[.int .i64 1] 3)
    have h1 := heap_alloc_new (w.alloc (.cells #[.int .i64 1] 3)) (.cells #[.slice none 0 0, .slice none 0 0, .int .i64 3, .int .i64 0, .slice none 0 0] 40)
    have h3 := heap_alloc_new (((w.alloc (.cells #[.int .i64 1] 3)).alloc (.cells #[.slice none 0 0, .slice none 0 0, .int .i64 3, .int .i64 0, .slice none 0 0] 40)).alloc (.cells #[.int .i64 1, .int .i64 1, .slice (some ⟨w.heap.size, 0, none⟩) 1 1, .slice (some ⟨w.heap.size + 1, 0, none⟩) 1 1] 43)) (.cells #[.int .i64 1, .int .i64 1, .slice (some ⟨w.heap.size, 0, none⟩) 1 1, .slice (some ⟨w.heap.size + 1, 0, none⟩) 1 1] 43)
    refine ⟨?_, ?_, by simpa using h3, ((((Below.refl _ w).alloc (Nat.le_refl _) _).alloc (by simp) _).alloc (by first | (simp; done) | (simp; omega)) _).alloc (by first | (simp; done) | (simp; omega)) _⟩
    · exact (Below.heap_alloc _ _ _ (by first | (simp; done) | (simp; omega))).trans ((Below.heap_alloc _ _ _ (by first | (simp; done) | (simp; omega))).trans ((Below.heap_alloc _ _ _ (by simp)).trans h0))
    · exact (Below.heap_alloc _ _ _ (by first | (simp; done) | (simp; omega))).trans ((Below.heap_alloc _ _ _ (by simp)).trans (by simpa using h1))
  obtain ⟨b0, b1, b3, hbel⟩ := hb
  have i0 : I64 0 := by unfold I64; omega
  have i1 : I64 1 := by unfold I64; omega
  have i3 : I64 3 := by unfold I64; omega
  have hblk : RBlk W4 (N + 1) 0 ⟨[], [], ⟨3, 0, []⟩⟩ := ⟨⟨none, 0, cell_of_block b1 0, sl_nil8⟩, ⟨none, 0, cell_of_block b1 1, sl_nil8⟩, ⟨cell_of_block b1 2, i3⟩, ⟨cell_of_block b1 3, i0⟩, ⟨none, 0, cell_of_block b1 4, sl_nil8⟩⟩
  have hfun : RFun W4 (N + 1 + 1 + 1) 0 f8 := ⟨⟨cell_of_block b3 0, i1⟩, ⟨cell_of_block b3 1, i1⟩, ⟨some ⟨N, 0, none⟩, 1, cell_of_block b3 2, SL.one ⟨cell_of_block b0 0, i1⟩⟩, ⟨some ⟨N + 1, 0, none⟩, 1, cell_of_block b3 3, SL.one hblk⟩⟩
  have hsm : SmallM [f8] := ⟨by simp, fun f hf => by rw [List.mem_singleton.1 hf]; exact ⟨by simp [f8], by simp [f8], by simp [f8], fun b hb => by simp [f8] at hb; subst hb; exact ⟨by simp, by simp, by simp, by simp, by simp⟩⟩⟩
  have hlv := live_any [f8] 0 (.agg #[.slice (some ⟨N + 1 + 1 + 1, 0, none⟩) 1 1]) W4 ⟨_, _, rfl, SL.one hfun⟩ hsm
  have HLV := Lib.hid hlv
  have HBEL := Lib.hid hbel
  have HNN := Lib.hid hN
  rw [← hN, ← hW4]
  clear hlv hbel hsm hfun hblk b0 b1 b3 hW4 hN i0 i1 i3
  refine HLV.out.mono ?_
  rintro e w5 ⟨⟨va, vb, ve, rfl, hc⟩, hb5⟩
  have hc2 : ∃ (G3 G4 : Nat) (A E : Nat → Nat → Bool), va = .slice (some ⟨G3, 0, none⟩) 1 1 ∧ vb = .slice (some ⟨G4, 0, none⟩) 1 1 ∧ ve = .nilIface ∧ BG1 w5 G3 1 1 A ∧ BG1 w5 G4 1 1 E ∧ A 0 0 = true ∧ E 0 0 = false := by
    rcases hc with ⟨-, -, ⟨h, -⟩ | ⟨-, h, -⟩⟩ | ⟨-, h0, k, f, G3, G4, A, E, hk, hf, h1, h2, -, -, h3, h4, h5, h6, -⟩
    · exact absurd proper8 h
    · exact absurd ⟨by omega, by simp⟩ h
    · obtain rfl : k = 0 := by omega
      obtain rfl : f8 = f := by simpa using hf
      refine ⟨G3, G4, A, E, h1, h2, h0, h3, h4, ?_, ?_⟩
      · exact (h5 0 0).2 (.use (x := ⟨[], [], ⟨3, 0, []⟩⟩) rfl (by decide) rfl)
      · cases hE : E 0 0
        · rfl
        · exfalso
          have h7 := (h6 0 0).1 hE
          cases h7 with
          | along ha =>
            obtain ⟨x, hx, p, hp, -⟩ := ha
            have : x = ⟨[], [], ⟨3, 0, []⟩⟩ := List.mem_singleton.1 (List.mem_of_getElem? hx)
            rw [this] at hp; cases hp
          | back ht hb _ =>
            have ht1 := ht
            simp [f8] at ht1
            subst ht1
            exact absurd hb (by decide)
  obtain ⟨G3, G4, A, E, rfl, rfl, rfl, hA, hE, hA0, hE0⟩ := hc2
  obtain ⟨x1, x2, -⟩ := hA.at_ (a := 0) (r := 0) (by omega) (by omega)
  obtain ⟨y1, y2, -⟩ := hE.at_ (a := 0) (r := 0) (by omega) (by omega)
  rw [hA0] at x2
  rw [hE0] at y2
  have HB5 : Hid (Below w.heap.size w w5) := Lib.hid ((HNN.out ▸ HBEL.out).trans (hb5.mono (by have := HBEL.out.size; have := HNN.out; omega)))
  clear hc hb5 hA hE hA0 hE0
  go_wp2_with fail
  go_ret
  exact ⟨rfl, HB5.out⟩
end Go.Proofs.Ytcjmhdneelmbhaa

/- What the functions of package arith answer: their contracts. -/
namespace Go.Proofs.Ytcjmhdneelmbhaa
open Go.ChangeShapes Go.WideShapes Go.ChangeAt Go.RowKit

theorem places_any (b : Int) (w : World) : Calls Try.prog 109 #[.int .i64 b] w fun e w' => e = .returned (.int .u64 (pl b)) ∧ w = w' := by
  unfold pl
  go_enter Try.func109, Try.ntmps109
  go_wp2
  go_ret
  exact ⟨rfl, rfl⟩

theorem asNumber_any (b : Bool) (w : World) : Calls Try.prog 110 #[.bool b] w fun e w' => e = .returned (.int .i64 (asN b)) ∧ w = w' := by
  cases b
  all_goals
    go_enter Try.func110, Try.ntmps110
    go_wp2
    go_ret
    exact ⟨rfl, rfl⟩

theorem ofTwo_most (op a b : Int) (w : World) (h : 3 ≤ op) (h2 : op ≤ 11) (hb : op = 11 → (b == 0) = false) :
    Calls Try.prog 108 #[.int .i64 op, .int .i64 a, .int .i64 b] w fun e w' => e = .returned (.int .i64 (two op a b)) ∧ w = w' := by
  have hp := pl_lo b
  obtain rfl | rfl | rfl | rfl | rfl| rfl| rfl| rfl| rfl : op = 3 ∨ op = 4 ∨ op = 5 ∨ op = 6 ∨ op = 7 ∨ op = 8 ∨ op = 9 ∨ op = 10 ∨ op = 11 := by omega
  all_goals
    try have hb' := hb rfl
    try have hb0 : ¬ b = 0 := by simpa using hb'
    clear hb h h2
    go_enter Try.func108, Try.ntmps108
    go_wp2_with (first | (go_at_call 109; refine (places_any _ _).mono ?_; rintro e w' ⟨rfl, rfl⟩) | (go_at_call 110; refine (asNumber_any _ _).mono ?_; rintro e w' ⟨rfl, rfl⟩))
    go_ret
    exact ⟨rfl, rfl⟩

theorem ofTwo_lt (a b : Int) (w : World) :
    Calls Try.prog 108 #[.int .i64 12, .int .i64 a, .int .i64 b] w fun e w' => e = .returned (.int .i64 (two 12 a b)) ∧ w = w' := by
  have e : two 12 a b = asN (decide (a < b)) := rfl
  rw [e]
  clear e
  by_cases hd : a < b
  all_goals
    go_enter Try.func108, Try.ntmps108
    go_wp2_with (first | (go_at_call 110; refine (asNumber_any _ _).mono ?_; rintro e w' ⟨rfl, rfl⟩))
    go_ret
    refine ⟨?_, rfl⟩
    first | (rw [show decide (a < b) = true from by simpa using hd]; rfl) | (rw [show decide (a < b) = false from by simpa using hd]; rfl)

theorem ofTwo_eq (a b : Int) (w : World) :
    Calls Try.prog 108 #[.int .i64 13, .int .i64 a, .int .i64 b] w fun e w' => e = .returned (.int .i64 (two 13 a b)) ∧ w = w' := by
  have e : two 13 a b = asN (a == b) := rfl
  rw [e]
  clear e
  by_cases hd : a = b
  · subst hd
    go_enter Try.func108, Try.ntmps108
    go_wp2_with (first | (go_at_call 110; refine (asNumber_any _ _).mono ?_; rintro e w' ⟨rfl, rfl⟩))
    go_ret
    exact ⟨by simp, rfl⟩
  · have hd' : (a == b) = false := by simp [hd]
    clear hd
    go_enter Try.func108, Try.ntmps108
    go_wp2_with (first | (go_at_call 110; refine (asNumber_any _ _).mono ?_; rintro e w' ⟨rfl, rfl⟩))
    go_ret
    exact ⟨by simp [hd'], rfl⟩

theorem ofTwo_any (op a b : Int) (w : World) (h : 3 ≤ op) (h2 : op ≤ 13) (hb : op = 11 → (b == 0) = false) :
    Calls Try.prog 108 #[.int .i64 op, .int .i64 a, .int .i64 b] w fun e w' => e = .returned (.int .i64 (two op a b)) ∧ w' = w := by
  by_cases h12 : op = 12
  · subst h12; exact (ofTwo_lt a b w).mono fun _ _ h => ⟨h.1, h.2.symm⟩
  · by_cases h13 : op = 13
    · subst h13; exact (ofTwo_eq a b w).mono fun _ _ h => ⟨h.1, h.2.symm⟩
    · exact (ofTwo_most op a b w h (by omega) hb).mono fun _ _ h => ⟨h.1, h.2.symm⟩

theorem ofOne_any (op a : Int) (w : World) (h : op = 2 ∨ op = 14) :
    Calls Try.prog 106 #[.int .i64 op, .int .i64 a] w fun e w' => e = .returned (.int .i64 (one op a)) ∧ w = w' := by
  obtain rfl | rfl := h
  all_goals
    go_enter Try.func106, Try.ntmps106
    go_wp2
    go_ret
    exact ⟨rfl, rfl⟩

theorem opArgs_any (op : Int) (w : World) :
    Calls Try.prog 104 #[.int .i64 op] w fun e w' => e = .returned (.tuple #[.int .i64 (opArity op), .bool (opKnown op)]) ∧ w = w' := by
  by_cases h : 2 ≤ op ∧ op ≤ 14
  · obtain rfl | rfl | rfl | rfl | rfl| rfl| rfl| rfl| rfl| rfl| rfl | rfl | rfl : op = 2 ∨ op = 3 ∨ op = 4 ∨ op = 5 ∨ op = 6 ∨ op = 7 ∨ op = 8 ∨ op = 9 ∨ op = 10 ∨ op = 11 ∨ op = 12 ∨ op = 13 ∨ op = 14 := by omega
    all_goals
      go_enter Try.func104, Try.ntmps104
      go_wp2
      go_ret2
      exact ⟨rfl, rfl⟩
  · have e1 : opArity op = 0 := by unfold opArity; rw [if_neg (by omega), if_neg (by omega)]
    have e2 : opKnown op = false := by unfold opKnown; simp; omega
    rw [e1, e2]
    clear e1 e2
    have h2 : (op == 2) = false := by simp; omega
    have h3 : (op == 3) = false := by simp; omega
    have h4 : (op == 4) = false := by simp; omega
    have h5 : (op == 5) = false := by simp; omega
    have h6 : (op == 6) = false := by simp; omega
    have h7 : (op == 7) = false := by simp; omega
    have h8 : (op == 8) = false := by simp; omega
    have h9 : (op == 9) = false := by simp; omega
    have h10 : (op == 10) = false := by simp; omega
    have h11 : (op == 11) = false := by simp; omega
    have h12 : (op == 12) = false := by simp; omega
    have h13 : (op == 13) = false := by simp; omega
    have h14 : (op == 14) = false := by simp; omega
    clear h
    go_enter Try.func104, Try.ntmps104
    go_wp2
    go_ret2
    exact ⟨rfl, rfl⟩

theorem traps_any (op : Int) (w : World) :
    Calls Try.prog 107 #[.int .i64 op] w fun e w' => e = .returned (.bool (op == 11)) ∧ w = w' := by
  go_enter Try.func107, Try.ntmps107
  go_wp2
  go_ret
  exact ⟨rfl, rfl⟩

/-- Nothing but the count of draws has turned. -/
def Drawn (w w' : World) : Prop := ∃ n, w' = w.drewN n

/-- Two arguments, which are as many as there must be. -/
theorem eval_two (op a b : Int) (k off cap : Nat) (w : World) (h : 3 ≤ op) (h2 : op ≤ 13) (hb : op = 11 → (b == 0) = false)
    (hc0 : w.cell? ⟨k, off, none⟩ = some (.int .i64 a)) (hc1 : w.cell? ⟨k, off + 1, none⟩ = some (.int .i64 b)) :
    Calls Try.prog 98 #[.int .i64 op, .slice (some ⟨k, off, none⟩) 2 cap] w fun e w' => e = .returned (.tuple #[.int .i64 (two op a b), .nilIface]) ∧ Drawn w w' := by
  have ea : opArity op = 2 := by unfold opArity; rw [if_neg (by omega), if_pos (by omega)]
  have ek : opKnown op = true := by unfold opKnown; simp; omega
  have H := Lib.hid hb
  clear hb
  by_cases h11 : op = 11
  · subst h11
    have hb' := H.out rfl
    clear H
    go_enter Try.func98, Try.ntmps98
    go_wp2_with (first | (go_at_call 104; refine (opArgs_any _ _).mono ?_; rintro e w' ⟨rfl, rfl⟩) | (go_at_call 107; refine (traps_any _ _).mono ?_; rintro e w' ⟨rfl, rfl⟩))
    go_quiet ((go_at_call 108; refine Calls.quiet_of_same (ofTwo_any _ _ _ _ ?_ ?_ ?_) <;> first | omega | exact (fun _ => hb') | exact H.out))
    go_wp2
    go_ret2
    exact ⟨rfl, _, rfl⟩
  · have h11' : (op == 11) = false := by simp; omega
    clear h11
    go_enter Try.func98, Try.ntmps98
    go_wp2_with (first | (go_at_call 104; refine (opArgs_any _ _).mono ?_; rintro e w' ⟨rfl, rfl⟩) | (go_at_call 107; refine (traps_any _ _).mono ?_; rintro e w' ⟨rfl, rfl⟩))
    go_quiet ((go_at_call 108; refine Calls.quiet_of_same (ofTwo_any _ _ _ _ ?_ ?_ ?_) <;> first | omega | exact (fun _ => hb') | exact H.out))
    go_wp2
    go_ret2
    exact ⟨rfl, _, rfl⟩

theorem eval_div0 (k off cap : Nat) (w : World) (hc1 : w.cell? ⟨k, off + 1, none⟩ = some (.int .i64 0)) :
    Calls Try.prog 98 #[.int .i64 11, .slice (some ⟨k, off, none⟩) 2 cap] w fun e w' => e = .returned (.tuple #[.int .i64 0, .iface 57 (.int .i64 7)]) ∧ w = w' := by
  have ea : opArity 11 = 2 := rfl
  have ek : opKnown 11 = true := rfl
  go_enter Try.func98, Try.ntmps98
  go_wp2_with (first | (go_at_call 104; refine (opArgs_any _ _).mono ?_; rintro e w' ⟨rfl, rfl⟩) | (go_at_call 107; refine (traps_any _ _).mono ?_; rintro e w' ⟨rfl, rfl⟩))
  go_ret2
  exact ⟨rfl, rfl⟩

theorem eval_one (op a : Int) (k off cap : Nat) (w : World) (h : op = 2 ∨ op = 14) (hc0 : w.cell? ⟨k, off, none⟩ = some (.int .i64 a)) :
    Calls Try.prog 98 #[.int .i64 op, .slice (some ⟨k, off, none⟩) 1 cap] w fun e w' => e = .returned (.tuple #[.int .i64 (one op a), .nilIface]) ∧ w = w' := by
  have ea : opArity op = 1 := by unfold opArity; rw [if_pos h]
  have ek : opKnown op = true := by unfold opKnown; simp; omega
  have H := Lib.hid h
  clear h
  go_enter Try.func98, Try.ntmps98
  go_wp2_with (first | (go_at_call 104; refine (opArgs_any _ _).mono ?_; rintro e w' ⟨rfl, rfl⟩) | (go_at_call 106; refine (ofOne_any _ _ _ H.out).mono ?_; rintro e w' ⟨rfl, rfl⟩))
  go_ret2
  exact ⟨rfl, rfl⟩

theorem eval_unknown (op : Int) (p : Option Addr) (len cap : Nat) (w : World) (h : opKnown op = false) :
    Calls Try.prog 98 #[.int .i64 op, .slice p len cap] w fun e w' => e = .returned (.tuple #[.int .i64 0, .iface 57 (.int .i64 1)]) ∧ w = w' := by
  go_enter Try.func98, Try.ntmps98
  go_wp2_with (first | (go_at_call 104; refine (opArgs_any _ _).mono ?_; rintro e w' ⟨rfl, rfl⟩))
  go_ret2
  exact ⟨rfl, rfl⟩

theorem eval_count (op : Int) (p : Option Addr) (len cap : Nat) (w : World) (h : opKnown op = true) (hl : ((len : Int) != opArity op) = true) :
    Calls Try.prog 98 #[.int .i64 op, .slice p len cap] w fun e w' => e = .returned (.tuple #[.int .i64 0, .iface 57 (.int .i64 1)]) ∧ w = w' := by
  go_enter Try.func98, Try.ntmps98
  go_wp2_with (first | (go_at_call 104; refine (opArgs_any _ _).mono ?_; rintro e w' ⟨rfl, rfl⟩))
  go_ret2
  exact ⟨rfl, rfl⟩
end Go.Proofs.Ytcjmhdneelmbhaa
