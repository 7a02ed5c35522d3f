/- ofFunc, Module, Func, Plain: what the document says, given that ofInstr does. -/
import Derived.Test.YtflbooopgjgkbaaInsAJ
import Derived.StillTailTactics
import Derived.Test.YtflbooopgjgkbaaLvVJ
import Derived.Test.YtflbooopgjgkbaaLimJ
namespace Go.Proofs.Ytflbooopgjgkbaa
open Go.ChangeShapes Go.WideShapes Go.RowKit Go.Deep
set_option linter.unusedVariables false

theorem typed_regs {f : FunD} (h : typedB f = true) : ∀ t ∈ f.regs, t = 1 ∨ t = 2 := fun t ht => by
  unfold typedB at h
  rw [Bool.and_eq_true, Bool.and_eq_true] at h
  exact of_decide_eq_true (List.all_eq_true.1 h.1.1 t ht)

set_option maxRecDepth 100000 in
set_option maxHeartbeats 4000000 in
theorem ofFunc_any (OI : OfIns) (m : List FunD) (f : FunD) (vm vf : Value) (w : World) (hm : VMod w vm m) (hf : VFun w vf f) (hlim : Lim f) :
    Calls Try.prog 60 #[vm, vf] w fun e w' => e = .returned (errV (funE m f)) ∧ Below w.heap.size w w' := by
  have hm0 := hm
  have hf0 := hf
  obtain ⟨Am, cm, rfl, hms⟩ := hm
  obtain ⟨Ar, cr, Ab, cb, rfl, hr, hbs, hp64, hr64⟩ := hf
  have hbl := hbs.len
  go_enter Try.func60, Try.ntmps60
  go_wp2_with fail
  obtain ⟨wa, hwa, hsa, hka, hba, hca, -⟩ := named w #[.slice Am m.length cm] 38
  obtain ⟨w1, hw1, hs1, hk1, hb1, hc1, -⟩ := named wa #[.int .i64 f.params, .int .i64 f.result, .slice Ar f.regs.length cr, .slice Ab f.blocks.length cb] 25
  rw [← hwa, ← hw1]
  rw [hsa] at hc1
  have hB1 : Below w.heap.size w w1 := hba.trans (hb1.mono (by omega))
  have q0 : w1.cell? ⟨w.heap.size, 0, none⟩ = some (.slice Am m.length cm) := hk1 _ _ (hca 0 _ rfl)
  have f0 : w1.cell? ⟨w.heap.size + 1, 0, none⟩ = some (.int .i64 f.params) := hc1 0 _ rfl
  have f1 : w1.cell? ⟨w.heap.size + 1, 1, none⟩ = some (.int .i64 f.result) := hc1 1 _ rfl
  have f2 : w1.cell? ⟨w.heap.size + 1, 2, none⟩ = some (.slice Ar f.regs.length cr) := hc1 2 _ rfl
  have f3 : w1.cell? ⟨w.heap.size + 1, 3, none⟩ = some (.slice Ab f.blocks.length cb) := hc1 3 _ rfl
  have hs1 : w.heap.size + 1 < w1.heap.size := by omega
  clear hwa hw1 hsa hca hc1 hka hk1 hba hb1
  have hk1 := kept_of_below hB1
  refine (isWithin_any f _ _ (VFun.keep hk1 hf0) hlim).mono ?_
  rintro e w2 ⟨rfl, hb2⟩
  have hB2 : Below w.heap.size w w2 := hB1.trans (hb2.mono hB1.size)
  have hk2 := kept_of_below hb2
  have q0 := hk2 _ _ q0
  have f0 := hk2 _ _ f0
  have f1 := hk2 _ _ f1
  have f2 := hk2 _ _ f2
  have f3 := hk2 _ _ f3
  have hs2 : w.heap.size + 1 < w2.heap.size := by have := hb2.size; omega
  cases hwi : withinB f
  · have HE : Hid (funE m f = 5) := Lib.hid (by unfold funE outerE; rw [hwi]; rfl)
    clear hwi
    go_wp2_with fail
    go_ret
    exact ⟨by rw [HE.out]; rfl, hB2⟩
  · have HWI := Lib.hid hwi
    have hn64 : f.blocks.length ≤ 64 := by unfold withinB at hwi; exact (of_decide_eq_true hwi).2.1
    clear hwi
    go_wp2_with fail
    refine (isTyped_any f _ _ (VFun.keep (hk1.trans hk2) hf0)).mono ?_
    rintro e w3 ⟨rfl, hb3⟩
    have hB3 : Below w.heap.size w w3 := hB2.trans (hb3.mono hB2.size)
    have hk3 := kept_of_below hb3
    have q0 := hk3 _ _ q0
    have f0 := hk3 _ _ f0
    have f1 := hk3 _ _ f1
    have f2 := hk3 _ _ f2
    have f3 := hk3 _ _ f3
    cases hty : typedB f
    · have HE : Hid (funE m f = 3) := Lib.hid (by unfold funE outerE; rw [HWI.out, hty]; rfl)
      clear hty
      go_wp2_with fail
      go_ret
      exact ⟨by rw [HE.out]; rfl, hB3⟩
    · have HTY := Lib.hid hty
      clear hty
      go_wp2_with fail
      refine (endsWell_any f _ _ (VFun.keep ((hk1.trans hk2).trans hk3) hf0)).mono ?_
      rintro e w4 ⟨rfl, hb4⟩
      have hB4 : Below w.heap.size w w4 := hB3.trans (hb4.mono hB3.size)
      have hk4 := kept_of_below hb4
      have q0 := hk4 _ _ q0
      have f0 := hk4 _ _ f0
      have f1 := hk4 _ _ f1
      have f2 := hk4 _ _ f2
      have f3 := hk4 _ _ f3
      cases hew : endsWellB f
      · have HE : Hid (funE m f = 6) := Lib.hid (by unfold funE outerE; rw [HWI.out, HTY.out, hew]; rfl)
        clear hew
        go_wp2_with fail
        go_ret
        exact ⟨by rw [HE.out]; rfl, hB4⟩
      · have HEW := Lib.hid hew
        clear hew
        go_wp2_with fail
        refine (phisMeet_any f _ _ (VFun.keep (((hk1.trans hk2).trans hk3).trans hk4) hf0) (by omega)).mono ?_
        rintro e w5 ⟨rfl, hb5⟩
        have hB5 : Below w.heap.size w w5 := hB4.trans (hb5.mono hB4.size)
        have hk5 := kept_of_below hb5
        have hK5 := (((hk1.trans hk2).trans hk3).trans hk4).trans hk5
        have q0 := hk5 _ _ q0
        have f0 := hk5 _ _ f0
        have f1 := hk5 _ _ f1
        have f2 := hk5 _ _ f2
        have f3 := hk5 _ _ f3
        have hs5 : w.heap.size + 1 < w5.heap.size := by have := hb3.size; have := hb4.size; have := hb5.size; omega
        cases hme : meetB f
        · have HE : Hid (funE m f = 6) := Lib.hid (by unfold funE outerE; rw [HWI.out, HTY.out, HEW.out, hme]; rfl)
          clear hme
          go_wp2_with fail
          go_ret
          exact ⟨by rw [HE.out]; rfl, hB5⟩
        · have HO : Hid (funE m f = firstE (f.blocks.map (blockE m f))) := Lib.hid (by
            have : outerE f = 0 := by unfold outerE; rw [HWI.out, HTY.out, HEW.out, hme]; rfl
            unfold funE; rw [if_pos this])
          clear hme
          go_wp2_with fail
          go_loopw [29] (fun i wr => ∃ k : Nat, k ≤ f.blocks.length ∧ i = .int .i64 k ∧ Below w5.heap.size w5 wr ∧ Hid (firstE ((f.blocks.take k).map (blockE m f)) = 0)) (fun i _ => f.blocks.length - (intOf i).toNat)
          case atStart => exact ⟨0, Nat.zero_le _, rfl, Below.refl _ _, Lib.hid rfl⟩
          case round =>
            obtain ⟨k, hk, rfl, hbel, hi⟩ := hrel
            have hkw : Kept w5 wr := kept_of_below hbel
            have hB : Below w.heap.size w wr := hB5.trans (hbel.mono hB5.size)
            have hso := hbel.size
            have a0 := hkw _ _ q0
            have e0 := hkw _ _ f0
            have e1 := hkw _ _ f1
            have e2 := hkw _ _ f2
            have e3 := hkw _ _ f3
            have n0 : w.heap.size < wr.heap.size := by omega
            have n1 : w.heap.size + 1 < wr.heap.size := by omega
            by_cases hlt : k < f.blocks.length
            · obtain ⟨bb, oo, b, rfl, hx, ⟨Ap, cp, h0, z0⟩, ⟨Ai, ci, h1, z1⟩, ⟨h2, z2⟩, ⟨h3, z3⟩, ⟨At, ct, h4, z4⟩⟩ := (SBlks.keep (hK5.trans hkw) hbs).at_ hlt
              go_wp2_with fail
              obtain ⟨wn, hwn, hsn, hkn, hbn, -, -⟩ := named wr #[.slice Ap b.phis.length cp, .slice Ai b.ins.length ci, .int .i64 b.term.kind, .int .i64 b.term.arg, .slice At b.term.to.length ct] 52
              have hbn' : Below w5.heap.size w5 wn := hbel.trans (hbn.mono (by omega))
              have hBn : Below w.heap.size w wn := hB.trans (hbn.mono hB.size)
              rw [← hwn]
              clear hwn hsn
              have hK := (hK5.trans hkw).trans hkn
              refine (ofBlock_any OI m f b _ _ _ _ (VMod.keep hK hm0) (VFun.keep hK hf0) ⟨Ap, cp, Ai, ci, At, ct, rfl, SPhis.keep hkn z0, SInss.keep hkn z1, SInts.keep hkn z4, z2, z3⟩ (typed_regs HTY.out)).mono ?_
              rintro e w7 ⟨rfl, hb7⟩
              have hb7' : Below w5.heap.size w5 w7 := hbn'.trans (hb7.mono hbn'.size)
              have hB7 : Below w.heap.size w w7 := hBn.trans (hb7.mono hBn.size)
              by_cases hc : blockE m f b = 0
              · have HC := Lib.hid hc
                rw [hc, errV_zero]
                clear hc
                go_wp2_with fail
                go_roundw
                case rel => exact ⟨k + 1, by omega, by go_num, hb7', Lib.hid (by rw [first_map_at (blockE m f) hx.out hi.out]; exact HC.out)⟩
                case measure => simp [intOf]; omega
              · have HC : Hid (funE m f = blockE m f b) := Lib.hid (by rw [HO.out]; exact first_map_stop (blockE m f) hx.out hi.out hc)
                rw [errV_pos hc]
                have HC2 := Lib.hid hc
                clear hc
                go_wp2_with fail
                go_ret
                exact ⟨by rw [HC.out, errV_pos HC2.out]; rfl, hB7⟩
            · have HE : Hid (funE m f = 0) := Lib.hid (by rw [HO.out]; exact first_map_done (blockE m f) hi.out (Nat.le_of_not_lt hlt))
              go_wp2_with fail
              go_ret
              exact ⟨by rw [HE.out]; rfl, hB⟩

/-- An error with its place, as the code answers it. -/
def ErrAt (w : World) (v : Value) (p : Int × Int) : Prop :=
  (p.1 = 0 ∧ v = .nilIface) ∨ (p.1 ≠ 0 ∧ p.2 = -1 ∧ v = .iface 94 (.int .i64 p.1)) ∨
  (p.1 ≠ 0 ∧ 0 ≤ p.2 ∧ ∃ g, v = .iface 111 (.pointer (some ⟨g, 0, none⟩)) ∧ w.cell? ⟨g, 0, none⟩ = some (.int .i64 p.2) ∧ w.cell? ⟨g, 1, none⟩ = some (.iface 94 (.int .i64 p.1)))
theorem ErrAt.keep {w w' : World} (h : Kept w w') {v : Value} {p : Int × Int} (hv : ErrAt w v p) : ErrAt w' v p := by
  rcases hv with h1 | h1 | ⟨h1, h2, g, h3, h4, h5⟩
  · exact .inl h1
  · exact .inr (.inl h1)
  · exact .inr (.inr ⟨h1, h2, g, h3, h _ _ h4, h _ _ h5⟩)
theorem ErrAt.nil {w : World} {v : Value} {p : Int × Int} (hv : ErrAt w v p) (hp : p.1 = 0) : v = .nilIface := by
  rcases hv with h1 | h1 | h1
  · exact h1.2
  · exact absurd hp h1.1
  · exact absurd hp h1.1
theorem ErrAt.iface {w : World} {v : Value} {p : Int × Int} (hv : ErrAt w v p) (hp : p.1 ≠ 0) : ∃ t x, v = .iface t x := by
  rcases hv with h1 | h1 | ⟨_, _, g, h3, _⟩
  · exact absurd h1.1 hp
  · exact ⟨_, _, h1.2.2⟩
  · exact ⟨_, _, h3⟩

set_option maxRecDepth 100000 in
set_option maxHeartbeats 4000000 in
theorem module_any (OI : OfIns) (m : List FunD) (vm : Value) (w : World) (hm : VMod w vm m) (hlim : ∀ f ∈ m, Lim f) :
    Calls Try.prog 40 #[vm] w fun e w' => (∃ v, e = .returned v ∧ ErrAt w' v (modE m)) ∧ Below w.heap.size w w' := by
  have hm0 := hm
  obtain ⟨Am, cm, rfl, hms⟩ := hm
  have hml := hms.len
  by_cases h32 : 32 < m.length
  · have HE : Hid (modE m = (5, -1)) := Lib.hid (if_pos h32)
    go_enter Try.func40, Try.ntmps40
    go_wp2_with fail
    go_ret
    exact ⟨⟨_, rfl, by rw [HE.out]; exact .inr (.inl ⟨by decide, rfl, rfl⟩)⟩, (Below.refl _ _).alloc (Nat.le_refl _) _⟩
  · have HM : Hid (modE m = modK m m 0) := Lib.hid (if_neg h32)
    go_enter Try.func40, Try.ntmps40
    go_wp2_with fail
    obtain ⟨w1, hw1, hs1, hk1, hB1, hc1, -⟩ := named w #[.slice Am m.length cm] 38
    rw [← hw1]
    have q0 : w1.cell? ⟨w.heap.size, 0, none⟩ = some (.slice Am m.length cm) := hc1 0 _ rfl
    have hs1 : w.heap.size < w1.heap.size := by omega
    clear hw1 hc1
    go_loopw [14] (fun i wr => ∃ k : Nat, k ≤ m.length ∧ i = .int .i64 k ∧ Below w1.heap.size w1 wr ∧ Hid ((modK m (m.take k) 0).1 = 0)) (fun i _ => m.length - (intOf i).toNat)
    case atStart => exact ⟨0, Nat.zero_le _, rfl, Below.refl _ _, Lib.hid rfl⟩
    case round =>
      obtain ⟨k, hk, rfl, hbel, hi⟩ := hrel
      have hkw : Kept w1 wr := kept_of_below hbel
      have hB : Below w.heap.size w wr := hB1.trans (hbel.mono hB1.size)
      have hso := hbel.size
      have a0 := hkw _ _ q0
      have n0 : w.heap.size < wr.heap.size := by omega
      by_cases hlt : k < m.length
      · obtain ⟨bb, oo, f, rfl, hx, ⟨h0, z0⟩, ⟨h1, z1⟩, ⟨Ar, cr, h2, z2⟩, Ab, cb, h3, z3⟩ := (SFuns.keep (hk1.trans hkw) hms).at_ hlt
        go_wp2_with fail
        obtain ⟨wn, hwn, hsn, hkn, hbn, -, -⟩ := named wr #[.int .i64 f.params, .int .i64 f.result, .slice Ar f.regs.length cr, .slice Ab f.blocks.length cb] 25
        have hbn' : Below w1.heap.size w1 wn := hbel.trans (hbn.mono (by omega))
        have hBn : Below w.heap.size w wn := hB.trans (hbn.mono hB.size)
        rw [← hwn]
        clear hwn hsn
        have hK := (hk1.trans hkw).trans hkn
        refine (ofFunc_any OI m f _ _ _ (VMod.keep hK hm0) ⟨Ar, cr, Ab, cb, rfl, SInts.keep hkn z2, SBlks.keep hkn z3, z0, z1⟩ (hlim f (List.mem_of_getElem? hx.out))).mono ?_
        rintro e w7 ⟨rfl, hb7⟩
        have hb7' : Below w1.heap.size w1 w7 := hbn'.trans (hb7.mono hbn'.size)
        have hB7 : Below w.heap.size w w7 := hBn.trans (hb7.mono hBn.size)
        by_cases hc : funE m f = 0
        · have HC := Lib.hid hc
          rw [hc, errV_zero]
          clear hc
          go_wp2_with fail
          go_roundw
          case rel => exact ⟨k + 1, by omega, by go_num, hb7', Lib.hid (by rw [modK_step hx.out hi.out, if_pos HC.out])⟩
          case measure => simp [intOf]; omega
        · have HC : Hid (modE m = (funE m f, (k : Int))) := Lib.hid (by rw [HM.out]; exact modK_stop hx.out hi.out hc)
          rw [errV_pos hc]
          have HC2 := Lib.hid hc
          clear hc
          go_wp2_with fail
          go_ret
          exact ⟨⟨_, rfl, by rw [HC.out]; exact .inr (.inr ⟨HC2.out, by show (0 : Int) ≤ k; omega, w7.heap.size, rfl, by simp, by simp⟩)⟩, hB7.alloc hB7.size _⟩
      · have HE : Hid (modE m = (0, -1)) := Lib.hid (by
          have := hi.out
          rw [List.take_of_length_le (Nat.le_of_not_lt hlt)] at this
          rw [HM.out]; exact modK_ok this)
        go_wp2_with fail
        go_ret
        exact ⟨⟨_, rfl, by rw [HE.out]; exact .inl ⟨rfl, rfl⟩⟩, hB⟩
end Go.Proofs.Ytflbooopgjgkbaa

/- The program's Live. -/
namespace Go.Proofs.Ytflbooopgjgkbaa
open Go.ChangeShapes Go.WideShapes Go.RowKit Go.Deep
set_option linter.unusedVariables false

theorem ins_dst {m : List FunD} {f : FunD} {x : InsD} (h : insE m f x = 0) : (∀ a ∈ x.args, InR f.regs.length a) ∧ (x.dst = -1 ∨ InR f.regs.length x.dst) := by
  unfold insE at h
  by_cases h17 : x.op = 17
  · rw [if_pos h17] at h
    obtain ⟨h1, h⟩ := ite_zero (by decide) h
    obtain ⟨h2, h⟩ := ite_zero (by decide) h
    obtain ⟨g1, g2⟩ := rest_in h
    exact ⟨g1, by rcases g2 with g2 | g2; exact .inl g2.2; exact .inr g2.2⟩
  · rw [if_neg h17] at h
    split at h
    · exact absurd h (by decide)
    · rename_i ts d hs
      obtain ⟨hl, h⟩ := ite_zero (by decide) h
      obtain ⟨g1, g2⟩ := rest_in h
      exact ⟨g1, by rcases g2 with g2 | g2; exact .inl g2.2; exact .inr g2.2⟩
theorem term_arg {f : FunD} {t : TermD} (h : termE f t = 0) : t.arg = -1 ∨ InR f.regs.length t.arg := by
  unfold termE at h
  by_cases h0 : wantOf f t = 0
  · rw [if_pos h0] at h; exact .inl (ite_zero (by decide) h).1
  · rw [if_neg h0] at h; exact .inr (ite_zero (by decide) h).1
theorem lv_ok {m : List FunD} (hp : Proper m) (hs : SmallM m) {f : FunD} (hf : f ∈ m) : LvOk f := by
  have hG := (proper_ok hp).2 f hf
  have hsf := hs.2 f hf
  have h0 : funE m f = 0 := (proper_iff.1 hp).2 f hf
  obtain ⟨-, hb⟩ := funE_zero.1 h0
  refine ⟨hG.nb.2, hG.nr, fun i k hk => ⟨fun x hx => ?_, ?_, ?_⟩, fun i k hk => ⟨?_, fun p hp => hG.phis i k hk p hp⟩⟩
  · have h1 := ins_dst ((blockE_zero.1 (hb k (List.mem_of_getElem? hk))).2.1 x hx)
    exact ⟨h1.1, h1.2, (hsf.2.2.2 k (List.mem_of_getElem? hk)).2.2.2.1 x hx⟩
  · exact (hsf.2.2.2 k (List.mem_of_getElem? hk)).1
  · exact term_arg (blockE_zero.1 (hb k (List.mem_of_getElem? hk))).2.2
  · exact (hsf.2.2.2 k (List.mem_of_getElem? hk)).2.1

/-- Whether a module is proper, and has such a function. -/
def ToldWh (m : List FunD) (n : Int) (w : World) (e : Ending) (w' : World) : Prop :=
  (∃ v, e = .returned v ∧ ((¬ Proper m ∧ ErrAt w' v (modE m)) ∨ (Proper m ∧ ¬ (0 ≤ n ∧ n < m.length) ∧ v = .iface 94 (.int .i64 1)) ∨ (Proper m ∧ (0 ≤ n ∧ n < m.length) ∧ v = .nilIface))) ∧ Below w.heap.size w w'
theorem err_form {w : World} {v : Value} {p : Int × Int} (h : ErrAt w v p) (hp : p.1 ≠ 0) : ∃ t x, v = .iface t x := by
  rcases h with h | h | h
  · exact absurd h.1 hp
  · exact ⟨_, _, h.2.2⟩
  · obtain ⟨_, _, g, h3, _⟩ := h; exact ⟨_, _, h3⟩
set_option maxRecDepth 100000 in
set_option maxHeartbeats 8000000 in
theorem whether_any (m : List FunD) (n : Int) (v : Value) (w : World) (hv : VMod w v m) (hsm : SmallM m) : Calls Try.prog 38 #[v, .int .i64 n] w (ToldWh m n w) := by
  have hv0 := hv
  obtain ⟨Am, cm, rfl, hm⟩ := hv
  have hml := hm.len
  have HSM := Lib.hid hsm
  clear hm hsm
  go_enter Try.func38, Try.ntmps38
  go_upto_region 1 with fail
  obtain ⟨w1, hw1, hs1, hk1, hbel1, hc1, -⟩ := named w #[.slice Am m.length cm] 38
  rw [← hw1]
  have c0 : w1.cell? ⟨w.heap.size, 0, none⟩ = some (.slice Am m.length cm) := hc1 0 _ rfl
  have HB1 := Lib.hid hbel1
  have HS1 : Hid (w1.heap.size = w.heap.size + 1) := Lib.hid hs1
  have HV1 := Lib.hid (VMod.keep hk1 hv0)
  clear hw1 hs1 hk1 hc1 hbel1 hv0
  go_wp2_with fail
  refine (module_any ofIns m _ _ HV1.out (lim_of_small HSM.out)).mono ?_
  rintro e w3 ⟨⟨ve, rfl, hErr⟩, hb3⟩
  have q3 := kept_of_below hb3 _ _ c0
  have HB3 : Hid (Below w.heap.size w w3) := Lib.hid (HB1.out.trans (hb3.mono (by have := HS1.out; omega)))
  have HERR := Lib.hid hErr
  clear c0 hb3 hErr
  by_cases hp : Proper m
  · have hve := HERR.out.nil hp
    subst hve
    have HPR := Lib.hid hp
    clear hp
    by_cases h1 : n < 0
    · go_wp2_with fail
      go_ret
      exact ⟨⟨_, rfl, .inr (.inl ⟨HPR.out, by omega, rfl⟩)⟩, HB3.out⟩
    · by_cases h2 : n < m.length
      · have h3 : decide (n < 0) = false := decide_eq_false h1
        have h4 : ¬ (m.length : Int) ≤ n := by omega
        go_wp2_with fail
        go_ret
        exact ⟨⟨_, rfl, .inr (.inr ⟨HPR.out, by omega, rfl⟩)⟩, HB3.out⟩
      · have h3 : decide (n < 0) = false := decide_eq_false h1
        have h4 : (m.length : Int) ≤ n := by omega
        go_wp2_with fail
        go_ret
        exact ⟨⟨_, rfl, .inr (.inl ⟨HPR.out, by omega, rfl⟩)⟩, HB3.out⟩
  · obtain ⟨te, xe, hve⟩ := err_form HERR.out hp
    subst hve
    have HPR := Lib.hid hp
    clear hp
    go_wp2_with fail
    go_ret
    exact ⟨⟨_, rfl, .inl ⟨HPR.out, HERR.out⟩⟩, HB3.out⟩
/-- What is wanted at beginnings and ends, or what is amiss. -/
def ToldLive (m : List FunD) (n : Int) (w : World) (e : Ending) (w' : World) : Prop :=
  (∃ va vb ve, e = .returned (.tuple #[va, vb, ve]) ∧
    ((va = .slice none 0 0 ∧ vb = .slice none 0 0 ∧ ((¬ Proper m ∧ ErrAt w' ve (modE m)) ∨ (Proper m ∧ ¬ (0 ≤ n ∧ n < m.length) ∧ ve = .iface 94 (.int .i64 1)))) ∨
     (Proper m ∧ ve = .nilIface ∧ ∃ (k : Nat) (f : FunD) (G3 G4 : Nat) (A E : Nat → Nat → Bool), n = (k : Int) ∧ m[k]? = some f ∧ va = .slice (some ⟨G3, 0, none⟩) f.blocks.length f.blocks.length ∧ vb = .slice (some ⟨G4, 0, none⟩) f.blocks.length f.blocks.length ∧ w.heap.size ≤ G3 ∧ G3 + f.blocks.length < G4 ∧
       BG1 w' G3 f.blocks.length f.regs.length A ∧ BG1 w' G4 f.blocks.length f.regs.length E ∧ (∀ b r, A b r = true ↔ Want f.blocks false b r) ∧ (∀ b r, E b r = true ↔ Want f.blocks true b r) ∧ LvOk f))) ∧ Below w.heap.size w w'
set_option maxRecDepth 100000 in
set_option maxHeartbeats 8000000 in
theorem live_any (m : List FunD) (n : Int) (v : Value) (w : World) (hv : VMod w v m) (hsm : SmallM m) : Calls Try.prog 20 #[v, .int .i64 n] w (ToldLive m n w) := by
  have hv0 := hv
  obtain ⟨Am, cm, rfl, hm⟩ := hv
  have HSM := Lib.hid hsm
  have HMM := Lib.hid hm
  clear hm hsm
  go_enter Try.func20, Try.ntmps20
  go_upto_region 1 with fail
  obtain ⟨w1, hw1, hs1, hk1, hbel1, hc1, -⟩ := named w #[.slice Am m.length cm] 38
  rw [← hw1]
  have c0 : w1.cell? ⟨w.heap.size, 0, none⟩ = some (.slice Am m.length cm) := hc1 0 _ rfl
  have HB1 := Lib.hid hbel1
  have HS1 : Hid (w1.heap.size = w.heap.size + 1) := Lib.hid hs1
  have HV1 := Lib.hid (VMod.keep hk1 hv0)
  clear hw1 hs1 hk1 hc1 hbel1 hv0
  go_wp2_with fail
  refine (whether_any m n _ _ HV1.out HSM.out).mono ?_
  rintro e w3 ⟨⟨ve, rfl, hErr⟩, hb3⟩
  have q3 := kept_of_below hb3 _ _ c0
  have HB3 : Hid (Below w.heap.size w w3) := Lib.hid (HB1.out.trans (hb3.mono (by have := HS1.out; omega)))
  have HERR := Lib.hid hErr
  clear c0 hb3 hErr
  rcases HERR.out with ⟨hp, he⟩ | ⟨hp, hn, rfl⟩ | ⟨hp, hn, rfl⟩
  · obtain ⟨te, xe, hve⟩ := err_form he hp
    subst hve
    have HPR := Lib.hid hp
    have HE := Lib.hid he
    clear hp he
    go_wp2_with fail
    (try simp only [Exit.inBlock, Exit.then])
    refine bodyPost_ret (results_tmp3 rfl _ _ _) rfl ?_
    exact ⟨⟨_, _, _, rfl, .inl ⟨rfl, rfl, .inl ⟨HPR.out, HE.out⟩⟩⟩, HB3.out⟩
  · have HPR := Lib.hid (And.intro hp hn)
    clear hp hn
    go_wp2_with fail
    (try simp only [Exit.inBlock, Exit.then])
    refine bodyPost_ret (results_tmp3 rfl _ _ _) rfl ?_
    exact ⟨⟨_, _, _, rfl, .inl ⟨rfl, rfl, .inr ⟨HPR.out.1, HPR.out.2, rfl⟩⟩⟩, HB3.out⟩
  · obtain ⟨k, rfl⟩ : ∃ k : Nat, n = (k : Int) := ⟨n.toNat, by omega⟩
    have hkl : k < m.length := by omega
    have hk3 : Kept w w3 := kept_of_below HB3.out
    obtain ⟨b, o, f, rfl, hF, ⟨c0, z0⟩, ⟨c1, z1⟩, ⟨Ar, cr, c2, z2⟩, ⟨Ab, cb, c3, z3⟩⟩ := (SFuns.keep hk3 HMM.out).at_ hkl
    have hok := lv_ok hp HSM.out (List.mem_of_getElem? hF.out)
    have hvf : VFun w3 (.agg #[.int .i64 f.params, .int .i64 f.result, .slice Ar f.regs.length cr, .slice Ab f.blocks.length cb]) f := ⟨Ar, cr, Ab, cb, rfl, z2, z3, z0, z1⟩
    have HWT := Lib.hid (wantsOf_any f _ w3 hvf hok)
    have HPR := Lib.hid hp
    have HOK := Lib.hid hok
    have HFF := Lib.hid hF
    have hk0 : (0 : Int) ≤ k := by omega
    have hk1 : (k : Int) < m.length := by omega
    clear hp hn hk3 hok hvf hF z0 z1 z2 z3
    go_wp2_with fail
    refine HWT.out.mono ?_
    rintro e w4 ⟨Wa, H, Ga, K, vo, s, rfl, hH, hM, hgo, hto, hop, hb4⟩
    obtain ⟨P, hP⟩ : ∃ P, H + 4 * (f.blocks.length + 1) = P := ⟨_, rfl⟩
    obtain ⟨-, -, -, p3, p4, -⟩ := hM.cells hP
    have HM := Lib.hid hM
    have HWA := Lib.hid (want_A hgo hto hop)
    have HWE := Lib.hid (want_E hgo hto hop)
    have HB4 : Hid (Below w.heap.size w w4) := Lib.hid (HB3.out.trans (hb4.mono HB3.out.size))
    have HHZ : Hid (w.heap.size ≤ H) := Lib.hid (by have := HB3.out.size; omega)
    rw [hP]
    clear hM hgo hto hop hb4 hP hH
    go_wp2_with fail
    go_quiet (fail)
    go_wp2_with fail
    (try simp only [Exit.inBlock, Exit.then])
    refine bodyPost_ret (results_tmp3 rfl _ _ _) rfl ?_
    have hbd := below_drewN (Below.refl w4.heap.size w4) nq
    refine ⟨⟨_, _, _, rfl, .inr ⟨HPR.out, rfl, k, f, _, _, s.A, s.E, rfl, HFF.out, rfl, rfl, by have := HHZ.out; omega, by omega, (HM.out.below hbd).g3, (HM.out.below hbd).g4, HWA.out, HWE.out, HOK.out⟩⟩, below_drewN HB4.out nq⟩
end Go.Proofs.Ytflbooopgjgkbaa

/- The program's Count: how often registers are named. -/
namespace Go.Proofs.Ytflbooopgjgkbaa
open Go.ChangeShapes Go.WideShapes Go.RowKit Go.Deep
set_option linter.unusedVariables false

/-! ### In mathematics -/
def ctA (l : List Int) (r : Nat) : Nat := l.countP fun a => decide (a = (r : Int))
def ctP (ps : List PhiD) (j r : Nat) : Nat := ((ps.take j).map fun p => ctA p.args r).sum
def ctI (ins : List InsD) (j r : Nat) : Nat := ((ins.take j).map fun x => ctA x.args r).sum
def ctK (k : BlkD) (r : Nat) : Nat := ctP k.phis k.phis.length r + ctI k.ins k.ins.length r + (if k.term.arg = (r : Int) then 1 else 0)
def ctF (bs : List BlkD) (i r : Nat) : Nat := ((bs.take i).map fun k => ctK k r).sum
theorem ctA_snoc {l : List Int} {j : Nat} {a : Int} (h : l[j]? = some a) (r : Nat) : ctA (l.take (j + 1)) r = ctA (l.take j) r + (if a = (r : Int) then 1 else 0) := by
  unfold ctA
  rw [take_succ_of h, List.countP_append]
  by_cases e : a = (r : Int) <;> simp [e]
theorem ctP_succ {ps : List PhiD} {j : Nat} {p : PhiD} (h : ps[j]? = some p) (r : Nat) : ctP ps (j + 1) r = ctP ps j r + ctA p.args r := by unfold ctP; rw [take_succ_of h]; simp
theorem ctI_succ {ps : List InsD} {j : Nat} {p : InsD} (h : ps[j]? = some p) (r : Nat) : ctI ps (j + 1) r = ctI ps j r + ctA p.args r := by unfold ctI; rw [take_succ_of h]; simp
theorem ctF_succ {bs : List BlkD} {j : Nat} {k : BlkD} (h : bs[j]? = some k) (r : Nat) : ctF bs (j + 1) r = ctF bs j r + ctK k r := by unfold ctF; rw [take_succ_of h]; simp
theorem ctA_le (l : List Int) (r : Nat) : ctA l r ≤ l.length := List.countP_le_length
theorem sum_le_of {l : List Nat} {c : Nat} (h : ∀ x ∈ l, x ≤ c) : l.sum ≤ c * l.length := by
  induction l with
  | nil => simp
  | cons a l ih =>
    have h1 := h a (by simp)
    have h2 := ih (fun x hx => h x (by simp [hx]))
    rw [List.sum_cons, List.length_cons, Nat.mul_succ]; omega
theorem ctP_le {ps : List PhiD} (h : ∀ p ∈ ps, p.args.length ≤ 300) (hl : ps.length ≤ 300) (j r : Nat) : ctP ps j r ≤ 90000 := by
  unfold ctP
  have h1 := sum_le_of (l := (ps.take j).map fun p => ctA p.args r) (c := 300) (fun x hx => by
    obtain ⟨p, hp, rfl⟩ := List.mem_map.1 hx
    exact Nat.le_trans (ctA_le _ _) (h p (List.mem_of_mem_take hp)))
  rw [List.length_map, List.length_take] at h1
  have h2 : 300 * min j ps.length ≤ 300 * 300 := Nat.mul_le_mul (Nat.le_refl _) (by omega)
  omega
theorem ctI_le {ps : List InsD} (h : ∀ p ∈ ps, p.args.length ≤ 300) (hl : ps.length ≤ 300) (j r : Nat) : ctI ps j r ≤ 90000 := by
  unfold ctI
  have h1 := sum_le_of (l := (ps.take j).map fun p => ctA p.args r) (c := 300) (fun x hx => by
    obtain ⟨p, hp, rfl⟩ := List.mem_map.1 hx
    exact Nat.le_trans (ctA_le _ _) (h p (List.mem_of_mem_take hp)))
  rw [List.length_map, List.length_take] at h1
  have h2 : 300 * min j ps.length ≤ 300 * 300 := Nat.mul_le_mul (Nat.le_refl _) (by omega)
  omega
theorem lv_phis {f : FunD} (h : LvOk f) {i : Nat} {k : BlkD} (hk : f.blocks[i]? = some k) : ∀ p ∈ k.phis, p.args.length ≤ 300 := fun p hp => by
  have h1 := ((h.phi i k hk).2 p hp).1
  have h2 := aheadK_len f.blocks 0 i
  have := h.nb
  rw [h1]; unfold aheadL; omega
theorem ctK_le {f : FunD} (h : LvOk f) {i : Nat} {k : BlkD} (hk : f.blocks[i]? = some k) (r : Nat) : ctK k r ≤ 180001 := by
  unfold ctK
  have h1 := ctP_le (lv_phis h hk) (h.phi i k hk).1 k.phis.length r
  have h2 := ctI_le (fun x hx => ((h.use i k hk).ins x hx).2.2) (h.use i k hk).len k.ins.length r
  split <;> omega
theorem ctF_le {f : FunD} (h : LvOk f) (i r : Nat) : ctF f.blocks i r ≤ 180001 * 64 := by
  unfold ctF
  have h1 := sum_le_of (l := (f.blocks.take i).map fun k => ctK k r) (c := 180001) (fun x hx => by
    obtain ⟨k, hk, rfl⟩ := List.mem_map.1 hx
    obtain ⟨j, hj⟩ := List.mem_iff_getElem?.1 (List.mem_of_mem_take hk)
    exact ctK_le h hj r)
  rw [List.length_map, List.length_take] at h1
  have := h.nb
  have h2 : 180001 * min i f.blocks.length ≤ 180001 * 64 := Nat.mul_le_mul (Nat.le_refl _) (by omega)
  omega

/-! ### The walks -/
set_option maxRecDepth 100000 in
set_option maxHeartbeats 8000000 in
theorem add_any (w : World) (G R : Nat) (F : Nat → Nat) (rs : List Int) (A : Option Addr) (c : Nat) (hrow : w.rowIs G 3 R (fun r => .int .i64 (F r : Int))) (hrs : ∀ w', FrX (fun b => b = G) w w' → SL w' 1 RInt A c rs) (hok : ∀ a ∈ rs, InR R a) (hl : rs.length ≤ 1000) (hF : ∀ r, F r ≤ 100000000) :
    Calls Try.prog 44 #[.slice (some ⟨G, 0, none⟩) R R, .slice A rs.length c] w fun e w' => e = .returned (.tuple #[]) ∧ w'.rowIs G 3 R (fun r => .int .i64 ((F r + ctA rs r : Nat) : Int)) ∧ FrX (fun b => b = G) w w' := by
  have HR := Lib.hid hrow
  have HS := Lib.hid hrs
  have HOK := Lib.hid hok
  have HF := Lib.hid hF
  obtain ⟨lz, hlz⟩ : ∃ lz, rs.length = lz := ⟨_, rfl⟩
  have HLZ := Lib.hid hlz
  rw [hlz] at hl ⊢
  clear hrow hrs hok hF hlz
  go_enter Try.func44, Try.ntmps44
  go_wp2_with fail
  go_loopw [8] (fun s8 wq => ∃ j : Nat, j ≤ lz ∧ s8 = .int .i64 (j : Int) ∧ wq.rowIs G 3 R (fun r => .int .i64 ((F r + ctA (rs.take j) r : Nat) : Int)) ∧ FrX (fun b => b = G) w wq) (fun s8 _ => lz - (intOf s8).toNat)
  case atStart => exact ⟨0, Nat.zero_le _, rfl, HR.out.congr fun r _ => by simp [ctA], FrX.refl _ _⟩
  case round =>
    obtain ⟨j, hj, rfl, hr, hfr⟩ := hrel
    have HRJ := Lib.hid hr
    have HFJ := Lib.hid hfr
    by_cases hjl : j < lz
    · obtain ⟨bt, ot, y, rfl, hy, hyc, -⟩ := (HS.out wr hfr).int (k := j) (by rw [HLZ.out]; exact hjl)
      have hyr := HOK.out y (List.mem_of_getElem? hy.out)
      obtain ⟨d, rfl⟩ : ∃ d : Nat, y = (d : Int) := ⟨y.toNat, by have := hyr.1; omega⟩
      have hdR : d < R := by have := hyr.2; omega
      have x0 := hr.cell hdR
      have f0 := hr.frozen d
      obtain ⟨z, hz⟩ : ∃ z, F d + ctA (rs.take j) d = z := ⟨_, rfl⟩
      rw [hz] at x0
      have hz9 : z ≤ 200000000 := by
        have h1 := HF.out d
        have h2 := ctA_le (rs.take j) d
        rw [List.length_take] at h2; omega
      have HZ := Lib.hid hz
      have HST := Lib.hid (ctA_snoc hy.out)
      have hd0 : (0 : Int) ≤ d := by omega
      have hd1 : (d : Int) < R := by omega
      have hj0 : (0 : Int) ≤ j := by omega
      have hj1 : (j : Int) < lz := by omega
      clear hr hfr hy hyr hz
      go_wp2_with fail
      go_roundw
      case rel =>
        refine ⟨j + 1, by omega, by go_num, (HRJ.out.set d _).congr fun r _ => ?_, HFJ.out.setCell (p := ⟨G, d, none⟩) (.inl rfl) _⟩
        rw [HST.out r]
        by_cases e : r = d
        · subst e; rw [if_pos rfl, if_pos rfl, ← HZ.out]; simp; omega
        · rw [if_neg e, if_neg (show ¬ (d : Int) = (r : Int) by omega)]; simp
      case measure => simp [intOf]; omega
    · obtain rfl : j = lz := by omega
      clear hr hfr
      go_wp2_with fail
      go_end0
      refine ⟨rfl, ?_, HFJ.out⟩
      have h1 := HRJ.out
      rw [List.take_of_length_le (by rw [HLZ.out]; exact Nat.le_refl _)] at h1
      exact h1
/-- How often registers are named, or what is amiss. -/
def ToldCt (m : List FunD) (n : Int) (w : World) (e : Ending) (w' : World) : Prop :=
  (∃ vc ve, e = .returned (.tuple #[vc, ve]) ∧
    ((vc = .slice none 0 0 ∧ ((¬ Proper m ∧ ErrAt w' ve (modE m)) ∨ (Proper m ∧ ¬ (0 ≤ n ∧ n < m.length) ∧ ve = .iface 94 (.int .i64 1)))) ∨
     (Proper m ∧ ve = .nilIface ∧ ∃ (k : Nat) (f : FunD) (G : Nat), n = (k : Int) ∧ m[k]? = some f ∧ vc = .slice (some ⟨G, 0, none⟩) f.regs.length f.regs.length ∧ w.heap.size ≤ G ∧ w'.rowIs G 3 f.regs.length (fun r => .int .i64 (ctF f.blocks f.blocks.length r : Int)) ∧ LvOk f))) ∧ Below w.heap.size w w'
set_option maxRecDepth 100000 in
set_option maxHeartbeats 16000000 in
theorem count_any (m : List FunD) (n : Int) (v : Value) (w : World) (hv : VMod w v m) (hsm : SmallM m) : Calls Try.prog 25 #[v, .int .i64 n] w (ToldCt m n w) := by
  have hv0 := hv
  obtain ⟨Am, cm, rfl, hm⟩ := hv
  have HSM := Lib.hid hsm
  have HMM := Lib.hid hm
  clear hm hsm
  go_enter Try.func25, Try.ntmps25
  go_upto_region 1 with fail
  obtain ⟨w1, hw1, hs1, hk1, hbel1, hc1, -⟩ := named w #[.slice Am m.length cm] 38
  rw [← hw1]
  have c0 : w1.cell? ⟨w.heap.size, 0, none⟩ = some (.slice Am m.length cm) := hc1 0 _ rfl
  have HB1 := Lib.hid hbel1
  have HS1 : Hid (w1.heap.size = w.heap.size + 1) := Lib.hid hs1
  have HV1 := Lib.hid (VMod.keep hk1 hv0)
  obtain ⟨N, hN⟩ : ∃ N, N = w.heap.size := ⟨_, rfl⟩
  have HN := Lib.hid hN
  rw [← hN] at c0 ⊢
  clear hw1 hs1 hk1 hc1 hbel1 hv0 hN
  go_wp2_with fail
  refine (whether_any m n _ _ HV1.out HSM.out).mono ?_
  rintro e w3 ⟨⟨ve, rfl, hErr⟩, hb3⟩
  have q3 := kept_of_below hb3 _ _ c0
  have HB3 : Hid (Below w.heap.size w w3) := Lib.hid (HB1.out.trans (hb3.mono (by have := HS1.out; omega)))
  have HN3 : Hid (N < w3.heap.size) := Lib.hid (by have := hb3.size; have := HS1.out; have := HN.out; omega)
  have HERR := Lib.hid hErr
  clear c0 hb3 hErr
  rcases HERR.out with ⟨hp, he⟩ | ⟨hp, hn, rfl⟩ | ⟨hp, hn, rfl⟩
  · obtain ⟨te, xe, hve⟩ := err_form he hp
    subst hve
    have HPR := Lib.hid hp
    have HE := Lib.hid he
    clear hp he
    go_wp2_with fail
    (try simp only [Exit.inBlock, Exit.then])
    refine bodyPost_ret (results_tmp2 rfl _ _ _) rfl ?_
    exact ⟨⟨_, _, rfl, .inl ⟨rfl, .inl ⟨HPR.out, HE.out⟩⟩⟩, HB3.out⟩
  · have HPR := Lib.hid (And.intro hp hn)
    clear hp hn
    go_wp2_with fail
    (try simp only [Exit.inBlock, Exit.then])
    refine bodyPost_ret (results_tmp2 rfl _ _ _) rfl ?_
    exact ⟨⟨_, _, rfl, .inl ⟨rfl, .inr ⟨HPR.out.1, HPR.out.2, rfl⟩⟩⟩, HB3.out⟩
  · obtain ⟨k, rfl⟩ : ∃ k : Nat, n = (k : Int) := ⟨n.toNat, by omega⟩
    have hkl : k < m.length := by omega
    have hk3 : Kept w w3 := kept_of_below HB3.out
    obtain ⟨b, o, f, rfl, hF, ⟨c0, z0⟩, ⟨c1, z1⟩, ⟨Ar, cr, c2, z2⟩, ⟨Ab, cb, c3, z3⟩⟩ := (SFuns.keep hk3 HMM.out).at_ hkl
    have hok := lv_ok hp HSM.out (List.mem_of_getElem? hF.out)
    have HBS := Lib.hid z3
    have HPR := Lib.hid hp
    have HOK := Lib.hid hok
    have HFF := Lib.hid hF
    have hk0 : (0 : Int) ≤ k := by omega
    have hk1 : (k : Int) < m.length := by omega
    have hnr := hok.nr
    have hnb := hok.nb
    obtain ⟨R, hR⟩ : ∃ R, f.regs.length = R := ⟨_, rfl⟩
    have HRR := Lib.hid hR
    rw [hR] at c2 hnr
    have hmk := run_make_row' (P := Try.prog) 22 3 (.int .i64 0) 8 Try.underlying22 Try.info3 rfl .i64 .i64 R (by omega) (by omega)
    have hbb := block_lt_of_cell c3
    clear hp hn hk3 hok hF z0 z1 z2 z3 hR
    go_upto_region 5 with fail
    clear hmk
    obtain ⟨G, hG⟩ : ∃ G, G = w3.heap.size := ⟨_, rfl⟩
    obtain ⟨w4, hw4⟩ : ∃ w4, w4 = w3.alloc (.cells (madeCells #[.int .i64 0] R) 3) := ⟨_, rfl⟩
    have b1 : w4.heap[G]? = some (.cells (madeCells #[.int .i64 0] R) 3) := by rw [hw4, hG]; exact heap_alloc_new _ _
    have hbel : Below w3.heap.size w3 w4 := by rw [hw4]; exact (Below.refl _ _).alloc (Nat.le_refl _) _
    have HROW := Lib.hid (row_madeQ b1)
    have HGZ : Hid (G = w3.heap.size ∧ w4.heap.size = G + 1 ∧ w.heap.size ≤ G) := Lib.hid ⟨hG, by rw [hw4, hG]; simp, by have := HB3.out.size; omega⟩
    have HB4 : Hid (∀ W, FrX (fun b => b = G) w4 W → Below w3.heap.size w3 W) := Lib.hid (fun W h => hbel.trans (h.below hbel.size (fun b hb => by have hb : b = G := hb; omega)))
    have q4 := kept_of_below hbel _ _ q3
    have d3 := kept_of_below hbel _ _ c3
    rw [← hw4, ← hG]
    clear hw4 hG b1 hbel q3 c0 c1 c2 c3 hbb
    go_wp2_with fail
    clear q4 d3
    go_loopw [35] (fun s35 wq => ∃ i : Nat, i ≤ f.blocks.length ∧ s35 = .int .i64 (i : Int) ∧ wq.rowIs G 3 R (fun r => .int .i64 (ctF f.blocks i r : Int)) ∧ FrX (fun b => b = G) w4 wq) (fun s35 _ => f.blocks.length - (intOf s35).toNat)
    case atStart => exact ⟨0, Nat.zero_le _, rfl, HROW.out.congr fun r _ => by simp [ctF], FrX.refl _ _⟩
    case round =>
      obtain ⟨i, hi, rfl, hr, hfr⟩ := hrel
      obtain ⟨wL, rfl⟩ : ∃ wL, wL = wr := ⟨_, rfl⟩
      have HRL := Lib.hid hr
      have HFL := Lib.hid hfr
      by_cases hil : i < f.blocks.length
      · have hbw := HB4.out wL hfr
        obtain ⟨bk, ok, kb, rfl, hk, ⟨A1, a1, k0', hs1⟩, ⟨A2, a2, k1', hs2⟩, k2', k3', A3, a3, k4', hs3⟩ := HBS.out.at_ hil
        have hkp := kept_of_below hbw
        have k0 := hkp _ _ k0'
        have k1 := hkp _ _ k1'
        have k2 := hkp _ _ k2'.1
        have k3 := hkp _ _ k3'.1
        have k4 := hkp _ _ k4'
        have hi0 : (0 : Int) ≤ i := by omega
        have hi1 : (i : Int) < f.blocks.length := by omega
        have HKK := Lib.hid hk
        have HPS := Lib.hid hs1
        have HIS := Lib.hid hs2
        have hpl := (HOK.out.phi i kb hk).1
        have hinl := (HOK.out.use i kb hk).len
        have HPI := Lib.hid (HOK.out.phi i kb hk).2
        have HUI := Lib.hid (HOK.out.use i kb hk)
        have HP3 := Lib.hid (lv_phis HOK.out hk)
        have HCF := Lib.hid (fun r => ctF_le HOK.out i r)
        obtain ⟨Q, hQ⟩ : ∃ Q, Q = wL.heap.size := ⟨_, rfl⟩
        obtain ⟨wB, hwB⟩ : ∃ wB, wB = wL.alloc (.cells #[.slice A1 kb.phis.length a1, .slice A2 kb.ins.length a2, .int .i64 kb.term.kind, .int .i64 kb.term.arg, .slice A3 kb.term.to.length a3] 52) := ⟨_, rfl⟩
        have hbQ : wB.heap[Q]? = some (.cells #[.slice A1 kb.phis.length a1, .slice A2 kb.ins.length a2, .int .i64 kb.term.kind, .int .i64 kb.term.arg, .slice A3 kb.term.to.length a3] 52) := by rw [hwB, hQ]; exact heap_alloc_new _ _
        have hbelB : Below wL.heap.size wL wB := by rw [hwB]; exact (Below.refl _ _).alloc (Nat.le_refl _) _
        have HQ : Hid (Q = wL.heap.size ∧ wB.heap.size = Q + 1 ∧ G < Q) := Lib.hid ⟨hQ, by rw [hwB, hQ]; simp, by have := hr.lt; omega⟩
        have HBQ := Lib.hid hbQ
        have HFB : Hid (FrX (fun b => b = G) w4 wB) := Lib.hid (hfr.trans (.of_below hbelB))
        have HRB := Lib.hid (hr.of_block (hbelB.block G hr.lt))
        have q0 := cell_of_block hbQ 0
        go_upto_region 8 with fail
        rw [← hwB, ← hQ]
        clear hr hfr hbw hkp k0 k1 k2 k3 k4 k0' k1' k2' k3' k4' hs1 hs2 hs3 hk hQ hwB hbQ hbelB
        go_wp2_with fail
        clear q0
        go_loopw [42] (fun s42 wq => ∃ j : Nat, j ≤ kb.phis.length ∧ s42 = .int .i64 (j : Int) ∧ wq.rowIs G 3 R (fun r => .int .i64 ((ctF f.blocks i r + ctP kb.phis j r : Nat) : Int)) ∧ FrX (fun b => b = G) wB wq) (fun s42 _ => kb.phis.length - (intOf s42).toNat)
        case atStart => exact ⟨0, Nat.zero_le _, rfl, HRB.out.congr fun r _ => by simp [ctP], FrX.refl _ _⟩
        case round =>
          obtain ⟨j, hj, rfl, hr, hfr⟩ := hrel
          obtain ⟨wj, rfl⟩ : ∃ wj, wj = wr := ⟨_, rfl⟩
          have HRJ := Lib.hid hr
          have HFJ := Lib.hid hfr
          by_cases hjl : j < kb.phis.length
          · have hbw := HB4.out wj (HFB.out.trans hfr)
            obtain ⟨bp, op, p, rfl, hp, hpd, A5, a5, hpa, hps⟩ := HPS.out.at_ hjl
            have hkp := kept_of_below hbw
            have d0 := hkp _ _ hpd.1
            have d1 := hkp _ _ hpa
            have hpr := (HPI.out p (List.mem_of_getElem? hp.out)).2.2
            have hp3 := HP3.out p (List.mem_of_getElem? hp.out)
            have HPP := Lib.hid hp
            have hj0 : (0 : Int) ≤ j := by omega
            have hj1 : (j : Int) < kb.phis.length := by omega
            have hcl := add_any (wj.alloc (.cells #[.int .i64 p.dst, .slice A5 p.args.length a5] 83)) G R (fun r => ctF f.blocks i r + ctP kb.phis j r) p.args A5 a5 (hr.alloc _) (fun w' hf => SInts.keep (kept_of_below (HB4.out w' (HFB.out.trans ((HFJ.out.alloc _).trans hf)))) hps) (fun a ha => by rw [← HRR.out]; exact hpr a ha) (by omega) (fun r => by have := HCF.out r; have := ctP_le HP3.out hpl j r; omega)
            have HCL := Lib.hid hcl
            clear hr hfr hbw hkp hpd hpa hps hp hpr hp3 hcl
            go_wp2_with (go_at_call 44; refine HCL.out.mono ?_; rintro e w5 ⟨rfl, hr5, hf5⟩)
            go_roundw
            case rel => exact ⟨j + 1, by omega, by go_num, hr5.congr fun r _ => by rw [ctP_succ HPP.out, Nat.add_assoc], (HFJ.out.alloc _).trans hf5⟩
            case measure => simp [intOf]; omega
          · obtain rfl : j = kb.phis.length := by omega
            have hbQ2 : wj.heap[Q]? = _ := (hfr.block Q (by have := HQ.out; omega) (by have := HQ.out; show ¬ Q = G; omega)).trans HBQ.out
            have q1 := cell_of_block hbQ2 1
            clear hr hfr hbQ2
            go_wp2_with fail
            clear q1
            go_loopw [54] (fun s54 wq => ∃ j : Nat, j ≤ kb.ins.length ∧ s54 = .int .i64 (j : Int) ∧ wq.rowIs G 3 R (fun r => .int .i64 ((ctF f.blocks i r + ctP kb.phis kb.phis.length r + ctI kb.ins j r : Nat) : Int)) ∧ FrX (fun b => b = G) wB wq) (fun s54 _ => kb.ins.length - (intOf s54).toNat)
            case atStart => exact ⟨0, Nat.zero_le _, rfl, HRJ.out.congr fun r _ => by simp [ctI], HFJ.out⟩
            case round =>
              obtain ⟨j, hj, rfl, hr, hfr⟩ := hrel
              obtain ⟨wi, rfl⟩ : ∃ wi, wi = wr := ⟨_, rfl⟩
              have HRI := Lib.hid hr
              have HFI := Lib.hid hfr
              by_cases hjl : j < kb.ins.length
              · have hbw := HB4.out wi (HFB.out.trans hfr)
                obtain ⟨bp, op, x, rfl, hx, h0, h1, ⟨A5, a5, h2, hps⟩, h3, h4⟩ := HIS.out.at_ hjl
                have hkp := kept_of_below hbw
                have d0 := hkp _ _ h0.1
                have d1 := hkp _ _ h1.1
                have d2 := hkp _ _ h2
                have d3 := hkp _ _ h3.1
                have d4 := hkp _ _ h4.1
                obtain ⟨hxa, -, hxl⟩ := HUI.out.ins x (List.mem_of_getElem? hx.out)
                have HXX := Lib.hid hx
                have hj0 : (0 : Int) ≤ j := by omega
                have hj1 : (j : Int) < kb.ins.length := by omega
                have hcl := add_any (wi.alloc (.cells #[.int .i64 x.op, .int .i64 x.dst, .slice A5 x.args.length a5, .int .i64 x.imm, .int .i64 x.fn] 55)) G R (fun r => ctF f.blocks i r + ctP kb.phis kb.phis.length r + ctI kb.ins j r) x.args A5 a5 (hr.alloc _) (fun w' hf => SInts.keep (kept_of_below (HB4.out w' (HFB.out.trans ((HFI.out.alloc _).trans hf)))) hps) (fun a ha => by rw [← HRR.out]; exact hxa a ha) (by omega) (fun r => by have := HCF.out r; have := ctP_le HP3.out hpl kb.phis.length r; have := ctI_le (fun x hx => (HUI.out.ins x hx).2.2) hinl j r; omega)
                have HCL := Lib.hid hcl
                clear hr hfr hbw hkp h0 h1 h2 h3 h4 hps hx hxa hxl hcl
                go_wp2_with (go_at_call 44; refine HCL.out.mono ?_; rintro e w5 ⟨rfl, hr5, hf5⟩)
                go_roundw
                case rel => exact ⟨j + 1, by omega, by go_num, hr5.congr fun r _ => by rw [ctI_succ HXX.out, Nat.add_assoc (ctF f.blocks i r + ctP kb.phis kb.phis.length r)], (HFI.out.alloc _).trans hf5⟩
                case measure => simp [intOf]; omega
              · obtain rfl : j = kb.ins.length := by omega
                have hbQ2 : wi.heap[Q]? = _ := (hfr.block Q (by have := HQ.out; omega) (by have := HQ.out; show ¬ Q = G; omega)).trans HBQ.out
                have q3 := cell_of_block hbQ2 3
                have HSF := Lib.hid (ctF_succ HKK.out)
                by_cases hd : kb.term.arg = -1
                · rw [hd] at q3
                  have HRN : Hid (wi.rowIs G 3 R (fun r => .int .i64 (ctF f.blocks (i + 1) r : Int))) := Lib.hid (hr.congr fun r _ => by rw [HSF.out r]; unfold ctK; rw [if_neg (by rw [hd]; omega), Nat.add_zero, Nat.add_assoc])
                  clear hr hfr hbQ2 hd
                  go_wp2_with fail
                  go_roundw
                  case rel => exact ⟨i + 1, by omega, by go_num, HRN.out, HFB.out.trans HFI.out⟩
                  case measure => simp [intOf]; omega
                · obtain ⟨d, hde, hdR⟩ : ∃ d : Nat, kb.term.arg = (d : Int) ∧ d < R := by
                    rw [← HRR.out]
                    rcases HUI.out.arg with h1 | h1
                    · exact absurd h1 hd
                    · exact ⟨kb.term.arg.toNat, by have := h1.1; omega, by have := h1.1; have := h1.2; omega⟩
                  rw [hde] at q3
                  have HDE := Lib.hid hde
                  have hd0 : (0 : Int) ≤ d := by omega
                  have hcl := add_any (wi.alloc (.cells #[.int .i64 (d : Int)] 3)) G R (fun r => ctF f.blocks i r + ctP kb.phis kb.phis.length r + ctI kb.ins kb.ins.length r) [(d : Int)] (some ⟨wi.heap.size, 0, none⟩) 1 (hr.alloc _) (fun w' hf => SL.one ⟨(World.cell?_of_block (a := ⟨wi.heap.size, 0, none⟩) (hf.block _ (by simp) (by have := hr.lt; show ¬ wi.heap.size = G; omega))).trans (by simp), by unfold I64; omega⟩) (fun a ha => by rw [List.mem_singleton.1 ha]; exact ⟨by omega, by omega⟩) (by simp) (fun r => by have := HCF.out r; have := ctP_le HP3.out hpl kb.phis.length r; have := ctI_le (fun x hx => (HUI.out.ins x hx).2.2) hinl kb.ins.length r; omega)
                  have HCL := Lib.hid hcl
                  clear hr hfr hbQ2 hd hde hcl
                  go_wp2_with (go_at_call 44; refine HCL.out.mono ?_; rintro e w5 ⟨rfl, hr5, hf5⟩)
                  go_roundw
                  case rel =>
                    refine ⟨i + 1, by omega, by go_num, hr5.congr fun r _ => ?_, HFB.out.trans ((HFI.out.alloc _).trans hf5)⟩
                    rw [HSF.out r]
                    unfold ctK ctA
                    rw [HDE.out]
                    by_cases e : (d : Int) = (r : Int)
                    · simp [e]; omega
                    · simp [e]; omega
                  case measure => simp [intOf]; omega
      · obtain rfl : i = f.blocks.length := by omega
        clear hr hfr
        go_wp2_with fail
        (try simp only [Exit.inBlock, Exit.then])
        refine bodyPost_ret (results_tmp2 rfl _ _ _) rfl ?_
        refine ⟨⟨_, _, rfl, .inr ⟨HPR.out, rfl, k, f, G, rfl, HFF.out, by rw [HRR.out]; rfl, HGZ.out.2.2, by rw [HRR.out]; exact HRL.out, HOK.out⟩⟩, HB3.out.trans ((HB4.out _ HFL.out).mono HB3.out.size)⟩
end Go.Proofs.Ytflbooopgjgkbaa
