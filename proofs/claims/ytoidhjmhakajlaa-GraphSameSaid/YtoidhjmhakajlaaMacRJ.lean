/- ofFunc, Module, Func, Plain: what the document says, given that ofInstr does. -/
import Derived.Test.YtoidhjmhakajlaaChkDJ
import Derived.StillTailTactics
import Derived.Test.YtoidhjmhakajlaaChkMJ
import Derived.Test.YtoidhjmhakajlaaMacP
import Derived.Test.YtoidhjmhakajlaaInsG
namespace Go.Proofs.Ytoidhjmhakajlaa
open Go.ChangeShapes Go.WideShapes Go.RowKit Go.Deep
set_option linter.unusedVariables false

theorem typed_regs {f : FunD} (h : typedB f = true) : ∀ t ∈ f.regs, t = 1 ∨ t = 2 := fun t ht => by
  unfold typedB at h
  rw [Bool.and_eq_true, Bool.and_eq_true] at h
  exact of_decide_eq_true (List.all_eq_true.1 h.1.1 t ht)

set_option maxRecDepth 100000 in
set_option maxHeartbeats 4000000 in
theorem ofFunc_any (OI : OfIns) (m : List FunD) (f : FunD) (vm vf : Value) (w : World) (hm : VMod w vm m) (hf : VFun w vf f) (hlim : Lim f) :
    Calls Try.prog 37 #[vm, vf] w fun e w' => e = .returned (errV (funE m f)) ∧ Below w.heap.size w w' := by
  have hm0 := hm
  have hf0 := hf
  obtain ⟨Am, cm, rfl, hms⟩ := hm
  obtain ⟨Ar, cr, Ab, cb, rfl, hr, hbs, hp64, hr64⟩ := hf
  have hbl := hbs.len
  go_enter Try.func37, Try.ntmps37
  go_wp2_with fail
  obtain ⟨wa, hwa, hsa, hka, hba, hca, -⟩ := named w #[.slice Am m.length cm] 24
  obtain ⟨w1, hw1, hs1, hk1, hb1, hc1, -⟩ := named wa #[.int .i64 f.params, .int .i64 f.result, .slice Ar f.regs.length cr, .slice Ab f.blocks.length cb] 39
  rw [← hwa, ← hw1]
  rw [hsa] at hc1
  have hB1 : Below w.heap.size w w1 := hba.trans (hb1.mono (by omega))
  have q0 : w1.cell? ⟨w.heap.size, 0, none⟩ = some (.slice Am m.length cm) := hk1 _ _ (hca 0 _ rfl)
  have f0 : w1.cell? ⟨w.heap.size + 1, 0, none⟩ = some (.int .i64 f.params) := hc1 0 _ rfl
  have f1 : w1.cell? ⟨w.heap.size + 1, 1, none⟩ = some (.int .i64 f.result) := hc1 1 _ rfl
  have f2 : w1.cell? ⟨w.heap.size + 1, 2, none⟩ = some (.slice Ar f.regs.length cr) := hc1 2 _ rfl
  have f3 : w1.cell? ⟨w.heap.size + 1, 3, none⟩ = some (.slice Ab f.blocks.length cb) := hc1 3 _ rfl
  have hs1 : w.heap.size + 1 < w1.heap.size := by omega
  clear hwa hw1 hsa hca hc1 hka hk1 hba hb1
  have hk1 := kept_of_below hB1
  refine (isWithin_any f _ _ (VFun.keep hk1 hf0) hlim).mono ?_
  rintro e w2 ⟨rfl, hb2⟩
  have hB2 : Below w.heap.size w w2 := hB1.trans (hb2.mono hB1.size)
  have hk2 := kept_of_below hb2
  have q0 := hk2 _ _ q0
  have f0 := hk2 _ _ f0
  have f1 := hk2 _ _ f1
  have f2 := hk2 _ _ f2
  have f3 := hk2 _ _ f3
  have hs2 : w.heap.size + 1 < w2.heap.size := by have := hb2.size; omega
  cases hwi : withinB f
  · have HE : Hid (funE m f = 5) := Lib.hid (by unfold funE outerE; rw [hwi]; rfl)
    clear hwi
    go_wp2_with fail
    go_ret
    exact ⟨by rw [HE.out]; rfl, hB2⟩
  · have HWI := Lib.hid hwi
    have hn64 : f.blocks.length ≤ 64 := by unfold withinB at hwi; exact (of_decide_eq_true hwi).2.1
    clear hwi
    go_wp2_with fail
    refine (isTyped_any f _ _ (VFun.keep (hk1.trans hk2) hf0)).mono ?_
    rintro e w3 ⟨rfl, hb3⟩
    have hB3 : Below w.heap.size w w3 := hB2.trans (hb3.mono hB2.size)
    have hk3 := kept_of_below hb3
    have q0 := hk3 _ _ q0
    have f0 := hk3 _ _ f0
    have f1 := hk3 _ _ f1
    have f2 := hk3 _ _ f2
    have f3 := hk3 _ _ f3
    cases hty : typedB f
    · have HE : Hid (funE m f = 3) := Lib.hid (by unfold funE outerE; rw [HWI.out, hty]; rfl)
      clear hty
      go_wp2_with fail
      go_ret
      exact ⟨by rw [HE.out]; rfl, hB3⟩
    · have HTY := Lib.hid hty
      clear hty
      go_wp2_with fail
      refine (endsWell_any f _ _ (VFun.keep ((hk1.trans hk2).trans hk3) hf0)).mono ?_
      rintro e w4 ⟨rfl, hb4⟩
      have hB4 : Below w.heap.size w w4 := hB3.trans (hb4.mono hB3.size)
      have hk4 := kept_of_below hb4
      have q0 := hk4 _ _ q0
      have f0 := hk4 _ _ f0
      have f1 := hk4 _ _ f1
      have f2 := hk4 _ _ f2
      have f3 := hk4 _ _ f3
      cases hew : endsWellB f
      · have HE : Hid (funE m f = 6) := Lib.hid (by unfold funE outerE; rw [HWI.out, HTY.out, hew]; rfl)
        clear hew
        go_wp2_with fail
        go_ret
        exact ⟨by rw [HE.out]; rfl, hB4⟩
      · have HEW := Lib.hid hew
        clear hew
        go_wp2_with fail
        refine (phisMeet_any f _ _ (VFun.keep (((hk1.trans hk2).trans hk3).trans hk4) hf0) (by omega)).mono ?_
        rintro e w5 ⟨rfl, hb5⟩
        have hB5 : Below w.heap.size w w5 := hB4.trans (hb5.mono hB4.size)
        have hk5 := kept_of_below hb5
        have hK5 := (((hk1.trans hk2).trans hk3).trans hk4).trans hk5
        have q0 := hk5 _ _ q0
        have f0 := hk5 _ _ f0
        have f1 := hk5 _ _ f1
        have f2 := hk5 _ _ f2
        have f3 := hk5 _ _ f3
        have hs5 : w.heap.size + 1 < w5.heap.size := by have := hb3.size; have := hb4.size; have := hb5.size; omega
        cases hme : meetB f
        · have HE : Hid (funE m f = 6) := Lib.hid (by unfold funE outerE; rw [HWI.out, HTY.out, HEW.out, hme]; rfl)
          clear hme
          go_wp2_with fail
          go_ret
          exact ⟨by rw [HE.out]; rfl, hB5⟩
        · have HO : Hid (funE m f = firstE (f.blocks.map (blockE m f))) := Lib.hid (by
            have : outerE f = 0 := by unfold outerE; rw [HWI.out, HTY.out, HEW.out, hme]; rfl
            unfold funE; rw [if_pos this])
          clear hme
          go_wp2_with fail
          go_loopw [29] (fun i wr => ∃ k : Nat, k ≤ f.blocks.length ∧ i = .int .i64 k ∧ Below w5.heap.size w5 wr ∧ Hid (firstE ((f.blocks.take k).map (blockE m f)) = 0)) (fun i _ => f.blocks.length - (intOf i).toNat)
          case atStart => exact ⟨0, Nat.zero_le _, rfl, Below.refl _ _, Lib.hid rfl⟩
          case round =>
            obtain ⟨k, hk, rfl, hbel, hi⟩ := hrel
            have hkw : Kept w5 wr := kept_of_below hbel
            have hB : Below w.heap.size w wr := hB5.trans (hbel.mono hB5.size)
            have hso := hbel.size
            have a0 := hkw _ _ q0
            have e0 := hkw _ _ f0
            have e1 := hkw _ _ f1
            have e2 := hkw _ _ f2
            have e3 := hkw _ _ f3
            have n0 : w.heap.size < wr.heap.size := by omega
            have n1 : w.heap.size + 1 < wr.heap.size := by omega
            by_cases hlt : k < f.blocks.length
            · obtain ⟨bb, oo, b, rfl, hx, ⟨Ap, cp, h0, z0⟩, ⟨Ai, ci, h1, z1⟩, ⟨h2, z2⟩, ⟨h3, z3⟩, ⟨At, ct, h4, z4⟩⟩ := (SBlks.keep (hK5.trans hkw) hbs).at_ hlt
              go_wp2_with fail
              obtain ⟨wn, hwn, hsn, hkn, hbn, -, -⟩ := named wr #[.slice Ap b.phis.length cp, .slice Ai b.ins.length ci, .int .i64 b.term.kind, .int .i64 b.term.arg, .slice At b.term.to.length ct] 47
              have hbn' : Below w5.heap.size w5 wn := hbel.trans (hbn.mono (by omega))
              have hBn : Below w.heap.size w wn := hB.trans (hbn.mono hB.size)
              rw [← hwn]
              clear hwn hsn
              have hK := (hK5.trans hkw).trans hkn
              refine (ofBlock_any OI m f b _ _ _ _ (VMod.keep hK hm0) (VFun.keep hK hf0) ⟨Ap, cp, Ai, ci, At, ct, rfl, SPhis.keep hkn z0, SInss.keep hkn z1, SInts.keep hkn z4, z2, z3⟩ (typed_regs HTY.out)).mono ?_
              rintro e w7 ⟨rfl, hb7⟩
              have hb7' : Below w5.heap.size w5 w7 := hbn'.trans (hb7.mono hbn'.size)
              have hB7 : Below w.heap.size w w7 := hBn.trans (hb7.mono hBn.size)
              by_cases hc : blockE m f b = 0
              · have HC := Lib.hid hc
                rw [hc, errV_zero]
                clear hc
                go_wp2_with fail
                go_roundw
                case rel => exact ⟨k + 1, by omega, by go_num, hb7', Lib.hid (by rw [first_map_at (blockE m f) hx.out hi.out]; exact HC.out)⟩
                case measure => simp [intOf]; omega
              · have HC : Hid (funE m f = blockE m f b) := Lib.hid (by rw [HO.out]; exact first_map_stop (blockE m f) hx.out hi.out hc)
                rw [errV_pos hc]
                have HC2 := Lib.hid hc
                clear hc
                go_wp2_with fail
                go_ret
                exact ⟨by rw [HC.out, errV_pos HC2.out]; rfl, hB7⟩
            · have HE : Hid (funE m f = 0) := Lib.hid (by rw [HO.out]; exact first_map_done (blockE m f) hi.out (Nat.le_of_not_lt hlt))
              go_wp2_with fail
              go_ret
              exact ⟨by rw [HE.out]; rfl, hB⟩

/-- An error with its place, as the code answers it. -/
def ErrAt (w : World) (v : Value) (p : Int × Int) : Prop :=
  (p.1 = 0 ∧ v = .nilIface) ∨ (p.1 ≠ 0 ∧ p.2 = -1 ∧ v = .iface 63 (.int .i64 p.1)) ∨
  (p.1 ≠ 0 ∧ 0 ≤ p.2 ∧ ∃ g, v = .iface 81 (.pointer (some ⟨g, 0, none⟩)) ∧ w.cell? ⟨g, 0, none⟩ = some (.int .i64 p.2) ∧ w.cell? ⟨g, 1, none⟩ = some (.iface 63 (.int .i64 p.1)))
theorem ErrAt.keep {w w' : World} (h : Kept w w') {v : Value} {p : Int × Int} (hv : ErrAt w v p) : ErrAt w' v p := by
  rcases hv with h1 | h1 | ⟨h1, h2, g, h3, h4, h5⟩
  · exact .inl h1
  · exact .inr (.inl h1)
  · exact .inr (.inr ⟨h1, h2, g, h3, h _ _ h4, h _ _ h5⟩)
theorem ErrAt.nil {w : World} {v : Value} {p : Int × Int} (hv : ErrAt w v p) (hp : p.1 = 0) : v = .nilIface := by
  rcases hv with h1 | h1 | h1
  · exact h1.2
  · exact absurd hp h1.1
  · exact absurd hp h1.1
theorem ErrAt.iface {w : World} {v : Value} {p : Int × Int} (hv : ErrAt w v p) (hp : p.1 ≠ 0) : ∃ t x, v = .iface t x := by
  rcases hv with h1 | h1 | ⟨_, _, g, h3, _⟩
  · exact absurd h1.1 hp
  · exact ⟨_, _, h1.2.2⟩
  · exact ⟨_, _, h3⟩

set_option maxRecDepth 100000 in
set_option maxHeartbeats 4000000 in
theorem module_any (OI : OfIns) (m : List FunD) (vm : Value) (w : World) (hm : VMod w vm m) (hlim : ∀ f ∈ m, Lim f) :
    Calls Try.prog 19 #[vm] w fun e w' => (∃ v, e = .returned v ∧ ErrAt w' v (modE m)) ∧ Below w.heap.size w w' := by
  have hm0 := hm
  obtain ⟨Am, cm, rfl, hms⟩ := hm
  have hml := hms.len
  by_cases h32 : 32 < m.length
  · have HE : Hid (modE m = (5, -1)) := Lib.hid (if_pos h32)
    go_enter Try.func19, Try.ntmps19
    go_wp2_with fail
    go_ret
    exact ⟨⟨_, rfl, by rw [HE.out]; exact .inr (.inl ⟨by decide, rfl, rfl⟩)⟩, (Below.refl _ _).alloc (Nat.le_refl _) _⟩
  · have HM : Hid (modE m = modK m m 0) := Lib.hid (if_neg h32)
    go_enter Try.func19, Try.ntmps19
    go_wp2_with fail
    obtain ⟨w1, hw1, hs1, hk1, hB1, hc1, -⟩ := named w #[.slice Am m.length cm] 24
    rw [← hw1]
    have q0 : w1.cell? ⟨w.heap.size, 0, none⟩ = some (.slice Am m.length cm) := hc1 0 _ rfl
    have hs1 : w.heap.size < w1.heap.size := by omega
    clear hw1 hc1
    go_loopw [14] (fun i wr => ∃ k : Nat, k ≤ m.length ∧ i = .int .i64 k ∧ Below w1.heap.size w1 wr ∧ Hid ((modK m (m.take k) 0).1 = 0)) (fun i _ => m.length - (intOf i).toNat)
    case atStart => exact ⟨0, Nat.zero_le _, rfl, Below.refl _ _, Lib.hid rfl⟩
    case round =>
      obtain ⟨k, hk, rfl, hbel, hi⟩ := hrel
      have hkw : Kept w1 wr := kept_of_below hbel
      have hB : Below w.heap.size w wr := hB1.trans (hbel.mono hB1.size)
      have hso := hbel.size
      have a0 := hkw _ _ q0
      have n0 : w.heap.size < wr.heap.size := by omega
      by_cases hlt : k < m.length
      · obtain ⟨bb, oo, f, rfl, hx, ⟨h0, z0⟩, ⟨h1, z1⟩, ⟨Ar, cr, h2, z2⟩, Ab, cb, h3, z3⟩ := (SFuns.keep (hk1.trans hkw) hms).at_ hlt
        go_wp2_with fail
        obtain ⟨wn, hwn, hsn, hkn, hbn, -, -⟩ := named wr #[.int .i64 f.params, .int .i64 f.result, .slice Ar f.regs.length cr, .slice Ab f.blocks.length cb] 39
        have hbn' : Below w1.heap.size w1 wn := hbel.trans (hbn.mono (by omega))
        have hBn : Below w.heap.size w wn := hB.trans (hbn.mono hB.size)
        rw [← hwn]
        clear hwn hsn
        have hK := (hk1.trans hkw).trans hkn
        refine (ofFunc_any OI m f _ _ _ (VMod.keep hK hm0) ⟨Ar, cr, Ab, cb, rfl, SInts.keep hkn z2, SBlks.keep hkn z3, z0, z1⟩ (hlim f (List.mem_of_getElem? hx.out))).mono ?_
        rintro e w7 ⟨rfl, hb7⟩
        have hb7' : Below w1.heap.size w1 w7 := hbn'.trans (hb7.mono hbn'.size)
        have hB7 : Below w.heap.size w w7 := hBn.trans (hb7.mono hBn.size)
        by_cases hc : funE m f = 0
        · have HC := Lib.hid hc
          rw [hc, errV_zero]
          clear hc
          go_wp2_with fail
          go_roundw
          case rel => exact ⟨k + 1, by omega, by go_num, hb7', Lib.hid (by rw [modK_step hx.out hi.out, if_pos HC.out])⟩
          case measure => simp [intOf]; omega
        · have HC : Hid (modE m = (funE m f, (k : Int))) := Lib.hid (by rw [HM.out]; exact modK_stop hx.out hi.out hc)
          rw [errV_pos hc]
          have HC2 := Lib.hid hc
          clear hc
          go_wp2_with fail
          go_ret
          exact ⟨⟨_, rfl, by rw [HC.out]; exact .inr (.inr ⟨HC2.out, by show (0 : Int) ≤ k; omega, w7.heap.size, rfl, by simp, by simp⟩)⟩, hB7.alloc hB7.size _⟩
      · have HE : Hid (modE m = (0, -1)) := Lib.hid (by
          have := hi.out
          rw [List.take_of_length_le (Nat.le_of_not_lt hlt)] at this
          rw [HM.out]; exact modK_ok this)
        go_wp2_with fail
        go_ret
        exact ⟨⟨_, rfl, by rw [HE.out]; exact .inl ⟨rfl, rfl⟩⟩, hB⟩
end Go.Proofs.Ytoidhjmhakajlaa

/- What is small enough to be gone through is within the code's reach. -/
namespace Go.Proofs.Ytoidhjmhakajlaa
open Go.ChangeShapes Go.WideShapes Go.RowKit Go.Deep
set_option linter.unusedVariables false

theorem lim_of_small {m : List FunD} (h : SmallM m) : ∀ f ∈ m, Lim f := fun f hf b hb => by
  have := (h.2 f hf).2.2.2 b hb
  exact ⟨by have := this.2.1; omega, by have := this.1; omega⟩
end Go.Proofs.Ytoidhjmhakajlaa

/- Whether a function may be entered so; a run. -/
namespace Go.Proofs.Ytoidhjmhakajlaa
open Go.ChangeShapes Go.WideShapes Go.RowKit Go.Deep
set_option linter.unusedVariables false

def fitB (p : Int × Int) : Bool := (p.1 != 2) || decide (0 ≤ p.2 ∧ p.2 < ((2 : Nat) : Int))
/-- May a function be entered with these arguments? -/
def takesB (F : FunD) (args : List Int) : Bool := decide ((args.length : Int) = F.params) && (F.regs.zip args).all fitB

set_option maxRecDepth 100000 in
set_option maxHeartbeats 4000000 in
theorem takes_any (F : FunD) (args : List Int) (v : Value) (A : Option Addr) (c : Nat) (w : World) (hv : VFun w v F) (ha : SL w 1 RInt A c args) (hp : F.params ≤ F.regs.length) :
    Calls Try.prog 22 #[v, .slice A args.length c] w fun e w' => e = .returned (.bool (takesB F args)) ∧ Below w.heap.size w w' := by
  obtain ⟨Ar, cr, Ab, cb, rfl, hr, hb, hp64, hr64⟩ := hv
  have hal := ha.len
  have hrl := hr.len
  obtain ⟨w1, hw1, hs1, hk1, hB1, hc1, -⟩ := named w #[.int .i64 F.params, .int .i64 F.result, .slice Ar F.regs.length cr, .slice Ab F.blocks.length cb] 39
  have d0 : w1.cell? ⟨w.heap.size, 0, none⟩ = some (.int .i64 F.params) := hc1 0 _ rfl
  have d2 : w1.cell? ⟨w.heap.size, 2, none⟩ = some (.slice Ar F.regs.length cr) := hc1 2 _ rfl
  have ha1 := SInts.keep hk1 ha
  have hr1 := SInts.keep hk1 hr
  have hlt : w.heap.size < w1.heap.size := by omega
  by_cases hl : (args.length : Int) = F.params
  · have hlb : ((args.length : Int) != F.params) = false := by simp [hl]
    have HT : Hid (takesB F args = (F.regs.zip args).all fitB) := Lib.hid (by unfold takesB; rw [decide_eq_true hl]; rfl)
    have HLE : Hid (args.length ≤ F.regs.length) := Lib.hid (by omega)
    have HB1 := Lib.hid hB1
    clear hl hc1 hs1 hk1 hB1 ha hr hb
    go_enter Try.func22, Try.ntmps22
    go_wp2_with fail
    rw [← hw1]
    clear hw1
    go_loopw [14] (fun i wr => ∃ j : Nat, j ≤ args.length ∧ i = .int .i64 j ∧ Hid (((F.regs.zip args).take j).all fitB = true) ∧ wr = w1) (fun i _ => args.length - (intOf i).toNat)
    case atStart => exact ⟨0, Nat.zero_le _, rfl, Lib.hid rfl, rfl⟩
    case round =>
      obtain ⟨j, hj, rfl, hi, rfl⟩ := hrel
      by_cases hjt : j < args.length
      · have hjr : j < F.regs.length := by have := HLE.out; omega
        obtain ⟨b, o, a, rfl, hx, hxc, -⟩ := ha1.int hjt
        obtain ⟨b2, o2, t, rfl, ht, htc, -⟩ := hr1.int hjr
        have HZ : Hid ((F.regs.zip args)[j]? = some (t, a)) := Lib.hid (by rw [List.getElem?_zip_eq_some]; exact ⟨ht.out, hx.out⟩)
        have hj0 : (0 : Int) ≤ j := by omega
        have hj1 : (j : Int) < args.length := by omega
        have hj2 : (j : Int) < F.regs.length := by omega
        have HST := Lib.hid (all_step HZ.out hi.out)
        by_cases h2 : t = 2
        · have h2b : (t == 2) = true := by simp [h2]
          by_cases hb : 0 ≤ a ∧ a < ((2 : Nat) : Int)
          · have hd : decide (0 ≤ a ∧ a < ((2 : Nat) : Int)) = true := decide_eq_true hb
            have HF : Hid (fitB (t, a) = true) := Lib.hid (by unfold fitB; dsimp only; rw [hd]; simp)
            have HW := Lib.hid (within_any a 2 wr)
            rw [hd] at HW
            clear h2 hb hd
            go_wp2_with fail
            refine HW.out.mono ?_
            rintro e w' ⟨rfl, rfl⟩
            go_wp2_with fail
            go_roundw
            case rel => exact ⟨j + 1, by omega, by go_num, Lib.hid (by rw [HST.out]; exact HF.out), trivial⟩
            case measure => simp [intOf]; omega
          · have hd : decide (0 ≤ a ∧ a < ((2 : Nat) : Int)) = false := decide_eq_false hb
            have HF : Hid (fitB (t, a) = false) := Lib.hid (by unfold fitB; dsimp only; rw [hd, h2]; rfl)
            have HW := Lib.hid (within_any a 2 wr)
            rw [hd] at HW
            have HE : Hid (takesB F args = false) := Lib.hid (by rw [HT.out]; exact all_stop HZ.out HF.out)
            clear h2 hb hd
            go_wp2_with fail
            refine HW.out.mono ?_
            rintro e w' ⟨rfl, rfl⟩
            go_wp2_with fail
            go_ret
            exact ⟨by rw [HE.out]; rfl, HB1.out⟩
        · have h2b : (t == 2) = false := by simp [h2]
          have HF : Hid (fitB (t, a) = true) := Lib.hid (by unfold fitB; simp [h2])
          clear h2
          go_wp2_with fail
          go_roundw
          case rel => exact ⟨j + 1, by omega, by go_num, Lib.hid (by rw [HST.out]; exact HF.out), trivial⟩
          case measure => simp [intOf]; omega
      · have HE : Hid (takesB F args = true) := Lib.hid (by rw [HT.out]; exact all_done hi.out (by rw [List.length_zip]; have := HLE.out; omega))
        go_wp2_with fail
        go_ret
        exact ⟨by rw [HE.out]; rfl, HB1.out⟩
  · have hlb : ((args.length : Int) != F.params) = true := by rw [bne_iff_ne]; exact hl
    have HE : Hid (takesB F args = false) := Lib.hid (by unfold takesB; rw [decide_eq_false hl]; rfl)
    have HB1 := Lib.hid hB1
    clear hl hc1 hs1 hk1 hB1 ha hr hb
    go_enter Try.func22, Try.ntmps22
    go_wp2_with fail
    rw [← hw1]
    go_ret
    exact ⟨by rw [HE.out]; rfl, HB1.out⟩
end Go.Proofs.Ytoidhjmhakajlaa
