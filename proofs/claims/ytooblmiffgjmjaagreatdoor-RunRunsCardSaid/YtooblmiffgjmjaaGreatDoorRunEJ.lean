/- ofFunc, Module, Func, Plain: what the document says, given that ofInstr does. -/
import Derived.Test.YtooblmiffgjmjaaGreatDoorChkDJ
import Derived.StillTailTactics
import Derived.Test.YtooblmiffgjmjaaGreatDoorChkAJ
import Derived.Test.YtooblmiffgjmjaaGreatDoorInsGJ
import Derived.Laws.StructEq
namespace Go.Proofs.YtooblmiffgjmjaaGreatDoor
open Go.ChangeShapes Go.WideShapes Go.RowKit Go.Deep
set_option linter.unusedVariables false

theorem typed_regs {f : FunD} (h : typedB f = true) : ∀ t ∈ f.regs, t = 1 ∨ t = 2 := fun t ht => by
  unfold typedB at h
  rw [Bool.and_eq_true, Bool.and_eq_true] at h
  exact of_decide_eq_true (List.all_eq_true.1 h.1.1 t ht)

set_option maxRecDepth 100000 in
set_option maxHeartbeats 4000000 in
theorem ofFunc_any (OI : OfIns) (m : List FunD) (f : FunD) (vm vf : Value) (w : World) (hm : VMod w vm m) (hf : VFun w vf f) (hlim : Lim f) :
    Calls Tryz.prog 22 #[vm, vf] w fun e w' => e = .returned (errV (funE m f)) ∧ Below w.heap.size w w' := by
  have hm0 := hm
  have hf0 := hf
  obtain ⟨Am, cm, rfl, hms⟩ := hm
  obtain ⟨Ar, cr, Ab, cb, rfl, hr, hbs, hp64, hr64⟩ := hf
  have hbl := hbs.len
  go_enter Tryz.func22, Tryz.ntmps22
  go_wp2_with fail
  obtain ⟨wa, hwa, hsa, hka, hba, hca, -⟩ := named w #[.slice Am m.length cm] 24
  obtain ⟨w1, hw1, hs1, hk1, hb1, hc1, -⟩ := named wa #[.int .i64 f.params, .int .i64 f.result, .slice Ar f.regs.length cr, .slice Ab f.blocks.length cb] 52
  rw [← hwa, ← hw1]
  rw [hsa] at hc1
  have hB1 : Below w.heap.size w w1 := hba.trans (hb1.mono (by omega))
  have q0 : w1.cell? ⟨w.heap.size, 0, none⟩ = some (.slice Am m.length cm) := hk1 _ _ (hca 0 _ rfl)
  have f0 : w1.cell? ⟨w.heap.size + 1, 0, none⟩ = some (.int .i64 f.params) := hc1 0 _ rfl
  have f1 : w1.cell? ⟨w.heap.size + 1, 1, none⟩ = some (.int .i64 f.result) := hc1 1 _ rfl
  have f2 : w1.cell? ⟨w.heap.size + 1, 2, none⟩ = some (.slice Ar f.regs.length cr) := hc1 2 _ rfl
  have f3 : w1.cell? ⟨w.heap.size + 1, 3, none⟩ = some (.slice Ab f.blocks.length cb) := hc1 3 _ rfl
  have hs1 : w.heap.size + 1 < w1.heap.size := by omega
  clear hwa hw1 hsa hca hc1 hka hk1 hba hb1
  have hk1 := kept_of_below hB1
  refine (isWithin_any f _ _ (VFun.keep hk1 hf0) hlim).mono ?_
  rintro e w2 ⟨rfl, hb2⟩
  have hB2 : Below w.heap.size w w2 := hB1.trans (hb2.mono hB1.size)
  have hk2 := kept_of_below hb2
  have q0 := hk2 _ _ q0
  have f0 := hk2 _ _ f0
  have f1 := hk2 _ _ f1
  have f2 := hk2 _ _ f2
  have f3 := hk2 _ _ f3
  have hs2 : w.heap.size + 1 < w2.heap.size := by have := hb2.size; omega
  cases hwi : withinB f
  · have HE : Hid (funE m f = 5) := Lib.hid (by unfold funE outerE; rw [hwi]; rfl)
    clear hwi
    go_wp2_with fail
    go_ret
    exact ⟨by rw [HE.out]; rfl, hB2⟩
  · have HWI := Lib.hid hwi
    have hn64 : f.blocks.length ≤ 64 := by unfold withinB at hwi; exact (of_decide_eq_true hwi).2.1
    clear hwi
    go_wp2_with fail
    refine (isTyped_any f _ _ (VFun.keep (hk1.trans hk2) hf0)).mono ?_
    rintro e w3 ⟨rfl, hb3⟩
    have hB3 : Below w.heap.size w w3 := hB2.trans (hb3.mono hB2.size)
    have hk3 := kept_of_below hb3
    have q0 := hk3 _ _ q0
    have f0 := hk3 _ _ f0
    have f1 := hk3 _ _ f1
    have f2 := hk3 _ _ f2
    have f3 := hk3 _ _ f3
    cases hty : typedB f
    · have HE : Hid (funE m f = 3) := Lib.hid (by unfold funE outerE; rw [HWI.out, hty]; rfl)
      clear hty
      go_wp2_with fail
      go_ret
      exact ⟨by rw [HE.out]; rfl, hB3⟩
    · have HTY := Lib.hid hty
      clear hty
      go_wp2_with fail
      refine (endsWell_any f _ _ (VFun.keep ((hk1.trans hk2).trans hk3) hf0)).mono ?_
      rintro e w4 ⟨rfl, hb4⟩
      have hB4 : Below w.heap.size w w4 := hB3.trans (hb4.mono hB3.size)
      have hk4 := kept_of_below hb4
      have q0 := hk4 _ _ q0
      have f0 := hk4 _ _ f0
      have f1 := hk4 _ _ f1
      have f2 := hk4 _ _ f2
      have f3 := hk4 _ _ f3
      cases hew : endsWellB f
      · have HE : Hid (funE m f = 6) := Lib.hid (by unfold funE outerE; rw [HWI.out, HTY.out, hew]; rfl)
        clear hew
        go_wp2_with fail
        go_ret
        exact ⟨by rw [HE.out]; rfl, hB4⟩
      · have HEW := Lib.hid hew
        clear hew
        go_wp2_with fail
        refine (phisMeet_any f _ _ (VFun.keep (((hk1.trans hk2).trans hk3).trans hk4) hf0) (by omega)).mono ?_
        rintro e w5 ⟨rfl, hb5⟩
        have hB5 : Below w.heap.size w w5 := hB4.trans (hb5.mono hB4.size)
        have hk5 := kept_of_below hb5
        have hK5 := (((hk1.trans hk2).trans hk3).trans hk4).trans hk5
        have q0 := hk5 _ _ q0
        have f0 := hk5 _ _ f0
        have f1 := hk5 _ _ f1
        have f2 := hk5 _ _ f2
        have f3 := hk5 _ _ f3
        have hs5 : w.heap.size + 1 < w5.heap.size := by have := hb3.size; have := hb4.size; have := hb5.size; omega
        cases hme : meetB f
        · have HE : Hid (funE m f = 6) := Lib.hid (by unfold funE outerE; rw [HWI.out, HTY.out, HEW.out, hme]; rfl)
          clear hme
          go_wp2_with fail
          go_ret
          exact ⟨by rw [HE.out]; rfl, hB5⟩
        · have HO : Hid (funE m f = firstE (f.blocks.map (blockE m f))) := Lib.hid (by
            have : outerE f = 0 := by unfold outerE; rw [HWI.out, HTY.out, HEW.out, hme]; rfl
            unfold funE; rw [if_pos this])
          clear hme
          go_wp2_with fail
          go_loopw [29] (fun i wr => ∃ k : Nat, k ≤ f.blocks.length ∧ i = .int .i64 k ∧ Below w5.heap.size w5 wr ∧ Hid (firstE ((f.blocks.take k).map (blockE m f)) = 0)) (fun i _ => f.blocks.length - (intOf i).toNat)
          case atStart => exact ⟨0, Nat.zero_le _, rfl, Below.refl _ _, Lib.hid rfl⟩
          case round =>
            obtain ⟨k, hk, rfl, hbel, hi⟩ := hrel
            have hkw : Kept w5 wr := kept_of_below hbel
            have hB : Below w.heap.size w wr := hB5.trans (hbel.mono hB5.size)
            have hso := hbel.size
            have a0 := hkw _ _ q0
            have e0 := hkw _ _ f0
            have e1 := hkw _ _ f1
            have e2 := hkw _ _ f2
            have e3 := hkw _ _ f3
            have n0 : w.heap.size < wr.heap.size := by omega
            have n1 : w.heap.size + 1 < wr.heap.size := by omega
            by_cases hlt : k < f.blocks.length
            · obtain ⟨bb, oo, b, rfl, hx, ⟨Ap, cp, h0, z0⟩, ⟨Ai, ci, h1, z1⟩, ⟨h2, z2⟩, ⟨h3, z3⟩, ⟨At, ct, h4, z4⟩⟩ := (SBlks.keep (hK5.trans hkw) hbs).at_ hlt
              go_wp2_with fail
              obtain ⟨wn, hwn, hsn, hkn, hbn, -, -⟩ := named wr #[.slice Ap b.phis.length cp, .slice Ai b.ins.length ci, .int .i64 b.term.kind, .int .i64 b.term.arg, .slice At b.term.to.length ct] 49
              have hbn' : Below w5.heap.size w5 wn := hbel.trans (hbn.mono (by omega))
              have hBn : Below w.heap.size w wn := hB.trans (hbn.mono hB.size)
              rw [← hwn]
              clear hwn hsn
              have hK := (hK5.trans hkw).trans hkn
              refine (ofBlock_any OI m f b _ _ _ _ (VMod.keep hK hm0) (VFun.keep hK hf0) ⟨Ap, cp, Ai, ci, At, ct, rfl, SPhis.keep hkn z0, SInss.keep hkn z1, SInts.keep hkn z4, z2, z3⟩ (typed_regs HTY.out)).mono ?_
              rintro e w7 ⟨rfl, hb7⟩
              have hb7' : Below w5.heap.size w5 w7 := hbn'.trans (hb7.mono hbn'.size)
              have hB7 : Below w.heap.size w w7 := hBn.trans (hb7.mono hBn.size)
              by_cases hc : blockE m f b = 0
              · have HC := Lib.hid hc
                rw [hc, errV_zero]
                clear hc
                go_wp2_with fail
                go_roundw
                case rel => exact ⟨k + 1, by omega, by go_num, hb7', Lib.hid (by rw [first_map_at (blockE m f) hx.out hi.out]; exact HC.out)⟩
                case measure => simp [intOf]; omega
              · have HC : Hid (funE m f = blockE m f b) := Lib.hid (by rw [HO.out]; exact first_map_stop (blockE m f) hx.out hi.out hc)
                rw [errV_pos hc]
                have HC2 := Lib.hid hc
                clear hc
                go_wp2_with fail
                go_ret
                exact ⟨by rw [HC.out, errV_pos HC2.out]; rfl, hB7⟩
            · have HE : Hid (funE m f = 0) := Lib.hid (by rw [HO.out]; exact first_map_done (blockE m f) hi.out (Nat.le_of_not_lt hlt))
              go_wp2_with fail
              go_ret
              exact ⟨by rw [HE.out]; rfl, hB⟩

/-- An error with its place, as the code answers it. -/
def ErrAt (w : World) (v : Value) (p : Int × Int) : Prop :=
  (p.1 = 0 ∧ v = .nilIface) ∨ (p.1 ≠ 0 ∧ p.2 = -1 ∧ v = .iface 41 (.int .i64 p.1)) ∨
  (p.1 ≠ 0 ∧ 0 ≤ p.2 ∧ ∃ g, v = .iface 62 (.pointer (some ⟨g, 0, none⟩)) ∧ w.cell? ⟨g, 0, none⟩ = some (.int .i64 p.2) ∧ w.cell? ⟨g, 1, none⟩ = some (.iface 41 (.int .i64 p.1)))
theorem ErrAt.keep {w w' : World} (h : Kept w w') {v : Value} {p : Int × Int} (hv : ErrAt w v p) : ErrAt w' v p := by
  rcases hv with h1 | h1 | ⟨h1, h2, g, h3, h4, h5⟩
  · exact .inl h1
  · exact .inr (.inl h1)
  · exact .inr (.inr ⟨h1, h2, g, h3, h _ _ h4, h _ _ h5⟩)
theorem ErrAt.nil {w : World} {v : Value} {p : Int × Int} (hv : ErrAt w v p) (hp : p.1 = 0) : v = .nilIface := by
  rcases hv with h1 | h1 | h1
  · exact h1.2
  · exact absurd hp h1.1
  · exact absurd hp h1.1
theorem ErrAt.iface {w : World} {v : Value} {p : Int × Int} (hv : ErrAt w v p) (hp : p.1 ≠ 0) : ∃ t x, v = .iface t x := by
  rcases hv with h1 | h1 | ⟨_, _, g, h3, _⟩
  · exact absurd h1.1 hp
  · exact ⟨_, _, h1.2.2⟩
  · exact ⟨_, _, h3⟩

set_option maxRecDepth 100000 in
set_option maxHeartbeats 4000000 in
theorem module_any (OI : OfIns) (m : List FunD) (vm : Value) (w : World) (hm : VMod w vm m) (hlim : ∀ f ∈ m, Lim f) :
    Calls Tryz.prog 13 #[vm] w fun e w' => (∃ v, e = .returned v ∧ ErrAt w' v (modE m)) ∧ Below w.heap.size w w' := by
  have hm0 := hm
  obtain ⟨Am, cm, rfl, hms⟩ := hm
  have hml := hms.len
  by_cases h32 : 32 < m.length
  · have HE : Hid (modE m = (5, -1)) := Lib.hid (if_pos h32)
    go_enter Tryz.func13, Tryz.ntmps13
    go_wp2_with fail
    go_ret
    exact ⟨⟨_, rfl, by rw [HE.out]; exact .inr (.inl ⟨by decide, rfl, rfl⟩)⟩, (Below.refl _ _).alloc (Nat.le_refl _) _⟩
  · have HM : Hid (modE m = modK m m 0) := Lib.hid (if_neg h32)
    go_enter Tryz.func13, Tryz.ntmps13
    go_wp2_with fail
    obtain ⟨w1, hw1, hs1, hk1, hB1, hc1, -⟩ := named w #[.slice Am m.length cm] 24
    rw [← hw1]
    have q0 : w1.cell? ⟨w.heap.size, 0, none⟩ = some (.slice Am m.length cm) := hc1 0 _ rfl
    have hs1 : w.heap.size < w1.heap.size := by omega
    clear hw1 hc1
    go_loopw [14] (fun i wr => ∃ k : Nat, k ≤ m.length ∧ i = .int .i64 k ∧ Below w1.heap.size w1 wr ∧ Hid ((modK m (m.take k) 0).1 = 0)) (fun i _ => m.length - (intOf i).toNat)
    case atStart => exact ⟨0, Nat.zero_le _, rfl, Below.refl _ _, Lib.hid rfl⟩
    case round =>
      obtain ⟨k, hk, rfl, hbel, hi⟩ := hrel
      have hkw : Kept w1 wr := kept_of_below hbel
      have hB : Below w.heap.size w wr := hB1.trans (hbel.mono hB1.size)
      have hso := hbel.size
      have a0 := hkw _ _ q0
      have n0 : w.heap.size < wr.heap.size := by omega
      by_cases hlt : k < m.length
      · obtain ⟨bb, oo, f, rfl, hx, ⟨h0, z0⟩, ⟨h1, z1⟩, ⟨Ar, cr, h2, z2⟩, Ab, cb, h3, z3⟩ := (SFuns.keep (hk1.trans hkw) hms).at_ hlt
        go_wp2_with fail
        obtain ⟨wn, hwn, hsn, hkn, hbn, -, -⟩ := named wr #[.int .i64 f.params, .int .i64 f.result, .slice Ar f.regs.length cr, .slice Ab f.blocks.length cb] 52
        have hbn' : Below w1.heap.size w1 wn := hbel.trans (hbn.mono (by omega))
        have hBn : Below w.heap.size w wn := hB.trans (hbn.mono hB.size)
        rw [← hwn]
        clear hwn hsn
        have hK := (hk1.trans hkw).trans hkn
        refine (ofFunc_any OI m f _ _ _ (VMod.keep hK hm0) ⟨Ar, cr, Ab, cb, rfl, SInts.keep hkn z2, SBlks.keep hkn z3, z0, z1⟩ (hlim f (List.mem_of_getElem? hx.out))).mono ?_
        rintro e w7 ⟨rfl, hb7⟩
        have hb7' : Below w1.heap.size w1 w7 := hbn'.trans (hb7.mono hbn'.size)
        have hB7 : Below w.heap.size w w7 := hBn.trans (hb7.mono hBn.size)
        by_cases hc : funE m f = 0
        · have HC := Lib.hid hc
          rw [hc, errV_zero]
          clear hc
          go_wp2_with fail
          go_roundw
          case rel => exact ⟨k + 1, by omega, by go_num, hb7', Lib.hid (by rw [modK_step hx.out hi.out, if_pos HC.out])⟩
          case measure => simp [intOf]; omega
        · have HC : Hid (modE m = (funE m f, (k : Int))) := Lib.hid (by rw [HM.out]; exact modK_stop hx.out hi.out hc)
          rw [errV_pos hc]
          have HC2 := Lib.hid hc
          clear hc
          go_wp2_with fail
          go_ret
          exact ⟨⟨_, rfl, by rw [HC.out]; exact .inr (.inr ⟨HC2.out, by show (0 : Int) ≤ k; omega, w7.heap.size, rfl, by simp, by simp⟩)⟩, hB7.alloc hB7.size _⟩
      · have HE : Hid (modE m = (0, -1)) := Lib.hid (by
          have := hi.out
          rw [List.take_of_length_le (Nat.le_of_not_lt hlt)] at this
          rw [HM.out]; exact modK_ok this)
        go_wp2_with fail
        go_ret
        exact ⟨⟨_, rfl, by rw [HE.out]; exact .inl ⟨rfl, rfl⟩⟩, hB⟩
end Go.Proofs.YtooblmiffgjmjaaGreatDoor

/- What is small enough to be gone through is within the code's reach. -/
namespace Go.Proofs.YtooblmiffgjmjaaGreatDoor
open Go.ChangeShapes Go.WideShapes Go.RowKit Go.Deep
set_option linter.unusedVariables false

theorem lim_of_small {m : List FunD} (h : SmallM m) : ∀ f ∈ m, Lim f := fun f hf b hb => by
  have := (h.2 f hf).2.2.2 b hb
  exact ⟨by have := this.2.1; omega, by have := this.1; omega⟩
end Go.Proofs.YtooblmiffgjmjaaGreatDoor

/- Whether a function may be entered so; a run. -/
namespace Go.Proofs.YtooblmiffgjmjaaGreatDoor
open Go.ChangeShapes Go.WideShapes Go.RowKit Go.Deep
set_option linter.unusedVariables false

def fitB (p : Int × Int) : Bool := (p.1 != 2) || decide (0 ≤ p.2 ∧ p.2 < ((2 : Nat) : Int))
/-- May a function be entered with these arguments? -/
def takesB (F : FunD) (args : List Int) : Bool := decide ((args.length : Int) = F.params) && (F.regs.zip args).all fitB

set_option maxRecDepth 100000 in
set_option maxHeartbeats 4000000 in
theorem takes_any (F : FunD) (args : List Int) (v : Value) (A : Option Addr) (c : Nat) (w : World) (hv : VFun w v F) (ha : SL w 1 RInt A c args) (hp : F.params ≤ F.regs.length) :
    Calls Tryz.prog 15 #[v, .slice A args.length c] w fun e w' => e = .returned (.bool (takesB F args)) ∧ Below w.heap.size w w' := by
  obtain ⟨Ar, cr, Ab, cb, rfl, hr, hb, hp64, hr64⟩ := hv
  have hal := ha.len
  have hrl := hr.len
  obtain ⟨w1, hw1, hs1, hk1, hB1, hc1, -⟩ := named w #[.int .i64 F.params, .int .i64 F.result, .slice Ar F.regs.length cr, .slice Ab F.blocks.length cb] 52
  have d0 : w1.cell? ⟨w.heap.size, 0, none⟩ = some (.int .i64 F.params) := hc1 0 _ rfl
  have d2 : w1.cell? ⟨w.heap.size, 2, none⟩ = some (.slice Ar F.regs.length cr) := hc1 2 _ rfl
  have ha1 := SInts.keep hk1 ha
  have hr1 := SInts.keep hk1 hr
  have hlt : w.heap.size < w1.heap.size := by omega
  by_cases hl : (args.length : Int) = F.params
  · have hlb : ((args.length : Int) != F.params) = false := by simp [hl]
    have HT : Hid (takesB F args = (F.regs.zip args).all fitB) := Lib.hid (by unfold takesB; rw [decide_eq_true hl]; rfl)
    have HLE : Hid (args.length ≤ F.regs.length) := Lib.hid (by omega)
    have HB1 := Lib.hid hB1
    clear hl hc1 hs1 hk1 hB1 ha hr hb
    go_enter Tryz.func15, Tryz.ntmps15
    go_wp2_with fail
    rw [← hw1]
    clear hw1
    go_loopw [14] (fun i wr => ∃ j : Nat, j ≤ args.length ∧ i = .int .i64 j ∧ Hid (((F.regs.zip args).take j).all fitB = true) ∧ wr = w1) (fun i _ => args.length - (intOf i).toNat)
    case atStart => exact ⟨0, Nat.zero_le _, rfl, Lib.hid rfl, rfl⟩
    case round =>
      obtain ⟨j, hj, rfl, hi, rfl⟩ := hrel
      by_cases hjt : j < args.length
      · have hjr : j < F.regs.length := by have := HLE.out; omega
        obtain ⟨b, o, a, rfl, hx, hxc, -⟩ := ha1.int hjt
        obtain ⟨b2, o2, t, rfl, ht, htc, -⟩ := hr1.int hjr
        have HZ : Hid ((F.regs.zip args)[j]? = some (t, a)) := Lib.hid (by rw [List.getElem?_zip_eq_some]; exact ⟨ht.out, hx.out⟩)
        have hj0 : (0 : Int) ≤ j := by omega
        have hj1 : (j : Int) < args.length := by omega
        have hj2 : (j : Int) < F.regs.length := by omega
        have HST := Lib.hid (all_step HZ.out hi.out)
        by_cases h2 : t = 2
        · have h2b : (t == 2) = true := by simp [h2]
          by_cases hb : 0 ≤ a ∧ a < ((2 : Nat) : Int)
          · have hd : decide (0 ≤ a ∧ a < ((2 : Nat) : Int)) = true := decide_eq_true hb
            have HF : Hid (fitB (t, a) = true) := Lib.hid (by unfold fitB; dsimp only; rw [hd]; simp)
            have HW := Lib.hid (within_any a 2 wr)
            rw [hd] at HW
            clear h2 hb hd
            go_wp2_with fail
            refine HW.out.mono ?_
            rintro e w' ⟨rfl, rfl⟩
            go_wp2_with fail
            go_roundw
            case rel => exact ⟨j + 1, by omega, by go_num, Lib.hid (by rw [HST.out]; exact HF.out), trivial⟩
            case measure => simp [intOf]; omega
          · have hd : decide (0 ≤ a ∧ a < ((2 : Nat) : Int)) = false := decide_eq_false hb
            have HF : Hid (fitB (t, a) = false) := Lib.hid (by unfold fitB; dsimp only; rw [hd, h2]; rfl)
            have HW := Lib.hid (within_any a 2 wr)
            rw [hd] at HW
            have HE : Hid (takesB F args = false) := Lib.hid (by rw [HT.out]; exact all_stop HZ.out HF.out)
            clear h2 hb hd
            go_wp2_with fail
            refine HW.out.mono ?_
            rintro e w' ⟨rfl, rfl⟩
            go_wp2_with fail
            go_ret
            exact ⟨by rw [HE.out]; rfl, HB1.out⟩
        · have h2b : (t == 2) = false := by simp [h2]
          have HF : Hid (fitB (t, a) = true) := Lib.hid (by unfold fitB; simp [h2])
          clear h2
          go_wp2_with fail
          go_roundw
          case rel => exact ⟨j + 1, by omega, by go_num, Lib.hid (by rw [HST.out]; exact HF.out), trivial⟩
          case measure => simp [intOf]; omega
      · have HE : Hid (takesB F args = true) := Lib.hid (by rw [HT.out]; exact all_done hi.out (by rw [List.length_zip]; have := HLE.out; omega))
        go_wp2_with fail
        go_ret
        exact ⟨by rw [HE.out]; rfl, HB1.out⟩
  · have hlb : ((args.length : Int) != F.params) = true := by rw [bne_iff_ne]; exact hl
    have HE : Hid (takesB F args = false) := Lib.hid (by unfold takesB; rw [decide_eq_false hl]; rfl)
    have HB1 := Lib.hid hB1
    clear hl hc1 hs1 hk1 hB1 ha hr hb
    go_enter Tryz.func15, Tryz.ntmps15
    go_wp2_with fail
    rw [← hw1]
    go_ret
    exact ⟨by rw [HE.out]; rfl, HB1.out⟩
end Go.Proofs.YtooblmiffgjmjaaGreatDoor

/- A run: what run.Run tells. (Written by gen/genmacs.py.) -/
namespace Go.Proofs.YtooblmiffgjmjaaGreatDoor
open Go.ChangeShapes Go.WideShapes Go.RowKit Go.Deep
set_option linter.unusedVariables false

theorem results_two {P : Program} {fn : Func} {p u : Tmp} {ty : TypeId} (h : fn.results = #[.cell p ty, .tmp u]) : fn.results = #[.cell p ty, .tmp u] := h
theorem zero_out : Tryz.zeroCells31 = outC zeroS (.slice none 0 0) := by kernel_rfl
theorem store_zero {g : Nat} {w : World} (hg : w.heap[g]? = some (.cells Tryz.zeroCells31 31 (0, 0))) :
    (Instr.storeAt 31 (.pointer (some ⟨g, 0, none⟩)) (.agg Tryz.zeroCells31)).run Tryz.prog w = .ok () (w.setRow g Tryz.zeroCells31) := by
  have := store_out (s := zeroS) (vo := .slice none 0 0) hg zero_out_size rfl
  rwa [← zero_out] at this
theorem zero_first : Tryz.zeroCells31[0]? = some (.bool false) := by kernel_rfl
theorem err_row {w : World} {R : Nat} {cs : Array Value} {v : Value} {p : Int × Int} (h : ErrAt w v p) (hR : w.heap[R]? = some (.cells Tryz.zeroCells31 31 (0, 0))) : ErrAt (w.setRow R cs) v p := by
  rcases h with h1 | h1 | ⟨h1, h2, g, h3, h4, h5⟩
  · exact .inl h1
  · exact .inr (.inl h1)
  · have hg : g ≠ R := fun e => by
      subst e
      have := h4.symm.trans ((cell_of_block hR 0).trans zero_first)
      cases this
    exact .inr (.inr ⟨h1, h2, g, h3, (World.cell?_of_block (a := ⟨g, 0, none⟩) (setRow_other w R g cs hg)).trans h4, (World.cell?_of_block (a := ⟨g, 1, none⟩) (setRow_other w R g cs hg)).trans h5⟩)
theorem below_row {B g : Nat} {w : World} {cs : Array Value} (h : B ≤ g) : Below B w (w.setRow g cs) := ⟨rfl, rfl, rfl, by simp [World.setRow], fun k hk => setRow_other w g k cs (by omega)⟩

/-- May a proper module's function be run so? -/
def mayB (m : List FunD) (f : Int) (args : List Int) (steps : Int) : Bool := decide (0 ≤ f ∧ f < m.length) && (takesB (funAt m f) args && decide (0 ≤ steps ∧ steps < ((1048577 : Nat) : Int)))
/-- What a run tells. -/
def ToldRun (m : List FunD) (f : Int) (args : List Int) (steps : Int) (w : World) (e : Ending) (w' : World) : Prop :=
  ∃ o err, e = .returned (.tuple #[o, err]) ∧ Below w.heap.size w w' ∧
    ((¬ Proper m ∧ ErrAt w' err (modE m) ∧ o = .agg (outC zeroS (.slice none 0 0))) ∨
     (Proper m ∧ mayB m f args steps = false ∧ err = .iface 41 (.int .i64 1) ∧ o = .agg (outC zeroS (.slice none 0 0))) ∨
     (Proper m ∧ mayB m f args steps = true ∧ err = .nilIface ∧ ∃ A c, o = .agg (outC (runS m f.toNat args steps.toNat) (.slice A (runS m f.toNat args steps.toNat).out.length c)) ∧ OwnO w' w.heap.size A c (runS m f.toNat args steps.toNat).out))

set_option maxRecDepth 100000 in
set_option maxHeartbeats 16000000 in
theorem run_any (m : List FunD) (f : Int) (args : List Int) (steps : Int) (v : Value) (A : Option Addr) (c : Nat) (w : World) (hv : VMod w v m) (ha : SL w 1 RInt A c args) (hsm : SmallM m) (hf64 : I64 f) (hs64 : I64 steps) :
    Calls Tryz.prog 7 #[v, .int .i64 f, .slice A args.length c, .int .i64 steps] w (ToldRun m f args steps w) := by
  have hv0 := hv
  obtain ⟨Am, cm, rfl, hm⟩ := hv
  have hml := hm.len
  obtain ⟨w2, hw2⟩ : ∃ w2, w2 = (w.alloc (.cells #[.slice Am m.length cm] 24)).alloc (.cells Tryz.zeroCells31 31) := ⟨_, rfl⟩
  have hB2 : Below w.heap.size w w2 := by rw [hw2]; exact ((Below.refl _ _).alloc (Nat.le_refl _) _).alloc (by simp) _
  have hs2 : w2.heap.size = w.heap.size + 2 := by rw [hw2]; simp
  have q0 : w2.cell? ⟨w.heap.size, 0, none⟩ = some (.slice Am m.length cm) := by rw [hw2]; simp
  have hr2 : w2.heap[w.heap.size + 1]? = some (.cells Tryz.zeroCells31 31 (0, 0)) := by
    rw [hw2]
    have := heap_alloc_new (w.alloc (.cells #[.slice Am m.length cm] 24)) (.cells Tryz.zeroCells31 31)
    rwa [show (w.alloc (.cells #[.slice Am m.length cm] 24)).heap.size = w.heap.size + 1 by simp] at this
  have HV2 := Lib.hid (VMod.keep (kept_of_below hB2) hv0)
  have HM := Lib.hid hm
  have HA := Lib.hid ha
  have HSM := Lib.hid hsm
  have HF64 := Lib.hid hf64
  have HS64 := Lib.hid hs64
  have HR2 := Lib.hid hr2
  have HBB2 := Lib.hid hB2
  clear hv0 hm ha hsm hf64 hs64 hr2 hB2
  go_enter Tryz.func7, Tryz.ntmps7
  go_wp2_with fail
  rw [← hw2]
  clear hw2
  refine (module_any ofIns m _ _ HV2.out (lim_of_small HSM.out)).mono ?_
  rintro e w3 ⟨⟨ve, rfl, hErr⟩, hb3⟩
  have HRS : Hid (∀ w', Below w2.heap.size w2 w' → w'.heap[w.heap.size + 1]? = some (.cells Tryz.zeroCells31 31 (0, 0))) := Lib.hid (fun w' h => (h.block _ (by omega)).trans HR2.out)
  have q3 := kept_of_below hb3 _ _ q0
  have HB3 : Hid (Below w2.heap.size w2 w3) := Lib.hid hb3
  have hlt3 : w.heap.size < w3.heap.size := by have := hb3.size; omega
  have HERR := Lib.hid hErr
  clear q0 hb3 hErr
  by_cases hp : Proper m
  · have hve := HERR.out.nil hp
    subst hve
    have HPR := Lib.hid hp
    clear hp
    go_wp2_with fail
    refine (within_any f m.length w3).mono ?_
    rintro e w4 ⟨rfl, rfl⟩
    by_cases h1 : 0 ≤ f ∧ f < m.length
    · rw [decide_eq_true h1]
      have HB := HB3
      obtain ⟨n, hn⟩ : ∃ n : Nat, f = n := ⟨f.toNat, by omega⟩
      have hnl : n < m.length := by omega
      have hk3 : Kept w w3 := kept_of_below (HBB2.out.trans (HB3.out.mono HBB2.out.size))
      obtain ⟨b, o, F, rfl, hF, ⟨c0, z0⟩, ⟨c1, z1⟩, ⟨Ar, cr, c2, z2⟩, ⟨Ab, cb, c3, z3⟩⟩ := (SFuns.keep hk3 HM.out).at_ hnl
      have hG := (proper_ok HPR.out).2 F (List.mem_of_getElem? hF.out)
      have HTK := Lib.hid (takes_any F args (.agg #[.int .i64 F.params, .int .i64 F.result, .slice Ar F.regs.length cr, .slice Ab F.blocks.length cb]) A c w3 ⟨Ar, cr, Ab, cb, rfl, z2, z3, z0, z1⟩ (SInts.keep hk3 HA.out) hG.par.2.2)
      have HFA : Hid (funAt m f = F) := Lib.hid (by unfold funAt; rw [hn, Int.toNat_natCast]; exact getD_of hF.out)
      have HFN := Lib.hid hF.out
      have hn0 : (0 : Int) ≤ n := by omega
      have hn1 : (n : Int) < m.length := by omega
      have HMF : Hid (mayB m f args steps = (takesB F args && decide (0 ≤ steps ∧ steps < ((1048577 : Nat) : Int)))) := Lib.hid (by unfold mayB; rw [decide_eq_true h1, HFA.out]; rfl)
      have HG := Lib.hid hG
      have HK3 := Lib.hid hk3
      clear h1 z0 z1 z2 z3 hF hG hk3
      subst hn
      go_wp2_with fail
      refine HTK.out.mono ?_
      rintro e w5 ⟨rfl, hb5⟩
      have q5 := kept_of_below hb5 _ _ q3
      have HB : Hid (Below w2.heap.size w2 w5) := Lib.hid (HB3.out.trans (hb5.mono HB3.out.size))
      have hlt5 : w.heap.size < w5.heap.size := by have := hb5.size; omega
      have HK5 := Lib.hid (HK3.out.trans (kept_of_below hb5))
      clear q3 hb5 c0 c1 c2 c3 HTK hlt3
      cases ht : takesB F args
      · have HMAY : Hid (mayB m n args steps = false) := Lib.hid (by rw [HMF.out, ht]; rfl)
        clear ht
        have hres' := HRS.out w5 HB.out
        have hst' := store_zero hres'
        have hgw := setRow_heap w5 (w.heap.size + 1) _ Tryz.zeroCells31 _ _ hres'
        have HGW := Lib.hid hgw
        have HFB : Hid (Below w.heap.size w (w5.setRow (w.heap.size + 1) Tryz.zeroCells31)) := Lib.hid ((HBB2.out.trans (HB.out.mono HBB2.out.size)).trans (below_row (by omega)))
        clear hres' hgw
        go_upto_region 5 with fail
        go_step
        go_step
        go_simp
        go_step
        go_step
        go_simp
        go_step
        refine wpList_store_any w5 rfl 31 (.tmp 8) (.tmp 38) rfl _ _ (by rfl) (by rfl) hst' ?_
        clear hst'
        go_wp2_with fail
        refine bodyPost_ret (results_cell_row_tmp rfl _ _ (w.heap.size + 1) 31 Tryz.zeroCells31 (0, 0) _ (by rfl) HGW.out Tryz.underlying31 (by rfl) (by kernel_rfl)) rfl ?_
        exact ⟨_, _, rfl, HFB.out, .inr (.inl ⟨HPR.out, HMAY.out, rfl, by rw [zero_out]⟩)⟩
      · have HT := Lib.hid ht
        clear ht
        go_wp2_with fail
        refine (within_any steps 1048577 w5).mono ?_
        rintro e w6 ⟨rfl, rfl⟩
        by_cases h2 : 0 ≤ steps ∧ steps < ((1048577 : Nat) : Int)
        · rw [decide_eq_true h2]
          have HMAY : Hid (mayB m n args steps = true) := Lib.hid (by rw [HMF.out, HT.out, decide_eq_true h2]; rfl)
          obtain ⟨k, hk⟩ : ∃ k : Nat, steps = k := ⟨steps.toNat, by omega⟩
          subst hk
          have HOUT := Lib.hid (outcome_any m w5 n args k (some ⟨b, o, none⟩) A cm c (SFuns.keep HK5.out HM.out) (SInts.keep HK5.out HA.out) (fun g hg => (HSM.out.2 g hg).1) HSM.out.1 HPR.out F HFN.out (by
            have := HT.out; unfold takesB at this; rw [Bool.and_eq_true] at this; exact of_decide_eq_true this.1) (fun g hg b hb x hx => by have := ((HSM.out.2 g hg).2.2.2 b hb).2.2.2.1 x hx; omega) (by omega))
          clear h2
          go_wp2_with fail
          refine HOUT.out.mono ?_
          rintro e w6 ⟨⟨Ao, co, rfl, hso⟩, hb6⟩
          have hr6 := HRS.out w6 (HB.out.trans (hb6.mono HB.out.size))
          have hst' := store_out (s := runS m n args k) (vo := .slice Ao (runS m n args k).out.length co) hr6 zero_out_size rfl
          have hgw := setRow_heap w6 (w.heap.size + 1) _ (outC (runS m n args k) (.slice Ao (runS m n args k).out.length co)) _ _ hr6
          have HGW := Lib.hid hgw
          have hb7 : Below w.heap.size w w6 := (HBB2.out.trans (HB.out.mono HBB2.out.size)).trans (hb6.mono (HBB2.out.trans (HB.out.mono HBB2.out.size)).size)
          have HFB : Hid (Below w.heap.size w (w6.setRow (w.heap.size + 1) (outC (runS m n args k) (.slice Ao (runS m n args k).out.length co)))) := Lib.hid (hb7.trans (below_row (by omega)))
          have HSO : Hid (OwnO (w6.setRow (w.heap.size + 1) (outC (runS m n args k) (.slice Ao (runS m n args k).out.length co))) w.heap.size Ao co (runS m n args k).out) := Lib.hid (OwnO.row hso (by have := HB.out.size; omega) (by have := HB.out.size; omega))
          clear hr6 hgw hb7 hso hb6 q5
          dsimp only
          go_step
          refine wpList_store_any w6 rfl 31 (.tmp 8) (.tmp 45) rfl _ _ (by rfl) (by rfl) hst' ?_
          clear hst'
          go_wp2_with fail
          refine bodyPost_ret (results_cell_row_tmp rfl _ _ (w.heap.size + 1) 31 (outC (runS m n args k) (.slice Ao (runS m n args k).out.length co)) (0, 0) _ (by rfl) HGW.out Tryz.underlying31 (by rfl) (by rw [outC_size]; exact out_size)) rfl ?_
          exact ⟨_, _, rfl, HFB.out, .inr (.inr ⟨HPR.out, HMAY.out, rfl, Ao, co, rfl, HSO.out⟩)⟩
        · rw [decide_eq_false h2]
          have HMAY : Hid (mayB m n args steps = false) := Lib.hid (by rw [HMF.out, HT.out, decide_eq_false h2]; rfl)
          clear h2
          have hres' := HRS.out w5 HB.out
          have hst' := store_zero hres'
          have hgw := setRow_heap w5 (w.heap.size + 1) _ Tryz.zeroCells31 _ _ hres'
          have HGW := Lib.hid hgw
          have HFB : Hid (Below w.heap.size w (w5.setRow (w.heap.size + 1) Tryz.zeroCells31)) := Lib.hid ((HBB2.out.trans (HB.out.mono HBB2.out.size)).trans (below_row (by omega)))
          clear hres' hgw
          go_upto_region 5 with fail
          go_step
          go_step
          go_simp
          go_step
          go_step
          go_simp
          go_step
          refine wpList_store_any w5 rfl 31 (.tmp 8) (.tmp 38) rfl _ _ (by rfl) (by rfl) hst' ?_
          clear hst'
          go_wp2_with fail
          refine bodyPost_ret (results_cell_row_tmp rfl _ _ (w.heap.size + 1) 31 Tryz.zeroCells31 (0, 0) _ (by rfl) HGW.out Tryz.underlying31 (by rfl) (by kernel_rfl)) rfl ?_
          exact ⟨_, _, rfl, HFB.out, .inr (.inl ⟨HPR.out, HMAY.out, rfl, by rw [zero_out]⟩)⟩
    · rw [decide_eq_false h1]
      have HMAY : Hid (mayB m f args steps = false) := Lib.hid (by unfold mayB; rw [decide_eq_false h1]; rfl)
      have HB := HB3
      clear h1
      have hres' := HRS.out w3 HB.out
      have hst' := store_zero hres'
      have hgw := setRow_heap w3 (w.heap.size + 1) _ Tryz.zeroCells31 _ _ hres'
      have HGW := Lib.hid hgw
      have HFB : Hid (Below w.heap.size w (w3.setRow (w.heap.size + 1) Tryz.zeroCells31)) := Lib.hid ((HBB2.out.trans (HB.out.mono HBB2.out.size)).trans (below_row (by omega)))
      clear hres' hgw
      go_upto_region 5 with fail
      go_step
      go_step
      go_simp
      go_step
      go_step
      go_simp
      go_step
      refine wpList_store_any w3 rfl 31 (.tmp 8) (.tmp 38) rfl _ _ (by rfl) (by rfl) hst' ?_
      clear hst'
      go_wp2_with fail
      refine bodyPost_ret (results_cell_row_tmp rfl _ _ (w.heap.size + 1) 31 Tryz.zeroCells31 (0, 0) _ (by rfl) HGW.out Tryz.underlying31 (by rfl) (by kernel_rfl)) rfl ?_
      exact ⟨_, _, rfl, HFB.out, .inr (.inl ⟨HPR.out, HMAY.out, rfl, by rw [zero_out]⟩)⟩
  · obtain ⟨te, xe, rfl⟩ := HERR.out.iface (fun h => hp h)
    have HNP := Lib.hid hp
    have HB := HB3
    have HER : Hid (ErrAt (w3.setRow (w.heap.size + 1) Tryz.zeroCells31) (.iface te xe) (modE m)) := Lib.hid (err_row HERR.out (HRS.out w3 HB3.out))
    clear hp
    have hres' := HRS.out w3 HB.out
    have hst' := store_zero hres'
    have hgw := setRow_heap w3 (w.heap.size + 1) _ Tryz.zeroCells31 _ _ hres'
    have HGW := Lib.hid hgw
    have HFB : Hid (Below w.heap.size w (w3.setRow (w.heap.size + 1) Tryz.zeroCells31)) := Lib.hid ((HBB2.out.trans (HB.out.mono HBB2.out.size)).trans (below_row (by omega)))
    clear hres' hgw
    go_upto_region 3 with fail
    go_step
    go_step
    go_simp
    go_step
    go_step
    go_simp
    go_step
    refine wpList_store_any w3 rfl 31 (.tmp 8) (.tmp 15) rfl _ _ (by rfl) (by rfl) hst' ?_
    clear hst'
    go_wp2_with fail
    refine bodyPost_ret (results_cell_row_tmp rfl _ _ (w.heap.size + 1) 31 Tryz.zeroCells31 (0, 0) _ (by rfl) HGW.out Tryz.underlying31 (by rfl) (by kernel_rfl)) rfl ?_
    exact ⟨_, _, rfl, HFB.out, .inl ⟨HNP.out, HER.out, by rw [zero_out]⟩⟩
end Go.Proofs.YtooblmiffgjmjaaGreatDoor

/- Two arrays of numbers are equal as their numbers are; the document's Same. -/
namespace Go.Proofs.YtooblmiffgjmjaaGreatDoor
open Go.ChangeShapes Go.WideShapes Go.RowKit Go.Deep
set_option linter.unusedVariables false

/-- Does the one begin the other? -/
def beginsB (a b : List Int) : Bool := decide (b.take a.length = a)
theorem begins_long {a b : List Int} (h : b.length < a.length) : beginsB a b = false := by
  unfold beginsB
  rw [decide_eq_false_iff_not]
  intro e
  have := congrArg List.length e
  rw [List.length_take] at this; omega
theorem begins_stop {a b : List Int} {j : Nat} {x y : Int} (hx : a[j]? = some x) (hy : b[j]? = some y) (h : x ≠ y) : beginsB a b = false := by
  unfold beginsB
  rw [decide_eq_false_iff_not]
  intro e
  have hj := (List.getElem?_eq_some_iff.1 hx).1
  rw [← e, List.getElem?_take, if_pos hj, hy] at hx
  exact h (Option.some.inj hx).symm
theorem take_both {a b : List Int} {j : Nat} {x : Int} (hx : a[j]? = some x) (hy : b[j]? = some x) (h : a.take j = b.take j) : a.take (j + 1) = b.take (j + 1) := by
  rw [take_succ_of hx, take_succ_of hy, h]
theorem begins_done {a b : List Int} {j : Nat} (h : a.take j = b.take j) (hj : a.length ≤ j) (hl : a.length ≤ b.length) (hj2 : j ≤ a.length) : beginsB a b = true := by
  obtain rfl : j = a.length := by omega
  unfold beginsB
  rw [decide_eq_true_iff, ← h, List.take_length]

set_option maxRecDepth 100000 in
set_option maxHeartbeats 4000000 in
theorem begins_any (a b : List Int) (A B : Option Addr) (c d : Nat) (w : World) (ha : SL w 1 RW A c a) (hb : SL w 1 RW B d b) :
    Calls Tryz.prog 35 #[.slice A a.length c, .slice B b.length d] w fun e w' => e = .returned (.bool (beginsB a b)) ∧ ∃ n, w' = w.drewN n := by
  have hal := ha.len
  have hbl := hb.len
  by_cases hl : b.length < a.length
  · have HE := Lib.hid (begins_long hl)
    go_enter Tryz.func35, Tryz.ntmps35
    go_wp2_with fail
    go_ret
    exact ⟨by rw [HE.out]; rfl, 0, rfl⟩
  · have hlb : ¬ ((b.length : Int) < a.length) := by omega
    have HL : Hid (a.length ≤ b.length) := Lib.hid (by omega)
    go_enter Tryz.func35, Tryz.ntmps35
    go_wp2_with fail
    go_loopw [5] (fun i wr => ∃ j q : Nat, j ≤ a.length ∧ i = .int .i64 j ∧ Hid (a.take j = b.take j) ∧ wr = w.drewN q) (fun i _ => a.length - (intOf i).toNat)
    case atStart => exact ⟨0, 0, Nat.zero_le _, rfl, Lib.hid rfl, rfl⟩
    case round =>
      obtain ⟨j, q, hj, rfl, hi, rfl⟩ := hrel
      by_cases hjt : j < a.length
      · have hjb : j < b.length := by have := HL.out; omega
        obtain ⟨b1, o1, x, rfl, hx, hxc⟩ := ha.at_ hjt
        obtain ⟨b2, o2, y, rfl, hy, hyc⟩ := hb.at_ hjb
        rw [Nat.mul_one] at hxc hyc
        have hxc : w.cell? ⟨b1, o1 + j, none⟩ = some (.int .i64 x) := hxc
        have hyc : w.cell? ⟨b2, o2 + j, none⟩ = some (.int .i64 y) := hyc
        have hj0 : (0 : Int) ≤ j := by omega
        have hj1 : (j : Int) < a.length := by omega
        have hj2 : (j : Int) < b.length := by omega
        by_cases hxy : x = y
        · have hxb : (x != y) = false := by simp [hxy]
          have HN : Hid (a.take (j + 1) = b.take (j + 1)) := Lib.hid (take_both hx.out (by rw [hxy]; exact hy.out) hi.out)
          clear hxy
          go_wp2_with fail
          go_quiet (fail)
          go_wp2_with fail
          go_roundw
          case rel => exact ⟨j + 1, _, by omega, by go_num, HN, rfl⟩
          case measure => simp [intOf]; omega
        · have hxb : (x != y) = true := by simp [hxy]
          have HE := Lib.hid (begins_stop hx.out hy.out hxy)
          clear hxy
          go_wp2_with fail
          go_quiet (fail)
          go_wp2_with fail
          go_ret
          exact ⟨by rw [HE.out]; rfl, _, by rw [World.drewN_drewN]⟩
      · have HE := Lib.hid (begins_done hi.out (Nat.le_of_not_lt hjt) HL.out hj)
        go_wp2_with fail
        go_ret
        exact ⟨by rw [HE.out]; rfl, q, rfl⟩
theorem alike_any (a b : List Int) (A B : Option Addr) (c d : Nat) (w : World) (ha : SL w 1 RW A c a) (hb : SL w 1 RW B d b) :
    Calls Tryz.prog 20 #[.slice A a.length c, .slice B b.length d] w fun e w' => e = .returned (.bool (decide (a = b))) ∧ ∃ n, w' = w.drewN n := by
  have HB := Lib.hid (begins_any a b A B c d w ha hb)
  by_cases hl : a.length = b.length
  · have hlb : ((a.length : Int) == b.length) = true := by rw [hl]; simp
    have HE : Hid (beginsB a b = decide (a = b)) := Lib.hid (by
      unfold beginsB
      rw [hl, List.take_length]
      by_cases h : a = b
      · rw [decide_eq_true h, decide_eq_true h.symm]
      · rw [decide_eq_false h, decide_eq_false (fun e => h e.symm)])
    clear ha hb hl
    go_enter Tryz.func20, Tryz.ntmps20
    go_wp2_with fail
    refine HB.out.mono ?_
    rintro e w' ⟨rfl, n, rfl⟩
    rw [HE.out]
    go_wp2_with fail
    go_ret
    exact ⟨rfl, n, rfl⟩
  · have hlb : ((a.length : Int) == b.length) = false := by rw [beq_eq_false_iff_ne]; omega
    have HE : Hid (decide (a = b) = false) := Lib.hid (decide_eq_false (fun e => hl (congrArg List.length e)))
    clear ha hb hl
    go_enter Tryz.func20, Tryz.ntmps20
    go_wp2_with fail
    go_ret
    exact ⟨by rw [HE.out]; rfl, 0, rfl⟩

/-- So many steps, at most. -/
def fewZ (s : Int) : Int := if 1000 < s ∧ s ≤ 1048576 then s % 1000 else s
theorem few_any (s : Int) (w : World) (hs : I64 s) : Calls Tryz.prog 6 #[.int .i64 s] w fun e w' => e = .returned (.int .i64 (fewZ s)) ∧ w' = w := by
  obtain ⟨h1, h2⟩ := hs
  by_cases ha : 1000 < s
  · by_cases hb : s ≤ 1048576
    · have HE : Hid (fewZ s = s % 1000) := Lib.hid (by unfold fewZ; rw [if_pos ⟨ha, hb⟩])
      go_enter Tryz.func6, Tryz.ntmps6
      go_wp2_with fail
      go_ret
      exact ⟨by rw [HE.out]; rfl, rfl⟩
    · have HE : Hid (fewZ s = s) := Lib.hid (by unfold fewZ; rw [if_neg (fun h => hb h.2)])
      have hbb : decide (s ≤ 1048576) = false := decide_eq_false hb
      go_enter Tryz.func6, Tryz.ntmps6
      go_wp2_with fail
      go_ret
      exact ⟨by rw [HE.out]; rfl, rfl⟩
  · have HE : Hid (fewZ s = s) := Lib.hid (by unfold fewZ; rw [if_neg (fun h => ha h.1)])
    have hab : decide (1000 < s) = false := decide_eq_false ha
    go_enter Tryz.func6, Tryz.ntmps6
    go_wp2_with fail
    go_ret
    exact ⟨by rw [HE.out]; rfl, rfl⟩

theorem all_range_ints : ∀ (xs ys : List Int), xs.length = ys.length → ((List.range xs.length).all fun i => xs.getD i 0 == ys.getD i 0) = (xs == ys)
  | [], [], _ => rfl
  | x :: xs, y :: ys, h => by
    have ih := all_range_ints xs ys (by simpa using h)
    rw [List.length_cons, List.range_succ_eq_map, List.all_cons, List.all_map]
    simp only [List.getD_cons_zero, Function.comp_def, List.getD_cons_succ, ih]
    simp [List.cons_beq_cons]
  | [], _ :: _, h => by simp at h
  | _ :: _, [], h => by simp at h
section
variable {P : Program} (w : World)
theorem run_equalIn_words (d : Nat) (t e : TypeId) (n : Nat) (ht : P.underlying t = some (.array n e)) (he : P.underlying e = some (.int .i64)) (hsz : ∀ w, (sizeOf e).run P w = .ok 1 w)
    (xs ys : List Int) (hx : xs.length = n) (hy : ys.length = n) :
    (Op.equalIn (d + 2) t (.agg (xs.map (Value.int .i64)).toArray) (.agg (ys.map (Value.int .i64)).toArray)).run P w = .ok (xs == ys) w := by
  rw [← all_range_ints xs ys (hx.trans hy.symm), hx, List.range_eq_range', Op.equalIn]
  simp only [Sem.run_bind, run_underlying ht, Result.andThen_ok, hsz, Std.Legacy.Range.forIn_eq_forIn_range', Std.Legacy.Range.size, Nat.sub_zero, Nat.add_sub_cancel, Nat.div_one]
  have hl : ∀ i ∈ List.range' 0 n 1, i < n := fun i hi => by simpa using (List.mem_range'_1.1 hi).2
  generalize List.range' 0 n 1 = l at hl ⊢
  induction l with
  | nil => simp
  | cons i l ih =>
    have hi : i < n := hl i (by simp)
    have px : (part e (xs.map (Value.int .i64)).toArray (i * 1)).run P w = .ok (Value.int .i64 (xs.getD i 0)) w := by
      simp [part, isAgg, run_underlying he, List.getD, List.getElem?_eq_getElem (show i < xs.length by omega)]
    have py : (part e (ys.map (Value.int .i64)).toArray (i * 1)).run P w = .ok (Value.int .i64 (ys.getD i 0)) w := by
      simp [part, isAgg, run_underlying he, List.getD, List.getElem?_eq_getElem (show i < ys.length by omega)]
    have pe : (Op.equalIn (d + 1) e (Value.int .i64 (xs.getD i 0)) (Value.int .i64 (ys.getD i 0))).run P w = .ok (xs.getD i 0 == ys.getD i 0) w := run_equalIn_int w d e .i64 .i64 _ _ he
    simp only [List.forIn_cons, Sem.run_bind, px, py, pe, Result.andThen_ok, List.all_cons]
    cases hb : (xs.getD i 0 == ys.getD i 0)
    · simp
    · simp only [Bool.not_true, Bool.false_eq_true, if_false, Sem.run_pure, Result.andThen_ok, Bool.true_and]
      exact ih fun j hj => hl j (by simp [hj])
end
/-- The words of memory. -/
def memL (s : St) : List Int := (List.range 64).map s.mem
def memC (s : St) : Array Value := ((memL s).map (Value.int .i64)).toArray
theorem memL_len (s : St) : (memL s).length = 64 := by simp [memL]
theorem memC_get (s : St) {i : Nat} (hi : i < 64) : (memC s)[i]? = some (.int .i64 (s.mem i)) := by
  unfold memC memL
  rw [List.getElem?_toArray, List.getElem?_map, List.getElem?_map, List.getElem?_range hi]; rfl
theorem size_word (w : World) : (sizeOf 2).run Tryz.prog w = .ok 1 w := by kernel_rfl
theorem eq_mem (s t : St) (w : World) : (Op.equalIn 10000 29 (.agg (memC s)) (.agg (memC t))).run Tryz.prog w = .ok (memL s == memL t) w :=
  run_equalIn_words w 9998 29 2 64 Tryz.underlying29 Tryz.underlying2 size_word _ _ (memL_len s) (memL_len t)
theorem words_size : (Tryz.prog.info? 29).map (·.size) = some 64 := by kernel_rfl
/-- Memory is loaded whole, out of an outcome's block. -/
theorem load_mem {g o : Nat} {w : World} {s : St} (h : ∀ i, i < 64 → w.cell? ⟨g, o + i, none⟩ = some (.int .i64 (s.mem i))) : (Instr.loadAt 29 (.pointer (some ⟨g, o, none⟩))).run Tryz.prog w = .ok (.agg (memC s)) w := by
  have hl := run_loadCells_list (P := Tryz.prog) (w := w) ⟨g, o, none⟩ (memC s).toList (fun j v hv => by
    rw [add_plain']
    rw [Array.getElem?_toList] at hv
    have hj : j < 64 := by
      have := (Array.getElem?_eq_some_iff.1 hv).1
      simpa [memC, memL_len] using this
    rw [memC_get s hj] at hv
    rw [h j hj]; exact hv)
  have hs : (memC s).toList.length = 64 := by simp [memC, memL_len]
  rw [hs, Array.toArray_toList] at hl
  have hagg : (isAgg 29).run Tryz.prog w = .ok true w := by
    unfold isAgg
    rw [Sem.run_bind, run_underlying Tryz.underlying29 w]
    rfl
  have hsz : (sizeOf 29).run Tryz.prog w = .ok 64 w := by
    have := words_size
    cases hq : Tryz.prog.info? 29 with
    | none => simp [hq] at this
    | some i => simp [hq] at this; simp [sizeOf, typeInfo, hq, this]
  simp only [Instr.loadAt, Instr.sureAddr, loadVar, Sem.run_bind, Sem.run_pure, Result.andThen_ok, hagg, hsz, hl, if_true]
/-- A load that is wanted. -/
theorem wpList_load_w {P : Program} (w : World) {ops : Array Oper} {rest : List Oper} {o : Oper} {a : Act} {Q : Exit → Act → World → Prop} (hw : Region.wanted o (yielded ops a.tmps) = true) (t : TypeId) (x : Operand)
    (ho : o.op = .load t x) (v : Value) (hv : a.eval x = v) {u : Value} {w' : World} (hr : (Instr.loadAt t v).run P w = .ok u w') (h : wpList P ops Q rest (a.put o.dst u) w') : wpList P ops Q (o :: rest) a w :=
  wpList_step fun K hK => by
    rw [if_pos hw]
    unfold Oper.wp execOp
    simp only [ho, Sem.run_bind, Sem.run_pure, Result.andThen_ok, hv, hr]
    exact hK _ _ h

def sameS (s t : St) : Bool := decide (s.done = t.done ∧ s.trap = t.trap ∧ s.value = t.value ∧ s.steps = t.steps ∧ memL s = memL t ∧ s.out = t.out)
end Go.Proofs.YtooblmiffgjmjaaGreatDoor
