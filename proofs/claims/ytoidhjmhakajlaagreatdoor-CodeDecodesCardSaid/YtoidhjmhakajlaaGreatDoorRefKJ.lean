/- The reference's Module: it tells what the document says. -/
import Derived.Test.YtoidhjmhakajlaaGreatDoorRefJJ
namespace Go.Proofs.YtoidhjmhakajlaaGreatDoor
open Go.ChangeShapes Go.WideShapes Go.RowKit Go.Deep
set_option linter.unusedVariables false

set_option maxRecDepth 100000 in
set_option maxHeartbeats 4000000 in
theorem module_ref (m : List FunD) (v : Value) (w : World) (hv : VMod w v m) (hsm : ∀ f ∈ m, SmallG f) :
    Calls Tryz.prog 9 #[v] w fun e w' => e = .returned (.tuple #[.int .i64 (modE m).1, .int .i64 (modE m).2]) ∧ Below w.heap.size w w' := by
  have hm0 := hv
  obtain ⟨Am, cm, rfl, hms⟩ := hv
  have hml := hms.len
  by_cases h32 : 32 < m.length
  · have HE : Hid (modE m = (5, -1)) := Lib.hid (if_pos h32)
    go_enter Tryz.func9, Tryz.ntmps9
    go_wp2_with fail
    go_ret2
    exact ⟨by rw [HE.out]; rfl, (Below.refl _ _).alloc (Nat.le_refl _) _⟩
  · have HM : Hid (modE m = modK m m 0) := Lib.hid (if_neg h32)
    have HSM := Lib.hid hsm
    clear hsm
    go_enter Tryz.func9, Tryz.ntmps9
    go_wp2_with fail
    obtain ⟨w1, hw1, hs1, hk1, hB1, hc1, -⟩ := named w #[.slice Am m.length cm] 24
    rw [← hw1]
    have q0 : w1.cell? ⟨w.heap.size, 0, none⟩ = some (.slice Am m.length cm) := hc1 0 _ rfl
    have hs1 : w.heap.size < w1.heap.size := by omega
    clear hw1 hc1
    go_loopw [4] (fun i wr => ∃ k : Nat, k ≤ m.length ∧ i = .int .i64 k ∧ Below w1.heap.size w1 wr ∧ Hid ((modK m (m.take k) 0).1 = 0)) (fun i _ => m.length - (intOf i).toNat)
    case atStart => exact ⟨0, Nat.zero_le _, rfl, Below.refl _ _, Lib.hid rfl⟩
    case round =>
      obtain ⟨k, hk, rfl, hbel, hi⟩ := hrel
      have hkw : Kept w1 wr := kept_of_below hbel
      have hB : Below w.heap.size w wr := hB1.trans (hbel.mono hB1.size)
      have hso := hbel.size
      have a0 := hkw _ _ q0
      have n0 : w.heap.size < wr.heap.size := by omega
      by_cases hlt : k < m.length
      · have hx := List.getElem?_eq_getElem hlt
        generalize m[k] = f at hx
        have HX := Lib.hid hx
        have HF := Lib.hid (HSM.out f (List.mem_of_getElem? hx))
        have hvm := VMod.keep (hk1.trans hkw) hm0
        clear hx
        go_wp2_with fail
        refine (func_ref m k f _ _ hvm HX.out HF.out).mono ?_
        rintro e w7 ⟨rfl, hb7⟩
        have hb7' : Below w1.heap.size w1 w7 := hbel.trans (hb7.mono hbel.size)
        have hB7 : Below w.heap.size w w7 := hB.trans (hb7.mono hB.size)
        have HST := Lib.hid (modK_step HX.out hi.out)
        have HSP := Lib.hid (fun h => HM.out.trans (modK_stop HX.out hi.out h))
        generalize funE m f = bad at *
        by_cases hc : bad = 0
        · subst hc
          go_wp2_with fail
          go_roundw
          case rel => exact ⟨k + 1, by omega, by go_num, hb7', Lib.hid (by rw [HST.out]; simp)⟩
          case measure => simp [intOf]; omega
        · have hcb : (bad != 0) = true := by simp [hc]
          have HC := Lib.hid (HSP.out hc)
          clear hc
          go_wp2_with fail
          go_ret2
          exact ⟨by rw [HC.out]; rfl, hB7⟩
      · have HE : Hid (modE m = (0, -1)) := Lib.hid (by
          have := hi.out
          rw [List.take_of_length_le (Nat.le_of_not_lt hlt)] at this
          rw [HM.out]; exact modK_ok this)
        go_wp2_with fail
        go_ret2
        exact ⟨by rw [HE.out]; rfl, hB⟩
end Go.Proofs.YtoidhjmhakajlaaGreatDoor
