/- Rule 2: isTyped. -/
import Derived.Test.YtoidhjmhakajlaaSpec
import Derived.Deep.QuietTactic
import Derived.BigQuiet
namespace Go.Proofs.Ytoidhjmhakajlaa
open Go.ChangeShapes Go.WideShapes Go.RowKit Go.Deep
set_option linter.unusedVariables false

set_option maxRecDepth 100000 in
set_option maxHeartbeats 4000000 in
theorem isTyped_any (f : FunD) (v : Value) (w : World) (hv : VFun w v f) :
    Calls Try.prog 48 #[v] w fun e w' => e = .returned (.bool (typedB f)) ∧ Below w.heap.size w w' := by
  obtain ⟨Ar, cr, A, c, rfl, hr, hb, -, -⟩ := hv
  have hrl := hr.len
  go_enter Try.func48, Try.ntmps48
  go_wp2_with fail
  obtain ⟨w1, hw1, hs1, hk1, hbel1, hc1, -⟩ := named w #[.int .i64 f.params, .int .i64 f.result, .slice Ar f.regs.length cr, .slice A f.blocks.length c] 39
  have hc0 := hc1 0 _ rfl
  have hcr := hc1 1 _ rfl
  have hc2 := hc1 2 _ rfl
  rw [← hw1]
  clear hw1 hc1
  have hs1 : w.heap.size < w1.heap.size := by omega
  go_loopw [8] (fun i wr => ∃ k : Nat, k ≤ f.regs.length ∧ i = .int .i64 k ∧ Hid ((f.regs.take k).all isTy = true) ∧ wr = w1) (fun i _ => f.regs.length - (intOf i).toNat)
  case atStart => exact ⟨0, Nat.zero_le _, rfl, Lib.hid rfl, rfl⟩
  case round =>
    obtain ⟨k, hk, rfl, hi, rfl⟩ := hrel
    by_cases hlt : k < f.regs.length
    · obtain ⟨b, o, x, rfl, hx, hxc, -⟩ := (SInts.keep hk1 hr).int hlt
      by_cases h1 : x = 1
      · subst h1
        go_wp2_with fail
        go_roundw
        case rel => exact ⟨k + 1, by omega, by go_num, Lib.hid (by rw [all_step hx.out hi.out]; rfl), trivial⟩
        case measure => simp [intOf]; omega
      · by_cases h2 : x = 2
        · subst h2
          clear h1
          go_wp2_with fail
          go_roundw
          case rel => exact ⟨k + 1, by omega, by go_num, Lib.hid (by rw [all_step hx.out hi.out]; rfl), trivial⟩
          case measure => simp [intOf]; omega
        · have hf : isTy x = false := decide_eq_false (by omega)
          have h1' : (x != 1) = true := by simpa using h1
          have h2' : (x != 2) = true := by simpa using h2
          have HF := Lib.hid hf
          clear h1 h2 hf
          go_wp2_with fail
          go_ret
          exact ⟨by unfold typedB; rw [all_stop hx.out HF.out]; rfl, hbel1⟩
    · have hd := all_done hi.out (Nat.le_of_not_lt hlt)
      have HD := Lib.hid hd
      clear hd
      by_cases hp : 0 ≤ f.params ∧ f.params ≤ 8 ∧ f.params ≤ f.regs.length
      · obtain ⟨p1, p2, p3⟩ := hp
        have HT : Hid (typedB f = decide (f.result = 0 ∨ f.result = 1 ∨ f.result = 2)) := Lib.hid (by unfold typedB; rw [HD.out, decide_eq_true (show 0 ≤ f.params ∧ f.params ≤ 8 ∧ f.params ≤ f.regs.length from ⟨p1, p2, p3⟩)]; rfl)
        by_cases r0 : f.result = 0
        · have HR : Hid (typedB f = true) := Lib.hid (by rw [HT.out]; exact decide_eq_true (by omega))
          have r0' : (f.result == 0) = true := by simpa using r0
          clear r0 HT
          go_wp2_with fail
          go_ret
          exact ⟨by rw [HR.out]; rfl, hbel1⟩
        · by_cases r1 : f.result = 1
          · have HR : Hid (typedB f = true) := Lib.hid (by rw [HT.out]; exact decide_eq_true (by omega))
            have r0' : (f.result == 0) = false := by simpa using r0
            have r1' : (f.result == 1) = true := by simpa using r1
            clear r0 r1 HT
            go_wp2_with fail
            go_ret
            exact ⟨by rw [HR.out]; rfl, hbel1⟩
          · have HR : Hid (typedB f = decide (f.result = 2)) := Lib.hid (by rw [HT.out]; congr 1; rw [eq_iff_iff]; omega)
            have r0' : (f.result == 0) = false := by simpa using r0
            have r1' : (f.result == 1) = false := by simpa using r1
            clear r0 r1 HT
            go_wp2_with fail
            go_ret
            exact ⟨by rw [HR.out]; simp [Bool.beq_eq_decide_eq], hbel1⟩
      · have HT : Hid (typedB f = false) := Lib.hid (by unfold typedB; rw [decide_eq_false hp, Bool.and_false]; rfl)
        by_cases p1 : f.params < 0
        · clear hp
          go_wp2_with fail
          all_goals (go_ret; exact ⟨by rw [HT.out]; rfl, hbel1⟩)
        · by_cases p2 : 8 < f.params
          · clear hp
            go_wp2_with fail
            all_goals (go_ret; exact ⟨by rw [HT.out]; rfl, hbel1⟩)
          · have p3 : (f.regs.length : Int) < f.params := by omega
            clear hp
            go_wp2_with fail
            all_goals (go_ret; exact ⟨by rw [HT.out]; rfl, hbel1⟩)
end Go.Proofs.Ytoidhjmhakajlaa
