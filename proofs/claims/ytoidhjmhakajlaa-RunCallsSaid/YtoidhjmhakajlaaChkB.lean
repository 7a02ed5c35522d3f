/- Rule 3: hasItsTos, endsWell. -/
import Derived.Test.YtoidhjmhakajlaaSpec
import Derived.Test.YtoidhjmhakajlaaAhead
import Derived.Deep.QuietTactic
import Derived.BigQuiet
namespace Go.Proofs.Ytoidhjmhakajlaa
open Go.ChangeShapes Go.WideShapes Go.RowKit Go.Deep
set_option linter.unusedVariables false

set_option maxRecDepth 100000 in
set_option maxHeartbeats 4000000 in
theorem hasItsTos_any (t : TermD) (v : Value) (w : World) (hv : VTerm w v t) :
    Calls Try.prog 60 #[v] w fun e w' => e = .returned (.bool (tosB t)) ∧ Below w.heap.size w w' := by
  obtain ⟨A, c, rfl, ht, -, -⟩ := hv
  have htl := ht.len
  have hbel1 : Below w.heap.size w (w.alloc (.cells #[.int .i64 t.kind, .int .i64 t.arg, .slice A t.to.length c] 43)) := (Below.refl _ _).alloc (Nat.le_refl _) _
  by_cases k1 : t.kind = 1
  · have HT : Hid (tosB t = decide (t.to.length = 1)) := Lib.hid (by unfold tosB; rw [if_pos k1])
    have k1' : (t.kind == 1) = true := by simpa using k1
    clear k1
    go_enter Try.func60, Try.ntmps60
    go_wp2_with fail
    go_ret
    exact ⟨by rw [HT.out]; simp [Bool.beq_eq_decide_eq]; try omega, hbel1⟩
  · have k1' : (t.kind == 1) = false := by simpa using k1
    by_cases k2 : t.kind = 2
    · have k2' : (t.kind == 2) = true := by simpa using k2
      have HT : Hid (tosB t = (decide (t.to.length = 2) && decide (t.to.getD 0 0 ≠ t.to.getD 1 0))) := Lib.hid (by unfold tosB; rw [if_neg k1, if_pos k2])
      clear k1 k2
      by_cases l2 : t.to.length = 2
      · obtain ⟨b, o, x, rfl, hx, hxc, -⟩ := ht.int (k := 0) (by omega)
        obtain ⟨b', o', y, he, hy, hyc, -⟩ := ht.int (k := 1) (by omega)
        simp only [Option.some.injEq, Addr.mk.injEq] at he
        obtain ⟨rfl, rfl, -⟩ := he
        have HT' : Hid (tosB t = decide (x ≠ y)) := Lib.hid (by
          rw [HT.out, decide_eq_true l2, Bool.true_and, List.getD_eq_getElem?_getD, List.getD_eq_getElem?_getD, hx.out, hy.out]; rfl)
        have l2' : ((t.to.length : Int) == 2) = true := by simp [l2]
        have l2'' : 2 ≤ t.to.length := by omega
        have hltx := block_lt_of_cell hxc
        simp only [Nat.add_zero] at hxc
        clear l2 HT
        go_enter Try.func60, Try.ntmps60
        go_wp2_with fail
        go_quiet (fail)
        go_wp2_with fail
        go_ret
        exact ⟨by rw [HT'.out]; simp [bne, Bool.beq_eq_decide_eq], below_drewN hbel1 _⟩
      · have l2' : ((t.to.length : Int) == 2) = false := by
          rw [beq_eq_false_iff_ne]; omega
        have HT' : Hid (tosB t = false) := Lib.hid (by rw [HT.out, decide_eq_false l2]; rfl)
        clear l2 HT
        go_enter Try.func60, Try.ntmps60
        go_wp2_with fail
        go_quiet (fail)
        go_wp2_with fail
        go_ret
        exact ⟨by rw [HT'.out]; rfl, below_drewN hbel1 _⟩
    · have k2' : (t.kind == 2) = false := by simpa using k2
      by_cases k3 : t.kind = 3
      · have k3' : (t.kind == 3) = true := by simpa using k3
        have HT : Hid (tosB t = decide (t.to.length = 0)) := Lib.hid (by unfold tosB; rw [if_neg k1, if_neg k2, if_pos k3])
        clear k1 k2 k3
        go_enter Try.func60, Try.ntmps60
        go_wp2_with fail
        go_ret
        exact ⟨by rw [HT.out]; simp [Bool.beq_eq_decide_eq]; try omega, hbel1⟩
      · have k3' : (t.kind == 3) = false := by simpa using k3
        have HT : Hid (tosB t = false) := Lib.hid (by unfold tosB; rw [if_neg k1, if_neg k2, if_neg k3])
        clear k1 k2 k3
        go_enter Try.func60, Try.ntmps60
        go_wp2_with fail
        go_ret
        exact ⟨by rw [HT.out]; rfl, hbel1⟩
end Go.Proofs.Ytoidhjmhakajlaa
