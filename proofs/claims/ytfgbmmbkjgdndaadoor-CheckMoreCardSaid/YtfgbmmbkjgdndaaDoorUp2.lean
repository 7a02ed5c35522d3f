/- The examples at the head of the statements of layer 2 hold. -/
import Derived.Test.YtfgbmmbkjgdndaaDoorModD
import Derived.Test.YtfgbmmbkjgdndaaDoorErrLaw
namespace Go.Proofs.YtfgbmmbkjgdndaaDoor
open Go.ChangeShapes Go.WideShapes Go.RowKit Go.Deep
set_option linter.unusedVariables false

theorem codeInfo : Tryd.prog.info? 36 = some ((Tryd.prog.info? 36).get!) := by kernel_rfl
theorem codeComp : ((Tryd.prog.info? 36).get!).comparable = true := by kernel_rfl
theorem eqlErr (x y : Int) (w : World) : (binOp .eql 28 (.iface 36 (.int .i64 x)) (.iface 36 (.int .i64 y))).run Tryd.prog w = .ok (.bool (x == y)) w :=
  run_eql_iface_int w x y Tryd.underlying28 Tryd.underlying36 codeInfo codeComp

theorem module_nil (w : World) : Calls Tryd.prog 6 #[.agg #[.slice none 0 0]] w fun e w' => e = .returned .nilIface ∧ Below w.heap.size w w' := by
  go_enter Tryd.func6, Tryd.ntmps6
  go_wp2_with fail
  go_loopw [14] (fun i wr => i = .int .i64 0 ∧ Below w.heap.size w wr) (fun _ _ => 0)
  case atStart => exact ⟨rfl, (Below.refl _ _).alloc (Nat.le_refl _) _⟩
  case round =>
    obtain ⟨rfl, hb⟩ := hrel
    go_wp2_with fail
    go_ret
    exact ⟨rfl, hb⟩
theorem func_nil (w : World) : Calls Tryd.prog 9 #[.agg #[.slice none 0 0], .int .i64 0] w fun e w' => e = .returned (.iface 36 (.int .i64 1)) ∧ Below w.heap.size w w' := by
  go_enter Tryd.func9, Tryd.ntmps9
  go_wp2_with fail
  go_ret
  exact ⟨rfl, (Below.refl _ _).alloc (Nat.le_refl _) _⟩
theorem up_any (w : World) : Calls Tryd.prog 4 #[] w fun e w' => e = .returned (.bool true) ∧ Below w.heap.size w w' := by
  have he := eqlErr
  go_enter Tryd.func4, Tryd.ntmps4
  go_wp2_with fail
  refine (module_nil _).mono ?_
  rintro e w1 ⟨rfl, hb⟩
  go_wp2_with fail
  refine (func_nil _).mono ?_
  rintro e w2 ⟨rfl, hb2⟩
  go_wp2_with fail
  go_ret
  exact ⟨rfl, hb.trans (hb2.mono hb.size)⟩
end Go.Proofs.YtfgbmmbkjgdndaaDoor
