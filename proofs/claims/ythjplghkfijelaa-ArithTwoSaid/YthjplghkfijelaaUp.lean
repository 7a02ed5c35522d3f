/- The examples at the head of all statements hold, and nothing that was there has turned. -/
import Derived.Test.YthjplghkfijelaaArith
import Derived.Test.YthjplghkfijelaaErrLaw
import Derived.WalkSmall
import Derived.Below
namespace Go.Proofs.Ythjplghkfijelaa
open Go.ChangeShapes Go.WideShapes Go.ChangeAt Go.RowKit

theorem codeInfo : Try.prog.info? 32 = some ((Try.prog.info? 32).get!) := by kernel_rfl
theorem codeComp : ((Try.prog.info? 32).get!).comparable = true := by kernel_rfl
theorem eqlErr (x y : Int) (w : World) : (binOp .eql 29 (.iface 32 (.int .i64 x)) (.iface 32 (.int .i64 y))).run Try.prog w = .ok (.bool (x == y)) w :=
  run_eql_iface_int w x y Try.underlying29 Try.underlying32 codeInfo codeComp

theorem new_cell {W : World} {c : Array Value} {t : TypeId} {n i : Nat} {v : Value} (hn : n = W.heap.size) (hv : c[i]? = some v) : (W.alloc (.cells c t)).cell? ⟨n, i, none⟩ = some v :=
  (World.cell?_alloc_at c t n i hn).trans hv

theorem up_any (w : World) : Calls Try.prog 11 #[] w fun e w' => e = .returned (.bool true) ∧ Below w.heap.size w w' := by
  have he := eqlErr
  have ht : two 11 (-7) 2 = -3 := by decide +kernel
  go_enter Try.func11, Try.ntmps11
  go_wp2_with fail
  refine (eval_two 11 (-7) 2 _ 0 _ _ (by omega) (by omega) (fun _ => rfl) (new_cell (by simp) rfl) (new_cell (by simp) rfl)).mono ?_
  rintro e w1 ⟨rfl, n, rfl⟩
  go_wp2_with fail
  refine (eval_div0 _ 0 _ _ (new_cell (by simp) rfl)).mono ?_
  rintro e w1 ⟨rfl, rfl⟩
  go_wp2_with fail
  go_ret
  exact ⟨rfl, ((below_drewN ((Below.refl _ _).alloc (Nat.le_refl _) _) _).alloc (by simp) _)⟩
end Go.Proofs.Ythjplghkfijelaa
