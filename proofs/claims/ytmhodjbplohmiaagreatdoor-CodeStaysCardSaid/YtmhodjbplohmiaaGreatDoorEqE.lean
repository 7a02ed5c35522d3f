/- Two errors that are Codes are equal as their numbers are. -/
import Derived.Test.YtmhodjbplohmiaaGreatDoorModD
import Derived.Test.YtmhodjbplohmiaaGreatDoorErrLaw
namespace Go.Proofs.YtmhodjbplohmiaaGreatDoor
open Go.ChangeShapes Go.WideShapes Go.RowKit Go.Deep
set_option linter.unusedVariables false

theorem codeInfo : Tryz.prog.info? 45 = some ((Tryz.prog.info? 45).get!) := by kernel_rfl
theorem codeComp : ((Tryz.prog.info? 45).get!).comparable = true := by kernel_rfl
theorem eqlErr (x y : Int) (w : World) : (binOp .eql 29 (.iface 45 (.int .i64 x)) (.iface 45 (.int .i64 y))).run Tryz.prog w = .ok (.bool (x == y)) w :=
  run_eql_iface_int w x y Tryz.underlying29 Tryz.underlying45 codeInfo codeComp

end Go.Proofs.YtmhodjbplohmiaaGreatDoor
