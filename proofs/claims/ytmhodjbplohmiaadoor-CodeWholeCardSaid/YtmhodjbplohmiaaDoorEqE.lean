/- Two errors that are Codes are equal as their numbers are. -/
import Derived.Test.YtmhodjbplohmiaaDoorModD
import Derived.Test.YtmhodjbplohmiaaDoorErrLaw
namespace Go.Proofs.YtmhodjbplohmiaaDoor
open Go.ChangeShapes Go.WideShapes Go.RowKit Go.Deep
set_option linter.unusedVariables false

theorem codeInfo : Tryd.prog.info? 38 = some ((Tryd.prog.info? 38).get!) := by kernel_rfl
theorem codeComp : ((Tryd.prog.info? 38).get!).comparable = true := by kernel_rfl
theorem eqlErr (x y : Int) (w : World) : (binOp .eql 29 (.iface 38 (.int .i64 x)) (.iface 38 (.int .i64 y))).run Tryd.prog w = .ok (.bool (x == y)) w :=
  run_eql_iface_int w x y Tryd.underlying29 Tryd.underlying38 codeInfo codeComp

end Go.Proofs.YtmhodjbplohmiaaDoor
