/- What is small enough to be gone through is within the code's reach. -/
import Derived.Test.YtoidhjmhakajlaaChkA
namespace Go.Proofs.Ytoidhjmhakajlaa
open Go.ChangeShapes Go.WideShapes Go.RowKit Go.Deep
set_option linter.unusedVariables false

theorem lim_of_small {m : List FunD} (h : SmallM m) : ∀ f ∈ m, Lim f := fun f hf b hb => by
  have := (h.2 f hf).2.2.2 b hb
  exact ⟨by have := this.2.1; omega, by have := this.1; omega⟩
end Go.Proofs.Ytoidhjmhakajlaa
