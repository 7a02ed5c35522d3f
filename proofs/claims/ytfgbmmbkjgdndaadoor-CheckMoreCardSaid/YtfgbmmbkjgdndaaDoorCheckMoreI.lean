/- Is knows a Spot. -/
import Derived.Test.YtfgbmmbkjgdndaaDoorCheckMoreW
import Derived.Test.YtfgbmmbkjgdndaaDoorErrIs
namespace Go.Proofs.YtfgbmmbkjgdndaaDoor
open Go.ChangeShapes Go.WideShapes Go.RowKit Go.Deep
set_option linter.unusedVariables false

/-- The variable errors.errorType holds the type error's handle. -/
def HoldsErr (w : World) : Prop := w.cell? ⟨0, 0, none⟩ = some (.iface 81 (.agg #[.pointer (some ⟨1, 28, none⟩)]))
theorem ofIs : OfIs HoldsErr := fun v c n w hL he h0 hc => by
  rcases he with h1 | h1 | ⟨h1, h2, g, rfl, h4, h5⟩
  · exact absurd h1.1 hc
  · have := h1.2.1; dsimp only at this; omega
  · exact is_any g c n w hL h4 h5
theorem holdsErr_below : ∀ (w w' : World) (n : Nat), HoldsErr w → 0 < n → Below n w w' → HoldsErr w' := fun w w' n hL hn hb =>
  (hb.cell (p := ⟨0, 0, none⟩) hn).trans hL
end Go.Proofs.YtfgbmmbkjgdndaaDoor
