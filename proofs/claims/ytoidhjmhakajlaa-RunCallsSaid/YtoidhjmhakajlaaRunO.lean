/- Arguments of a run that came in from outside. -/
import Derived.Test.YtoidhjmhakajlaaRunM
import Derived.Test.YtoidhjmhakajlaaOpenM
namespace Go.Proofs.Ytoidhjmhakajlaa
open Go.ChangeShapes Go.WideShapes Go.RowKit Go.Deep
set_option linter.unusedVariables false

section
variable {H : Type} {enc : TypeId × Value → H} {w : World} {base : Nat} {spare : Nat → Bool} {held : Bool}
set_option maxRecDepth 100000 in
theorem opens_int64 : Opens enc Try.prog w base spare held 2 1 RInt := fun n b o cs y hlen hat h => by
  obtain ⟨x, rfl, _, hw⟩ := DataW.trod_int Try.underlying2 h
  exact ⟨x, (hat 0 (by omega)).trans rfl, wf_i64 hw⟩
set_option maxRecDepth 100000 in
theorem open_int64sV {r : Reach} {b0 : Nat} {v : Value} {d : DataW H} {p : List MemPlace} (hv : Value.okWide Try.prog w r b0 25 v) (h : DataW.Trod enc Try.prog w base spare held 25 v d p) : ∃ l, VS w 1 RInt v l := by
  obtain ⟨a, len, cap, rfl⟩ := okWide_slice Try.underlying25 hv
  obtain ⟨fuel, hf⟩ := h
  exact open_vs Try.underlying25 Try.cells2 (by omega) opens_int64 hf
end
end Go.Proofs.Ytoidhjmhakajlaa
