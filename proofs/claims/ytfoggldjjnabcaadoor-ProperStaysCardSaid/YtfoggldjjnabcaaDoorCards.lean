/-
  DERIVED. GIVEN WITH THE SEED: THE CARDS: each row of YtfoggldjjnabcaaDoorRows.lean that lists a variable, with what it lists TIED to the program's text (the seventh form; the later family's looks); each row that meets fmt, with fmt's text TOLD by the authors' own Lean function (tested against real Go, not proved from fmt's source: count such statements apart). THE CARD IS WHAT COUNTS. Prove the row's statement (the work); the ties are given (YtfoggldjjnabcaaDoorTie.lean); close each card by the builder's one call (the guide's Derived/Test/ToyasCard.lean, 'card_holds'). Laid BY PROGRAM, IN A SANDBOX (cutbox-door.mjs). By AI agents, Wed Nov 11 2026. No macro, syntax, notation, axiom, sorry.
-/
import Derived.Test.YtfoggldjjnabcaaDoorRows
import GoSem.ClaimSeven
namespace Go.Proofs.YtfoggldjjnabcaaDoor
namespace Rows

/-- THE TIED CARD OF 'fettlelaw13.ProperStays'. -/
def properStaysCard : Claim7 := { stood := { row := properStaysRow, standIns := [], harness := (true, "d116d20282735959f567f6431c96c7919ef0e8e9e3cf1660139c29ed78f68aed"), looks := true }, kinds := [], alts := [], laidByText := true, laidKinds := [.handle, .data], laidTests := true, laidLooks := .later }
def ProperStaysCardSaid : Prop := Claim7.holds Tryd.pinned (.plain (OpenSpec.ofChange properStaysSpec)) properStaysCard

/-- THE SECOND FORM's CARD OF 'fettlelaw13.ProperStays'. -/
def properStaysUptoCard : Claim7 := { stood := { row := properStaysUptoRow, standIns := [], harness := (true, "d116d20282735959f567f6431c96c7919ef0e8e9e3cf1660139c29ed78f68aed"), looks := true }, kinds := [], alts := [], laidByText := true, laidKinds := [.handle, .data], laidTests := true, laidLooks := .later }
def ProperStaysUptoCardSaid : Prop := Claim7.holds Tryd.pinned (.plain (OpenSpec.upto properStaysSpec)) properStaysUptoCard
end Rows
end Go.Proofs.YtfoggldjjnabcaaDoor
