/-
  DERIVED. GIVEN WITH THE SEED: THE CARDS: each row of YtooblmiffgjmjaaGreatDoorRows.lean that lists a variable, with what it lists TIED to the program's text (the seventh form; the later family's looks); each row that meets fmt, with fmt's text TOLD by the authors' own Lean function (tested against real Go, not proved from fmt's source: count such statements apart). THE CARD IS WHAT COUNTS. Prove the row's statement (the work); the ties are given (YtooblmiffgjmjaaGreatDoorTie.lean); close each card by the builder's one call (the guide's Derived/Test/ToyasCard.lean, 'card_holds'). Laid BY PROGRAM, IN A SANDBOX (cutbox-door.mjs). By AI agents, Wed Nov 11 2026. No macro, syntax, notation, axiom, sorry.
-/
import Derived.Test.YtooblmiffgjmjaaGreatDoorRows
import GoSem.ClaimSeven
namespace Go.Proofs.YtooblmiffgjmjaaGreatDoor
namespace Rows

/-- THE TIED CARD OF 'fettlelaw04.RunRuns'. -/
def runRunsCard : Claim7 := { stood := { row := runRunsRow, standIns := [], harness := (true, "695dcf7bdd2882c8f53baae845a6d987cd46b2f342b0c3fd6dacd8215b7371e3"), looks := true }, kinds := [], alts := [], laidByText := true, laidKinds := [.handle], laidTests := true, laidLooks := .later }
def RunRunsCardSaid : Prop := Claim7.holds Tryz.pinned (.plain (OpenSpec.ofChange runRunsSpec)) runRunsCard

/-- THE SECOND FORM's CARD OF 'fettlelaw04.RunRuns'. -/
def runRunsUptoCard : Claim7 := { stood := { row := runRunsUptoRow, standIns := [], harness := (true, "695dcf7bdd2882c8f53baae845a6d987cd46b2f342b0c3fd6dacd8215b7371e3"), looks := true }, kinds := [], alts := [], laidByText := true, laidKinds := [.handle], laidTests := true, laidLooks := .later }
def RunRunsUptoCardSaid : Prop := Claim7.holds Tryz.pinned (.plain (OpenSpec.upto runRunsSpec)) runRunsUptoCard
end Rows
end Go.Proofs.YtooblmiffgjmjaaGreatDoor
