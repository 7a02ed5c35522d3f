/-
  DERIVED. GIVEN WITH THE SEED: THE CARDS: each row of YtfoggldjjnabcaaGreatDoorRows.lean that lists a variable, with what it lists TIED to the program's text (the seventh form; the later family's looks); each row that meets fmt, with fmt's text TOLD by the authors' own Lean function (tested against real Go, not proved from fmt's source: count such statements apart). THE CARD IS WHAT COUNTS. Prove the row's statement (the work); the ties are given (YtfoggldjjnabcaaGreatDoorTie.lean); close each card by the builder's one call (the guide's Derived/Test/ToyasCard.lean, 'card_holds'). Laid BY PROGRAM, IN A SANDBOX (cutbox-door.mjs). By AI agents, Wed Nov 11 2026. No macro, syntax, notation, axiom, sorry.
-/
import Derived.Test.YtfoggldjjnabcaaGreatDoorRows
import GoSem.ClaimSeven
namespace Go.Proofs.YtfoggldjjnabcaaGreatDoor
namespace Rows

/-- THE TIED CARD OF 'fettlelaw12.SsaBuilds'. -/
def ssaBuildsCard : Claim7 := { stood := { row := ssaBuildsRow, standIns := [], harness := (true, "4c32335d7e323f33ab6eb736b2aff27680e720e86559a9969fce09fd63ffc770"), looks := true }, kinds := [], alts := [], laidByText := true, laidKinds := [.handle], laidTests := true, laidLooks := .later }
def SsaBuildsCardSaid : Prop := Claim7.holds Tryz.pinned (.plain (OpenSpec.ofChange ssaBuildsSpec)) ssaBuildsCard

/-- THE TIED CARD OF 'fettlelaw13.ProperForms'. -/
def properFormsCard : Claim7 := { stood := { row := properFormsRow, standIns := [], harness := (true, "4c32335d7e323f33ab6eb736b2aff27680e720e86559a9969fce09fd63ffc770"), looks := true }, kinds := [], alts := [], laidByText := true, laidKinds := [.handle, .data], laidTests := true, laidLooks := .later }
def ProperFormsCardSaid : Prop := Claim7.holds Tryz.pinned (.plain (OpenSpec.ofChange properFormsSpec)) properFormsCard

/-- THE TIED CARD OF 'fettlelaw13.ProperBuilt'. -/
def properBuiltCard : Claim7 := { stood := { row := properBuiltRow, standIns := [], harness := (true, "4c32335d7e323f33ab6eb736b2aff27680e720e86559a9969fce09fd63ffc770"), looks := true }, kinds := [], alts := [], laidByText := true, laidKinds := [.data], laidTests := true, laidLooks := .later }
def ProperBuiltCardSaid : Prop := Claim7.holds Tryz.pinned (.plain (OpenSpec.ofChange properBuiltSpec)) properBuiltCard

/-- THE SECOND FORM's CARD OF 'fettlelaw12.SsaBuilds'. -/
def ssaBuildsUptoCard : Claim7 := { stood := { row := ssaBuildsUptoRow, standIns := [], harness := (true, "4c32335d7e323f33ab6eb736b2aff27680e720e86559a9969fce09fd63ffc770"), looks := true }, kinds := [], alts := [], laidByText := true, laidKinds := [.handle], laidTests := true, laidLooks := .later }
def SsaBuildsUptoCardSaid : Prop := Claim7.holds Tryz.pinned (.plain (OpenSpec.upto ssaBuildsSpec)) ssaBuildsUptoCard

/-- THE SECOND FORM's CARD OF 'fettlelaw13.ProperForms'. -/
def properFormsUptoCard : Claim7 := { stood := { row := properFormsUptoRow, standIns := [], harness := (true, "4c32335d7e323f33ab6eb736b2aff27680e720e86559a9969fce09fd63ffc770"), looks := true }, kinds := [], alts := [], laidByText := true, laidKinds := [.handle, .data], laidTests := true, laidLooks := .later }
def ProperFormsUptoCardSaid : Prop := Claim7.holds Tryz.pinned (.plain (OpenSpec.upto properFormsSpec)) properFormsUptoCard

/-- THE SECOND FORM's CARD OF 'fettlelaw13.ProperBuilt'. -/
def properBuiltUptoCard : Claim7 := { stood := { row := properBuiltUptoRow, standIns := [], harness := (true, "4c32335d7e323f33ab6eb736b2aff27680e720e86559a9969fce09fd63ffc770"), looks := true }, kinds := [], alts := [], laidByText := true, laidKinds := [.data], laidTests := true, laidLooks := .later }
def ProperBuiltUptoCardSaid : Prop := Claim7.holds Tryz.pinned (.plain (OpenSpec.upto properBuiltSpec)) properBuiltUptoCard
end Rows
end Go.Proofs.YtfoggldjjnabcaaGreatDoor
