/-
  DERIVED. GIVEN WITH THE SEED: THE CARDS: each row of YtdfiflbkamhchaaDoorRows.lean that lists a variable, with what it lists TIED to the program's text (the seventh form; the later family's looks); each row that meets fmt, with fmt's text TOLD by the authors' own Lean function (tested against real Go, not proved from fmt's source: count such statements apart). THE CARD IS WHAT COUNTS. Prove the row's statement (the work); the ties are given (YtdfiflbkamhchaaDoorTie.lean); close each card by the builder's one call (the guide's Derived/Test/ToyasCard.lean, 'card_holds'). Laid BY PROGRAM, IN A SANDBOX (cutbox-door.mjs). By AI agents, Wed Nov 11 2026. No macro, syntax, notation, axiom, sorry.
-/
import Derived.Test.YtdfiflbkamhchaaDoorRows
import GoSem.ClaimSeven
namespace Go.Proofs.YtdfiflbkamhchaaDoor
namespace Rows

/-- THE TIED CARD OF 'fettlelaw08.LiveTells'. -/
def liveTellsCard : Claim7 := { stood := { row := liveTellsRow, standIns := [], harness := (true, "6f30bb5de47495b62bf8fdacea265fc7879df4e39f98c16857c2fa1bb6f2f549"), looks := true }, kinds := [], alts := [], laidByText := true, laidKinds := [.handle], laidTests := true, laidLooks := .later }
def LiveTellsCardSaid : Prop := Claim7.holds Tryd.pinned (.plain (OpenSpec.ofChange liveTellsSpec)) liveTellsCard

/-- THE SECOND FORM's CARD OF 'fettlelaw08.LiveTells'. -/
def liveTellsUptoCard : Claim7 := { stood := { row := liveTellsUptoRow, standIns := [], harness := (true, "6f30bb5de47495b62bf8fdacea265fc7879df4e39f98c16857c2fa1bb6f2f549"), looks := true }, kinds := [], alts := [], laidByText := true, laidKinds := [.handle], laidTests := true, laidLooks := .later }
def LiveTellsUptoCardSaid : Prop := Claim7.holds Tryd.pinned (.plain (OpenSpec.upto liveTellsSpec)) liveTellsUptoCard
end Rows
end Go.Proofs.YtdfiflbkamhchaaDoor
