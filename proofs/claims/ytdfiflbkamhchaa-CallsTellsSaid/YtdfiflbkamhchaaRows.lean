/-
  No cell of these rows narrows 'for every input' (looked for: loops, veiled, ifaces, maps, wideKeys, modest, calm, conditions, laid).
  DERIVED. THE GIVEN ROWS OF THIS SEAT. 4 by the template 'for every input the law returns true; each argument reads behind the call as it read before'; 0 by the template 'total and deterministic' (their statements: YtdfiflbkamhchaaTotals.lean).
  GIVEN WITH THE SEED: the statements are not yours to turn. If you find one false, say at which input.
  Laid BY PROGRAM, IN A SANDBOX (cutbox-rows.mjs): the forced cells as the released guide's own fill.sh prints them over the translation 07ae86e990412b5b… (all of the seat's roots in one cut). By AI agents, Wed Nov 11 2026. No macro, syntax, notation, axiom, sorry.
-/
import Derived.Test.YtdfiflbkamhchaaChecked
import GoSem.Claim
import GoSem.ClaimJoined
import GoSem.ClaimMapViews
import Derived.JoinedTies
import Derived.KernelRfl
namespace Go.Proofs.Ytdfiflbkamhchaa
/- THE CELL 'sum', in the pinned program and in every row, IS THE sha256 OF THE DUMP (.gsa) THAT YtdfiflbkamhchaaProg.lean LOADS. Nothing in Lean hashes anything: it is a label: what it is worth is what the hold of that sum in a sandbox is worth. -/
noncomputable def Try.pinned : Pinned := { name := "ytdfiflbkamhchaa", sum := "07ae86e990412b5b22094d70e618b53610352c9bccb817fd453fadee1422b68e", checked := Try.checked }
namespace Rows
def none {H : Type} : Left H := { results := [], args := [] }

/-- 'fettlelaw08.LiveFree': WHATEVER THE INPUT: true; the input reads as it did. -/
def liveFreeSpec : ChangeSpec := { name := "liveFree", fn := fun _ => fun
  | [d1, d2, d3, d4, d5, d6, d7, d8] => { results := [.lit (.bool true)], args := [d1, d2, d3, d4, d5, d6, d7, d8] }
  | _ => none }
def liveFreeRow : OpenClaim := { program := "ytdfiflbkamhchaa", sum := "07ae86e990412b5b22094d70e618b53610352c9bccb817fd453fadee1422b68e", func := "fettle/fettlelaw08.LiveFree", spec := "liveFree", unfollowed := true, recurses := true, apart := false }
def LiveFreeSaid : Prop := liveFreeRow.holds Try.pinned (OpenSpec.ofChange liveFreeSpec)

/-- ITS FALSE NEIGHBOUR: 'it returns false'. Refute it at one input. -/
def liveFreeWrong : ChangeSpec := { name := "liveFree", fn := fun _ => fun
  | [d1, d2, d3, d4, d5, d6, d7, d8] => { results := [.lit (.bool false)], args := [d1, d2, d3, d4, d5, d6, d7, d8] }
  | _ => none }
def LiveFreeWrongFalsely : Prop := liveFreeRow.holds Try.pinned (OpenSpec.ofChange liveFreeWrong)

/-- 'fettlelaw09.CallsTells': WHATEVER THE INPUT: true; the input reads as it did. -/
def callsTellsSpec : ChangeSpec := { name := "callsTells", fn := fun _ => fun
  | [d] => { results := [.lit (.bool true)], args := [d] }
  | _ => none }
def callsTellsRow : OpenClaim := { program := "ytdfiflbkamhchaa", sum := "07ae86e990412b5b22094d70e618b53610352c9bccb817fd453fadee1422b68e", func := "fettle/fettlelaw09.CallsTells", spec := "callsTells", unfollowed := true, recurses := true, apart := false }
def CallsTellsSaid : Prop := callsTellsRow.holds Try.pinned (OpenSpec.ofChange callsTellsSpec)

/-- ITS FALSE NEIGHBOUR: 'it returns false'. Refute it at one input. -/
def callsTellsWrong : ChangeSpec := { name := "callsTells", fn := fun _ => fun
  | [d] => { results := [.lit (.bool false)], args := [d] }
  | _ => none }
def CallsTellsWrongFalsely : Prop := callsTellsRow.holds Try.pinned (OpenSpec.ofChange callsTellsWrong)

/-- 'fettlelaw09.CallsLie': WHATEVER THE INPUT: true; the input reads as it did. -/
def callsLieSpec : ChangeSpec := { name := "callsLie", fn := fun _ => fun
  | [d] => { results := [.lit (.bool true)], args := [d] }
  | _ => none }
def callsLieRow : OpenClaim := { program := "ytdfiflbkamhchaa", sum := "07ae86e990412b5b22094d70e618b53610352c9bccb817fd453fadee1422b68e", func := "fettle/fettlelaw09.CallsLie", spec := "callsLie", unfollowed := true, recurses := true, apart := false }
def CallsLieSaid : Prop := callsLieRow.holds Try.pinned (OpenSpec.ofChange callsLieSpec)

/-- ITS FALSE NEIGHBOUR: 'it returns false'. Refute it at one input. -/
def callsLieWrong : ChangeSpec := { name := "callsLie", fn := fun _ => fun
  | [d] => { results := [.lit (.bool false)], args := [d] }
  | _ => none }
def CallsLieWrongFalsely : Prop := callsLieRow.holds Try.pinned (OpenSpec.ofChange callsLieWrong)

/-- 'fettlelaw09.CallsStays': WHATEVER THE INPUT: true; the input reads as it did. -/
def callsStaysSpec : ChangeSpec := { name := "callsStays", fn := fun _ => fun
  | [d] => { results := [.lit (.bool true)], args := [d] }
  | _ => none }
def callsStaysRow : OpenClaim := { program := "ytdfiflbkamhchaa", sum := "07ae86e990412b5b22094d70e618b53610352c9bccb817fd453fadee1422b68e", func := "fettle/fettlelaw09.CallsStays", spec := "callsStays", unfollowed := true, recurses := true, apart := false }
def CallsStaysSaid : Prop := callsStaysRow.holds Try.pinned (OpenSpec.ofChange callsStaysSpec)

/-- ITS FALSE NEIGHBOUR: 'it returns false'. Refute it at one input. -/
def callsStaysWrong : ChangeSpec := { name := "callsStays", fn := fun _ => fun
  | [d] => { results := [.lit (.bool false)], args := [d] }
  | _ => none }
def CallsStaysWrongFalsely : Prop := callsStaysRow.holds Try.pinned (OpenSpec.ofChange callsStaysWrong)

/- THE SECOND FORM. 'bulk': how many values and letters a reading holds, each counted each time it is reached (what is shared counts as often as it is met; a slice's spare places count too). A statement '..UptoSaid' is the law's where the arguments, and the package variables that the reading takes, are together of bulk at most 1048576: NARROWER than '..Said'. Prove '..Said' where nothing that the law and all that it calls make is longer than what came in: it says more and counts as full. Else prove '..UptoSaid'. A law counts once. -/
mutual
def uptoBulk {H : Type} : DataW H → Nat
  | .lit (.string bytes) => bytes.length + 1
  | .lit _ => 1
  | .nil => 1
  | .ptr d => uptoBulk d + 1
  | .slice elems spare => uptoBulkAll elems + uptoBulkAll spare + 1
  | .agg parts => uptoBulkAll parts + 1
  | .iface _ d => uptoBulk d + 1
  | .map entries => uptoBulkEntries entries + 1
  | .held _ => 1
def uptoBulkAll {H : Type} : List (DataW H) → Nat
  | [] => 0
  | d :: r => uptoBulk d + uptoBulkAll r
def uptoBulkEntries {H : Type} : List (Lit × DataW H) → Nat
  | [] => 0
  | x :: r => uptoBulkEntry x + uptoBulkEntries r
def uptoBulkEntry {H : Type} : Lit × DataW H → Nat
  | (.string bytes, d) => bytes.length + uptoBulk d + 1
  | (_, d) => uptoBulk d + 1
 end
def uptoSmall : (H : Type) → List (DataW H) → Bool := fun _ ds => decide (uptoBulkAll ds ≤ 1048576)
def OpenSpec.upto (s : _root_.Go.ChangeSpec) : _root_.Go.OpenSpec := { _root_.Go.OpenSpec.ofChange s with cond := some uptoSmall }

/-- 'fettlelaw08.LiveFree', WHERE WHAT IT READS IS OF BULK AT MOST 1048576: true; the input reads as it did. -/
def liveFreeUptoRow : OpenClaim := { program := "ytdfiflbkamhchaa", sum := "07ae86e990412b5b22094d70e618b53610352c9bccb817fd453fadee1422b68e", func := "fettle/fettlelaw08.LiveFree", spec := "liveFree", unfollowed := true, recurses := true, apart := false, narrowed := true }
def LiveFreeUptoSaid : Prop := liveFreeUptoRow.holds Try.pinned (OpenSpec.upto liveFreeSpec)

/-- 'fettlelaw09.CallsTells', WHERE WHAT IT READS IS OF BULK AT MOST 1048576: true; the input reads as it did. -/
def callsTellsUptoRow : OpenClaim := { program := "ytdfiflbkamhchaa", sum := "07ae86e990412b5b22094d70e618b53610352c9bccb817fd453fadee1422b68e", func := "fettle/fettlelaw09.CallsTells", spec := "callsTells", unfollowed := true, recurses := true, apart := false, narrowed := true }
def CallsTellsUptoSaid : Prop := callsTellsUptoRow.holds Try.pinned (OpenSpec.upto callsTellsSpec)

/-- 'fettlelaw09.CallsLie', WHERE WHAT IT READS IS OF BULK AT MOST 1048576: true; the input reads as it did. -/
def callsLieUptoRow : OpenClaim := { program := "ytdfiflbkamhchaa", sum := "07ae86e990412b5b22094d70e618b53610352c9bccb817fd453fadee1422b68e", func := "fettle/fettlelaw09.CallsLie", spec := "callsLie", unfollowed := true, recurses := true, apart := false, narrowed := true }
def CallsLieUptoSaid : Prop := callsLieUptoRow.holds Try.pinned (OpenSpec.upto callsLieSpec)

/-- 'fettlelaw09.CallsStays', WHERE WHAT IT READS IS OF BULK AT MOST 1048576: true; the input reads as it did. -/
def callsStaysUptoRow : OpenClaim := { program := "ytdfiflbkamhchaa", sum := "07ae86e990412b5b22094d70e618b53610352c9bccb817fd453fadee1422b68e", func := "fettle/fettlelaw09.CallsStays", spec := "callsStays", unfollowed := true, recurses := true, apart := false, narrowed := true }
def CallsStaysUptoSaid : Prop := callsStaysUptoRow.holds Try.pinned (OpenSpec.upto callsStaysSpec)

end Rows
end Go.Proofs.Ytdfiflbkamhchaa
