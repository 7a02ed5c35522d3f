/-
  No cell of these rows narrows 'for every input' (looked for: loops, veiled, ifaces, maps, wideKeys, modest, calm, conditions, laid).
  DERIVED. THE GIVEN ROWS OF THIS SEAT. 2 by the template 'for every input the law returns true; each argument reads behind the call as it read before'; 0 by the template 'total and deterministic' (their statements: YtfoggldjjnabcaaTotals.lean).
  GIVEN WITH THE SEED: the statements are not yours to turn. If you find one false, say at which input.
  Laid BY PROGRAM, IN A SANDBOX (cutbox-rows.mjs): the forced cells as the released guide's own fill.sh prints them over the translation 8e45d933397a069d… (all of the seat's roots in one cut). By AI agents, Wed Nov 11 2026. No macro, syntax, notation, axiom, sorry.
-/
import Derived.Test.YtfoggldjjnabcaaChecked
import GoSem.Claim
import GoSem.ClaimJoined
import GoSem.ClaimMapViews
import Derived.JoinedTies
import Derived.KernelRfl
namespace Go.Proofs.Ytfoggldjjnabcaa
/- THE CELL 'sum', in the pinned program and in every row, IS THE sha256 OF THE DUMP (.gsa) THAT YtfoggldjjnabcaaProg.lean LOADS. Nothing in Lean hashes anything: it is a label: what it is worth is what the hold of that sum in a sandbox is worth. -/
noncomputable def Try.pinned : Pinned := { name := "ytfoggldjjnabcaa", sum := "8e45d933397a069d4f3ecc37581e23e28234ea49ba014b3c8e7c1bcf682e010b", checked := Try.checked }
namespace Rows
def none {H : Type} : Left H := { results := [], args := [] }

/-- 'fettlelaw12.SsaStays': WHATEVER THE INPUT: true; the input reads as it did. -/
def ssaStaysSpec : ChangeSpec := { name := "ssaStays", fn := fun _ => fun
  | [d1, d2] => { results := [.lit (.bool true)], args := [d1, d2] }
  | _ => none }
def ssaStaysRow : OpenClaim := { program := "ytfoggldjjnabcaa", sum := "8e45d933397a069d4f3ecc37581e23e28234ea49ba014b3c8e7c1bcf682e010b", func := "fettle/fettlelaw12.SsaStays", spec := "ssaStays", unfollowed := true, recurses := true, apart := false }
def SsaStaysSaid : Prop := ssaStaysRow.holds Try.pinned (OpenSpec.ofChange ssaStaysSpec)

/-- ITS FALSE NEIGHBOUR: 'it returns false'. Refute it at one input. -/
def ssaStaysWrong : ChangeSpec := { name := "ssaStays", fn := fun _ => fun
  | [d1, d2] => { results := [.lit (.bool false)], args := [d1, d2] }
  | _ => none }
def SsaStaysWrongFalsely : Prop := ssaStaysRow.holds Try.pinned (OpenSpec.ofChange ssaStaysWrong)

/-- 'fettlelaw12.SsaBlocks': WHATEVER THE INPUT: true; the input reads as it did. -/
def ssaBlocksSpec : ChangeSpec := { name := "ssaBlocks", fn := fun _ => fun
  | [d1, d2] => { results := [.lit (.bool true)], args := [d1, d2] }
  | _ => none }
def ssaBlocksRow : OpenClaim := { program := "ytfoggldjjnabcaa", sum := "8e45d933397a069d4f3ecc37581e23e28234ea49ba014b3c8e7c1bcf682e010b", func := "fettle/fettlelaw12.SsaBlocks", spec := "ssaBlocks", unfollowed := true, recurses := true, apart := false }
def SsaBlocksSaid : Prop := ssaBlocksRow.holds Try.pinned (OpenSpec.ofChange ssaBlocksSpec)

/-- ITS FALSE NEIGHBOUR: 'it returns false'. Refute it at one input. -/
def ssaBlocksWrong : ChangeSpec := { name := "ssaBlocks", fn := fun _ => fun
  | [d1, d2] => { results := [.lit (.bool false)], args := [d1, d2] }
  | _ => none }
def SsaBlocksWrongFalsely : Prop := ssaBlocksRow.holds Try.pinned (OpenSpec.ofChange ssaBlocksWrong)

/- THE SECOND FORM. 'bulk': how many values and letters a reading holds, each counted each time it is reached (what is shared counts as often as it is met; a slice's spare places count too). A statement '..UptoSaid' is the law's where the arguments, and the package variables that the reading takes, are together of bulk at most 1048576: NARROWER than '..Said'. Prove '..Said' where nothing that the law and all that it calls make is longer than what came in: it says more and counts as full. Else prove '..UptoSaid'. A law counts once. -/
mutual
def uptoBulk {H : Type} : DataW H → Nat
  | .lit (.string bytes) => bytes.length + 1
  | .lit _ => 1
  | .nil => 1
  | .ptr d => uptoBulk d + 1
  | .slice elems spare => uptoBulkAll elems + uptoBulkAll spare + 1
  | .agg parts => uptoBulkAll parts + 1
  | .iface _ d => uptoBulk d + 1
  | .map entries => uptoBulkEntries entries + 1
  | .held _ => 1
def uptoBulkAll {H : Type} : List (DataW H) → Nat
  | [] => 0
  | d :: r => uptoBulk d + uptoBulkAll r
def uptoBulkEntries {H : Type} : List (Lit × DataW H) → Nat
  | [] => 0
  | x :: r => uptoBulkEntry x + uptoBulkEntries r
def uptoBulkEntry {H : Type} : Lit × DataW H → Nat
  | (.string bytes, d) => bytes.length + uptoBulk d + 1
  | (_, d) => uptoBulk d + 1
 end
def uptoSmall : (H : Type) → List (DataW H) → Bool := fun _ ds => decide (uptoBulkAll ds ≤ 1048576)
def OpenSpec.upto (s : _root_.Go.ChangeSpec) : _root_.Go.OpenSpec := { _root_.Go.OpenSpec.ofChange s with cond := some uptoSmall }

/-- 'fettlelaw12.SsaStays', WHERE WHAT IT READS IS OF BULK AT MOST 1048576: true; the input reads as it did. -/
def ssaStaysUptoRow : OpenClaim := { program := "ytfoggldjjnabcaa", sum := "8e45d933397a069d4f3ecc37581e23e28234ea49ba014b3c8e7c1bcf682e010b", func := "fettle/fettlelaw12.SsaStays", spec := "ssaStays", unfollowed := true, recurses := true, apart := false, narrowed := true }
def SsaStaysUptoSaid : Prop := ssaStaysUptoRow.holds Try.pinned (OpenSpec.upto ssaStaysSpec)

/-- 'fettlelaw12.SsaBlocks', WHERE WHAT IT READS IS OF BULK AT MOST 1048576: true; the input reads as it did. -/
def ssaBlocksUptoRow : OpenClaim := { program := "ytfoggldjjnabcaa", sum := "8e45d933397a069d4f3ecc37581e23e28234ea49ba014b3c8e7c1bcf682e010b", func := "fettle/fettlelaw12.SsaBlocks", spec := "ssaBlocks", unfollowed := true, recurses := true, apart := false, narrowed := true }
def SsaBlocksUptoSaid : Prop := ssaBlocksUptoRow.holds Try.pinned (OpenSpec.upto ssaBlocksSpec)

end Rows
end Go.Proofs.Ytfoggldjjnabcaa
