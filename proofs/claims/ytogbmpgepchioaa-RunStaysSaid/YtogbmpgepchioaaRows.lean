/-
  No cell of these rows narrows 'for every input' (looked for: loops, veiled, ifaces, maps, wideKeys, modest, calm, conditions, laid).
  DERIVED. THE GIVEN ROWS OF THIS SEAT. 7 by the template 'for every input the law returns true; each argument reads behind the call as it read before'; 0 by the template 'total and deterministic' (their statements: YtogbmpgepchioaaTotals.lean).
  GIVEN WITH THE SEED: the statements are not yours to turn. If you find one false, say at which input.
  Laid BY PROGRAM, IN A SANDBOX (cutbox-rows.mjs): the forced cells as the released guide's own fill.sh prints them over the translation ee85acdbc82475b1… (all of the seat's roots in one cut). By AI agents, Wed Nov 11 2026. No macro, syntax, notation, axiom, sorry.
-/
import Derived.Test.YtogbmpgepchioaaChecked
import GoSem.Claim
import GoSem.ClaimJoined
import GoSem.ClaimMapViews
import Derived.JoinedTies
import Derived.KernelRfl
namespace Go.Proofs.Ytogbmpgepchioaa
/- THE CELL 'sum', in the pinned program and in every row, IS THE sha256 OF THE DUMP (.gsa) THAT YtogbmpgepchioaaProg.lean LOADS. Nothing in Lean hashes anything: it is a label: what it is worth is what the hold of that sum in a sandbox is worth. -/
noncomputable def Try.pinned : Pinned := { name := "ytogbmpgepchioaa", sum := "ee85acdbc82475b15b5ed72f2a8401094c86e241142094002610130efc8ae517", checked := Try.checked }
namespace Rows
def none {H : Type} : Left H := { results := [], args := [] }

/-- 'fettlelaw04.RunStays': WHATEVER THE INPUT: true; the input reads as it did. -/
def runStaysSpec : ChangeSpec := { name := "runStays", fn := fun _ => fun
  | [d1, d2, d3, d4] => { results := [.lit (.bool true)], args := [d1, d2, d3, d4] }
  | _ => none }
def runStaysRow : OpenClaim := { program := "ytogbmpgepchioaa", sum := "ee85acdbc82475b15b5ed72f2a8401094c86e241142094002610130efc8ae517", func := "fettle/fettlelaw04.RunStays", spec := "runStays", apart := false }
def RunStaysSaid : Prop := runStaysRow.holds Try.pinned (OpenSpec.ofChange runStaysSpec)

/-- ITS FALSE NEIGHBOUR: 'it returns false'. Refute it at one input. -/
def runStaysWrong : ChangeSpec := { name := "runStays", fn := fun _ => fun
  | [d1, d2, d3, d4] => { results := [.lit (.bool false)], args := [d1, d2, d3, d4] }
  | _ => none }
def RunStaysWrongFalsely : Prop := runStaysRow.holds Try.pinned (OpenSpec.ofChange runStaysWrong)

/-- 'fettlelaw04.RunCalls': WHATEVER THE INPUT: true; the input reads as it did. -/
def runCallsSpec : ChangeSpec := { name := "runCalls", fn := fun _ => fun
  | [d1, d2, d3, d4] => { results := [.lit (.bool true)], args := [d1, d2, d3, d4] }
  | _ => none }
def runCallsRow : OpenClaim := { program := "ytogbmpgepchioaa", sum := "ee85acdbc82475b15b5ed72f2a8401094c86e241142094002610130efc8ae517", func := "fettle/fettlelaw04.RunCalls", spec := "runCalls", apart := false }
def RunCallsSaid : Prop := runCallsRow.holds Try.pinned (OpenSpec.ofChange runCallsSpec)

/-- ITS FALSE NEIGHBOUR: 'it returns false'. Refute it at one input. -/
def runCallsWrong : ChangeSpec := { name := "runCalls", fn := fun _ => fun
  | [d1, d2, d3, d4] => { results := [.lit (.bool false)], args := [d1, d2, d3, d4] }
  | _ => none }
def RunCallsWrongFalsely : Prop := runCallsRow.holds Try.pinned (OpenSpec.ofChange runCallsWrong)

/-- 'fettlelaw05.GraphNext': WHATEVER THE INPUT: true; the input reads as it did. -/
def graphNextSpec : ChangeSpec := { name := "graphNext", fn := fun _ => fun
  | [d] => { results := [.lit (.bool true)], args := [d] }
  | _ => none }
def graphNextRow : OpenClaim := { program := "ytogbmpgepchioaa", sum := "ee85acdbc82475b15b5ed72f2a8401094c86e241142094002610130efc8ae517", func := "fettle/fettlelaw05.GraphNext", spec := "graphNext", unfollowed := true, recurses := true, apart := false }
def GraphNextSaid : Prop := graphNextRow.holds Try.pinned (OpenSpec.ofChange graphNextSpec)

/-- ITS FALSE NEIGHBOUR: 'it returns false'. Refute it at one input. -/
def graphNextWrong : ChangeSpec := { name := "graphNext", fn := fun _ => fun
  | [d] => { results := [.lit (.bool false)], args := [d] }
  | _ => none }
def GraphNextWrongFalsely : Prop := graphNextRow.holds Try.pinned (OpenSpec.ofChange graphNextWrong)

/-- 'fettlelaw05.GraphTrims': WHATEVER THE INPUT: true; the input reads as it did. -/
def graphTrimsSpec : ChangeSpec := { name := "graphTrims", fn := fun _ => fun
  | [d] => { results := [.lit (.bool true)], args := [d] }
  | _ => none }
def graphTrimsRow : OpenClaim := { program := "ytogbmpgepchioaa", sum := "ee85acdbc82475b15b5ed72f2a8401094c86e241142094002610130efc8ae517", func := "fettle/fettlelaw05.GraphTrims", spec := "graphTrims", unfollowed := true, recurses := true, apart := false }
def GraphTrimsSaid : Prop := graphTrimsRow.holds Try.pinned (OpenSpec.ofChange graphTrimsSpec)

/-- ITS FALSE NEIGHBOUR: 'it returns false'. Refute it at one input. -/
def graphTrimsWrong : ChangeSpec := { name := "graphTrims", fn := fun _ => fun
  | [d] => { results := [.lit (.bool false)], args := [d] }
  | _ => none }
def GraphTrimsWrongFalsely : Prop := graphTrimsRow.holds Try.pinned (OpenSpec.ofChange graphTrimsWrong)

/-- 'fettlelaw05.GraphOrders': WHATEVER THE INPUT: true; the input reads as it did. -/
def graphOrdersSpec : ChangeSpec := { name := "graphOrders", fn := fun _ => fun
  | [d] => { results := [.lit (.bool true)], args := [d] }
  | _ => none }
def graphOrdersRow : OpenClaim := { program := "ytogbmpgepchioaa", sum := "ee85acdbc82475b15b5ed72f2a8401094c86e241142094002610130efc8ae517", func := "fettle/fettlelaw05.GraphOrders", spec := "graphOrders", unfollowed := true, recurses := true, apart := false }
def GraphOrdersSaid : Prop := graphOrdersRow.holds Try.pinned (OpenSpec.ofChange graphOrdersSpec)

/-- ITS FALSE NEIGHBOUR: 'it returns false'. Refute it at one input. -/
def graphOrdersWrong : ChangeSpec := { name := "graphOrders", fn := fun _ => fun
  | [d] => { results := [.lit (.bool false)], args := [d] }
  | _ => none }
def GraphOrdersWrongFalsely : Prop := graphOrdersRow.holds Try.pinned (OpenSpec.ofChange graphOrdersWrong)

/-- 'fettlelaw05.GraphSame': WHATEVER THE INPUT: true; the input reads as it did. -/
def graphSameSpec : ChangeSpec := { name := "graphSame", fn := fun _ => fun
  | [d1, d2, d3, d4, d5] => { results := [.lit (.bool true)], args := [d1, d2, d3, d4, d5] }
  | _ => none }
def graphSameRow : OpenClaim := { program := "ytogbmpgepchioaa", sum := "ee85acdbc82475b15b5ed72f2a8401094c86e241142094002610130efc8ae517", func := "fettle/fettlelaw05.GraphSame", spec := "graphSame", unfollowed := true, recurses := true, apart := false }
def GraphSameSaid : Prop := graphSameRow.holds Try.pinned (OpenSpec.ofChange graphSameSpec)

/-- ITS FALSE NEIGHBOUR: 'it returns false'. Refute it at one input. -/
def graphSameWrong : ChangeSpec := { name := "graphSame", fn := fun _ => fun
  | [d1, d2, d3, d4, d5] => { results := [.lit (.bool false)], args := [d1, d2, d3, d4, d5] }
  | _ => none }
def GraphSameWrongFalsely : Prop := graphSameRow.holds Try.pinned (OpenSpec.ofChange graphSameWrong)

/-- 'fettlelaw05.GraphStays': WHATEVER THE INPUT: true; the input reads as it did. -/
def graphStaysSpec : ChangeSpec := { name := "graphStays", fn := fun _ => fun
  | [d] => { results := [.lit (.bool true)], args := [d] }
  | _ => none }
def graphStaysRow : OpenClaim := { program := "ytogbmpgepchioaa", sum := "ee85acdbc82475b15b5ed72f2a8401094c86e241142094002610130efc8ae517", func := "fettle/fettlelaw05.GraphStays", spec := "graphStays", unfollowed := true, recurses := true, apart := false }
def GraphStaysSaid : Prop := graphStaysRow.holds Try.pinned (OpenSpec.ofChange graphStaysSpec)

/-- ITS FALSE NEIGHBOUR: 'it returns false'. Refute it at one input. -/
def graphStaysWrong : ChangeSpec := { name := "graphStays", fn := fun _ => fun
  | [d] => { results := [.lit (.bool false)], args := [d] }
  | _ => none }
def GraphStaysWrongFalsely : Prop := graphStaysRow.holds Try.pinned (OpenSpec.ofChange graphStaysWrong)

/- THE SECOND FORM. 'bulk': how many values and letters a reading holds, each counted each time it is reached (what is shared counts as often as it is met; a slice's spare places count too). A statement '..UptoSaid' is the law's where the arguments, and the package variables that the reading takes, are together of bulk at most 1048576: NARROWER than '..Said'. Prove '..Said' where nothing that the law and all that it calls make is longer than what came in: it says more and counts as full. Else prove '..UptoSaid'. A law counts once. -/
mutual
def uptoBulk {H : Type} : DataW H → Nat
  | .lit (.string bytes) => bytes.length + 1
  | .lit _ => 1
  | .nil => 1
  | .ptr d => uptoBulk d + 1
  | .slice elems spare => uptoBulkAll elems + uptoBulkAll spare + 1
  | .agg parts => uptoBulkAll parts + 1
  | .iface _ d => uptoBulk d + 1
  | .map entries => uptoBulkEntries entries + 1
  | .held _ => 1
def uptoBulkAll {H : Type} : List (DataW H) → Nat
  | [] => 0
  | d :: r => uptoBulk d + uptoBulkAll r
def uptoBulkEntries {H : Type} : List (Lit × DataW H) → Nat
  | [] => 0
  | x :: r => uptoBulkEntry x + uptoBulkEntries r
def uptoBulkEntry {H : Type} : Lit × DataW H → Nat
  | (.string bytes, d) => bytes.length + uptoBulk d + 1
  | (_, d) => uptoBulk d + 1
 end
def uptoSmall : (H : Type) → List (DataW H) → Bool := fun _ ds => decide (uptoBulkAll ds ≤ 1048576)
def OpenSpec.upto (s : _root_.Go.ChangeSpec) : _root_.Go.OpenSpec := { _root_.Go.OpenSpec.ofChange s with cond := some uptoSmall }

/-- 'fettlelaw04.RunStays', WHERE WHAT IT READS IS OF BULK AT MOST 1048576: true; the input reads as it did. -/
def runStaysUptoRow : OpenClaim := { program := "ytogbmpgepchioaa", sum := "ee85acdbc82475b15b5ed72f2a8401094c86e241142094002610130efc8ae517", func := "fettle/fettlelaw04.RunStays", spec := "runStays", apart := false, narrowed := true }
def RunStaysUptoSaid : Prop := runStaysUptoRow.holds Try.pinned (OpenSpec.upto runStaysSpec)

/-- 'fettlelaw04.RunCalls', WHERE WHAT IT READS IS OF BULK AT MOST 1048576: true; the input reads as it did. -/
def runCallsUptoRow : OpenClaim := { program := "ytogbmpgepchioaa", sum := "ee85acdbc82475b15b5ed72f2a8401094c86e241142094002610130efc8ae517", func := "fettle/fettlelaw04.RunCalls", spec := "runCalls", apart := false, narrowed := true }
def RunCallsUptoSaid : Prop := runCallsUptoRow.holds Try.pinned (OpenSpec.upto runCallsSpec)

/-- 'fettlelaw05.GraphNext', WHERE WHAT IT READS IS OF BULK AT MOST 1048576: true; the input reads as it did. -/
def graphNextUptoRow : OpenClaim := { program := "ytogbmpgepchioaa", sum := "ee85acdbc82475b15b5ed72f2a8401094c86e241142094002610130efc8ae517", func := "fettle/fettlelaw05.GraphNext", spec := "graphNext", unfollowed := true, recurses := true, apart := false, narrowed := true }
def GraphNextUptoSaid : Prop := graphNextUptoRow.holds Try.pinned (OpenSpec.upto graphNextSpec)

/-- 'fettlelaw05.GraphTrims', WHERE WHAT IT READS IS OF BULK AT MOST 1048576: true; the input reads as it did. -/
def graphTrimsUptoRow : OpenClaim := { program := "ytogbmpgepchioaa", sum := "ee85acdbc82475b15b5ed72f2a8401094c86e241142094002610130efc8ae517", func := "fettle/fettlelaw05.GraphTrims", spec := "graphTrims", unfollowed := true, recurses := true, apart := false, narrowed := true }
def GraphTrimsUptoSaid : Prop := graphTrimsUptoRow.holds Try.pinned (OpenSpec.upto graphTrimsSpec)

/-- 'fettlelaw05.GraphOrders', WHERE WHAT IT READS IS OF BULK AT MOST 1048576: true; the input reads as it did. -/
def graphOrdersUptoRow : OpenClaim := { program := "ytogbmpgepchioaa", sum := "ee85acdbc82475b15b5ed72f2a8401094c86e241142094002610130efc8ae517", func := "fettle/fettlelaw05.GraphOrders", spec := "graphOrders", unfollowed := true, recurses := true, apart := false, narrowed := true }
def GraphOrdersUptoSaid : Prop := graphOrdersUptoRow.holds Try.pinned (OpenSpec.upto graphOrdersSpec)

/-- 'fettlelaw05.GraphSame', WHERE WHAT IT READS IS OF BULK AT MOST 1048576: true; the input reads as it did. -/
def graphSameUptoRow : OpenClaim := { program := "ytogbmpgepchioaa", sum := "ee85acdbc82475b15b5ed72f2a8401094c86e241142094002610130efc8ae517", func := "fettle/fettlelaw05.GraphSame", spec := "graphSame", unfollowed := true, recurses := true, apart := false, narrowed := true }
def GraphSameUptoSaid : Prop := graphSameUptoRow.holds Try.pinned (OpenSpec.upto graphSameSpec)

/-- 'fettlelaw05.GraphStays', WHERE WHAT IT READS IS OF BULK AT MOST 1048576: true; the input reads as it did. -/
def graphStaysUptoRow : OpenClaim := { program := "ytogbmpgepchioaa", sum := "ee85acdbc82475b15b5ed72f2a8401094c86e241142094002610130efc8ae517", func := "fettle/fettlelaw05.GraphStays", spec := "graphStays", unfollowed := true, recurses := true, apart := false, narrowed := true }
def GraphStaysUptoSaid : Prop := graphStaysUptoRow.holds Try.pinned (OpenSpec.upto graphStaysSpec)

end Rows
end Go.Proofs.Ytogbmpgepchioaa
