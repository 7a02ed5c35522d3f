/-
  No cell of these rows narrows 'for every input' (looked for: loops, veiled, ifaces, maps, wideKeys, modest, calm, conditions, laid).
  DERIVED. THE GIVEN ROWS OF THIS SEAT. 5 by the template 'for every input the law returns true; each argument reads behind the call as it read before'; 0 by the template 'total and deterministic' (their statements: YtflbooopgjgkbaaTotals.lean).
  GIVEN WITH THE SEED: the statements are not yours to turn. If you find one false, say at which input.
  Laid BY PROGRAM, IN A SANDBOX (cutbox-rows.mjs): the forced cells as the released guide's own fill.sh prints them over the translation 6a90066247fa63bc… (all of the seat's roots in one cut). By AI agents, Wed Nov 11 2026. No macro, syntax, notation, axiom, sorry.
-/
import Derived.Test.YtflbooopgjgkbaaChecked
import GoSem.Claim
import GoSem.ClaimJoined
import GoSem.ClaimMapViews
import Derived.JoinedTies
import Derived.KernelRfl
namespace Go.Proofs.Ytflbooopgjgkbaa
/- THE CELL 'sum', in the pinned program and in every row, IS THE sha256 OF THE DUMP (.gsa) THAT YtflbooopgjgkbaaProg.lean LOADS. Nothing in Lean hashes anything: it is a label: what it is worth is what the hold of that sum in a sandbox is worth. -/
noncomputable def Try.pinned : Pinned := { name := "ytflbooopgjgkbaa", sum := "6a90066247fa63bcaddf3e9e1ae3601af56483662f835413f89d273240a64fe4", checked := Try.checked }
namespace Rows
def none {H : Type} : Left H := { results := [], args := [] }

/-- 'fettlelaw07.LoopsFinds': WHATEVER THE INPUT: true; the input reads as it did. -/
def loopsFindsSpec : ChangeSpec := { name := "loopsFinds", fn := fun _ => fun
  | [d] => { results := [.lit (.bool true)], args := [d] }
  | _ => none }
def loopsFindsRow : OpenClaim := { program := "ytflbooopgjgkbaa", sum := "6a90066247fa63bcaddf3e9e1ae3601af56483662f835413f89d273240a64fe4", func := "fettle/fettlelaw07.LoopsFinds", spec := "loopsFinds", unfollowed := true, recurses := true, apart := false }
def LoopsFindsSaid : Prop := loopsFindsRow.holds Try.pinned (OpenSpec.ofChange loopsFindsSpec)

/-- ITS FALSE NEIGHBOUR: 'it returns false'. Refute it at one input. -/
def loopsFindsWrong : ChangeSpec := { name := "loopsFinds", fn := fun _ => fun
  | [d] => { results := [.lit (.bool false)], args := [d] }
  | _ => none }
def LoopsFindsWrongFalsely : Prop := loopsFindsRow.holds Try.pinned (OpenSpec.ofChange loopsFindsWrong)

/-- 'fettlelaw07.LoopsStays': WHATEVER THE INPUT: true; the input reads as it did. -/
def loopsStaysSpec : ChangeSpec := { name := "loopsStays", fn := fun _ => fun
  | [d] => { results := [.lit (.bool true)], args := [d] }
  | _ => none }
def loopsStaysRow : OpenClaim := { program := "ytflbooopgjgkbaa", sum := "6a90066247fa63bcaddf3e9e1ae3601af56483662f835413f89d273240a64fe4", func := "fettle/fettlelaw07.LoopsStays", spec := "loopsStays", unfollowed := true, recurses := true, apart := false }
def LoopsStaysSaid : Prop := loopsStaysRow.holds Try.pinned (OpenSpec.ofChange loopsStaysSpec)

/-- ITS FALSE NEIGHBOUR: 'it returns false'. Refute it at one input. -/
def loopsStaysWrong : ChangeSpec := { name := "loopsStays", fn := fun _ => fun
  | [d] => { results := [.lit (.bool false)], args := [d] }
  | _ => none }
def LoopsStaysWrongFalsely : Prop := loopsStaysRow.holds Try.pinned (OpenSpec.ofChange loopsStaysWrong)

/-- 'fettlelaw08.LiveFree': WHATEVER THE INPUT: true; the input reads as it did. -/
def liveFreeSpec : ChangeSpec := { name := "liveFree", fn := fun _ => fun
  | [d1, d2, d3, d4, d5, d6, d7, d8] => { results := [.lit (.bool true)], args := [d1, d2, d3, d4, d5, d6, d7, d8] }
  | _ => none }
def liveFreeRow : OpenClaim := { program := "ytflbooopgjgkbaa", sum := "6a90066247fa63bcaddf3e9e1ae3601af56483662f835413f89d273240a64fe4", func := "fettle/fettlelaw08.LiveFree", spec := "liveFree", unfollowed := true, recurses := true, apart := false }
def LiveFreeSaid : Prop := liveFreeRow.holds Try.pinned (OpenSpec.ofChange liveFreeSpec)

/-- ITS FALSE NEIGHBOUR: 'it returns false'. Refute it at one input. -/
def liveFreeWrong : ChangeSpec := { name := "liveFree", fn := fun _ => fun
  | [d1, d2, d3, d4, d5, d6, d7, d8] => { results := [.lit (.bool false)], args := [d1, d2, d3, d4, d5, d6, d7, d8] }
  | _ => none }
def LiveFreeWrongFalsely : Prop := liveFreeRow.holds Try.pinned (OpenSpec.ofChange liveFreeWrong)

/-- 'fettlelaw08.LiveStays': WHATEVER THE INPUT: true; the input reads as it did. -/
def liveStaysSpec : ChangeSpec := { name := "liveStays", fn := fun _ => fun
  | [d1, d2] => { results := [.lit (.bool true)], args := [d1, d2] }
  | _ => none }
def liveStaysRow : OpenClaim := { program := "ytflbooopgjgkbaa", sum := "6a90066247fa63bcaddf3e9e1ae3601af56483662f835413f89d273240a64fe4", func := "fettle/fettlelaw08.LiveStays", spec := "liveStays", unfollowed := true, recurses := true, apart := false }
def LiveStaysSaid : Prop := liveStaysRow.holds Try.pinned (OpenSpec.ofChange liveStaysSpec)

/-- ITS FALSE NEIGHBOUR: 'it returns false'. Refute it at one input. -/
def liveStaysWrong : ChangeSpec := { name := "liveStays", fn := fun _ => fun
  | [d1, d2] => { results := [.lit (.bool false)], args := [d1, d2] }
  | _ => none }
def LiveStaysWrongFalsely : Prop := liveStaysRow.holds Try.pinned (OpenSpec.ofChange liveStaysWrong)

/-- 'fettlelaw08.LiveNone': WHATEVER THE INPUT: true; the input reads as it did. -/
def liveNoneSpec : ChangeSpec := { name := "liveNone", fn := fun _ => fun
  | [d1, d2] => { results := [.lit (.bool true)], args := [d1, d2] }
  | _ => none }
def liveNoneRow : OpenClaim := { program := "ytflbooopgjgkbaa", sum := "6a90066247fa63bcaddf3e9e1ae3601af56483662f835413f89d273240a64fe4", func := "fettle/fettlelaw08.LiveNone", spec := "liveNone", unfollowed := true, recurses := true, apart := false }
def LiveNoneSaid : Prop := liveNoneRow.holds Try.pinned (OpenSpec.ofChange liveNoneSpec)

/-- ITS FALSE NEIGHBOUR: 'it returns false'. Refute it at one input. -/
def liveNoneWrong : ChangeSpec := { name := "liveNone", fn := fun _ => fun
  | [d1, d2] => { results := [.lit (.bool false)], args := [d1, d2] }
  | _ => none }
def LiveNoneWrongFalsely : Prop := liveNoneRow.holds Try.pinned (OpenSpec.ofChange liveNoneWrong)

/- THE SECOND FORM. 'bulk': how many values and letters a reading holds, each counted each time it is reached (what is shared counts as often as it is met; a slice's spare places count too). A statement '..UptoSaid' is the law's where the arguments, and the package variables that the reading takes, are together of bulk at most 1048576: NARROWER than '..Said'. Prove '..Said' where nothing that the law and all that it calls make is longer than what came in: it says more and counts as full. Else prove '..UptoSaid'. A law counts once. -/
mutual
def uptoBulk {H : Type} : DataW H → Nat
  | .lit (.string bytes) => bytes.length + 1
  | .lit _ => 1
  | .nil => 1
  | .ptr d => uptoBulk d + 1
  | .slice elems spare => uptoBulkAll elems + uptoBulkAll spare + 1
  | .agg parts => uptoBulkAll parts + 1
  | .iface _ d => uptoBulk d + 1
  | .map entries => uptoBulkEntries entries + 1
  | .held _ => 1
def uptoBulkAll {H : Type} : List (DataW H) → Nat
  | [] => 0
  | d :: r => uptoBulk d + uptoBulkAll r
def uptoBulkEntries {H : Type} : List (Lit × DataW H) → Nat
  | [] => 0
  | x :: r => uptoBulkEntry x + uptoBulkEntries r
def uptoBulkEntry {H : Type} : Lit × DataW H → Nat
  | (.string bytes, d) => bytes.length + uptoBulk d + 1
  | (_, d) => uptoBulk d + 1
 end
def uptoSmall : (H : Type) → List (DataW H) → Bool := fun _ ds => decide (uptoBulkAll ds ≤ 1048576)
def OpenSpec.upto (s : _root_.Go.ChangeSpec) : _root_.Go.OpenSpec := { _root_.Go.OpenSpec.ofChange s with cond := some uptoSmall }

/-- 'fettlelaw07.LoopsFinds', WHERE WHAT IT READS IS OF BULK AT MOST 1048576: true; the input reads as it did. -/
def loopsFindsUptoRow : OpenClaim := { program := "ytflbooopgjgkbaa", sum := "6a90066247fa63bcaddf3e9e1ae3601af56483662f835413f89d273240a64fe4", func := "fettle/fettlelaw07.LoopsFinds", spec := "loopsFinds", unfollowed := true, recurses := true, apart := false, narrowed := true }
def LoopsFindsUptoSaid : Prop := loopsFindsUptoRow.holds Try.pinned (OpenSpec.upto loopsFindsSpec)

/-- 'fettlelaw07.LoopsStays', WHERE WHAT IT READS IS OF BULK AT MOST 1048576: true; the input reads as it did. -/
def loopsStaysUptoRow : OpenClaim := { program := "ytflbooopgjgkbaa", sum := "6a90066247fa63bcaddf3e9e1ae3601af56483662f835413f89d273240a64fe4", func := "fettle/fettlelaw07.LoopsStays", spec := "loopsStays", unfollowed := true, recurses := true, apart := false, narrowed := true }
def LoopsStaysUptoSaid : Prop := loopsStaysUptoRow.holds Try.pinned (OpenSpec.upto loopsStaysSpec)

/-- 'fettlelaw08.LiveFree', WHERE WHAT IT READS IS OF BULK AT MOST 1048576: true; the input reads as it did. -/
def liveFreeUptoRow : OpenClaim := { program := "ytflbooopgjgkbaa", sum := "6a90066247fa63bcaddf3e9e1ae3601af56483662f835413f89d273240a64fe4", func := "fettle/fettlelaw08.LiveFree", spec := "liveFree", unfollowed := true, recurses := true, apart := false, narrowed := true }
def LiveFreeUptoSaid : Prop := liveFreeUptoRow.holds Try.pinned (OpenSpec.upto liveFreeSpec)

/-- 'fettlelaw08.LiveStays', WHERE WHAT IT READS IS OF BULK AT MOST 1048576: true; the input reads as it did. -/
def liveStaysUptoRow : OpenClaim := { program := "ytflbooopgjgkbaa", sum := "6a90066247fa63bcaddf3e9e1ae3601af56483662f835413f89d273240a64fe4", func := "fettle/fettlelaw08.LiveStays", spec := "liveStays", unfollowed := true, recurses := true, apart := false, narrowed := true }
def LiveStaysUptoSaid : Prop := liveStaysUptoRow.holds Try.pinned (OpenSpec.upto liveStaysSpec)

/-- 'fettlelaw08.LiveNone', WHERE WHAT IT READS IS OF BULK AT MOST 1048576: true; the input reads as it did. -/
def liveNoneUptoRow : OpenClaim := { program := "ytflbooopgjgkbaa", sum := "6a90066247fa63bcaddf3e9e1ae3601af56483662f835413f89d273240a64fe4", func := "fettle/fettlelaw08.LiveNone", spec := "liveNone", unfollowed := true, recurses := true, apart := false, narrowed := true }
def LiveNoneUptoSaid : Prop := liveNoneUptoRow.holds Try.pinned (OpenSpec.upto liveNoneSpec)

end Rows
end Go.Proofs.Ytflbooopgjgkbaa
