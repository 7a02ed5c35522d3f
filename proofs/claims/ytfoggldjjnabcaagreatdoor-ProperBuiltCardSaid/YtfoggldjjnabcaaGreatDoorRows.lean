/-
  NARROWER THAN 'FOR EVERY INPUT', by the rows' own cells (each row's printed sentence says how): SsaBuilds: laid · ProperForms: laid · ProperBuilt: laid.
  DERIVED. THE GIVEN ROWS OF THIS SEAT. 3 by the template 'for every input the law returns true; each argument reads behind the call as it read before'; 0 by the template 'total and deterministic' (their statements: YtfoggldjjnabcaaGreatDoorTotals.lean).
  GIVEN WITH THE SEED: the statements are not yours to turn. If you find one false, say at which input.
  Laid BY PROGRAM, IN A SANDBOX (cutbox-rows.mjs): the forced cells as the released guide's own fill.sh prints them over the translation 793a08645a05a8de… (all of the seat's roots in one cut). By AI agents, Wed Nov 11 2026. No macro, syntax, notation, axiom, sorry.
-/
import Derived.Test.YtfoggldjjnabcaaGreatDoorChecked
import GoSem.Claim
import GoSem.ClaimJoined
import GoSem.ClaimMapViews
import Derived.JoinedTies
import Derived.KernelRfl
namespace Go.Proofs.YtfoggldjjnabcaaGreatDoor
/- THE CELL 'sum', in the pinned program and in every row, IS THE sha256 OF THE DUMP (.gsa) THAT YtfoggldjjnabcaaGreatDoorProg.lean LOADS. Nothing in Lean hashes anything: it is a label: what it is worth is what the hold of that sum in a sandbox is worth. -/
noncomputable def Tryz.pinned : Pinned := { name := "ytfoggldjjnabcaagreatdoor", sum := "793a08645a05a8de23a291efe1ad5827e55be75617ccc04861dbe608b48a2285", checked := Tryz.checked }
namespace Rows
def none {H : Type} : Left H := { results := [], args := [] }

/- WHAT THE LISTED PACKAGE-LEVEL VARIABLES READ AS WHEN THE CALL BEGINS. Each datum BY PROGRAM (the guide's laid-datum.mjs) off the statement by which the dump's own 'gosem.cut.vars' lays the variable. In a bare row this is a premise. The card (YtfoggldjjnabcaaGreatDoorCards.lean) ties it to the program's text. -/
def laid_errors_errorType {H : Type} : DataW H := .iface "internal/reflectlite.rtype" (.agg [.ptr (.lit (.string [101, 114, 114, 111, 114]))])
def laid_fettle_proper_ofNone {H : Type} : DataW H := .agg [.lit (.int .i64 (-1)), .lit (.int .i64 (-2))]

/-- 'fettlelaw12.SsaBuilds': WHATEVER THE INPUT: true; the input reads as it did. -/
def ssaBuildsSpec : ChangeSpec := { name := "ssaBuilds", fn := fun _ => fun
  | [d1, d2] => { results := [.lit (.bool true)], args := [d1, d2] }
  | _ => none }
def ssaBuildsRow : OpenClaim := { program := "ytfoggldjjnabcaagreatdoor", sum := "793a08645a05a8de23a291efe1ad5827e55be75617ccc04861dbe608b48a2285", func := "fettle/fettlelaw12.SsaBuilds", spec := "ssaBuilds", inPlace := ["internal/reflectlite.ValueOf", "(internal/reflectlite.Value).Type", "(internal/reflectlite.Value).IsNil", "internal/reflectlite.TypeOf", "(internal/reflectlite.Value).Elem", "(internal/reflectlite.Value).Set"], unfollowed := true, recurses := true, named := ["errors.errorType"], apart := false, laid := [("errors.errorType", laid_errors_errorType)] }
def SsaBuildsSaid : Prop := ssaBuildsRow.holds Tryz.pinned (OpenSpec.ofChange ssaBuildsSpec)

/-- ITS FALSE NEIGHBOUR: 'it returns false'. Refute it at one input. -/
def ssaBuildsWrong : ChangeSpec := { name := "ssaBuilds", fn := fun _ => fun
  | [d1, d2] => { results := [.lit (.bool false)], args := [d1, d2] }
  | _ => none }
def SsaBuildsWrongFalsely : Prop := ssaBuildsRow.holds Tryz.pinned (OpenSpec.ofChange ssaBuildsWrong)

/-- 'fettlelaw13.ProperForms': WHATEVER THE INPUT: true; the input reads as it did. -/
def properFormsSpec : ChangeSpec := { name := "properForms", fn := fun _ => fun
  | [d1, d2] => { results := [.lit (.bool true)], args := [d1, d2] }
  | _ => none }
def properFormsRow : OpenClaim := { program := "ytfoggldjjnabcaagreatdoor", sum := "793a08645a05a8de23a291efe1ad5827e55be75617ccc04861dbe608b48a2285", func := "fettle/fettlelaw13.ProperForms", spec := "properForms", inPlace := ["internal/reflectlite.ValueOf", "(internal/reflectlite.Value).Type", "(internal/reflectlite.Value).IsNil", "internal/reflectlite.TypeOf", "(internal/reflectlite.Value).Elem", "(internal/reflectlite.Value).Set"], unfollowed := true, recurses := true, named := ["fettle/proper.ofNone", "errors.errorType"], apart := false, laid := [("errors.errorType", laid_errors_errorType), ("fettle/proper.ofNone", laid_fettle_proper_ofNone)] }
def ProperFormsSaid : Prop := properFormsRow.holds Tryz.pinned (OpenSpec.ofChange properFormsSpec)

/-- ITS FALSE NEIGHBOUR: 'it returns false'. Refute it at one input. -/
def properFormsWrong : ChangeSpec := { name := "properForms", fn := fun _ => fun
  | [d1, d2] => { results := [.lit (.bool false)], args := [d1, d2] }
  | _ => none }
def ProperFormsWrongFalsely : Prop := properFormsRow.holds Tryz.pinned (OpenSpec.ofChange properFormsWrong)

/-- 'fettlelaw13.ProperBuilt': WHATEVER THE INPUT: true; the input reads as it did. -/
def properBuiltSpec : ChangeSpec := { name := "properBuilt", fn := fun _ => fun
  | [d1, d2] => { results := [.lit (.bool true)], args := [d1, d2] }
  | _ => none }
def properBuiltRow : OpenClaim := { program := "ytfoggldjjnabcaagreatdoor", sum := "793a08645a05a8de23a291efe1ad5827e55be75617ccc04861dbe608b48a2285", func := "fettle/fettlelaw13.ProperBuilt", spec := "properBuilt", unfollowed := true, recurses := true, named := ["fettle/proper.ofNone"], apart := false, laid := [("fettle/proper.ofNone", laid_fettle_proper_ofNone)] }
def ProperBuiltSaid : Prop := properBuiltRow.holds Tryz.pinned (OpenSpec.ofChange properBuiltSpec)

/-- ITS FALSE NEIGHBOUR: 'it returns false'. Refute it at one input. -/
def properBuiltWrong : ChangeSpec := { name := "properBuilt", fn := fun _ => fun
  | [d1, d2] => { results := [.lit (.bool false)], args := [d1, d2] }
  | _ => none }
def ProperBuiltWrongFalsely : Prop := properBuiltRow.holds Tryz.pinned (OpenSpec.ofChange properBuiltWrong)

/- THE SECOND FORM. 'bulk': how many values and letters a reading holds, each counted each time it is reached (what is shared counts as often as it is met; a slice's spare places count too). A statement '..UptoSaid' is the law's where the arguments, and the package variables that the reading takes, are together of bulk at most 1048576: NARROWER than '..Said'. Prove '..Said' where nothing that the law and all that it calls make is longer than what came in: it says more and counts as full. Else prove '..UptoSaid'. A law counts once. -/
mutual
def uptoBulk {H : Type} : DataW H → Nat
  | .lit (.string bytes) => bytes.length + 1
  | .lit _ => 1
  | .nil => 1
  | .ptr d => uptoBulk d + 1
  | .slice elems spare => uptoBulkAll elems + uptoBulkAll spare + 1
  | .agg parts => uptoBulkAll parts + 1
  | .iface _ d => uptoBulk d + 1
  | .map entries => uptoBulkEntries entries + 1
  | .held _ => 1
def uptoBulkAll {H : Type} : List (DataW H) → Nat
  | [] => 0
  | d :: r => uptoBulk d + uptoBulkAll r
def uptoBulkEntries {H : Type} : List (Lit × DataW H) → Nat
  | [] => 0
  | x :: r => uptoBulkEntry x + uptoBulkEntries r
def uptoBulkEntry {H : Type} : Lit × DataW H → Nat
  | (.string bytes, d) => bytes.length + uptoBulk d + 1
  | (_, d) => uptoBulk d + 1
 end
def uptoSmall : (H : Type) → List (DataW H) → Bool := fun _ ds => decide (uptoBulkAll ds ≤ 1048576)
def OpenSpec.upto (s : _root_.Go.ChangeSpec) : _root_.Go.OpenSpec := { _root_.Go.OpenSpec.ofChange s with cond := some uptoSmall }

/-- 'fettlelaw12.SsaBuilds', WHERE WHAT IT READS IS OF BULK AT MOST 1048576: true; the input reads as it did. -/
def ssaBuildsUptoRow : OpenClaim := { program := "ytfoggldjjnabcaagreatdoor", sum := "793a08645a05a8de23a291efe1ad5827e55be75617ccc04861dbe608b48a2285", func := "fettle/fettlelaw12.SsaBuilds", spec := "ssaBuilds", inPlace := ["internal/reflectlite.ValueOf", "(internal/reflectlite.Value).Type", "(internal/reflectlite.Value).IsNil", "internal/reflectlite.TypeOf", "(internal/reflectlite.Value).Elem", "(internal/reflectlite.Value).Set"], unfollowed := true, recurses := true, named := ["errors.errorType"], apart := false, laid := [("errors.errorType", laid_errors_errorType)], narrowed := true }
def SsaBuildsUptoSaid : Prop := ssaBuildsUptoRow.holds Tryz.pinned (OpenSpec.upto ssaBuildsSpec)

/-- 'fettlelaw13.ProperForms', WHERE WHAT IT READS IS OF BULK AT MOST 1048576: true; the input reads as it did. -/
def properFormsUptoRow : OpenClaim := { program := "ytfoggldjjnabcaagreatdoor", sum := "793a08645a05a8de23a291efe1ad5827e55be75617ccc04861dbe608b48a2285", func := "fettle/fettlelaw13.ProperForms", spec := "properForms", inPlace := ["internal/reflectlite.ValueOf", "(internal/reflectlite.Value).Type", "(internal/reflectlite.Value).IsNil", "internal/reflectlite.TypeOf", "(internal/reflectlite.Value).Elem", "(internal/reflectlite.Value).Set"], unfollowed := true, recurses := true, named := ["fettle/proper.ofNone", "errors.errorType"], apart := false, laid := [("errors.errorType", laid_errors_errorType), ("fettle/proper.ofNone", laid_fettle_proper_ofNone)], narrowed := true }
def ProperFormsUptoSaid : Prop := properFormsUptoRow.holds Tryz.pinned (OpenSpec.upto properFormsSpec)

/-- 'fettlelaw13.ProperBuilt', WHERE WHAT IT READS IS OF BULK AT MOST 1048576: true; the input reads as it did. -/
def properBuiltUptoRow : OpenClaim := { program := "ytfoggldjjnabcaagreatdoor", sum := "793a08645a05a8de23a291efe1ad5827e55be75617ccc04861dbe608b48a2285", func := "fettle/fettlelaw13.ProperBuilt", spec := "properBuilt", unfollowed := true, recurses := true, named := ["fettle/proper.ofNone"], apart := false, laid := [("fettle/proper.ofNone", laid_fettle_proper_ofNone)], narrowed := true }
def ProperBuiltUptoSaid : Prop := properBuiltUptoRow.holds Tryz.pinned (OpenSpec.upto properBuiltSpec)

end Rows
end Go.Proofs.YtfoggldjjnabcaaGreatDoor
