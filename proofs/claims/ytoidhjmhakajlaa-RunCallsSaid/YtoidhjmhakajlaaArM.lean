/- What arith's operations make of numbers, in the model's own words, and the plain laws on them. No program in sight. -/
import Derived.RowKit
import Derived.IntWalk
import Derived.Laws.BitsAll
import Derived.Laws.Bits64
import Derived.Laws.Bits64b
namespace Go.Proofs.Ytoidhjmhakajlaa
open Go.RowKit

/-- By how many bits to shift. -/
def pl (b : Int) : Int := bits .and .u64 (IntKind.u64.wrap b) 63
def asN (x : Bool) : Int := if x then 1 else 0
/-- What an operation of two arguments comes to. -/
def two (op a b : Int) : Int :=
  if op = 3 then wrap64 (a + b)
  else if op = 4 then wrap64 (a - b)
  else if op = 5 then wrap64 (a * b)
  else if op = 6 then bits .and .i64 a b
  else if op = 7 then bits .or .i64 a b
  else if op = 8 then bits .xor .i64 a b
  else if op = 9 then wrap64 (a * 2 ^ min (pl b).toNat 64)
  else if op = 10 then a / 2 ^ min (pl b).toNat 64
  else if op = 11 then wrap64 (a.tdiv b)
  else if op = 12 then asN (decide (a < b))
  else asN (a == b)
def one (op a : Int) : Int := if op = 14 then wrap64 (1 - a) else a
def opArity (op : Int) : Int := if op = 2 ∨ op = 14 then 1 else if 3 ≤ op ∧ op ≤ 13 then 2 else 0
def opKnown (op : Int) : Bool := decide (2 ≤ op ∧ op ≤ 14)
def sameOp (op : Int) : Bool := decide (op = 3 ∨ op = 5 ∨ op = 6 ∨ op = 7 ∨ op = 8 ∨ op = 13)

theorem pl_eq (b : Int) : pl b = b % 64 := by
  have h1 := Int.emod_nonneg b (b := 18446744073709551616) (by decide)
  have h2 := Int.emod_lt_of_pos b (b := 18446744073709551616) (by decide)
  have h := bits_mask .u64 64 (by decide) (fun n h0 h1 => by rw [IntKind.wrap_u64]; omega) 6 (by decide) (IntKind.u64.wrap b) (by rw [IntKind.wrap_u64]; omega) (by rw [IntKind.wrap_u64]; omega)
  unfold pl
  rw [show (63 : Int) = 2 ^ 6 - 1 from rfl, h, IntKind.wrap_u64]
  omega
theorem pl_lo (b : Int) : 0 ≤ pl b := by rw [pl_eq]; omega
theorem pl_hi (b : Int) : pl b ≤ 63 := by rw [pl_eq]; omega
end Go.Proofs.Ytoidhjmhakajlaa
