/- What comes of the document's bits is what arith makes of the numbers. -/
import Derived.Test.YthjplghkfijelaaRefM
import Derived.Test.YthjplghkfijelaaBackM
namespace Go.Proofs.Ythjplghkfijelaa
open Go.RowKit

theorem un_cast (a : Int) : ((un a : Nat) : Int) = a % 18446744073709551616 := by unfold un; omega
theorem wrap64_un (a : Int) : wrap64 ((un a : Nat) : Int) = wrap64 a := by rw [un_cast]; unfold wrap64; omega
theorem wrap64_natmod (m : Nat) : wrap64 ((m % 18446744073709551616 : Nat) : Int) = wrap64 (m : Int) := by unfold wrap64; omega
theorem i64_wrap (n : Int) : IntKind.i64.wrap n = wrap64 n := by rw [IntKind.wrap_i64, wrap64]
theorem ofInt_un (a : Int) : (BitVec.ofInt 64 a).toNat = un a := by rw [BitVec.toNat_ofInt]; rfl

theorem ref_add (a b : Int) : wrap64 ((sm (un a) (un b) 0 : Nat) : Int) = two 3 a b := by
  show _ = wrap64 (a + b)
  have h1 := un_cast a
  have h2 := un_cast b
  unfold wrap64 sm
  omega
theorem ref_sub (a b : Int) : wrap64 ((sm (un a) (comp (un b)) 1 : Nat) : Int) = two 4 a b := by
  show _ = wrap64 (a - b)
  have h1 := un_cast a
  have h2 := un_cast b
  unfold wrap64 comp sm
  omega
theorem ref_mul (a b : Int) : wrap64 (((un a * un b % 18446744073709551616 : Nat)) : Int) = two 5 a b := by
  show _ = wrap64 (a * b)
  rw [wrap64_natmod]
  apply wrap64_congr
  rw [Int.natCast_mul, un_cast, un_cast, ← Int.mul_emod]
theorem ref_and (a b : Int) : wrap64 ((un a &&& un b : Nat) : Int) = two 6 a b := by
  show _ = IntKind.i64.wrap ((BitVec.ofInt 64 a &&& BitVec.ofInt 64 b).toNat : Int)
  rw [i64_wrap, BitVec.toNat_and, ofInt_un, ofInt_un]
theorem ref_or (a b : Int) : wrap64 ((un a ||| un b : Nat) : Int) = two 7 a b := by
  show _ = IntKind.i64.wrap ((BitVec.ofInt 64 a ||| BitVec.ofInt 64 b).toNat : Int)
  rw [i64_wrap, BitVec.toNat_or, ofInt_un, ofInt_un]
theorem ref_xor (a b : Int) : wrap64 ((un a ^^^ un b : Nat) : Int) = two 8 a b := by
  show _ = IntKind.i64.wrap ((BitVec.ofInt 64 a ^^^ BitVec.ofInt 64 b).toNat : Int)
  rw [i64_wrap, BitVec.toNat_xor, ofInt_un, ofInt_un]
theorem pl_un (b : Int) : min (pl b).toNat 64 = un b % 64 := by
  rw [pl_eq]
  have h2 := un_cast b
  omega
theorem ref_shl (a b : Int) : wrap64 ((upw (un a) (un b % 64) : Nat) : Int) = two 9 a b := by
  show _ = wrap64 (a * 2 ^ min (pl b).toNat 64)
  rw [pl_un]
  unfold upw
  rw [wrap64_natmod]
  apply wrap64_congr
  rw [Int.natCast_mul, un_cast, Int.mul_emod, Int.emod_emod, Int.natCast_pow, Int.mul_emod a]
  rfl
theorem ref_shr (a b : Int) (ha : -9223372036854775808 ≤ a ∧ a ≤ 9223372036854775807) : wrap64 ((dn a (un b % 64) : Nat) : Int) = two 10 a b := by
  show _ = a / 2 ^ min (pl b).toNat 64
  rw [pl_un]
  unfold dn
  rw [wrap64_un]
  have hp : (0 : Int) < 2 ^ (un b % 64) := Int.pow_pos (by decide)
  apply IntWalk.wrap64_in
  constructor
  · rw [Int.le_ediv_iff_mul_le hp]
    generalize (2 : Int) ^ (un b % 64) = p at *
    omega
  · by_cases h : 0 ≤ a
    · have := Int.ediv_le_self (2 ^ (un b % 64)) h
      omega
    · have := Int.ediv_neg_of_neg_of_pos (by omega : a < 0) hp
      omega

/-- The bits of a number without its sign. -/
def mag (a : Int) : Nat := if bt (un a) 63 = 1 then sm (comp (un a)) 0 1 else un a
theorem mag_val (a : Int) (ha : -9223372036854775808 ≤ a ∧ a ≤ 9223372036854775807) : mag a = a.natAbs := by
  unfold mag
  rw [top_bit _ (un_u64 a)]
  have h1 := un_cast a
  unfold comp sm
  split
  · rw [if_pos rfl]; omega
  · rw [if_neg (by decide)]; omega
theorem mag_u64 (a : Int) : U64 (mag a) := by
  unfold mag
  split
  · unfold U64 sm; omega
  · exact un_u64 a

def quot (a b : Int) : Nat := if bt (un a) 63 = bt (un b) 63 then mag a / mag b else sm (comp (mag a / mag b)) 0 1
theorem quot_u64 (a b : Int) : U64 (mag a / mag b) := by
  have := mag_u64 a
  have h2 := Nat.div_le_self (mag a) (mag b)
  unfold U64 at *
  omega
theorem ref_quo (a b : Int) (ha : -9223372036854775808 ≤ a ∧ a ≤ 9223372036854775807) (hb : -9223372036854775808 ≤ b ∧ b ≤ 9223372036854775807) :
    wrap64 ((quot a b : Nat) : Int) = two 11 a b := by
  show _ = wrap64 (a.tdiv b)
  apply wrap64_congr
  have hq := quot_u64 a b
  have e := Int.natAbs_tdiv a b
  have hs : ∀ x : Int, -9223372036854775808 ≤ x ∧ x ≤ 9223372036854775807 → (bt (un x) 63 = if x < 0 then 1 else 0) := fun x hx => by
    rw [top_bit _ (un_u64 x)]
    have h1 := un_cast x
    split <;> split <;> omega
  unfold quot
  rw [mag_val a ha, mag_val b hb, hs a ha, hs b hb]
  rw [mag_val a ha, mag_val b hb] at hq
  have e' : a.natAbs / b.natAbs = (a.tdiv b).natAbs := e.symm
  rw [e'] at hq ⊢
  unfold comp sm
  unfold U64 at hq
  have s1 : 0 ≤ a → 0 ≤ b → 0 ≤ a.tdiv b := fun h1 h2 => Int.tdiv_nonneg h1 h2
  have s2 : a < 0 → b < 0 → 0 ≤ a.tdiv b := fun h1 h2 => by
    rw [← Int.neg_neg a, ← Int.neg_neg b, Int.neg_tdiv, Int.tdiv_neg, Int.neg_neg]
    exact Int.tdiv_nonneg (by omega) (by omega)
  have s3 : a < 0 → 0 ≤ b → a.tdiv b ≤ 0 := fun h1 h2 => by
    have := Int.tdiv_nonneg (a := -a) (b := b) (by omega) h2
    rw [Int.neg_tdiv] at this
    omega
  have s4 : 0 ≤ a → b < 0 → a.tdiv b ≤ 0 := fun h1 h2 => by
    have := Int.tdiv_nonneg (a := a) (b := -b) h1 (by omega)
    rw [Int.tdiv_neg] at this
    omega
  generalize a.tdiv b = d at *
  clear e e'
  by_cases h1 : a < 0 <;> by_cases h2 : b < 0 <;> simp only [h1, h2, if_true, if_false]
  all_goals (try simp)
  all_goals omega

theorem bt_test (a i : Nat) : bt a i = (a.testBit i).toNat := by
  unfold bt
  rw [Nat.testBit_eq_decide_div_mod_eq]
  by_cases h : a / 2 ^ i % 2 = 1
  · rw [h]; rfl
  · have : a / 2 ^ i % 2 = 0 := by omega
    rw [this]; rfl
theorem bt_and (a b i : Nat) : bt (a &&& b) i = if bt a i + bt b i = 2 then 1 else 0 := by
  rw [bt_test, bt_test, bt_test, Nat.testBit_and]
  cases a.testBit i <;> cases b.testBit i <;> rfl
theorem bt_or (a b i : Nat) : bt (a ||| b) i = if 0 < bt a i + bt b i then 1 else 0 := by
  rw [bt_test, bt_test, bt_test, Nat.testBit_or]
  cases a.testBit i <;> cases b.testBit i <;> rfl
theorem bt_xor (a b i : Nat) : bt (a ^^^ b) i = if bt a i + bt b i = 1 then 1 else 0 := by
  rw [bt_test, bt_test, bt_test, Nat.testBit_xor]
  cases a.testBit i <;> cases b.testBit i <;> rfl
/-- What the bits come to. -/
def bitw (op : Int) (a b : Nat) : Nat := if op = 6 then a &&& b else if op = 7 then a ||| b else a ^^^ b
theorem bitw_u64 (op : Int) (a b : Nat) (ha : U64 a) (hb : U64 b) : U64 (bitw op a b) := by
  unfold U64 at *
  unfold bitw
  split
  · exact Nat.and_lt_two_pow (n := 64) _ hb
  · split
    · exact Nat.or_lt_two_pow (n := 64) ha hb
    · exact Nat.xor_lt_two_pow (n := 64) ha hb
theorem mod_set (m k : Nat) (hk : k < 64) (h : bt m k = 1) : bits .or .u64 ((m % 2 ^ k : Nat) : Int) (IntKind.u64.wrap (2 ^ k)) = ((m % 2 ^ (k + 1) : Nat) : Int) := by
  rw [or_one _ _ (Nat.mod_lt _ (Nat.two_pow_pos k)) hk, mod_succ, h, Nat.mul_one]
theorem mod_same (m k : Nat) (h : bt m k = 0) : m % 2 ^ k = m % 2 ^ (k + 1) := by
  rw [mod_succ, h, Nat.mul_zero, Nat.add_zero]
theorem mod_all (m : Nat) (h : U64 m) : m % 2 ^ 64 = m := Nat.mod_eq_of_lt h

/-- The product of the lowest k bits. -/
def pw (a b k : Nat) : Nat := a * (b % 2 ^ k) % 18446744073709551616
theorem pw_u64 (a b k : Nat) : U64 (pw a b k) := by unfold U64 pw; omega
theorem pw_set (a b k : Nat) (h : bt b k = 1) : sm (pw a b k) (upw a k) 0 = pw a b (k + 1) := by
  unfold pw upw sm
  rw [mod_succ, h, Nat.mul_one, Nat.mul_add]
  omega
theorem pw_same (a b k : Nat) (h : bt b k = 0) : pw a b k = pw a b (k + 1) := by
  unfold pw
  rw [mod_succ, h, Nat.mul_zero, Nat.add_zero]
theorem pw_all (a b : Nat) (h : U64 b) : pw a b 64 = a * b % 18446744073709551616 := by
  unfold pw
  rw [mod_all b h]
theorem upw_u64 (a k : Nat) : U64 (upw a k) := by unfold U64 upw; omega
theorem upw_val (a k : Nat) : IntKind.u64.wrap ((a : Int) * 2 ^ k) = ((upw a k : Nat) : Int) := by
  rw [IntKind.wrap_u64]
  have e : (a : Int) * 2 ^ k = ((a * 2 ^ k : Nat) : Int) := by rw [Int.natCast_mul, Int.natCast_pow]; rfl
  rw [e]
  unfold upw
  omega
end Go.Proofs.Ythjplghkfijelaa
