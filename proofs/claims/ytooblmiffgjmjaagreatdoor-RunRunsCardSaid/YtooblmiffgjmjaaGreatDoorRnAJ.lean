/- The document's answers for arith, in numbers: what comes of its bits. (Out of stage 1's texts.) -/
import Derived.Test.YtooblmiffgjmjaaGreatDoorArMJ
namespace Go.Proofs.YtooblmiffgjmjaaGreatDoor.Rf1
open Go.RowKit
set_option linter.unusedVariables false


theorem wrap64_congr (m n : Int) (h : m % 18446744073709551616 = n % 18446744073709551616) : wrap64 m = wrap64 n := by unfold wrap64; omega
theorem wrap64_mod (x : Int) : wrap64 x % 18446744073709551616 = x % 18446744073709551616 := by unfold wrap64; omega
theorem wrap_mul_l (x y : Int) : wrap64 (wrap64 x * y) = wrap64 (x * y) := by
  apply wrap64_congr
  rw [Int.mul_emod, wrap64_mod, ← Int.mul_emod]
theorem wrap_mul_r (x y : Int) : wrap64 (x * wrap64 y) = wrap64 (x * y) := by
  apply wrap64_congr
  rw [Int.mul_emod, wrap64_mod, ← Int.mul_emod]
theorem wrap_add (x y : Int) : wrap64 (wrap64 x + y) = wrap64 (x + y) := by unfold wrap64; omega
theorem wrap_add_r (x y : Int) : wrap64 (x + wrap64 y) = wrap64 (x + y) := by unfold wrap64; omega
theorem tmod_facts (a b : Int) (hb : b ≠ 0) : ∃ t, b * a.tdiv b + t = a ∧ t.natAbs < b.natAbs ∧ t.natAbs ≤ a.natAbs ∧ (0 ≤ a → 0 ≤ t) ∧ (a ≤ 0 → t ≤ 0) := by
  refine ⟨a.tmod b, Int.mul_tdiv_add_tmod a b, ?_, ?_, fun h => Int.tmod_nonneg b h, fun h => ?_⟩
  · rw [Int.natAbs_tmod]; exact Nat.mod_lt _ (by omega)
  · rw [Int.natAbs_tmod]; exact Nat.mod_le _ _
  · have := Int.tmod_nonneg b (a := -a) (by omega)
    rw [Int.neg_tmod] at this
    omega

def U64 (a : Nat) : Prop := a < 18446744073709551616
/-- The i-th bit. -/
def bt (a i : Nat) : Nat := a / 2 ^ i % 2
theorem bt_le (a i : Nat) : bt a i ≤ 1 := by unfold bt; omega

theorem bit_val (a i : Nat) (ha : U64 a) (hi : i ≤ 64) : bits .and .u64 ((a : Int) / 2 ^ min (i : Int).toNat 64) 1 = ((bt a i : Nat) : Int) := by
  unfold U64 at ha
  have e1 : min (i : Int).toNat 64 = i := by omega
  have e2 : ((a : Int) / 2 ^ i) = ((a / 2 ^ i : Nat) : Int) := by
    rw [Int.natCast_ediv, Int.natCast_pow]; rfl
  have h2 : a / 2 ^ i ≤ a := Nat.div_le_self _ _
  rw [e1, e2]
  unfold bt
  generalize a / 2 ^ i = q at *
  have h := bits_mask .u64 64 (by decide) (fun n h0 h1 => by rw [IntKind.wrap_u64]; omega) 1 (by decide) (q : Int) (by omega) (by omega)
  rw [show (1 : Int) = 2 ^ 1 - 1 from rfl, h]
  omega

/-- The sum of the lowest i bits. -/
def S (a b c i : Nat) : Nat := a % 2 ^ i + b % 2 ^ i + c
theorem S_zero (a b c : Nat) : S a b c 0 = c := by simp [S, Nat.mod_one]
theorem mod_succ (a i : Nat) : a % 2 ^ (i + 1) = a % 2 ^ i + 2 ^ i * bt a i := by
  unfold bt
  rw [Nat.pow_succ, Nat.mod_mul]
theorem S_succ (a b c i : Nat) : S a b c (i + 1) = S a b c i + 2 ^ i * (bt a i + bt b i) := by
  unfold S
  rw [mod_succ, mod_succ, Nat.mul_add]
  omega
/-- What is carried into the i-th. -/
def cy (a b c i : Nat) : Nat := S a b c i / 2 ^ i
theorem cy_le (a b c i : Nat) (hc : c ≤ 1) : cy a b c i ≤ 1 := by
  unfold cy S
  have h1 := Nat.mod_lt a (Nat.two_pow_pos i)
  have h2 := Nat.mod_lt b (Nat.two_pow_pos i)
  have : (a % 2 ^ i + b % 2 ^ i + c) / 2 ^ i < 2 := by
    rw [Nat.div_lt_iff_lt_mul (Nat.two_pow_pos i)]
    omega
  omega
def lo (a b c i : Nat) : Nat := S a b c i % 2 ^ i
theorem sum_step (a b c i : Nat) : (bt a i + bt b i + cy a b c i) / 2 = cy a b c (i + 1) ∧ lo a b c (i + 1) = lo a b c i + (bt a i + bt b i + cy a b c i) % 2 * 2 ^ i := by
  have hp := Nat.two_pow_pos i
  have hq : S a b c (i + 1) = 2 ^ i * (bt a i + bt b i + cy a b c i) + lo a b c i := by
    rw [S_succ]
    have := Nat.div_add_mod (S a b c i) (2 ^ i)
    unfold cy lo
    rw [Nat.mul_add (2 ^ i) (bt a i + bt b i)]
    omega
  have hl : lo a b c i < 2 ^ i := Nat.mod_lt _ hp
  constructor
  · unfold cy
    rw [hq, Nat.pow_succ, ← Nat.div_div_eq_div_mul, Nat.mul_add_div hp, Nat.div_eq_of_lt hl]
    rfl
  · show S a b c (i + 1) % 2 ^ (i + 1) = _
    rw [hq, Nat.pow_succ, Nat.mod_mul, Nat.mul_add_mod, Nat.mod_eq_of_lt hl, Nat.mul_add_div hp, Nat.div_eq_of_lt hl, Nat.add_zero, Nat.mul_comm (2 ^ i)]
theorem lo_lt (a b c i : Nat) : lo a b c i < 2 ^ i := Nat.mod_lt _ (Nat.two_pow_pos i)

theorem two_pow_le (i : Nat) (h : i ≤ 64) : 2 ^ i ≤ 18446744073709551616 := by
  have : (2 : Nat) ^ i ≤ 2 ^ 64 := Nat.pow_le_pow_right (by decide) h
  exact this
/-- A bit laid behind what is below it. -/
theorem or_bit (o x i : Nat) (ho : o < 2 ^ i) (hx : x ≤ 1) (hi : i < 64) :
    bits .or .u64 (o : Int) (IntKind.u64.wrap ((x : Int) * 2 ^ min (i : Int).toNat 64)) = ((o + x * 2 ^ i : Nat) : Int) := by
  have e1 : min (i : Int).toNat 64 = i := by omega
  have hp := two_pow_le (i + 1) hi
  have hp2 := Nat.two_pow_pos i
  rw [Nat.pow_succ] at hp
  have hx2 : x * 2 ^ i ≤ 2 ^ i := by
    have := Nat.mul_le_mul_right (2 ^ i) hx
    omega
  have e2 : (x : Int) * 2 ^ i = ((x * 2 ^ i : Nat) : Int) := by
    rw [Int.natCast_mul, Int.natCast_pow]; rfl
  rw [e1, e2, IntKind.wrap_u64, Int.emod_eq_of_lt (by omega) (by omega), (bits_nat .u64 64 (by decide) (fun n h0 h1 => by rw [IntKind.wrap_u64]; omega) o (x * 2 ^ i) (by omega) (by omega)).2]
  congr 1
  have : x * 2 ^ i = 2 ^ i * x := Nat.mul_comm _ _
  rw [this, Nat.or_comm, ← Nat.two_pow_add_eq_or_of_lt ho x, Nat.add_comm]
theorem or_bit' (o x i : Nat) (ho : o < 2 ^ i) (hx : x ≤ 1) (hi : i < 64) :
    bits .or .u64 (o : Int) (IntKind.u64.wrap ((x : Int) * 2 ^ i)) = ((o + x * 2 ^ i : Nat) : Int) := by
  have h := or_bit o x i ho hx hi
  rwa [show min (i : Int).toNat 64 = i from by omega] at h
theorem add_step (a b c k : Nat) (hk : k < 64) :
    bits .or .u64 ((lo a b c k : Nat) : Int) (IntKind.u64.wrap ((((bt a k : Nat) : Int) + ((bt b k : Nat) : Int) + ((cy a b c k : Nat) : Int)) % 2 * 2 ^ k)) = ((lo a b c (k + 1) : Nat) : Int) := by
  rw [(sum_step a b c k).2, ← or_bit' _ _ k (lo_lt a b c k) (by omega) hk]
  congr 3
theorem cy_step (a b c k : Nat) : (((bt a k : Nat) : Int) + ((bt b k : Nat) : Int) + ((cy a b c k : Nat) : Int)) / 2 = ((cy a b c (k + 1) : Nat) : Int) := by
  rw [← (sum_step a b c k).1]
  omega
/-- The sum, modulo 2^64. -/
def sm (a b c : Nat) : Nat := (a + b + c) % 18446744073709551616
theorem lo_all (a b c : Nat) (ha : U64 a) (hb : U64 b) : lo a b c 64 = sm a b c := by
  unfold sm
  unfold U64 at ha hb
  show (a % 18446744073709551616 + b % 18446744073709551616 + c) % 18446744073709551616 = _
  rw [Nat.mod_eq_of_lt ha, Nat.mod_eq_of_lt hb]

def comp (a : Nat) : Nat := 18446744073709551615 - a
theorem comp_val (a : Nat) (ha : U64 a) : bits .xor .u64 IntKind.u64.max (a : Int) = ((comp a : Nat) : Int) := by
  unfold U64 at ha
  have e : IntKind.u64.max = ((18446744073709551615 : Nat) : Int) := by decide
  rw [e, bits_xor_u64_nat _ _ (by omega) ha]
  congr 1
  have h1 : 18446744073709551615 ^^^ a = 2 ^ 64 - 1 - a := by
    have h2 := BitVec.toNat_not (x := BitVec.ofNat 64 a)
    rw [BitVec.not_def, BitVec.toNat_xor, BitVec.toNat_ofNat, Nat.mod_eq_of_lt (show a < 2 ^ 64 from ha)] at h2
    exact h2
  rw [h1]
  unfold comp
  omega
theorem comp_u64 (a : Nat) : U64 (comp a) := by unfold U64 comp; omega

theorem or_one (o i : Nat) (ho : o < 2 ^ i) (hi : i < 64) : bits .or .u64 (o : Int) (IntKind.u64.wrap (2 ^ i)) = ((o + 2 ^ i : Nat) : Int) := by
  have h := or_bit' o 1 i ho (by omega) hi
  simpa using h

theorem or_over (o i : Nat) (ho : o % 2 ^ (i + 1) = 0) (hu : U64 o) (hi : i < 64) : bits .or .u64 (o : Int) (IntKind.u64.wrap (2 ^ i)) = ((o + 2 ^ i : Nat) : Int) := by
  unfold U64 at hu
  have hp := two_pow_le (i + 1) hi
  have h1 : (2 : Nat) ^ (i + 1) = 2 ^ i * 2 := Nat.pow_succ ..
  have hp2 := Nat.two_pow_pos i
  have e : IntKind.u64.wrap ((2 : Int) ^ i) = ((2 ^ i : Nat) : Int) := by
    have e2 : (2 : Int) ^ i = ((2 ^ i : Nat) : Int) := by rw [Int.natCast_pow]; rfl
    rw [e2, IntKind.wrap_u64, Int.emod_eq_of_lt (by omega) (by omega)]
  have ho' : ((o : Int)) % 2 ^ (i + 1) = 0 := by
    have : (((o % 2 ^ (i + 1) : Nat)) : Int) = 0 := by rw [ho]; rfl
    rw [Int.natCast_emod, Int.natCast_pow] at this
    exact this
  have ej : ((2 ^ i : Nat) : Int) < 2 ^ (i + 1) := by
    have : ((2 ^ i : Nat) : Int) < ((2 ^ (i + 1) : Nat) : Int) := by omega
    rw [Int.natCast_pow 2 (i + 1)] at this
    exact this
  rw [e, bits_join .u64 64 (by decide) (fun n h0 h1 => by rw [IntKind.wrap_u64]; omega) (i + 1) (o : Int) ((2 ^ i : Nat) : Int) (by omega) ho' (by omega) (by omega) ej (by omega)]
  omega

theorem twice_or (r x : Nat) (hx : x ≤ 1) : bits .or .u64 (IntKind.u64.wrap ((r : Int) * 2)) (x : Int) = ((2 * r % 18446744073709551616 + x : Nat) : Int) := by
  rw [IntKind.wrap_u64]
  have e : ((r : Int) * 2) % 18446744073709551616 = ((2 * r % 18446744073709551616 : Nat) : Int) := by omega
  rw [e, bits_join .u64 64 (by decide) (fun n h0 h1 => by rw [IntKind.wrap_u64]; omega) 1 _ (x : Int) (by omega) (by omega) (by omega) (by omega) (by omega) (by omega)]
  omega

theorem top_bit (x : Nat) (hx : U64 x) : bt x 63 = if 9223372036854775808 ≤ x then 1 else 0 := by
  unfold U64 at hx
  unfold bt
  show x / 9223372036854775808 % 2 = _
  split <;> omega

theorem div_succ (a j : Nat) : a / 2 ^ j = 2 * (a / 2 ^ (j + 1)) + bt a j := by
  unfold bt
  rw [Nat.pow_succ, ← Nat.div_div_eq_div_mul]
  omega

/-- A round of the long division. -/
theorem div_step (a b j : Nat) (ha : U64 a) (hb : U64 b) (h0 : 0 < b) (hj : j < 64) :
    ∃ v r o : Nat, bits .or .u64 (IntKind.u64.wrap (((a / 2 ^ (j + 1) % b : Nat) : Int) * 2)) ((bt a j : Nat) : Int) = (v : Int) ∧ a / 2 ^ j % b = r ∧ a / 2 ^ j / b * 2 ^ j = o ∧
      (bt (a / 2 ^ (j + 1) % b) 63 = 0 ∧ v < b ∧ v = r ∧ a / 2 ^ (j + 1) / b * 2 ^ (j + 1) = o ∨
       (bt (a / 2 ^ (j + 1) % b) 63 = 0 ∧ b ≤ v ∨ bt (a / 2 ^ (j + 1) % b) 63 = 1) ∧ IntKind.u64.wrap ((v : Int) - b) = (r : Int) ∧
         bits .or .u64 ((a / 2 ^ (j + 1) / b * 2 ^ (j + 1) : Nat) : Int) (IntKind.u64.wrap (2 ^ j)) = (o : Int)) := by
  have hd := div_succ a j
  have hx := bt_le a j
  have hq := Nat.div_add_mod (a / 2 ^ (j + 1)) b
  have hr := Nat.mod_lt (a / 2 ^ (j + 1)) h0
  have hA : a / 2 ^ (j + 1) * 2 ^ (j + 1) ≤ a := Nat.div_mul_le_self _ _
  have hQ : a / 2 ^ (j + 1) / b ≤ a / 2 ^ (j + 1) := Nat.div_le_self _ _
  have hQ2 : a / 2 ^ (j + 1) / b * 2 ^ (j + 1) ≤ a / 2 ^ (j + 1) * 2 ^ (j + 1) := Nat.mul_le_mul_right _ hQ
  have hor := or_over (a / 2 ^ (j + 1) / b * 2 ^ (j + 1)) j (by rw [Nat.mul_mod_left]) (by unfold U64 at *; omega) hj
  have hp : 2 ^ (j + 1) = 2 ^ j * 2 := Nat.pow_succ ..
  rw [twice_or _ _ hx]
  rw [hd]
  generalize bt a j = x at *
  generalize a / 2 ^ (j + 1) = m at *
  generalize hQm : m / b = q at *
  generalize hRm : m % b = t at *
  have hbt := top_bit t (by unfold U64 at *; omega)
  unfold U64 at ha hb
  have key : 2 * m + x = b * (2 * q) + (2 * t + x) := by
    have : b * (2 * q) = 2 * (b * q) := by rw [← Nat.mul_assoc, Nat.mul_comm b 2, Nat.mul_assoc]
    omega
  rw [key]
  by_cases hl : 2 * t + x < b
  · refine ⟨2 * t % 18446744073709551616 + x, _, _, rfl, rfl, rfl, .inl ⟨by rw [hbt, if_neg (by omega)], by omega, ?_, ?_⟩⟩
    · rw [Nat.mul_add_mod, Nat.mod_eq_of_lt hl]
      omega
    · rw [Nat.mul_add_div h0, Nat.div_eq_of_lt hl, hp, Nat.add_zero, Nat.mul_comm 2 q, Nat.mul_assoc, Nat.mul_comm 2 (2 ^ j)]
  · have k2 : b * (2 * q) + (2 * t + x) = b * (2 * q + 1) + (2 * t + x - b) := by
      rw [Nat.mul_add, Nat.mul_one]
      omega
    have hlt2 : 2 * t + x - b < b := by clear k2 key hq; omega
    have hlt3 : 2 * t + x - b + b = 2 * t + x := by clear k2 key hq; omega
    rw [k2, Nat.mul_add_mod, Nat.mod_eq_of_lt hlt2, Nat.mul_add_div h0, Nat.div_eq_of_lt hlt2]
    clear k2 key hq
    refine ⟨2 * t % 18446744073709551616 + x, _, _, rfl, rfl, rfl, .inr ⟨?_, ?_, ?_⟩⟩
    · by_cases ht : 9223372036854775808 ≤ t
      · exact .inr (by rw [hbt, if_pos ht])
      · exact .inl ⟨by rw [hbt, if_neg ht], by omega⟩
    · rw [IntKind.wrap_u64]
      omega
    · rw [hor, hp]
      simp only [Nat.add_mul, Nat.one_mul, Nat.add_zero]
      rw [Nat.mul_comm 2 q, Nat.mul_assoc, Nat.mul_comm 2 (2 ^ j)]

/-- The number that 64 bits are of, without a sign. -/
def un (a : Int) : Nat := (a % 18446744073709551616).toNat
theorem un_val (a : Int) : IntKind.u64.wrap a = ((un a : Nat) : Int) := by
  rw [IntKind.wrap_u64]
  unfold un
  omega
theorem un_u64 (a : Int) : U64 (un a) := by unfold un U64; omega

theorem less_step (x y n : Nat) (he : x / 2 ^ (n + 1) = y / 2 ^ (n + 1)) (hb : bt x n ≠ bt y n) : (((bt y n : Nat) : Int) == 1) = decide (x < y) := by
  have h1 := div_succ x n
  have h2 := div_succ y n
  have b1 := bt_le x n
  have b2 := bt_le y n
  rw [he] at h1
  generalize y / 2 ^ (n + 1) = m at *
  have lt_of : ∀ u v : Nat, u / 2 ^ n < v / 2 ^ n → u < v := fun u v h => by
    apply Nat.lt_of_not_le
    intro h3
    have := Nat.div_le_div_right (c := 2 ^ n) h3
    omega
  by_cases hc : bt y n = 1
  · have : x < y := lt_of _ _ (by omega)
    rw [hc, decide_eq_true this]; rfl
  · have : y < x := lt_of _ _ (by omega)
    have h0 : bt y n = 0 := by omega
    rw [h0, decide_eq_false (by omega)]; rfl

theorem less_top (a b : Int) (ha : -9223372036854775808 ≤ a ∧ a ≤ 9223372036854775807) (hb : -9223372036854775808 ≤ b ∧ b ≤ 9223372036854775807) (hd : bt (un a) 63 ≠ bt (un b) 63) :
    (((bt (un a) 63 : Nat) : Int) == 1) = decide (a < b) := by
  rw [top_bit _ (un_u64 a), top_bit _ (un_u64 b)] at hd
  rw [top_bit _ (un_u64 a)]
  have e1 : (un a : Int) = a % 18446744073709551616 := by unfold un; omega
  have e2 : (un b : Int) = b % 18446744073709551616 := by unfold un; omega
  by_cases h1 : 9223372036854775808 ≤ un a
  · rw [if_pos h1] at hd ⊢
    have h2 : ¬ 9223372036854775808 ≤ un b := fun h => by rw [if_pos h] at hd; exact hd rfl
    rw [decide_eq_true (by omega)]; rfl
  · rw [if_neg h1] at hd ⊢
    have h2 : 9223372036854775808 ≤ un b := by
      apply Decidable.byContradiction
      intro h
      rw [if_neg h] at hd
      exact hd rfl
    rw [decide_eq_false (by omega)]; rfl

theorem less_same (a b : Int) (ha : -9223372036854775808 ≤ a ∧ a ≤ 9223372036854775807) (hb : -9223372036854775808 ≤ b ∧ b ≤ 9223372036854775807) (hd : bt (un a) 63 = bt (un b) 63) :
    decide (un a < un b) = decide (a < b) := by
  rw [top_bit _ (un_u64 a), top_bit _ (un_u64 b)] at hd
  have e1 : (un a : Int) = a % 18446744073709551616 := by unfold un; omega
  have e2 : (un b : Int) = b % 18446744073709551616 := by unfold un; omega
  have : un a < un b ↔ a < b := by
    by_cases h1 : 9223372036854775808 ≤ un a
    · rw [if_pos h1] at hd
      have h2 : 9223372036854775808 ≤ un b := by
        apply Decidable.byContradiction
        intro h
        rw [if_neg h] at hd
        omega
      omega
    · rw [if_neg h1] at hd
      have h2 : ¬ 9223372036854775808 ≤ un b := fun h => by
        rw [if_pos h] at hd
        omega
      omega
  exact decide_eq_decide.2 this

/-- Shifted down by k, with the sign. -/
def dn (a : Int) (k : Nat) : Nat := un (a / 2 ^ k)
theorem dn_u64 (a : Int) (k : Nat) : U64 (dn a k) := un_u64 _
theorem dn_step (a : Int) (k : Nat) (ha : -9223372036854775808 ≤ a ∧ a ≤ 9223372036854775807) :
    bits .or .u64 (((dn a k : Nat) : Int) / 2) (IntKind.u64.wrap (((bt (dn a k) 63 : Nat) : Int) * 9223372036854775808)) = ((dn a (k + 1) : Nat) : Int) := by
  have hb : -9223372036854775808 ≤ a / 2 ^ k ∧ a / 2 ^ k ≤ 9223372036854775807 := by
    have hp : (0 : Int) < 2 ^ k := Int.pow_pos (by decide)
    constructor
    · rw [Int.le_ediv_iff_mul_le hp]
      generalize (2 : Int) ^ k = p at *
      omega
    · by_cases h : 0 ≤ a
      · have := Int.ediv_le_self (2 ^ k) h
        omega
      · have := Int.ediv_neg_of_neg_of_pos (by omega : a < 0) hp
        omega
  have e2 : a / 2 ^ (k + 1) = a / 2 ^ k / 2 := by
    rw [Int.pow_succ, Int.mul_comm, Int.mul_comm, Int.ediv_ediv_of_nonneg (Int.le_of_lt (Int.pow_pos (by decide)))]
  unfold dn
  rw [e2]
  generalize a / 2 ^ k = m at *
  rw [top_bit _ (un_u64 m)]
  have e1 : (un m : Int) = m % 18446744073709551616 := by unfold un; omega
  have e3 : (un (m / 2) : Int) = m / 2 % 18446744073709551616 := by unfold un; omega
  rw [e3, e1, IntKind.wrap_u64]
  have hmod : ((m % 18446744073709551616) / 2) < 9223372036854775808 := by omega
  have hmod0 : 0 ≤ ((m % 18446744073709551616) / 2) := by omega
  split
  · rename_i h
    have hm : m < 0 := by omega
    have ho := bits_join .u64 64 (by decide) (fun n h0 h1 => by rw [IntKind.wrap_u64]; omega) 63 9223372036854775808 ((m % 18446744073709551616) / 2) (by decide) (by decide) (by decide) hmod0 hmod (by omega)
    have hcomm : ∀ p q : Int, bits .or .u64 p q = bits .or .u64 q p := fun p q => by
      show IntKind.u64.wrap ((BitVec.ofInt 64 p ||| BitVec.ofInt 64 q).toNat : Int) = IntKind.u64.wrap ((BitVec.ofInt 64 q ||| BitVec.ofInt 64 p).toNat : Int)
      rw [BitVec.or_comm]
    show bits .or .u64 _ 9223372036854775808 = _
    rw [hcomm, ho]
    omega
  · rename_i h
    have hm : 0 ≤ m := by omega
    have ho := (bits_nat .u64 64 (by decide) (fun n h0 h1 => by rw [IntKind.wrap_u64]; omega) ((m % 18446744073709551616) / 2).toNat 0 (by omega) (by decide)).2
    rw [Int.toNat_of_nonneg hmod0] at ho
    show bits .or .u64 _ ((0 : Nat) : Int) = _
    rw [ho, Nat.or_zero]
    omega

/-- Shifted up by k. -/
def upw (a k : Nat) : Nat := a * 2 ^ k % 18446744073709551616
theorem upw_step (a k : Nat) : IntKind.u64.wrap (((upw a k : Nat) : Int) * 2) = ((upw a (k + 1) : Nat) : Int) := by
  rw [IntKind.wrap_u64]
  unfold upw
  rw [Nat.pow_succ, ← Nat.mul_assoc]
  generalize a * 2 ^ k = m
  omega
theorem upw_zero (a : Nat) (ha : U64 a) : upw a 0 = a := by
  unfold U64 at ha
  unfold upw
  rw [Nat.pow_zero, Nat.mul_one, Nat.mod_eq_of_lt ha]


theorem un_cast (a : Int) : ((un a : Nat) : Int) = a % 18446744073709551616 := by unfold un; omega
theorem wrap64_un (a : Int) : wrap64 ((un a : Nat) : Int) = wrap64 a := by rw [un_cast]; unfold wrap64; omega
theorem wrap64_natmod (m : Nat) : wrap64 ((m % 18446744073709551616 : Nat) : Int) = wrap64 (m : Int) := by unfold wrap64; omega
theorem i64_wrap (n : Int) : IntKind.i64.wrap n = wrap64 n := by rw [IntKind.wrap_i64, wrap64]
theorem ofInt_un (a : Int) : (BitVec.ofInt 64 a).toNat = un a := by rw [BitVec.toNat_ofInt]; rfl

theorem ref_add (a b : Int) : wrap64 ((sm (un a) (un b) 0 : Nat) : Int) = two 3 a b := by
  show _ = wrap64 (a + b)
  have h1 := un_cast a
  have h2 := un_cast b
  unfold wrap64 sm
  omega
theorem ref_sub (a b : Int) : wrap64 ((sm (un a) (comp (un b)) 1 : Nat) : Int) = two 4 a b := by
  show _ = wrap64 (a - b)
  have h1 := un_cast a
  have h2 := un_cast b
  unfold wrap64 comp sm
  omega
theorem ref_mul (a b : Int) : wrap64 (((un a * un b % 18446744073709551616 : Nat)) : Int) = two 5 a b := by
  show _ = wrap64 (a * b)
  rw [wrap64_natmod]
  apply wrap64_congr
  rw [Int.natCast_mul, un_cast, un_cast, ← Int.mul_emod]
theorem ref_and (a b : Int) : wrap64 ((un a &&& un b : Nat) : Int) = two 6 a b := by
  show _ = IntKind.i64.wrap ((BitVec.ofInt 64 a &&& BitVec.ofInt 64 b).toNat : Int)
  rw [i64_wrap, BitVec.toNat_and, ofInt_un, ofInt_un]
theorem ref_or (a b : Int) : wrap64 ((un a ||| un b : Nat) : Int) = two 7 a b := by
  show _ = IntKind.i64.wrap ((BitVec.ofInt 64 a ||| BitVec.ofInt 64 b).toNat : Int)
  rw [i64_wrap, BitVec.toNat_or, ofInt_un, ofInt_un]
theorem ref_xor (a b : Int) : wrap64 ((un a ^^^ un b : Nat) : Int) = two 8 a b := by
  show _ = IntKind.i64.wrap ((BitVec.ofInt 64 a ^^^ BitVec.ofInt 64 b).toNat : Int)
  rw [i64_wrap, BitVec.toNat_xor, ofInt_un, ofInt_un]
theorem pl_un (b : Int) : min (pl b).toNat 64 = un b % 64 := by
  rw [pl_eq]
  have h2 := un_cast b
  omega
theorem ref_shl (a b : Int) : wrap64 ((upw (un a) (un b % 64) : Nat) : Int) = two 9 a b := by
  show _ = wrap64 (a * 2 ^ min (pl b).toNat 64)
  rw [pl_un]
  unfold upw
  rw [wrap64_natmod]
  apply wrap64_congr
  rw [Int.natCast_mul, un_cast, Int.mul_emod, Int.emod_emod, Int.natCast_pow, Int.mul_emod a]
  rfl
theorem ref_shr (a b : Int) (ha : -9223372036854775808 ≤ a ∧ a ≤ 9223372036854775807) : wrap64 ((dn a (un b % 64) : Nat) : Int) = two 10 a b := by
  show _ = a / 2 ^ min (pl b).toNat 64
  rw [pl_un]
  unfold dn
  rw [wrap64_un]
  have hp : (0 : Int) < 2 ^ (un b % 64) := Int.pow_pos (by decide)
  apply IntWalk.wrap64_in
  constructor
  · rw [Int.le_ediv_iff_mul_le hp]
    generalize (2 : Int) ^ (un b % 64) = p at *
    omega
  · by_cases h : 0 ≤ a
    · have := Int.ediv_le_self (2 ^ (un b % 64)) h
      omega
    · have := Int.ediv_neg_of_neg_of_pos (by omega : a < 0) hp
      omega

/-- The bits of a number without its sign. -/
def mag (a : Int) : Nat := if bt (un a) 63 = 1 then sm (comp (un a)) 0 1 else un a
theorem mag_val (a : Int) (ha : -9223372036854775808 ≤ a ∧ a ≤ 9223372036854775807) : mag a = a.natAbs := by
  unfold mag
  rw [top_bit _ (un_u64 a)]
  have h1 := un_cast a
  unfold comp sm
  split
  · rw [if_pos rfl]; omega
  · rw [if_neg (by decide)]; omega
theorem mag_u64 (a : Int) : U64 (mag a) := by
  unfold mag
  split
  · unfold U64 sm; omega
  · exact un_u64 a

def quot (a b : Int) : Nat := if bt (un a) 63 = bt (un b) 63 then mag a / mag b else sm (comp (mag a / mag b)) 0 1
theorem quot_u64 (a b : Int) : U64 (mag a / mag b) := by
  have := mag_u64 a
  have h2 := Nat.div_le_self (mag a) (mag b)
  unfold U64 at *
  omega
theorem ref_quo (a b : Int) (ha : -9223372036854775808 ≤ a ∧ a ≤ 9223372036854775807) (hb : -9223372036854775808 ≤ b ∧ b ≤ 9223372036854775807) :
    wrap64 ((quot a b : Nat) : Int) = two 11 a b := by
  show _ = wrap64 (a.tdiv b)
  apply wrap64_congr
  have hq := quot_u64 a b
  have e := Int.natAbs_tdiv a b
  have hs : ∀ x : Int, -9223372036854775808 ≤ x ∧ x ≤ 9223372036854775807 → (bt (un x) 63 = if x < 0 then 1 else 0) := fun x hx => by
    rw [top_bit _ (un_u64 x)]
    have h1 := un_cast x
    split <;> split <;> omega
  unfold quot
  rw [mag_val a ha, mag_val b hb, hs a ha, hs b hb]
  rw [mag_val a ha, mag_val b hb] at hq
  have e' : a.natAbs / b.natAbs = (a.tdiv b).natAbs := e.symm
  rw [e'] at hq ⊢
  unfold comp sm
  unfold U64 at hq
  have s1 : 0 ≤ a → 0 ≤ b → 0 ≤ a.tdiv b := fun h1 h2 => Int.tdiv_nonneg h1 h2
  have s2 : a < 0 → b < 0 → 0 ≤ a.tdiv b := fun h1 h2 => by
    rw [← Int.neg_neg a, ← Int.neg_neg b, Int.neg_tdiv, Int.tdiv_neg, Int.neg_neg]
    exact Int.tdiv_nonneg (by omega) (by omega)
  have s3 : a < 0 → 0 ≤ b → a.tdiv b ≤ 0 := fun h1 h2 => by
    have := Int.tdiv_nonneg (a := -a) (b := b) (by omega) h2
    rw [Int.neg_tdiv] at this
    omega
  have s4 : 0 ≤ a → b < 0 → a.tdiv b ≤ 0 := fun h1 h2 => by
    have := Int.tdiv_nonneg (a := a) (b := -b) h1 (by omega)
    rw [Int.tdiv_neg] at this
    omega
  generalize a.tdiv b = d at *
  clear e e'
  by_cases h1 : a < 0 <;> by_cases h2 : b < 0 <;> simp only [h1, h2, if_true, if_false]
  all_goals (try simp)
  all_goals omega

theorem bt_test (a i : Nat) : bt a i = (a.testBit i).toNat := by
  unfold bt
  rw [Nat.testBit_eq_decide_div_mod_eq]
  by_cases h : a / 2 ^ i % 2 = 1
  · rw [h]; rfl
  · have : a / 2 ^ i % 2 = 0 := by omega
    rw [this]; rfl
theorem bt_and (a b i : Nat) : bt (a &&& b) i = if bt a i + bt b i = 2 then 1 else 0 := by
  rw [bt_test, bt_test, bt_test, Nat.testBit_and]
  cases a.testBit i <;> cases b.testBit i <;> rfl
theorem bt_or (a b i : Nat) : bt (a ||| b) i = if 0 < bt a i + bt b i then 1 else 0 := by
  rw [bt_test, bt_test, bt_test, Nat.testBit_or]
  cases a.testBit i <;> cases b.testBit i <;> rfl
theorem bt_xor (a b i : Nat) : bt (a ^^^ b) i = if bt a i + bt b i = 1 then 1 else 0 := by
  rw [bt_test, bt_test, bt_test, Nat.testBit_xor]
  cases a.testBit i <;> cases b.testBit i <;> rfl
/-- What the bits come to. -/
def bitw (op : Int) (a b : Nat) : Nat := if op = 6 then a &&& b else if op = 7 then a ||| b else a ^^^ b
theorem bitw_u64 (op : Int) (a b : Nat) (ha : U64 a) (hb : U64 b) : U64 (bitw op a b) := by
  unfold U64 at *
  unfold bitw
  split
  · exact Nat.and_lt_two_pow (n := 64) _ hb
  · split
    · exact Nat.or_lt_two_pow (n := 64) ha hb
    · exact Nat.xor_lt_two_pow (n := 64) ha hb
theorem mod_set (m k : Nat) (hk : k < 64) (h : bt m k = 1) : bits .or .u64 ((m % 2 ^ k : Nat) : Int) (IntKind.u64.wrap (2 ^ k)) = ((m % 2 ^ (k + 1) : Nat) : Int) := by
  rw [or_one _ _ (Nat.mod_lt _ (Nat.two_pow_pos k)) hk, mod_succ, h, Nat.mul_one]
theorem mod_same (m k : Nat) (h : bt m k = 0) : m % 2 ^ k = m % 2 ^ (k + 1) := by
  rw [mod_succ, h, Nat.mul_zero, Nat.add_zero]
theorem mod_all (m : Nat) (h : U64 m) : m % 2 ^ 64 = m := Nat.mod_eq_of_lt h

/-- The product of the lowest k bits. -/
def pw (a b k : Nat) : Nat := a * (b % 2 ^ k) % 18446744073709551616
theorem pw_u64 (a b k : Nat) : U64 (pw a b k) := by unfold U64 pw; omega
theorem pw_set (a b k : Nat) (h : bt b k = 1) : sm (pw a b k) (upw a k) 0 = pw a b (k + 1) := by
  unfold pw upw sm
  rw [mod_succ, h, Nat.mul_one, Nat.mul_add]
  omega
theorem pw_same (a b k : Nat) (h : bt b k = 0) : pw a b k = pw a b (k + 1) := by
  unfold pw
  rw [mod_succ, h, Nat.mul_zero, Nat.add_zero]
theorem pw_all (a b : Nat) (h : U64 b) : pw a b 64 = a * b % 18446744073709551616 := by
  unfold pw
  rw [mod_all b h]
theorem upw_u64 (a k : Nat) : U64 (upw a k) := by unfold U64 upw; omega
theorem upw_val (a k : Nat) : IntKind.u64.wrap ((a : Int) * 2 ^ k) = ((upw a k : Nat) : Int) := by
  rw [IntKind.wrap_u64]
  have e : (a : Int) * 2 ^ k = ((a * 2 ^ k : Nat) : Int) := by rw [Int.natCast_mul, Int.natCast_pow]; rfl
  rw [e]
  unfold upw
  omega
end Go.Proofs.YtooblmiffgjmjaaGreatDoor.Rf1
