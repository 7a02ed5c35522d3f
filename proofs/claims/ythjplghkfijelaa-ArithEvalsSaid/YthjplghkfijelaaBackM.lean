/- The numbers of ArithBack. -/
import Derived.Test.YthjplghkfijelaaBackW
namespace Go.Proofs.Ythjplghkfijelaa
open Go.ChangeShapes Go.WideShapes Go.ChangeAt Go.RowKit

theorem tmod_facts (a b : Int) (hb : b ≠ 0) : ∃ t, b * a.tdiv b + t = a ∧ t.natAbs < b.natAbs ∧ t.natAbs ≤ a.natAbs ∧ (0 ≤ a → 0 ≤ t) ∧ (a ≤ 0 → t ≤ 0) := by
  refine ⟨a.tmod b, Int.mul_tdiv_add_tmod a b, ?_, ?_, fun h => Int.tmod_nonneg b h, fun h => ?_⟩
  · rw [Int.natAbs_tmod]; exact Nat.mod_lt _ (by omega)
  · rw [Int.natAbs_tmod]; exact Nat.mod_le _ _
  · have := Int.tmod_nonneg b (a := -a) (by omega)
    rw [Int.neg_tmod] at this
    omega

theorem pl_more (b : Int) : pl (moreOf b) = pl b := by
  rw [pl_eq, pl_eq]
  unfold moreOf wrap64
  rw [IntKind.wrap_u64, IntKind.wrap_u64]
  omega

theorem back_case (a b : Int) (ha : -9223372036854775808 ≤ a ∧ a ≤ 9223372036854775807) (hb : -9223372036854775808 ≤ b ∧ b ≤ 9223372036854775807) :
    b = 0 ∨ ∃ q p : Int, two 11 a b = q ∧ two 5 q b = p ∧ (b == 0) = false ∧
      (((b == -9223372036854775808) = true ∧ ((q == 1) = true ∧ (a == b) = true ∨ (q == 1) = false ∧ (q == 0) = true)) ∨
       ∃ r : Int, wrap64 (a - p) = r ∧ wrap64 b = b ∧ (b == -9223372036854775808) = false ∧ (decide (b < 0) = true ∧ wrap64 (-b) = -b ∧ decide (r < -b) = true ∧ decide (b < r) = true ∨ decide (b < 0) = false ∧ wrap64 (-b) = -b ∧ decide (r < b) = true ∧ decide (-b < r) = true) ∧ ((r == 0) = true ∨ (r == 0) = false ∧ decide (r < 0) = decide (a < 0))) := by
  by_cases h0 : b = 0
  · exact .inl h0
  obtain ⟨t, ht, hlt, hle, hp, hn⟩ := tmod_facts a b h0
  have e11 : two 11 a b = wrap64 (a.tdiv b) := rfl
  have e5 : ∀ q, two 5 q b = wrap64 (q * b) := fun _ => rfl
  refine .inr ⟨_, _, rfl, rfl, by simpa using h0, ?_⟩
  rw [e5, e11, wrap_mul_l, show a.tdiv b * b = a - t from by rw [Int.mul_comm]; omega, IntWalk.wrap64_in (a - t) (by omega)]
  by_cases hm : b = -9223372036854775808
  · refine .inl ⟨by simpa using hm, ?_⟩
    by_cases hab : a = b
    · left
      refine ⟨?_, by simpa using hab⟩
      rw [hab, Int.tdiv_self h0, IntWalk.wrap64_in 1 (by omega)]; rfl
    · right
      have hd : a.tdiv b = 0 := by
        have := Int.natAbs_tdiv a b
        have h2 : a.natAbs.div b.natAbs = 0 := Nat.div_eq_of_lt (by omega)
        omega
      rw [hd, IntWalk.wrap64_in 0 (by omega)]
      exact ⟨rfl, rfl⟩
  · refine .inr ⟨t, ?_, IntWalk.wrap64_in b hb, by simpa using hm, ?_, ?_⟩
    · rw [show a - (a - t) = t from by omega, IntWalk.wrap64_in t (by omega)]
    · by_cases hl : b < 0
      · exact .inl ⟨by simpa using hl, IntWalk.wrap64_in _ (by omega), by simp; omega, by simp; omega⟩
      · exact .inr ⟨by simp; omega, IntWalk.wrap64_in _ (by omega), by simp; omega, by simp; omega⟩
    · by_cases hz : t = 0
      · exact .inl (by simpa using hz)
      · refine .inr ⟨by simpa using hz, ?_⟩
        by_cases hs : a < 0
        · rw [decide_eq_true hs, decide_eq_true (by omega)]
        · rw [decide_eq_false hs, decide_eq_false (by omega)]

theorem back_walk (a b : Int) (w : World) (wa : (Lit.int .i64 a).wf = true) (wb : (Lit.int .i64 b).wf = true) :
    Calls Try.prog 7 #[.int .i64 a, .int .i64 b] w fun e w' => e = .returned (.bool true) ∧ Below w.heap.size w w' := by
  have ha := bounds_i64 wa
  refine back_start a b w ?_ ?_ (back_case a b ha (bounds_i64 wb))
  · show wrap64 (wrap64 (a + b) - b) = a
    unfold wrap64
    omega
  · intro k h9 h10
    obtain rfl | rfl : k = 9 ∨ k = 10 := by omega
    · show wrap64 (a * 2 ^ min (pl b).toNat 64) = wrap64 (a * 2 ^ min (pl (moreOf b)).toNat 64)
      rw [pl_more]
    · show a / 2 ^ min (pl b).toNat 64 = a / 2 ^ min (pl (moreOf b)).toNat 64
      rw [pl_more]
end Go.Proofs.Ythjplghkfijelaa
