/- The walk of ArithGroups. -/
import Derived.Test.YthjplghkfijelaaOrderW
import Derived.Test.YthjplghkfijelaaKindsW
namespace Go.Proofs.Ythjplghkfijelaa
open Go.ChangeShapes Go.WideShapes Go.ChangeAt Go.RowKit

theorem wrap64_mod (n : Int) : (wrap64 n) % 18446744073709551616 = n % 18446744073709551616 := by unfold wrap64; omega
theorem wrap64_congr (m n : Int) (h : m % 18446744073709551616 = n % 18446744073709551616) : wrap64 m = wrap64 n := by unfold wrap64; omega
theorem wrap_mul_l (x y : Int) : wrap64 (wrap64 x * y) = wrap64 (x * y) := by
  apply wrap64_congr
  rw [Int.mul_emod, wrap64_mod, ← Int.mul_emod]
theorem wrap_mul_r (x y : Int) : wrap64 (x * wrap64 y) = wrap64 (x * y) := by
  apply wrap64_congr
  rw [Int.mul_emod, wrap64_mod, ← Int.mul_emod]
theorem wrap_add (x y : Int) : wrap64 (wrap64 x + y) = wrap64 (x + y) := by unfold wrap64; omega
theorem wrap_add_r (x y : Int) : wrap64 (x + wrap64 y) = wrap64 (x + y) := by unfold wrap64; omega

theorem ofInt_wrap (x : BitVec 64) : BitVec.ofInt 64 (IntKind.i64.wrap (x.toNat : Int)) = x := by
  apply BitVec.eq_of_toNat_eq
  rw [IntKind.wrap_i64, BitVec.toNat_ofInt]
  have := x.isLt
  omega
theorem group_and (a b c : Int) : bits .and .i64 (bits .and .i64 a b) c = bits .and .i64 a (bits .and .i64 b c) := by
  have e : ∀ p q : Int, bits .and .i64 p q = IntKind.i64.wrap ((BitVec.ofInt 64 p &&& BitVec.ofInt 64 q).toNat : Int) := fun _ _ => rfl
  rw [e, e a b, ofInt_wrap, e a, e b c, ofInt_wrap, BitVec.and_assoc]
theorem group_or (a b c : Int) : bits .or .i64 (bits .or .i64 a b) c = bits .or .i64 a (bits .or .i64 b c) := by
  have e : ∀ p q : Int, bits .or .i64 p q = IntKind.i64.wrap ((BitVec.ofInt 64 p ||| BitVec.ofInt 64 q).toNat : Int) := fun _ _ => rfl
  rw [e, e a b, ofInt_wrap, e a, e b c, ofInt_wrap, BitVec.or_assoc]
theorem group_xor (a b c : Int) : bits .xor .i64 (bits .xor .i64 a b) c = bits .xor .i64 a (bits .xor .i64 b c) := by
  have e : ∀ p q : Int, bits .xor .i64 p q = IntKind.i64.wrap ((BitVec.ofInt 64 p ^^^ BitVec.ofInt 64 q).toNat : Int) := fun _ _ => rfl
  rw [e, e a b, ofInt_wrap, e a, e b c, ofInt_wrap, BitVec.xor_assoc]
theorem two_group (op a b c : Int) (h : same op = true) (h8 : op ≤ 8) : two op (two op a b) c = two op a (two op b c) := by
  unfold same at h
  simp only [decide_eq_true_eq] at h
  rcases h with rfl | rfl | rfl | rfl | rfl | rfl
  · show wrap64 (wrap64 (a + b) + c) = wrap64 (a + wrap64 (b + c)); rw [wrap_add, wrap_add_r, Int.add_assoc]
  · show wrap64 (wrap64 (a * b) * c) = wrap64 (a * wrap64 (b * c)); rw [wrap_mul_l, wrap_mul_r, Int.mul_assoc]
  · exact group_and a b c
  · exact group_or a b c
  · exact group_xor a b c
  · omega
theorem two_dist (a b c : Int) : two 5 a (two 3 b c) = two 3 (two 5 a b) (two 5 a c) := by
  show wrap64 (a * wrap64 (b + c)) = wrap64 (wrap64 (a * b) + wrap64 (a * c))
  rw [wrap_mul_r, wrap_add, wrap_add_r, Int.mul_add]

set_option maxRecDepth 100000 in
set_option maxHeartbeats 1000000 in
theorem groups_walk (a b c : Int) (w : World) :
    Calls Try.prog 9 #[.int .i64 a, .int .i64 b, .int .i64 c] w fun e w' => e = .returned (.bool true) ∧ Below w.heap.size w w' := by
  have hd : (two 5 a (two 3 b c) == two 3 (two 5 a b) (two 5 a c)) = true := by rw [two_dist]; simp
  have HD := Lib.hid hd
  clear hd
  go_enter Try.func9, Try.ntmps9
  go_wp2_with fail
  refine (up_any _).mono ?_
  rintro e w1 ⟨rfl, hb⟩
  have hs := hb.size
  go_wp2_with fail
  go_loopw [8] (fun i wr => ∃ k : Nat, 3 ≤ k ∧ k ≤ 9 ∧ i = .int .i64 k ∧ Below w.heap.size w wr) (fun i _ => 9 - (intOf i).toNat)
  case atStart => exact ⟨3, by omega, by omega, rfl, hb⟩
  case round =>
    clear hb hs
    obtain ⟨k, hk3, hk9, rfl, hb⟩ := hrel
    have hs := hb.size
    by_cases hlt : k < 9
    · by_cases h : same (k : Int) = true
      · obtain ⟨g1, g2, g3⟩ := same_two _ h
        have hg : (two (k : Int) (two k a b) c != two k a (two k b c)) = false := by rw [two_group _ _ _ _ h (by omega)]; simp
        go_wp2_with fail
        refine (same_any _ _).mono ?_
        rintro e w2 ⟨rfl, rfl⟩
        go_wp2_with fail
        refine (eval_two k a b _ 0 _ _ g1 g2 (fun h => absurd h g3) (new_cell (by simp) rfl) (new_cell (by simp) rfl)).mono ?_
        rintro e w3 ⟨rfl, n1, rfl⟩
        go_wp2_with fail
        refine (eval_two k b c _ 0 _ _ g1 g2 (fun h => absurd h g3) (new_cell (by simp) rfl) (new_cell (by simp) rfl)).mono ?_
        rintro e w3 ⟨rfl, n2, rfl⟩
        go_wp2_with fail
        refine (eval_two k _ c _ 0 _ _ g1 g2 (fun h => absurd h g3) (new_cell (by simp) rfl) (new_cell (by simp) rfl)).mono ?_
        rintro e w3 ⟨rfl, n3, rfl⟩
        go_wp2_with fail
        refine (eval_two k a _ _ 0 _ _ g1 g2 (fun h => absurd h g3) (new_cell (by simp) rfl) (new_cell (by simp) rfl)).mono ?_
        rintro e w3 ⟨rfl, n4, rfl⟩
        go_wp2_with fail
        go_roundw
        case rel =>
          refine ⟨k + 1, by omega, by omega, by go_num, ?_⟩
          repeat first | exact hb | refine below_drewN ?_ _ | refine Below.alloc ?_ (by first | exact hs | (simp; omega)) _
        case measure => simp [intOf]; omega
      · have hs' : same (k : Int) = false := by simpa using h
        clear h
        go_wp2_with fail
        refine (same_any _ _).mono ?_
        rintro e w2 ⟨rfl, rfl⟩
        go_wp2_with fail
        go_roundw
        case rel => exact ⟨k + 1, by omega, by omega, by go_num, hb⟩
        case measure => simp [intOf]; omega
    · obtain rfl : k = 9 := by omega
      go_wp2_with fail
      refine (eval_two 3 b c _ 0 _ _ (by omega) (by omega) (fun h => absurd h (by omega)) (new_cell (by simp) rfl) (new_cell (by simp) rfl)).mono ?_
      rintro e w3 ⟨rfl, n1, rfl⟩
      go_wp2_with fail
      refine (eval_two 5 a _ _ 0 _ _ (by omega) (by omega) (fun h => absurd h (by omega)) (new_cell (by simp) rfl) (new_cell (by simp) rfl)).mono ?_
      rintro e w3 ⟨rfl, n2, rfl⟩
      go_wp2_with fail
      refine (eval_two 5 a b _ 0 _ _ (by omega) (by omega) (fun h => absurd h (by omega)) (new_cell (by simp) rfl) (new_cell (by simp) rfl)).mono ?_
      rintro e w3 ⟨rfl, n3, rfl⟩
      go_wp2_with fail
      refine (eval_two 5 a c _ 0 _ _ (by omega) (by omega) (fun h => absurd h (by omega)) (new_cell (by simp) rfl) (new_cell (by simp) rfl)).mono ?_
      rintro e w3 ⟨rfl, n4, rfl⟩
      go_wp2_with fail
      refine (eval_two 3 _ _ _ 0 _ _ (by omega) (by omega) (fun h => absurd h (by omega)) (new_cell (by simp) rfl) (new_cell (by simp) rfl)).mono ?_
      rintro e w3 ⟨rfl, n5, rfl⟩
      have hd := HD.out
      go_wp2_with fail
      go_ret
      refine ⟨rfl, ?_⟩
      repeat first | exact hb | refine below_drewN ?_ _ | refine Below.alloc ?_ (by first | exact hs | (simp; omega)) _
end Go.Proofs.Ythjplghkfijelaa
