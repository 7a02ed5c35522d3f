/- The walk of ArithOrder. -/
import Derived.Test.YthjplghkfijelaaUp
namespace Go.Proofs.Ythjplghkfijelaa
open Go.ChangeShapes Go.WideShapes Go.ChangeAt Go.RowKit

theorem eval_two_v (op a b v : Int) (k off cap : Nat) (w : World) (hv : two op a b = v) (h : 3 ≤ op) (h2 : op ≤ 13) (hb : op = 11 → (b == 0) = false)
    (hc0 : w.cell? ⟨k, off, none⟩ = some (.int .i64 a)) (hc1 : w.cell? ⟨k, off + 1, none⟩ = some (.int .i64 b)) :
    Calls Try.prog 16 #[.int .i64 op, .slice (some ⟨k, off, none⟩) 2 cap] w fun e w' => e = .returned (.tuple #[.int .i64 v, .nilIface]) ∧ Drawn w w' := by
  subst hv
  exact eval_two op a b k off cap w h h2 hb hc0 hc1
theorem eval_one_v (op a v : Int) (k off cap : Nat) (w : World) (hv : one op a = v) (h : op = 2 ∨ op = 14) (hc0 : w.cell? ⟨k, off, none⟩ = some (.int .i64 a)) :
    Calls Try.prog 16 #[.int .i64 op, .slice (some ⟨k, off, none⟩) 1 cap] w fun e w' => e = .returned (.tuple #[.int .i64 v, .nilIface]) ∧ w = w' := by
  subst hv
  exact eval_one op a k off cap w h hc0

set_option maxHeartbeats 1000000 in
theorem order_core (a b c x y z u v n : Int) (t : Bool) (w : World)
    (hx : Hid (two 12 a b = x)) (hy : Hid (two 12 b a = y)) (hz : Hid (two 13 a b = z)) (hu : Hid (two 12 b c = u)) (hv : Hid (two 12 a c = v))
    (hn : Hid (one 14 z = n)) (hm : Hid (one 14 n = z))
    (h1 : (wrap64 (wrap64 (x + y) + z) == 1) = true) (h2 : decide (wrap64 (x * u) ≤ v) = true) (h3 : (n == wrap64 (1 - z)) = true) (h4 : (z == 1) = t) (h5 : (a == b) = t) :
    Calls Try.prog 10 #[.int .i64 a, .int .i64 b, .int .i64 c] w fun e w' => e = .returned (.bool true) ∧ Below w.heap.size w w' := by
  go_enter Try.func10, Try.ntmps10
  go_wp2_with fail
  refine (up_any _).mono ?_
  rintro e w1 ⟨rfl, hb⟩
  have hs := hb.size
  go_wp2_with fail
  refine (eval_two_v 12 a b x _ 0 _ _ hx.out (by omega) (by omega) (fun h => absurd h (by omega)) (new_cell (by simp) rfl) (new_cell (by simp) rfl)).mono ?_
  rintro e w3 ⟨rfl, n1, rfl⟩
  go_wp2_with fail
  refine (eval_two_v 12 b a y _ 0 _ _ hy.out (by omega) (by omega) (fun h => absurd h (by omega)) (new_cell (by simp) rfl) (new_cell (by simp) rfl)).mono ?_
  rintro e w3 ⟨rfl, n2, rfl⟩
  go_wp2_with fail
  refine (eval_two_v 13 a b z _ 0 _ _ hz.out (by omega) (by omega) (fun h => absurd h (by omega)) (new_cell (by simp) rfl) (new_cell (by simp) rfl)).mono ?_
  rintro e w3 ⟨rfl, n3, rfl⟩
  go_wp2_with fail
  refine (eval_two_v 12 b c u _ 0 _ _ hu.out (by omega) (by omega) (fun h => absurd h (by omega)) (new_cell (by simp) rfl) (new_cell (by simp) rfl)).mono ?_
  rintro e w3 ⟨rfl, n4, rfl⟩
  go_wp2_with fail
  refine (eval_two_v 12 a c v _ 0 _ _ hv.out (by omega) (by omega) (fun h => absurd h (by omega)) (new_cell (by simp) rfl) (new_cell (by simp) rfl)).mono ?_
  rintro e w3 ⟨rfl, n5, rfl⟩
  go_wp2_with fail
  refine (eval_one_v 14 z n _ 0 _ _ hn.out (.inr rfl) (new_cell (by simp) rfl)).mono ?_
  rintro e w3 ⟨rfl, rfl⟩
  go_wp2_with fail
  refine (eval_one_v 14 n z _ 0 _ _ hm.out (.inr rfl) (new_cell (by simp) rfl)).mono ?_
  rintro e w3 ⟨rfl, rfl⟩
  go_wp2_with fail
  go_ret
  refine ⟨rfl, ?_⟩
  repeat first | exact hb | refine below_drewN ?_ _ | refine Below.alloc ?_ (by first | exact hs | (simp; omega)) _

theorem order_walk (a b c : Int) (w : World) :
    Calls Try.prog 10 #[.int .i64 a, .int .i64 b, .int .i64 c] w fun e w' => e = .returned (.bool true) ∧ Below w.heap.size w w' := by
  have e12 : ∀ p q : Int, two 12 p q = asN (decide (p < q)) := fun _ _ => rfl
  have e13 : ∀ p q : Int, two 13 p q = asN (p == q) := fun _ _ => rfl
  by_cases h1 : a < b <;> by_cases h2 : b < a <;> by_cases h3 : b < c <;> by_cases h4 : a < c <;> (try (exfalso; omega))
  all_goals
    have h5 : a = b ∨ ¬ a = b := by omega
    refine order_core a b c _ _ _ _ _ (1 - asN (a == b)) (a == b) w (Lib.hid rfl) (Lib.hid rfl) (Lib.hid rfl) (Lib.hid rfl) (Lib.hid rfl) ?_ ?_ ?_ ?_ ?_ ?_ rfl
    all_goals
      simp only [e12, e13, one, h1, h2, h3, h4, asN, Hid]
      rcases h5 with h5 | h5 <;> first | (exfalso; omega) | (simp [h5]; try decide +kernel)
end Go.Proofs.Ythjplghkfijelaa
