/- The walk of ArithBack. -/
import Derived.Test.YthjplghkfijelaaGroupsW
namespace Go.Proofs.Ythjplghkfijelaa
open Go.ChangeShapes Go.WideShapes Go.ChangeAt Go.RowKit

def moreOf (b : Int) : Int := wrap64 (IntKind.u64.wrap (IntKind.u64.wrap b + 64))

set_option maxRecDepth 100000 in
set_option maxHeartbeats 1000000 in
theorem back_start (a b : Int) (w : World) (hs : Hid (two 4 (two 3 a b) b = a)) (hm : Hid (∀ k : Nat, 9 ≤ k → k ≤ 10 → two k a b = two k a (moreOf b)))
    (hcase : Hid (b = 0 ∨ ∃ q p : Int, two 11 a b = q ∧ two 5 q b = p ∧ (b == 0) = false ∧
      (((b == -9223372036854775808) = true ∧ ((q == 1) = true ∧ (a == b) = true ∨ (q == 1) = false ∧ (q == 0) = true)) ∨
       ∃ r : Int, wrap64 (a - p) = r ∧ wrap64 b = b ∧ (b == -9223372036854775808) = false ∧ (decide (b < 0) = true ∧ wrap64 (-b) = -b ∧ decide (r < -b) = true ∧ decide (b < r) = true ∨ decide (b < 0) = false ∧ wrap64 (-b) = -b ∧ decide (r < b) = true ∧ decide (-b < r) = true) ∧ ((r == 0) = true ∨ (r == 0) = false ∧ decide (r < 0) = decide (a < 0))))) :
    Calls Try.prog 7 #[.int .i64 a, .int .i64 b] w fun e w' => e = .returned (.bool true) ∧ Below w.heap.size w w' := by
  have hm3 : Hid (∀ b, wrap64 (IntKind.u64.wrap (IntKind.u64.wrap b + 64)) = moreOf b) := fun _ => rfl
  go_enter Try.func7, Try.ntmps7
  go_wp2_with fail
  refine (up_any _).mono ?_
  rintro e w1 ⟨rfl, hb⟩
  have hs1 := hb.size
  go_wp2_with fail
  refine (eval_two 3 a b _ 0 _ _ (by omega) (by omega) (fun h => absurd h (by omega)) (new_cell (by simp) rfl) (new_cell (by simp) rfl)).mono ?_
  rintro e w3 ⟨rfl, n1, rfl⟩
  go_wp2_with fail
  refine (eval_two_v 4 _ b a _ 0 _ _ hs.out (by omega) (by omega) (fun h => absurd h (by omega)) (new_cell (by simp) rfl) (new_cell (by simp) rfl)).mono ?_
  rintro e w3 ⟨rfl, n2, rfl⟩
  go_wp2_with fail
  rw [hm3.out]
  have hb2 : Below w.heap.size w ((((w1.alloc (Obj.cells #[Value.int IntKind.i64 a, Value.int IntKind.i64 b] 2)).drewN n1).alloc (Obj.cells #[Value.int IntKind.i64 (two 3 a b), Value.int IntKind.i64 b] 2)).drewN n2) := by
    repeat first | exact hb | refine below_drewN ?_ _ | refine Below.alloc ?_ (by first | exact hs1 | (simp; omega)) _
  clear hm3
  go_loopw [11] (fun i wr => ∃ k : Nat, 9 ≤ k ∧ k ≤ 11 ∧ i = .int .i64 k ∧ Below w.heap.size w wr) (fun i _ => 11 - (intOf i).toNat)
  case atStart => exact ⟨9, by omega, by omega, rfl, hb2⟩
  case round =>
    clear hb hs1 hb2
    obtain ⟨k, hk1, hk2, rfl, hb⟩ := hrel
    have hs1 := hb.size
    by_cases hlt : k < 11
    · have hv := Lib.hid (hm.out k hk1 (by omega))
      go_wp2_with fail
      refine (eval_two k a b _ 0 _ _ (by omega) (by omega) (fun h => absurd h (by omega)) (new_cell (by simp) rfl) (new_cell (by simp) rfl)).mono ?_
      rintro e w3 ⟨rfl, n3, rfl⟩
      go_wp2_with fail
      refine (eval_two_v k a _ (two k a b) _ 0 _ _ hv.out.symm (by omega) (by omega) (fun h => absurd h (by omega)) (new_cell (by simp) rfl) (new_cell (by simp) rfl)).mono ?_
      rintro e w3 ⟨rfl, n4, rfl⟩
      go_wp2_with fail
      go_roundw
      case rel =>
        refine ⟨k + 1, by omega, by omega, by go_num, ?_⟩
        repeat first | exact hb | refine below_drewN ?_ _ | refine Below.alloc ?_ (by first | exact hs1 | (simp; omega)) _
      case measure => simp [intOf]; omega
    · obtain rfl : k = 11 := by omega
      rcases hcase.out with rfl | ⟨q, p, hq, hp, h0, hrest⟩
      · clear hcase
        have he := eqlErr
        go_wp2_with fail
        refine (eval_div0 _ 0 _ _ (new_cell (by simp) rfl)).mono ?_
        rintro e w3 ⟨rfl, rfl⟩
        go_wp2_with fail
        go_ret
        refine ⟨rfl, ?_⟩
        repeat first | exact hb | refine below_drewN ?_ _ | refine Below.alloc ?_ (by first | exact hs1 | (simp; omega)) _
      · clear hcase
        have hq' := Lib.hid hq
        have hp' := Lib.hid hp
        have hr' := Lib.hid hrest
        clear hq hp hrest
        go_wp2_with fail
        refine (eval_two_v 11 a b q _ 0 _ _ hq'.out (by omega) (by omega) (fun h => h0) (new_cell (by simp) rfl) (new_cell (by simp) rfl)).mono ?_
        rintro e w3 ⟨rfl, n3, rfl⟩
        go_wp2_with fail
        refine (eval_two_v 5 q b p _ 0 _ _ hp'.out (by omega) (by omega) (fun h => absurd h (by omega)) (new_cell (by simp) rfl) (new_cell (by simp) rfl)).mono ?_
        rintro e w3 ⟨rfl, n4, rfl⟩
        rcases hr'.out with ⟨hmin, ⟨hq1, hab⟩ | ⟨hq1, hq0⟩⟩ | ⟨r, hr, hrw, hmin, ⟨hl, hn, hr1, hr2⟩ | ⟨hl, hn, hr1, hr2⟩, hz | ⟨hz, hz2⟩⟩
        all_goals
          clear hr'
          go_wp2_with fail
          go_ret
          refine ⟨rfl, ?_⟩
          repeat first | exact hb | refine below_drewN ?_ _ | refine Below.alloc ?_ (by first | exact hs1 | (simp; omega)) _
end Go.Proofs.Ythjplghkfijelaa
