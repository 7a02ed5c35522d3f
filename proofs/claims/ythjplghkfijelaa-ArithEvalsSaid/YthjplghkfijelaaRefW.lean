/- The document's answer for arith, bit by bit: the walks. -/
import Derived.Test.YthjplghkfijelaaUp
import Derived.Test.YthjplghkfijelaaRefM
namespace Go.Proofs.Ythjplghkfijelaa
open Go.ChangeShapes Go.WideShapes Go.ChangeAt Go.RowKit

theorem bit_any (a i : Nat) (w : World) (ha : U64 a) (hi : i ≤ 64) :
    Calls Try.prog 24 #[.int .u64 a, .int .i64 i] w fun e w' => e = .returned (.int .u64 (bt a i : Nat)) ∧ w = w' := by
  have H := Lib.hid (bit_val a i ha hi)
  clear ha hi
  go_enter Try.func24, Try.ntmps24
  go_wp2
  go_ret
  exact ⟨by rw [← H.out]; rfl, rfl⟩

set_option maxHeartbeats 1000000 in
theorem add_any (a b c : Nat) (w : World) (ha : U64 a) (hb : U64 b) (hc : c ≤ 1) :
    Calls Try.prog 20 #[.int .u64 a, .int .u64 b, .int .u64 c] w fun e w' => e = .returned (.int .u64 (lo a b c 64 : Nat)) ∧ w = w' := by
  go_enter Try.func20, Try.ntmps20
  go_wp2_with fail
  go_loop [2, 7, 8] (fun ca out i => ∃ k : Nat, k ≤ 64 ∧ i = .int .i64 k ∧ ca = .int .u64 (cy a b c k : Nat) ∧ out = .int .u64 (lo a b c k : Nat)) (fun _ _ i => 64 - (intOf i).toNat)
  case atStart => exact ⟨0, by omega, rfl, by simp [cy, S_zero], by simp [lo, Nat.mod_one]⟩
  case round =>
    obtain ⟨k, hk, rfl, rfl, rfl⟩ := hrel
    have h1 := bt_le a k
    have h2 := bt_le b k
    have h3 := cy_le a b c k hc
    by_cases hlt : k < 64
    · go_wp2_with fail
      refine (bit_any a k _ ha (by omega)).mono ?_
      rintro e w1 ⟨rfl, rfl⟩
      go_wp2_with fail
      refine (bit_any b k _ hb (by omega)).mono ?_
      rintro e w1 ⟨rfl, rfl⟩
      go_wp2_with fail
      go_round
      case rel => exact ⟨k + 1, by omega, by go_num, by rw [cy_step], by rw [add_step a b c k hlt]⟩
      case measure => simp [intOf]; omega
    · obtain rfl : k = 64 := by omega
      go_wp2_with fail
      go_ret
      exact ⟨rfl, rfl⟩
theorem add_all (a b c : Nat) (w : World) (ha : U64 a) (hb : U64 b) (hc : c ≤ 1) :
    Calls Try.prog 20 #[.int .u64 a, .int .u64 b, .int .u64 c] w fun e w' => e = .returned (.int .u64 (sm a b c : Nat)) ∧ w = w' := by
  rw [← lo_all a b c ha hb]
  exact add_any a b c w ha hb hc

theorem negative_any (a : Nat) (w : World) (ha : U64 a) :
    Calls Try.prog 27 #[.int .u64 a] w fun e w' => e = .returned (.int .u64 (sm (comp a) 0 1 : Nat)) ∧ w = w' := by
  have hc := comp_val a ha
  go_enter Try.func27, Try.ntmps27
  go_wp2_with fail
  refine (add_all (comp a) 0 1 _ (comp_u64 a) (by unfold U64; decide) (by omega)).mono ?_
  rintro e w1 ⟨rfl, rfl⟩
  go_wp2_with fail
  go_ret
  exact ⟨rfl, rfl⟩

set_option maxHeartbeats 1000000 in
theorem less_any (a b : Int) (w : World) (ha : Hid (-9223372036854775808 ≤ a ∧ a ≤ 9223372036854775807)) (hb : Hid (-9223372036854775808 ≤ b ∧ b ≤ 9223372036854775807)) :
    Calls Try.prog 26 #[.int .i64 a, .int .i64 b] w fun e w' => e = .returned (.bool (decide (a < b))) ∧ w = w' := by
  have hx := un_val a
  have hy := un_val b
  have ux := un_u64 a
  have uy := un_u64 b
  by_cases he : bt (un a) 63 = bt (un b) 63
  · have HE := Lib.hid he
    have hs := Lib.hid (less_same a b ha.out hb.out he)
    rw [← hs.out]
    clear he
    have ht : (((bt (un a) 63 : Nat) : Int) != ((bt (un b) 63 : Nat) : Int)) = false := by rw [HE.out]; simp
    go_enter Try.func26, Try.ntmps26
    go_wp2_with fail
    refine (bit_any _ 63 _ ux (by omega)).mono ?_
    rintro e w1 ⟨rfl, rfl⟩
    go_wp2_with fail
    refine (bit_any _ 63 _ uy (by omega)).mono ?_
    rintro e w1 ⟨rfl, rfl⟩
    go_wp2_with fail
    go_loop [7] (fun i => ∃ n : Nat, n ≤ 63 ∧ i = .int .i64 (n - 1) ∧ Hid (un a / 2 ^ n = un b / 2 ^ n)) (fun i => (intOf i + 1).toNat)
    case atStart => exact ⟨63, by omega, rfl, by
      have h1 := HE.out
      unfold bt at h1
      unfold U64 at ux uy
      have e1 : un a / 2 ^ 63 < 2 := by show un a / 9223372036854775808 < 2; omega
      have e2 : un b / 2 ^ 63 < 2 := by show un b / 9223372036854775808 < 2; omega
      show un a / 2 ^ 63 = un b / 2 ^ 63
      omega⟩
    case round =>
      obtain ⟨n, hn, rfl, hd⟩ := hrel
      by_cases hlt : 0 < n
      · obtain ⟨j, rfl⟩ : ∃ j, n = j + 1 := ⟨n - 1, by omega⟩
        have ej : ((j + 1 : Nat) : Int) - 1 = (j : Int) := by omega
        rw [ej]
        clear ej
        have hj0 : (0 : Int) ≤ j := by omega
        by_cases hbt : bt (un a) j = bt (un b) j
        · have hq : (((bt (un a) j : Nat) : Int) != ((bt (un b) j : Nat) : Int)) = false := by rw [hbt]; simp
          have HB := Lib.hid hbt
          clear hbt
          go_wp2_with fail
          refine (bit_any _ j _ ux (by omega)).mono ?_
          rintro e w1 ⟨rfl, rfl⟩
          go_wp2_with fail
          refine (bit_any _ j _ uy (by omega)).mono ?_
          rintro e w1 ⟨rfl, rfl⟩
          go_wp2_with fail
          go_round
          case rel => exact ⟨j, by omega, rfl, by
            show un a / 2 ^ j = un b / 2 ^ j
            have h1 := hd.out
            have h2 := HB.out
            rw [div_succ, div_succ (un b) j, h1, h2]⟩
          case measure => simp [intOf]
        · have hq : (((bt (un a) j : Nat) : Int) != ((bt (un b) j : Nat) : Int)) = true := by simp; omega
          have HB := Lib.hid (less_step _ _ j hd.out hbt)
          clear hbt
          go_wp2_with fail
          refine (bit_any _ j _ ux (by omega)).mono ?_
          rintro e w1 ⟨rfl, rfl⟩
          go_wp2_with fail
          refine (bit_any _ j _ uy (by omega)).mono ?_
          rintro e w1 ⟨rfl, rfl⟩
          go_wp2_with fail
          go_ret
          exact ⟨by rw [← HB.out]; rfl, rfl⟩
      · obtain rfl : n = 0 := by omega
        have hd' := hd.out
        have : un a = un b := by simpa using hd'
        have HF := Lib.hid (decide_eq_false (show ¬ un a < un b by omega))
        clear this hd hd'
        go_wp2_with fail
        go_ret
        exact ⟨by rw [HF.out]; rfl, rfl⟩
  · have ht : (((bt (un a) 63 : Nat) : Int) != ((bt (un b) 63 : Nat) : Int)) = true := by simp; omega
    rw [← less_top a b ha.out hb.out he]
    clear he
    go_enter Try.func26, Try.ntmps26
    go_wp2_with fail
    refine (bit_any _ 63 _ ux (by omega)).mono ?_
    rintro e w1 ⟨rfl, rfl⟩
    go_wp2_with fail
    refine (bit_any _ 63 _ uy (by omega)).mono ?_
    rintro e w1 ⟨rfl, rfl⟩
    go_wp2_with fail
    go_ret
    exact ⟨rfl, rfl⟩

set_option maxHeartbeats 1000000 in
theorem divide_any (a b : Nat) (w : World) (ha : U64 a) (hb : U64 b) (h0 : 0 < b) :
    Calls Try.prog 28 #[.int .u64 a, .int .u64 b] w fun e w' => e = .returned (.int .u64 (a / b : Nat)) ∧ w = w' := by
  go_enter Try.func28, Try.ntmps28
  go_wp2_with fail
  go_loop [5, 6, 7] (fun out rest i => ∃ k o r : Nat, k ≤ 64 ∧ i = .int .i64 (k - 1) ∧ out = .int .u64 o ∧ rest = .int .u64 r ∧ Hid (a / 2 ^ k / b * 2 ^ k = o) ∧ Hid (a / 2 ^ k % b = r)) (fun _ _ i => (intOf i + 1).toNat)
  case atStart =>
    have e1 : a / 2 ^ 64 = 0 := Nat.div_eq_of_lt ha
    exact ⟨64, 0, 0, by omega, rfl, rfl, rfl, by show a / 2 ^ 64 / b * 2 ^ 64 = 0; rw [e1]; simp, by show a / 2 ^ 64 % b = 0; rw [e1]; simp⟩
  case round =>
    obtain ⟨k, o, r, hk, rfl, rfl, rfl, ho, hr⟩ := hrel
    by_cases hlt : 0 < k
    · obtain ⟨j, rfl⟩ : ∃ j, k = j + 1 := ⟨k - 1, by omega⟩
      have ur : U64 r := by
        have := Nat.mod_lt (a / 2 ^ (j + 1)) h0
        have h2 := hr.out
        unfold U64 at *
        omega
      obtain ⟨v, r', o', e1, e2, e3, hc⟩ := div_step a b j ha hb h0 (by omega)
      rw [hr.out] at e1 hc
      rw [ho.out] at hc
      have E2 := Lib.hid e2
      have E3 := Lib.hid e3
      have hx := bt_le a j
      clear e2 e3 ho hr
      have ej : ((j + 1 : Nat) : Int) - 1 = (j : Int) := by omega
      rw [ej]
      clear ej
      have hj0 : (0 : Int) ≤ j := by omega
      rcases hc with ⟨c1, c2, rfl, rfl⟩ | ⟨⟨c1, c2⟩ | c1, c3, c4⟩
      · have c2' : (v : Int) < b := by omega
        go_wp2_with fail
        refine (bit_any r 63 _ ur (by omega)).mono ?_
        rintro e w1 ⟨rfl, rfl⟩
        go_wp2_with fail
        refine (bit_any a j _ ha (by omega)).mono ?_
        rintro e w1 ⟨rfl, rfl⟩
        go_wp2_with fail
        go_round
        case rel => exact ⟨j, _, _, by omega, rfl, rfl, rfl, E3, E2⟩
        case measure => simp [intOf]
      · have c2' : (b : Int) ≤ v := by omega
        go_wp2_with fail
        refine (bit_any r 63 _ ur (by omega)).mono ?_
        rintro e w1 ⟨rfl, rfl⟩
        go_wp2_with fail
        refine (bit_any a j _ ha (by omega)).mono ?_
        rintro e w1 ⟨rfl, rfl⟩
        go_wp2_with fail
        go_round
        case rel => exact ⟨j, _, _, by omega, rfl, rfl, rfl, E3, E2⟩
        case measure => simp [intOf]
      · go_wp2_with fail
        refine (bit_any r 63 _ ur (by omega)).mono ?_
        rintro e w1 ⟨rfl, rfl⟩
        go_wp2_with fail
        refine (bit_any a j _ ha (by omega)).mono ?_
        rintro e w1 ⟨rfl, rfl⟩
        go_wp2_with fail
        go_round
        case rel => exact ⟨j, _, _, by omega, rfl, rfl, rfl, E3, E2⟩
        case measure => simp [intOf]
    · obtain rfl : k = 0 := by omega
      have ho' := ho.out
      simp only [Nat.pow_zero, Nat.div_one, Nat.mul_one] at ho'
      subst ho'
      go_wp2_with fail
      go_ret
      exact ⟨rfl, rfl⟩

set_option maxHeartbeats 1000000 in
theorem shift_up (a n : Nat) (w : World) (ha : U64 a) (hn : n < 64) :
    Calls Try.prog 25 #[.int .u64 a, .int .u64 n, .bool false] w fun e w' => e = .returned (.int .u64 (upw a n : Nat)) ∧ w = w' := by
  have h0 := Lib.hid (upw_zero a ha)
  clear ha
  go_enter Try.func25, Try.ntmps25
  go_wp2_with fail
  go_loop [0, 7] (fun x i => ∃ k : Nat, k ≤ n ∧ i = .int .u64 k ∧ x = .int .u64 (upw a k : Nat)) (fun _ i => n - (intOf i).toNat)
  case atStart => exact ⟨0, by omega, rfl, by rw [h0.out]⟩
  case round =>
    obtain ⟨k, hk, rfl, rfl⟩ := hrel
    by_cases hlt : k < n
    · have E := upw_step a k
      go_wp2_with fail
      go_round
      case rel => exact ⟨k + 1, by omega, by go_num, rfl⟩
      case measure => simp [intOf]; omega
    · obtain rfl : k = n := by omega
      go_wp2_with fail
      go_ret
      exact ⟨rfl, rfl⟩
set_option maxHeartbeats 1000000 in
theorem shift_down (a : Int) (n : Nat) (w : World) (ha : Hid (-9223372036854775808 ≤ a ∧ a ≤ 9223372036854775807)) (hn : n < 64) :
    Calls Try.prog 25 #[.int .u64 (un a : Nat), .int .u64 n, .bool true] w fun e w' => e = .returned (.int .u64 (dn a n : Nat)) ∧ w = w' := by
  go_enter Try.func25, Try.ntmps25
  go_wp2_with fail
  go_loop [0, 7] (fun x i => ∃ k : Nat, k ≤ n ∧ i = .int .u64 k ∧ x = .int .u64 (dn a k : Nat)) (fun _ i => n - (intOf i).toNat)
  case atStart => exact ⟨0, by omega, rfl, by simp [dn]⟩
  case round =>
    obtain ⟨k, hk, rfl, rfl⟩ := hrel
    by_cases hlt : k < n
    · have E := dn_step a k ha.out
      go_wp2_with fail
      refine (bit_any _ 63 _ (dn_u64 a k) (by omega)).mono ?_
      rintro e w1 ⟨rfl, rfl⟩
      go_wp2_with fail
      go_round
      case rel => exact ⟨k + 1, by omega, by go_num, rfl⟩
      case measure => simp [intOf]; omega
    · obtain rfl : k = n := by omega
      go_wp2_with fail
      go_ret
      exact ⟨rfl, rfl⟩
end Go.Proofs.Ythjplghkfijelaa
