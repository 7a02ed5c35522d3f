/- The document's answers for arith, walked. (Out of stage 1's texts.) -/
import Derived.Test.YtooblmiffgjmjaaGreatDoorRnAJ
import Derived.Test.YtooblmiffgjmjaaGreatDoorMacAJ
namespace Go.Proofs.YtooblmiffgjmjaaGreatDoor.Rf1
open Go.ChangeShapes Go.WideShapes Go.ChangeAt Go.RowKit
set_option linter.unusedVariables false


theorem bit_any (a i : Nat) (w : World) (ha : U64 a) (hi : i ≤ 64) :
    Calls Tryz.prog 77 #[.int .u64 a, .int .i64 i] w fun e w' => e = .returned (.int .u64 (bt a i : Nat)) ∧ w = w' := by
  have H := Lib.hid (bit_val a i ha hi)
  clear ha hi
  go_enter Tryz.func77, Tryz.ntmps77
  go_wp2
  go_ret
  exact ⟨by rw [← H.out]; rfl, rfl⟩

set_option maxHeartbeats 1000000 in
theorem add_any (a b c : Nat) (w : World) (ha : U64 a) (hb : U64 b) (hc : c ≤ 1) :
    Calls Tryz.prog 66 #[.int .u64 a, .int .u64 b, .int .u64 c] w fun e w' => e = .returned (.int .u64 (lo a b c 64 : Nat)) ∧ w = w' := by
  go_enter Tryz.func66, Tryz.ntmps66
  go_wp2_with fail
  go_loop [2, 7, 8] (fun ca out i => ∃ k : Nat, k ≤ 64 ∧ i = .int .i64 k ∧ ca = .int .u64 (cy a b c k : Nat) ∧ out = .int .u64 (lo a b c k : Nat)) (fun _ _ i => 64 - (intOf i).toNat)
  case atStart => exact ⟨0, by omega, rfl, by simp [cy, S_zero], by simp [lo, Nat.mod_one]⟩
  case round =>
    obtain ⟨k, hk, rfl, rfl, rfl⟩ := hrel
    have h1 := bt_le a k
    have h2 := bt_le b k
    have h3 := cy_le a b c k hc
    by_cases hlt : k < 64
    · go_wp2_with fail
      refine (bit_any a k _ ha (by omega)).mono ?_
      rintro e w1 ⟨rfl, rfl⟩
      go_wp2_with fail
      refine (bit_any b k _ hb (by omega)).mono ?_
      rintro e w1 ⟨rfl, rfl⟩
      go_wp2_with fail
      go_round
      case rel => exact ⟨k + 1, by omega, by go_num, by rw [cy_step], by rw [add_step a b c k hlt]⟩
      case measure => simp [intOf]; omega
    · obtain rfl : k = 64 := by omega
      go_wp2_with fail
      go_ret
      exact ⟨rfl, rfl⟩
theorem add_all (a b c : Nat) (w : World) (ha : U64 a) (hb : U64 b) (hc : c ≤ 1) :
    Calls Tryz.prog 66 #[.int .u64 a, .int .u64 b, .int .u64 c] w fun e w' => e = .returned (.int .u64 (sm a b c : Nat)) ∧ w = w' := by
  rw [← lo_all a b c ha hb]
  exact add_any a b c w ha hb hc

theorem negative_any (a : Nat) (w : World) (ha : U64 a) :
    Calls Tryz.prog 80 #[.int .u64 a] w fun e w' => e = .returned (.int .u64 (sm (comp a) 0 1 : Nat)) ∧ w = w' := by
  have hc := comp_val a ha
  go_enter Tryz.func80, Tryz.ntmps80
  go_wp2_with fail
  refine (add_all (comp a) 0 1 _ (comp_u64 a) (by unfold U64; decide) (by omega)).mono ?_
  rintro e w1 ⟨rfl, rfl⟩
  go_wp2_with fail
  go_ret
  exact ⟨rfl, rfl⟩

set_option maxHeartbeats 1000000 in
theorem less_any (a b : Int) (w : World) (ha : Hid (-9223372036854775808 ≤ a ∧ a ≤ 9223372036854775807)) (hb : Hid (-9223372036854775808 ≤ b ∧ b ≤ 9223372036854775807)) :
    Calls Tryz.prog 79 #[.int .i64 a, .int .i64 b] w fun e w' => e = .returned (.bool (decide (a < b))) ∧ w = w' := by
  have hx := un_val a
  have hy := un_val b
  have ux := un_u64 a
  have uy := un_u64 b
  by_cases he : bt (un a) 63 = bt (un b) 63
  · have HE := Lib.hid he
    have hs := Lib.hid (less_same a b ha.out hb.out he)
    rw [← hs.out]
    clear he
    have ht : (((bt (un a) 63 : Nat) : Int) != ((bt (un b) 63 : Nat) : Int)) = false := by rw [HE.out]; simp
    go_enter Tryz.func79, Tryz.ntmps79
    go_wp2_with fail
    refine (bit_any _ 63 _ ux (by omega)).mono ?_
    rintro e w1 ⟨rfl, rfl⟩
    go_wp2_with fail
    refine (bit_any _ 63 _ uy (by omega)).mono ?_
    rintro e w1 ⟨rfl, rfl⟩
    go_wp2_with fail
    go_loop [7] (fun i => ∃ n : Nat, n ≤ 63 ∧ i = .int .i64 (n - 1) ∧ Hid (un a / 2 ^ n = un b / 2 ^ n)) (fun i => (intOf i + 1).toNat)
    case atStart => exact ⟨63, by omega, rfl, by
      have h1 := HE.out
      unfold bt at h1
      unfold U64 at ux uy
      have e1 : un a / 2 ^ 63 < 2 := by show un a / 9223372036854775808 < 2; omega
      have e2 : un b / 2 ^ 63 < 2 := by show un b / 9223372036854775808 < 2; omega
      show un a / 2 ^ 63 = un b / 2 ^ 63
      omega⟩
    case round =>
      obtain ⟨n, hn, rfl, hd⟩ := hrel
      by_cases hlt : 0 < n
      · obtain ⟨j, rfl⟩ : ∃ j, n = j + 1 := ⟨n - 1, by omega⟩
        have ej : ((j + 1 : Nat) : Int) - 1 = (j : Int) := by omega
        rw [ej]
        clear ej
        have hj0 : (0 : Int) ≤ j := by omega
        by_cases hbt : bt (un a) j = bt (un b) j
        · have hq : (((bt (un a) j : Nat) : Int) != ((bt (un b) j : Nat) : Int)) = false := by rw [hbt]; simp
          have HB := Lib.hid hbt
          clear hbt
          go_wp2_with fail
          refine (bit_any _ j _ ux (by omega)).mono ?_
          rintro e w1 ⟨rfl, rfl⟩
          go_wp2_with fail
          refine (bit_any _ j _ uy (by omega)).mono ?_
          rintro e w1 ⟨rfl, rfl⟩
          go_wp2_with fail
          go_round
          case rel => exact ⟨j, by omega, rfl, by
            show un a / 2 ^ j = un b / 2 ^ j
            have h1 := hd.out
            have h2 := HB.out
            rw [div_succ, div_succ (un b) j, h1, h2]⟩
          case measure => simp [intOf]
        · have hq : (((bt (un a) j : Nat) : Int) != ((bt (un b) j : Nat) : Int)) = true := by simp; omega
          have HB := Lib.hid (less_step _ _ j hd.out hbt)
          clear hbt
          go_wp2_with fail
          refine (bit_any _ j _ ux (by omega)).mono ?_
          rintro e w1 ⟨rfl, rfl⟩
          go_wp2_with fail
          refine (bit_any _ j _ uy (by omega)).mono ?_
          rintro e w1 ⟨rfl, rfl⟩
          go_wp2_with fail
          go_ret
          exact ⟨by rw [← HB.out]; rfl, rfl⟩
      · obtain rfl : n = 0 := by omega
        have hd' := hd.out
        have : un a = un b := by simpa using hd'
        have HF := Lib.hid (decide_eq_false (show ¬ un a < un b by omega))
        clear this hd hd'
        go_wp2_with fail
        go_ret
        exact ⟨by rw [HF.out]; rfl, rfl⟩
  · have ht : (((bt (un a) 63 : Nat) : Int) != ((bt (un b) 63 : Nat) : Int)) = true := by simp; omega
    rw [← less_top a b ha.out hb.out he]
    clear he
    go_enter Tryz.func79, Tryz.ntmps79
    go_wp2_with fail
    refine (bit_any _ 63 _ ux (by omega)).mono ?_
    rintro e w1 ⟨rfl, rfl⟩
    go_wp2_with fail
    refine (bit_any _ 63 _ uy (by omega)).mono ?_
    rintro e w1 ⟨rfl, rfl⟩
    go_wp2_with fail
    go_ret
    exact ⟨rfl, rfl⟩

set_option maxHeartbeats 1000000 in
theorem divide_any (a b : Nat) (w : World) (ha : U64 a) (hb : U64 b) (h0 : 0 < b) :
    Calls Tryz.prog 81 #[.int .u64 a, .int .u64 b] w fun e w' => e = .returned (.int .u64 (a / b : Nat)) ∧ w = w' := by
  go_enter Tryz.func81, Tryz.ntmps81
  go_wp2_with fail
  go_loop [5, 6, 7] (fun out rest i => ∃ k o r : Nat, k ≤ 64 ∧ i = .int .i64 (k - 1) ∧ out = .int .u64 o ∧ rest = .int .u64 r ∧ Hid (a / 2 ^ k / b * 2 ^ k = o) ∧ Hid (a / 2 ^ k % b = r)) (fun _ _ i => (intOf i + 1).toNat)
  case atStart =>
    have e1 : a / 2 ^ 64 = 0 := Nat.div_eq_of_lt ha
    exact ⟨64, 0, 0, by omega, rfl, rfl, rfl, by show a / 2 ^ 64 / b * 2 ^ 64 = 0; rw [e1]; simp, by show a / 2 ^ 64 % b = 0; rw [e1]; simp⟩
  case round =>
    obtain ⟨k, o, r, hk, rfl, rfl, rfl, ho, hr⟩ := hrel
    by_cases hlt : 0 < k
    · obtain ⟨j, rfl⟩ : ∃ j, k = j + 1 := ⟨k - 1, by omega⟩
      have ur : U64 r := by
        have := Nat.mod_lt (a / 2 ^ (j + 1)) h0
        have h2 := hr.out
        unfold U64 at *
        omega
      obtain ⟨v, r', o', e1, e2, e3, hc⟩ := div_step a b j ha hb h0 (by omega)
      rw [hr.out] at e1 hc
      rw [ho.out] at hc
      have E2 := Lib.hid e2
      have E3 := Lib.hid e3
      have hx := bt_le a j
      clear e2 e3 ho hr
      have ej : ((j + 1 : Nat) : Int) - 1 = (j : Int) := by omega
      rw [ej]
      clear ej
      have hj0 : (0 : Int) ≤ j := by omega
      rcases hc with ⟨c1, c2, rfl, rfl⟩ | ⟨⟨c1, c2⟩ | c1, c3, c4⟩
      · have c2' : (v : Int) < b := by omega
        go_wp2_with fail
        refine (bit_any r 63 _ ur (by omega)).mono ?_
        rintro e w1 ⟨rfl, rfl⟩
        go_wp2_with fail
        refine (bit_any a j _ ha (by omega)).mono ?_
        rintro e w1 ⟨rfl, rfl⟩
        go_wp2_with fail
        go_round
        case rel => exact ⟨j, _, _, by omega, rfl, rfl, rfl, E3, E2⟩
        case measure => simp [intOf]
      · have c2' : (b : Int) ≤ v := by omega
        go_wp2_with fail
        refine (bit_any r 63 _ ur (by omega)).mono ?_
        rintro e w1 ⟨rfl, rfl⟩
        go_wp2_with fail
        refine (bit_any a j _ ha (by omega)).mono ?_
        rintro e w1 ⟨rfl, rfl⟩
        go_wp2_with fail
        go_round
        case rel => exact ⟨j, _, _, by omega, rfl, rfl, rfl, E3, E2⟩
        case measure => simp [intOf]
      · go_wp2_with fail
        refine (bit_any r 63 _ ur (by omega)).mono ?_
        rintro e w1 ⟨rfl, rfl⟩
        go_wp2_with fail
        refine (bit_any a j _ ha (by omega)).mono ?_
        rintro e w1 ⟨rfl, rfl⟩
        go_wp2_with fail
        go_round
        case rel => exact ⟨j, _, _, by omega, rfl, rfl, rfl, E3, E2⟩
        case measure => simp [intOf]
    · obtain rfl : k = 0 := by omega
      have ho' := ho.out
      simp only [Nat.pow_zero, Nat.div_one, Nat.mul_one] at ho'
      subst ho'
      go_wp2_with fail
      go_ret
      exact ⟨rfl, rfl⟩

set_option maxHeartbeats 1000000 in
theorem shift_up (a n : Nat) (w : World) (ha : U64 a) (hn : n < 64) :
    Calls Tryz.prog 78 #[.int .u64 a, .int .u64 n, .bool false] w fun e w' => e = .returned (.int .u64 (upw a n : Nat)) ∧ w = w' := by
  have h0 := Lib.hid (upw_zero a ha)
  clear ha
  go_enter Tryz.func78, Tryz.ntmps78
  go_wp2_with fail
  go_loop [0, 7] (fun x i => ∃ k : Nat, k ≤ n ∧ i = .int .u64 k ∧ x = .int .u64 (upw a k : Nat)) (fun _ i => n - (intOf i).toNat)
  case atStart => exact ⟨0, by omega, rfl, by rw [h0.out]⟩
  case round =>
    obtain ⟨k, hk, rfl, rfl⟩ := hrel
    by_cases hlt : k < n
    · have E := upw_step a k
      go_wp2_with fail
      go_round
      case rel => exact ⟨k + 1, by omega, by go_num, rfl⟩
      case measure => simp [intOf]; omega
    · obtain rfl : k = n := by omega
      go_wp2_with fail
      go_ret
      exact ⟨rfl, rfl⟩
set_option maxHeartbeats 1000000 in
theorem shift_down (a : Int) (n : Nat) (w : World) (ha : Hid (-9223372036854775808 ≤ a ∧ a ≤ 9223372036854775807)) (hn : n < 64) :
    Calls Tryz.prog 78 #[.int .u64 (un a : Nat), .int .u64 n, .bool true] w fun e w' => e = .returned (.int .u64 (dn a n : Nat)) ∧ w = w' := by
  go_enter Tryz.func78, Tryz.ntmps78
  go_wp2_with fail
  go_loop [0, 7] (fun x i => ∃ k : Nat, k ≤ n ∧ i = .int .u64 k ∧ x = .int .u64 (dn a k : Nat)) (fun _ i => n - (intOf i).toNat)
  case atStart => exact ⟨0, by omega, rfl, by simp [dn]⟩
  case round =>
    obtain ⟨k, hk, rfl, rfl⟩ := hrel
    by_cases hlt : k < n
    · have E := dn_step a k ha.out
      go_wp2_with fail
      refine (bit_any _ 63 _ (dn_u64 a k) (by omega)).mono ?_
      rintro e w1 ⟨rfl, rfl⟩
      go_wp2_with fail
      go_round
      case rel => exact ⟨k + 1, by omega, by go_num, rfl⟩
      case measure => simp [intOf]; omega
    · obtain rfl : k = n := by omega
      go_wp2_with fail
      go_ret
      exact ⟨rfl, rfl⟩


def In64 (a : Int) : Prop := -9223372036854775808 ≤ a ∧ a ≤ 9223372036854775807

theorem refTwo_add (a b : Int) (w : World) :
    Calls Tryz.prog 67 #[.int .i64 3, .int .i64 a, .int .i64 b] w fun e w' => e = .returned (.tuple #[.int .i64 (two 3 a b), .bool true]) ∧ w = w' := by
  have hx := un_val a
  have hy := un_val b
  have hr := Lib.hid (ref_add a b)
  go_enter Tryz.func67, Tryz.ntmps67
  go_wp2_with fail
  refine (add_all (un a) (un b) 0 _ (un_u64 a) (un_u64 b) (by omega)).mono ?_
  rintro e w1 ⟨rfl, rfl⟩
  go_wp2_with fail
  go_ret2
  exact ⟨by rw [← hr.out]; rfl, rfl⟩

theorem refTwo_sub (a b : Int) (w : World) :
    Calls Tryz.prog 67 #[.int .i64 4, .int .i64 a, .int .i64 b] w fun e w' => e = .returned (.tuple #[.int .i64 (two 4 a b), .bool true]) ∧ w = w' := by
  have hx := un_val a
  have hy := un_val b
  have hr := Lib.hid (ref_sub a b)
  have hc := comp_val (un b) (un_u64 b)
  go_enter Tryz.func67, Tryz.ntmps67
  go_wp2_with fail
  refine (add_all (un a) (comp (un b)) 1 _ (un_u64 a) (comp_u64 _) (by omega)).mono ?_
  rintro e w1 ⟨rfl, rfl⟩
  go_wp2_with fail
  go_ret2
  exact ⟨by rw [← hr.out]; rfl, rfl⟩

set_option maxRecDepth 100000 in
set_option maxHeartbeats 1000000 in
theorem refTwo_mul (a b : Int) (w : World) :
    Calls Tryz.prog 67 #[.int .i64 5, .int .i64 a, .int .i64 b] w fun e w' => e = .returned (.tuple #[.int .i64 (two 5 a b), .bool true]) ∧ w = w' := by
  have hx := un_val a
  have hy := un_val b
  have hr := ref_mul a b
  rw [← pw_all _ _ (un_u64 b)] at hr
  go_enter Tryz.func67, Tryz.ntmps67
  go_wp2_with fail
  go_loop [10, 11] (fun out i => ∃ k : Nat, k ≤ 64 ∧ i = .int .i64 k ∧ out = .int .u64 (pw (un a) (un b) k : Nat)) (fun _ i => 64 - (intOf i).toNat)
  case atStart => exact ⟨0, by omega, rfl, by simp [pw, Nat.mod_one]⟩
  case round =>
    obtain ⟨k, hk, rfl, rfl⟩ := hrel
    by_cases hlt : k < 64
    · have hu := upw_val (un a) k
      by_cases hb : bt (un b) k = 1
      · have HP := Lib.hid (pw_set (un a) (un b) k hb)
        go_wp2_with fail
        refine (bit_any _ k _ (un_u64 b) (by omega)).mono ?_
        rintro e w1 ⟨rfl, rfl⟩
        go_wp2_with fail
        refine (add_all _ _ 0 _ (pw_u64 _ _ _) (upw_u64 _ _) (by omega)).mono ?_
        rintro e w1 ⟨rfl, rfl⟩
        go_wp2_with fail
        go_round
        case rel => exact ⟨k + 1, by omega, by go_num, by rw [HP.out]⟩
        case measure => simp [intOf]; omega
      · have hb0 : bt (un b) k = 0 := by have := bt_le (un b) k; omega
        have HP := Lib.hid (pw_same (un a) (un b) k hb0)
        clear hb
        go_wp2_with fail
        refine (bit_any _ k _ (un_u64 b) (by omega)).mono ?_
        rintro e w1 ⟨rfl, rfl⟩
        go_wp2_with fail
        go_round
        case rel => exact ⟨k + 1, by omega, by go_num, by rw [HP.out]⟩
        case measure => simp [intOf]; omega
    · obtain rfl : k = 64 := by omega
      go_wp2_with fail
      go_ret2
      exact ⟨rfl, rfl⟩

set_option maxRecDepth 100000 in
set_option maxHeartbeats 4000000 in
theorem refTwo_bits (op a b : Int) (w : World) (ho : op = 6 ∨ op = 7 ∨ op = 8) (hr : Hid (wrap64 ((bitw op (un a) (un b) : Nat) : Int) = two op a b))
    (hbt : Hid (∀ k, bt (bitw op (un a) (un b)) k = if (op = 6 ∧ bt (un a) k + bt (un b) k = 2 ∨ op = 7 ∧ 0 < bt (un a) k + bt (un b) k ∨ op = 8 ∧ bt (un a) k + bt (un b) k = 1) then 1 else 0)) :
    Calls Tryz.prog 67 #[.int .i64 op, .int .i64 a, .int .i64 b] w fun e w' => e = .returned (.tuple #[.int .i64 (two op a b), .bool true]) ∧ w = w' := by
  have hx := un_val a
  have hy := un_val b
  have hm := Lib.hid (mod_all _ (bitw_u64 op _ _ (un_u64 a) (un_u64 b)))
  obtain rfl | rfl | rfl := ho
  all_goals
    go_enter Tryz.func67, Tryz.ntmps67
    go_wp2_with fail
    go_loop [10, 12] (fun out i => ∃ k o : Nat, k ≤ 64 ∧ i = .int .i64 k ∧ out = .int .u64 (o : Nat) ∧ Hid (bitw _ (un a) (un b) % 2 ^ k = o)) (fun _ i => 64 - (intOf i).toNat)
    case atStart => exact ⟨0, 0, by omega, rfl, rfl, by show _ % 2 ^ 0 = 0; rw [Nat.pow_zero, Nat.mod_one]⟩
    case round =>
      obtain ⟨k, o, hk, rfl, rfl, ho⟩ := hrel
      by_cases hlt : k < 64
      · have h1 := bt_le (un a) k
        have h2 := bt_le (un b) k
        have hB := Lib.hid (hbt.out k)
        obtain ⟨s, hs⟩ : ∃ s : Nat, s = bt (un a) k + bt (un b) k := ⟨_, rfl⟩
        obtain ⟨ba, hba⟩ : ∃ s : Nat, bt (un a) k = s := ⟨_, rfl⟩
        obtain ⟨bb, hbb⟩ : ∃ s : Nat, bt (un b) k = s := ⟨_, rfl⟩
        have hcase : ba = 0 ∧ bb = 0 ∨ ba = 0 ∧ bb = 1 ∨ ba = 1 ∧ bb = 0 ∨ ba = 1 ∧ bb = 1 := by omega
        clear h1 h2 hs
        rcases hcase with ⟨rfl, rfl⟩ | ⟨rfl, rfl⟩ | ⟨rfl, rfl⟩ | ⟨rfl, rfl⟩
        all_goals
          have hB2 := hB.out
          rw [hba, hbb] at hB2
          first
            | (have hB3 := Lib.hid (hB2.trans (if_pos (by decide)))
               clear hB2
               have hor := mod_set _ k hlt hB3.out
               rw [ho.out] at hor
               go_wp2_with fail
               refine (bit_any _ k _ (un_u64 a) (by omega)).mono ?_
               rintro e w1 ⟨rfl, rfl⟩
               go_wp2_with fail
               refine (bit_any _ k _ (un_u64 b) (by omega)).mono ?_
               rintro e w1 ⟨rfl, rfl⟩
               go_wp2_with fail
               go_round
               case rel => exact ⟨k + 1, _, by omega, by go_num, rfl, rfl⟩
               case measure => simp [intOf]; omega)
            | (have hB3 := Lib.hid (hB2.trans (if_neg (by decide)))
               clear hB2
               have hor := Lib.hid (mod_same _ k hB3.out)
               go_wp2_with fail
               refine (bit_any _ k _ (un_u64 a) (by omega)).mono ?_
               rintro e w1 ⟨rfl, rfl⟩
               go_wp2_with fail
               refine (bit_any _ k _ (un_u64 b) (by omega)).mono ?_
               rintro e w1 ⟨rfl, rfl⟩
               go_wp2_with fail
               go_round
               case rel => exact ⟨k + 1, _, by omega, by go_num, rfl, hor.out.symm.trans ho.out⟩
               case measure => simp [intOf]; omega)
      · obtain rfl : k = 64 := by omega
        have hv := hm.out.symm.trans ho.out
        have hr2 := hr.out
        rw [hv] at hr2
        go_wp2_with fail
        go_ret2
        exact ⟨rfl, rfl⟩

theorem refTwo_shl (a b : Int) (w : World) :
    Calls Tryz.prog 67 #[.int .i64 9, .int .i64 a, .int .i64 b] w fun e w' => e = .returned (.tuple #[.int .i64 (two 9 a b), .bool true]) ∧ w = w' := by
  have hx := un_val a
  have hy := un_val b
  have hr := Lib.hid (ref_shl a b)
  obtain ⟨n, hn⟩ : ∃ n, n = un b % 64 := ⟨_, rfl⟩
  have hn2 : n < 64 := by omega
  rw [← hn] at hr
  have hm : ((un b : Nat) : Int) % 64 = (n : Int) := by omega
  have HN := Lib.hid hn
  clear hn
  go_enter Tryz.func67, Tryz.ntmps67
  go_wp2_with fail
  refine (shift_up (un a) n _ (un_u64 a) hn2).mono ?_
  rintro e w1 ⟨rfl, rfl⟩
  go_wp2_with fail
  go_ret2
  exact ⟨by rw [← hr.out]; rfl, rfl⟩

theorem refTwo_shr (a b : Int) (w : World) (ha : Hid (-9223372036854775808 ≤ a ∧ a ≤ 9223372036854775807)) :
    Calls Tryz.prog 67 #[.int .i64 10, .int .i64 a, .int .i64 b] w fun e w' => e = .returned (.tuple #[.int .i64 (two 10 a b), .bool true]) ∧ w = w' := by
  have hx := un_val a
  have hy := un_val b
  have hr := Lib.hid (ref_shr a b ha.out)
  obtain ⟨n, hn⟩ : ∃ n, n = un b % 64 := ⟨_, rfl⟩
  have hn2 : n < 64 := by omega
  rw [← hn] at hr
  have hm : ((un b : Nat) : Int) % 64 = (n : Int) := by omega
  have HN := Lib.hid hn
  clear hn
  go_enter Tryz.func67, Tryz.ntmps67
  go_wp2_with fail
  refine (shift_down a n _ ha hn2).mono ?_
  rintro e w1 ⟨rfl, rfl⟩
  go_wp2_with fail
  go_ret2
  exact ⟨by rw [← hr.out]; rfl, rfl⟩

theorem refTwo_lt (a b : Int) (w : World) (ha : Hid (-9223372036854775808 ≤ a ∧ a ≤ 9223372036854775807)) (hb : Hid (-9223372036854775808 ≤ b ∧ b ≤ 9223372036854775807)) :
    Calls Tryz.prog 67 #[.int .i64 12, .int .i64 a, .int .i64 b] w fun e w' => e = .returned (.tuple #[.int .i64 (two 12 a b), .bool true]) ∧ w = w' := by
  have hx := un_val a
  have hy := un_val b
  have e12 : two 12 a b = asN (decide (a < b)) := rfl
  rw [e12]
  clear e12
  have hL := less_any a b
  have HL := Lib.hid hL
  clear hL
  cases hd : decide (a < b)
  all_goals
    go_enter Tryz.func67, Tryz.ntmps67
    go_wp2_with fail
    refine (HL.out _ ha hb).mono ?_
    rintro e w1 ⟨rfl, rfl⟩
    go_wp2_with fail
    go_ret2
    exact ⟨rfl, rfl⟩

theorem refTwo_eq (a b : Int) (w : World) (ha : Hid (-9223372036854775808 ≤ a ∧ a ≤ 9223372036854775807)) (hb : Hid (-9223372036854775808 ≤ b ∧ b ≤ 9223372036854775807)) :
    Calls Tryz.prog 67 #[.int .i64 13, .int .i64 a, .int .i64 b] w fun e w' => e = .returned (.tuple #[.int .i64 (two 13 a b), .bool true]) ∧ w = w' := by
  have hx := un_val a
  have hy := un_val b
  have e13 : two 13 a b = asN (a == b) := rfl
  rw [e13]
  clear e13
  rcases Int.lt_trichotomy a b with h | rfl | h
  · have e : (a == b) = false := by simp; omega
    have d1 : decide (a < b) = true := by simpa using h
    rw [e]
    clear e h
    go_enter Tryz.func67, Tryz.ntmps67
    go_wp2_with fail
    refine (less_any a b _ ha hb).mono ?_
    rintro e w1 ⟨rfl, rfl⟩
    go_wp2_with fail
    go_ret2
    exact ⟨rfl, rfl⟩
  · have d1 : decide (a < a) = false := by simp
    go_enter Tryz.func67, Tryz.ntmps67
    go_wp2_with fail
    refine (less_any a a _ ha hb).mono ?_
    rintro e w1 ⟨rfl, rfl⟩
    go_wp2_with fail
    refine (less_any a a _ ha hb).mono ?_
    rintro e w1 ⟨rfl, rfl⟩
    go_wp2_with fail
    go_ret2
    exact ⟨by simp; rfl, rfl⟩
  · have e : (a == b) = false := by simp; omega
    have d1 : decide (a < b) = false := by simp; omega
    have d2 : decide (b < a) = true := by simpa using h
    rw [e]
    clear e h
    go_enter Tryz.func67, Tryz.ntmps67
    go_wp2_with fail
    refine (less_any a b _ ha hb).mono ?_
    rintro e w1 ⟨rfl, rfl⟩
    go_wp2_with fail
    refine (less_any b a _ hb ha).mono ?_
    rintro e w1 ⟨rfl, rfl⟩
    go_wp2_with fail
    go_ret2
    exact ⟨rfl, rfl⟩

theorem refTwo_div0 (a : Int) (w : World) :
    Calls Tryz.prog 67 #[.int .i64 11, .int .i64 a, .int .i64 0] w fun e w' => e = .returned (.tuple #[.int .i64 0, .bool false]) ∧ w = w' := by
  go_enter Tryz.func67, Tryz.ntmps67
  go_wp2_with fail
  go_ret2
  exact ⟨rfl, rfl⟩

theorem divide_v (x y q : Nat) (w : World) (hx : U64 x) (hy : U64 y) (h0 : 0 < y) (hq : x / y = q) :
    Calls Tryz.prog 81 #[.int .u64 x, .int .u64 y] w fun e w' => e = .returned (.int .u64 (q : Nat)) ∧ w = w' := by
  subst hq
  exact divide_any x y w hx hy h0

set_option maxRecDepth 100000 in
set_option maxHeartbeats 2000000 in
theorem refTwo_quo (a b : Int) (w : World) (ha : Hid (-9223372036854775808 ≤ a ∧ a ≤ 9223372036854775807)) (hb : Hid (-9223372036854775808 ≤ b ∧ b ≤ 9223372036854775807)) (h0 : (b == 0) = false) :
    Calls Tryz.prog 67 #[.int .i64 11, .int .i64 a, .int .i64 b] w fun e w' => e = .returned (.tuple #[.int .i64 (two 11 a b), .bool true]) ∧ w = w' := by
  have hx := un_val a
  have hy := un_val b
  have hr := Lib.hid (ref_quo a b ha.out hb.out)
  have hpos : 0 < mag b := by
    rw [mag_val b hb.out]
    have : b ≠ 0 := by simpa using h0
    omega
  have HQ2 : quot a b = if bt (un a) 63 = bt (un b) 63 then mag a / mag b else sm (comp (mag a / mag b)) 0 1 := rfl
  have HA : mag a = if bt (un a) 63 = 1 then sm (comp (un a)) 0 1 else un a := rfl
  have HB : mag b = if bt (un b) 63 = 1 then sm (comp (un b)) 0 1 else un b := rfl
  have ua := mag_u64 a
  have ub := mag_u64 b
  have uq := quot_u64 a b
  obtain ⟨q, hq'⟩ : ∃ q : Nat, mag a / mag b = q := ⟨_, rfl⟩
  have hq := Lib.hid hq'
  rw [hq'] at uq HQ2
  clear hq'
  obtain ⟨ta, hta⟩ : ∃ t : Nat, bt (un a) 63 = t := ⟨_, rfl⟩
  obtain ⟨tb, htb⟩ : ∃ t : Nat, bt (un b) 63 = t := ⟨_, rfl⟩
  have hcase : ta = 0 ∧ tb = 0 ∨ ta = 0 ∧ tb = 1 ∨ ta = 1 ∧ tb = 0 ∨ ta = 1 ∧ tb = 1 := by
    have := bt_le (un a) 63
    have := bt_le (un b) 63
    omega
  rw [hta] at HA HQ2
  rw [htb] at HB HQ2
  rcases hcase with ⟨rfl, rfl⟩ | ⟨rfl, rfl⟩ | ⟨rfl, rfl⟩ | ⟨rfl, rfl⟩
  · rw [if_neg (by decide)] at HA
    rw [if_neg (by decide)] at HB
    rw [if_pos rfl] at HQ2
    rw [HQ2] at hr
    rw [HA] at hq ua
    rw [HB] at hq ub hpos
    have UA := ua
    have UB := ub
    clear HA HB HQ2 ua ub
    go_enter Tryz.func67, Tryz.ntmps67
    go_wp2_with fail
    refine (bit_any _ 63 _ (un_u64 a) (by omega)).mono ?_
    rintro e w1 ⟨rfl, rfl⟩
    go_wp2_with fail
    refine (bit_any _ 63 _ (un_u64 b) (by omega)).mono ?_
    rintro e w1 ⟨rfl, rfl⟩
    go_wp2_with fail
    refine (divide_v _ _ q _ UA UB hpos hq.out).mono ?_
    rintro e w1 ⟨rfl, rfl⟩
    go_wp2_with fail
    refine (bit_any _ 63 _ (un_u64 a) (by omega)).mono ?_
    rintro e w1 ⟨rfl, rfl⟩
    go_wp2_with fail
    refine (bit_any _ 63 _ (un_u64 b) (by omega)).mono ?_
    rintro e w1 ⟨rfl, rfl⟩
    go_wp2_with fail
    go_ret2
    exact ⟨by rw [← hr.out]; rfl, rfl⟩
  · rw [if_neg (by decide)] at HA
    rw [if_pos rfl] at HB
    rw [if_neg (by decide)] at HQ2
    rw [HQ2] at hr
    rw [HA] at hq ua
    rw [HB] at hq ub hpos
    have UA := ua
    have UB := ub
    clear HA HB HQ2 ua ub
    go_enter Tryz.func67, Tryz.ntmps67
    go_wp2_with fail
    refine (bit_any _ 63 _ (un_u64 a) (by omega)).mono ?_
    rintro e w1 ⟨rfl, rfl⟩
    go_wp2_with fail
    refine (bit_any _ 63 _ (un_u64 b) (by omega)).mono ?_
    rintro e w1 ⟨rfl, rfl⟩
    go_wp2_with fail
    refine (negative_any _ _ (un_u64 b)).mono ?_
    rintro e w1 ⟨rfl, rfl⟩
    go_wp2_with fail
    refine (divide_v _ _ q _ UA UB hpos hq.out).mono ?_
    rintro e w1 ⟨rfl, rfl⟩
    go_wp2_with fail
    refine (bit_any _ 63 _ (un_u64 a) (by omega)).mono ?_
    rintro e w1 ⟨rfl, rfl⟩
    go_wp2_with fail
    refine (bit_any _ 63 _ (un_u64 b) (by omega)).mono ?_
    rintro e w1 ⟨rfl, rfl⟩
    go_wp2_with fail
    refine (negative_any _ _ uq).mono ?_
    rintro e w1 ⟨rfl, rfl⟩
    go_wp2_with fail
    go_ret2
    exact ⟨by rw [← hr.out]; rfl, rfl⟩
  · rw [if_pos rfl] at HA
    rw [if_neg (by decide)] at HB
    rw [if_neg (by decide)] at HQ2
    rw [HQ2] at hr
    rw [HA] at hq ua
    rw [HB] at hq ub hpos
    have UA := ua
    have UB := ub
    clear HA HB HQ2 ua ub
    go_enter Tryz.func67, Tryz.ntmps67
    go_wp2_with fail
    refine (bit_any _ 63 _ (un_u64 a) (by omega)).mono ?_
    rintro e w1 ⟨rfl, rfl⟩
    go_wp2_with fail
    refine (negative_any _ _ (un_u64 a)).mono ?_
    rintro e w1 ⟨rfl, rfl⟩
    go_wp2_with fail
    refine (bit_any _ 63 _ (un_u64 b) (by omega)).mono ?_
    rintro e w1 ⟨rfl, rfl⟩
    go_wp2_with fail
    refine (divide_v _ _ q _ UA UB hpos hq.out).mono ?_
    rintro e w1 ⟨rfl, rfl⟩
    go_wp2_with fail
    refine (bit_any _ 63 _ (un_u64 a) (by omega)).mono ?_
    rintro e w1 ⟨rfl, rfl⟩
    go_wp2_with fail
    refine (bit_any _ 63 _ (un_u64 b) (by omega)).mono ?_
    rintro e w1 ⟨rfl, rfl⟩
    go_wp2_with fail
    refine (negative_any _ _ uq).mono ?_
    rintro e w1 ⟨rfl, rfl⟩
    go_wp2_with fail
    go_ret2
    exact ⟨by rw [← hr.out]; rfl, rfl⟩
  · rw [if_pos rfl] at HA
    rw [if_pos rfl] at HB
    rw [if_pos rfl] at HQ2
    rw [HQ2] at hr
    rw [HA] at hq ua
    rw [HB] at hq ub hpos
    have UA := ua
    have UB := ub
    clear HA HB HQ2 ua ub
    go_enter Tryz.func67, Tryz.ntmps67
    go_wp2_with fail
    refine (bit_any _ 63 _ (un_u64 a) (by omega)).mono ?_
    rintro e w1 ⟨rfl, rfl⟩
    go_wp2_with fail
    refine (negative_any _ _ (un_u64 a)).mono ?_
    rintro e w1 ⟨rfl, rfl⟩
    go_wp2_with fail
    refine (bit_any _ 63 _ (un_u64 b) (by omega)).mono ?_
    rintro e w1 ⟨rfl, rfl⟩
    go_wp2_with fail
    refine (negative_any _ _ (un_u64 b)).mono ?_
    rintro e w1 ⟨rfl, rfl⟩
    go_wp2_with fail
    refine (divide_v _ _ q _ UA UB hpos hq.out).mono ?_
    rintro e w1 ⟨rfl, rfl⟩
    go_wp2_with fail
    refine (bit_any _ 63 _ (un_u64 a) (by omega)).mono ?_
    rintro e w1 ⟨rfl, rfl⟩
    go_wp2_with fail
    refine (bit_any _ 63 _ (un_u64 b) (by omega)).mono ?_
    rintro e w1 ⟨rfl, rfl⟩
    go_wp2_with fail
    go_ret2
    exact ⟨by rw [← hr.out]; rfl, rfl⟩


theorem refTwo_any (op a b : Int) (w : World) (h3 : 3 ≤ op) (h13 : op ≤ 13) (hz : op = 11 → (b == 0) = false) (ha : Hid (-9223372036854775808 ≤ a ∧ a ≤ 9223372036854775807)) (hb : Hid (-9223372036854775808 ≤ b ∧ b ≤ 9223372036854775807)) :
    Calls Tryz.prog 67 #[.int .i64 op, .int .i64 a, .int .i64 b] w fun e w' => e = .returned (.tuple #[.int .i64 (two op a b), .bool true]) ∧ w' = w := by
  have hor : op = 3 ∨ op = 4 ∨ op = 5 ∨ (op = 6 ∨ op = 7 ∨ op = 8) ∨ op = 9 ∨ op = 10 ∨ op = 11 ∨ op = 12 ∨ op = 13 := by omega
  rcases hor with rfl | rfl | rfl | h | rfl | rfl | rfl | rfl | rfl
  · exact (refTwo_add a b w).mono fun _ _ h => ⟨h.1, h.2.symm⟩
  · exact (refTwo_sub a b w).mono fun _ _ h => ⟨h.1, h.2.symm⟩
  · exact (refTwo_mul a b w).mono fun _ _ h => ⟨h.1, h.2.symm⟩
  · refine (refTwo_bits op a b w h ?_ ?_).mono fun _ _ h => ⟨h.1, h.2.symm⟩
    · rcases h with rfl | rfl | rfl
      · exact ref_and a b
      · exact ref_or a b
      · exact ref_xor a b
    · intro k
      rcases h with rfl | rfl | rfl
      · show bt (un a &&& un b) k = _
        rw [bt_and]; simp
      · show bt (un a ||| un b) k = _
        rw [bt_or]; simp
      · show bt (un a ^^^ un b) k = _
        rw [bt_xor]; simp
  · exact (refTwo_shl a b w).mono fun _ _ h => ⟨h.1, h.2.symm⟩
  · exact (refTwo_shr a b w ha).mono fun _ _ h => ⟨h.1, h.2.symm⟩
  · exact (refTwo_quo a b w ha hb (hz rfl)).mono fun _ _ h => ⟨h.1, h.2.symm⟩
  · exact (refTwo_lt a b w ha hb).mono fun _ _ h => ⟨h.1, h.2.symm⟩
  · exact (refTwo_eq a b w ha hb).mono fun _ _ h => ⟨h.1, h.2.symm⟩

theorem refEval_two (op a b : Int) (k off cap : Nat) (w : World) (h3 : 3 ≤ op) (h13 : op ≤ 13) (hz : op = 11 → (b == 0) = false) (ha : Hid (-9223372036854775808 ≤ a ∧ a ≤ 9223372036854775807)) (hb : Hid (-9223372036854775808 ≤ b ∧ b ≤ 9223372036854775807))
    (hc0 : w.cell? ⟨k, off, none⟩ = some (.int .i64 a)) (hc1 : w.cell? ⟨k, off + 1, none⟩ = some (.int .i64 b)) :
    Calls Tryz.prog 55 #[.int .i64 op, .slice (some ⟨k, off, none⟩) 2 cap] w fun e w' => e = .returned (.tuple #[.int .i64 (two op a b), .bool true]) ∧ Drawn w w' := by
  have HZ := Lib.hid hz
  clear hz
  have h2 : (op == 2) = false := by simp; omega
  have h14 : (op == 14) = false := by simp; omega
  go_enter Tryz.func55, Tryz.ntmps55
  go_wp2_with fail
  go_quiet ((go_at_call 67; refine Calls.quiet_of_same (refTwo_any _ _ _ _ ?_ ?_ ?_ ha hb) <;> first | omega | exact HZ.out))
  go_wp2
  go_ret2
  exact ⟨rfl, _, rfl⟩

theorem refEval_div0 (a : Int) (k off cap : Nat) (w : World) (hc0 : w.cell? ⟨k, off, none⟩ = some (.int .i64 a)) (hc1 : w.cell? ⟨k, off + 1, none⟩ = some (.int .i64 0)) :
    Calls Tryz.prog 55 #[.int .i64 11, .slice (some ⟨k, off, none⟩) 2 cap] w fun e w' => e = .returned (.tuple #[.int .i64 0, .bool false]) ∧ Drawn w w' := by
  go_enter Tryz.func55, Tryz.ntmps55
  go_wp2_with fail
  go_quiet ((go_at_call 67; exact Calls.quiet_of_same ((refTwo_div0 _ _).mono fun _ _ h => ⟨h.1, h.2.symm⟩)))
  go_wp2
  go_ret2
  exact ⟨rfl, _, rfl⟩

theorem refEval_copy (a : Int) (k off cap : Nat) (w : World) (hc0 : w.cell? ⟨k, off, none⟩ = some (.int .i64 a)) :
    Calls Tryz.prog 55 #[.int .i64 2, .slice (some ⟨k, off, none⟩) 1 cap] w fun e w' => e = .returned (.tuple #[.int .i64 (one 2 a), .bool true]) ∧ w = w' := by
  go_enter Tryz.func55, Tryz.ntmps55
  go_wp2_with fail
  go_ret2
  exact ⟨rfl, rfl⟩

theorem ref_not (a : Int) : wrap64 ((sm 1 (comp (un a)) 1 : Nat) : Int) = one 14 a := by
  show _ = wrap64 (1 - a)
  have h1 := un_cast a
  unfold sm comp wrap64
  omega
theorem refEval_not (a : Int) (k off cap : Nat) (w : World) (hc0 : w.cell? ⟨k, off, none⟩ = some (.int .i64 a)) :
    Calls Tryz.prog 55 #[.int .i64 14, .slice (some ⟨k, off, none⟩) 1 cap] w fun e w' => e = .returned (.tuple #[.int .i64 (one 14 a), .bool true]) ∧ w = w' := by
  have hx := un_val a
  have hc := comp_val (un a) (un_u64 a)
  have hr := Lib.hid (ref_not a)
  go_enter Tryz.func55, Tryz.ntmps55
  go_wp2_with fail
  refine (add_all 1 (comp (un a)) 1 _ (by unfold U64; decide) (comp_u64 _) (by omega)).mono ?_
  rintro e w1 ⟨rfl, rfl⟩
  go_wp2_with fail
  go_ret2
  exact ⟨by rw [← hr.out]; rfl, rfl⟩

end Go.Proofs.YtooblmiffgjmjaaGreatDoor.Rf1
