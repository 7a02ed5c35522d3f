/- The document's answer for two arguments: its walk, operation by operation. -/
import Derived.Test.YthjplghkfijelaaRefW
import Derived.Test.YthjplghkfijelaaTwoM
namespace Go.Proofs.Ythjplghkfijelaa
open Go.ChangeShapes Go.WideShapes Go.ChangeAt Go.RowKit

def In64 (a : Int) : Prop := -9223372036854775808 ≤ a ∧ a ≤ 9223372036854775807

theorem refTwo_add (a b : Int) (w : World) :
    Calls Try.prog 21 #[.int .i64 3, .int .i64 a, .int .i64 b] w fun e w' => e = .returned (.tuple #[.int .i64 (two 3 a b), .bool true]) ∧ w = w' := by
  have hx := un_val a
  have hy := un_val b
  have hr := Lib.hid (ref_add a b)
  go_enter Try.func21, Try.ntmps21
  go_wp2_with fail
  refine (add_all (un a) (un b) 0 _ (un_u64 a) (un_u64 b) (by omega)).mono ?_
  rintro e w1 ⟨rfl, rfl⟩
  go_wp2_with fail
  go_ret2
  exact ⟨by rw [← hr.out]; rfl, rfl⟩

theorem refTwo_sub (a b : Int) (w : World) :
    Calls Try.prog 21 #[.int .i64 4, .int .i64 a, .int .i64 b] w fun e w' => e = .returned (.tuple #[.int .i64 (two 4 a b), .bool true]) ∧ w = w' := by
  have hx := un_val a
  have hy := un_val b
  have hr := Lib.hid (ref_sub a b)
  have hc := comp_val (un b) (un_u64 b)
  go_enter Try.func21, Try.ntmps21
  go_wp2_with fail
  refine (add_all (un a) (comp (un b)) 1 _ (un_u64 a) (comp_u64 _) (by omega)).mono ?_
  rintro e w1 ⟨rfl, rfl⟩
  go_wp2_with fail
  go_ret2
  exact ⟨by rw [← hr.out]; rfl, rfl⟩

set_option maxRecDepth 100000 in
set_option maxHeartbeats 1000000 in
theorem refTwo_mul (a b : Int) (w : World) :
    Calls Try.prog 21 #[.int .i64 5, .int .i64 a, .int .i64 b] w fun e w' => e = .returned (.tuple #[.int .i64 (two 5 a b), .bool true]) ∧ w = w' := by
  have hx := un_val a
  have hy := un_val b
  have hr := ref_mul a b
  rw [← pw_all _ _ (un_u64 b)] at hr
  go_enter Try.func21, Try.ntmps21
  go_wp2_with fail
  go_loop [10, 11] (fun out i => ∃ k : Nat, k ≤ 64 ∧ i = .int .i64 k ∧ out = .int .u64 (pw (un a) (un b) k : Nat)) (fun _ i => 64 - (intOf i).toNat)
  case atStart => exact ⟨0, by omega, rfl, by simp [pw, Nat.mod_one]⟩
  case round =>
    obtain ⟨k, hk, rfl, rfl⟩ := hrel
    by_cases hlt : k < 64
    · have hu := upw_val (un a) k
      by_cases hb : bt (un b) k = 1
      · have HP := Lib.hid (pw_set (un a) (un b) k hb)
        go_wp2_with fail
        refine (bit_any _ k _ (un_u64 b) (by omega)).mono ?_
        rintro e w1 ⟨rfl, rfl⟩
        go_wp2_with fail
        refine (add_all _ _ 0 _ (pw_u64 _ _ _) (upw_u64 _ _) (by omega)).mono ?_
        rintro e w1 ⟨rfl, rfl⟩
        go_wp2_with fail
        go_round
        case rel => exact ⟨k + 1, by omega, by go_num, by rw [HP.out]⟩
        case measure => simp [intOf]; omega
      · have hb0 : bt (un b) k = 0 := by have := bt_le (un b) k; omega
        have HP := Lib.hid (pw_same (un a) (un b) k hb0)
        clear hb
        go_wp2_with fail
        refine (bit_any _ k _ (un_u64 b) (by omega)).mono ?_
        rintro e w1 ⟨rfl, rfl⟩
        go_wp2_with fail
        go_round
        case rel => exact ⟨k + 1, by omega, by go_num, by rw [HP.out]⟩
        case measure => simp [intOf]; omega
    · obtain rfl : k = 64 := by omega
      go_wp2_with fail
      go_ret2
      exact ⟨rfl, rfl⟩

set_option maxRecDepth 100000 in
set_option maxHeartbeats 4000000 in
theorem refTwo_bits (op a b : Int) (w : World) (ho : op = 6 ∨ op = 7 ∨ op = 8) (hr : Hid (wrap64 ((bitw op (un a) (un b) : Nat) : Int) = two op a b))
    (hbt : Hid (∀ k, bt (bitw op (un a) (un b)) k = if (op = 6 ∧ bt (un a) k + bt (un b) k = 2 ∨ op = 7 ∧ 0 < bt (un a) k + bt (un b) k ∨ op = 8 ∧ bt (un a) k + bt (un b) k = 1) then 1 else 0)) :
    Calls Try.prog 21 #[.int .i64 op, .int .i64 a, .int .i64 b] w fun e w' => e = .returned (.tuple #[.int .i64 (two op a b), .bool true]) ∧ w = w' := by
  have hx := un_val a
  have hy := un_val b
  have hm := Lib.hid (mod_all _ (bitw_u64 op _ _ (un_u64 a) (un_u64 b)))
  obtain rfl | rfl | rfl := ho
  all_goals
    go_enter Try.func21, Try.ntmps21
    go_wp2_with fail
    go_loop [10, 12] (fun out i => ∃ k o : Nat, k ≤ 64 ∧ i = .int .i64 k ∧ out = .int .u64 (o : Nat) ∧ Hid (bitw _ (un a) (un b) % 2 ^ k = o)) (fun _ i => 64 - (intOf i).toNat)
    case atStart => exact ⟨0, 0, by omega, rfl, rfl, by show _ % 2 ^ 0 = 0; rw [Nat.pow_zero, Nat.mod_one]⟩
    case round =>
      obtain ⟨k, o, hk, rfl, rfl, ho⟩ := hrel
      by_cases hlt : k < 64
      · have h1 := bt_le (un a) k
        have h2 := bt_le (un b) k
        have hB := Lib.hid (hbt.out k)
        obtain ⟨s, hs⟩ : ∃ s : Nat, s = bt (un a) k + bt (un b) k := ⟨_, rfl⟩
        obtain ⟨ba, hba⟩ : ∃ s : Nat, bt (un a) k = s := ⟨_, rfl⟩
        obtain ⟨bb, hbb⟩ : ∃ s : Nat, bt (un b) k = s := ⟨_, rfl⟩
        have hcase : ba = 0 ∧ bb = 0 ∨ ba = 0 ∧ bb = 1 ∨ ba = 1 ∧ bb = 0 ∨ ba = 1 ∧ bb = 1 := by omega
        clear h1 h2 hs
        rcases hcase with ⟨rfl, rfl⟩ | ⟨rfl, rfl⟩ | ⟨rfl, rfl⟩ | ⟨rfl, rfl⟩
        all_goals
          have hB2 := hB.out
          rw [hba, hbb] at hB2
          first
            | (have hB3 := Lib.hid (hB2.trans (if_pos (by decide)))
               clear hB2
               have hor := mod_set _ k hlt hB3.out
               rw [ho.out] at hor
               go_wp2_with fail
               refine (bit_any _ k _ (un_u64 a) (by omega)).mono ?_
               rintro e w1 ⟨rfl, rfl⟩
               go_wp2_with fail
               refine (bit_any _ k _ (un_u64 b) (by omega)).mono ?_
               rintro e w1 ⟨rfl, rfl⟩
               go_wp2_with fail
               go_round
               case rel => exact ⟨k + 1, _, by omega, by go_num, rfl, rfl⟩
               case measure => simp [intOf]; omega)
            | (have hB3 := Lib.hid (hB2.trans (if_neg (by decide)))
               clear hB2
               have hor := Lib.hid (mod_same _ k hB3.out)
               go_wp2_with fail
               refine (bit_any _ k _ (un_u64 a) (by omega)).mono ?_
               rintro e w1 ⟨rfl, rfl⟩
               go_wp2_with fail
               refine (bit_any _ k _ (un_u64 b) (by omega)).mono ?_
               rintro e w1 ⟨rfl, rfl⟩
               go_wp2_with fail
               go_round
               case rel => exact ⟨k + 1, _, by omega, by go_num, rfl, hor.out.symm.trans ho.out⟩
               case measure => simp [intOf]; omega)
      · obtain rfl : k = 64 := by omega
        have hv := hm.out.symm.trans ho.out
        have hr2 := hr.out
        rw [hv] at hr2
        go_wp2_with fail
        go_ret2
        exact ⟨rfl, rfl⟩

theorem refTwo_shl (a b : Int) (w : World) :
    Calls Try.prog 21 #[.int .i64 9, .int .i64 a, .int .i64 b] w fun e w' => e = .returned (.tuple #[.int .i64 (two 9 a b), .bool true]) ∧ w = w' := by
  have hx := un_val a
  have hy := un_val b
  have hr := Lib.hid (ref_shl a b)
  obtain ⟨n, hn⟩ : ∃ n, n = un b % 64 := ⟨_, rfl⟩
  have hn2 : n < 64 := by omega
  rw [← hn] at hr
  have hm : ((un b : Nat) : Int) % 64 = (n : Int) := by omega
  have HN := Lib.hid hn
  clear hn
  go_enter Try.func21, Try.ntmps21
  go_wp2_with fail
  refine (shift_up (un a) n _ (un_u64 a) hn2).mono ?_
  rintro e w1 ⟨rfl, rfl⟩
  go_wp2_with fail
  go_ret2
  exact ⟨by rw [← hr.out]; rfl, rfl⟩

theorem refTwo_shr (a b : Int) (w : World) (ha : Hid (-9223372036854775808 ≤ a ∧ a ≤ 9223372036854775807)) :
    Calls Try.prog 21 #[.int .i64 10, .int .i64 a, .int .i64 b] w fun e w' => e = .returned (.tuple #[.int .i64 (two 10 a b), .bool true]) ∧ w = w' := by
  have hx := un_val a
  have hy := un_val b
  have hr := Lib.hid (ref_shr a b ha.out)
  obtain ⟨n, hn⟩ : ∃ n, n = un b % 64 := ⟨_, rfl⟩
  have hn2 : n < 64 := by omega
  rw [← hn] at hr
  have hm : ((un b : Nat) : Int) % 64 = (n : Int) := by omega
  have HN := Lib.hid hn
  clear hn
  go_enter Try.func21, Try.ntmps21
  go_wp2_with fail
  refine (shift_down a n _ ha hn2).mono ?_
  rintro e w1 ⟨rfl, rfl⟩
  go_wp2_with fail
  go_ret2
  exact ⟨by rw [← hr.out]; rfl, rfl⟩

theorem refTwo_lt (a b : Int) (w : World) (ha : Hid (-9223372036854775808 ≤ a ∧ a ≤ 9223372036854775807)) (hb : Hid (-9223372036854775808 ≤ b ∧ b ≤ 9223372036854775807)) :
    Calls Try.prog 21 #[.int .i64 12, .int .i64 a, .int .i64 b] w fun e w' => e = .returned (.tuple #[.int .i64 (two 12 a b), .bool true]) ∧ w = w' := by
  have hx := un_val a
  have hy := un_val b
  have e12 : two 12 a b = asN (decide (a < b)) := rfl
  rw [e12]
  clear e12
  have hL := less_any a b
  have HL := Lib.hid hL
  clear hL
  cases hd : decide (a < b)
  all_goals
    go_enter Try.func21, Try.ntmps21
    go_wp2_with fail
    refine (HL.out _ ha hb).mono ?_
    rintro e w1 ⟨rfl, rfl⟩
    go_wp2_with fail
    go_ret2
    exact ⟨rfl, rfl⟩

theorem refTwo_eq (a b : Int) (w : World) (ha : Hid (-9223372036854775808 ≤ a ∧ a ≤ 9223372036854775807)) (hb : Hid (-9223372036854775808 ≤ b ∧ b ≤ 9223372036854775807)) :
    Calls Try.prog 21 #[.int .i64 13, .int .i64 a, .int .i64 b] w fun e w' => e = .returned (.tuple #[.int .i64 (two 13 a b), .bool true]) ∧ w = w' := by
  have hx := un_val a
  have hy := un_val b
  have e13 : two 13 a b = asN (a == b) := rfl
  rw [e13]
  clear e13
  rcases Int.lt_trichotomy a b with h | rfl | h
  · have e : (a == b) = false := by simp; omega
    have d1 : decide (a < b) = true := by simpa using h
    rw [e]
    clear e h
    go_enter Try.func21, Try.ntmps21
    go_wp2_with fail
    refine (less_any a b _ ha hb).mono ?_
    rintro e w1 ⟨rfl, rfl⟩
    go_wp2_with fail
    go_ret2
    exact ⟨rfl, rfl⟩
  · have d1 : decide (a < a) = false := by simp
    go_enter Try.func21, Try.ntmps21
    go_wp2_with fail
    refine (less_any a a _ ha hb).mono ?_
    rintro e w1 ⟨rfl, rfl⟩
    go_wp2_with fail
    refine (less_any a a _ ha hb).mono ?_
    rintro e w1 ⟨rfl, rfl⟩
    go_wp2_with fail
    go_ret2
    exact ⟨by simp; rfl, rfl⟩
  · have e : (a == b) = false := by simp; omega
    have d1 : decide (a < b) = false := by simp; omega
    have d2 : decide (b < a) = true := by simpa using h
    rw [e]
    clear e h
    go_enter Try.func21, Try.ntmps21
    go_wp2_with fail
    refine (less_any a b _ ha hb).mono ?_
    rintro e w1 ⟨rfl, rfl⟩
    go_wp2_with fail
    refine (less_any b a _ hb ha).mono ?_
    rintro e w1 ⟨rfl, rfl⟩
    go_wp2_with fail
    go_ret2
    exact ⟨rfl, rfl⟩

theorem refTwo_div0 (a : Int) (w : World) :
    Calls Try.prog 21 #[.int .i64 11, .int .i64 a, .int .i64 0] w fun e w' => e = .returned (.tuple #[.int .i64 0, .bool false]) ∧ w = w' := by
  go_enter Try.func21, Try.ntmps21
  go_wp2_with fail
  go_ret2
  exact ⟨rfl, rfl⟩

theorem divide_v (x y q : Nat) (w : World) (hx : U64 x) (hy : U64 y) (h0 : 0 < y) (hq : x / y = q) :
    Calls Try.prog 28 #[.int .u64 x, .int .u64 y] w fun e w' => e = .returned (.int .u64 (q : Nat)) ∧ w = w' := by
  subst hq
  exact divide_any x y w hx hy h0

set_option maxRecDepth 100000 in
set_option maxHeartbeats 2000000 in
theorem refTwo_quo (a b : Int) (w : World) (ha : Hid (-9223372036854775808 ≤ a ∧ a ≤ 9223372036854775807)) (hb : Hid (-9223372036854775808 ≤ b ∧ b ≤ 9223372036854775807)) (h0 : (b == 0) = false) :
    Calls Try.prog 21 #[.int .i64 11, .int .i64 a, .int .i64 b] w fun e w' => e = .returned (.tuple #[.int .i64 (two 11 a b), .bool true]) ∧ w = w' := by
  have hx := un_val a
  have hy := un_val b
  have hr := Lib.hid (ref_quo a b ha.out hb.out)
  have hpos : 0 < mag b := by
    rw [mag_val b hb.out]
    have : b ≠ 0 := by simpa using h0
    omega
  have HQ2 : quot a b = if bt (un a) 63 = bt (un b) 63 then mag a / mag b else sm (comp (mag a / mag b)) 0 1 := rfl
  have HA : mag a = if bt (un a) 63 = 1 then sm (comp (un a)) 0 1 else un a := rfl
  have HB : mag b = if bt (un b) 63 = 1 then sm (comp (un b)) 0 1 else un b := rfl
  have ua := mag_u64 a
  have ub := mag_u64 b
  have uq := quot_u64 a b
  obtain ⟨q, hq'⟩ : ∃ q : Nat, mag a / mag b = q := ⟨_, rfl⟩
  have hq := Lib.hid hq'
  rw [hq'] at uq HQ2
  clear hq'
  obtain ⟨ta, hta⟩ : ∃ t : Nat, bt (un a) 63 = t := ⟨_, rfl⟩
  obtain ⟨tb, htb⟩ : ∃ t : Nat, bt (un b) 63 = t := ⟨_, rfl⟩
  have hcase : ta = 0 ∧ tb = 0 ∨ ta = 0 ∧ tb = 1 ∨ ta = 1 ∧ tb = 0 ∨ ta = 1 ∧ tb = 1 := by
    have := bt_le (un a) 63
    have := bt_le (un b) 63
    omega
  rw [hta] at HA HQ2
  rw [htb] at HB HQ2
  rcases hcase with ⟨rfl, rfl⟩ | ⟨rfl, rfl⟩ | ⟨rfl, rfl⟩ | ⟨rfl, rfl⟩
  · rw [if_neg (by decide)] at HA
    rw [if_neg (by decide)] at HB
    rw [if_pos rfl] at HQ2
    rw [HQ2] at hr
    rw [HA] at hq ua
    rw [HB] at hq ub hpos
    have UA := ua
    have UB := ub
    clear HA HB HQ2 ua ub
    go_enter Try.func21, Try.ntmps21
    go_wp2_with fail
    refine (bit_any _ 63 _ (un_u64 a) (by omega)).mono ?_
    rintro e w1 ⟨rfl, rfl⟩
    go_wp2_with fail
    refine (bit_any _ 63 _ (un_u64 b) (by omega)).mono ?_
    rintro e w1 ⟨rfl, rfl⟩
    go_wp2_with fail
    refine (divide_v _ _ q _ UA UB hpos hq.out).mono ?_
    rintro e w1 ⟨rfl, rfl⟩
    go_wp2_with fail
    refine (bit_any _ 63 _ (un_u64 a) (by omega)).mono ?_
    rintro e w1 ⟨rfl, rfl⟩
    go_wp2_with fail
    refine (bit_any _ 63 _ (un_u64 b) (by omega)).mono ?_
    rintro e w1 ⟨rfl, rfl⟩
    go_wp2_with fail
    go_ret2
    exact ⟨by rw [← hr.out]; rfl, rfl⟩
  · rw [if_neg (by decide)] at HA
    rw [if_pos rfl] at HB
    rw [if_neg (by decide)] at HQ2
    rw [HQ2] at hr
    rw [HA] at hq ua
    rw [HB] at hq ub hpos
    have UA := ua
    have UB := ub
    clear HA HB HQ2 ua ub
    go_enter Try.func21, Try.ntmps21
    go_wp2_with fail
    refine (bit_any _ 63 _ (un_u64 a) (by omega)).mono ?_
    rintro e w1 ⟨rfl, rfl⟩
    go_wp2_with fail
    refine (bit_any _ 63 _ (un_u64 b) (by omega)).mono ?_
    rintro e w1 ⟨rfl, rfl⟩
    go_wp2_with fail
    refine (negative_any _ _ (un_u64 b)).mono ?_
    rintro e w1 ⟨rfl, rfl⟩
    go_wp2_with fail
    refine (divide_v _ _ q _ UA UB hpos hq.out).mono ?_
    rintro e w1 ⟨rfl, rfl⟩
    go_wp2_with fail
    refine (bit_any _ 63 _ (un_u64 a) (by omega)).mono ?_
    rintro e w1 ⟨rfl, rfl⟩
    go_wp2_with fail
    refine (bit_any _ 63 _ (un_u64 b) (by omega)).mono ?_
    rintro e w1 ⟨rfl, rfl⟩
    go_wp2_with fail
    refine (negative_any _ _ uq).mono ?_
    rintro e w1 ⟨rfl, rfl⟩
    go_wp2_with fail
    go_ret2
    exact ⟨by rw [← hr.out]; rfl, rfl⟩
  · rw [if_pos rfl] at HA
    rw [if_neg (by decide)] at HB
    rw [if_neg (by decide)] at HQ2
    rw [HQ2] at hr
    rw [HA] at hq ua
    rw [HB] at hq ub hpos
    have UA := ua
    have UB := ub
    clear HA HB HQ2 ua ub
    go_enter Try.func21, Try.ntmps21
    go_wp2_with fail
    refine (bit_any _ 63 _ (un_u64 a) (by omega)).mono ?_
    rintro e w1 ⟨rfl, rfl⟩
    go_wp2_with fail
    refine (negative_any _ _ (un_u64 a)).mono ?_
    rintro e w1 ⟨rfl, rfl⟩
    go_wp2_with fail
    refine (bit_any _ 63 _ (un_u64 b) (by omega)).mono ?_
    rintro e w1 ⟨rfl, rfl⟩
    go_wp2_with fail
    refine (divide_v _ _ q _ UA UB hpos hq.out).mono ?_
    rintro e w1 ⟨rfl, rfl⟩
    go_wp2_with fail
    refine (bit_any _ 63 _ (un_u64 a) (by omega)).mono ?_
    rintro e w1 ⟨rfl, rfl⟩
    go_wp2_with fail
    refine (bit_any _ 63 _ (un_u64 b) (by omega)).mono ?_
    rintro e w1 ⟨rfl, rfl⟩
    go_wp2_with fail
    refine (negative_any _ _ uq).mono ?_
    rintro e w1 ⟨rfl, rfl⟩
    go_wp2_with fail
    go_ret2
    exact ⟨by rw [← hr.out]; rfl, rfl⟩
  · rw [if_pos rfl] at HA
    rw [if_pos rfl] at HB
    rw [if_pos rfl] at HQ2
    rw [HQ2] at hr
    rw [HA] at hq ua
    rw [HB] at hq ub hpos
    have UA := ua
    have UB := ub
    clear HA HB HQ2 ua ub
    go_enter Try.func21, Try.ntmps21
    go_wp2_with fail
    refine (bit_any _ 63 _ (un_u64 a) (by omega)).mono ?_
    rintro e w1 ⟨rfl, rfl⟩
    go_wp2_with fail
    refine (negative_any _ _ (un_u64 a)).mono ?_
    rintro e w1 ⟨rfl, rfl⟩
    go_wp2_with fail
    refine (bit_any _ 63 _ (un_u64 b) (by omega)).mono ?_
    rintro e w1 ⟨rfl, rfl⟩
    go_wp2_with fail
    refine (negative_any _ _ (un_u64 b)).mono ?_
    rintro e w1 ⟨rfl, rfl⟩
    go_wp2_with fail
    refine (divide_v _ _ q _ UA UB hpos hq.out).mono ?_
    rintro e w1 ⟨rfl, rfl⟩
    go_wp2_with fail
    refine (bit_any _ 63 _ (un_u64 a) (by omega)).mono ?_
    rintro e w1 ⟨rfl, rfl⟩
    go_wp2_with fail
    refine (bit_any _ 63 _ (un_u64 b) (by omega)).mono ?_
    rintro e w1 ⟨rfl, rfl⟩
    go_wp2_with fail
    go_ret2
    exact ⟨by rw [← hr.out]; rfl, rfl⟩
end Go.Proofs.Ythjplghkfijelaa
