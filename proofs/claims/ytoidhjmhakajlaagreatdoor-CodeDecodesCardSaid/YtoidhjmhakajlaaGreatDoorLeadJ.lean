/- leading: the number that bytes begin with. -/
import Derived.Test.YtoidhjmhakajlaaGreatDoorZigJ
namespace Go.Proofs.YtoidhjmhakajlaaGreatDoor
open Go.ChangeShapes Go.WideShapes Go.RowKit Go.Deep
set_option linter.unusedVariables false

def RByte (w : World) (b o : Nat) (x : UInt8) : Prop := w.cell? ⟨b, o, none⟩ = some (bv x)
def leadV (l : List UInt8) : Nat × Nat := (leadK 0 l).getD (0, 0)

set_option maxRecDepth 100000 in
theorem isTooLong_any (c : Nat) (i : Nat) (w : World) (b : Bool) (hc : c < 256) (hi : i < 10) (hb : b = decide (c = 0 ∧ 0 < i)) :
    Calls Tryz.prog 147 #[.int .u8 c, .int .i64 i] w fun e w' => e = .returned (.bool b) ∧ w = w' := by
  by_cases h0 : c = 0
  · by_cases h1 : 0 < i
    · have h1' : decide ((0 : Int) < i) = true := by simp; omega
      have hB : b = true := by rw [hb]; simp; omega
      subst h0 hB
      clear hb
      go_enter Tryz.func147, Tryz.ntmps147
      go_wp2_with fail
      go_ret
      exact ⟨rfl, rfl⟩
    · have h1' : decide ((0 : Int) < i) = false := by simp; omega
      have hB : b = false := by rw [hb]; simp; omega
      subst h0 hB
      clear hb
      go_enter Tryz.func147, Tryz.ntmps147
      go_wp2_with fail
      go_ret
      exact ⟨rfl, rfl⟩
  · have h1' : ((c : Int) == 0) = false := by simp [h0]
    have hB : b = false := by rw [hb]; simp [h0]
    subst hB
    clear hb h0
    go_enter Tryz.func147, Tryz.ntmps147
    go_wp2_with fail
    go_ret
    exact ⟨rfl, rfl⟩
set_option maxRecDepth 100000 in
theorem isTooGreat_any (c : Nat) (i : Nat) (w : World) (b : Bool) (hc : c < 256) (hi : i < 10) (hb : b = decide (i = 9 ∧ 1 < c)) :
    Calls Tryz.prog 148 #[.int .u8 c, .int .i64 i] w fun e w' => e = .returned (.bool b) ∧ w = w' := by
  by_cases h0 : i = 9
  · by_cases h1 : 1 < c
    · have h1' : decide ((1 : Int) < c) = true := by simp; omega
      have hB : b = true := by rw [hb]; simp; omega
      subst h0 hB
      clear hb
      go_enter Tryz.func148, Tryz.ntmps148
      go_wp2_with fail
      go_ret
      exact ⟨rfl, rfl⟩
    · have h1' : decide ((1 : Int) < c) = false := by simp; omega
      have hB : b = false := by rw [hb]; simp; omega
      subst h0 hB
      clear hb
      go_enter Tryz.func148, Tryz.ntmps148
      go_wp2_with fail
      go_ret
      exact ⟨rfl, rfl⟩
  · have h1' : ((i : Int) == 9) = false := by simp; omega
    have hB : b = false := by rw [hb]; simp [h0]
    subst hB
    clear hb h0
    go_enter Tryz.func148, Tryz.ntmps148
    go_wp2_with fail
    go_ret
    exact ⟨rfl, rfl⟩

theorem andNot_fin : ∀ m : Fin 256, bits .andNot .u8 (m.val : Int) 128 = ((m.val % 128 : Nat) : Int) := by decide +kernel
theorem bits_or (x y : Int) : bits .or .u64 x y = ((BitVec.ofInt 64 x ||| BitVec.ofInt 64 y).toNat : Int) % 18446744073709551616 := by
  show IntKind.u64.wrap ((BitVec.ofInt 64 x ||| BitVec.ofInt 64 y).toNat : Int) = _
  exact wrapU _
/-- The number that k bytes make, and one more. -/
def orV (acc k : Nat) (x : UInt8) : Int := bits .or .u64 acc (IntKind.u64.wrap (IntKind.u64.wrap (bits .andNot .u8 x.toNat 128) * 2 ^ (7 * k)))
theorem orV_nat (acc k : Nat) (x : UInt8) : ∃ n : Nat, orV acc k x = n ∧ n < 18446744073709551616 := by
  unfold orV
  rw [bits_or]
  exact ⟨((BitVec.ofInt 64 (acc : Int) ||| BitVec.ofInt 64 (IntKind.u64.wrap (IntKind.u64.wrap (bits .andNot .u8 x.toNat 128) * 2 ^ (7 * k)))).toNat) % 18446744073709551616, by omega, by omega⟩
theorem pow_128 (k : Nat) : 2 ^ (7 * k) = 128 ^ k := by rw [Nat.pow_mul]
theorem pow_le {k : Nat} (h : k ≤ 9) : 128 ^ k ≤ 9223372036854775808 := by
  have : 128 ^ k ≤ 128 ^ 9 := Nat.pow_le_pow_right (by decide) h
  omega
theorem orV_eq {acc k : Nat} {x : UInt8} (hk : k ≤ 9) (ha : acc < 128 ^ k) (hx : k = 9 → x.toNat < 2) : orV acc k x = ((acc + x.toNat % 128 * 128 ^ k : Nat) : Int) := by
  have hxx := x.toNat_lt
  have h1 := andNot_fin ⟨x.toNat, hxx⟩
  dsimp only at h1
  have hp := pow_le hk
  have hfit : x.toNat % 128 * 128 ^ k < 18446744073709551616 := by
    rcases Nat.lt_or_ge k 9 with h | h
    · have h8 : 128 ^ k ≤ 128 ^ 8 := Nat.pow_le_pow_right (by decide) (by omega)
      have : x.toNat % 128 * 128 ^ k ≤ 127 * 128 ^ 8 := Nat.mul_le_mul (by omega) h8
      omega
    · obtain rfl : k = 9 := by omega
      have := hx rfl
      have : x.toNat % 128 * 128 ^ 9 ≤ 1 * 128 ^ 9 := Nat.mul_le_mul_right _ (by omega)
      omega
  unfold orV
  rw [h1, wrapU, wrapU, show ((x.toNat % 128 : Nat) : Int) % 18446744073709551616 = ((x.toNat % 128 : Nat) : Int) by omega]
  have h2 : ((x.toNat % 128 : Nat) : Int) * 2 ^ (7 * k) = ((x.toNat % 128 * 128 ^ k : Nat) : Int) := by rw [← pow_128]; simp
  rw [h2, show ((x.toNat % 128 * 128 ^ k : Nat) : Int) % 18446744073709551616 = ((x.toNat % 128 * 128 ^ k : Nat) : Int) by omega, bits_or, BitVec.toNat_or, BitVec.toNat_ofInt, BitVec.toNat_ofInt]
  have e1 : ((acc : Int) % ((2 ^ 64 : Nat) : Int)).toNat = acc := by omega
  have e2 : (((x.toNat % 128 * 128 ^ k : Nat) : Int) % ((2 ^ 64 : Nat) : Int)).toNat = x.toNat % 128 * 128 ^ k := by omega
  rw [e1, e2]
  have e3 : acc ||| x.toNat % 128 * 128 ^ k = acc + x.toNat % 128 * 128 ^ k := by
    rw [← pow_128] at ha ⊢
    rw [Nat.or_comm, Nat.mul_comm, ← Nat.two_pow_add_eq_or_of_lt ha, Nat.add_comm]
  rw [e3]
  have h3 : acc + x.toNat % 128 * 128 ^ k < 18446744073709551616 := by
    rcases Nat.lt_or_ge k 9 with h | h
    · have h8 : 128 ^ k ≤ 128 ^ 8 := Nat.pow_le_pow_right (by decide) (by omega)
      have : x.toNat % 128 * 128 ^ k ≤ 127 * 128 ^ 8 := Nat.mul_le_mul (by omega) h8
      omega
    · obtain rfl : k = 9 := by omega
      have := hx rfl
      have : x.toNat % 128 * 128 ^ 9 ≤ 1 * 128 ^ 9 := Nat.mul_le_mul_right _ (by omega)
      omega
  omega

/-- What holds when k bytes have been looked at. -/
def LeadI (l : List UInt8) (k acc : Nat) : Prop := acc < 18446744073709551616 ∧ (k ≤ 9 → acc < 128 ^ k ∧ leadK 0 l = (leadK k (l.drop k)).map fun p => (acc + 128 ^ k * p.1, k + p.2)) ∧ (9 < k → leadK 0 l = none)
theorem LeadI.zero (l : List UInt8) : LeadI l 0 0 := ⟨by decide, fun _ => ⟨by decide, by simp⟩, fun h => absurd h (by omega)⟩
theorem leadK_ten (l : List UInt8) : leadK 10 l = none := by cases l <;> simp [leadK]
theorem drop_at {l : List UInt8} {k : Nat} {x : UInt8} (h : l[k]? = some x) : l.drop k = x :: l.drop (k + 1) := by
  obtain ⟨hk, rfl⟩ := List.getElem?_eq_some_iff.1 h
  exact List.drop_eq_getElem_cons hk
theorem LeadI.next {l : List UInt8} {k acc : Nat} {x : UInt8} (h : LeadI l k acc) (hx : l[k]? = some x) (hk : k ≤ 9) (h1 : 128 ≤ x.toNat) : ∃ n : Nat, orV acc k x = n ∧ LeadI l (k + 1) n := by
  obtain ⟨n, hn, hlt⟩ := orV_nat acc k x
  obtain ⟨h2, h3, h4⟩ := h
  obtain ⟨h5, h6⟩ := h3 hk
  have hxx := x.toNat_lt
  rw [drop_at hx] at h6
  simp only [leadK] at h6
  rw [if_neg (by omega), if_pos h1, Option.map_map] at h6
  refine ⟨n, hn, hlt, fun hk1 => ?_, fun hk1 => ?_⟩
  · have e := orV_eq hk h5 (fun e => absurd e (by omega)) (x := x)
    have hn2 : n = acc + x.toNat % 128 * 128 ^ k := by rw [hn] at e; omega
    have hm : x.toNat % 128 = x.toNat - 128 := by omega
    refine ⟨?_, ?_⟩
    · have : x.toNat % 128 * 128 ^ k ≤ 127 * 128 ^ k := Nat.mul_le_mul_right _ (by omega)
      rw [Nat.pow_succ]; omega
    · rw [h6]
      congr 1
      funext p
      simp only [Function.comp, Prod.mk.injEq]
      refine ⟨?_, by omega⟩
      rw [hn2, hm, Nat.pow_succ, Nat.mul_add, Nat.mul_comm (x.toNat - 128), Nat.mul_assoc (128 ^ k), Nat.add_assoc]
  · obtain rfl : k = 9 := by omega
    rw [h6, leadK_ten]; rfl
theorem LeadI.done {l : List UInt8} {k acc : Nat} {x : UInt8} (h : LeadI l k acc) (hx : l[k]? = some x) (hk : k ≤ 9) (h1 : x.toNat < 128) (ht : ¬ (x.toNat = 0 ∧ 0 < k)) (hg : ¬ (k = 9 ∧ 1 < x.toNat)) :
    orV acc k x = ((leadV l).1 : Int) ∧ (leadV l).2 = k + 1 := by
  obtain ⟨h2, h3, h4⟩ := h
  obtain ⟨h5, h6⟩ := h3 hk
  rw [drop_at hx] at h6
  simp only [leadK] at h6
  rw [if_neg (by omega), if_neg (by omega), if_neg (by omega)] at h6
  have e := orV_eq hk h5 (fun e => by omega) (x := x)
  unfold leadV
  rw [h6, e]
  simp only [Option.map_some, Option.getD_some]
  refine ⟨?_, trivial⟩
  rw [Nat.mod_eq_of_lt h1, Nat.mul_comm]
theorem LeadI.bad {l : List UInt8} {k acc : Nat} {x : UInt8} (h : LeadI l k acc) (hx : l[k]? = some x) (hk : k ≤ 9) (h1 : x.toNat < 128) (ht : (x.toNat = 0 ∧ 0 < k) ∨ (k = 9 ∧ 1 < x.toNat)) : leadV l = (0, 0) := by
  obtain ⟨h2, h3, h4⟩ := h
  obtain ⟨h5, h6⟩ := h3 hk
  rw [drop_at hx] at h6
  simp only [leadK] at h6
  rw [if_neg (by omega), if_neg (by omega), if_pos ht] at h6
  unfold leadV; rw [h6]; rfl
theorem LeadI.stop {l : List UInt8} {k acc : Nat} (h : LeadI l k acc) (hk : l.length ≤ k ∨ 9 < k) : leadV l = (0, 0) := by
  obtain ⟨h2, h3, h4⟩ := h
  unfold leadV
  rcases Nat.lt_or_ge 9 k with h9 | h9
  · rw [h4 h9]; rfl
  · rw [(h3 h9).2, List.drop_eq_nil_of_le (by omega)]; rfl

set_option maxRecDepth 100000 in
set_option maxHeartbeats 2000000 in
theorem leading_any (l : List UInt8) (A : Option Addr) (c : Nat) (w : World) (hl : SL w 1 RByte A c l) :
    Calls Tryz.prog 129 #[.slice A l.length c] w fun e w' => e = .returned (.tuple #[.int .u64 (leadV l).1, .int .i64 (leadV l).2]) ∧ w = w' := by
  have hll := hl.len
  have hc := hl.1
  go_enter Tryz.func129, Tryz.ntmps129
  go_wp2_with fail
  · have hgt : 10 < l.length := by omega
    rw [show max (10 : Int) 0 = 10 by decide]
    go_loop [4, 13] (fun n i => ∃ k acc : Nat, k ≤ 10 ∧ i = .int .i64 k ∧ n = .int .u64 acc ∧ Hid (LeadI l k acc)) (fun _ i => 10 - (intOf i).toNat)
    case atStart => exact ⟨0, 0, by omega, rfl, rfl, Lib.hid (LeadI.zero l)⟩
    case round =>
      obtain ⟨k, acc, hk, rfl, rfl, hI⟩ := hrel
      by_cases hlt : k < 10
      · obtain ⟨b, o, x, rfl, hx, hcx⟩ := hl.at_ (k := k) (by omega)
        rw [Nat.mul_one] at hcx
        unfold RByte bv at hcx
        have hxx : x.toNat < 256 := x.toNat_lt
        have HA := Lib.hid hI.out.1
        have hk9 : k ≤ 9 := by omega
        by_cases h1 : 128 ≤ x.toNat
        · obtain ⟨n, hn, hI2⟩ := hI.out.next hx.out hk9 h1
          have HN := Lib.hid hn
          have HI2 := Lib.hid hI2
          clear hn hI2
          go_wp2_with fail
          go_round
          case rel => exact ⟨k + 1, n, by omega, by go_num, congrArg (Value.int .u64) HN.out, HI2⟩
          case measure => simp [intOf]; omega
        · have h1' : x.toNat < 128 := by omega
          by_cases h2 : x.toNat = 0 ∧ 0 < k
          · have HZ := Lib.hid (hI.out.bad hx.out hk9 h1' (.inl h2))
            have HT : Hid (true = decide (x.toNat = 0 ∧ 0 < k)) := Lib.hid (by simp [h2])
            clear h2
            go_wp2_with fail
            refine (isTooLong_any x.toNat k _ true hxx (by omega) HT.out).mono ?_
            rintro e w' ⟨rfl, rfl⟩
            go_wp2_with fail
            go_ret2
            exact ⟨by rw [HZ.out]; rfl, rfl⟩
          · have HT : Hid (false = decide (x.toNat = 0 ∧ 0 < k)) := Lib.hid (by simp [h2])
            by_cases h3 : k = 9 ∧ 1 < x.toNat
            · have HZ := Lib.hid (hI.out.bad hx.out hk9 h1' (.inr h3))
              have HG : Hid (true = decide (k = 9 ∧ 1 < x.toNat)) := Lib.hid (by simp [h3])
              clear h2 h3
              go_wp2_with fail
              refine (isTooLong_any x.toNat k _ false hxx (by omega) HT.out).mono ?_
              rintro e w' ⟨rfl, rfl⟩
              go_wp2_with fail
              refine (isTooGreat_any x.toNat k _ true hxx (by omega) HG.out).mono ?_
              rintro e w' ⟨rfl, rfl⟩
              go_wp2_with fail
              go_ret2
              exact ⟨by rw [HZ.out]; rfl, rfl⟩
            · have HG : Hid (false = decide (k = 9 ∧ 1 < x.toNat)) := Lib.hid (by simp [h3])
              have HD := Lib.hid (hI.out.done hx.out hk9 h1' h2 h3)
              clear h2 h3
              go_wp2_with fail
              refine (isTooLong_any x.toNat k _ false hxx (by omega) HT.out).mono ?_
              rintro e w' ⟨rfl, rfl⟩
              go_wp2_with fail
              refine (isTooGreat_any x.toNat k _ false hxx (by omega) HG.out).mono ?_
              rintro e w' ⟨rfl, rfl⟩
              go_wp2_with fail
              go_ret2
              exact ⟨by rw [← HD.out.1, HD.out.2]; rfl, rfl⟩
      · have HZ := Lib.hid (hI.out.stop (by omega))
        go_wp2_with fail
        go_ret2
        exact ⟨by rw [HZ.out]; rfl, rfl⟩
  · have h10 : l.length ≤ 10 := by omega
    go_loop [4, 13] (fun n i => ∃ k acc : Nat, k ≤ l.length ∧ i = .int .i64 k ∧ n = .int .u64 acc ∧ Hid (LeadI l k acc)) (fun _ i => l.length - (intOf i).toNat)
    case atStart => exact ⟨0, 0, by omega, rfl, rfl, Lib.hid (LeadI.zero l)⟩
    case round =>
      obtain ⟨k, acc, hk, rfl, rfl, hI⟩ := hrel
      by_cases hlt : k < l.length
      · obtain ⟨b, o, x, rfl, hx, hcx⟩ := hl.at_ (k := k) (by omega)
        rw [Nat.mul_one] at hcx
        unfold RByte bv at hcx
        have hxx : x.toNat < 256 := x.toNat_lt
        have HA := Lib.hid hI.out.1
        have hk9 : k ≤ 9 := by omega
        by_cases h1 : 128 ≤ x.toNat
        · obtain ⟨n, hn, hI2⟩ := hI.out.next hx.out hk9 h1
          have HN := Lib.hid hn
          have HI2 := Lib.hid hI2
          clear hn hI2
          go_wp2_with fail
          go_round
          case rel => exact ⟨k + 1, n, by omega, by go_num, congrArg (Value.int .u64) HN.out, HI2⟩
          case measure => simp [intOf]; omega
        · have h1' : x.toNat < 128 := by omega
          by_cases h2 : x.toNat = 0 ∧ 0 < k
          · have HZ := Lib.hid (hI.out.bad hx.out hk9 h1' (.inl h2))
            have HT : Hid (true = decide (x.toNat = 0 ∧ 0 < k)) := Lib.hid (by simp [h2])
            clear h2
            go_wp2_with fail
            refine (isTooLong_any x.toNat k _ true hxx (by omega) HT.out).mono ?_
            rintro e w' ⟨rfl, rfl⟩
            go_wp2_with fail
            go_ret2
            exact ⟨by rw [HZ.out]; rfl, rfl⟩
          · have HT : Hid (false = decide (x.toNat = 0 ∧ 0 < k)) := Lib.hid (by simp [h2])
            by_cases h3 : k = 9 ∧ 1 < x.toNat
            · have HZ := Lib.hid (hI.out.bad hx.out hk9 h1' (.inr h3))
              have HG : Hid (true = decide (k = 9 ∧ 1 < x.toNat)) := Lib.hid (by simp [h3])
              clear h2 h3
              go_wp2_with fail
              refine (isTooLong_any x.toNat k _ false hxx (by omega) HT.out).mono ?_
              rintro e w' ⟨rfl, rfl⟩
              go_wp2_with fail
              refine (isTooGreat_any x.toNat k _ true hxx (by omega) HG.out).mono ?_
              rintro e w' ⟨rfl, rfl⟩
              go_wp2_with fail
              go_ret2
              exact ⟨by rw [HZ.out]; rfl, rfl⟩
            · have HG : Hid (false = decide (k = 9 ∧ 1 < x.toNat)) := Lib.hid (by simp [h3])
              have HD := Lib.hid (hI.out.done hx.out hk9 h1' h2 h3)
              clear h2 h3
              go_wp2_with fail
              refine (isTooLong_any x.toNat k _ false hxx (by omega) HT.out).mono ?_
              rintro e w' ⟨rfl, rfl⟩
              go_wp2_with fail
              refine (isTooGreat_any x.toNat k _ false hxx (by omega) HG.out).mono ?_
              rintro e w' ⟨rfl, rfl⟩
              go_wp2_with fail
              go_ret2
              exact ⟨by rw [← HD.out.1, HD.out.2]; rfl, rfl⟩
      · have HZ := Lib.hid (hI.out.stop (by omega))
        go_wp2_with fail
        go_ret2
        exact ⟨by rw [HZ.out]; rfl, rfl⟩
end Go.Proofs.YtoidhjmhakajlaaGreatDoor
