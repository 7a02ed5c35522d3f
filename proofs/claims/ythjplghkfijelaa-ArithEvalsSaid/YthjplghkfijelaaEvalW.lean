/- The document's Eval, and the walks of ArithTwo and ArithEvals. -/
import Derived.Test.YthjplghkfijelaaTwoW
import Derived.Test.YthjplghkfijelaaKindsW
import Derived.Test.YthjplghkfijelaaStaysW
namespace Go.Proofs.Ythjplghkfijelaa
open Go.ChangeShapes Go.WideShapes Go.ChangeAt Go.RowKit

theorem refTwo_any (op a b : Int) (w : World) (h3 : 3 ≤ op) (h13 : op ≤ 13) (hz : op = 11 → (b == 0) = false) (ha : Hid (-9223372036854775808 ≤ a ∧ a ≤ 9223372036854775807)) (hb : Hid (-9223372036854775808 ≤ b ∧ b ≤ 9223372036854775807)) :
    Calls Try.prog 21 #[.int .i64 op, .int .i64 a, .int .i64 b] w fun e w' => e = .returned (.tuple #[.int .i64 (two op a b), .bool true]) ∧ w' = w := by
  have hor : op = 3 ∨ op = 4 ∨ op = 5 ∨ (op = 6 ∨ op = 7 ∨ op = 8) ∨ op = 9 ∨ op = 10 ∨ op = 11 ∨ op = 12 ∨ op = 13 := by omega
  rcases hor with rfl | rfl | rfl | h | rfl | rfl | rfl | rfl | rfl
  · exact (refTwo_add a b w).mono fun _ _ h => ⟨h.1, h.2.symm⟩
  · exact (refTwo_sub a b w).mono fun _ _ h => ⟨h.1, h.2.symm⟩
  · exact (refTwo_mul a b w).mono fun _ _ h => ⟨h.1, h.2.symm⟩
  · refine (refTwo_bits op a b w h ?_ ?_).mono fun _ _ h => ⟨h.1, h.2.symm⟩
    · rcases h with rfl | rfl | rfl
      · exact ref_and a b
      · exact ref_or a b
      · exact ref_xor a b
    · intro k
      rcases h with rfl | rfl | rfl
      · show bt (un a &&& un b) k = _
        rw [bt_and]; simp
      · show bt (un a ||| un b) k = _
        rw [bt_or]; simp
      · show bt (un a ^^^ un b) k = _
        rw [bt_xor]; simp
  · exact (refTwo_shl a b w).mono fun _ _ h => ⟨h.1, h.2.symm⟩
  · exact (refTwo_shr a b w ha).mono fun _ _ h => ⟨h.1, h.2.symm⟩
  · exact (refTwo_quo a b w ha hb (hz rfl)).mono fun _ _ h => ⟨h.1, h.2.symm⟩
  · exact (refTwo_lt a b w ha hb).mono fun _ _ h => ⟨h.1, h.2.symm⟩
  · exact (refTwo_eq a b w ha hb).mono fun _ _ h => ⟨h.1, h.2.symm⟩

theorem refEval_two (op a b : Int) (k off cap : Nat) (w : World) (h3 : 3 ≤ op) (h13 : op ≤ 13) (hz : op = 11 → (b == 0) = false) (ha : Hid (-9223372036854775808 ≤ a ∧ a ≤ 9223372036854775807)) (hb : Hid (-9223372036854775808 ≤ b ∧ b ≤ 9223372036854775807))
    (hc0 : w.cell? ⟨k, off, none⟩ = some (.int .i64 a)) (hc1 : w.cell? ⟨k, off + 1, none⟩ = some (.int .i64 b)) :
    Calls Try.prog 17 #[.int .i64 op, .slice (some ⟨k, off, none⟩) 2 cap] w fun e w' => e = .returned (.tuple #[.int .i64 (two op a b), .bool true]) ∧ Drawn w w' := by
  have HZ := Lib.hid hz
  clear hz
  have h2 : (op == 2) = false := by simp; omega
  have h14 : (op == 14) = false := by simp; omega
  go_enter Try.func17, Try.ntmps17
  go_wp2_with fail
  go_quiet ((go_at_call 21; refine Calls.quiet_of_same (refTwo_any _ _ _ _ ?_ ?_ ?_ ha hb) <;> first | omega | exact HZ.out))
  go_wp2
  go_ret2
  exact ⟨rfl, _, rfl⟩

theorem refEval_div0 (a : Int) (k off cap : Nat) (w : World) (hc0 : w.cell? ⟨k, off, none⟩ = some (.int .i64 a)) (hc1 : w.cell? ⟨k, off + 1, none⟩ = some (.int .i64 0)) :
    Calls Try.prog 17 #[.int .i64 11, .slice (some ⟨k, off, none⟩) 2 cap] w fun e w' => e = .returned (.tuple #[.int .i64 0, .bool false]) ∧ Drawn w w' := by
  go_enter Try.func17, Try.ntmps17
  go_wp2_with fail
  go_quiet ((go_at_call 21; exact Calls.quiet_of_same ((refTwo_div0 _ _).mono fun _ _ h => ⟨h.1, h.2.symm⟩)))
  go_wp2
  go_ret2
  exact ⟨rfl, _, rfl⟩

theorem refEval_copy (a : Int) (k off cap : Nat) (w : World) (hc0 : w.cell? ⟨k, off, none⟩ = some (.int .i64 a)) :
    Calls Try.prog 17 #[.int .i64 2, .slice (some ⟨k, off, none⟩) 1 cap] w fun e w' => e = .returned (.tuple #[.int .i64 (one 2 a), .bool true]) ∧ w = w' := by
  go_enter Try.func17, Try.ntmps17
  go_wp2_with fail
  go_ret2
  exact ⟨rfl, rfl⟩

theorem ref_not (a : Int) : wrap64 ((sm 1 (comp (un a)) 1 : Nat) : Int) = one 14 a := by
  show _ = wrap64 (1 - a)
  have h1 := un_cast a
  unfold sm comp wrap64
  omega
theorem refEval_not (a : Int) (k off cap : Nat) (w : World) (hc0 : w.cell? ⟨k, off, none⟩ = some (.int .i64 a)) :
    Calls Try.prog 17 #[.int .i64 14, .slice (some ⟨k, off, none⟩) 1 cap] w fun e w' => e = .returned (.tuple #[.int .i64 (one 14 a), .bool true]) ∧ w = w' := by
  have hx := un_val a
  have hc := comp_val (un a) (un_u64 a)
  have hr := Lib.hid (ref_not a)
  go_enter Try.func17, Try.ntmps17
  go_wp2_with fail
  refine (add_all 1 (comp (un a)) 1 _ (by unfold U64; decide) (comp_u64 _) (by omega)).mono ?_
  rintro e w1 ⟨rfl, rfl⟩
  go_wp2_with fail
  go_ret2
  exact ⟨by rw [← hr.out]; rfl, rfl⟩

set_option maxRecDepth 100000 in
set_option maxHeartbeats 1000000 in
theorem two_walk (a b : Int) (w : World) (wa : (Lit.int .i64 a).wf = true) (wb : (Lit.int .i64 b).wf = true) :
    Calls Try.prog 5 #[.int .i64 a, .int .i64 b] w fun e w' => e = .returned (.bool true) ∧ Below w.heap.size w w' := by
  have ha := Lib.hid (bounds_i64 wa)
  have hb := Lib.hid (bounds_i64 wb)
  clear wa wb
  go_enter Try.func5, Try.ntmps5
  go_wp2_with fail
  refine (up_any _).mono ?_
  rintro e w1 ⟨rfl, hb1⟩
  go_wp2_with fail
  go_loopw [6] (fun i wr => ∃ k : Nat, 3 ≤ k ∧ k ≤ 14 ∧ i = .int .i64 k ∧ Below w.heap.size w wr) (fun i _ => 14 - (intOf i).toNat)
  case atStart => exact ⟨3, by omega, by omega, rfl, hb1⟩
  case round =>
    clear hb1
    obtain ⟨k, hk3, hk14, rfl, hb1⟩ := hrel
    have hs := hb1.size
    by_cases hlt : k < 14
    · by_cases h11 : k = 11 ∧ b = 0
      · obtain ⟨rfl, rfl⟩ := h11
        go_wp2_with fail
        refine (eval_div0 _ 0 _ _ (new_cell (by simp) rfl)).mono ?_
        rintro e w3 ⟨rfl, rfl⟩
        go_wp2_with fail
        refine (refEval_div0 a _ 0 _ _ (new_cell (by simp) rfl) (new_cell (by simp) rfl)).mono ?_
        rintro e w3 ⟨rfl, n2, rfl⟩
        go_wp2_with fail
        go_roundw
        case rel =>
          refine ⟨12, by omega, by omega, by go_num, ?_⟩
          repeat first | exact hb1 | refine below_drewN ?_ _ | refine Below.alloc ?_ (by first | exact hs | (simp; omega)) _
        case measure => simp [intOf]
      · have HZ : Hid ((k : Int) = 11 → (b == 0) = false) := fun h => by simp; omega
        clear h11
        go_wp2_with fail
        refine (eval_two k a b _ 0 _ _ (by omega) (by omega) HZ.out (new_cell (by simp) rfl) (new_cell (by simp) rfl)).mono ?_
        rintro e w3 ⟨rfl, n1, rfl⟩
        go_wp2_with fail
        refine (refEval_two k a b _ 0 _ _ (by omega) (by omega) HZ.out ha hb (new_cell (by simp) rfl) (new_cell (by simp) rfl)).mono ?_
        rintro e w3 ⟨rfl, n2, rfl⟩
        go_wp2_with fail
        go_roundw
        case rel =>
          refine ⟨k + 1, by omega, by omega, by go_num, ?_⟩
          repeat first | exact hb1 | refine below_drewN ?_ _ | refine Below.alloc ?_ (by first | exact hs | (simp; omega)) _
        case measure => simp [intOf]; omega
    · obtain rfl : k = 14 := by omega
      go_wp2_with fail
      go_ret
      exact ⟨rfl, hb1⟩

set_option maxHeartbeats 1000000 in
theorem evals_walk (op : Int) (p : Option Addr) (len cap : Nat) (zs : List Int) (w : World)
    (hp : (p = none ∧ len = 0 ∧ cap = 0 ∧ zs = []) ∨
      ∃ x, p = some x ∧ len ≤ cap ∧ cap ≤ maxLen ∧ zs.length = cap ∧ (∀ i, i < zs.length → w.cell? (x.add i) = some (.int .i64 (zs.getD i 0))) ∧ ∀ n ∈ zs, (Lit.int .i64 n).wf = true) :
    Calls Try.prog 4 #[.int .i64 op, .slice p len cap] w fun e w' => e = .returned (.bool true) ∧ Below w.heap.size w w' := by
  have hcap : len ≤ maxLen := by
    rcases hp with ⟨_, rfl, _⟩ | ⟨_, _, h1, h2, _⟩
    · omega
    · omega
  unfold maxLen at hcap
  by_cases hlen : len > 100
  · go_enter Try.func4, Try.ntmps4
    go_wp2_with fail
    refine (up_any _).mono ?_
    rintro e w1 ⟨rfl, hb⟩
    go_wp2_with fail
    go_ret
    exact ⟨rfl, hb⟩
  · have he := eqlErr
    by_cases hk : known op = true
    · by_cases hl : ((len : Int) != arity op) = true
      · have hra : refArity op = arity op := by unfold refArity; rw [if_pos hk]
        have hnn : (0 : Int) ≤ arity op := by
          unfold arity
          split
          · decide
          · split <;> decide
        have hl2 : ((arity op) != (len : Int)) = true := by rw [bne_comm]; exact hl
        go_enter Try.func4, Try.ntmps4
        go_wp2_with fail
        refine (up_any _).mono ?_
        rintro e w1 ⟨rfl, hb⟩
        go_wp2_with fail
        refine (eval_count op _ len cap _ hk hl).mono ?_
        rintro e w2 ⟨rfl, rfl⟩
        go_wp2_with fail
        refine (refArgs_any op _).mono ?_
        rintro e w2 ⟨rfl, rfl⟩
        go_wp2_with fail
        go_ret
        exact ⟨rfl, hb⟩
      · have hl' : (len : Int) = arity op := by simpa using hl
        unfold known at hk
        simp only [decide_eq_true_eq] at hk
        have hra : refArity op = arity op := by unfold refArity known; rw [if_pos (by simpa using hk)]
        have hpos : 0 < len := by
          have : 1 ≤ arity op := by
            unfold arity
            split
            · decide
            · rw [if_pos (by omega)]; decide
          omega
        obtain ⟨b, off, rfl, hcs⟩ : ∃ b off, p = some ⟨b, off, none⟩ ∧ ∀ i, i < len → ∃ v : Int, b < w.heap.size ∧ w.cell? ⟨b, off + i, none⟩ = some (.int .i64 v) ∧ (-9223372036854775808 ≤ v ∧ v ≤ 9223372036854775807) := by
          rcases hp with ⟨_, rfl, _⟩ | ⟨⟨b, off, spot⟩, rfl, h1, h2, hz, hcell, hwz⟩
          · omega
          · have hspot : spot = none := by simpa [Addr.add] using World.cell?_spot (hcell 0 (by omega))
            subst hspot
            refine ⟨b, off, rfl, fun i hi => ⟨zs.getD i 0, ?_⟩⟩
            have hc := hcell i (by omega)
            rw [add_at] at hc
            refine ⟨block_lt_of_cell hc, hc, bounds_i64 (hwz _ ?_)⟩
            rw [List.getD_eq_getElem?_getD, List.getElem?_eq_getElem (by omega)]
            exact List.getElem_mem _
        clear hp hl hlen hcap
        by_cases h1 : op = 2 ∨ op = 14
        · have e1 : arity op = 1 := by unfold arity; rw [if_pos h1]
          obtain rfl : len = 1 := by omega
          obtain ⟨v, hblk, c0, hv⟩ := hcs 0 (by omega)
          have H0 := Lib.hid c0
          rw [e1] at hra
          clear hcs hl' hpos e1 hk hv c0
          rcases h1 with rfl | rfl
          · go_enter Try.func4, Try.ntmps4
            go_wp2_with fail
            refine (up_any _).mono ?_
            rintro e w1 ⟨rfl, hb⟩
            have c1 : w1.cell? ⟨b, off, none⟩ = some (.int .i64 v) := (hb.cell (p := ⟨b, off, none⟩) hblk).trans H0.out
            go_wp2_with fail
            refine (eval_one 2 v b off cap _ (.inl rfl) c1).mono ?_
            rintro e w2 ⟨rfl, rfl⟩
            go_wp2_with fail
            refine (refArgs_any 2 _).mono ?_
            rintro e w2 ⟨rfl, rfl⟩
            go_wp2_with fail
            refine (refEval_copy v b off cap _ c1).mono ?_
            rintro e w2 ⟨rfl, rfl⟩
            go_wp2_with fail
            go_ret
            exact ⟨rfl, hb⟩
          · go_enter Try.func4, Try.ntmps4
            go_wp2_with fail
            refine (up_any _).mono ?_
            rintro e w1 ⟨rfl, hb⟩
            have c1 : w1.cell? ⟨b, off, none⟩ = some (.int .i64 v) := (hb.cell (p := ⟨b, off, none⟩) hblk).trans H0.out
            go_wp2_with fail
            refine (eval_one 14 v b off cap _ (.inr rfl) c1).mono ?_
            rintro e w2 ⟨rfl, rfl⟩
            go_wp2_with fail
            refine (refArgs_any 14 _).mono ?_
            rintro e w2 ⟨rfl, rfl⟩
            go_wp2_with fail
            refine (refEval_not v b off cap _ c1).mono ?_
            rintro e w2 ⟨rfl, rfl⟩
            go_wp2_with fail
            go_ret
            exact ⟨rfl, hb⟩
        · have e1 : arity op = 2 := by unfold arity; rw [if_neg h1, if_pos (by omega)]
          obtain rfl : len = 2 := by omega
          obtain ⟨v, hblk, c0, hv⟩ := hcs 0 (by omega)
          obtain ⟨u, _, c1, hu⟩ := hcs 1 (by omega)
          have H0 := Lib.hid c0
          have H1 := Lib.hid c1
          have HV := Lib.hid hv
          have HU := Lib.hid hu
          rw [e1] at hra
          have g1 : 3 ≤ op := by omega
          have g2 : op ≤ 13 := by omega
          clear hcs hl' hpos e1 hk hv hu c0 c1 h1
          by_cases h11 : op = 11 ∧ u = 0
          · obtain ⟨rfl, rfl⟩ := h11
            go_enter Try.func4, Try.ntmps4
            go_wp2_with fail
            refine (up_any _).mono ?_
            rintro e w1 ⟨rfl, hb⟩
            have c0 : w1.cell? ⟨b, off, none⟩ = some (.int .i64 v) := (hb.cell (p := ⟨b, off, none⟩) hblk).trans H0.out
            have c1 : w1.cell? ⟨b, off + 1, none⟩ = some (.int .i64 0) := (hb.cell (p := ⟨b, off + 1, none⟩) hblk).trans H1.out
            go_wp2_with fail
            refine (eval_div0 b off cap _ c1).mono ?_
            rintro e w2 ⟨rfl, rfl⟩
            go_wp2_with fail
            refine (refArgs_any 11 _).mono ?_
            rintro e w2 ⟨rfl, rfl⟩
            go_wp2_with fail
            refine (refEval_div0 v b off cap _ c0 c1).mono ?_
            rintro e w2 ⟨rfl, n, rfl⟩
            go_wp2_with fail
            go_ret
            exact ⟨rfl, below_drewN hb _⟩
          · have HZ : Hid (op = 11 → (u == 0) = false) := fun h => by simp; omega
            clear h11
            go_enter Try.func4, Try.ntmps4
            go_wp2_with fail
            refine (up_any _).mono ?_
            rintro e w1 ⟨rfl, hb⟩
            have c0 : w1.cell? ⟨b, off, none⟩ = some (.int .i64 v) := (hb.cell (p := ⟨b, off, none⟩) hblk).trans H0.out
            have c1 : w1.cell? ⟨b, off + 1, none⟩ = some (.int .i64 u) := (hb.cell (p := ⟨b, off + 1, none⟩) hblk).trans H1.out
            go_wp2_with fail
            refine (eval_two op v u b off cap _ g1 g2 HZ.out c0 c1).mono ?_
            rintro e w2 ⟨rfl, n1, rfl⟩
            go_wp2_with fail
            refine (refArgs_any op _).mono ?_
            rintro e w2 ⟨rfl, rfl⟩
            go_wp2_with fail
            refine (refEval_two op v u b off cap _ g1 g2 HZ.out HV HU (by simpa using c0) (by simpa using c1)).mono ?_
            rintro e w2 ⟨rfl, n, rfl⟩
            go_wp2_with fail
            go_ret
            exact ⟨rfl, by repeat first | exact hb | refine below_drewN ?_ _⟩
    · have hk' : known op = false := by simpa using hk
      have hra : refArity op = -1 := by unfold refArity; rw [hk']; rfl
      clear hk
      go_enter Try.func4, Try.ntmps4
      go_wp2_with fail
      refine (up_any _).mono ?_
      rintro e w1 ⟨rfl, hb⟩
      go_wp2_with fail
      refine (eval_unknown op _ len cap _ hk').mono ?_
      rintro e w2 ⟨rfl, rfl⟩
      go_wp2_with fail
      refine (refArgs_any op _).mono ?_
      rintro e w2 ⟨rfl, rfl⟩
      go_wp2_with fail
      go_ret
      exact ⟨rfl, hb⟩
end Go.Proofs.Ythjplghkfijelaa
