/- What the functions of package arith answer: their contracts. -/
import Derived.Test.YtoidhjmhakajlaaModD
import Derived.Test.YtoidhjmhakajlaaArM
import Derived.WalkKit
import Derived.ProofKit
import Derived.OpenShut
import Derived.Outline
import Derived.WalkSpells
import Derived.BigQuiet
import Derived.Deep.QuietTactic
import Derived.Lib.Hide
import Derived.Deep.DeepMust
namespace Go.Proofs.Ytoidhjmhakajlaa
open Go.ChangeShapes Go.WideShapes Go.ChangeAt Go.RowKit

theorem places_any (b : Int) (w : World) : Calls Try.prog 88 #[.int .i64 b] w fun e w' => e = .returned (.int .u64 (pl b)) ∧ w = w' := by
  unfold pl
  go_enter Try.func88, Try.ntmps88
  go_wp2
  go_ret
  exact ⟨rfl, rfl⟩

theorem asNumber_any (b : Bool) (w : World) : Calls Try.prog 89 #[.bool b] w fun e w' => e = .returned (.int .i64 (asN b)) ∧ w = w' := by
  cases b
  all_goals
    go_enter Try.func89, Try.ntmps89
    go_wp2
    go_ret
    exact ⟨rfl, rfl⟩

theorem ofTwo_most (op a b : Int) (w : World) (h : 3 ≤ op) (h2 : op ≤ 11) (hb : op = 11 → (b == 0) = false) :
    Calls Try.prog 87 #[.int .i64 op, .int .i64 a, .int .i64 b] w fun e w' => e = .returned (.int .i64 (two op a b)) ∧ w = w' := by
  have hp := pl_lo b
  obtain rfl | rfl | rfl | rfl | rfl| rfl| rfl| rfl| rfl : op = 3 ∨ op = 4 ∨ op = 5 ∨ op = 6 ∨ op = 7 ∨ op = 8 ∨ op = 9 ∨ op = 10 ∨ op = 11 := by omega
  all_goals
    try have hb' := hb rfl
    try have hb0 : ¬ b = 0 := by simpa using hb'
    clear hb h h2
    go_enter Try.func87, Try.ntmps87
    go_wp2_with (first | (go_at_call 88; refine (places_any _ _).mono ?_; rintro e w' ⟨rfl, rfl⟩) | (go_at_call 89; refine (asNumber_any _ _).mono ?_; rintro e w' ⟨rfl, rfl⟩))
    go_ret
    exact ⟨rfl, rfl⟩

theorem ofTwo_lt (a b : Int) (w : World) :
    Calls Try.prog 87 #[.int .i64 12, .int .i64 a, .int .i64 b] w fun e w' => e = .returned (.int .i64 (two 12 a b)) ∧ w = w' := by
  have e : two 12 a b = asN (decide (a < b)) := rfl
  rw [e]
  clear e
  by_cases hd : a < b
  all_goals
    go_enter Try.func87, Try.ntmps87
    go_wp2_with (first | (go_at_call 89; refine (asNumber_any _ _).mono ?_; rintro e w' ⟨rfl, rfl⟩))
    go_ret
    refine ⟨?_, rfl⟩
    first | (rw [show decide (a < b) = true from by simpa using hd]; rfl) | (rw [show decide (a < b) = false from by simpa using hd]; rfl)

theorem ofTwo_eq (a b : Int) (w : World) :
    Calls Try.prog 87 #[.int .i64 13, .int .i64 a, .int .i64 b] w fun e w' => e = .returned (.int .i64 (two 13 a b)) ∧ w = w' := by
  have e : two 13 a b = asN (a == b) := rfl
  rw [e]
  clear e
  by_cases hd : a = b
  · subst hd
    go_enter Try.func87, Try.ntmps87
    go_wp2_with (first | (go_at_call 89; refine (asNumber_any _ _).mono ?_; rintro e w' ⟨rfl, rfl⟩))
    go_ret
    exact ⟨by simp, rfl⟩
  · have hd' : (a == b) = false := by simp [hd]
    clear hd
    go_enter Try.func87, Try.ntmps87
    go_wp2_with (first | (go_at_call 89; refine (asNumber_any _ _).mono ?_; rintro e w' ⟨rfl, rfl⟩))
    go_ret
    exact ⟨by simp [hd'], rfl⟩

theorem ofTwo_any (op a b : Int) (w : World) (h : 3 ≤ op) (h2 : op ≤ 13) (hb : op = 11 → (b == 0) = false) :
    Calls Try.prog 87 #[.int .i64 op, .int .i64 a, .int .i64 b] w fun e w' => e = .returned (.int .i64 (two op a b)) ∧ w' = w := by
  by_cases h12 : op = 12
  · subst h12; exact (ofTwo_lt a b w).mono fun _ _ h => ⟨h.1, h.2.symm⟩
  · by_cases h13 : op = 13
    · subst h13; exact (ofTwo_eq a b w).mono fun _ _ h => ⟨h.1, h.2.symm⟩
    · exact (ofTwo_most op a b w h (by omega) hb).mono fun _ _ h => ⟨h.1, h.2.symm⟩

theorem ofOne_any (op a : Int) (w : World) (h : op = 2 ∨ op = 14) :
    Calls Try.prog 85 #[.int .i64 op, .int .i64 a] w fun e w' => e = .returned (.int .i64 (one op a)) ∧ w = w' := by
  obtain rfl | rfl := h
  all_goals
    go_enter Try.func85, Try.ntmps85
    go_wp2
    go_ret
    exact ⟨rfl, rfl⟩

theorem opArgs_any (op : Int) (w : World) :
    Calls Try.prog 83 #[.int .i64 op] w fun e w' => e = .returned (.tuple #[.int .i64 (opArity op), .bool (opKnown op)]) ∧ w = w' := by
  by_cases h : 2 ≤ op ∧ op ≤ 14
  · obtain rfl | rfl | rfl | rfl | rfl| rfl| rfl| rfl| rfl| rfl| rfl | rfl | rfl : op = 2 ∨ op = 3 ∨ op = 4 ∨ op = 5 ∨ op = 6 ∨ op = 7 ∨ op = 8 ∨ op = 9 ∨ op = 10 ∨ op = 11 ∨ op = 12 ∨ op = 13 ∨ op = 14 := by omega
    all_goals
      go_enter Try.func83, Try.ntmps83
      go_wp2
      go_ret2
      exact ⟨rfl, rfl⟩
  · have e1 : opArity op = 0 := by unfold opArity; rw [if_neg (by omega), if_neg (by omega)]
    have e2 : opKnown op = false := by unfold opKnown; simp; omega
    rw [e1, e2]
    clear e1 e2
    have h2 : (op == 2) = false := by simp; omega
    have h3 : (op == 3) = false := by simp; omega
    have h4 : (op == 4) = false := by simp; omega
    have h5 : (op == 5) = false := by simp; omega
    have h6 : (op == 6) = false := by simp; omega
    have h7 : (op == 7) = false := by simp; omega
    have h8 : (op == 8) = false := by simp; omega
    have h9 : (op == 9) = false := by simp; omega
    have h10 : (op == 10) = false := by simp; omega
    have h11 : (op == 11) = false := by simp; omega
    have h12 : (op == 12) = false := by simp; omega
    have h13 : (op == 13) = false := by simp; omega
    have h14 : (op == 14) = false := by simp; omega
    clear h
    go_enter Try.func83, Try.ntmps83
    go_wp2
    go_ret2
    exact ⟨rfl, rfl⟩

theorem traps_any (op : Int) (w : World) :
    Calls Try.prog 86 #[.int .i64 op] w fun e w' => e = .returned (.bool (op == 11)) ∧ w = w' := by
  go_enter Try.func86, Try.ntmps86
  go_wp2
  go_ret
  exact ⟨rfl, rfl⟩

/-- Nothing but the count of draws has turned. -/
def Drawn (w w' : World) : Prop := ∃ n, w' = w.drewN n

/-- Two arguments, which are as many as there must be. -/
theorem eval_two (op a b : Int) (k off cap : Nat) (w : World) (h : 3 ≤ op) (h2 : op ≤ 13) (hb : op = 11 → (b == 0) = false)
    (hc0 : w.cell? ⟨k, off, none⟩ = some (.int .i64 a)) (hc1 : w.cell? ⟨k, off + 1, none⟩ = some (.int .i64 b)) :
    Calls Try.prog 78 #[.int .i64 op, .slice (some ⟨k, off, none⟩) 2 cap] w fun e w' => e = .returned (.tuple #[.int .i64 (two op a b), .nilIface]) ∧ Drawn w w' := by
  have ea : opArity op = 2 := by unfold opArity; rw [if_neg (by omega), if_pos (by omega)]
  have ek : opKnown op = true := by unfold opKnown; simp; omega
  have H := Lib.hid hb
  clear hb
  by_cases h11 : op = 11
  · subst h11
    have hb' := H.out rfl
    clear H
    go_enter Try.func78, Try.ntmps78
    go_wp2_with (first | (go_at_call 83; refine (opArgs_any _ _).mono ?_; rintro e w' ⟨rfl, rfl⟩) | (go_at_call 86; refine (traps_any _ _).mono ?_; rintro e w' ⟨rfl, rfl⟩))
    go_quiet ((go_at_call 87; refine Calls.quiet_of_same (ofTwo_any _ _ _ _ ?_ ?_ ?_) <;> first | omega | exact (fun _ => hb') | exact H.out))
    go_wp2
    go_ret2
    exact ⟨rfl, _, rfl⟩
  · have h11' : (op == 11) = false := by simp; omega
    clear h11
    go_enter Try.func78, Try.ntmps78
    go_wp2_with (first | (go_at_call 83; refine (opArgs_any _ _).mono ?_; rintro e w' ⟨rfl, rfl⟩) | (go_at_call 86; refine (traps_any _ _).mono ?_; rintro e w' ⟨rfl, rfl⟩))
    go_quiet ((go_at_call 87; refine Calls.quiet_of_same (ofTwo_any _ _ _ _ ?_ ?_ ?_) <;> first | omega | exact (fun _ => hb') | exact H.out))
    go_wp2
    go_ret2
    exact ⟨rfl, _, rfl⟩

theorem eval_div0 (k off cap : Nat) (w : World) (hc1 : w.cell? ⟨k, off + 1, none⟩ = some (.int .i64 0)) :
    Calls Try.prog 78 #[.int .i64 11, .slice (some ⟨k, off, none⟩) 2 cap] w fun e w' => e = .returned (.tuple #[.int .i64 0, .iface 63 (.int .i64 7)]) ∧ w = w' := by
  have ea : opArity 11 = 2 := rfl
  have ek : opKnown 11 = true := rfl
  go_enter Try.func78, Try.ntmps78
  go_wp2_with (first | (go_at_call 83; refine (opArgs_any _ _).mono ?_; rintro e w' ⟨rfl, rfl⟩) | (go_at_call 86; refine (traps_any _ _).mono ?_; rintro e w' ⟨rfl, rfl⟩))
  go_ret2
  exact ⟨rfl, rfl⟩

theorem eval_one (op a : Int) (k off cap : Nat) (w : World) (h : op = 2 ∨ op = 14) (hc0 : w.cell? ⟨k, off, none⟩ = some (.int .i64 a)) :
    Calls Try.prog 78 #[.int .i64 op, .slice (some ⟨k, off, none⟩) 1 cap] w fun e w' => e = .returned (.tuple #[.int .i64 (one op a), .nilIface]) ∧ w = w' := by
  have ea : opArity op = 1 := by unfold opArity; rw [if_pos h]
  have ek : opKnown op = true := by unfold opKnown; simp; omega
  have H := Lib.hid h
  clear h
  go_enter Try.func78, Try.ntmps78
  go_wp2_with (first | (go_at_call 83; refine (opArgs_any _ _).mono ?_; rintro e w' ⟨rfl, rfl⟩) | (go_at_call 85; refine (ofOne_any _ _ _ H.out).mono ?_; rintro e w' ⟨rfl, rfl⟩))
  go_ret2
  exact ⟨rfl, rfl⟩

theorem eval_unknown (op : Int) (p : Option Addr) (len cap : Nat) (w : World) (h : opKnown op = false) :
    Calls Try.prog 78 #[.int .i64 op, .slice p len cap] w fun e w' => e = .returned (.tuple #[.int .i64 0, .iface 63 (.int .i64 1)]) ∧ w = w' := by
  go_enter Try.func78, Try.ntmps78
  go_wp2_with (first | (go_at_call 83; refine (opArgs_any _ _).mono ?_; rintro e w' ⟨rfl, rfl⟩))
  go_ret2
  exact ⟨rfl, rfl⟩

theorem eval_count (op : Int) (p : Option Addr) (len cap : Nat) (w : World) (h : opKnown op = true) (hl : ((len : Int) != opArity op) = true) :
    Calls Try.prog 78 #[.int .i64 op, .slice p len cap] w fun e w' => e = .returned (.tuple #[.int .i64 0, .iface 63 (.int .i64 1)]) ∧ w = w' := by
  go_enter Try.func78, Try.ntmps78
  go_wp2_with (first | (go_at_call 83; refine (opArgs_any _ _).mono ?_; rintro e w' ⟨rfl, rfl⟩))
  go_ret2
  exact ⟨rfl, rfl⟩
end Go.Proofs.Ytoidhjmhakajlaa
