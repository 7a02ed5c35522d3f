/- The walks of ArithKinds, ArithPlaces and ArithOrder. -/
import Derived.Test.YthjplghkfijelaaUp
namespace Go.Proofs.Ythjplghkfijelaa
open Go.ChangeShapes Go.WideShapes Go.ChangeAt Go.RowKit

/-- What the document's answer for Args says: -1 where it isn't one. -/
def refArity (op : Int) : Int := if known op then arity op else -1
theorem refArgs_any (op : Int) (w : World) :
    Calls Try.prog 13 #[.int .i64 op] w fun e w' => e = .returned (.int .i64 (refArity op)) ∧ w = w' := by
  by_cases h : 2 ≤ op ∧ op ≤ 14
  · obtain rfl | rfl | rfl | rfl | rfl| rfl| rfl| rfl| rfl| rfl| rfl | rfl | rfl : op = 2 ∨ op = 3 ∨ op = 4 ∨ op = 5 ∨ op = 6 ∨ op = 7 ∨ op = 8 ∨ op = 9 ∨ op = 10 ∨ op = 11 ∨ op = 12 ∨ op = 13 ∨ op = 14 := by omega
    all_goals
      go_enter Try.func13, Try.ntmps13
      go_wp2
      go_ret
      exact ⟨rfl, rfl⟩
  · have e2 : refArity op = -1 := by unfold refArity known; rw [if_neg (by simp; omega)]
    rw [e2]
    clear e2
    have h2 : (op == 2) = false := by simp; omega
    have h3 : (op == 3) = false := by simp; omega
    have h4 : (op == 4) = false := by simp; omega
    have h5 : (op == 5) = false := by simp; omega
    have h6 : (op == 6) = false := by simp; omega
    have h7 : (op == 7) = false := by simp; omega
    have h8 : (op == 8) = false := by simp; omega
    have h9 : (op == 9) = false := by simp; omega
    have h10 : (op == 10) = false := by simp; omega
    have h11 : (op == 11) = false := by simp; omega
    have h12 : (op == 12) = false := by simp; omega
    have h13 : (op == 13) = false := by simp; omega
    have h14 : (op == 14) = false := by simp; omega
    clear h
    go_enter Try.func13, Try.ntmps13
    go_wp2
    go_ret
    exact ⟨rfl, rfl⟩

theorem kinds_walk (op : Int) (w : World) :
    Calls Try.prog 3 #[.int .i64 op] w fun e w' => e = .returned (.bool true) ∧ Below w.heap.size w w' := by
  by_cases h : 2 ≤ op ∧ op ≤ 14
  · obtain rfl | rfl | rfl | rfl | rfl| rfl| rfl| rfl| rfl| rfl| rfl | rfl | rfl : op = 2 ∨ op = 3 ∨ op = 4 ∨ op = 5 ∨ op = 6 ∨ op = 7 ∨ op = 8 ∨ op = 9 ∨ op = 10 ∨ op = 11 ∨ op = 12 ∨ op = 13 ∨ op = 14 := by omega
    all_goals
      clear h
      go_enter Try.func3, Try.ntmps3
      go_wp2_with fail
      refine (up_any _).mono ?_
      rintro e w1 ⟨rfl, hb⟩
      go_wp2
      go_ret
      exact ⟨rfl, hb⟩
  · have e1 : arity op = 0 := by unfold arity; rw [if_neg (by omega), if_neg (by omega)]
    have e2 : known op = false := by unfold known; simp; omega
    have e3 : refArity op = -1 := by unfold refArity known; rw [if_neg (by simp; omega)]
    have e4 : same op = false := by unfold same; simp; omega
    have h11 : (op == 11) = false := by simp; omega
    clear h
    go_enter Try.func3, Try.ntmps3
    go_wp2_with fail
    refine (up_any _).mono ?_
    rintro e w1 ⟨rfl, hb⟩
    go_wp2_with (first | (go_at_call 12; refine (args_any _ _).mono ?_; rintro e w' ⟨rfl, rfl⟩) | (go_at_call 13; refine (refArgs_any _ _).mono ?_; rintro e w' ⟨rfl, rfl⟩) | (go_at_call 14; refine (traps_any _ _).mono ?_; rintro e w' ⟨rfl, rfl⟩) | (go_at_call 15; refine (same_any _ _).mono ?_; rintro e w' ⟨rfl, rfl⟩))
    go_ret
    exact ⟨rfl, hb⟩

theorem bits_comm_and (a b : Int) : bits .and .i64 a b = bits .and .i64 b a := by
  show IntKind.i64.wrap ((BitVec.ofInt 64 a &&& BitVec.ofInt 64 b).toNat : Int) = IntKind.i64.wrap ((BitVec.ofInt 64 b &&& BitVec.ofInt 64 a).toNat : Int)
  rw [BitVec.and_comm]
theorem bits_comm_or (a b : Int) : bits .or .i64 a b = bits .or .i64 b a := by
  show IntKind.i64.wrap ((BitVec.ofInt 64 a ||| BitVec.ofInt 64 b).toNat : Int) = IntKind.i64.wrap ((BitVec.ofInt 64 b ||| BitVec.ofInt 64 a).toNat : Int)
  rw [BitVec.or_comm]
theorem bits_comm_xor (a b : Int) : bits .xor .i64 a b = bits .xor .i64 b a := by
  show IntKind.i64.wrap ((BitVec.ofInt 64 a ^^^ BitVec.ofInt 64 b).toNat : Int) = IntKind.i64.wrap ((BitVec.ofInt 64 b ^^^ BitVec.ofInt 64 a).toNat : Int)
  rw [BitVec.xor_comm]
theorem two_comm (op a b : Int) (h : same op = true) : two op a b = two op b a := by
  unfold same at h
  simp only [decide_eq_true_eq] at h
  rcases h with rfl | rfl | rfl | rfl | rfl | rfl
  · show wrap64 (a + b) = wrap64 (b + a); rw [Int.add_comm]
  · show wrap64 (a * b) = wrap64 (b * a); rw [Int.mul_comm]
  · exact bits_comm_and a b
  · exact bits_comm_or a b
  · exact bits_comm_xor a b
  · show asN (a == b) = asN (b == a); rw [Bool.beq_comm]

theorem same_two (op : Int) (h : same op = true) : 3 ≤ op ∧ op ≤ 13 ∧ op ≠ 11 := by
  unfold same at h
  simp only [decide_eq_true_eq] at h
  omega

theorem places_walk (op a b : Int) (w : World) :
    Calls Try.prog 6 #[.int .i64 op, .int .i64 a, .int .i64 b] w fun e w' => e = .returned (.bool true) ∧ Below w.heap.size w w' := by
  by_cases h : same op = true
  · obtain ⟨g1, g2, g3⟩ := same_two op h
    have hx : (two op a b == two op b a) = true := by rw [two_comm op a b h]; simp
    go_enter Try.func6, Try.ntmps6
    go_wp2_with fail
    refine (up_any _).mono ?_
    rintro e w1 ⟨rfl, hb⟩
    go_wp2_with fail
    refine (same_any _ _).mono ?_
    rintro e w2 ⟨rfl, rfl⟩
    go_wp2_with fail
    refine (eval_two op a b _ 0 _ _ g1 g2 (fun h => absurd h g3) (new_cell (by simp) rfl) (new_cell (by simp) rfl)).mono ?_
    rintro e w3 ⟨rfl, n, rfl⟩
    go_wp2_with fail
    refine (eval_two op b a _ 0 _ _ g1 g2 (fun h => absurd h g3) (new_cell (by simp) rfl) (new_cell (by simp) rfl)).mono ?_
    rintro e w4 ⟨rfl, m, rfl⟩
    go_wp2_with fail
    go_ret
    exact ⟨rfl, below_drewN ((below_drewN (hb.alloc hb.size _) _).alloc (Nat.le_trans hb.size (by simp)) _) _⟩
  · have hs : same op = false := by simpa using h
    clear h
    go_enter Try.func6, Try.ntmps6
    go_wp2_with fail
    refine (up_any _).mono ?_
    rintro e w1 ⟨rfl, hb⟩
    go_wp2_with fail
    refine (same_any _ _).mono ?_
    rintro e w2 ⟨rfl, rfl⟩
    go_wp2_with fail
    go_ret
    exact ⟨rfl, hb⟩
end Go.Proofs.Ythjplghkfijelaa
