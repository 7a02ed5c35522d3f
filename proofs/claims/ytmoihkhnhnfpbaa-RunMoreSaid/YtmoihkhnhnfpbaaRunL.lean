/- The document's Begins and Alike; few. -/
import Derived.Test.YtmoihkhnhnfpbaaMacS
namespace Go.Proofs.Ytmoihkhnhnfpbaa
open Go.ChangeShapes Go.WideShapes Go.RowKit Go.Deep
set_option linter.unusedVariables false

/-- Does the one begin the other? -/
def beginsB (a b : List Int) : Bool := decide (b.take a.length = a)
theorem begins_long {a b : List Int} (h : b.length < a.length) : beginsB a b = false := by
  unfold beginsB
  rw [decide_eq_false_iff_not]
  intro e
  have := congrArg List.length e
  rw [List.length_take] at this; omega
theorem begins_stop {a b : List Int} {j : Nat} {x y : Int} (hx : a[j]? = some x) (hy : b[j]? = some y) (h : x ≠ y) : beginsB a b = false := by
  unfold beginsB
  rw [decide_eq_false_iff_not]
  intro e
  have hj := (List.getElem?_eq_some_iff.1 hx).1
  rw [← e, List.getElem?_take, if_pos hj, hy] at hx
  exact h (Option.some.inj hx).symm
theorem take_both {a b : List Int} {j : Nat} {x : Int} (hx : a[j]? = some x) (hy : b[j]? = some x) (h : a.take j = b.take j) : a.take (j + 1) = b.take (j + 1) := by
  rw [take_succ_of hx, take_succ_of hy, h]
theorem begins_done {a b : List Int} {j : Nat} (h : a.take j = b.take j) (hj : a.length ≤ j) (hl : a.length ≤ b.length) (hj2 : j ≤ a.length) : beginsB a b = true := by
  obtain rfl : j = a.length := by omega
  unfold beginsB
  rw [decide_eq_true_iff, ← h, List.take_length]

set_option maxRecDepth 100000 in
set_option maxHeartbeats 4000000 in
theorem begins_any (a b : List Int) (A B : Option Addr) (c d : Nat) (w : World) (ha : SL w 1 RW A c a) (hb : SL w 1 RW B d b) :
    Calls Try.prog 11 #[.slice A a.length c, .slice B b.length d] w fun e w' => e = .returned (.bool (beginsB a b)) ∧ ∃ n, w' = w.drewN n := by
  have hal := ha.len
  have hbl := hb.len
  by_cases hl : b.length < a.length
  · have HE := Lib.hid (begins_long hl)
    go_enter Try.func11, Try.ntmps11
    go_wp2_with fail
    go_ret
    exact ⟨by rw [HE.out]; rfl, 0, rfl⟩
  · have hlb : ¬ ((b.length : Int) < a.length) := by omega
    have HL : Hid (a.length ≤ b.length) := Lib.hid (by omega)
    go_enter Try.func11, Try.ntmps11
    go_wp2_with fail
    go_loopw [5] (fun i wr => ∃ j q : Nat, j ≤ a.length ∧ i = .int .i64 j ∧ Hid (a.take j = b.take j) ∧ wr = w.drewN q) (fun i _ => a.length - (intOf i).toNat)
    case atStart => exact ⟨0, 0, Nat.zero_le _, rfl, Lib.hid rfl, rfl⟩
    case round =>
      obtain ⟨j, q, hj, rfl, hi, rfl⟩ := hrel
      by_cases hjt : j < a.length
      · have hjb : j < b.length := by have := HL.out; omega
        obtain ⟨b1, o1, x, rfl, hx, hxc⟩ := ha.at_ hjt
        obtain ⟨b2, o2, y, rfl, hy, hyc⟩ := hb.at_ hjb
        rw [Nat.mul_one] at hxc hyc
        have hxc : w.cell? ⟨b1, o1 + j, none⟩ = some (.int .i64 x) := hxc
        have hyc : w.cell? ⟨b2, o2 + j, none⟩ = some (.int .i64 y) := hyc
        have hj0 : (0 : Int) ≤ j := by omega
        have hj1 : (j : Int) < a.length := by omega
        have hj2 : (j : Int) < b.length := by omega
        by_cases hxy : x = y
        · have hxb : (x != y) = false := by simp [hxy]
          have HN : Hid (a.take (j + 1) = b.take (j + 1)) := Lib.hid (take_both hx.out (by rw [hxy]; exact hy.out) hi.out)
          clear hxy
          go_wp2_with fail
          go_quiet (fail)
          go_wp2_with fail
          go_roundw
          case rel => exact ⟨j + 1, _, by omega, by go_num, HN, rfl⟩
          case measure => simp [intOf]; omega
        · have hxb : (x != y) = true := by simp [hxy]
          have HE := Lib.hid (begins_stop hx.out hy.out hxy)
          clear hxy
          go_wp2_with fail
          go_quiet (fail)
          go_wp2_with fail
          go_ret
          exact ⟨by rw [HE.out]; rfl, _, by rw [World.drewN_drewN]⟩
      · have HE := Lib.hid (begins_done hi.out (Nat.le_of_not_lt hjt) HL.out hj)
        go_wp2_with fail
        go_ret
        exact ⟨by rw [HE.out]; rfl, q, rfl⟩
theorem alike_any (a b : List Int) (A B : Option Addr) (c d : Nat) (w : World) (ha : SL w 1 RW A c a) (hb : SL w 1 RW B d b) :
    Calls Try.prog 14 #[.slice A a.length c, .slice B b.length d] w fun e w' => e = .returned (.bool (decide (a = b))) ∧ ∃ n, w' = w.drewN n := by
  have HB := Lib.hid (begins_any a b A B c d w ha hb)
  by_cases hl : a.length = b.length
  · have hlb : ((a.length : Int) == b.length) = true := by rw [hl]; simp
    have HE : Hid (beginsB a b = decide (a = b)) := Lib.hid (by
      unfold beginsB
      rw [hl, List.take_length]
      by_cases h : a = b
      · rw [decide_eq_true h, decide_eq_true h.symm]
      · rw [decide_eq_false h, decide_eq_false (fun e => h e.symm)])
    clear ha hb hl
    go_enter Try.func14, Try.ntmps14
    go_wp2_with fail
    refine HB.out.mono ?_
    rintro e w' ⟨rfl, n, rfl⟩
    rw [HE.out]
    go_wp2_with fail
    go_ret
    exact ⟨rfl, n, rfl⟩
  · have hlb : ((a.length : Int) == b.length) = false := by rw [beq_eq_false_iff_ne]; omega
    have HE : Hid (decide (a = b) = false) := Lib.hid (decide_eq_false (fun e => hl (congrArg List.length e)))
    clear ha hb hl
    go_enter Try.func14, Try.ntmps14
    go_wp2_with fail
    go_ret
    exact ⟨by rw [HE.out]; rfl, 0, rfl⟩

/-- So many steps, at most. -/
def fewZ (s : Int) : Int := if 1000 < s ∧ s ≤ 1048576 then s % 1000 else s
theorem few_any (s : Int) (w : World) (hs : I64 s) : Calls Try.prog 8 #[.int .i64 s] w fun e w' => e = .returned (.int .i64 (fewZ s)) ∧ w' = w := by
  obtain ⟨h1, h2⟩ := hs
  by_cases ha : 1000 < s
  · by_cases hb : s ≤ 1048576
    · have HE : Hid (fewZ s = s % 1000) := Lib.hid (by unfold fewZ; rw [if_pos ⟨ha, hb⟩])
      go_enter Try.func8, Try.ntmps8
      go_wp2_with fail
      go_ret
      exact ⟨by rw [HE.out]; rfl, rfl⟩
    · have HE : Hid (fewZ s = s) := Lib.hid (by unfold fewZ; rw [if_neg (fun h => hb h.2)])
      have hbb : decide (s ≤ 1048576) = false := decide_eq_false hb
      go_enter Try.func8, Try.ntmps8
      go_wp2_with fail
      go_ret
      exact ⟨by rw [HE.out]; rfl, rfl⟩
  · have HE : Hid (fewZ s = s) := Lib.hid (by unfold fewZ; rw [if_neg (fun h => ha h.1)])
    have hab : decide (1000 < s) = false := decide_eq_false ha
    go_enter Try.func8, Try.ntmps8
    go_wp2_with fail
    go_ret
    exact ⟨by rw [HE.out]; rfl, rfl⟩
end Go.Proofs.Ytmoihkhnhnfpbaa
