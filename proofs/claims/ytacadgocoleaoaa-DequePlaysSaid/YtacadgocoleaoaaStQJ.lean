/- Deques and their operations in memory. -/
import Derived.Test.YtacadgocoleaoaaAheadLJ
import Derived.Test.YtacadgocoleaoaaEqEJ
import Derived.WalkKit
import Derived.BigQuiet
import Derived.Laws.EntriesVeiled
import Derived.IntWalk
import Derived.StillTailTactics
namespace Go.Proofs.Ytacadgocoleaoaa
open Go.ChangeShapes Go.WideShapes Go.RowKit Go.Deep
set_option linter.unusedVariables false

/-- Cell i of a deque; ov: the owner's operation. -/
def cellQ (s : DqS) (ov : Value) (i : Nat) : Value := if i < 64 then .int .i64 (s.cells i) else if i = 64 then .int .i64 s.top else if i = 65 then .int .i64 s.bot else ov
def deqC (s : DqS) (ov : Value) : Array Value := Array.ofFn (n := 67) fun i => cellQ s ov i.val
def DeqB (w : World) (D : Nat) (s : DqS) (ov : Value) : Prop := w.heap[D]? = some (.cells (deqC s ov) 66 (0, 0))
theorem deqC_get (s : DqS) (ov : Value) {i : Nat} (hi : i < 67) : (deqC s ov)[i]? = some (cellQ s ov i) := by
  unfold deqC; rw [Array.getElem?_ofFn, dif_pos hi]
theorem deqC_set {s s' : DqS} {ov ov' : Value} {i : Nat} {v : Value} (h : ∀ j, j < 67 → cellQ s' ov' j = if j = i then v else cellQ s ov j) : (deqC s ov).setIfInBounds i v = deqC s' ov' := by
  apply Array.ext
  · simp [deqC]
  · intro j h1 h2
    have hj : j < 67 := by simpa [deqC] using h1
    rw [Array.getElem_setIfInBounds (by simpa [deqC] using hj)]
    simp only [deqC, Array.getElem_ofFn]
    rw [h j hj]
    by_cases hij : i = j
    · rw [if_pos hij, if_pos hij.symm]
    · rw [if_neg hij, if_neg (fun e => hij e.symm)]
section
variable {w : World} {D : Nat} {s : DqS} {ov : Value}
theorem DeqB.lt (h : DeqB w D s ov) : D < w.heap.size := block_lt h
theorem DeqB.free (h : DeqB w D s ov) (i : Nat) : w.frozen? ⟨D, i, none⟩ = false := free_of_block h i
theorem DeqB.cell (h : DeqB w D s ov) {i : Nat} (hi : i < 64) : w.cell? ⟨D, i, none⟩ = some (.int .i64 (s.cells i)) := by
  rw [cell_of_block h i, deqC_get _ _ (by omega)]; unfold cellQ; rw [if_pos hi]
theorem DeqB.top (h : DeqB w D s ov) : w.cell? ⟨D, 64, none⟩ = some (.int .i64 s.top) := (cell_of_block h 64).trans (deqC_get s ov (by omega))
theorem DeqB.bot (h : DeqB w D s ov) : w.cell? ⟨D, 65, none⟩ = some (.int .i64 s.bot) := (cell_of_block h 65).trans (deqC_get s ov (by omega))
theorem DeqB.own (h : DeqB w D s ov) : w.cell? ⟨D, 66, none⟩ = some ov := (cell_of_block h 66).trans (deqC_get s ov (by omega))
theorem DeqB.setCell (h : DeqB w D s ov) {i : Nat} (hi : i < 64) (v : Int) : DeqB (w.setCell ⟨D, i, none⟩ (.int .i64 v)) D { s with cells := setC s.cells i v } ov :=
  (set_of_block _ h).trans (by
    rw [deqC_set (s' := { s with cells := setC s.cells i v }) (ov' := ov)]
    intro j hj
    unfold cellQ setC
    by_cases e : j = i
    · subst e; rw [if_pos hi, if_pos rfl]; show Value.int .i64 (if j = j then v else s.cells j) = _; rw [if_pos rfl]
    · simp only [e, if_false])
theorem DeqB.setTop (h : DeqB w D s ov) (v : Int) : DeqB (w.setCell ⟨D, 64, none⟩ (.int .i64 v)) D { s with top := v } ov :=
  (set_of_block _ h).trans (by
    rw [deqC_set (s' := { s with top := v }) (ov' := ov)]
    intro j hj
    unfold cellQ
    by_cases e : j = 64
    · subst e; rfl
    · simp only [e, if_false])
theorem DeqB.setBot (h : DeqB w D s ov) (v : Int) : DeqB (w.setCell ⟨D, 65, none⟩ (.int .i64 v)) D { s with bot := v } ov :=
  (set_of_block _ h).trans (by
    rw [deqC_set (s' := { s with bot := v }) (ov' := ov)]
    intro j hj
    unfold cellQ
    by_cases e : j = 65
    · subst e; rfl
    · simp only [e, if_false])
theorem DeqB.setOwn (h : DeqB w D s ov) (v : Value) : DeqB (w.setCell ⟨D, 66, none⟩ v) D s v :=
  (set_of_block _ h).trans (by
    rw [deqC_set (s' := s) (ov' := v)]
    intro j hj
    unfold cellQ
    by_cases e : j = 66
    · subst e; rfl
    · rw [if_neg e]
      split
      · rfl
      · split
        · rfl
        · split
          · rfl
          · omega)
theorem DeqB.go (h : DeqB w D s ov) {w' : World} (hb : w'.heap[D]? = w.heap[D]?) : DeqB w' D s ov := hb.trans h
end

/-- The function that does the next step. -/
def nxN (o : OpS) : Nat :=
  if o.kind = 1 then (if o.next = 0 then 29 else if o.next = 1 then 33 else if o.next = 2 then 37 else 42)
  else if o.kind = 2 then (if o.next = 0 then 31 else if o.next = 1 then 35 else if o.next = 2 then (if o.b - 1 < o.t then 39 else 40) else if o.next = 3 then 44 else 39)
  else (if o.next = 0 then 30 else if o.next = 1 then 34 else if o.next = 2 then 38 else 43)
def nxV (o : OpS) : Value := if o.got = 0 then .func (.func (nxN o)) #[] #[] else .nilFunc
def gtI (o : OpS) : Int := if o.got = 0 then (if o.kind = 2 then (if o.next = 2 then (if o.b - 1 < o.t then 2 else 0) else if o.next = 4 then (if o.won = true then 1 else 2) else 0) else 0) else o.got
def OpB (w : World) (p D : Nat) (o : OpS) : Prop := w.heap[p]? = some (.cells #[.pointer (some ⟨D, 0, none⟩), nxV o, .int .i64 o.t, .int .i64 o.b, .int .i64 o.x, .int .i64 (gtI o)] 71 (0, 0))
/-- An operation's six cells. -/
structure OpC (w : World) (p D : Nat) (o : OpS) : Prop where
  c0 : w.cell? ⟨p, 0, none⟩ = some (.pointer (some ⟨D, 0, none⟩))
  c1 : w.cell? ⟨p, 1, none⟩ = some (nxV o)
  c2 : w.cell? ⟨p, 2, none⟩ = some (.int .i64 o.t)
  c3 : w.cell? ⟨p, 3, none⟩ = some (.int .i64 o.b)
  c4 : w.cell? ⟨p, 4, none⟩ = some (.int .i64 o.x)
  c5 : w.cell? ⟨p, 5, none⟩ = some (.int .i64 (gtI o))
  f1 : w.frozen? ⟨p, 1, none⟩ = false
  f2 : w.frozen? ⟨p, 2, none⟩ = false
  f3 : w.frozen? ⟨p, 3, none⟩ = false
  f4 : w.frozen? ⟨p, 4, none⟩ = false
  f5 : w.frozen? ⟨p, 5, none⟩ = false
theorem OpB.lt {w : World} {p D : Nat} {o : OpS} (h : OpB w p D o) : p < w.heap.size := block_lt h
theorem OpB.cs {w : World} {p D : Nat} {o : OpS} (h : OpB w p D o) : OpC w p D o :=
  ⟨cell_of_block h 0, cell_of_block h 1, cell_of_block h 2, cell_of_block h 3, cell_of_block h 4, cell_of_block h 5, free_of_block h 1, free_of_block h 2, free_of_block h 3, free_of_block h 4, free_of_block h 5⟩
theorem OpB.go {w w' : World} {p D : Nat} {o : OpS} (h : OpB w p D o) (hb : w'.heap[p]? = w.heap[p]?) : OpB w' p D o := hb.trans h
theorem OpB.of {w : World} {p D : Nat} {o : OpS} {cs : Array Value} (h : w.heap[p]? = some (.cells cs 71 (0, 0))) (e : cs = #[.pointer (some ⟨D, 0, none⟩), nxV o, .int .i64 o.t, .int .i64 o.b, .int .i64 o.x, .int .i64 (gtI o)]) : OpB w p D o := by
  subst e; exact h
theorem nxV_new (k : Nat) (x : Int) : nxV (opB k x) = .func (.func (nxN (opB k x))) #[] #[] := rfl
/-- What may have changed: a deque and one of its operations. -/
def DqX (D p : Nat) (y : Nat) : Prop := y = D ∨ y = p

/-! ### The small functions -/
theorem end_any (p F : Nat) (t0 : Int) (w : World) (g : Int) (c1 : w.cell? ⟨p, 1, none⟩ = some (.func (.func F) #[] #[])) (c5 : w.cell? ⟨p, 5, none⟩ = some (.int .i64 t0)) (f1 : w.frozen? ⟨p, 1, none⟩ = false) (f5 : w.frozen? ⟨p, 5, none⟩ = false) :
    Calls Try.prog 36 #[.pointer (some ⟨p, 0, none⟩), .int .i64 g] w fun e w' => e = .returned (.tuple #[]) ∧ w' = (w.setCell ⟨p, 5, none⟩ (.int .i64 g)).setCell ⟨p, 1, none⟩ .nilFunc := by
  go_enter Try.func36, Try.ntmps36
  go_wp2_with fail
  go_end0
  exact ⟨rfl, rfl⟩
theorem cell_any (D : Nat) (n : Nat) (i : Nat) (hn : n % 64 = i) (w : World) : Calls Try.prog 41 #[.pointer (some ⟨D, 0, none⟩), .int .i64 (n : Int)] w fun e w' => e = .returned (.pointer (some ⟨D, i, none⟩)) ∧ w' = w := by
  have hi : i < 64 := by omega
  have e1 : ((n : Int) % 64) = (i : Int) := by omega
  have HN := Lib.hid hn
  clear hn
  go_enter Try.func41, Try.ntmps41
  go_wp2_with fail
  go_ret
  exact ⟨rfl, rfl⟩
theorem raise_any (D : Nat) (s : DqS) (ov : Value) (t i : Int) (w : World) (h : DeqB w D s ov) (hb : BdS s i) (hi : i < 4611686018427387904) :
    Calls Try.prog 45 #[.pointer (some ⟨D, 0, none⟩), .int .i64 t] w fun e w' => e = .returned (.bool (decide (s.top = t))) ∧ w' = if s.top = t then w.setCell ⟨D, 64, none⟩ (.int .i64 (t + 1)) else w := by
  obtain ⟨-, -, t0, t1⟩ := hb
  have c1 := h.top
  have f1 := h.free 64
  clear h
  by_cases e : s.top = t
  · have hx : decide (s.top = t) = true := decide_eq_true e
    rw [hx, if_pos e]
    have d1 : (s.top == t) = true := by simpa using e
    have hw : wrap64 (s.top + 1) = s.top + 1 := IntWalk.wrap64_in _ (by omega)
    rw [← e]
    rw [← e] at d1
    clear e hx
    go_enter Try.func45, Try.ntmps45
    go_wp2_with fail
    go_ret
    exact ⟨rfl, rfl⟩
  · have hx : decide (s.top = t) = false := decide_eq_false e
    rw [hx, if_neg e]
    have d1 : (s.top == t) = false := by simpa using e
    clear e hx
    go_enter Try.func45, Try.ntmps45
    go_wp2_with fail
    go_ret
    exact ⟨rfl, rfl⟩
theorem eql_nilF (w : World) : (binOp .eql 69 .nilFunc .nilFunc).run Try.prog w = .ok (.bool true) w := by kernel_rfl
theorem eql_fn (f : Fn) (x y : Array Value) (w : World) : (binOp .eql 69 (.func f x y) .nilFunc).run Try.prog w = .ok (.bool false) w := by kernel_rfl
theorem done_any (p D : Nat) (o : OpS) (w : World) (h : OpB w p D o) : Calls Try.prog 24 #[.pointer (some ⟨p, 0, none⟩)] w fun e w' => e = .returned (.bool (decide (o.got ≠ 0))) ∧ w' = w := by
  have c1 := h.cs.c1
  clear h
  unfold nxV at c1
  by_cases e : o.got = 0
  · have hx : decide (o.got ≠ 0) = false := decide_eq_false (fun q => q e)
    rw [hx]
    rw [if_pos e] at c1
    have hq := fun w => eql_fn (.func (nxN o)) #[] #[] w
    clear e hx
    go_enter Try.func24, Try.ntmps24
    go_wp2_with fail
    go_ret
    exact ⟨rfl, rfl⟩
  · have hx : decide (o.got ≠ 0) = true := decide_eq_true e
    rw [hx]
    rw [if_neg e] at c1
    have hq := eql_nilF
    clear e hx
    go_enter Try.func24, Try.ntmps24
    go_wp2_with fail
    go_ret
    exact ⟨rfl, rfl⟩
end Go.Proofs.Ytacadgocoleaoaa

/- A region's quiet beginning, walked as a still one. -/
namespace Go.Proofs.Ytacadgocoleaoaa
open Go
section
variable {P : Program} {ops : Array Oper} {w : World}
theorem still_of_quietT {Q : Act → Prop} : ∀ (l : List Oper) (a : Act), wpQuiet P ops (fun w' => w' = w) Q l a → wpStill P ops w Q l a := by
  intro l
  induction l with
  | nil => exact fun a h => h
  | cons o rest ih =>
    intro a h
    unfold wpQuiet at h
    unfold wpStill
    split at h
    · rename_i hw
      rw [if_pos hw]
      obtain ⟨v, h1, h2⟩ := h
      have h3 := h1 w rfl
      unfold Oper.quietAt at h3
      unfold Oper.still
      cases hr : (execOp a.eval o).run P w with
      | halt h w' => rw [hr] at h3; exact absurd h3 (by simp [Oper.quietUpon])
      | ok x w' =>
        rw [hr] at h3
        cases x with
        | value u => obtain ⟨rfl, rfl⟩ := h3; exact ⟨rfl, ih _ h2⟩
        | skip => obtain ⟨rfl, rfl⟩ := h3; exact ⟨rfl, ih _ h2⟩
        | enter f args => obtain ⟨rfl, h4⟩ := h3; exact ⟨rfl, v, h4, ih _ h2⟩
        | _ => exact absurd h3 (by simp [Oper.quietUpon])
    · rename_i hw
      rw [if_neg hw]
      exact ih _ h
end
end Go.Proofs.Ytacadgocoleaoaa
