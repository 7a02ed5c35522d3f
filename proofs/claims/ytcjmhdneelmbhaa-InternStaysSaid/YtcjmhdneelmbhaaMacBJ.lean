/- What the functions of package arith answer: their contracts. -/
import Derived.Test.YtcjmhdneelmbhaaTbTJ
import Derived.Test.YtcjmhdneelmbhaaAheadJ
import Derived.WalkKit
import Derived.ProofKit
import Derived.OpenShut
import Derived.Outline
import Derived.WalkSpells
import Derived.BigQuiet
import Derived.Deep.QuietTactic
import Derived.Lib.Hide
import Derived.Deep.DeepMust
import Derived.Test.YtcjmhdneelmbhaaDmFrJ
import Derived.Lib.SliceRun
import Derived.Laws.CopyRow
import Derived.StillTailTactics
import Derived.Laws.IdiomCopy
namespace Go.Proofs.Ytcjmhdneelmbhaa
open Go.ChangeShapes Go.WideShapes Go.ChangeAt Go.RowKit

theorem places_any (b : Int) (w : World) : Calls Try.prog 109 #[.int .i64 b] w fun e w' => e = .returned (.int .u64 (pl b)) ∧ w = w' := by
  unfold pl
  go_enter Try.func109, Try.ntmps109
  go_wp2
  go_ret
  exact ⟨rfl, rfl⟩

theorem asNumber_any (b : Bool) (w : World) : Calls Try.prog 110 #[.bool b] w fun e w' => e = .returned (.int .i64 (asN b)) ∧ w = w' := by
  cases b
  all_goals
    go_enter Try.func110, Try.ntmps110
    go_wp2
    go_ret
    exact ⟨rfl, rfl⟩

theorem ofTwo_most (op a b : Int) (w : World) (h : 3 ≤ op) (h2 : op ≤ 11) (hb : op = 11 → (b == 0) = false) :
    Calls Try.prog 108 #[.int .i64 op, .int .i64 a, .int .i64 b] w fun e w' => e = .returned (.int .i64 (two op a b)) ∧ w = w' := by
  have hp := pl_lo b
  obtain rfl | rfl | rfl | rfl | rfl| rfl| rfl| rfl| rfl : op = 3 ∨ op = 4 ∨ op = 5 ∨ op = 6 ∨ op = 7 ∨ op = 8 ∨ op = 9 ∨ op = 10 ∨ op = 11 := by omega
  all_goals
    try have hb' := hb rfl
    try have hb0 : ¬ b = 0 := by simpa using hb'
    clear hb h h2
    go_enter Try.func108, Try.ntmps108
    go_wp2_with (first | (go_at_call 109; refine (places_any _ _).mono ?_; rintro e w' ⟨rfl, rfl⟩) | (go_at_call 110; refine (asNumber_any _ _).mono ?_; rintro e w' ⟨rfl, rfl⟩))
    go_ret
    exact ⟨rfl, rfl⟩

theorem ofTwo_lt (a b : Int) (w : World) :
    Calls Try.prog 108 #[.int .i64 12, .int .i64 a, .int .i64 b] w fun e w' => e = .returned (.int .i64 (two 12 a b)) ∧ w = w' := by
  have e : two 12 a b = asN (decide (a < b)) := rfl
  rw [e]
  clear e
  by_cases hd : a < b
  all_goals
    go_enter Try.func108, Try.ntmps108
    go_wp2_with (first | (go_at_call 110; refine (asNumber_any _ _).mono ?_; rintro e w' ⟨rfl, rfl⟩))
    go_ret
    refine ⟨?_, rfl⟩
    first | (rw [show decide (a < b) = true from by simpa using hd]; rfl) | (rw [show decide (a < b) = false from by simpa using hd]; rfl)

theorem ofTwo_eq (a b : Int) (w : World) :
    Calls Try.prog 108 #[.int .i64 13, .int .i64 a, .int .i64 b] w fun e w' => e = .returned (.int .i64 (two 13 a b)) ∧ w = w' := by
  have e : two 13 a b = asN (a == b) := rfl
  rw [e]
  clear e
  by_cases hd : a = b
  · subst hd
    go_enter Try.func108, Try.ntmps108
    go_wp2_with (first | (go_at_call 110; refine (asNumber_any _ _).mono ?_; rintro e w' ⟨rfl, rfl⟩))
    go_ret
    exact ⟨by simp, rfl⟩
  · have hd' : (a == b) = false := by simp [hd]
    clear hd
    go_enter Try.func108, Try.ntmps108
    go_wp2_with (first | (go_at_call 110; refine (asNumber_any _ _).mono ?_; rintro e w' ⟨rfl, rfl⟩))
    go_ret
    exact ⟨by simp [hd'], rfl⟩

theorem ofTwo_any (op a b : Int) (w : World) (h : 3 ≤ op) (h2 : op ≤ 13) (hb : op = 11 → (b == 0) = false) :
    Calls Try.prog 108 #[.int .i64 op, .int .i64 a, .int .i64 b] w fun e w' => e = .returned (.int .i64 (two op a b)) ∧ w' = w := by
  by_cases h12 : op = 12
  · subst h12; exact (ofTwo_lt a b w).mono fun _ _ h => ⟨h.1, h.2.symm⟩
  · by_cases h13 : op = 13
    · subst h13; exact (ofTwo_eq a b w).mono fun _ _ h => ⟨h.1, h.2.symm⟩
    · exact (ofTwo_most op a b w h (by omega) hb).mono fun _ _ h => ⟨h.1, h.2.symm⟩

theorem ofOne_any (op a : Int) (w : World) (h : op = 2 ∨ op = 14) :
    Calls Try.prog 106 #[.int .i64 op, .int .i64 a] w fun e w' => e = .returned (.int .i64 (one op a)) ∧ w = w' := by
  obtain rfl | rfl := h
  all_goals
    go_enter Try.func106, Try.ntmps106
    go_wp2
    go_ret
    exact ⟨rfl, rfl⟩

theorem opArgs_any (op : Int) (w : World) :
    Calls Try.prog 104 #[.int .i64 op] w fun e w' => e = .returned (.tuple #[.int .i64 (opArity op), .bool (opKnown op)]) ∧ w = w' := by
  by_cases h : 2 ≤ op ∧ op ≤ 14
  · obtain rfl | rfl | rfl | rfl | rfl| rfl| rfl| rfl| rfl| rfl| rfl | rfl | rfl : op = 2 ∨ op = 3 ∨ op = 4 ∨ op = 5 ∨ op = 6 ∨ op = 7 ∨ op = 8 ∨ op = 9 ∨ op = 10 ∨ op = 11 ∨ op = 12 ∨ op = 13 ∨ op = 14 := by omega
    all_goals
      go_enter Try.func104, Try.ntmps104
      go_wp2
      go_ret2
      exact ⟨rfl, rfl⟩
  · have e1 : opArity op = 0 := by unfold opArity; rw [if_neg (by omega), if_neg (by omega)]
    have e2 : opKnown op = false := by unfold opKnown; simp; omega
    rw [e1, e2]
    clear e1 e2
    have h2 : (op == 2) = false := by simp; omega
    have h3 : (op == 3) = false := by simp; omega
    have h4 : (op == 4) = false := by simp; omega
    have h5 : (op == 5) = false := by simp; omega
    have h6 : (op == 6) = false := by simp; omega
    have h7 : (op == 7) = false := by simp; omega
    have h8 : (op == 8) = false := by simp; omega
    have h9 : (op == 9) = false := by simp; omega
    have h10 : (op == 10) = false := by simp; omega
    have h11 : (op == 11) = false := by simp; omega
    have h12 : (op == 12) = false := by simp; omega
    have h13 : (op == 13) = false := by simp; omega
    have h14 : (op == 14) = false := by simp; omega
    clear h
    go_enter Try.func104, Try.ntmps104
    go_wp2
    go_ret2
    exact ⟨rfl, rfl⟩

theorem traps_any (op : Int) (w : World) :
    Calls Try.prog 107 #[.int .i64 op] w fun e w' => e = .returned (.bool (op == 11)) ∧ w = w' := by
  go_enter Try.func107, Try.ntmps107
  go_wp2
  go_ret
  exact ⟨rfl, rfl⟩

/-- Nothing but the count of draws has turned. -/
def Drawn (w w' : World) : Prop := ∃ n, w' = w.drewN n

/-- Two arguments, which are as many as there must be. -/
theorem eval_two (op a b : Int) (k off cap : Nat) (w : World) (h : 3 ≤ op) (h2 : op ≤ 13) (hb : op = 11 → (b == 0) = false)
    (hc0 : w.cell? ⟨k, off, none⟩ = some (.int .i64 a)) (hc1 : w.cell? ⟨k, off + 1, none⟩ = some (.int .i64 b)) :
    Calls Try.prog 98 #[.int .i64 op, .slice (some ⟨k, off, none⟩) 2 cap] w fun e w' => e = .returned (.tuple #[.int .i64 (two op a b), .nilIface]) ∧ Drawn w w' := by
  have ea : opArity op = 2 := by unfold opArity; rw [if_neg (by omega), if_pos (by omega)]
  have ek : opKnown op = true := by unfold opKnown; simp; omega
  have H := Lib.hid hb
  clear hb
  by_cases h11 : op = 11
  · subst h11
    have hb' := H.out rfl
    clear H
    go_enter Try.func98, Try.ntmps98
    go_wp2_with (first | (go_at_call 104; refine (opArgs_any _ _).mono ?_; rintro e w' ⟨rfl, rfl⟩) | (go_at_call 107; refine (traps_any _ _).mono ?_; rintro e w' ⟨rfl, rfl⟩))
    go_quiet ((go_at_call 108; refine Calls.quiet_of_same (ofTwo_any _ _ _ _ ?_ ?_ ?_) <;> first | omega | exact (fun _ => hb') | exact H.out))
    go_wp2
    go_ret2
    exact ⟨rfl, _, rfl⟩
  · have h11' : (op == 11) = false := by simp; omega
    clear h11
    go_enter Try.func98, Try.ntmps98
    go_wp2_with (first | (go_at_call 104; refine (opArgs_any _ _).mono ?_; rintro e w' ⟨rfl, rfl⟩) | (go_at_call 107; refine (traps_any _ _).mono ?_; rintro e w' ⟨rfl, rfl⟩))
    go_quiet ((go_at_call 108; refine Calls.quiet_of_same (ofTwo_any _ _ _ _ ?_ ?_ ?_) <;> first | omega | exact (fun _ => hb') | exact H.out))
    go_wp2
    go_ret2
    exact ⟨rfl, _, rfl⟩

theorem eval_div0 (k off cap : Nat) (w : World) (hc1 : w.cell? ⟨k, off + 1, none⟩ = some (.int .i64 0)) :
    Calls Try.prog 98 #[.int .i64 11, .slice (some ⟨k, off, none⟩) 2 cap] w fun e w' => e = .returned (.tuple #[.int .i64 0, .iface 57 (.int .i64 7)]) ∧ w = w' := by
  have ea : opArity 11 = 2 := rfl
  have ek : opKnown 11 = true := rfl
  go_enter Try.func98, Try.ntmps98
  go_wp2_with (first | (go_at_call 104; refine (opArgs_any _ _).mono ?_; rintro e w' ⟨rfl, rfl⟩) | (go_at_call 107; refine (traps_any _ _).mono ?_; rintro e w' ⟨rfl, rfl⟩))
  go_ret2
  exact ⟨rfl, rfl⟩

theorem eval_one (op a : Int) (k off cap : Nat) (w : World) (h : op = 2 ∨ op = 14) (hc0 : w.cell? ⟨k, off, none⟩ = some (.int .i64 a)) :
    Calls Try.prog 98 #[.int .i64 op, .slice (some ⟨k, off, none⟩) 1 cap] w fun e w' => e = .returned (.tuple #[.int .i64 (one op a), .nilIface]) ∧ w = w' := by
  have ea : opArity op = 1 := by unfold opArity; rw [if_pos h]
  have ek : opKnown op = true := by unfold opKnown; simp; omega
  have H := Lib.hid h
  clear h
  go_enter Try.func98, Try.ntmps98
  go_wp2_with (first | (go_at_call 104; refine (opArgs_any _ _).mono ?_; rintro e w' ⟨rfl, rfl⟩) | (go_at_call 106; refine (ofOne_any _ _ _ H.out).mono ?_; rintro e w' ⟨rfl, rfl⟩))
  go_ret2
  exact ⟨rfl, rfl⟩

theorem eval_unknown (op : Int) (p : Option Addr) (len cap : Nat) (w : World) (h : opKnown op = false) :
    Calls Try.prog 98 #[.int .i64 op, .slice p len cap] w fun e w' => e = .returned (.tuple #[.int .i64 0, .iface 57 (.int .i64 1)]) ∧ w = w' := by
  go_enter Try.func98, Try.ntmps98
  go_wp2_with (first | (go_at_call 104; refine (opArgs_any _ _).mono ?_; rintro e w' ⟨rfl, rfl⟩))
  go_ret2
  exact ⟨rfl, rfl⟩

theorem eval_count (op : Int) (p : Option Addr) (len cap : Nat) (w : World) (h : opKnown op = true) (hl : ((len : Int) != opArity op) = true) :
    Calls Try.prog 98 #[.int .i64 op, .slice p len cap] w fun e w' => e = .returned (.tuple #[.int .i64 0, .iface 57 (.int .i64 1)]) ∧ w = w' := by
  go_enter Try.func98, Try.ntmps98
  go_wp2_with (first | (go_at_call 104; refine (opArgs_any _ _).mono ?_; rintro e w' ⟨rfl, rfl⟩))
  go_ret2
  exact ⟨rfl, rfl⟩
end Go.Proofs.Ytcjmhdneelmbhaa

/- What memory holds of the machine of a run. -/
namespace Go.Proofs.Ytcjmhdneelmbhaa
open Go.ChangeShapes Go.WideShapes Go.RowKit Go.Deep
set_option linter.unusedVariables false

/-- 'copy', where its run is known by an equation. -/
theorem wpList_copy_any {P : Program} (w : World) {ops : Array Oper} {rest : List Oper} {o : Oper} {a : Act} {Q : Exit → Act → World → Prop} (hgd : o.guard = none) (d s : Operand) (t t' : TypeId)
    (ho : o.op = .call { callee := .builtin .copy, args := #[d, s], argTypes := #[t, t'] }) (v u : Value) (hd : a.eval d = v) (hs : a.eval s = u) {v' : Value} {w' : World}
    (hr : (Builtin.copy_ #[t, t'] o.type #[v, u]).run P w = .ok v' w') (h : wpList P ops Q rest (a.put o.dst v') w') : wpList P ops Q (o :: rest) a w :=
  wpList_plain hgd fun _ hK => by
    unfold Oper.wp execOp
    simp only [ho, resolve, invoke, builtin, Sem.run_bind, Sem.run_pure, Result.andThen_ok, List.map_toArray, List.map_cons, List.map_nil, hd, hs, hr]
    exact hK _ _ h

/-- The machine's slices: callers, funcs, ahead, read, and what was put out. -/
structure MV where
  vc : Value
  vf : Value
  va : Value
  vr : Value
  vo : Value
def placeC (s : St) (i : Nat) : Value := if i = 0 then .int .i64 s.cur.fn else if i = 1 then .int .i64 s.cur.blk else .int .i64 s.cur.at_
def midC (s : St) (q : MV) (i : Nat) : Value :=
  if i = 259 then q.vc else if i = 260 then q.vf else if i = 261 then q.va else if i = 262 then q.vr else if i = 263 then .bool s.done
  else if i = 264 then .int .i64 s.trap else if i = 265 then .int .i64 s.value else if i = 266 then q.vo else .int .i64 s.steps
/-- Cell i of the machine. -/
def cellM (s : St) (q : MV) (i : Nat) : Value :=
  if i < 3 then placeC s i else if i < 259 then .int .i64 (s.cur.regs (i - 3)) else if i < 268 then midC s q i else .int .i64 (s.mem (i - 268))
theorem cellM_lo (s : St) (q : MV) {i : Nat} (h : i < 3) : cellM s q i = placeC s i := by unfold cellM; rw [if_pos h]
theorem cellM_regs (s : St) (q : MV) {i : Nat} (h : 3 ≤ i) (h2 : i < 259) : cellM s q i = .int .i64 (s.cur.regs (i - 3)) := by unfold cellM; rw [if_neg (Nat.not_lt.2 h), if_pos h2]
theorem cellM_mid (s : St) (q : MV) {i : Nat} (h : 259 ≤ i) (h2 : i < 268) : cellM s q i = midC s q i := by
  unfold cellM; rw [if_neg (show ¬ i < 3 by omega), if_neg (Nat.not_lt.2 h), if_pos h2]
theorem cellM_hi (s : St) (q : MV) {i : Nat} (h : 268 ≤ i) : cellM s q i = .int .i64 (s.mem (i - 268)) := by
  unfold cellM; rw [if_neg (show ¬ i < 3 by omega), if_neg (show ¬ i < 259 by omega), if_neg (Nat.not_lt.2 h)]
def macC (s : St) (q : MV) : Array Value := Array.ofFn (n := 332) fun i => cellM s q i.val
theorem macC_size (s : St) (q : MV) : (macC s q).size = 332 := by simp [macC]
theorem macC_get (s : St) (q : MV) {i : Nat} (hi : i < 332) : (macC s q)[i]? = some (cellM s q i) := by
  unfold macC; rw [Array.getElem?_ofFn, dif_pos hi]
theorem macC_set {s s' : St} {q q' : MV} {i : Nat} {v : Value} (h : ∀ j, j < 332 → cellM s' q' j = if j = i then v else cellM s q j) : (macC s q).setIfInBounds i v = macC s' q' := by
  apply Array.ext
  · simp [macC]
  · intro j h1 h2
    have hj : j < 332 := by simpa [macC] using h1
    rw [Array.getElem_setIfInBounds (by simpa [macC] using hj)]
    simp only [macC, Array.getElem_ofFn]
    rw [h j hj]
    by_cases hij : i = j
    · rw [if_pos hij, if_pos hij.symm]
    · rw [if_neg hij, if_neg (fun e => hij e.symm)]
theorem cellM_reg (s : St) (q : MV) {r : Nat} (hr : r < 256) : cellM s q (3 + r) = .int .i64 (s.cur.regs r) := by
  rw [cellM_regs s q (by omega) (by omega), show 3 + r - 3 = r by omega]
theorem cellM_mem (s : St) (q : MV) {k : Nat} (hk : k < 64) : cellM s q (268 + k) = .int .i64 (s.mem k) := by
  rw [cellM_hi s q (by omega), show 268 + k - 268 = k by omega]

/-- The machine's block. -/
def MacB (P : Nat) (w : World) (s : St) (q : MV) : Prop := w.heap[P]? = some (.cells (macC s q) 114 (0, 0))
section
variable {P : Nat} {w : World} {s s' : St} {q q' : MV}
theorem MacB.cell (h : MacB P w s q) {i : Nat} (hi : i < 332) : w.cell? ⟨P, i, none⟩ = some (cellM s q i) := (cell_of_block h i).trans (macC_get s q hi)
theorem MacB.reg (h : MacB P w s q) {r : Nat} (hr : r < 256) : w.cell? ⟨P, 3 + r, none⟩ = some (.int .i64 (s.cur.regs r)) := by rw [h.cell (by omega), cellM_reg s q hr]
theorem MacB.free (h : MacB P w s q) (i : Nat) : w.frozen? ⟨P, i, none⟩ = false := free_of_block h i
theorem MacB.set (h : MacB P w s q) {i : Nat} {v : Value} (hc : ∀ j, j < 332 → cellM s' q' j = if j = i then v else cellM s q j) : MacB P (w.setCell ⟨P, i, none⟩ v) s' q' :=
  (set_of_block v h).trans (by rw [macC_set hc])
theorem MacB.lt (h : MacB P w s q) : P < w.heap.size := block_lt h
end
/-- One cell is changed: of each part of the machine what it holds. -/
theorem set_parts {s s' : St} {q q' : MV} {i : Nat} {v : Value} (hi : i < 332) (hv : cellM s' q' i = v) (hp : ∀ j, j < 3 → j ≠ i → placeC s' j = placeC s j)
    (hr : ∀ r, r < 256 → 3 + r ≠ i → s'.cur.regs r = s.cur.regs r) (hq : ∀ j, 259 ≤ j → j < 268 → j ≠ i → midC s' q' j = midC s q j) (hm : ∀ k, k < 64 → 268 + k ≠ i → s'.mem k = s.mem k) :
    ∀ j, j < 332 → cellM s' q' j = if j = i then v else cellM s q j := by
  intro j hj
  by_cases hji : j = i
  · subst hji; rw [if_pos rfl]; exact hv
  · rw [if_neg hji]
    by_cases h1 : j < 3
    · rw [cellM_lo _ _ h1, cellM_lo _ _ h1, hp j h1 hji]
    · by_cases h2 : j < 259
      · rw [cellM_regs _ _ (Nat.not_lt.1 h1) h2, cellM_regs _ _ (Nat.not_lt.1 h1) h2, hr (j - 3) (by omega) (by omega)]
      · by_cases h3 : j < 268
        · rw [cellM_mid _ _ (Nat.not_lt.1 h2) h3, cellM_mid _ _ (Nat.not_lt.1 h2) h3, hq j (Nat.not_lt.1 h2) h3 hji]
        · rw [cellM_hi _ _ (Nat.not_lt.1 h3), cellM_hi _ _ (Nat.not_lt.1 h3), hm (j - 268) (by omega) (by omega)]
theorem set_reg (s : St) (q : MV) (r : Nat) (v : Int) (hr : r < 256) {f : Nat → Int} (hf : f = upd s.cur.regs r v) : ∀ j, j < 332 → cellM { s with cur := { s.cur with regs := f } } q j = if j = 3 + r then .int .i64 v else cellM s q j := by
  subst hf
  refine set_parts (by omega) ?_ (fun _ _ _ => rfl) (fun k _ h => ?_) (fun _ _ _ _ => rfl) (fun _ _ _ => rfl)
  · rw [cellM_reg _ _ hr]; show Value.int .i64 (upd s.cur.regs r v r) = _; unfold upd; rw [if_pos rfl]
  · show upd s.cur.regs r v k = _; unfold upd; rw [if_neg (by omega)]
theorem set_mem (s : St) (q : MV) (k : Nat) (v : Int) (hk : k < 64) : ∀ j, j < 332 → cellM { s with mem := upd s.mem k v } q j = if j = 268 + k then .int .i64 v else cellM s q j := by
  refine set_parts (by omega) ?_ (fun _ _ _ => rfl) (fun _ _ _ => rfl) (fun _ _ _ _ => rfl) (fun i _ h => ?_)
  · rw [cellM_mem _ _ hk]; show Value.int .i64 (upd s.mem k v k) = _; unfold upd; rw [if_pos rfl]
  · show upd s.mem k v i = _; unfold upd; rw [if_neg (by omega)]
/-- A cell of the middle. -/
theorem set_mid {s s' : St} {q q' : MV} {i : Nat} {v : Value} (h1 : 259 ≤ i) (h2 : i < 268) (hv : midC s' q' i = v) (hc : s'.cur = s.cur) (hm : s'.mem = s.mem) (hq : ∀ j, 259 ≤ j → j < 268 → j ≠ i → midC s' q' j = midC s q j) :
    ∀ j, j < 332 → cellM s' q' j = if j = i then v else cellM s q j :=
  set_parts (by omega) (by rw [cellM_mid _ _ h1 h2]; exact hv) (fun _ _ _ => by unfold placeC; rw [hc]) (fun _ _ _ => by rw [hc]) hq (fun _ _ _ => by rw [hm])
theorem mid_cases {p : Nat → Prop} (h3 : p 259) (h4 : p 260) (h5 : p 261) (h6 : p 262) (h7 : p 263) (h8 : p 264) (h9 : p 265) (h10 : p 266) (h11 : p 267) : ∀ j, 259 ≤ j → j < 268 → p j := by
  intro j hj hj2
  have : j = 259 ∨ j = 260 ∨ j = 261 ∨ j = 262 ∨ j = 263 ∨ j = 264 ∨ j = 265 ∨ j = 266 ∨ j = 267 := by omega
  rcases this with rfl | rfl | rfl | rfl | rfl | rfl | rfl | rfl | rfl <;> assumption
/-- A cell of the place. -/
theorem set_place {s s' : St} {q : MV} {i : Nat} {v : Value} (h1 : i < 3) (hv : placeC s' i = v) (hp : ∀ j, j < 3 → j ≠ i → placeC s' j = placeC s j) (hr : s'.cur.regs = s.cur.regs) (hm : s'.mem = s.mem) (hq : ∀ j, midC s' q j = midC s q j) :
    ∀ j, j < 332 → cellM s' q j = if j = i then v else cellM s q j :=
  set_parts (by omega) (by rw [cellM_lo _ _ h1]; exact hv) hp (fun _ _ _ => by rw [hr]) (fun j _ _ _ => hq j) (fun _ _ _ => by rw [hm])

/-! ### What it stands on -/
/-- Blocks that no step of the run changes. -/
def Old (K P : Nat) (b : Nat) : Prop := b < K ∧ b ≠ P
def RRowB (B : Nat → Prop) (w : World) (b o : Nat) (l : List Int) : Prop := B b ∧ CS w b o 1 (RIntB B) l
def RAhB (B : Nat → Prop) (w : World) (b o : Nat) (f : FunD) : Prop := B b ∧ CS w b o 1 (RRowB B) (rows f.blocks)
theorem RRowB.go {B B' : Nat → Prop} {w w' : World} (h : KeptB B w w') (hB : ∀ b, B b → B' b) (b o : Nat) (l : List Int) (hv : RRowB B w b o l) : RRowB B' w' b o l := ⟨hB _ hv.1, CSB.go h hB (RIntB.go h hB) hv.1 hv.2⟩
theorem RAhB.go {B B' : Nat → Prop} {w w' : World} (h : KeptB B w w') (hB : ∀ b, B b → B' b) (b o : Nat) (f : FunD) (hv : RAhB B w b o f) : RAhB B' w' b o f := ⟨hB _ hv.1, CSB.go h hB (RRowB.go h hB) hv.1 hv.2⟩
/-- The functions, and of each function's each block those ahead of it. -/
def Env (K P : Nat) (w : World) (m : List FunD) (q : MV) : Prop :=
  (∃ A c, q.vf = .slice A m.length c ∧ SL w 4 (RFunB (Old K P)) A c m) ∧ (∃ A c, q.va = .slice A m.length c ∧ SL w 1 (RAhB (Old K P)) A c m)
theorem Env.keep {K P : Nat} {w w' : World} {m : List FunD} {q : MV} (h : Env K P w m q) (hk : KeptB (Old K P) w w') : Env K P w' m q := by
  obtain ⟨⟨A, c, e, h1⟩, A2, c2, e2, h2⟩ := h
  exact ⟨⟨A, c, e, SL.imp (RFunB.go hk (fun _ h => h)) h1⟩, A2, c2, e2, SL.imp (RAhB.go hk (fun _ h => h)) h2⟩

/-- A list of integers that is read without asking how large they are. -/
def RW (w : World) (b o : Nat) (x : Int) : Prop := w.cell? ⟨b, o, none⟩ = some (.int .i64 x)
def RWB (B : Nat → Prop) (w : World) (b o : Nat) (x : Int) : Prop := B b ∧ RW w b o x
theorem RWB.go {B B' : Nat → Prop} {w w' : World} (h : KeptB B w w') (hB : ∀ b, B b → B' b) (b o : Nat) (x : Int) (hv : RWB B w b o x) : RWB B' w' b o x := ⟨hB _ hv.1, h _ _ hv.1 hv.2⟩
theorem RWB.lt {B : Nat → Prop} {w : World} (b o : Nat) (x : Int) (hv : RWB B w b o x) : RWB (fun b => B b ∧ b < w.heap.size) w b o x := ⟨⟨hv.1, block_lt_of_cell hv.2⟩, hv.2⟩
/-- A caller as it lies in the row of callers. -/
def CCal (B : Nat → Prop) (w : World) (fr : Fr) (cs : List Value) : Prop :=
  ∃ A c l, cs = [.int .i64 fr.fn, .int .i64 fr.blk, .int .i64 fr.at_, .slice A l.length c] ∧ SL w 1 (RWB B) A c l ∧ l.length ≤ 256 ∧ ∀ i, fr.regs i = l.getD i 0
theorem CCal.go {B B' : Nat → Prop} {w w' : World} (h : KeptB B w w') (hB : ∀ b, B b → B' b) {fr : Fr} {cs : List Value} (hv : CCal B w fr cs) : CCal B' w' fr cs := by
  obtain ⟨A, c, l, e, h1, h2⟩ := hv
  exact ⟨A, c, l, e, SL.imp (RWB.go h hB) h1, h2⟩
theorem CCal.lt {B : Nat → Prop} {w : World} {fr : Fr} {cs : List Value} (hv : CCal B w fr cs) : CCal (fun b => B b ∧ b < w.heap.size) w fr cs := by
  obtain ⟨A, c, l, e, h1, h2⟩ := hv
  exact ⟨A, c, l, e, SL.imp RWB.lt h1, h2⟩

/-- The run's own rows: what was read, what was put out, who waits. -/
structure Dyn (K : Nat) (w : World) (s : St) (q : MV) (rd : List Int) : Prop where
  rdv : w.ownsRow K 2 1 q.vr rd.length (rd.map (Value.int .i64))
  outv : w.ownsRow K 2 1 q.vo s.out.length (s.out.map (Value.int .i64))
  calls : ∃ cc, w.ownsRow K 153 4 q.vc s.stack.length cc ∧ Rows 4 (CCal (fun b => K ≤ b ∧ some b ≠ q.vr.ownBlock ∧ some b ≠ q.vo.ownBlock ∧ some b ≠ q.vc.ownBlock) w) s.stack.reverse cc
  ro : q.vr.ownBlock = none ∨ q.vr.ownBlock ≠ q.vo.ownBlock
  rc : q.vr.ownBlock = none ∨ q.vr.ownBlock ≠ q.vc.ownBlock
  oc : q.vo.ownBlock = none ∨ q.vo.ownBlock ≠ q.vc.ownBlock
/-- The machine in block P. -/
def Mac (K P : Nat) (m : List FunD) (w : World) (s : St) (rd : List Int) : Prop := ∃ q, MacB P w s q ∧ Env K P w m q ∧ Dyn K w s q rd ∧ P < K ∧ K ≤ w.heap.size
end Go.Proofs.Ytcjmhdneelmbhaa

/- The machine's small functions. -/
namespace Go.Proofs.Ytcjmhdneelmbhaa
open Go.ChangeShapes Go.WideShapes Go.RowKit Go.Deep
set_option linter.unusedVariables false

theorem owns_keep {w w' : World} {base n size : Nat} {e : TypeId} {v : Value} {xs : List Value} (h : w.ownsRow base e size v n xs) (hk : ∀ g, v.ownBlock = some g → base ≤ g → g < w.heap.size → w'.heap[g]? = w.heap[g]?) : w'.ownsRow base e size v n xs := by
  refine ⟨h.1, ?_⟩
  rcases h.2 with h1 | ⟨g, cap, cur, rfl, h2, h3, h4⟩
  · exact .inl h1
  · exact .inr ⟨g, cap, cur, rfl, h2, (hk g rfl h2 (block_lt h3)).trans h3, h4⟩
/-- Nothing but the machine's own block has changed. -/
theorem Dyn.go {K : Nat} {w w' : World} {s s' : St} {q q' : MV} {rd : List Int} (h : Dyn K w s q rd) (hk : ∀ k, K ≤ k → k < w.heap.size → w'.heap[k]? = w.heap[k]?) (ho : s'.out = s.out) (hst : s'.stack = s.stack) (h1 : q'.vc = q.vc) (h2 : q'.vr = q.vr) (h3 : q'.vo = q.vo) : Dyn K w' s' q' rd := by
  obtain ⟨a1, a2, ⟨cc, a3, a4⟩, a5, a6, a7⟩ := h
  refine ⟨by rw [h2]; exact owns_keep a1 (fun g _ hb hl => hk g hb hl), by rw [h3, ho]; exact owns_keep a2 (fun g _ hb hl => hk g hb hl), ⟨cc, by rw [h1, hst]; exact owns_keep a3 (fun g _ hb hl => hk g hb hl), ?_⟩, by rw [h2, h3]; exact a5, by rw [h2, h1]; exact a6, by rw [h3, h1]; exact a7⟩
  rw [hst, h1, h2, h3]
  refine a4.imp fun fr cs hc => CCal.go (fun a v hB hv => ?_) (fun _ hB => hB.1) hc.lt
  rw [World.cell?_of_block (hk a.block hB.1.1 hB.2)]; exact hv
theorem env_set {K P : Nat} {w : World} {m : List FunD} {q q' : MV} (h : Env K P w m q) (h1 : q'.vf = q.vf) (h2 : q'.va = q.va) {w' : World} (hk : ∀ k, k < K → k ≠ P → k < w.heap.size → w'.heap[k]? = w.heap[k]?) : Env K P w' m q' := by
  have := h.keep (w' := w') (fun a v hB hv => by rw [World.cell?_of_block (hk a.block hB.1 hB.2 (block_lt_of_cell hv))]; exact hv)
  unfold Env at *
  rw [h1, h2]; exact this
/-- The machine, behind what has changed its block alone. -/
theorem mac_of {K P : Nat} {m : List FunD} {w w' : World} {s s' : St} {q q' : MV} {rd : List Int} (hb : MacB P w' s' q') (he : Env K P w m q) (hd : Dyn K w s q rd) (hP : P < K) (hK : K ≤ w.heap.size) (hs : w.heap.size ≤ w'.heap.size)
    (hk : ∀ k, k < w.heap.size → k ≠ P → w'.heap[k]? = w.heap[k]?) (ho : s'.out = s.out) (hst : s'.stack = s.stack) (hq : q' = q) : Mac K P m w' s' rd := by
  subst hq
  exact ⟨q', hb, env_set he rfl rfl (fun k h1 h2 h3 => hk k h3 h2), hd.go (fun k h1 h2 => hk k h2 (by omega)) ho hst rfl rfl rfl, hP, by omega⟩
theorem set_others {w : World} {P i : Nat} {v : Value} : ∀ k, k < w.heap.size → k ≠ P → (w.setCell ⟨P, i, none⟩ v).heap[k]? = w.heap[k]? := fun k _ hk => heap_setCell_other w ⟨P, i, none⟩ k v hk
theorem Mac.lt {K P : Nat} {m : List FunD} {w : World} {s : St} {rd : List Int} (h : Mac K P m w s rd) : P < w.heap.size := by obtain ⟨q, h1, _⟩ := h; exact h1.lt
theorem BB.drewN {n g : Nat} {a w : World} (h : BB n g a w) (k : Nat) : BB n g a (w.drewN k) := ⟨h.os, h.tape, h.output, h.size, h.block⟩
/-- A new block does the machine no harm. -/
theorem Mac.below {K P : Nat} {m : List FunD} {w w' : World} {s : St} {rd : List Int} (h : Mac K P m w s rd) (hb : Below w.heap.size w w') : Mac K P m w' s rd := by
  obtain ⟨q, h1, he, hd, hP, hK⟩ := h
  exact mac_of ((hb.block P h1.lt).trans h1) he hd hP hK hb.size (fun k hk _ => hb.block k hk) rfl rfl rfl
theorem Mac.drewN {K P : Nat} {m : List FunD} {w : World} {s : St} {rd : List Int} (h : Mac K P m w s rd) (n : Nat) : Mac K P m (w.drewN n) s rd := h.below (below_drewN (Below.refl _ _) n)

def ToldM (K P : Nat) (m : List FunD) (w : World) (s : St) (rd : List Int) (e : Ending) (w' : World) : Prop := e = .returned (.tuple #[]) ∧ Mac K P m w' s rd ∧ BB K P w w'

theorem within_any (a : Int) (n : Nat) (w : World) : Calls Try.prog 28 #[.int .i64 a, .int .i64 n] w fun e w' => e = .returned (.bool (decide (0 ≤ a ∧ a < n))) ∧ w = w' := by
  by_cases h0 : 0 ≤ a
  · by_cases h1 : a < n
    · have e : decide (0 ≤ a ∧ a < (n : Int)) = true := decide_eq_true ⟨h0, h1⟩
      rw [e]; clear e
      go_enter Try.func28, Try.ntmps28
      go_wp2_with fail
      go_ret
      exact ⟨rfl, rfl⟩
    · have e : decide (0 ≤ a ∧ a < (n : Int)) = false := decide_eq_false (fun h => h1 h.2)
      have h1' : decide (a < (n : Int)) = false := decide_eq_false h1
      rw [e]; clear e h1
      go_enter Try.func28, Try.ntmps28
      go_wp2_with fail
      go_ret
      exact ⟨rfl, rfl⟩
  · have e : decide (0 ≤ a ∧ a < (n : Int)) = false := decide_eq_false (fun h => h0 h.1)
    have h0' : decide (0 ≤ a) = false := decide_eq_false h0
    rw [e]; clear e h0
    go_enter Try.func28, Try.ntmps28
    go_wp2_with fail
    go_ret
    exact ⟨rfl, rfl⟩

theorem trap_any (K P : Nat) (m : List FunD) (w : World) (s : St) (rd : List Int) (t : Int) (h : Mac K P m w s rd) :
    Calls Try.prog 96 #[.pointer (some ⟨P, 0, none⟩), .int .i64 t] w (ToldM K P m w (trapS s t) rd) := by
  obtain ⟨q, hb, he, hd, hP, hK⟩ := h
  have HB := Lib.hid hb
  have HE := Lib.hid he
  have HD := Lib.hid hd
  have c1 : w.cell? ⟨P, 263, none⟩ = some (.bool s.done) := hb.cell (by omega)
  have c2 : w.cell? ⟨P, 264, none⟩ = some (.int .i64 s.trap) := hb.cell (by omega)
  have f1 := hb.free 263
  have f2 := hb.free 264
  clear hb he hd
  go_enter Try.func96, Try.ntmps96
  go_wp2_with fail
  go_end0
  have hb1 : MacB P (w.setCell ⟨P, 263, none⟩ (.bool true)) { s with done := true } q :=
    HB.out.set (set_mid (by omega) (by omega) rfl rfl rfl (mid_cases (fun _ => rfl) (fun _ => rfl) (fun _ => rfl) (fun _ => rfl) (fun h => absurd rfl h) (fun _ => rfl) (fun _ => rfl) (fun _ => rfl) (fun _ => rfl)))
  have hb2 : MacB P ((w.setCell ⟨P, 263, none⟩ (.bool true)).setCell ⟨P, 264, none⟩ (.int .i64 t)) (trapS s t) q :=
    hb1.set (set_mid (by omega) (by omega) rfl rfl rfl (mid_cases (fun _ => rfl) (fun _ => rfl) (fun _ => rfl) (fun _ => rfl) (fun _ => rfl) (fun h => absurd rfl h) (fun _ => rfl) (fun _ => rfl) (fun _ => rfl)))
  refine ⟨rfl, mac_of hb2 HE.out HD.out hP hK (by simp [World.setCell]) (fun k hk hne => (set_others k (by simpa [World.setCell] using hk) hne).trans (set_others k hk hne)) rfl rfl rfl, ?_⟩
  exact ((BB.refl K P w).setCell (p := ⟨P, 263, none⟩) (.inl rfl) _).setCell (p := ⟨P, 264, none⟩) (.inl rfl) _
end Go.Proofs.Ytcjmhdneelmbhaa

/- The machine's registers are set; a function is entered; a word of memory. -/
namespace Go.Proofs.Ytcjmhdneelmbhaa
open Go.ChangeShapes Go.WideShapes Go.RowKit Go.Deep
set_option linter.unusedVariables false

def withR (s : St) (f : Nat → Int) : St := { s with cur := { s.cur with regs := f } }
def putR (r : Nat → Int) : Nat → List Int → (Nat → Int)
  | _, [] => r
  | n, v :: l => putR (upd r n v) (n + 1) l
theorem putR_at (l : List Int) : ∀ (r : Nat → Int) (n i : Nat), putR r n l i = if n ≤ i ∧ i < n + l.length then l.getD (i - n) 0 else r i := by
  induction l with
  | nil => intro r n i; simp [putR]; omega
  | cons v l ih =>
    intro r n i
    simp only [putR, ih, List.length_cons]
    by_cases h : i = n
    · subst h
      rw [if_neg (show ¬ (i + 1 ≤ i ∧ i < i + 1 + l.length) by omega), if_pos (show i ≤ i ∧ i < i + (l.length + 1) by omega)]
      simp [upd]
    · by_cases h2 : n + 1 ≤ i ∧ i < n + 1 + l.length
      · rw [if_pos h2, if_pos (show n ≤ i ∧ i < n + (l.length + 1) by omega), show i - n = (i - (n + 1)) + 1 by omega, List.getD_cons_succ]
      · rw [if_neg h2, if_neg (show ¬ (n ≤ i ∧ i < n + (l.length + 1)) by omega)]
        unfold upd; rw [if_neg h]
theorem MacB.withR {P : Nat} {w : World} {s : St} {q : MV} (h : MacB P w s q) {f : Nat → Int} (hf : ∀ i, i < 256 → f i = s.cur.regs i) : MacB P w (withR s f) q := by
  have e : macC s q = macC (Go.Proofs.Ytcjmhdneelmbhaa.withR s f) q := by
    apply Array.ext
    · rw [macC_size, macC_size]
    · intro j h1 h2
      have hj : j < 332 := Nat.lt_of_lt_of_eq h1 (macC_size s q)
      simp only [macC, Array.getElem_ofFn]
      by_cases h1 : j < 3
      · rw [cellM_lo _ _ h1, cellM_lo _ _ h1]; rfl
      · by_cases h2 : j < 259
        · rw [cellM_regs _ _ (Nat.not_lt.1 h1) h2, cellM_regs _ _ (Nat.not_lt.1 h1) h2]
          show _ = Value.int .i64 (f (j - 3)); rw [hf (j - 3) (by omega)]
        · by_cases h3 : j < 268
          · rw [cellM_mid _ _ (Nat.not_lt.1 h2) h3, cellM_mid _ _ (Nat.not_lt.1 h2) h3]; rfl
          · rw [cellM_hi _ _ (Nat.not_lt.1 h3), cellM_hi _ _ (Nat.not_lt.1 h3)]; rfl
  exact Eq.trans h (by rw [e])
theorem mac_cells (K : Nat) {P : Nat} {q : MV} (hP : P < K) : ∀ (l : List Int) (n : Nat) (w : World) (s : St), MacB P w s q → n + l.length ≤ 256 →
    MacB P (w.setCells P (3 + n) (l.map (Value.int .i64))) (withR s (putR s.cur.regs n l)) q ∧ BB K P w (w.setCells P (3 + n) (l.map (Value.int .i64))) ∧ (w.setCells P (3 + n) (l.map (Value.int .i64))).heap.size = w.heap.size ∧
      ∀ k, k < w.heap.size → k ≠ P → (w.setCells P (3 + n) (l.map (Value.int .i64))).heap[k]? = w.heap[k]? := by
  intro l
  induction l with
  | nil => intro n w s h hn; exact ⟨h, BB.refl _ _ _, rfl, fun _ _ _ => rfl⟩
  | cons v l ih =>
    intro n w s h hn
    simp only [List.length_cons] at hn
    have h1 : MacB P (w.setCell ⟨P, 3 + n, none⟩ (.int .i64 v)) (withR s (upd s.cur.regs n v)) q := h.set (set_reg s q n v (by omega) rfl)
    obtain ⟨i1, i2, i3, i4⟩ := ih (n + 1) _ _ h1 (by omega)
    simp only [List.map_cons, World.setCells]
    rw [show 3 + n + 1 = 3 + (n + 1) by omega]
    have hsz : (w.setCell ⟨P, 3 + n, none⟩ (.int .i64 v)).heap.size = w.heap.size := by simp [World.setCell]
    refine ⟨i1, ((BB.refl K P w).setCell (p := ⟨P, 3 + n, none⟩) (.inl rfl) _).trans i2, by rw [i3, hsz], fun k hk hne => (i4 k (by rw [hsz]; exact hk) hne).trans (set_others k hk hne)⟩

theorem zero_cells (n : Nat) : (List.replicate n (0 : Int)).map (Value.int .i64) = List.replicate n (.int .i64 0) := by simp

theorem zero64 (w : World) : (zeroValue 2).run Try.prog w = .ok (.int .i64 0) w := by kernel_rfl
theorem Try.info2 : (Try.prog.info? 2).map (fun i => (i.zero, i.size, i.bytes)) = some (some (.int .i64 0), 1, 8) := by kernel_rfl
theorem size64 : (Try.prog.info? 2).map (·.size) = some 1 := by kernel_rfl
theorem ones (l : List Int) : ∀ v ∈ l.map (Value.int .i64), v.oneCell' = true := fun v hv => by
  obtain ⟨x, _, rfl⟩ := List.mem_map.1 hv; rfl
/-- Numbers are copied into the machine's registers. -/
theorem copy_regs {K P : Nat} {m : List FunD} {w : World} {s : St} {q : MV} (hb : MacB P w s q) {l : List Int} {A : Option Addr} {c : Nat} (hs : SL w 1 RW A c l) (hl : l.length ≤ 256) (ty : TypeId) :
    (Builtin.copy_ #[25, 25] ty #[.slice (some ⟨P, 3, none⟩) 256 256, .slice A l.length c]).run Try.prog w = .ok (goInt l.length) (w.setCells P 3 (l.map (Value.int .i64))) := by
  obtain ⟨hll, hc, hcs⟩ := hs
  by_cases h0 : l.length = 0
  · have : l = [] := List.length_eq_zero_iff.1 h0
    subst this
    exact run_copy_none w _ _ ty 2 _ A 256 256 0 c Try.underlying25 size64 (by simp)
  · obtain ⟨b, o, rfl, hx⟩ := hcs (by omega)
    have := run_copy_cells (P := Try.prog) w 25 25 ty 2 P 3 256 256 ⟨b, o, none⟩ l.length c (l.map (Value.int .i64)) Try.underlying25 size64 (by rw [List.length_map]; exact (Nat.min_eq_left hl).symm)
      (fun j v hj => by
        rw [List.getElem?_map] at hj
        obtain ⟨x, hx1, rfl⟩ := Option.map_eq_some_iff.1 hj
        rw [add_plain']
        have := hx j x hx1
        rwa [Nat.mul_one] at this)
      (fun j hj => by rw [List.length_map] at hj; rw [hb.cell (by omega)]; rfl) (fun j _ => hb.free _) (ones l)
    rwa [List.length_map] at this
/-- The rest of them is cleared. -/
theorem clear_regs {P n : Nat} {w : World} {s : St} {q : MV} (hb : MacB P w s q) (hn : n < 256) (c : Nat) (ty : TypeId) :
    (Builtin.clear_ #[25] ty #[.slice (some ⟨P, 3 + n, none⟩) (256 - n) c]).run Try.prog w = .ok (.tuple #[]) (w.setCells P (3 + n) ((List.replicate (256 - n) (0 : Int)).map (Value.int .i64))) := by
  rw [zero_cells]
  exact Lib.run_clear_slice w 25 2 ty (.int .i64 0) Try.underlying25 zero64 rfl rfl P (3 + n) (256 - n) c (by omega) (fun j hj => by rw [hb.cell (by omega)]; rfl) (fun j _ => hb.free _)
theorem clear_none {w : World} (A : Option Addr) (c : Nat) (ty : TypeId) : (Builtin.clear_ #[25] ty #[.slice A 0 c]).run Try.prog w = .ok (.tuple #[]) w := by
  cases A <;> simp [Builtin.clear_, run_underlying Try.underlying25]

set_option maxRecDepth 100000 in
set_option maxHeartbeats 4000000 in
theorem setRegs_any (K P : Nat) (m : List FunD) (w : World) (s : St) (rd l : List Int) (v : Value) (h : Mac K P m w s rd) (hv : VS w 1 RW v l) (hl : l.length ≤ 256) :
    Calls Try.prog 60 #[.pointer (some ⟨P, 0, none⟩), v] w (ToldM K P m w (withR s (firstR l)) rd) := by
  obtain ⟨q, hb, he, hd, hP, hK⟩ := h
  obtain ⟨A, c, rfl, hs⟩ := hv
  have HB := Lib.hid hb
  have HE := Lib.hid he
  have HD := Lib.hid hd
  have HL := Lib.hid hl
  obtain ⟨g1, g2, g3, g4⟩ := mac_cells K hP l 0 w s hb (by omega)
  have hcp := copy_regs (K := K) (m := m) hb hs hl
  have HG := Lib.hid (And.intro g1 (And.intro g2 (And.intro g3 g4)))
  clear hb he hd hs g1 g2 g3 g4
  obtain ⟨n, hn⟩ : ∃ n, l.length = n := ⟨_, rfl⟩
  have HN := Lib.hid hn
  simp only [hn] at hcp hl
  simp only [hn]
  clear hn
  by_cases h256 : n = 256
  · have hcl := fun (A : Option Addr) (c : Nat) (ty : TypeId) => clear_none (w := w.setCells P 3 (l.map (Value.int .i64))) A c ty
    subst h256
    clear hl
    go_enter Try.func60, Try.ntmps60
    go_wp2_with (simp only [hcp, hcl])
    go_end0
    obtain ⟨g1, g2, g3, g4⟩ := HG.out
    have g5 := g1.withR (f := firstR l) (fun i hi => by
      show firstR l i = putR s.cur.regs 0 l i
      rw [putR_at, if_pos (by rw [HN.out]; omega)]; rfl)
    exact ⟨rfl, mac_of g5 HE.out HD.out hP hK (Nat.le_of_eq g3.symm) g4 rfl rfl rfl, g2⟩
  · have hlt : n < 256 := by omega
    obtain ⟨g1, g2, g3, g4⟩ := HG.out
    obtain ⟨k1, k2, k3, k4⟩ := mac_cells K hP (List.replicate (256 - n) 0) n _ _ g1 (by rw [List.length_replicate]; omega)
    have hcl := fun (c : Nat) (ty : TypeId) => clear_regs g1 hlt c ty
    have HG2 := Lib.hid (And.intro k1 (And.intro k2 (And.intro k3 k4)))
    simp only [Nat.add_zero] at hcl
    clear g1 g2 g3 g4 k1 k2 k3 k4 h256
    have hn0 : (n : Int) ≤ 256 := by omega
    have hne : ¬ (256 - n = 0) := by omega
    go_enter Try.func60, Try.ntmps60
    go_wp2_with (simp only [hcp, hcl])
    go_end0
    rw [← zero_cells]
    obtain ⟨g1, g2, g3, g4⟩ := HG.out
    obtain ⟨k1, k2, k3, k4⟩ := HG2.out
    have g5 := k1.withR (f := firstR l) (fun i hi => by
      show firstR l i = putR (putR s.cur.regs 0 l) n (List.replicate (256 - n) 0) i
      rw [putR_at, putR_at]
      by_cases h : n ≤ i
      · rw [if_pos (by rw [List.length_replicate]; omega)]
        unfold firstR
        rw [List.getD_eq_getElem?_getD, List.getElem?_eq_none (by rw [HN.out]; omega), List.getD_eq_getElem?_getD, List.getElem?_replicate, if_pos (by omega)]; rfl
      · rw [if_neg (by omega), if_pos (by rw [HN.out]; omega)]; rfl)
    exact ⟨rfl, mac_of g5 HE.out HD.out hP hK (Nat.le_of_eq (k3.trans g3).symm) (fun k hk hne => (k4 k (Nat.lt_of_lt_of_eq hk g3.symm) hne).trans (g4 k hk hne)) rfl rfl rfl, g2.trans k2⟩

theorem word_yes (P k : Nat) (w : World) (hk : k < 64) : Calls Try.prog 82 #[.pointer (some ⟨P, 0, none⟩), .int .i64 k] w fun e w' => e = .returned (.pointer (some ⟨P, 268 + k, none⟩)) ∧ w = w' := by
  have HW := Lib.hid (within_any k 64 w)
  have hd : decide ((0 : Int) ≤ k ∧ (k : Int) < (64 : Nat)) = true := decide_eq_true (by omega)
  have h0 : (0 : Int) ≤ k := by omega
  have h1 : (k : Int) < 64 := by omega
  go_enter Try.func82, Try.ntmps82
  go_wp2_with fail
  refine HW.out.mono ?_
  rintro e w' ⟨rfl, rfl⟩
  rw [hd]
  go_wp2_with fail
  go_ret
  exact ⟨rfl, rfl⟩
theorem word_no (K P : Nat) (m : List FunD) (w : World) (s : St) (rd : List Int) (a : Int) (h : Mac K P m w s rd) (ha : ¬ (0 ≤ a ∧ a < 64)) :
    Calls Try.prog 82 #[.pointer (some ⟨P, 0, none⟩), .int .i64 a] w fun e w' => e = .returned (.pointer none) ∧ Mac K P m w' (trapS s 2) rd ∧ BB K P w w' := by
  have HW := Lib.hid (within_any a 64 w)
  have HT := Lib.hid (trap_any K P m w s rd 2 h)
  have hd : decide ((0 : Int) ≤ a ∧ a < (64 : Nat)) = false := decide_eq_false (by omega)
  clear ha h
  go_enter Try.func82, Try.ntmps82
  go_wp2_with fail
  refine HW.out.mono ?_
  rintro e w' ⟨rfl, rfl⟩
  rw [hd]
  go_wp2_with fail
  refine HT.out.mono ?_
  rintro e w' ⟨rfl, h1, h2⟩
  go_wp2_with fail
  go_ret
  exact ⟨rfl, h1, h2⟩

/-- The place is set. -/
theorem mac_place (K : Nat) {P : Nat} {w : World} {s : St} {q : MV} (hb : MacB P w s q) (f b a : Nat) :
    MacB P (((w.setCell ⟨P, 0, none⟩ (.int .i64 f)).setCell ⟨P, 1, none⟩ (.int .i64 b)).setCell ⟨P, 2, none⟩ (.int .i64 a)) { s with cur := ⟨f, b, a, s.cur.regs⟩ } q ∧
    BB K P w (((w.setCell ⟨P, 0, none⟩ (.int .i64 f)).setCell ⟨P, 1, none⟩ (.int .i64 b)).setCell ⟨P, 2, none⟩ (.int .i64 a)) ∧
    (((w.setCell ⟨P, 0, none⟩ (.int .i64 f)).setCell ⟨P, 1, none⟩ (.int .i64 b)).setCell ⟨P, 2, none⟩ (.int .i64 a)).heap.size = w.heap.size ∧
    ∀ k, k < w.heap.size → k ≠ P → (((w.setCell ⟨P, 0, none⟩ (.int .i64 f)).setCell ⟨P, 1, none⟩ (.int .i64 b)).setCell ⟨P, 2, none⟩ (.int .i64 a)).heap[k]? = w.heap[k]? := by
  have h0 : MacB P (w.setCell ⟨P, 0, none⟩ (.int .i64 f)) { s with cur := ⟨f, s.cur.blk, s.cur.at_, s.cur.regs⟩ } q :=
    hb.set (set_place (by omega) rfl (fun j _ hj => by unfold placeC; rw [if_neg hj, if_neg hj]) rfl rfl (fun _ => rfl))
  have h1 : MacB P ((w.setCell ⟨P, 0, none⟩ (.int .i64 f)).setCell ⟨P, 1, none⟩ (.int .i64 b)) { s with cur := ⟨f, b, s.cur.at_, s.cur.regs⟩ } q :=
    h0.set (set_place (by omega) rfl (fun j _ hj => by
      unfold placeC
      by_cases h : j = 0
      · rw [if_pos h, if_pos h]
      · rw [if_neg h, if_neg h, if_neg hj, if_neg hj]) rfl rfl (fun _ => rfl))
  have h2 : MacB P (((w.setCell ⟨P, 0, none⟩ (.int .i64 f)).setCell ⟨P, 1, none⟩ (.int .i64 b)).setCell ⟨P, 2, none⟩ (.int .i64 a)) { s with cur := ⟨f, b, a, s.cur.regs⟩ } q :=
    h1.set (set_place (by omega) rfl (fun j hj hne => by
      unfold placeC
      by_cases h : j = 0
      · rw [if_pos h, if_pos h]
      · rw [if_neg h, if_neg h, if_pos (by omega), if_pos (by omega)]) rfl rfl (fun _ => rfl))
  refine ⟨h2, (((BB.refl K P w).setCell (p := ⟨P, 0, none⟩) (.inl rfl) _).setCell (p := ⟨P, 1, none⟩) (.inl rfl) _).setCell (p := ⟨P, 2, none⟩) (.inl rfl) _, by simp [World.setCell], fun k hk hne => ?_⟩
  exact (set_others k (by simpa [World.setCell] using hk) hne).trans ((set_others k (by simpa [World.setCell] using hk) hne).trans (set_others k hk hne))
/-- What lies in other blocks reads as it did. -/
theorem vs_others {P : Nat} {w w' : World} {v : Value} {l : List Int} (h : VS w 1 (RWB (fun b => b ≠ P)) v l) (hk : ∀ k, k < w.heap.size → k ≠ P → w'.heap[k]? = w.heap[k]?) : VS w' 1 (RWB (fun b => b ≠ P)) v l := by
  obtain ⟨A, c, e, hs⟩ := h
  exact ⟨A, c, e, SL.imp (fun b o x hx => ⟨hx.1, (World.cell?_of_block (a := ⟨b, o, none⟩) (hk b (block_lt_of_cell hx.2) hx.1)).trans hx.2⟩) hs⟩
theorem vs_plain {B : Nat → Prop} {w : World} {v : Value} {l : List Int} (h : VS w 1 (RWB B) v l) : VS w 1 RW v l := by
  obtain ⟨A, c, e, hs⟩ := h
  exact ⟨A, c, e, SL.imp (fun b o x hx => hx.2) hs⟩

theorem enter_any (K P : Nat) (m : List FunD) (w : World) (s : St) (rd l : List Int) (v : Value) (f : Nat) (h : Mac K P m w s rd) (hv : VS w 1 (RWB (fun b => b ≠ P)) v l) (hl : l.length ≤ 256) :
    Calls Try.prog 43 #[.pointer (some ⟨P, 0, none⟩), .int .i64 f, v] w (ToldM K P m w (enterS s f l) rd) := by
  obtain ⟨q, hb, he, hd, hP, hK⟩ := h
  have HB := Lib.hid hb
  have HE := Lib.hid he
  have HD := Lib.hid hd
  have HV := Lib.hid hv
  have c0 : w.cell? ⟨P, 0, none⟩ = some (.int .i64 s.cur.fn) := hb.cell (by omega)
  have c1 : w.cell? ⟨P, 1, none⟩ = some (.int .i64 s.cur.blk) := hb.cell (by omega)
  have c2 : w.cell? ⟨P, 2, none⟩ = some (.int .i64 s.cur.at_) := hb.cell (by omega)
  have f0 := hb.free 0
  have f1 := hb.free 1
  have f2 := hb.free 2
  clear hb he hd hv
  go_enter Try.func43, Try.ntmps43
  go_wp2_with fail
  obtain ⟨g1, g2, g3, g4⟩ := mac_place K HB.out f 0 0
  have hm1 := mac_of g1 HE.out HD.out hP hK (Nat.le_of_eq g3.symm) g4 rfl rfl rfl
  have hv1 := vs_plain (vs_others HV.out g4)
  have hb1 := Lib.hid g2
  clear g1 g2 g3 g4
  refine (setRegs_any K P m _ _ rd l v hm1 hv1 hl).mono ?_
  rintro e w' ⟨rfl, h1, h2⟩
  go_wp2_with fail
  go_end0
  exact ⟨rfl, h1, hb1.out.trans h2⟩
end Go.Proofs.Ytcjmhdneelmbhaa
