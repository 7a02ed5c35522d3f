/- What the document says of proper functions and modules, as functions over lists: plain mathematics. -/
import Derived.Test.YtoidhjmhakajlaaAheadL
namespace Go.Proofs.Ytoidhjmhakajlaa
open Go.RowKit
set_option linter.unusedVariables false

/-- The first that is not 0. -/
def firstE : List Int → Int
  | [] => 0
  | x :: r => if x = 0 then firstE r else x
theorem firstE_append (a b : List Int) : firstE (a ++ b) = if firstE a = 0 then firstE b else firstE a := by
  induction a with
  | nil => simp [firstE]
  | cons x r ih =>
    simp only [List.cons_append, firstE]
    by_cases h : x = 0
    · simp only [if_pos h, ih]
    · simp only [if_neg h]
theorem firstE_snoc {l : List Int} {k : Nat} {x : Int} (h : l[k]? = some x) (h0 : firstE (l.take k) = 0) : firstE (l.take (k + 1)) = x := by
  rw [take_succ_of h, firstE_append, if_pos h0]
  simp only [firstE]
  split <;> simp_all
theorem firstE_stop {l : List Int} {k : Nat} {x : Int} (h : l[k]? = some x) (h0 : firstE (l.take k) = 0) (hx : x ≠ 0) : firstE l = x := by
  have e : l = l.take (k + 1) ++ l.drop (k + 1) := (List.take_append_drop _ _).symm
  rw [e, firstE_append, firstE_snoc h h0, if_neg hx]
theorem firstE_zero {l : List Int} : firstE l = 0 ↔ ∀ x ∈ l, x = 0 := by
  induction l with
  | nil => simp [firstE]
  | cons x r ih =>
    simp only [firstE, List.mem_cons, forall_eq_or_imp]
    by_cases h : x = 0
    · simp [h, ih]
    · simp [h]
theorem map_at {α β : Type} {l : List α} {k : Nat} {x : α} (f : α → β) (h : l[k]? = some x) : (l.map f)[k]? = some (f x) := by rw [List.getElem?_map, h]; rfl
theorem map_take {α β : Type} (l : List α) (k : Nat) (f : α → β) : (l.map f).take k = (l.take k).map f := List.map_take.symm

/-- Its type. -/
def reg (regs : List Int) (r : Int) : Int := regs.getD r.toNat 0

def itemsK (bs : List BlkD) : Nat := (bs.map fun b => b.phis.length + b.ins.length).sum
def withinB (f : FunD) : Bool := decide (1 ≤ f.blocks.length ∧ f.blocks.length ≤ 64 ∧ f.regs.length ≤ 256 ∧ f.blocks.length + itemsK f.blocks ≤ 256)
def isTy (t : Int) : Bool := decide (t = 1 ∨ t = 2)
def typedB (f : FunD) : Bool := f.regs.all isTy && decide (0 ≤ f.params ∧ f.params ≤ 8 ∧ f.params ≤ f.regs.length) && decide (f.result = 0 ∨ f.result = 1 ∨ f.result = 2)
def tosB (t : TermD) : Bool :=
  if t.kind = 1 then decide (t.to.length = 1) else if t.kind = 2 then decide (t.to.length = 2) && decide (t.to.getD 0 0 ≠ t.to.getD 1 0) else if t.kind = 3 then decide (t.to.length = 0) else false
def toB (n : Nat) (x : Int) : Bool := decide (x ≠ 0 ∧ 0 ≤ x ∧ x < n)
def shapeB (n : Nat) (t : TermD) : Bool := tosB t && t.to.all (toB n)
def endsWellB (f : FunD) : Bool := f.blocks.all fun b => shapeB f.blocks.length b.term
/-- Each phi of block i and those behind it has as many Args as there are blocks ahead. -/
def meetK (bs : List BlkD) : List BlkD → Nat → Bool
  | [], _ => true
  | b :: r, i => b.phis.all (fun p => decide (p.args.length = (aheadL bs i).length)) && meetK bs r (i + 1)
def meetB (f : FunD) : Bool := meetK f.blocks f.blocks 0
/-- The rules 1 to 4. -/
def outerE (f : FunD) : Int := if withinB f then (if typedB f then (if endsWellB f && meetB f then 0 else 6) else 3) else 5

def areAtB (l : List Int) (n : Int) : Bool := l.all fun a => decide (0 ≤ a ∧ a < n)
def phiE (f : FunD) (p : PhiD) : Int :=
  if decide (0 ≤ p.dst ∧ p.dst < f.regs.length) && areAtB p.args f.regs.length then (if p.args.all fun a => decide (reg f.regs a = reg f.regs p.dst) then 0 else 3) else 4
def wantOf (f : FunD) (t : TermD) : Int := if t.kind = 2 then 2 else if t.kind = 3 then f.result else 0
def termE (f : FunD) (t : TermD) : Int :=
  if wantOf f t = 0 then (if t.arg = -1 then 0 else 3) else if 0 ≤ t.arg ∧ t.arg < f.regs.length then (if reg f.regs t.arg = wantOf f t then 0 else 3) else 4

theorem itemsK_step {bs : List BlkD} {k : Nat} {b : BlkD} (h : bs[k]? = some b) : itemsK (bs.take (k + 1)) = itemsK (bs.take k) + (b.phis.length + b.ins.length) := by
  unfold itemsK; rw [take_succ_of h]; simp
theorem all_step {α : Type} {l : List α} {k : Nat} {x : α} {p : α → Bool} (h : l[k]? = some x) (h0 : (l.take k).all p = true) : (l.take (k + 1)).all p = p x := by
  rw [take_succ_of h, List.all_append, h0]; simp
theorem all_stop {α : Type} {l : List α} {k : Nat} {x : α} {p : α → Bool} (h : l[k]? = some x) (hx : p x = false) : l.all p = false := by
  rw [List.all_eq_false]
  exact ⟨x, List.mem_of_getElem? h, by simp [hx]⟩
theorem all_done {α : Type} {l : List α} {k : Nat} {p : α → Bool} (h : (l.take k).all p = true) (hk : l.length ≤ k) : l.all p = true := by rwa [List.take_of_length_le hk] at h

theorem meetK_append (bs l r : List BlkD) (i : Nat) : meetK bs (l ++ r) i = (meetK bs l i && meetK bs r (i + l.length)) := by
  induction l generalizing i with
  | nil => simp [meetK]
  | cons b l ih => simp only [List.cons_append, meetK, ih, List.length_cons, Bool.and_assoc]; congr 3; omega
def meetUp (bs : List BlkD) (k : Nat) : Bool := meetK bs (bs.take k) 0
theorem meetUp_zero (bs : List BlkD) : meetUp bs 0 = true := rfl
theorem meetUp_step {bs : List BlkD} {k : Nat} {b : BlkD} (h : bs[k]? = some b) (h0 : meetUp bs k = true) : meetUp bs (k + 1) = b.phis.all (fun p => decide (p.args.length = (aheadL bs k).length)) := by
  have hk : k < bs.length := (List.getElem?_eq_some_iff.1 h).1
  unfold meetUp at h0 ⊢
  rw [take_succ_of h, meetK_append, h0, List.length_take, Nat.min_eq_left (by omega), Nat.zero_add]
  simp [meetK]
theorem meetUp_stop {bs : List BlkD} {k : Nat} {b : BlkD} (h : bs[k]? = some b) (hb : b.phis.all (fun p => decide (p.args.length = (aheadL bs k).length)) = false) : meetK bs bs 0 = false := by
  have hk : k < bs.length := (List.getElem?_eq_some_iff.1 h).1
  have e : bs = bs.take (k + 1) ++ bs.drop (k + 1) := (List.take_append_drop _ _).symm
  have h2 : meetK bs (bs.take (k + 1)) 0 = false := by
    rw [take_succ_of h, meetK_append, List.length_take, Nat.min_eq_left (by omega), Nat.zero_add]
    simp only [meetK, hb, Bool.false_and, Bool.and_false]
  have h3 : meetK bs (bs.take (k + 1) ++ bs.drop (k + 1)) 0 = false := by rw [meetK_append, h2]; rfl
  rwa [← e] at h3
theorem meetUp_done {bs : List BlkD} {k : Nat} (h : meetUp bs k = true) (hk : bs.length ≤ k) : meetK bs bs 0 = true := by unfold meetUp at h; rwa [List.take_of_length_le hk] at h

theorem reg_of {regs : List Int} {r : Int} {x : Int} {k : Nat} (hr : r = k) (h : regs[k]? = some x) : reg regs r = x := by
  subst hr
  rw [reg, Int.toNat_natCast, List.getD_eq_getElem?_getD, h]; rfl
end Go.Proofs.Ytoidhjmhakajlaa
