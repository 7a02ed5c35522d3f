/- What the document says of instructions, blocks, functions and modules: plain mathematics. -/
import Derived.Test.YtoidhjmhakajlaaGreatDoorSpecJ
namespace Go.Proofs.YtoidhjmhakajlaaGreatDoor
open Go.RowKit
set_option linter.unusedVariables false

def isIn (n : Nat) (a : Int) : Bool := decide (0 ≤ a ∧ a < n)
/-- The type that stands for Dst's. -/
def dstT (f : FunD) (x : InsD) : Int := if isIn f.regs.length x.dst then reg f.regs x.dst else 1
/-- The types of an operation's arguments, and of its Dst (0: it has none); of a call nothing. -/
def sigOf (f : FunD) (x : InsD) : Option (List Int × Int) :=
  if x.op = 1 then some ([], dstT f x) else if x.op = 2 then some ([dstT f x], dstT f x) else if x.op = 12 ∨ x.op = 13 then some ([1, 1], 2) else if x.op = 14 then some ([2], 2)
  else if x.op = 15 then some ([1], 1) else if x.op = 16 then some ([1, 1], 0) else if x.op = 18 then some ([1], 0) else if 3 ≤ x.op ∧ x.op ≤ 11 then some ([1, 1], 1) else none
/-- Are the arguments of these types? -/
def typesB (regs : List Int) : List Int → List Int → Bool
  | a :: r, t :: s => decide (reg regs a = t) && typesB regs r s
  | _, _ => true
/-- What is amiss, where there are so many arguments: a register that isn't there, else a type. -/
def restE (f : FunD) (x : InsD) (ts : List Int) (d : Int) (bad : Bool) : Int :=
  if areAtB x.args f.regs.length && (decide (d = 0) || isIn f.regs.length x.dst) then
    (if typesB f.regs x.args ts && (if d = 0 then decide (x.dst = -1) else decide (0 < d ∧ reg f.regs x.dst = d)) && (decide (x.op = 1) || decide (x.imm = 0)) && (decide (x.op = 17) || decide (x.fn = 0)) && !bad then 0 else 3)
  else 4
def funAt (m : List FunD) (i : Int) : FunD := m.getD i.toNat default
def oddB (g : FunD) : Bool := decide (g.params < 0 ∨ (g.regs.length : Int) < g.params)
/-- The rules 5 and 6 of an instruction. -/
def insE (m : List FunD) (f : FunD) (x : InsD) : Int :=
  if x.op = 17 then
    (if isIn m.length x.fn then
      (if (x.args.length : Int) = (funAt m x.fn).params then restE f x (if oddB (funAt m x.fn) then [] else (funAt m x.fn).regs.take (funAt m x.fn).params.toNat) (funAt m x.fn).result (oddB (funAt m x.fn)) else 6) else 4)
  else match sigOf f x with
    | none => 6
    | some (ts, d) => if x.args.length = ts.length then restE f x ts d (decide (x.op = 1 ∧ d = 2 ∧ x.imm ≠ 0 ∧ x.imm ≠ 1)) else 6

def blockE (m : List FunD) (f : FunD) (b : BlkD) : Int :=
  if firstE (b.phis.map (phiE f)) = 0 then (if firstE (b.ins.map (insE m f)) = 0 then termE f b.term else firstE (b.ins.map (insE m f))) else firstE (b.phis.map (phiE f))
def funE (m : List FunD) (f : FunD) : Int := if outerE f = 0 then firstE (f.blocks.map (blockE m f)) else outerE f
/-- The first function that isn't proper, from number i on: its error, and its place; or 0 and -1. -/
def modK (m : List FunD) : List FunD → Nat → Int × Int
  | [], _ => (0, -1)
  | f :: r, i => if funE m f = 0 then modK m r (i + 1) else (funE m f, i)
def modE (m : List FunD) : Int × Int := if 32 < m.length then (5, -1) else modK m m 0
def noPhi (f : FunD) : Bool := f.blocks.all fun b => decide (b.phis.length = 0)
def plainK : List FunD → Nat → Int × Int
  | [], _ => (0, -1)
  | f :: r, i => if noPhi f then plainK r (i + 1) else (6, i)
def plainE (m : List FunD) : Int × Int := if (modE m).1 = 0 then plainK m 0 else modE m
def Proper (m : List FunD) : Prop := (modE m).1 = 0

theorem modK_append (m l r : List FunD) (i : Nat) : modK m (l ++ r) i = if (modK m l i).1 = 0 then modK m r (i + l.length) else modK m l i := by
  induction l generalizing i with
  | nil => simp [modK]
  | cons f l ih =>
    simp only [List.cons_append, modK]
    by_cases h : funE m f = 0
    · simp only [if_pos h, ih, List.length_cons]; congr 2; omega
    · simp only [if_neg h]
theorem modK_zero {m l : List FunD} {i : Nat} : (modK m l i).1 = 0 ↔ ∀ f ∈ l, funE m f = 0 := by
  induction l generalizing i with
  | nil => simp [modK]
  | cons f l ih =>
    simp only [modK, List.mem_cons, forall_eq_or_imp]
    by_cases h : funE m f = 0
    · simp [h, ih]
    · simp [h]
theorem modK_ok {m l : List FunD} {i : Nat} (h : (modK m l i).1 = 0) : modK m l i = (0, -1) := by
  induction l generalizing i with
  | nil => rfl
  | cons f l ih =>
    simp only [modK] at h ⊢
    by_cases hf : funE m f = 0
    · simp only [if_pos hf] at h ⊢; exact ih h
    · simp only [if_neg hf] at h; exact absurd h hf
theorem modK_step {m : List FunD} {k : Nat} {f : FunD} (h : m[k]? = some f) (h0 : (modK m (m.take k) 0).1 = 0) : modK m (m.take (k + 1)) 0 = if funE m f = 0 then (0, -1) else (funE m f, (k : Int)) := by
  have hk : k < m.length := (List.getElem?_eq_some_iff.1 h).1
  rw [take_succ_of h, modK_append, if_pos h0, List.length_take, Nat.min_eq_left (by omega), Nat.zero_add]
  simp [modK]
theorem modK_stop {m : List FunD} {k : Nat} {f : FunD} (h : m[k]? = some f) (h0 : (modK m (m.take k) 0).1 = 0) (hf : funE m f ≠ 0) : modK m m 0 = (funE m f, (k : Int)) := by
  have e : m = m.take (k + 1) ++ m.drop (k + 1) := (List.take_append_drop _ _).symm
  have h1 := modK_step h h0
  rw [if_neg hf] at h1
  have h2 : modK m (m.take (k + 1) ++ m.drop (k + 1)) 0 = (funE m f, (k : Int)) := by
    rw [modK_append, h1, if_neg (by exact hf)]
  rwa [← e] at h2
theorem plainK_append (l r : List FunD) (i : Nat) : plainK (l ++ r) i = if (plainK l i).1 = 0 then plainK r (i + l.length) else plainK l i := by
  induction l generalizing i with
  | nil => simp [plainK]
  | cons f l ih =>
    simp only [List.cons_append, plainK]
    by_cases h : noPhi f = true
    · simp only [if_pos h, ih, List.length_cons]; congr 2; omega
    · simp only [if_neg h]; simp
theorem plainK_step {m : List FunD} {k : Nat} {f : FunD} (h : m[k]? = some f) (h0 : plainK (m.take k) 0 = (0, -1)) : plainK (m.take (k + 1)) 0 = if noPhi f then (0, -1) else (6, (k : Int)) := by
  have hk : k < m.length := (List.getElem?_eq_some_iff.1 h).1
  rw [take_succ_of h, plainK_append, h0, List.length_take, Nat.min_eq_left (by omega), Nat.zero_add]
  simp [plainK]
theorem plainK_stop {m : List FunD} {k : Nat} {f : FunD} (h : m[k]? = some f) (h0 : plainK (m.take k) 0 = (0, -1)) (hf : noPhi f = false) : plainK m 0 = (6, (k : Int)) := by
  have e : m = m.take (k + 1) ++ m.drop (k + 1) := (List.take_append_drop _ _).symm
  have h1 := plainK_step h h0
  rw [hf] at h1
  have h2 : plainK (m.take (k + 1) ++ m.drop (k + 1)) 0 = (6, (k : Int)) := by
    rw [plainK_append, h1]; rfl
  rwa [← e] at h2

/-! ### A part of a module -/
theorem restE_congr (f : FunD) (x : InsD) (ts ts' : List Int) (d d' : Int) (b b' : Bool) (h1 : ts = ts') (h2 : d = d') (h3 : b = b') : restE f x ts d b = restE f x ts' d' b' := by rw [h1, h2, h3]
/-- An instruction that calls nothing beyond the part is told as in the whole. -/
theorem insE_part {m : List FunD} {n : Nat} (f : FunD) (x : InsD) (h : ¬ (x.op = 17 ∧ (n : Int) ≤ x.fn)) (hn : n ≤ m.length) : insE (m.take n) f x = insE m f x := by
  unfold insE
  by_cases h17 : x.op = 17
  · simp only [if_pos h17]
    have hlt : x.fn < n := by omega
    have h1 : isIn (m.take n).length x.fn = isIn m.length x.fn := by
      unfold isIn; rw [List.length_take, Nat.min_eq_left hn]; congr 1; rw [eq_iff_iff]; omega
    rw [h1]
    by_cases h0 : 0 ≤ x.fn
    · have h2 : funAt (m.take n) x.fn = funAt m x.fn := by
        unfold funAt; rw [List.getD_eq_getElem?_getD, List.getD_eq_getElem?_getD, List.getElem?_take_of_lt (by omega)]
      rw [h2]
    · have : isIn m.length x.fn = false := decide_eq_false (by omega)
      rw [this]; rfl
  · simp only [if_neg h17]
/-- One that does is refused. -/
theorem insE_beyond {m : List FunD} {n : Nat} (f : FunD) (x : InsD) (h : x.op = 17 ∧ (n : Int) ≤ x.fn) (hn : n ≤ m.length) : insE (m.take n) f x = 4 := by
  unfold insE
  rw [if_pos h.1, if_neg]
  unfold isIn
  rw [List.length_take, Nat.min_eq_left hn]
  simp; omega

def calls (n : Nat) (f : FunD) : Bool := f.blocks.any fun b => b.ins.any fun x => decide (x.op = 17 ∧ (n : Int) ≤ x.fn)

theorem blockE_zero {m : List FunD} {f : FunD} {b : BlkD} : blockE m f b = 0 ↔ (∀ p ∈ b.phis, phiE f p = 0) ∧ (∀ x ∈ b.ins, insE m f x = 0) ∧ termE f b.term = 0 := by
  unfold blockE
  have h1 : firstE (b.phis.map (phiE f)) = 0 ↔ ∀ p ∈ b.phis, phiE f p = 0 := by rw [firstE_zero]; simp
  have h2 : firstE (b.ins.map (insE m f)) = 0 ↔ ∀ x ∈ b.ins, insE m f x = 0 := by rw [firstE_zero]; simp
  rw [← h1, ← h2]
  split
  · split <;> simp_all
  · simp_all
theorem funE_zero {m : List FunD} {f : FunD} : funE m f = 0 ↔ outerE f = 0 ∧ ∀ b ∈ f.blocks, blockE m f b = 0 := by
  unfold funE
  have h1 : firstE (f.blocks.map (blockE m f)) = 0 ↔ ∀ b ∈ f.blocks, blockE m f b = 0 := by rw [firstE_zero]; simp
  rw [← h1]
  split <;> simp_all
theorem proper_iff {m : List FunD} : Proper m ↔ m.length ≤ 32 ∧ ∀ f ∈ m, funE m f = 0 := by
  unfold Proper modE
  split
  · simp; omega
  · rw [modK_zero]; simp; omega

/-- A PART of a proper module's functions is proper just where none of them calls one beyond it. -/
theorem part_proper {m : List FunD} {n : Nat} (h : Proper m) (hn : n ≤ m.length) : Proper (m.take n) ↔ (m.take n).any (calls n) = false := by
  obtain ⟨h1, h2⟩ := proper_iff.1 h
  rw [proper_iff]
  constructor
  · rintro ⟨_, h4⟩
    rw [List.any_eq_false]
    intro f hf hc
    unfold calls at hc
    obtain ⟨b, hb, hc⟩ := List.any_eq_true.1 hc
    obtain ⟨x, hx, hc⟩ := List.any_eq_true.1 hc
    have h5 := (funE_zero.1 (h4 f hf)).2 b hb
    have h6 := (blockE_zero.1 h5).2.1 x hx
    rw [insE_beyond f x (of_decide_eq_true hc) hn] at h6
    exact absurd h6 (by decide)
  · intro h3
    refine ⟨by rw [List.length_take]; omega, fun f hf => ?_⟩
    have hc := List.any_eq_false.1 h3 f hf
    obtain ⟨g1, g2⟩ := funE_zero.1 (h2 f (List.mem_of_mem_take hf))
    refine funE_zero.2 ⟨g1, fun b hb => ?_⟩
    obtain ⟨g3, g4, g5⟩ := blockE_zero.1 (g2 b hb)
    refine blockE_zero.2 ⟨g3, fun x hx => ?_, g5⟩
    rw [insE_part f x (fun hx2 => hc (List.any_eq_true.2 ⟨b, hb, List.any_eq_true.2 ⟨x, hx, decide_eq_true hx2⟩⟩)) hn]
    exact g4 x hx
end Go.Proofs.YtoidhjmhakajlaaGreatDoor
