/- What the document says of instructions, blocks, functions and modules: plain mathematics. -/
import Derived.Test.YtcjmhdneelmbhaaSpecJ
import Derived.RowKit
import Derived.IntWalk
import Derived.Laws.BitsAll
import Derived.Laws.Bits64
import Derived.Laws.Bits64b
namespace Go.Proofs.Ytcjmhdneelmbhaa
open Go.RowKit
set_option linter.unusedVariables false

def isIn (n : Nat) (a : Int) : Bool := decide (0 ≤ a ∧ a < n)
/-- The type that stands for Dst's. -/
def dstT (f : FunD) (x : InsD) : Int := if isIn f.regs.length x.dst then reg f.regs x.dst else 1
/-- The types of an operation's arguments, and of its Dst (0: it has none); of a call nothing. -/
def sigOf (f : FunD) (x : InsD) : Option (List Int × Int) :=
  if x.op = 1 then some ([], dstT f x) else if x.op = 2 then some ([dstT f x], dstT f x) else if x.op = 12 ∨ x.op = 13 then some ([1, 1], 2) else if x.op = 14 then some ([2], 2)
  else if x.op = 15 then some ([1], 1) else if x.op = 16 then some ([1, 1], 0) else if x.op = 18 then some ([1], 0) else if 3 ≤ x.op ∧ x.op ≤ 11 then some ([1, 1], 1) else none
/-- Are the arguments of these types? -/
def typesB (regs : List Int) : List Int → List Int → Bool
  | a :: r, t :: s => decide (reg regs a = t) && typesB regs r s
  | _, _ => true
/-- What is amiss, where there are so many arguments: a register that isn't there, else a type. -/
def restE (f : FunD) (x : InsD) (ts : List Int) (d : Int) (bad : Bool) : Int :=
  if areAtB x.args f.regs.length && (decide (d = 0) || isIn f.regs.length x.dst) then
    (if typesB f.regs x.args ts && (if d = 0 then decide (x.dst = -1) else decide (0 < d ∧ reg f.regs x.dst = d)) && (decide (x.op = 1) || decide (x.imm = 0)) && (decide (x.op = 17) || decide (x.fn = 0)) && !bad then 0 else 3)
  else 4
def funAt (m : List FunD) (i : Int) : FunD := m.getD i.toNat default
def oddB (g : FunD) : Bool := decide (g.params < 0 ∨ (g.regs.length : Int) < g.params)
/-- The rules 5 and 6 of an instruction. -/
def insE (m : List FunD) (f : FunD) (x : InsD) : Int :=
  if x.op = 17 then
    (if isIn m.length x.fn then
      (if (x.args.length : Int) = (funAt m x.fn).params then restE f x (if oddB (funAt m x.fn) then [] else (funAt m x.fn).regs.take (funAt m x.fn).params.toNat) (funAt m x.fn).result (oddB (funAt m x.fn)) else 6) else 4)
  else match sigOf f x with
    | none => 6
    | some (ts, d) => if x.args.length = ts.length then restE f x ts d (decide (x.op = 1 ∧ d = 2 ∧ x.imm ≠ 0 ∧ x.imm ≠ 1)) else 6

def blockE (m : List FunD) (f : FunD) (b : BlkD) : Int :=
  if firstE (b.phis.map (phiE f)) = 0 then (if firstE (b.ins.map (insE m f)) = 0 then termE f b.term else firstE (b.ins.map (insE m f))) else firstE (b.phis.map (phiE f))
def funE (m : List FunD) (f : FunD) : Int := if outerE f = 0 then firstE (f.blocks.map (blockE m f)) else outerE f
/-- The first function that isn't proper, from number i on: its error, and its place; or 0 and -1. -/
def modK (m : List FunD) : List FunD → Nat → Int × Int
  | [], _ => (0, -1)
  | f :: r, i => if funE m f = 0 then modK m r (i + 1) else (funE m f, i)
def modE (m : List FunD) : Int × Int := if 32 < m.length then (5, -1) else modK m m 0
def noPhi (f : FunD) : Bool := f.blocks.all fun b => decide (b.phis.length = 0)
def plainK : List FunD → Nat → Int × Int
  | [], _ => (0, -1)
  | f :: r, i => if noPhi f then plainK r (i + 1) else (6, i)
def plainE (m : List FunD) : Int × Int := if (modE m).1 = 0 then plainK m 0 else modE m
def Proper (m : List FunD) : Prop := (modE m).1 = 0

theorem modK_append (m l r : List FunD) (i : Nat) : modK m (l ++ r) i = if (modK m l i).1 = 0 then modK m r (i + l.length) else modK m l i := by
  induction l generalizing i with
  | nil => simp [modK]
  | cons f l ih =>
    simp only [List.cons_append, modK]
    by_cases h : funE m f = 0
    · simp only [if_pos h, ih, List.length_cons]; congr 2; omega
    · simp only [if_neg h]
theorem modK_zero {m l : List FunD} {i : Nat} : (modK m l i).1 = 0 ↔ ∀ f ∈ l, funE m f = 0 := by
  induction l generalizing i with
  | nil => simp [modK]
  | cons f l ih =>
    simp only [modK, List.mem_cons, forall_eq_or_imp]
    by_cases h : funE m f = 0
    · simp [h, ih]
    · simp [h]
theorem modK_ok {m l : List FunD} {i : Nat} (h : (modK m l i).1 = 0) : modK m l i = (0, -1) := by
  induction l generalizing i with
  | nil => rfl
  | cons f l ih =>
    simp only [modK] at h ⊢
    by_cases hf : funE m f = 0
    · simp only [if_pos hf] at h ⊢; exact ih h
    · simp only [if_neg hf] at h; exact absurd h hf
theorem modK_step {m : List FunD} {k : Nat} {f : FunD} (h : m[k]? = some f) (h0 : (modK m (m.take k) 0).1 = 0) : modK m (m.take (k + 1)) 0 = if funE m f = 0 then (0, -1) else (funE m f, (k : Int)) := by
  have hk : k < m.length := (List.getElem?_eq_some_iff.1 h).1
  rw [take_succ_of h, modK_append, if_pos h0, List.length_take, Nat.min_eq_left (by omega), Nat.zero_add]
  simp [modK]
theorem modK_stop {m : List FunD} {k : Nat} {f : FunD} (h : m[k]? = some f) (h0 : (modK m (m.take k) 0).1 = 0) (hf : funE m f ≠ 0) : modK m m 0 = (funE m f, (k : Int)) := by
  have e : m = m.take (k + 1) ++ m.drop (k + 1) := (List.take_append_drop _ _).symm
  have h1 := modK_step h h0
  rw [if_neg hf] at h1
  have h2 : modK m (m.take (k + 1) ++ m.drop (k + 1)) 0 = (funE m f, (k : Int)) := by
    rw [modK_append, h1, if_neg (by exact hf)]
  rwa [← e] at h2
theorem plainK_append (l r : List FunD) (i : Nat) : plainK (l ++ r) i = if (plainK l i).1 = 0 then plainK r (i + l.length) else plainK l i := by
  induction l generalizing i with
  | nil => simp [plainK]
  | cons f l ih =>
    simp only [List.cons_append, plainK]
    by_cases h : noPhi f = true
    · simp only [if_pos h, ih, List.length_cons]; congr 2; omega
    · simp only [if_neg h]; simp
theorem plainK_step {m : List FunD} {k : Nat} {f : FunD} (h : m[k]? = some f) (h0 : plainK (m.take k) 0 = (0, -1)) : plainK (m.take (k + 1)) 0 = if noPhi f then (0, -1) else (6, (k : Int)) := by
  have hk : k < m.length := (List.getElem?_eq_some_iff.1 h).1
  rw [take_succ_of h, plainK_append, h0, List.length_take, Nat.min_eq_left (by omega), Nat.zero_add]
  simp [plainK]
theorem plainK_stop {m : List FunD} {k : Nat} {f : FunD} (h : m[k]? = some f) (h0 : plainK (m.take k) 0 = (0, -1)) (hf : noPhi f = false) : plainK m 0 = (6, (k : Int)) := by
  have e : m = m.take (k + 1) ++ m.drop (k + 1) := (List.take_append_drop _ _).symm
  have h1 := plainK_step h h0
  rw [hf] at h1
  have h2 : plainK (m.take (k + 1) ++ m.drop (k + 1)) 0 = (6, (k : Int)) := by
    rw [plainK_append, h1]; rfl
  rwa [← e] at h2

/-! ### A part of a module -/
theorem restE_congr (f : FunD) (x : InsD) (ts ts' : List Int) (d d' : Int) (b b' : Bool) (h1 : ts = ts') (h2 : d = d') (h3 : b = b') : restE f x ts d b = restE f x ts' d' b' := by rw [h1, h2, h3]
/-- An instruction that calls nothing beyond the part is told as in the whole. -/
theorem insE_part {m : List FunD} {n : Nat} (f : FunD) (x : InsD) (h : ¬ (x.op = 17 ∧ (n : Int) ≤ x.fn)) (hn : n ≤ m.length) : insE (m.take n) f x = insE m f x := by
  unfold insE
  by_cases h17 : x.op = 17
  · simp only [if_pos h17]
    have hlt : x.fn < n := by omega
    have h1 : isIn (m.take n).length x.fn = isIn m.length x.fn := by
      unfold isIn; rw [List.length_take, Nat.min_eq_left hn]; congr 1; rw [eq_iff_iff]; omega
    rw [h1]
    by_cases h0 : 0 ≤ x.fn
    · have h2 : funAt (m.take n) x.fn = funAt m x.fn := by
        unfold funAt; rw [List.getD_eq_getElem?_getD, List.getD_eq_getElem?_getD, List.getElem?_take_of_lt (by omega)]
      rw [h2]
    · have : isIn m.length x.fn = false := decide_eq_false (by omega)
      rw [this]; rfl
  · simp only [if_neg h17]
/-- One that does is refused. -/
theorem insE_beyond {m : List FunD} {n : Nat} (f : FunD) (x : InsD) (h : x.op = 17 ∧ (n : Int) ≤ x.fn) (hn : n ≤ m.length) : insE (m.take n) f x = 4 := by
  unfold insE
  rw [if_pos h.1, if_neg]
  unfold isIn
  rw [List.length_take, Nat.min_eq_left hn]
  simp; omega

def calls (n : Nat) (f : FunD) : Bool := f.blocks.any fun b => b.ins.any fun x => decide (x.op = 17 ∧ (n : Int) ≤ x.fn)

theorem blockE_zero {m : List FunD} {f : FunD} {b : BlkD} : blockE m f b = 0 ↔ (∀ p ∈ b.phis, phiE f p = 0) ∧ (∀ x ∈ b.ins, insE m f x = 0) ∧ termE f b.term = 0 := by
  unfold blockE
  have h1 : firstE (b.phis.map (phiE f)) = 0 ↔ ∀ p ∈ b.phis, phiE f p = 0 := by rw [firstE_zero]; simp
  have h2 : firstE (b.ins.map (insE m f)) = 0 ↔ ∀ x ∈ b.ins, insE m f x = 0 := by rw [firstE_zero]; simp
  rw [← h1, ← h2]
  split
  · split <;> simp_all
  · simp_all
theorem funE_zero {m : List FunD} {f : FunD} : funE m f = 0 ↔ outerE f = 0 ∧ ∀ b ∈ f.blocks, blockE m f b = 0 := by
  unfold funE
  have h1 : firstE (f.blocks.map (blockE m f)) = 0 ↔ ∀ b ∈ f.blocks, blockE m f b = 0 := by rw [firstE_zero]; simp
  rw [← h1]
  split <;> simp_all
theorem proper_iff {m : List FunD} : Proper m ↔ m.length ≤ 32 ∧ ∀ f ∈ m, funE m f = 0 := by
  unfold Proper modE
  split
  · simp; omega
  · rw [modK_zero]; simp; omega

/-- A PART of a proper module's functions is proper just where none of them calls one beyond it. -/
theorem part_proper {m : List FunD} {n : Nat} (h : Proper m) (hn : n ≤ m.length) : Proper (m.take n) ↔ (m.take n).any (calls n) = false := by
  obtain ⟨h1, h2⟩ := proper_iff.1 h
  rw [proper_iff]
  constructor
  · rintro ⟨_, h4⟩
    rw [List.any_eq_false]
    intro f hf hc
    unfold calls at hc
    obtain ⟨b, hb, hc⟩ := List.any_eq_true.1 hc
    obtain ⟨x, hx, hc⟩ := List.any_eq_true.1 hc
    have h5 := (funE_zero.1 (h4 f hf)).2 b hb
    have h6 := (blockE_zero.1 h5).2.1 x hx
    rw [insE_beyond f x (of_decide_eq_true hc) hn] at h6
    exact absurd h6 (by decide)
  · intro h3
    refine ⟨by rw [List.length_take]; omega, fun f hf => ?_⟩
    have hc := List.any_eq_false.1 h3 f hf
    obtain ⟨g1, g2⟩ := funE_zero.1 (h2 f (List.mem_of_mem_take hf))
    refine funE_zero.2 ⟨g1, fun b hb => ?_⟩
    obtain ⟨g3, g4, g5⟩ := blockE_zero.1 (g2 b hb)
    refine blockE_zero.2 ⟨g3, fun x hx => ?_, g5⟩
    rw [insE_part f x (fun hx2 => hc (List.any_eq_true.2 ⟨b, hb, List.any_eq_true.2 ⟨x, hx, decide_eq_true hx2⟩⟩)) hn]
    exact g4 x hx
end Go.Proofs.Ytcjmhdneelmbhaa

/- What arith's operations make of numbers, in the model's own words, and the plain laws on them. No program in sight. -/
namespace Go.Proofs.Ytcjmhdneelmbhaa
open Go.RowKit

/-- By how many bits to shift. -/
def pl (b : Int) : Int := bits .and .u64 (IntKind.u64.wrap b) 63
def asN (x : Bool) : Int := if x then 1 else 0
/-- What an operation of two arguments comes to. -/
def two (op a b : Int) : Int :=
  if op = 3 then wrap64 (a + b)
  else if op = 4 then wrap64 (a - b)
  else if op = 5 then wrap64 (a * b)
  else if op = 6 then bits .and .i64 a b
  else if op = 7 then bits .or .i64 a b
  else if op = 8 then bits .xor .i64 a b
  else if op = 9 then wrap64 (a * 2 ^ min (pl b).toNat 64)
  else if op = 10 then a / 2 ^ min (pl b).toNat 64
  else if op = 11 then wrap64 (a.tdiv b)
  else if op = 12 then asN (decide (a < b))
  else asN (a == b)
def one (op a : Int) : Int := if op = 14 then wrap64 (1 - a) else a
def opArity (op : Int) : Int := if op = 2 ∨ op = 14 then 1 else if 3 ≤ op ∧ op ≤ 13 then 2 else 0
def opKnown (op : Int) : Bool := decide (2 ≤ op ∧ op ≤ 14)
def sameOp (op : Int) : Bool := decide (op = 3 ∨ op = 5 ∨ op = 6 ∨ op = 7 ∨ op = 8 ∨ op = 13)

theorem pl_eq (b : Int) : pl b = b % 64 := by
  have h1 := Int.emod_nonneg b (b := 18446744073709551616) (by decide)
  have h2 := Int.emod_lt_of_pos b (b := 18446744073709551616) (by decide)
  have h := bits_mask .u64 64 (by decide) (fun n h0 h1 => by rw [IntKind.wrap_u64]; omega) 6 (by decide) (IntKind.u64.wrap b) (by rw [IntKind.wrap_u64]; omega) (by rw [IntKind.wrap_u64]; omega)
  unfold pl
  rw [show (63 : Int) = 2 ^ 6 - 1 from rfl, h, IntKind.wrap_u64]
  omega
theorem pl_lo (b : Int) : 0 ≤ pl b := by rw [pl_eq]; omega
theorem pl_hi (b : Int) : pl b ≤ 63 := by rw [pl_eq]; omega
end Go.Proofs.Ytcjmhdneelmbhaa

/- A run, step by step, as a function over lists: plain mathematics. -/
namespace Go.Proofs.Ytcjmhdneelmbhaa
open Go.RowKit
set_option linter.unusedVariables false

/-- A function under way: where it is, and what its registers hold. -/
structure Fr where
  fn : Nat
  blk : Nat
  at_ : Nat
  regs : Nat → Int
/-- A run as it stands; of those that wait the last one comes first. -/
structure St where
  cur : Fr
  stack : List Fr
  done : Bool
  trap : Int
  value : Int
  out : List Int
  steps : Nat
  mem : Nat → Int

def upd (f : Nat → Int) (i : Nat) (v : Int) : Nat → Int := fun k => if k = i then v else f k
def firstR (l : List Int) : Nat → Int := fun k => l.getD k 0
def argsV (regs : Nat → Int) (l : List Int) : List Int := l.map fun r => regs r.toNat
def evalV (op : Int) (l : List Int) : Option Int :=
  if op = 2 ∨ op = 14 then some (one op (l.getD 0 0)) else if op = 11 ∧ l.getD 1 0 = 0 then none else some (two op (l.getD 0 0) (l.getD 1 0))
def blkAt (f : FunD) (i : Nat) : BlkD := f.blocks.getD i default
def trapS (s : St) (t : Int) : St := { s with done := true, trap := t }
def setR (s : St) (r : Int) (v : Int) : St := { s with cur := { s.cur with regs := upd s.cur.regs r.toNat v } }
def enterS (s : St) (f : Nat) (l : List Int) : St := { s with cur := ⟨f, 0, 0, firstR l⟩ }
def wordB (l : List Int) : Bool := decide (0 ≤ l.getD 0 0 ∧ l.getD 0 0 < 64)
/-- An instruction is done. -/
def doS (s : St) (x : InsD) : St :=
  if x.op = 1 then setR s x.dst x.imm
  else if x.op = 15 then (if wordB (argsV s.cur.regs x.args) then setR s x.dst (s.mem ((argsV s.cur.regs x.args).getD 0 0).toNat) else trapS s 2)
  else if x.op = 16 then (if wordB (argsV s.cur.regs x.args) then { s with mem := upd s.mem ((argsV s.cur.regs x.args).getD 0 0).toNat ((argsV s.cur.regs x.args).getD 1 0) } else trapS s 2)
  else if x.op = 18 then { s with out := s.out ++ [(argsV s.cur.regs x.args).getD 0 0] }
  else if x.op = 17 then enterS { s with stack := s.cur :: s.stack } x.fn.toNat (argsV s.cur.regs x.args)
  else match evalV x.op (argsV s.cur.regs x.args) with
    | some v => setR s x.dst v
    | none => trapS s 1
def setAll (r : Nat → Int) (l : List (Int × Int)) : Nat → Int := l.foldl (fun r p => upd r p.1.toNat p.2) r
/-- What the phis of a block read, of one that it is entered from. -/
def phiVals (f : FunD) (fr : Fr) (tb : Nat) : List Int := (blkAt f tb).phis.map fun p => fr.regs (p.args.getD ((aheadL f.blocks tb).idxOf (fr.blk : Int)) 0).toNat
def goToF (f : FunD) (fr : Fr) (tb : Nat) : Fr := { fr with blk := tb, at_ := 0, regs := setAll fr.regs (((blkAt f tb).phis.map PhiD.dst).zip (phiVals f fr tb)) }
def callOf (m : List FunD) (fr : Fr) : InsD := (blkAt (m.getD fr.fn default) fr.blk).ins.getD (fr.at_ - 1) default
def resumeF (m : List FunD) (fr : Fr) (v : Int) : Fr := if 0 ≤ (callOf m fr).dst then { fr with regs := upd fr.regs (callOf m fr).dst.toNat v } else fr
def giveS (m : List FunD) (s : St) (v : Int) : St := match s.stack with
  | [] => { s with done := true, value := v }
  | c :: r => { s with cur := resumeF m c v, stack := r }
def endS (m : List FunD) (s : St) (t : TermD) : St :=
  if t.kind = 3 then giveS m s (if 0 ≤ t.arg then s.cur.regs t.arg.toNat else 0)
  else if t.kind = 2 ∧ s.cur.regs t.arg.toNat = 0 then { s with cur := goToF (m.getD s.cur.fn default) s.cur (t.to.getD 1 0).toNat }
  else { s with cur := goToF (m.getD s.cur.fn default) s.cur (t.to.getD 0 0).toNat }
def blkOf (m : List FunD) (fr : Fr) : BlkD := blkAt (m.getD fr.fn default) fr.blk
def stepS (m : List FunD) (s : St) : St :=
  if s.cur.at_ = (blkOf m s.cur).ins.length then endS m s (blkOf m s.cur).term
  else doS { s with cur := { s.cur with at_ := s.cur.at_ + 1 } } ((blkOf m s.cur).ins.getD s.cur.at_ default)
def tickS (s : St) : St := { s with steps := s.steps + 1 }
/-- So many steps more, at most. -/
def loopS (m : List FunD) : Nat → St → St
  | 0, s => s
  | k + 1, s => if s.done then s else loopS m k (stepS m (tickS s))
def startS (f : Nat) (args : List Int) : St := ⟨⟨f, 0, 0, firstR args⟩, [], false, 0, 0, [], 0, fun _ => 0⟩
def runS (m : List FunD) (f : Nat) (args : List Int) (k : Nat) : St := loopS m k (startS f args)

/-! ### More steps -/
theorem loopS_done {m : List FunD} {k : Nat} {s : St} (h : s.done = true) : loopS m k s = s := by
  cases k with
  | zero => rfl
  | succ k => simp [loopS, h]
theorem loopS_add (m : List FunD) (k n : Nat) (s : St) : loopS m (k + n) s = loopS m n (loopS m k s) := by
  induction k generalizing s with
  | zero => simp [loopS]
  | succ k ih =>
    rw [show k + 1 + n = (k + n) + 1 by omega]
    by_cases h : s.done = true
    · rw [loopS_done h, loopS_done h, loopS_done h]
    · simp only [loopS, h, if_false, Bool.false_eq_true]; exact ih _
theorem loopS_succ (m : List FunD) (k : Nat) (s : St) : loopS m (k + 1) s = if (loopS m k s).done then loopS m k s else stepS m (tickS (loopS m k s)) := by
  rw [loopS_add]; simp [loopS]

theorem doS_steps (s : St) (x : InsD) : (doS s x).steps = s.steps := by
  unfold doS setR trapS enterS
  repeat' split
  all_goals rfl
theorem giveS_steps (m : List FunD) (s : St) (v : Int) : (giveS m s v).steps = s.steps := by unfold giveS; split <;> rfl
theorem endS_steps (m : List FunD) (s : St) (t : TermD) : (endS m s t).steps = s.steps := by
  unfold endS; split
  · exact giveS_steps m s _
  · split <;> rfl
theorem stepS_steps (m : List FunD) (s : St) : (stepS m s).steps = s.steps := by
  unfold stepS; split
  · exact endS_steps m s _
  · exact doS_steps _ _
theorem doS_out (s : St) (x : InsD) : ∃ r, (doS s x).out = s.out ++ r ∧ r.length ≤ 1 := by
  unfold doS setR trapS enterS
  repeat' split
  all_goals first | exact ⟨[_], rfl, by simp⟩ | exact ⟨[], (List.append_nil _).symm, by simp⟩
theorem giveS_out (m : List FunD) (s : St) (v : Int) : (giveS m s v).out = s.out := by unfold giveS; split <;> rfl
theorem endS_out (m : List FunD) (s : St) (t : TermD) : (endS m s t).out = s.out := by
  unfold endS; split
  · exact giveS_out m s _
  · split <;> rfl
theorem stepS_out (m : List FunD) (s : St) : ∃ r, (stepS m s).out = s.out ++ r ∧ r.length ≤ 1 := by
  unfold stepS; split
  · exact ⟨[], by rw [endS_out]; simp, by simp⟩
  · exact doS_out _ _
theorem loopS_out (m : List FunD) (k : Nat) (s : St) : ∃ r, (loopS m k s).out = s.out ++ r := by
  induction k generalizing s with
  | zero => exact ⟨[], by simp [loopS]⟩
  | succ k ih =>
    by_cases h : s.done = true
    · rw [loopS_done h]; exact ⟨[], by simp⟩
    · simp only [loopS, h, if_false, Bool.false_eq_true]
      obtain ⟨r, hr⟩ := ih (stepS m (tickS s))
      obtain ⟨r2, hr2, -⟩ := stepS_out m (tickS s)
      exact ⟨r2 ++ r, by rw [hr, hr2, List.append_assoc]; rfl⟩
theorem loopS_steps (m : List FunD) (k : Nat) (s : St) : s.steps ≤ (loopS m k s).steps ∧ (loopS m k s).steps ≤ s.steps + k ∧ ((loopS m k s).done = false → (loopS m k s).steps = s.steps + k) := by
  induction k generalizing s with
  | zero => simp [loopS]
  | succ k ih =>
    by_cases h : s.done = true
    · rw [loopS_done h]; exact ⟨Nat.le_refl _, by omega, fun e => by rw [h] at e; cases e⟩
    · simp only [loopS, h, if_false, Bool.false_eq_true]
      obtain ⟨h1, h2, h3⟩ := ih (stepS m (tickS s))
      rw [stepS_steps] at h1 h2 h3
      have e : (tickS s).steps = s.steps + 1 := rfl
      rw [e] at h1 h2 h3
      exact ⟨by omega, by omega, fun hd => by rw [h3 hd]; omega⟩
theorem runS_more (m : List FunD) (f : Nat) (args : List Int) (k n : Nat) : runS m f args (k + n) = loopS m n (runS m f args k) := loopS_add m k n _
end Go.Proofs.Ytcjmhdneelmbhaa

/- What holds of a proper module's functions, as a run needs it: plain mathematics. -/
namespace Go.Proofs.Ytcjmhdneelmbhaa
open Go.RowKit
set_option linter.unusedVariables false

def InR (n : Nat) (a : Int) : Prop := 0 ≤ a ∧ a < n
/-- What a run leans on in an instruction. -/
def InsOk (m : List FunD) (n : Nat) (x : InsD) : Prop :=
  (∀ a ∈ x.args, InR n a) ∧
  ((x.op = 1 ∧ InR n x.dst) ∨ (2 ≤ x.op ∧ x.op ≤ 14 ∧ (x.args.length : Int) = opArity x.op ∧ InR n x.dst) ∨ (x.op = 15 ∧ x.args.length = 1 ∧ InR n x.dst) ∨
   (x.op = 16 ∧ x.args.length = 2) ∨ (x.op = 18 ∧ x.args.length = 1) ∨
   (x.op = 17 ∧ InR m.length x.fn ∧ (x.args.length : Int) = (funAt m x.fn).params ∧ (x.dst = -1 ∨ InR n x.dst)))
structure FunOk (m : List FunD) (f : FunD) : Prop where
  nb : 1 ≤ f.blocks.length ∧ f.blocks.length ≤ 64
  nr : f.regs.length ≤ 256
  par : 0 ≤ f.params ∧ f.params ≤ 8 ∧ f.params ≤ f.regs.length
  items : ∀ b ∈ f.blocks, b.phis.length + b.ins.length ≤ 256
  to : ∀ b ∈ f.blocks, ∀ t ∈ b.term.to, 1 ≤ t ∧ t < f.blocks.length
  kind : ∀ b ∈ f.blocks, (b.term.kind = 1 ∧ b.term.to.length = 1) ∨ (b.term.kind = 2 ∧ b.term.to.length = 2 ∧ InR f.regs.length b.term.arg) ∨ (b.term.kind = 3 ∧ b.term.to.length = 0 ∧ (b.term.arg = -1 ∨ InR f.regs.length b.term.arg))
  phis : ∀ (i : Nat) (b : BlkD), f.blocks[i]? = some b → ∀ p ∈ b.phis, p.args.length = (aheadL f.blocks i).length ∧ InR f.regs.length p.dst ∧ ∀ a ∈ p.args, InR f.regs.length a
  ins : ∀ b ∈ f.blocks, ∀ x ∈ b.ins, InsOk m f.regs.length x

theorem ite_zero {c : Prop} [Decidable c] {a b : Int} (hb : b ≠ 0) (h : (if c then a else b) = 0) : c ∧ a = 0 := by
  split at h
  · exact ⟨‹c›, h⟩
  · exact absurd h hb
theorem outer_four {f : FunD} (h : outerE f = 0) : withinB f = true ∧ typedB f = true ∧ endsWellB f = true ∧ meetB f = true := by
  unfold outerE at h
  obtain ⟨h1, h⟩ := ite_zero (by decide) h
  obtain ⟨h2, h⟩ := ite_zero (by decide) h
  obtain ⟨h3, -⟩ := ite_zero (by decide) h
  rw [Bool.and_eq_true] at h3
  exact ⟨h1, h2, h3.1, h3.2⟩
theorem items_le {bs : List BlkD} {b : BlkD} (h : b ∈ bs) : b.phis.length + b.ins.length ≤ itemsK bs := by
  unfold itemsK
  induction bs with
  | nil => cases h
  | cons x r ih =>
    simp only [List.map_cons, List.sum_cons]
    rcases List.mem_cons.1 h with rfl | h
    · omega
    · have := ih h; omega
theorem meetK_get {bs l : List BlkD} {i : Nat} (h : meetK bs l i = true) : ∀ (k : Nat) (b : BlkD), l[k]? = some b → ∀ p ∈ b.phis, p.args.length = (aheadL bs (i + k : Nat)).length := by
  induction l generalizing i with
  | nil => intro k b hk; simp at hk
  | cons x r ih =>
    simp only [meetK, Bool.and_eq_true] at h
    intro k b hk p hp
    cases k with
    | zero =>
      obtain rfl := Option.some.inj hk
      exact of_decide_eq_true (List.all_eq_true.1 h.1 p hp)
    | succ k =>
      have := ih h.2 k b hk p hp
      rwa [show i + 1 + k = i + (k + 1) by omega] at this
theorem are_in {l : List Int} {n : Nat} (h : areAtB l n = true) : ∀ a ∈ l, InR n a := fun a ha => by
  have := of_decide_eq_true (List.all_eq_true.1 h a ha)
  exact ⟨this.1, this.2⟩
theorem inR_of {n : Nat} {a : Int} (h : isIn n a = true) : InR n a := of_decide_eq_true (p := 0 ≤ a ∧ a < n) h
theorem rest_in {f : FunD} {x : InsD} {ts : List Int} {d : Int} {bad : Bool} (h : restE f x ts d bad = 0) : (∀ a ∈ x.args, InR f.regs.length a) ∧ ((d = 0 ∧ x.dst = -1) ∨ (0 < d ∧ InR f.regs.length x.dst)) := by
  unfold restE at h
  obtain ⟨h1, h⟩ := ite_zero (by decide) h
  obtain ⟨h2, -⟩ := ite_zero (by decide) h
  rw [Bool.and_eq_true, Bool.or_eq_true] at h1
  simp only [Bool.and_eq_true] at h2
  refine ⟨are_in h1.1, ?_⟩
  have h3 := h2.1.1.1.2
  by_cases hd : d = 0
  · rw [if_pos hd] at h3; exact .inl ⟨hd, of_decide_eq_true h3⟩
  · rw [if_neg hd] at h3
    have := of_decide_eq_true h3
    rcases h1.2 with h4 | h4
    · exact absurd (of_decide_eq_true h4) hd
    · exact .inr ⟨this.1, inR_of h4⟩
theorem ins_in {m : List FunD} {f : FunD} {x : InsD} (hty : ∀ t ∈ f.regs, t = 1 ∨ t = 2) (h : insE m f x = 0) : InsOk m f.regs.length x := by
  unfold insE at h
  by_cases h17 : x.op = 17
  · rw [if_pos h17] at h
    obtain ⟨h1, h⟩ := ite_zero (by decide) h
    obtain ⟨h2, h⟩ := ite_zero (by decide) h
    obtain ⟨g1, g2⟩ := rest_in h
    refine ⟨g1, .inr (.inr (.inr (.inr (.inr ⟨h17, inR_of h1, h2, ?_⟩))))⟩
    rcases g2 with g2 | g2
    · exact .inl g2.2
    · exact .inr g2.2
  · rw [if_neg h17] at h
    split at h
    · exact absurd h (by decide)
    · rename_i ts d hs
      obtain ⟨hl, h⟩ := ite_zero (by decide) h
      obtain ⟨g1, g2⟩ := rest_in h
      have hdt : dstT f x = 1 ∨ dstT f x = 2 := by
        unfold dstT
        split
        · rename_i hin
          have hr := of_decide_eq_true hin
          have hlt : x.dst.toNat < f.regs.length := by omega
          unfold reg
          rw [List.getD_eq_getElem?_getD, List.getElem?_eq_getElem hlt]
          exact hty _ (List.getElem_mem hlt)
        · exact .inl rfl
      refine ⟨g1, ?_⟩
      unfold sigOf at hs
      by_cases o1 : x.op = 1
      · rw [if_pos o1] at hs
        simp only [Option.some.injEq, Prod.mk.injEq] at hs
        rcases g2 with g2 | g2
        · omega
        · exact .inl ⟨o1, g2.2⟩
      rw [if_neg o1] at hs
      by_cases o2 : x.op = 2
      · rw [if_pos o2] at hs
        simp only [Option.some.injEq, Prod.mk.injEq] at hs
        rcases g2 with g2 | g2
        · omega
        · exact .inr (.inl ⟨by omega, by omega, by rw [hl, ← hs.1, o2]; rfl, g2.2⟩)
      rw [if_neg o2] at hs
      by_cases o12 : x.op = 12 ∨ x.op = 13
      · rw [if_pos o12] at hs
        simp only [Option.some.injEq, Prod.mk.injEq] at hs
        rcases g2 with g2 | g2
        · omega
        · exact .inr (.inl ⟨by omega, by omega, by rw [hl, ← hs.1]; rcases o12 with o | o <;> rw [o] <;> rfl, g2.2⟩)
      rw [if_neg o12] at hs
      by_cases o14 : x.op = 14
      · rw [if_pos o14] at hs
        simp only [Option.some.injEq, Prod.mk.injEq] at hs
        rcases g2 with g2 | g2
        · omega
        · exact .inr (.inl ⟨by omega, by omega, by rw [hl, ← hs.1, o14]; rfl, g2.2⟩)
      rw [if_neg o14] at hs
      by_cases o15 : x.op = 15
      · rw [if_pos o15] at hs
        simp only [Option.some.injEq, Prod.mk.injEq] at hs
        rcases g2 with g2 | g2
        · omega
        · exact .inr (.inr (.inl ⟨o15, by rw [hl, ← hs.1]; rfl, g2.2⟩))
      rw [if_neg o15] at hs
      by_cases o16 : x.op = 16
      · rw [if_pos o16] at hs
        simp only [Option.some.injEq, Prod.mk.injEq] at hs
        exact .inr (.inr (.inr (.inl ⟨o16, by rw [hl, ← hs.1]; rfl⟩)))
      rw [if_neg o16] at hs
      by_cases o18 : x.op = 18
      · rw [if_pos o18] at hs
        simp only [Option.some.injEq, Prod.mk.injEq] at hs
        exact .inr (.inr (.inr (.inr (.inl ⟨o18, by rw [hl, ← hs.1]; rfl⟩))))
      rw [if_neg o18] at hs
      by_cases o3 : 3 ≤ x.op ∧ x.op ≤ 11
      · rw [if_pos o3] at hs
        simp only [Option.some.injEq, Prod.mk.injEq] at hs
        rcases g2 with g2 | g2
        · omega
        · refine .inr (.inl ⟨by omega, by omega, ?_, g2.2⟩)
          rw [hl, ← hs.1]
          unfold opArity
          rw [if_neg (by omega), if_pos (by omega)]; rfl
      rw [if_neg o3] at hs
      cases hs
theorem fun_ok {m : List FunD} {f : FunD} (h : funE m f = 0) : FunOk m f := by
  obtain ⟨ho, hb⟩ := funE_zero.1 h
  obtain ⟨h1, h2, h3, h4⟩ := outer_four ho
  have h1 := of_decide_eq_true h1
  unfold typedB at h2
  rw [Bool.and_eq_true, Bool.and_eq_true] at h2
  have hpar := of_decide_eq_true h2.1.2
  have hty : ∀ t ∈ f.regs, t = 1 ∨ t = 2 := fun t ht => of_decide_eq_true (List.all_eq_true.1 h2.1.1 t ht)
  have hsh : ∀ b ∈ f.blocks, tosB b.term = true ∧ b.term.to.all (toB f.blocks.length) = true := fun b hbm => by
    have := List.all_eq_true.1 h3 b hbm
    unfold shapeB at this
    rwa [Bool.and_eq_true] at this
  refine ⟨⟨h1.1, h1.2.1⟩, h1.2.2.1, hpar, fun b hbm => by have := items_le hbm; omega, fun b hbm t ht => ?_, fun b hbm => ?_, fun i b hi p hp => ?_, fun b hbm x hx => ?_⟩
  · have := of_decide_eq_true (List.all_eq_true.1 (hsh b hbm).2 t ht)
    omega
  · have ht := (hsh b hbm).1
    have he := (blockE_zero.1 (hb b hbm)).2.2
    unfold tosB at ht
    unfold termE wantOf at he
    by_cases k1 : b.term.kind = 1
    · rw [if_pos k1] at ht; exact .inl ⟨k1, of_decide_eq_true ht⟩
    rw [if_neg k1] at ht
    by_cases k2 : b.term.kind = 2
    · rw [if_pos k2, Bool.and_eq_true] at ht
      rw [if_pos k2, if_neg (show ¬ (2 : Int) = 0 by decide)] at he
      exact .inr (.inl ⟨k2, of_decide_eq_true ht.1, (ite_zero (by decide) he).1⟩)
    rw [if_neg k2] at ht
    by_cases k3 : b.term.kind = 3
    · rw [if_pos k3] at ht
      rw [if_neg k2, if_pos k3] at he
      refine .inr (.inr ⟨k3, of_decide_eq_true ht, ?_⟩)
      split at he
      · exact .inl (ite_zero (by decide) he).1
      · exact .inr (ite_zero (by decide) he).1
    rw [if_neg k3] at ht; cases ht
  · have hm := meetK_get h4 i b hi p hp
    rw [Nat.zero_add] at hm
    have hph := (blockE_zero.1 (hb b (List.mem_of_getElem? hi))).1 p hp
    unfold phiE at hph
    have := (ite_zero (by decide) hph).1
    rw [Bool.and_eq_true] at this
    exact ⟨hm, of_decide_eq_true (p := 0 ≤ p.dst ∧ p.dst < f.regs.length) this.1, are_in this.2⟩
  · exact ins_in hty ((blockE_zero.1 (hb b hbm)).2.1 x hx)
theorem proper_ok {m : List FunD} (h : Proper m) : m.length ≤ 32 ∧ ∀ f ∈ m, FunOk m f := by
  obtain ⟨h1, h2⟩ := proper_iff.1 h
  exact ⟨h1, fun f hf => fun_ok (h2 f hf)⟩
end Go.Proofs.Ytcjmhdneelmbhaa
