/- A run, step by step, as a function over lists: plain mathematics. -/
import Derived.Test.YtoidhjmhakajlaaIns
import Derived.Test.YtoidhjmhakajlaaArM
namespace Go.Proofs.Ytoidhjmhakajlaa
open Go.RowKit
set_option linter.unusedVariables false

/-- A function under way: where it is, and what its registers hold. -/
structure Fr where
  fn : Nat
  blk : Nat
  at_ : Nat
  regs : Nat → Int
/-- A run as it stands; of those that wait the last one comes first. -/
structure St where
  cur : Fr
  stack : List Fr
  done : Bool
  trap : Int
  value : Int
  out : List Int
  steps : Nat
  mem : Nat → Int

def upd (f : Nat → Int) (i : Nat) (v : Int) : Nat → Int := fun k => if k = i then v else f k
def firstR (l : List Int) : Nat → Int := fun k => l.getD k 0
def argsV (regs : Nat → Int) (l : List Int) : List Int := l.map fun r => regs r.toNat
def evalV (op : Int) (l : List Int) : Option Int :=
  if op = 2 ∨ op = 14 then some (one op (l.getD 0 0)) else if op = 11 ∧ l.getD 1 0 = 0 then none else some (two op (l.getD 0 0) (l.getD 1 0))
def blkAt (f : FunD) (i : Nat) : BlkD := f.blocks.getD i default
def trapS (s : St) (t : Int) : St := { s with done := true, trap := t }
def setR (s : St) (r : Int) (v : Int) : St := { s with cur := { s.cur with regs := upd s.cur.regs r.toNat v } }
def enterS (s : St) (f : Nat) (l : List Int) : St := { s with cur := ⟨f, 0, 0, firstR l⟩ }
def wordB (l : List Int) : Bool := decide (0 ≤ l.getD 0 0 ∧ l.getD 0 0 < 64)
/-- An instruction is done. -/
def doS (s : St) (x : InsD) : St :=
  if x.op = 1 then setR s x.dst x.imm
  else if x.op = 15 then (if wordB (argsV s.cur.regs x.args) then setR s x.dst (s.mem ((argsV s.cur.regs x.args).getD 0 0).toNat) else trapS s 2)
  else if x.op = 16 then (if wordB (argsV s.cur.regs x.args) then { s with mem := upd s.mem ((argsV s.cur.regs x.args).getD 0 0).toNat ((argsV s.cur.regs x.args).getD 1 0) } else trapS s 2)
  else if x.op = 18 then { s with out := s.out ++ [(argsV s.cur.regs x.args).getD 0 0] }
  else if x.op = 17 then enterS { s with stack := s.cur :: s.stack } x.fn.toNat (argsV s.cur.regs x.args)
  else match evalV x.op (argsV s.cur.regs x.args) with
    | some v => setR s x.dst v
    | none => trapS s 1
def setAll (r : Nat → Int) (l : List (Int × Int)) : Nat → Int := l.foldl (fun r p => upd r p.1.toNat p.2) r
/-- What the phis of a block read, of one that it is entered from. -/
def phiVals (f : FunD) (fr : Fr) (to : Nat) : List Int := (blkAt f to).phis.map fun p => fr.regs (p.args.getD ((aheadL f.blocks to).idxOf (fr.blk : Int)) 0).toNat
def goToF (f : FunD) (fr : Fr) (to : Nat) : Fr := { fr with blk := to, at_ := 0, regs := setAll fr.regs (((blkAt f to).phis.map PhiD.dst).zip (phiVals f fr to)) }
def callOf (m : List FunD) (fr : Fr) : InsD := (blkAt (m.getD fr.fn default) fr.blk).ins.getD (fr.at_ - 1) default
def resumeF (m : List FunD) (fr : Fr) (v : Int) : Fr := if 0 ≤ (callOf m fr).dst then { fr with regs := upd fr.regs (callOf m fr).dst.toNat v } else fr
def giveS (m : List FunD) (s : St) (v : Int) : St := match s.stack with
  | [] => { s with done := true, value := v }
  | c :: r => { s with cur := resumeF m c v, stack := r }
def endS (m : List FunD) (s : St) (t : TermD) : St :=
  if t.kind = 3 then giveS m s (if 0 ≤ t.arg then s.cur.regs t.arg.toNat else 0)
  else if t.kind = 2 ∧ s.cur.regs t.arg.toNat = 0 then { s with cur := goToF (m.getD s.cur.fn default) s.cur (t.to.getD 1 0).toNat }
  else { s with cur := goToF (m.getD s.cur.fn default) s.cur (t.to.getD 0 0).toNat }
def blkOf (m : List FunD) (fr : Fr) : BlkD := blkAt (m.getD fr.fn default) fr.blk
def stepS (m : List FunD) (s : St) : St :=
  if s.cur.at_ = (blkOf m s.cur).ins.length then endS m s (blkOf m s.cur).term
  else doS { s with cur := { s.cur with at_ := s.cur.at_ + 1 } } ((blkOf m s.cur).ins.getD s.cur.at_ default)
def tickS (s : St) : St := { s with steps := s.steps + 1 }
/-- So many steps more, at most. -/
def loopS (m : List FunD) : Nat → St → St
  | 0, s => s
  | k + 1, s => if s.done then s else loopS m k (stepS m (tickS s))
def startS (f : Nat) (args : List Int) : St := ⟨⟨f, 0, 0, firstR args⟩, [], false, 0, 0, [], 0, fun _ => 0⟩
def runS (m : List FunD) (f : Nat) (args : List Int) (k : Nat) : St := loopS m k (startS f args)

/-! ### More steps -/
theorem loopS_done {m : List FunD} {k : Nat} {s : St} (h : s.done = true) : loopS m k s = s := by
  cases k with
  | zero => rfl
  | succ k => simp [loopS, h]
theorem loopS_add (m : List FunD) (k n : Nat) (s : St) : loopS m (k + n) s = loopS m n (loopS m k s) := by
  induction k generalizing s with
  | zero => simp [loopS]
  | succ k ih =>
    rw [show k + 1 + n = (k + n) + 1 by omega]
    by_cases h : s.done = true
    · rw [loopS_done h, loopS_done h, loopS_done h]
    · simp only [loopS, h, if_false, Bool.false_eq_true]; exact ih _
theorem loopS_succ (m : List FunD) (k : Nat) (s : St) : loopS m (k + 1) s = if (loopS m k s).done then loopS m k s else stepS m (tickS (loopS m k s)) := by
  rw [loopS_add]; simp [loopS]

theorem doS_steps (s : St) (x : InsD) : (doS s x).steps = s.steps := by
  unfold doS setR trapS enterS
  repeat' split
  all_goals rfl
theorem giveS_steps (m : List FunD) (s : St) (v : Int) : (giveS m s v).steps = s.steps := by unfold giveS; split <;> rfl
theorem endS_steps (m : List FunD) (s : St) (t : TermD) : (endS m s t).steps = s.steps := by
  unfold endS; split
  · exact giveS_steps m s _
  · split <;> rfl
theorem stepS_steps (m : List FunD) (s : St) : (stepS m s).steps = s.steps := by
  unfold stepS; split
  · exact endS_steps m s _
  · exact doS_steps _ _
theorem doS_out (s : St) (x : InsD) : ∃ r, (doS s x).out = s.out ++ r ∧ r.length ≤ 1 := by
  unfold doS setR trapS enterS
  repeat' split
  all_goals first | exact ⟨[_], rfl, by simp⟩ | exact ⟨[], (List.append_nil _).symm, by simp⟩
theorem giveS_out (m : List FunD) (s : St) (v : Int) : (giveS m s v).out = s.out := by unfold giveS; split <;> rfl
theorem endS_out (m : List FunD) (s : St) (t : TermD) : (endS m s t).out = s.out := by
  unfold endS; split
  · exact giveS_out m s _
  · split <;> rfl
theorem stepS_out (m : List FunD) (s : St) : ∃ r, (stepS m s).out = s.out ++ r ∧ r.length ≤ 1 := by
  unfold stepS; split
  · exact ⟨[], by rw [endS_out]; simp, by simp⟩
  · exact doS_out _ _
theorem loopS_out (m : List FunD) (k : Nat) (s : St) : ∃ r, (loopS m k s).out = s.out ++ r := by
  induction k generalizing s with
  | zero => exact ⟨[], by simp [loopS]⟩
  | succ k ih =>
    by_cases h : s.done = true
    · rw [loopS_done h]; exact ⟨[], by simp⟩
    · simp only [loopS, h, if_false, Bool.false_eq_true]
      obtain ⟨r, hr⟩ := ih (stepS m (tickS s))
      obtain ⟨r2, hr2, -⟩ := stepS_out m (tickS s)
      exact ⟨r2 ++ r, by rw [hr, hr2, List.append_assoc]; rfl⟩
theorem loopS_steps (m : List FunD) (k : Nat) (s : St) : s.steps ≤ (loopS m k s).steps ∧ (loopS m k s).steps ≤ s.steps + k ∧ ((loopS m k s).done = false → (loopS m k s).steps = s.steps + k) := by
  induction k generalizing s with
  | zero => simp [loopS]
  | succ k ih =>
    by_cases h : s.done = true
    · rw [loopS_done h]; exact ⟨Nat.le_refl _, by omega, fun e => by rw [h] at e; cases e⟩
    · simp only [loopS, h, if_false, Bool.false_eq_true]
      obtain ⟨h1, h2, h3⟩ := ih (stepS m (tickS s))
      rw [stepS_steps] at h1 h2 h3
      have e : (tickS s).steps = s.steps + 1 := rfl
      rw [e] at h1 h2 h3
      exact ⟨by omega, by omega, fun hd => by rw [h3 hd]; omega⟩
theorem runS_more (m : List FunD) (f : Nat) (args : List Int) (k n : Nat) : runS m f args (k + n) = loopS m n (runS m f args k) := loopS_add m k n _
end Go.Proofs.Ytoidhjmhakajlaa
