/- What arith's operations make of numbers, in the model's own words, and the plain laws on them. No program in sight. -/
import Derived.RowKit
import Derived.IntWalk
import Derived.Laws.BitsAll
import Derived.Laws.Bits64
import Derived.Laws.Bits64b
import Derived.Test.YtcjmhdneelmbhaaInsJ
import Derived.Test.YtcjmhdneelmbhaaAheadLJ
import Derived.Deep.OwnRows
import Derived.Deep.AppendLies
namespace Go.Proofs.Ytcjmhdneelmbhaa
open Go.RowKit

/-- By how many bits to shift. -/
def pl (b : Int) : Int := bits .and .u64 (IntKind.u64.wrap b) 63
def asN (x : Bool) : Int := if x then 1 else 0
/-- What an operation of two arguments comes to. -/
def two (op a b : Int) : Int :=
  if op = 3 then wrap64 (a + b)
  else if op = 4 then wrap64 (a - b)
  else if op = 5 then wrap64 (a * b)
  else if op = 6 then bits .and .i64 a b
  else if op = 7 then bits .or .i64 a b
  else if op = 8 then bits .xor .i64 a b
  else if op = 9 then wrap64 (a * 2 ^ min (pl b).toNat 64)
  else if op = 10 then a / 2 ^ min (pl b).toNat 64
  else if op = 11 then wrap64 (a.tdiv b)
  else if op = 12 then asN (decide (a < b))
  else asN (a == b)
def one (op a : Int) : Int := if op = 14 then wrap64 (1 - a) else a
def opArity (op : Int) : Int := if op = 2 ∨ op = 14 then 1 else if 3 ≤ op ∧ op ≤ 13 then 2 else 0
def opKnown (op : Int) : Bool := decide (2 ≤ op ∧ op ≤ 14)
def sameOp (op : Int) : Bool := decide (op = 3 ∨ op = 5 ∨ op = 6 ∨ op = 7 ∨ op = 8 ∨ op = 13)

theorem pl_eq (b : Int) : pl b = b % 64 := by
  have h1 := Int.emod_nonneg b (b := 18446744073709551616) (by decide)
  have h2 := Int.emod_lt_of_pos b (b := 18446744073709551616) (by decide)
  have h := bits_mask .u64 64 (by decide) (fun n h0 h1 => by rw [IntKind.wrap_u64]; omega) 6 (by decide) (IntKind.u64.wrap b) (by rw [IntKind.wrap_u64]; omega) (by rw [IntKind.wrap_u64]; omega)
  unfold pl
  rw [show (63 : Int) = 2 ^ 6 - 1 from rfl, h, IntKind.wrap_u64]
  omega
theorem pl_lo (b : Int) : 0 ≤ pl b := by rw [pl_eq]; omega
theorem pl_hi (b : Int) : pl b ≤ 63 := by rw [pl_eq]; omega
end Go.Proofs.Ytcjmhdneelmbhaa

/- A run, step by step, as a function over lists: plain mathematics. -/
namespace Go.Proofs.Ytcjmhdneelmbhaa
open Go.RowKit
set_option linter.unusedVariables false

/-- A function under way: where it is, and what its registers hold. -/
structure Fr where
  fn : Nat
  blk : Nat
  at_ : Nat
  regs : Nat → Int
/-- A run as it stands; of those that wait the last one comes first. -/
structure St where
  cur : Fr
  stack : List Fr
  done : Bool
  trap : Int
  value : Int
  out : List Int
  steps : Nat
  mem : Nat → Int

def upd (f : Nat → Int) (i : Nat) (v : Int) : Nat → Int := fun k => if k = i then v else f k
def firstR (l : List Int) : Nat → Int := fun k => l.getD k 0
def argsV (regs : Nat → Int) (l : List Int) : List Int := l.map fun r => regs r.toNat
def evalV (op : Int) (l : List Int) : Option Int :=
  if op = 2 ∨ op = 14 then some (one op (l.getD 0 0)) else if op = 11 ∧ l.getD 1 0 = 0 then none else some (two op (l.getD 0 0) (l.getD 1 0))
def blkAt (f : FunD) (i : Nat) : BlkD := f.blocks.getD i default
def trapS (s : St) (t : Int) : St := { s with done := true, trap := t }
def setR (s : St) (r : Int) (v : Int) : St := { s with cur := { s.cur with regs := upd s.cur.regs r.toNat v } }
def enterS (s : St) (f : Nat) (l : List Int) : St := { s with cur := ⟨f, 0, 0, firstR l⟩ }
def wordB (l : List Int) : Bool := decide (0 ≤ l.getD 0 0 ∧ l.getD 0 0 < 64)
/-- An instruction is done. -/
def doS (s : St) (x : InsD) : St :=
  if x.op = 1 then setR s x.dst x.imm
  else if x.op = 15 then (if wordB (argsV s.cur.regs x.args) then setR s x.dst (s.mem ((argsV s.cur.regs x.args).getD 0 0).toNat) else trapS s 2)
  else if x.op = 16 then (if wordB (argsV s.cur.regs x.args) then { s with mem := upd s.mem ((argsV s.cur.regs x.args).getD 0 0).toNat ((argsV s.cur.regs x.args).getD 1 0) } else trapS s 2)
  else if x.op = 18 then { s with out := s.out ++ [(argsV s.cur.regs x.args).getD 0 0] }
  else if x.op = 17 then enterS { s with stack := s.cur :: s.stack } x.fn.toNat (argsV s.cur.regs x.args)
  else match evalV x.op (argsV s.cur.regs x.args) with
    | some v => setR s x.dst v
    | none => trapS s 1
def setAll (r : Nat → Int) (l : List (Int × Int)) : Nat → Int := l.foldl (fun r p => upd r p.1.toNat p.2) r
/-- What the phis of a block read, of one that it is entered from. -/
def phiVals (f : FunD) (fr : Fr) (tb : Nat) : List Int := (blkAt f tb).phis.map fun p => fr.regs (p.args.getD ((aheadL f.blocks tb).idxOf (fr.blk : Int)) 0).toNat
def goToF (f : FunD) (fr : Fr) (tb : Nat) : Fr := { fr with blk := tb, at_ := 0, regs := setAll fr.regs (((blkAt f tb).phis.map PhiD.dst).zip (phiVals f fr tb)) }
def callOf (m : List FunD) (fr : Fr) : InsD := (blkAt (m.getD fr.fn default) fr.blk).ins.getD (fr.at_ - 1) default
def resumeF (m : List FunD) (fr : Fr) (v : Int) : Fr := if 0 ≤ (callOf m fr).dst then { fr with regs := upd fr.regs (callOf m fr).dst.toNat v } else fr
def giveS (m : List FunD) (s : St) (v : Int) : St := match s.stack with
  | [] => { s with done := true, value := v }
  | c :: r => { s with cur := resumeF m c v, stack := r }
def endS (m : List FunD) (s : St) (t : TermD) : St :=
  if t.kind = 3 then giveS m s (if 0 ≤ t.arg then s.cur.regs t.arg.toNat else 0)
  else if t.kind = 2 ∧ s.cur.regs t.arg.toNat = 0 then { s with cur := goToF (m.getD s.cur.fn default) s.cur (t.to.getD 1 0).toNat }
  else { s with cur := goToF (m.getD s.cur.fn default) s.cur (t.to.getD 0 0).toNat }
def blkOf (m : List FunD) (fr : Fr) : BlkD := blkAt (m.getD fr.fn default) fr.blk
def stepS (m : List FunD) (s : St) : St :=
  if s.cur.at_ = (blkOf m s.cur).ins.length then endS m s (blkOf m s.cur).term
  else doS { s with cur := { s.cur with at_ := s.cur.at_ + 1 } } ((blkOf m s.cur).ins.getD s.cur.at_ default)
def tickS (s : St) : St := { s with steps := s.steps + 1 }
/-- So many steps more, at most. -/
def loopS (m : List FunD) : Nat → St → St
  | 0, s => s
  | k + 1, s => if s.done then s else loopS m k (stepS m (tickS s))
def startS (f : Nat) (args : List Int) : St := ⟨⟨f, 0, 0, firstR args⟩, [], false, 0, 0, [], 0, fun _ => 0⟩
def runS (m : List FunD) (f : Nat) (args : List Int) (k : Nat) : St := loopS m k (startS f args)

/-! ### More steps -/
theorem loopS_done {m : List FunD} {k : Nat} {s : St} (h : s.done = true) : loopS m k s = s := by
  cases k with
  | zero => rfl
  | succ k => simp [loopS, h]
theorem loopS_add (m : List FunD) (k n : Nat) (s : St) : loopS m (k + n) s = loopS m n (loopS m k s) := by
  induction k generalizing s with
  | zero => simp [loopS]
  | succ k ih =>
    rw [show k + 1 + n = (k + n) + 1 by omega]
    by_cases h : s.done = true
    · rw [loopS_done h, loopS_done h, loopS_done h]
    · simp only [loopS, h, if_false, Bool.false_eq_true]; exact ih _
theorem loopS_succ (m : List FunD) (k : Nat) (s : St) : loopS m (k + 1) s = if (loopS m k s).done then loopS m k s else stepS m (tickS (loopS m k s)) := by
  rw [loopS_add]; simp [loopS]

theorem doS_steps (s : St) (x : InsD) : (doS s x).steps = s.steps := by
  unfold doS setR trapS enterS
  repeat' split
  all_goals rfl
theorem giveS_steps (m : List FunD) (s : St) (v : Int) : (giveS m s v).steps = s.steps := by unfold giveS; split <;> rfl
theorem endS_steps (m : List FunD) (s : St) (t : TermD) : (endS m s t).steps = s.steps := by
  unfold endS; split
  · exact giveS_steps m s _
  · split <;> rfl
theorem stepS_steps (m : List FunD) (s : St) : (stepS m s).steps = s.steps := by
  unfold stepS; split
  · exact endS_steps m s _
  · exact doS_steps _ _
theorem doS_out (s : St) (x : InsD) : ∃ r, (doS s x).out = s.out ++ r ∧ r.length ≤ 1 := by
  unfold doS setR trapS enterS
  repeat' split
  all_goals first | exact ⟨[_], rfl, by simp⟩ | exact ⟨[], (List.append_nil _).symm, by simp⟩
theorem giveS_out (m : List FunD) (s : St) (v : Int) : (giveS m s v).out = s.out := by unfold giveS; split <;> rfl
theorem endS_out (m : List FunD) (s : St) (t : TermD) : (endS m s t).out = s.out := by
  unfold endS; split
  · exact giveS_out m s _
  · split <;> rfl
theorem stepS_out (m : List FunD) (s : St) : ∃ r, (stepS m s).out = s.out ++ r ∧ r.length ≤ 1 := by
  unfold stepS; split
  · exact ⟨[], by rw [endS_out]; simp, by simp⟩
  · exact doS_out _ _
theorem loopS_out (m : List FunD) (k : Nat) (s : St) : ∃ r, (loopS m k s).out = s.out ++ r := by
  induction k generalizing s with
  | zero => exact ⟨[], by simp [loopS]⟩
  | succ k ih =>
    by_cases h : s.done = true
    · rw [loopS_done h]; exact ⟨[], by simp⟩
    · simp only [loopS, h, if_false, Bool.false_eq_true]
      obtain ⟨r, hr⟩ := ih (stepS m (tickS s))
      obtain ⟨r2, hr2, -⟩ := stepS_out m (tickS s)
      exact ⟨r2 ++ r, by rw [hr, hr2, List.append_assoc]; rfl⟩
theorem loopS_steps (m : List FunD) (k : Nat) (s : St) : s.steps ≤ (loopS m k s).steps ∧ (loopS m k s).steps ≤ s.steps + k ∧ ((loopS m k s).done = false → (loopS m k s).steps = s.steps + k) := by
  induction k generalizing s with
  | zero => simp [loopS]
  | succ k ih =>
    by_cases h : s.done = true
    · rw [loopS_done h]; exact ⟨Nat.le_refl _, by omega, fun e => by rw [h] at e; cases e⟩
    · simp only [loopS, h, if_false, Bool.false_eq_true]
      obtain ⟨h1, h2, h3⟩ := ih (stepS m (tickS s))
      rw [stepS_steps] at h1 h2 h3
      have e : (tickS s).steps = s.steps + 1 := rfl
      rw [e] at h1 h2 h3
      exact ⟨by omega, by omega, fun hd => by rw [h3 hd]; omega⟩
theorem runS_more (m : List FunD) (f : Nat) (args : List Int) (k n : Nat) : runS m f args (k + n) = loopS m n (runS m f args k) := loopS_add m k n _
end Go.Proofs.Ytcjmhdneelmbhaa

/- What holds of a proper module's functions, as a run needs it: plain mathematics. -/
namespace Go.Proofs.Ytcjmhdneelmbhaa
open Go.RowKit
set_option linter.unusedVariables false

def InR (n : Nat) (a : Int) : Prop := 0 ≤ a ∧ a < n
/-- What a run leans on in an instruction. -/
def InsOk (m : List FunD) (n : Nat) (x : InsD) : Prop :=
  (∀ a ∈ x.args, InR n a) ∧
  ((x.op = 1 ∧ InR n x.dst) ∨ (2 ≤ x.op ∧ x.op ≤ 14 ∧ (x.args.length : Int) = opArity x.op ∧ InR n x.dst) ∨ (x.op = 15 ∧ x.args.length = 1 ∧ InR n x.dst) ∨
   (x.op = 16 ∧ x.args.length = 2) ∨ (x.op = 18 ∧ x.args.length = 1) ∨
   (x.op = 17 ∧ InR m.length x.fn ∧ (x.args.length : Int) = (funAt m x.fn).params ∧ (x.dst = -1 ∨ InR n x.dst)))
structure FunOk (m : List FunD) (f : FunD) : Prop where
  nb : 1 ≤ f.blocks.length ∧ f.blocks.length ≤ 64
  nr : f.regs.length ≤ 256
  par : 0 ≤ f.params ∧ f.params ≤ 8 ∧ f.params ≤ f.regs.length
  items : ∀ b ∈ f.blocks, b.phis.length + b.ins.length ≤ 256
  to : ∀ b ∈ f.blocks, ∀ t ∈ b.term.to, 1 ≤ t ∧ t < f.blocks.length
  kind : ∀ b ∈ f.blocks, (b.term.kind = 1 ∧ b.term.to.length = 1) ∨ (b.term.kind = 2 ∧ b.term.to.length = 2 ∧ InR f.regs.length b.term.arg) ∨ (b.term.kind = 3 ∧ b.term.to.length = 0 ∧ (b.term.arg = -1 ∨ InR f.regs.length b.term.arg))
  phis : ∀ (i : Nat) (b : BlkD), f.blocks[i]? = some b → ∀ p ∈ b.phis, p.args.length = (aheadL f.blocks i).length ∧ InR f.regs.length p.dst ∧ ∀ a ∈ p.args, InR f.regs.length a
  ins : ∀ b ∈ f.blocks, ∀ x ∈ b.ins, InsOk m f.regs.length x

theorem ite_zero {c : Prop} [Decidable c] {a b : Int} (hb : b ≠ 0) (h : (if c then a else b) = 0) : c ∧ a = 0 := by
  split at h
  · exact ⟨‹c›, h⟩
  · exact absurd h hb
theorem outer_four {f : FunD} (h : outerE f = 0) : withinB f = true ∧ typedB f = true ∧ endsWellB f = true ∧ meetB f = true := by
  unfold outerE at h
  obtain ⟨h1, h⟩ := ite_zero (by decide) h
  obtain ⟨h2, h⟩ := ite_zero (by decide) h
  obtain ⟨h3, -⟩ := ite_zero (by decide) h
  rw [Bool.and_eq_true] at h3
  exact ⟨h1, h2, h3.1, h3.2⟩
theorem items_le {bs : List BlkD} {b : BlkD} (h : b ∈ bs) : b.phis.length + b.ins.length ≤ itemsK bs := by
  unfold itemsK
  induction bs with
  | nil => cases h
  | cons x r ih =>
    simp only [List.map_cons, List.sum_cons]
    rcases List.mem_cons.1 h with rfl | h
    · omega
    · have := ih h; omega
theorem meetK_get {bs l : List BlkD} {i : Nat} (h : meetK bs l i = true) : ∀ (k : Nat) (b : BlkD), l[k]? = some b → ∀ p ∈ b.phis, p.args.length = (aheadL bs (i + k : Nat)).length := by
  induction l generalizing i with
  | nil => intro k b hk; simp at hk
  | cons x r ih =>
    simp only [meetK, Bool.and_eq_true] at h
    intro k b hk p hp
    cases k with
    | zero =>
      obtain rfl := Option.some.inj hk
      exact of_decide_eq_true (List.all_eq_true.1 h.1 p hp)
    | succ k =>
      have := ih h.2 k b hk p hp
      rwa [show i + 1 + k = i + (k + 1) by omega] at this
theorem are_in {l : List Int} {n : Nat} (h : areAtB l n = true) : ∀ a ∈ l, InR n a := fun a ha => by
  have := of_decide_eq_true (List.all_eq_true.1 h a ha)
  exact ⟨this.1, this.2⟩
theorem inR_of {n : Nat} {a : Int} (h : isIn n a = true) : InR n a := of_decide_eq_true (p := 0 ≤ a ∧ a < n) h
theorem rest_in {f : FunD} {x : InsD} {ts : List Int} {d : Int} {bad : Bool} (h : restE f x ts d bad = 0) : (∀ a ∈ x.args, InR f.regs.length a) ∧ ((d = 0 ∧ x.dst = -1) ∨ (0 < d ∧ InR f.regs.length x.dst)) := by
  unfold restE at h
  obtain ⟨h1, h⟩ := ite_zero (by decide) h
  obtain ⟨h2, -⟩ := ite_zero (by decide) h
  rw [Bool.and_eq_true, Bool.or_eq_true] at h1
  simp only [Bool.and_eq_true] at h2
  refine ⟨are_in h1.1, ?_⟩
  have h3 := h2.1.1.1.2
  by_cases hd : d = 0
  · rw [if_pos hd] at h3; exact .inl ⟨hd, of_decide_eq_true h3⟩
  · rw [if_neg hd] at h3
    have := of_decide_eq_true h3
    rcases h1.2 with h4 | h4
    · exact absurd (of_decide_eq_true h4) hd
    · exact .inr ⟨this.1, inR_of h4⟩
theorem ins_in {m : List FunD} {f : FunD} {x : InsD} (hty : ∀ t ∈ f.regs, t = 1 ∨ t = 2) (h : insE m f x = 0) : InsOk m f.regs.length x := by
  unfold insE at h
  by_cases h17 : x.op = 17
  · rw [if_pos h17] at h
    obtain ⟨h1, h⟩ := ite_zero (by decide) h
    obtain ⟨h2, h⟩ := ite_zero (by decide) h
    obtain ⟨g1, g2⟩ := rest_in h
    refine ⟨g1, .inr (.inr (.inr (.inr (.inr ⟨h17, inR_of h1, h2, ?_⟩))))⟩
    rcases g2 with g2 | g2
    · exact .inl g2.2
    · exact .inr g2.2
  · rw [if_neg h17] at h
    split at h
    · exact absurd h (by decide)
    · rename_i ts d hs
      obtain ⟨hl, h⟩ := ite_zero (by decide) h
      obtain ⟨g1, g2⟩ := rest_in h
      have hdt : dstT f x = 1 ∨ dstT f x = 2 := by
        unfold dstT
        split
        · rename_i hin
          have hr := of_decide_eq_true hin
          have hlt : x.dst.toNat < f.regs.length := by omega
          unfold reg
          rw [List.getD_eq_getElem?_getD, List.getElem?_eq_getElem hlt]
          exact hty _ (List.getElem_mem hlt)
        · exact .inl rfl
      refine ⟨g1, ?_⟩
      unfold sigOf at hs
      by_cases o1 : x.op = 1
      · rw [if_pos o1] at hs
        simp only [Option.some.injEq, Prod.mk.injEq] at hs
        rcases g2 with g2 | g2
        · omega
        · exact .inl ⟨o1, g2.2⟩
      rw [if_neg o1] at hs
      by_cases o2 : x.op = 2
      · rw [if_pos o2] at hs
        simp only [Option.some.injEq, Prod.mk.injEq] at hs
        rcases g2 with g2 | g2
        · omega
        · exact .inr (.inl ⟨by omega, by omega, by rw [hl, ← hs.1, o2]; rfl, g2.2⟩)
      rw [if_neg o2] at hs
      by_cases o12 : x.op = 12 ∨ x.op = 13
      · rw [if_pos o12] at hs
        simp only [Option.some.injEq, Prod.mk.injEq] at hs
        rcases g2 with g2 | g2
        · omega
        · exact .inr (.inl ⟨by omega, by omega, by rw [hl, ← hs.1]; rcases o12 with o | o <;> rw [o] <;> rfl, g2.2⟩)
      rw [if_neg o12] at hs
      by_cases o14 : x.op = 14
      · rw [if_pos o14] at hs
        simp only [Option.some.injEq, Prod.mk.injEq] at hs
        rcases g2 with g2 | g2
        · omega
        · exact .inr (.inl ⟨by omega, by omega, by rw [hl, ← hs.1, o14]; rfl, g2.2⟩)
      rw [if_neg o14] at hs
      by_cases o15 : x.op = 15
      · rw [if_pos o15] at hs
        simp only [Option.some.injEq, Prod.mk.injEq] at hs
        rcases g2 with g2 | g2
        · omega
        · exact .inr (.inr (.inl ⟨o15, by rw [hl, ← hs.1]; rfl, g2.2⟩))
      rw [if_neg o15] at hs
      by_cases o16 : x.op = 16
      · rw [if_pos o16] at hs
        simp only [Option.some.injEq, Prod.mk.injEq] at hs
        exact .inr (.inr (.inr (.inl ⟨o16, by rw [hl, ← hs.1]; rfl⟩)))
      rw [if_neg o16] at hs
      by_cases o18 : x.op = 18
      · rw [if_pos o18] at hs
        simp only [Option.some.injEq, Prod.mk.injEq] at hs
        exact .inr (.inr (.inr (.inr (.inl ⟨o18, by rw [hl, ← hs.1]; rfl⟩))))
      rw [if_neg o18] at hs
      by_cases o3 : 3 ≤ x.op ∧ x.op ≤ 11
      · rw [if_pos o3] at hs
        simp only [Option.some.injEq, Prod.mk.injEq] at hs
        rcases g2 with g2 | g2
        · omega
        · refine .inr (.inl ⟨by omega, by omega, ?_, g2.2⟩)
          rw [hl, ← hs.1]
          unfold opArity
          rw [if_neg (by omega), if_pos (by omega)]; rfl
      rw [if_neg o3] at hs
      cases hs
theorem fun_ok {m : List FunD} {f : FunD} (h : funE m f = 0) : FunOk m f := by
  obtain ⟨ho, hb⟩ := funE_zero.1 h
  obtain ⟨h1, h2, h3, h4⟩ := outer_four ho
  have h1 := of_decide_eq_true h1
  unfold typedB at h2
  rw [Bool.and_eq_true, Bool.and_eq_true] at h2
  have hpar := of_decide_eq_true h2.1.2
  have hty : ∀ t ∈ f.regs, t = 1 ∨ t = 2 := fun t ht => of_decide_eq_true (List.all_eq_true.1 h2.1.1 t ht)
  have hsh : ∀ b ∈ f.blocks, tosB b.term = true ∧ b.term.to.all (toB f.blocks.length) = true := fun b hbm => by
    have := List.all_eq_true.1 h3 b hbm
    unfold shapeB at this
    rwa [Bool.and_eq_true] at this
  refine ⟨⟨h1.1, h1.2.1⟩, h1.2.2.1, hpar, fun b hbm => by have := items_le hbm; omega, fun b hbm t ht => ?_, fun b hbm => ?_, fun i b hi p hp => ?_, fun b hbm x hx => ?_⟩
  · have := of_decide_eq_true (List.all_eq_true.1 (hsh b hbm).2 t ht)
    omega
  · have ht := (hsh b hbm).1
    have he := (blockE_zero.1 (hb b hbm)).2.2
    unfold tosB at ht
    unfold termE wantOf at he
    by_cases k1 : b.term.kind = 1
    · rw [if_pos k1] at ht; exact .inl ⟨k1, of_decide_eq_true ht⟩
    rw [if_neg k1] at ht
    by_cases k2 : b.term.kind = 2
    · rw [if_pos k2, Bool.and_eq_true] at ht
      rw [if_pos k2, if_neg (show ¬ (2 : Int) = 0 by decide)] at he
      exact .inr (.inl ⟨k2, of_decide_eq_true ht.1, (ite_zero (by decide) he).1⟩)
    rw [if_neg k2] at ht
    by_cases k3 : b.term.kind = 3
    · rw [if_pos k3] at ht
      rw [if_neg k2, if_pos k3] at he
      refine .inr (.inr ⟨k3, of_decide_eq_true ht, ?_⟩)
      split at he
      · exact .inl (ite_zero (by decide) he).1
      · exact .inr (ite_zero (by decide) he).1
    rw [if_neg k3] at ht; cases ht
  · have hm := meetK_get h4 i b hi p hp
    rw [Nat.zero_add] at hm
    have hph := (blockE_zero.1 (hb b (List.mem_of_getElem? hi))).1 p hp
    unfold phiE at hph
    have := (ite_zero (by decide) hph).1
    rw [Bool.and_eq_true] at this
    exact ⟨hm, of_decide_eq_true (p := 0 ≤ p.dst ∧ p.dst < f.regs.length) this.1, are_in this.2⟩
  · exact ins_in hty ((blockE_zero.1 (hb b hbm)).2.1 x hx)
theorem proper_ok {m : List FunD} (h : Proper m) : m.length ≤ 32 ∧ ∀ f ∈ m, FunOk m f := by
  obtain ⟨h1, h2⟩ := proper_iff.1 h
  exact ⟨h1, fun f hf => fun_ok (h2 f hf)⟩
end Go.Proofs.Ytcjmhdneelmbhaa

/- A row of rows; what the loops over a function's blocks come to. No condition. -/
namespace Go.Proofs.Ytcjmhdneelmbhaa
open Go.ChangeShapes Go.WideShapes Go.RowKit Go.Deep
set_option linter.unusedVariables false

/-- Is it the number of one of so many? -/
def isAtB (a : Int) (n : Int) : Bool := decide (0 ≤ a ∧ a < n)
/-- Is a list's last number n? -/
def endsB (l : List Int) (n : Int) : Bool := l.getLast? == some n

/-! ### The row of rows -/
structure Grid (w : World) (G n : Nat) (V : Nat → Value) (L : Nat → List Int) : Prop where
  row : w.rowIs G 34 n V
  own : ∀ i, i < n → w.ownsRow (G + 1) 3 1 (V i) (L i).length ((L i).map (Value.int .i64))
  apart : ∀ i j, i < n → j < n → i ≠ j → (V i).ownBlock = none ∨ (V i).ownBlock ≠ (V j).ownBlock

theorem Grid.congr {w : World} {G n : Nat} {V : Nat → Value} {L L' : Nat → List Int} (h : Grid w G n V L) (e : ∀ i, i < n → L i = L' i) : Grid w G n V L' :=
  ⟨h.row, fun i hi => by rw [← e i hi]; exact h.own i hi, h.apart⟩
theorem Grid.alloc {w : World} {G n : Nat} {V : Nat → Value} {L : Nat → List Int} (h : Grid w G n V L) (o : Obj) : Grid (w.alloc o) G n V L :=
  ⟨h.row.alloc o, fun i hi => (h.own i hi).alloc o, h.apart⟩
theorem Grid.drewN {w : World} {G n : Nat} {V : Nat → Value} {L : Nat → List Int} (h : Grid w G n V L) (k : Nat) : Grid (w.drewN k) G n V L := ⟨h.row, h.own, h.apart⟩
theorem Grid.made (w : World) (G n : Nat) (hG : G = w.heap.size) : Grid (w.alloc (.cells (madeCells #[.slice none 0 0] n) 34)) G n (fun _ => .slice none 0 0) (fun _ => []) := by
  subst hG
  exact ⟨World.rowIs_made w _ n _, fun i _ => World.ownsRow_nil _ _ _ _, fun i j _ _ _ => .inl rfl⟩
theorem Grid.push {w w3 : World} {G n : Nat} {V : Nat → Value} {L : Nat → List Int} (h : Grid w G n V L) {t : Nat} (ht : t < n) {g cap : Nat} {x : Int}
    (hown : w3.ownsRow (G + 1) 3 1 (.slice (some ⟨g, 0, none⟩) ((L t).length + 1) cap) ((L t).length + 1) ((L t).map (Value.int .i64) ++ [.int .i64 x]))
    (hgrow : w.grownBy w3 (V t).ownBlock) (hloc : (V t).ownBlock = some g ∨ g = w.heap.size) :
    Grid (w3.setCell ⟨G, t, none⟩ (.slice (some ⟨g, 0, none⟩) ((L t).length + 1) cap)) G n (fun j => if j = t then .slice (some ⟨g, 0, none⟩) ((L t).length + 1) cap else V j) (fun j => if j = t then L t ++ [x] else L j) := by
  have hblk : w3.heap[G]? = w.heap[G]? := hgrow.block G h.row.lt (fun e => by have := ((h.own t ht).lt G e.symm).1; omega)
  have hrow3 : w3.rowIs G 34 n V := h.row.of_block hblk
  refine ⟨hrow3.set t _, fun j hj => ?_, fun i j hi hj hij => ?_⟩
  · by_cases e : j = t
    · subst e
      simp only [if_true]
      have := ownsRow_setCell_below hown (a := ⟨G, j, none⟩) (by show G < G + 1; omega) (.slice (some ⟨g, 0, none⟩) ((L j).length + 1) cap)
      simpa using this
    · simp only [if_neg e]
      exact ownsRow_setCell_below ((h.own j hj).kept hgrow (h.apart j t hj ht e)) (a := ⟨G, t, none⟩) (by show G < G + 1; omega) _
  · have key : ∀ j, j < n → j ≠ t → (V j).ownBlock = none ∨ (V j).ownBlock ≠ some g := fun j hj hjt => by
      rcases hloc with e | e
      · rw [← e]; exact h.apart j t hj ht hjt
      · cases hb : (V j).ownBlock with
        | none => exact .inl rfl
        | some b => right; intro e2; have := ((h.own j hj).lt b hb).2; simp at e2; omega
    by_cases ei : i = t
    · subst ei
      simp only [if_true, if_neg (Ne.symm hij)]
      right
      rcases key j hj (Ne.symm hij) with e | e
      · rw [e]; simp [Value.ownBlock]
      · intro e2; exact e (e2.symm.trans rfl)
    · by_cases ej : j = t
      · subst ej
        simp only [if_true, if_neg ei]
        exact key i hi ei
      · simp only [if_neg ei, if_neg ej]
        exact h.apart i j hi hj hij

theorem Try.info34 : (Try.prog.info? 34).map (fun i => (i.zero, i.size, i.bytes)) = some (some (.slice none 0 0), 1, 24) := by kernel_rfl

/-! ### What the loops come to -/
def LJ (bs : List BlkD) (k : Nat) (t : List Int) (i : Nat) : List Int := aheadL (bs.take k) i ++ (if hasTo i t then [(k : Int)] else [])
theorem LJ_nil (bs : List BlkD) (k i : Nat) : LJ bs k [] i = aheadL (bs.take k) i := by simp [LJ, hasTo]
theorem LJ_all {bs : List BlkD} {k : Nat} {x : BlkD} (i : Nat) (h : bs[k]? = some x) : LJ bs k x.term.to i = aheadL (bs.take (k + 1)) i := (aheadL_step i h).symm
theorem LJ_ends (bs : List BlkD) (k : Nat) (t : List Int) (i : Nat) : endsB (LJ bs k t i) k = hasTo i t := by
  unfold LJ endsB
  cases h : hasTo i t
  · simp only [if_neg Bool.false_ne_true, List.append_nil]
    rw [beq_eq_false_iff_ne]
    intro e
    have hm := List.mem_of_getLast? e
    have := aheadK_mem (bs.take k) 0 i _ hm
    simp at this; omega
  · simp
theorem LJ_len (bs : List BlkD) (k : Nat) (t : List Int) (i : Nat) : (LJ bs k t i).length ≤ bs.length + 1 := by
  unfold LJ
  have := aheadK_len (bs.take k) 0 i
  rw [List.length_append, aheadL]
  have h2 : (bs.take k).length ≤ bs.length := by simp; omega
  split <;> simp <;> omega
theorem LJ_i64 (bs : List BlkD) (k : Nat) (t : List Int) (i : Nat) (hk : k ≤ 1000000) (h : bs.length ≤ 1000000) : ∀ x ∈ LJ bs k t i, I64 x := by
  intro x hx
  unfold LJ at hx
  rcases List.mem_append.1 hx with hx | hx
  · exact aheadL_i64 _ _ (by simp; omega) x hx
  · split at hx
    · rw [List.mem_singleton.1 hx]; unfold I64; omega
    · simp at hx
/-- A To that is no block's number changes nothing. -/
theorem LJ_out {bs : List BlkD} {k : Nat} {t : List Int} {j : Nat} {x : Int} (hx : t[j]? = some x) (i : Nat) (h : x ≠ i) : LJ bs k (t.take j) i = LJ bs k (t.take (j + 1)) i := by
  unfold LJ
  rw [hasTo_step _ hx, beq_eq_false_iff_ne.2 h, Bool.or_false]
theorem LJ_again {bs : List BlkD} {k : Nat} {t : List Int} {j : Nat} {x : Int} (hx : t[j]? = some x) (i : Nat) (h : hasTo x (t.take j) = true) : LJ bs k (t.take j) i = LJ bs k (t.take (j + 1)) i := by
  by_cases e : x = i
  · unfold LJ; rw [hasTo_step _ hx, ← e, h]; rfl
  · exact LJ_out hx i e
theorem LJ_new {bs : List BlkD} {k : Nat} {t : List Int} {j : Nat} {q : Nat} (hx : t[j]? = some (q : Int)) (i : Nat) (h : hasTo q (t.take j) = false) :
    (if i = q then LJ bs k (t.take j) q ++ [(k : Int)] else LJ bs k (t.take j) i) = LJ bs k (t.take (j + 1)) i := by
  by_cases e : i = q
  · subst e; rw [if_pos rfl]; unfold LJ; rw [hasTo_step _ hx, h]; simp
  · rw [if_neg e, LJ_out hx i (fun e2 => e (by omega))]

/-- A slice of slices reads as a list of lists. -/
def RRow (w : World) (b o : Nat) (xs : List Int) : Prop := CS w b o 1 RInt xs
def rows (bs : List BlkD) : List (List Int) := (List.range bs.length).map fun i => aheadL bs (i : Nat)

theorem rows_len (bs : List BlkD) : (rows bs).length = bs.length := by simp [rows]
theorem rows_at {bs : List BlkD} {k : Nat} {x : List Int} (h : (rows bs)[k]? = some x) : x = aheadL bs k := by
  unfold rows at h
  rw [List.getElem?_map] at h
  obtain ⟨i, hi, rfl⟩ := Option.map_eq_some_iff.1 h
  obtain ⟨hl, rfl⟩ := List.getElem?_eq_some_iff.1 hi
  simp
theorem RRow.keep {w w' : World} (h : Kept w w') (b o : Nat) (x : List Int) (hv : RRow w b o x) : RRow w' b o x := CS.keep h (RInt.keep h) hv
theorem Grid.reads {w : World} {G : Nat} {V : Nat → Value} {bs : List BlkD} (h : Grid w G bs.length V (fun i => aheadL bs i)) (hn : bs.length ≤ 1000000) : SL w 1 RRow (some ⟨G, 0, none⟩) bs.length (rows bs) := by
  refine ⟨by rw [rows_len]; omega, ⟨by unfold maxLen; omega, fun e => by cases e⟩, fun _ => ⟨G, 0, rfl, fun i x hi => ?_⟩⟩
  have hl : i < bs.length := by have := (List.getElem?_eq_some_iff.1 hi).1; rwa [rows_len] at this
  rw [rows_at hi, Nat.mul_one, Nat.zero_add]
  obtain ⟨A, c, e, hs⟩ := vs_of_own (h.own i hl) (aheadL_i64 _ _ (by omega))
  exact ⟨A, c, (h.row.cell hl).trans (congrArg some e), hs⟩

end Go.Proofs.Ytcjmhdneelmbhaa

/- The program's Ahead: a row of rows, row i the blocks ahead of i. -/
namespace Go.Proofs.Ytcjmhdneelmbhaa
open Go.ChangeShapes Go.WideShapes Go.RowKit Go.Deep
set_option linter.unusedVariables false

theorem isAt_yes (a b : Int) (w : World) (h0 : 0 ≤ a) (h1 : a < b) : Calls Try.prog 51 #[.int .i64 a, .int .i64 b] w fun e w' => e = .returned (.bool true) ∧ w = w' := by
  go_enter Try.func51, Try.ntmps51
  go_wp2_with fail
  go_ret
  exact ⟨rfl, rfl⟩
theorem isAt_no (a b : Int) (w : World) (h : ¬ (0 ≤ a ∧ a < b)) : Calls Try.prog 51 #[.int .i64 a, .int .i64 b] w fun e w' => e = .returned (.bool false) ∧ w = w' := by
  by_cases h0 : 0 ≤ a
  · have h1 : b ≤ a := by omega
    clear h
    go_enter Try.func51, Try.ntmps51
    go_wp2_with fail
    go_ret
    exact ⟨by simp [h1], rfl⟩
  · clear h
    go_enter Try.func51, Try.ntmps51
    go_wp2_with fail
    go_ret
    exact ⟨rfl, rfl⟩
theorem isAt_any (a b : Int) (w : World) : Calls Try.prog 51 #[.int .i64 a, .int .i64 b] w fun e w' => e = .returned (.bool (isAtB a b)) ∧ w = w' := by
  by_cases h : 0 ≤ a ∧ a < b
  · exact (isAt_yes a b w h.1 h.2).mono fun e w' h' => ⟨by rw [h'.1, isAtB, decide_eq_true h], h'.2⟩
  · exact (isAt_no a b w h).mono fun e w' h' => ⟨by rw [h'.1, isAtB, decide_eq_false h], h'.2⟩

theorem endsWith_any (l : List Int) (v : Value) (n : Int) (w : World) (hv : VS w 1 RInt v l) :
    Calls Try.prog 52 #[v, .int .i64 n] w fun e w' => e = .returned (.bool (endsB l n)) ∧ w = w' := by
  obtain ⟨A, c, rfl, hl⟩ := hv
  have hlen := hl.len
  by_cases h0 : l.length = 0
  · have he : endsB l n = false := by
      rw [List.length_eq_zero_iff.1 h0]; rfl
    rw [he]
    clear he
    have h00 : ¬ (0 < l.length) := by omega
    have H0 := Lib.hid h0
    clear h0
    go_enter Try.func52, Try.ntmps52
    go_wp2_with fail
    go_ret
    exact ⟨rfl, rfl⟩
  · have h1 : 0 < l.length := by omega
    clear h0
    obtain ⟨b, o, x, rfl, hx, hc, -⟩ := hl.int (k := l.length - 1) (by omega)
    have he : endsB l n = (x == n) := by
      rw [endsB, List.getLast?_eq_getElem?, hx.out]; rfl
    rw [he]
    have hc' : w.cell? ⟨b, o + (l.length - 1), none⟩ = some (.int .i64 x) := hc
    clear he hx
    go_enter Try.func52, Try.ntmps52
    go_wp2_with fail
    go_ret
    exact ⟨rfl, rfl⟩

set_option maxRecDepth 100000 in
set_option maxHeartbeats 4000000 in
theorem ahead_any (f : FunD) (v : Value) (w : World) (hv : VFun w v f) (hn : f.blocks.length ≤ 1000000) :
    Calls Try.prog 36 #[v] w fun e w' => (∃ V G, e = .returned (.slice (some ⟨G, 0, none⟩) f.blocks.length f.blocks.length) ∧ w.heap.size ≤ G ∧ Grid w' G f.blocks.length V (fun i => aheadL f.blocks i)) ∧ Below w.heap.size w w' := by
  obtain ⟨Ar, cr, A, c, rfl, hr, hb, -, -⟩ := hv
  have hbl := hb.len
  obtain ⟨i0, hi, hz0, hz1, hz2⟩ := info_parts Try.info3
  have HI := Lib.hid (And.intro hi (And.intro hz0 (And.intro hz1 hz2)))
  clear hi hz0 hz1 hz2
  have hmk := run_make_row' (P := Try.prog) 80 34 (.slice none 0 0) 24 Try.underlying80 Try.info34 rfl .i64 .i64 f.blocks.length (by omega) (by omega)
  go_enter Try.func36, Try.ntmps36
  go_wp2_with fail
  clear hmk
  obtain ⟨w1, hw1, hs1, hk1, hbel1, hc1, -⟩ := named w #[.int .i64 f.params, .int .i64 f.result, .slice Ar f.regs.length cr, .slice A f.blocks.length c] 43
  have hc1 := hc1 3 _ rfl
  rw [← hw1]
  clear hw1
  have hgr := Grid.made w1 (w.heap.size + 1) f.blocks.length hs1.symm
  have hbel1' : Below (w.heap.size + 1) w1 (w1.alloc (.cells (madeCells #[.slice none 0 0] f.blocks.length) 34)) := (Below.refl _ _).alloc (by omega) _
  have hs2 : w.heap.size + 1 < (w1.alloc (.cells (madeCells #[.slice none 0 0] f.blocks.length) 34)).heap.size := by simp; omega
  generalize w1.alloc (.cells (madeCells #[.slice none 0 0] f.blocks.length) 34) = w2 at *
  have HS1 := Lib.hid hs1
  clear hs1
  go_loopw [15] (fun i wr => ∃ (k : Nat) (V : Nat → Value), k ≤ f.blocks.length ∧ i = .int .i64 k ∧ Below (w.heap.size + 1) w1 wr ∧ w.heap.size + 1 < wr.heap.size ∧ Grid wr (w.heap.size + 1) f.blocks.length V (fun i => aheadL (f.blocks.take k) i)) (fun i _ => f.blocks.length - (intOf i).toNat)
  case atStart => exact ⟨0, _, Nat.zero_le _, rfl, hbel1', hs2, hgr⟩
  case round =>
    obtain ⟨k, V, hk, rfl, hbel, hs, hg⟩ := hrel
    obtain ⟨wo, rfl⟩ : ∃ wo, wo = wr := ⟨wr, rfl⟩
    have hkw : Kept w1 wo := kept_below hbel (by have := HS1.out; omega)
    have hbox := hkw _ _ hc1
    by_cases hlt : k < f.blocks.length
    · obtain ⟨b, o, kb, rfl, hkb, ⟨Ap, cp, hphi, -⟩, ⟨Ai, ci, hins, -⟩, ⟨hkd, -⟩, ⟨har, -⟩, ⟨At, ct, hto, htos⟩⟩ := (SBlks.keep hk1 hb).at_ hlt
      have hphi := hkw _ _ hphi
      have hins := hkw _ _ hins
      have hkd := hkw _ _ hkd
      have har := hkw _ _ har
      have hto := hkw _ _ hto
      have htl := htos.len
      go_wp2_with fail
      clear hphi hins hkd har hto
      obtain ⟨w3, hw3, hs3, hk3, hbel3, -, -⟩ := named wo #[.slice Ap kb.phis.length cp, .slice Ai kb.ins.length ci, .int .i64 kb.term.kind, .int .i64 kb.term.arg, .slice At kb.term.to.length ct] 40
      have hg3 : Grid w3 (w.heap.size + 1) f.blocks.length V (LJ f.blocks k []) := by
        rw [hw3]; exact (hg.alloc _).congr (fun i _ => (LJ_nil _ _ _).symm)
      have hb3 : Below (w.heap.size + 1) w1 w3 := hbel.trans (hbel3.mono (by omega))
      have hs3 : w.heap.size + 1 < w3.heap.size := by omega
      rw [← hw3]
      clear hw3
      go_loopw [24] (fun i wr => ∃ (j : Nat) (V : Nat → Value), j ≤ kb.term.to.length ∧ i = .int .i64 j ∧ Below (w.heap.size + 1) w1 wr ∧ w.heap.size + 1 < wr.heap.size ∧ Grid wr (w.heap.size + 1) f.blocks.length V (LJ f.blocks k (kb.term.to.take j))) (fun i _ => kb.term.to.length - (intOf i).toNat)
      case atStart => exact ⟨0, V, Nat.zero_le _, rfl, hb3, hs3, hg3⟩
      case round =>
        obtain ⟨j, V', hj, rfl, hbelr, hsr, hgr'⟩ := hrel
        have hkr : Kept w1 wr := kept_below hbelr (by have := HS1.out; omega)
        have hboxr := hkr _ _ hc1
        by_cases hjt : j < kb.term.to.length
        · obtain ⟨b', o', x, rfl, hx, hxc, -⟩ := htos.int hjt
          have hxc := hkr _ _ hxc
          by_cases hin : 0 ≤ x ∧ x < f.blocks.length
          · obtain ⟨q, rfl⟩ : ∃ q : Nat, x = q := ⟨x.toNat, by omega⟩
            have hq : q < f.blocks.length := by omega
            have hq1 : (q : Int) < f.blocks.length := by omega
            have hq0 : (0 : Int) ≤ q := by omega
            clear hin
            have hrow := hgr'.row.cell hq
            have hvs : VS wr 1 RInt (V' q) (LJ f.blocks k (kb.term.to.take j) q) := vs_of_own (hgr'.own q hq) (LJ_i64 _ _ _ _ (by omega) hn)
            have he := LJ_ends f.blocks k (kb.term.to.take j) q
            have HE := Lib.hid he
            clear he
            go_wp2_with fail
            refine (isAt_yes _ _ _ hq0 hq1).mono ?_
            rintro e w' ⟨rfl, rfl⟩
            go_wp2_with fail
            refine (endsWith_any _ _ _ _ hvs).mono ?_
            rintro e w' ⟨rfl, rfl⟩
            rw [HE.out]
            cases hh : hasTo q (kb.term.to.take j)
            · have HH := Lib.hid hh
              clear hh
              have hll := LJ_len f.blocks k (kb.term.to.take j) q
              go_wp2_with (at_builtin; refine wpList_append_lies _ rfl (.tmp 47) (.tmp 49) 34 rfl (w.heap.size + 1 + 1) 3 i0 (.int .i64 0) 1 8 Try.underlying34 HI.out.1 HI.out.2.1 HI.out.2.2.1 HI.out.2.2.2 rfl (by decide) (V' q) _ _ rfl ((hgr'.own q hq).alloc _) ⟨wr.heap.size, 0, none⟩ 1 1 [.int .i64 k] rfl rfl ?c1 ?c2 ?c0 ?c3 ?c4 ?c5 (wr.heap.size + 1) ?c6 ?_)
              case c1 => exact news_one_add wr _ _ rfl
              case c2 => exact ints_oneCell .i64 [(k : Int)]
              case c0 => omega
              case c3 => unfold maxLen; omega
              case c4 => omega
              case c5 => simp; omega
              case c6 => simp
              intro g cap w4 hown4 hgrow4 hloc4 hlt4
              have hgp := Grid.push (hgr'.alloc _) hq hown4 hgrow4 (by simpa using hloc4)
              have hgp' := hgp.congr (fun i _ => LJ_new hx.out i HH.out)
              have hb4 : Below (w.heap.size + 1) w1 w4 := (hbelr.alloc (by omega) _).grown hgrow4 (by simp; omega) (fun g hg => by have := ((hgr'.own q hq).lt g hg).1; omega)
              have hG4 : w4.heap[w.heap.size + 1]? = (wr.alloc (.cells #[.int .i64 k] 3)).heap[w.heap.size + 1]? := hgrow4.block _ (by simp; omega) (fun e => by have := ((hgr'.own q hq).lt _ e.symm).1; omega)
              have hrow4 := (World.cell?_of_block (a := ⟨w.heap.size + 1, q, none⟩) hG4).trans ((hgr'.row.alloc _).cell hq)
              have hfr4 := (World.frozen?_of_block (a := ⟨w.heap.size + 1, q, none⟩) hG4).trans ((hgr'.row.alloc _).frozen q)
              have hs4 : w.heap.size + 1 < w4.heap.size := by have := hgrow4.size; simp at this; omega
              have HP := Lib.hid hgp'
              clear hgp hgp' hown4 hgrow4 hloc4 hG4 hgr' hrow hvs
              go_wp2_with fail
              go_roundw
              case rel => exact ⟨j + 1, _, by omega, by go_num, hb4.setCell (by show _ ≤ w.heap.size + 1; omega) _, by simpa using hs4, HP.out⟩
              case measure => simp [intOf]; omega
            · have HH := Lib.hid hh
              clear hh
              go_wp2_with fail
              go_roundw
              case rel => exact ⟨j + 1, V', by omega, by go_num, hbelr, hsr, hgr'.congr (fun i _ => LJ_again hx.out i HH.out)⟩
              case measure => simp [intOf]; omega
          · go_wp2_with fail
            refine (isAt_no _ _ _ hin).mono ?_
            rintro e w' ⟨rfl, rfl⟩
            go_wp2_with fail
            go_roundw
            case rel => exact ⟨j + 1, V', by omega, by go_num, hbelr, hsr, hgr'.congr (fun i hi => LJ_out hx.out i (fun e => hin (by omega)))⟩
            case measure => simp [intOf]; omega
        · have hjj : kb.term.to.take j = kb.term.to := List.take_of_length_le (by omega)
          rw [hjj] at hgr'
          clear hjj
          go_wp2_with fail
          go_roundw
          case rel => exact ⟨k + 1, V', by omega, by go_num, hbelr, hsr, hgr'.congr (fun i _ => LJ_all i hkb.out)⟩
          case measure => simp [intOf]; omega
    · have hkk : f.blocks.take k = f.blocks := List.take_of_length_le (by omega)
      rw [hkk] at hg
      clear hkk
      go_wp2_with fail
      go_ret
      exact ⟨⟨V, _, rfl, by omega, hg⟩, hbel1.trans (hbel.mono (by omega))⟩
end Go.Proofs.Ytcjmhdneelmbhaa
