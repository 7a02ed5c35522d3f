/- A run, step by step, as a function over lists: plain mathematics. -/
import Derived.Test.YtdfiflbkamhchaaDoorArMJ
namespace Go.Proofs.YtdfiflbkamhchaaDoor
open Go.RowKit
set_option linter.unusedVariables false

/-- A function under way: where it is, and what its registers hold. -/
structure Fr where
  fn : Nat
  blk : Nat
  at_ : Nat
  regs : Nat → Int
/-- A run as it stands; of those that wait the last one comes first. -/
structure St where
  cur : Fr
  stack : List Fr
  done : Bool
  trap : Int
  value : Int
  out : List Int
  steps : Nat
  mem : Nat → Int

def upd (f : Nat → Int) (i : Nat) (v : Int) : Nat → Int := fun k => if k = i then v else f k
def firstR (l : List Int) : Nat → Int := fun k => l.getD k 0
def argsV (regs : Nat → Int) (l : List Int) : List Int := l.map fun r => regs r.toNat
def evalV (op : Int) (l : List Int) : Option Int :=
  if op = 2 ∨ op = 14 then some (one op (l.getD 0 0)) else if op = 11 ∧ l.getD 1 0 = 0 then none else some (two op (l.getD 0 0) (l.getD 1 0))
def blkAt (f : FunD) (i : Nat) : BlkD := f.blocks.getD i default
def trapS (s : St) (t : Int) : St := { s with done := true, trap := t }
def setR (s : St) (r : Int) (v : Int) : St := { s with cur := { s.cur with regs := upd s.cur.regs r.toNat v } }
def enterS (s : St) (f : Nat) (l : List Int) : St := { s with cur := ⟨f, 0, 0, firstR l⟩ }
def wordB (l : List Int) : Bool := decide (0 ≤ l.getD 0 0 ∧ l.getD 0 0 < 64)
/-- An instruction is done. -/
def doS (s : St) (x : InsD) : St :=
  if x.op = 1 then setR s x.dst x.imm
  else if x.op = 15 then (if wordB (argsV s.cur.regs x.args) then setR s x.dst (s.mem ((argsV s.cur.regs x.args).getD 0 0).toNat) else trapS s 2)
  else if x.op = 16 then (if wordB (argsV s.cur.regs x.args) then { s with mem := upd s.mem ((argsV s.cur.regs x.args).getD 0 0).toNat ((argsV s.cur.regs x.args).getD 1 0) } else trapS s 2)
  else if x.op = 18 then { s with out := s.out ++ [(argsV s.cur.regs x.args).getD 0 0] }
  else if x.op = 17 then enterS { s with stack := s.cur :: s.stack } x.fn.toNat (argsV s.cur.regs x.args)
  else match evalV x.op (argsV s.cur.regs x.args) with
    | some v => setR s x.dst v
    | none => trapS s 1
def setAll (r : Nat → Int) (l : List (Int × Int)) : Nat → Int := l.foldl (fun r p => upd r p.1.toNat p.2) r
/-- What the phis of a block read, of one that it is entered from. -/
def phiVals (f : FunD) (fr : Fr) (to : Nat) : List Int := (blkAt f to).phis.map fun p => fr.regs (p.args.getD ((aheadL f.blocks to).idxOf (fr.blk : Int)) 0).toNat
def goToF (f : FunD) (fr : Fr) (to : Nat) : Fr := { fr with blk := to, at_ := 0, regs := setAll fr.regs (((blkAt f to).phis.map PhiD.dst).zip (phiVals f fr to)) }
def callOf (m : List FunD) (fr : Fr) : InsD := (blkAt (m.getD fr.fn default) fr.blk).ins.getD (fr.at_ - 1) default
def resumeF (m : List FunD) (fr : Fr) (v : Int) : Fr := if 0 ≤ (callOf m fr).dst then { fr with regs := upd fr.regs (callOf m fr).dst.toNat v } else fr
def giveS (m : List FunD) (s : St) (v : Int) : St := match s.stack with
  | [] => { s with done := true, value := v }
  | c :: r => { s with cur := resumeF m c v, stack := r }
def endS (m : List FunD) (s : St) (t : TermD) : St :=
  if t.kind = 3 then giveS m s (if 0 ≤ t.arg then s.cur.regs t.arg.toNat else 0)
  else if t.kind = 2 ∧ s.cur.regs t.arg.toNat = 0 then { s with cur := goToF (m.getD s.cur.fn default) s.cur (t.to.getD 1 0).toNat }
  else { s with cur := goToF (m.getD s.cur.fn default) s.cur (t.to.getD 0 0).toNat }
def blkOf (m : List FunD) (fr : Fr) : BlkD := blkAt (m.getD fr.fn default) fr.blk
def stepS (m : List FunD) (s : St) : St :=
  if s.cur.at_ = (blkOf m s.cur).ins.length then endS m s (blkOf m s.cur).term
  else doS { s with cur := { s.cur with at_ := s.cur.at_ + 1 } } ((blkOf m s.cur).ins.getD s.cur.at_ default)
def tickS (s : St) : St := { s with steps := s.steps + 1 }
/-- So many steps more, at most. -/
def loopS (m : List FunD) : Nat → St → St
  | 0, s => s
  | k + 1, s => if s.done then s else loopS m k (stepS m (tickS s))
def startS (f : Nat) (args : List Int) : St := ⟨⟨f, 0, 0, firstR args⟩, [], false, 0, 0, [], 0, fun _ => 0⟩
def runS (m : List FunD) (f : Nat) (args : List Int) (k : Nat) : St := loopS m k (startS f args)

/-! ### More steps -/
theorem loopS_done {m : List FunD} {k : Nat} {s : St} (h : s.done = true) : loopS m k s = s := by
  cases k with
  | zero => rfl
  | succ k => simp [loopS, h]
theorem loopS_add (m : List FunD) (k n : Nat) (s : St) : loopS m (k + n) s = loopS m n (loopS m k s) := by
  induction k generalizing s with
  | zero => simp [loopS]
  | succ k ih =>
    rw [show k + 1 + n = (k + n) + 1 by omega]
    by_cases h : s.done = true
    · rw [loopS_done h, loopS_done h, loopS_done h]
    · simp only [loopS, h, if_false, Bool.false_eq_true]; exact ih _
theorem loopS_succ (m : List FunD) (k : Nat) (s : St) : loopS m (k + 1) s = if (loopS m k s).done then loopS m k s else stepS m (tickS (loopS m k s)) := by
  rw [loopS_add]; simp [loopS]

theorem doS_steps (s : St) (x : InsD) : (doS s x).steps = s.steps := by
  unfold doS setR trapS enterS
  repeat' split
  all_goals rfl
theorem giveS_steps (m : List FunD) (s : St) (v : Int) : (giveS m s v).steps = s.steps := by unfold giveS; split <;> rfl
theorem endS_steps (m : List FunD) (s : St) (t : TermD) : (endS m s t).steps = s.steps := by
  unfold endS; split
  · exact giveS_steps m s _
  · split <;> rfl
theorem stepS_steps (m : List FunD) (s : St) : (stepS m s).steps = s.steps := by
  unfold stepS; split
  · exact endS_steps m s _
  · exact doS_steps _ _
theorem doS_out (s : St) (x : InsD) : ∃ r, (doS s x).out = s.out ++ r ∧ r.length ≤ 1 := by
  unfold doS setR trapS enterS
  repeat' split
  all_goals first | exact ⟨[_], rfl, by simp⟩ | exact ⟨[], (List.append_nil _).symm, by simp⟩
theorem giveS_out (m : List FunD) (s : St) (v : Int) : (giveS m s v).out = s.out := by unfold giveS; split <;> rfl
theorem endS_out (m : List FunD) (s : St) (t : TermD) : (endS m s t).out = s.out := by
  unfold endS; split
  · exact giveS_out m s _
  · split <;> rfl
theorem stepS_out (m : List FunD) (s : St) : ∃ r, (stepS m s).out = s.out ++ r ∧ r.length ≤ 1 := by
  unfold stepS; split
  · exact ⟨[], by rw [endS_out]; simp, by simp⟩
  · exact doS_out _ _
theorem loopS_out (m : List FunD) (k : Nat) (s : St) : ∃ r, (loopS m k s).out = s.out ++ r := by
  induction k generalizing s with
  | zero => exact ⟨[], by simp [loopS]⟩
  | succ k ih =>
    by_cases h : s.done = true
    · rw [loopS_done h]; exact ⟨[], by simp⟩
    · simp only [loopS, h, if_false, Bool.false_eq_true]
      obtain ⟨r, hr⟩ := ih (stepS m (tickS s))
      obtain ⟨r2, hr2, -⟩ := stepS_out m (tickS s)
      exact ⟨r2 ++ r, by rw [hr, hr2, List.append_assoc]; rfl⟩
theorem loopS_steps (m : List FunD) (k : Nat) (s : St) : s.steps ≤ (loopS m k s).steps ∧ (loopS m k s).steps ≤ s.steps + k ∧ ((loopS m k s).done = false → (loopS m k s).steps = s.steps + k) := by
  induction k generalizing s with
  | zero => simp [loopS]
  | succ k ih =>
    by_cases h : s.done = true
    · rw [loopS_done h]; exact ⟨Nat.le_refl _, by omega, fun e => by rw [h] at e; cases e⟩
    · simp only [loopS, h, if_false, Bool.false_eq_true]
      obtain ⟨h1, h2, h3⟩ := ih (stepS m (tickS s))
      rw [stepS_steps] at h1 h2 h3
      have e : (tickS s).steps = s.steps + 1 := rfl
      rw [e] at h1 h2 h3
      exact ⟨by omega, by omega, fun hd => by rw [h3 hd]; omega⟩
theorem runS_more (m : List FunD) (f : Nat) (args : List Int) (k n : Nat) : runS m f args (k + n) = loopS m n (runS m f args k) := loopS_add m k n _
end Go.Proofs.YtdfiflbkamhchaaDoor

/- What holds of a proper module's functions, as a run needs it: plain mathematics. -/
namespace Go.Proofs.YtdfiflbkamhchaaDoor
open Go.RowKit
set_option linter.unusedVariables false

def InR (n : Nat) (a : Int) : Prop := 0 ≤ a ∧ a < n
/-- What a run leans on in an instruction. -/
def InsOk (m : List FunD) (n : Nat) (x : InsD) : Prop :=
  (∀ a ∈ x.args, InR n a) ∧
  ((x.op = 1 ∧ InR n x.dst) ∨ (2 ≤ x.op ∧ x.op ≤ 14 ∧ (x.args.length : Int) = opArity x.op ∧ InR n x.dst) ∨ (x.op = 15 ∧ x.args.length = 1 ∧ InR n x.dst) ∨
   (x.op = 16 ∧ x.args.length = 2) ∨ (x.op = 18 ∧ x.args.length = 1) ∨
   (x.op = 17 ∧ InR m.length x.fn ∧ (x.args.length : Int) = (funAt m x.fn).params ∧ (x.dst = -1 ∨ InR n x.dst)))
structure FunOk (m : List FunD) (f : FunD) : Prop where
  nb : 1 ≤ f.blocks.length ∧ f.blocks.length ≤ 64
  nr : f.regs.length ≤ 256
  par : 0 ≤ f.params ∧ f.params ≤ 8 ∧ f.params ≤ f.regs.length
  items : ∀ b ∈ f.blocks, b.phis.length + b.ins.length ≤ 256
  to : ∀ b ∈ f.blocks, ∀ t ∈ b.term.to, 1 ≤ t ∧ t < f.blocks.length
  kind : ∀ b ∈ f.blocks, (b.term.kind = 1 ∧ b.term.to.length = 1) ∨ (b.term.kind = 2 ∧ b.term.to.length = 2 ∧ InR f.regs.length b.term.arg) ∨ (b.term.kind = 3 ∧ b.term.to.length = 0 ∧ (b.term.arg = -1 ∨ InR f.regs.length b.term.arg))
  phis : ∀ (i : Nat) (b : BlkD), f.blocks[i]? = some b → ∀ p ∈ b.phis, p.args.length = (aheadL f.blocks i).length ∧ InR f.regs.length p.dst ∧ ∀ a ∈ p.args, InR f.regs.length a
  ins : ∀ b ∈ f.blocks, ∀ x ∈ b.ins, InsOk m f.regs.length x

theorem ite_zero {c : Prop} [Decidable c] {a b : Int} (hb : b ≠ 0) (h : (if c then a else b) = 0) : c ∧ a = 0 := by
  split at h
  · exact ⟨‹c›, h⟩
  · exact absurd h hb
theorem outer_four {f : FunD} (h : outerE f = 0) : withinB f = true ∧ typedB f = true ∧ endsWellB f = true ∧ meetB f = true := by
  unfold outerE at h
  obtain ⟨h1, h⟩ := ite_zero (by decide) h
  obtain ⟨h2, h⟩ := ite_zero (by decide) h
  obtain ⟨h3, -⟩ := ite_zero (by decide) h
  rw [Bool.and_eq_true] at h3
  exact ⟨h1, h2, h3.1, h3.2⟩
theorem items_le {bs : List BlkD} {b : BlkD} (h : b ∈ bs) : b.phis.length + b.ins.length ≤ itemsK bs := by
  unfold itemsK
  induction bs with
  | nil => cases h
  | cons x r ih =>
    simp only [List.map_cons, List.sum_cons]
    rcases List.mem_cons.1 h with rfl | h
    · omega
    · have := ih h; omega
theorem meetK_get {bs l : List BlkD} {i : Nat} (h : meetK bs l i = true) : ∀ (k : Nat) (b : BlkD), l[k]? = some b → ∀ p ∈ b.phis, p.args.length = (aheadL bs (i + k : Nat)).length := by
  induction l generalizing i with
  | nil => intro k b hk; simp at hk
  | cons x r ih =>
    simp only [meetK, Bool.and_eq_true] at h
    intro k b hk p hp
    cases k with
    | zero =>
      obtain rfl := Option.some.inj hk
      exact of_decide_eq_true (List.all_eq_true.1 h.1 p hp)
    | succ k =>
      have := ih h.2 k b hk p hp
      rwa [show i + 1 + k = i + (k + 1) by omega] at this
theorem are_in {l : List Int} {n : Nat} (h : areAtB l n = true) : ∀ a ∈ l, InR n a := fun a ha => by
  have := of_decide_eq_true (List.all_eq_true.1 h a ha)
  exact ⟨this.1, this.2⟩
theorem inR_of {n : Nat} {a : Int} (h : isIn n a = true) : InR n a := of_decide_eq_true (p := 0 ≤ a ∧ a < n) h
theorem rest_in {f : FunD} {x : InsD} {ts : List Int} {d : Int} {bad : Bool} (h : restE f x ts d bad = 0) : (∀ a ∈ x.args, InR f.regs.length a) ∧ ((d = 0 ∧ x.dst = -1) ∨ (0 < d ∧ InR f.regs.length x.dst)) := by
  unfold restE at h
  obtain ⟨h1, h⟩ := ite_zero (by decide) h
  obtain ⟨h2, -⟩ := ite_zero (by decide) h
  rw [Bool.and_eq_true, Bool.or_eq_true] at h1
  simp only [Bool.and_eq_true] at h2
  refine ⟨are_in h1.1, ?_⟩
  have h3 := h2.1.1.1.2
  by_cases hd : d = 0
  · rw [if_pos hd] at h3; exact .inl ⟨hd, of_decide_eq_true h3⟩
  · rw [if_neg hd] at h3
    have := of_decide_eq_true h3
    rcases h1.2 with h4 | h4
    · exact absurd (of_decide_eq_true h4) hd
    · exact .inr ⟨this.1, inR_of h4⟩
theorem ins_in {m : List FunD} {f : FunD} {x : InsD} (hty : ∀ t ∈ f.regs, t = 1 ∨ t = 2) (h : insE m f x = 0) : InsOk m f.regs.length x := by
  unfold insE at h
  by_cases h17 : x.op = 17
  · rw [if_pos h17] at h
    obtain ⟨h1, h⟩ := ite_zero (by decide) h
    obtain ⟨h2, h⟩ := ite_zero (by decide) h
    obtain ⟨g1, g2⟩ := rest_in h
    refine ⟨g1, .inr (.inr (.inr (.inr (.inr ⟨h17, inR_of h1, h2, ?_⟩))))⟩
    rcases g2 with g2 | g2
    · exact .inl g2.2
    · exact .inr g2.2
  · rw [if_neg h17] at h
    split at h
    · exact absurd h (by decide)
    · rename_i ts d hs
      obtain ⟨hl, h⟩ := ite_zero (by decide) h
      obtain ⟨g1, g2⟩ := rest_in h
      have hdt : dstT f x = 1 ∨ dstT f x = 2 := by
        unfold dstT
        split
        · rename_i hin
          have hr := of_decide_eq_true hin
          have hlt : x.dst.toNat < f.regs.length := by omega
          unfold reg
          rw [List.getD_eq_getElem?_getD, List.getElem?_eq_getElem hlt]
          exact hty _ (List.getElem_mem hlt)
        · exact .inl rfl
      refine ⟨g1, ?_⟩
      unfold sigOf at hs
      by_cases o1 : x.op = 1
      · rw [if_pos o1] at hs
        simp only [Option.some.injEq, Prod.mk.injEq] at hs
        rcases g2 with g2 | g2
        · omega
        · exact .inl ⟨o1, g2.2⟩
      rw [if_neg o1] at hs
      by_cases o2 : x.op = 2
      · rw [if_pos o2] at hs
        simp only [Option.some.injEq, Prod.mk.injEq] at hs
        rcases g2 with g2 | g2
        · omega
        · exact .inr (.inl ⟨by omega, by omega, by rw [hl, ← hs.1, o2]; rfl, g2.2⟩)
      rw [if_neg o2] at hs
      by_cases o12 : x.op = 12 ∨ x.op = 13
      · rw [if_pos o12] at hs
        simp only [Option.some.injEq, Prod.mk.injEq] at hs
        rcases g2 with g2 | g2
        · omega
        · exact .inr (.inl ⟨by omega, by omega, by rw [hl, ← hs.1]; rcases o12 with o | o <;> rw [o] <;> rfl, g2.2⟩)
      rw [if_neg o12] at hs
      by_cases o14 : x.op = 14
      · rw [if_pos o14] at hs
        simp only [Option.some.injEq, Prod.mk.injEq] at hs
        rcases g2 with g2 | g2
        · omega
        · exact .inr (.inl ⟨by omega, by omega, by rw [hl, ← hs.1, o14]; rfl, g2.2⟩)
      rw [if_neg o14] at hs
      by_cases o15 : x.op = 15
      · rw [if_pos o15] at hs
        simp only [Option.some.injEq, Prod.mk.injEq] at hs
        rcases g2 with g2 | g2
        · omega
        · exact .inr (.inr (.inl ⟨o15, by rw [hl, ← hs.1]; rfl, g2.2⟩))
      rw [if_neg o15] at hs
      by_cases o16 : x.op = 16
      · rw [if_pos o16] at hs
        simp only [Option.some.injEq, Prod.mk.injEq] at hs
        exact .inr (.inr (.inr (.inl ⟨o16, by rw [hl, ← hs.1]; rfl⟩)))
      rw [if_neg o16] at hs
      by_cases o18 : x.op = 18
      · rw [if_pos o18] at hs
        simp only [Option.some.injEq, Prod.mk.injEq] at hs
        exact .inr (.inr (.inr (.inr (.inl ⟨o18, by rw [hl, ← hs.1]; rfl⟩))))
      rw [if_neg o18] at hs
      by_cases o3 : 3 ≤ x.op ∧ x.op ≤ 11
      · rw [if_pos o3] at hs
        simp only [Option.some.injEq, Prod.mk.injEq] at hs
        rcases g2 with g2 | g2
        · omega
        · refine .inr (.inl ⟨by omega, by omega, ?_, g2.2⟩)
          rw [hl, ← hs.1]
          unfold opArity
          rw [if_neg (by omega), if_pos (by omega)]; rfl
      rw [if_neg o3] at hs
      cases hs
theorem fun_ok {m : List FunD} {f : FunD} (h : funE m f = 0) : FunOk m f := by
  obtain ⟨ho, hb⟩ := funE_zero.1 h
  obtain ⟨h1, h2, h3, h4⟩ := outer_four ho
  have h1 := of_decide_eq_true h1
  unfold typedB at h2
  rw [Bool.and_eq_true, Bool.and_eq_true] at h2
  have hpar := of_decide_eq_true h2.1.2
  have hty : ∀ t ∈ f.regs, t = 1 ∨ t = 2 := fun t ht => of_decide_eq_true (List.all_eq_true.1 h2.1.1 t ht)
  have hsh : ∀ b ∈ f.blocks, tosB b.term = true ∧ b.term.to.all (toB f.blocks.length) = true := fun b hbm => by
    have := List.all_eq_true.1 h3 b hbm
    unfold shapeB at this
    rwa [Bool.and_eq_true] at this
  refine ⟨⟨h1.1, h1.2.1⟩, h1.2.2.1, hpar, fun b hbm => by have := items_le hbm; omega, fun b hbm t ht => ?_, fun b hbm => ?_, fun i b hi p hp => ?_, fun b hbm x hx => ?_⟩
  · have := of_decide_eq_true (List.all_eq_true.1 (hsh b hbm).2 t ht)
    omega
  · have ht := (hsh b hbm).1
    have he := (blockE_zero.1 (hb b hbm)).2.2
    unfold tosB at ht
    unfold termE wantOf at he
    by_cases k1 : b.term.kind = 1
    · rw [if_pos k1] at ht; exact .inl ⟨k1, of_decide_eq_true ht⟩
    rw [if_neg k1] at ht
    by_cases k2 : b.term.kind = 2
    · rw [if_pos k2, Bool.and_eq_true] at ht
      rw [if_pos k2, if_neg (show ¬ (2 : Int) = 0 by decide)] at he
      exact .inr (.inl ⟨k2, of_decide_eq_true ht.1, (ite_zero (by decide) he).1⟩)
    rw [if_neg k2] at ht
    by_cases k3 : b.term.kind = 3
    · rw [if_pos k3] at ht
      rw [if_neg k2, if_pos k3] at he
      refine .inr (.inr ⟨k3, of_decide_eq_true ht, ?_⟩)
      split at he
      · exact .inl (ite_zero (by decide) he).1
      · exact .inr (ite_zero (by decide) he).1
    rw [if_neg k3] at ht; cases ht
  · have hm := meetK_get h4 i b hi p hp
    rw [Nat.zero_add] at hm
    have hph := (blockE_zero.1 (hb b (List.mem_of_getElem? hi))).1 p hp
    unfold phiE at hph
    have := (ite_zero (by decide) hph).1
    rw [Bool.and_eq_true] at this
    exact ⟨hm, of_decide_eq_true (p := 0 ≤ p.dst ∧ p.dst < f.regs.length) this.1, are_in this.2⟩
  · exact ins_in hty ((blockE_zero.1 (hb b hbm)).2.1 x hx)
theorem proper_ok {m : List FunD} (h : Proper m) : m.length ≤ 32 ∧ ∀ f ∈ m, FunOk m f := by
  obtain ⟨h1, h2⟩ := proper_iff.1 h
  exact ⟨h1, fun f hf => fun_ok (h2 f hf)⟩
end Go.Proofs.YtdfiflbkamhchaaDoor

/- Which registers are wanted where: what the program reckons, as functions, and what is wanted, by the document's words: plain mathematics. -/
namespace Go.Proofs.YtdfiflbkamhchaaDoor
open Go.RowKit
set_option linter.unusedVariables false

/-! ### What a block uses and makes -/
def mkI (ins : List InsD) (i r : Nat) : Bool := (ins.take i).any fun x => decide (x.dst = (r : Int))
def usA (ins : List InsD) (i : Nat) (args : List Int) : List Nat := (args.map Int.toNat).filter fun r => !mkI ins i r
def usK (ins : List InsD) : Nat → List Nat
  | 0 => []
  | i + 1 => usK ins i ++ (match ins[i]? with | some x => usA ins i x.args | none => [])
def usE (k : BlkD) : List Nat := if 0 ≤ k.term.arg ∧ mkI k.ins k.ins.length k.term.arg.toNat = false then [k.term.arg.toNat] else []
/-- The registers that a block uses. -/
def usB (k : BlkD) : List Nat := usK k.ins k.ins.length ++ usE k
def mkB (bs : List BlkD) (b r : Nat) : Bool := match bs[b]? with | some k => mkI k.ins k.ins.length r | none => false
def phI (ps : List PhiD) (i r : Nat) : Bool := (ps.take i).any fun p => decide (p.dst = (r : Int))
def phB (bs : List BlkD) (b r : Nat) : Bool := match bs[b]? with | some k => phI k.phis k.phis.length r | none => false
theorem mkI_succ {ins : List InsD} {i : Nat} {x : InsD} (h : ins[i]? = some x) (r : Nat) : mkI ins (i + 1) r = (mkI ins i r || decide (x.dst = (r : Int))) := by
  unfold mkI; rw [take_succ_of h, List.any_append]; simp
theorem phI_succ {ps : List PhiD} {i : Nat} {x : PhiD} (h : ps[i]? = some x) (r : Nat) : phI ps (i + 1) r = (phI ps i r || decide (x.dst = (r : Int))) := by
  unfold phI; rw [take_succ_of h, List.any_append]; simp
theorem mkB_at {bs : List BlkD} {b : Nat} {k : BlkD} (h : bs[b]? = some k) (r : Nat) : mkB bs b r = mkI k.ins k.ins.length r := by unfold mkB; rw [h]
theorem phB_at {bs : List BlkD} {b : Nat} {k : BlkD} (h : bs[b]? = some k) (r : Nat) : phB bs b r = phI k.phis k.phis.length r := by unfold phB; rw [h]
theorem usK_succ {ins : List InsD} {i : Nat} {x : InsD} (h : ins[i]? = some x) : usK ins (i + 1) = usK ins i ++ usA ins i x.args := by
  show usK ins i ++ _ = _; rw [h]

/-! ### The program's state -/
structure LvS where
  A : Nat → Nat → Bool
  E : Nat → Nat → Bool
  op : List (Nat × Nat)
def setB (M : Nat → Nat → Bool) (b r : Nat) : Nat → Nat → Bool := fun x y => if x = b ∧ y = r then true else M x y
theorem setB_here (M : Nat → Nat → Bool) (b r : Nat) : setB M b r b r = true := by unfold setB; rw [if_pos ⟨rfl, rfl⟩]
theorem setB_mono {M : Nat → Nat → Bool} {b r x y : Nat} (h : M x y = true) : setB M b r x y = true := by unfold setB; split; rfl; exact h
theorem setB_inv {M : Nat → Nat → Bool} {b r x y : Nat} (h : setB M b r x y = true) : (x = b ∧ y = r) ∨ M x y = true := by
  unfold setB at h; split at h
  · exact .inl ‹_›
  · exact .inr h
def atB (ph : Nat → Nat → Bool) (s : LvS) (b r : Nat) : LvS := if (s.A b r || ph b r) = true then s else ⟨setB s.A b r, s.E, s.op ++ [(b, r)]⟩
def atE (mk ph : Nat → Nat → Bool) (s : LvS) (b r : Nat) : LvS :=
  if s.E b r = true then s else if mk b r = true then ⟨s.A, setB s.E b r, s.op⟩ else atB ph ⟨s.A, setB s.E b r, s.op⟩ b r
/-- Wanted at ends, one behind the other. -/
def atEs (mk ph : Nat → Nat → Bool) (s : LvS) (l : List (Nat × Nat)) : LvS := l.foldl (fun s x => atE mk ph s x.1 x.2) s
def atBs (ph : Nat → Nat → Bool) (s : LvS) (b : Nat) (l : List Nat) : LvS := l.foldl (fun s r => atB ph s b r) s
theorem atEs_snoc (mk ph : Nat → Nat → Bool) (s : LvS) (l : List (Nat × Nat)) (b r : Nat) : atEs mk ph s (l ++ [(b, r)]) = atE mk ph (atEs mk ph s l) b r := by unfold atEs; rw [List.foldl_append]; rfl
theorem atBs_snoc (ph : Nat → Nat → Bool) (s : LvS) (b : Nat) (l : List Nat) (r : Nat) : atBs ph s b (l ++ [r]) = atB ph (atBs ph s b l) b r := by unfold atBs; rw [List.foldl_append]; rfl
/-- What a phi uses along the edges: block ahead and register. -/
def prP (ah : List Int) (args : List Int) : List (Nat × Nat) := (List.zip ah args).map fun x => (x.1.toNat, x.2.toNat)
def alE (mk ph : Nat → Nat → Bool) (ah : List Int) (s : LvS) (ps : List PhiD) : LvS := ps.foldl (fun s p => atEs mk ph s (prP ah p.args)) s
theorem alE_snoc (mk ph : Nat → Nat → Bool) (ah : List Int) (s : LvS) (ps : List PhiD) (p : PhiD) : alE mk ph ah s (ps ++ [p]) = atEs mk ph (alE mk ph ah s ps) (prP ah p.args) := by unfold alE; rw [List.foldl_append]; rfl
/-- When the first k blocks were gone through. -/
def stL (bs : List BlkD) : Nat → LvS
  | 0 => ⟨fun _ _ => false, fun _ _ => false, []⟩
  | k + 1 => match bs[k]? with
    | some x => alE (mkB bs) (phB bs) (aheadL bs k) (atBs (phB bs) (stL bs k) k (usB x)) x.phis
    | none => stL bs k
theorem stL_succ {bs : List BlkD} {k : Nat} {x : BlkD} (h : bs[k]? = some x) : stL bs (k + 1) = alE (mkB bs) (phB bs) (aheadL bs k) (atBs (phB bs) (stL bs k) k (usB x)) x.phis := by
  show (match bs[k]? with | some x => _ | none => _) = _
  rw [h]

/-! ### What is wanted -/
def AlongP (bs : List BlkD) (b t r : Nat) : Prop := ∃ x, bs[t]? = some x ∧ ∃ p ∈ x.phis, (b, r) ∈ prP (aheadL bs t) p.args
/-- Wanted at a block's end (true), or beginning (false). -/
inductive Want (bs : List BlkD) : Bool → Nat → Nat → Prop
  | use {b r : Nat} {x : BlkD} : bs[b]? = some x → r ∈ usB x → phB bs b r = false → Want bs false b r
  | thru {b r : Nat} : b < bs.length → Want bs true b r → mkB bs b r = false → phB bs b r = false → Want bs false b r
  | along {b t r : Nat} : AlongP bs b t r → Want bs true b r
  | back {b t r : Nat} : t < bs.length → (b : Int) ∈ aheadL bs t → Want bs false t r → Want bs true b r
/-- All that is held so is wanted, and what follows of it is held or still open; Q: what is not gone through as yet. -/
structure InvS (bs : List BlkD) (s : LvS) : Prop where
  sa : ∀ b r, s.A b r = true → Want bs false b r
  se : ∀ b r, s.E b r = true → Want bs true b r
  ce : ∀ b r, s.E b r = true → mkB bs b r = false → s.A b r = true ∨ phB bs b r = true
  op : ∀ x ∈ s.op, s.A x.1 x.2 = true
theorem InvS.start (bs : List BlkD) : InvS bs ⟨fun _ _ => false, fun _ _ => false, []⟩ := ⟨fun _ _ h => by simp at h, fun _ _ h => by simp at h, fun _ _ h => by simp at h, fun _ h => by simp at h⟩
/-- What is held stays held; what is new at a beginning is open. -/
structure Mor (s s' : LvS) : Prop where
  a : ∀ b r, s.A b r = true → s'.A b r = true
  e : ∀ b r, s.E b r = true → s'.E b r = true
  op : ∃ l, s'.op = s.op ++ l ∧ ∀ b r, s'.A b r = true → s.A b r = true ∨ (b, r) ∈ l
theorem Mor.refl (s : LvS) : Mor s s := ⟨fun _ _ h => h, fun _ _ h => h, [], by simp, fun _ _ h => .inl h⟩
theorem Mor.trans {s t u : LvS} (h : Mor s t) (k : Mor t u) : Mor s u := by
  obtain ⟨l, e, h1⟩ := h.op
  obtain ⟨m, e2, h2⟩ := k.op
  refine ⟨fun b r x => k.a b r (h.a b r x), fun b r x => k.e b r (h.e b r x), l ++ m, by rw [e2, e, List.append_assoc], fun b r x => ?_⟩
  rcases h2 b r x with h3 | h3
  · rcases h1 b r h3 with h4 | h4
    · exact .inl h4
    · exact .inr (by simp [h4])
  · exact .inr (by simp [h3])
theorem atB_mor (ph : Nat → Nat → Bool) (s : LvS) (b r : Nat) : Mor s (atB ph s b r) := by
  unfold atB
  split
  · exact .refl s
  · refine ⟨fun x y h => setB_mono h, fun _ _ h => h, [(b, r)], rfl, fun x y h => ?_⟩
    rcases setB_inv h with ⟨rfl, rfl⟩ | h
    · exact .inr (by simp)
    · exact .inl h
theorem atB_has (ph : Nat → Nat → Bool) (s : LvS) (b r : Nat) : (atB ph s b r).A b r = true ∨ ph b r = true := by
  unfold atB
  by_cases h : (s.A b r || ph b r) = true
  · rw [if_pos h]; rw [Bool.or_eq_true] at h; exact h
  · rw [if_neg h]; exact .inl (setB_here _ _ _)
theorem atE_mor (mk ph : Nat → Nat → Bool) (s : LvS) (b r : Nat) : Mor s (atE mk ph s b r) := by
  have h0 : Mor s ⟨s.A, setB s.E b r, s.op⟩ := ⟨fun _ _ h => h, fun _ _ h => setB_mono h, [], by simp, fun _ _ h => .inl h⟩
  unfold atE
  split
  · exact .refl s
  · split
    · exact h0
    · exact h0.trans (atB_mor ph _ b r)
theorem atE_has (mk ph : Nat → Nat → Bool) (s : LvS) (b r : Nat) : (atE mk ph s b r).E b r = true := by
  unfold atE
  by_cases h : s.E b r = true
  · rw [if_pos h]; exact h
  · rw [if_neg h]
    split
    · exact setB_here _ _ _
    · exact (atB_mor ph _ b r).e b r (setB_here _ _ _)
theorem atB_E (ph : Nat → Nat → Bool) (s : LvS) (b r : Nat) : (atB ph s b r).E = s.E := by unfold atB; split <;> rfl
theorem InvS.atB {bs : List BlkD} {s : LvS} (h : InvS bs s) {b r : Nat} (hw : phB bs b r = false → Want bs false b r) : InvS bs (atB (phB bs) s b r) := by
  unfold Go.Proofs.YtdfiflbkamhchaaDoor.atB
  by_cases e : (s.A b r || phB bs b r) = true
  · rw [if_pos e]; exact h
  · rw [if_neg e]
    rw [Bool.or_eq_true] at e
    have hp : phB bs b r = false := by cases hp : phB bs b r; rfl; exact absurd (.inr hp) e
    refine ⟨fun x y k => ?_, h.se, fun x y k hm => ?_, fun x hx => ?_⟩
    · rcases setB_inv k with ⟨rfl, rfl⟩ | k
      · exact hw hp
      · exact h.sa x y k
    · rcases h.ce x y k hm with k2 | k2
      · exact .inl (setB_mono k2)
      · exact .inr k2
    · rcases List.mem_append.1 hx with hx | hx
      · exact setB_mono (h.op x hx)
      · rw [List.mem_singleton.1 hx]; exact setB_here _ _ _
theorem InvS.atE {bs : List BlkD} {s : LvS} (h : InvS bs s) {b r : Nat} (hb : b < bs.length) (hw : Want bs true b r) : InvS bs (atE (mkB bs) (phB bs) s b r) := by
  unfold Go.Proofs.YtdfiflbkamhchaaDoor.atE
  by_cases e : s.E b r = true
  · rw [if_pos e]; exact h
  · rw [if_neg e]
    by_cases hm : mkB bs b r = true
    · rw [if_pos hm]
      refine ⟨h.sa, fun x y k => ?_, fun x y k hm2 => ?_, h.op⟩
      · rcases setB_inv k with ⟨rfl, rfl⟩ | k
        · exact hw
        · exact h.se x y k
      · rcases setB_inv k with ⟨rfl, rfl⟩ | k
        · rw [hm] at hm2; cases hm2
        · exact h.ce x y k hm2
    · rw [if_neg hm]
      have hmf : mkB bs b r = false := by cases hq : mkB bs b r; rfl; exact absurd hq hm
      have hhas := atB_has (phB bs) ⟨s.A, setB s.E b r, s.op⟩ b r
      have hmor := atB_mor (phB bs) ⟨s.A, setB s.E b r, s.op⟩ b r
      have hE := atB_E (phB bs) ⟨s.A, setB s.E b r, s.op⟩ b r
      -- the state between holds all but the new end's own consequence
      refine ⟨fun x y k => ?_, fun x y k => ?_, fun x y k hm2 => ?_, fun x hx => ?_⟩
      · unfold Go.Proofs.YtdfiflbkamhchaaDoor.atB at k
        by_cases e2 : (s.A b r || phB bs b r) = true
        · rw [if_pos e2] at k; exact h.sa x y k
        · rw [if_neg e2] at k
          rw [Bool.or_eq_true] at e2
          have hp : phB bs b r = false := by cases hp : phB bs b r; rfl; exact absurd (.inr hp) e2
          rcases setB_inv k with ⟨rfl, rfl⟩ | k
          · exact .thru hb hw hmf hp
          · exact h.sa x y k
      · rw [hE] at k
        rcases setB_inv k with ⟨rfl, rfl⟩ | k
        · exact hw
        · exact h.se x y k
      · rw [hE] at k
        rcases setB_inv k with ⟨rfl, rfl⟩ | k
        · exact hhas
        · rcases h.ce x y k hm2 with k2 | k2
          · exact .inl (hmor.a x y k2)
          · exact .inr k2
      · obtain ⟨l, e3, -⟩ := hmor.op
        unfold Go.Proofs.YtdfiflbkamhchaaDoor.atB at hx ⊢
        by_cases e2 : (s.A b r || phB bs b r) = true
        · rw [if_pos e2] at hx ⊢; exact h.op x hx
        · rw [if_neg e2] at hx ⊢
          rcases List.mem_append.1 hx with hx | hx
          · exact setB_mono (h.op x hx)
          · rw [List.mem_singleton.1 hx]; exact setB_here _ _ _
theorem atEs_mor (mk ph : Nat → Nat → Bool) (l : List (Nat × Nat)) : ∀ s, Mor s (atEs mk ph s l) := by
  induction l with
  | nil => intro s; exact .refl s
  | cons x l ih => intro s; exact (atE_mor mk ph s x.1 x.2).trans (ih _)
theorem atEs_has (mk ph : Nat → Nat → Bool) (l : List (Nat × Nat)) : ∀ s, ∀ x ∈ l, (atEs mk ph s l).E x.1 x.2 = true := by
  induction l with
  | nil => intro s x hx; cases hx
  | cons y l ih =>
    intro s x hx
    rcases List.mem_cons.1 hx with rfl | hx
    · exact (atEs_mor mk ph l _).e _ _ (atE_has mk ph s x.1 x.2)
    · exact ih _ x hx
theorem InvS.atEs {bs : List BlkD} (l : List (Nat × Nat)) : ∀ {s : LvS}, InvS bs s → (∀ x ∈ l, x.1 < bs.length ∧ Want bs true x.1 x.2) → InvS bs (atEs (mkB bs) (phB bs) s l) := by
  induction l with
  | nil => intro s h _; exact h
  | cons y l ih => intro s h hw; exact ih (h.atE (hw y (by simp)).1 (hw y (by simp)).2) (fun x hx => hw x (by simp [hx]))
theorem atBs_mor (ph : Nat → Nat → Bool) (b : Nat) (l : List Nat) : ∀ s, Mor s (atBs ph s b l) := by
  induction l with
  | nil => intro s; exact .refl s
  | cons x l ih => intro s; exact (atB_mor ph s b x).trans (ih _)
theorem atBs_has (ph : Nat → Nat → Bool) (b : Nat) (l : List Nat) : ∀ s, ∀ r ∈ l, (atBs ph s b l).A b r = true ∨ ph b r = true := by
  induction l with
  | nil => intro s x hx; cases hx
  | cons y l ih =>
    intro s x hx
    rcases List.mem_cons.1 hx with rfl | hx
    · rcases atB_has ph s b x with h | h
      · exact .inl ((atBs_mor ph b l _).a _ _ h)
      · exact .inr h
    · exact ih _ x hx
theorem InvS.atBs {bs : List BlkD} {b : Nat} (l : List Nat) : ∀ {s : LvS}, InvS bs s → (∀ r ∈ l, phB bs b r = false → Want bs false b r) → InvS bs (atBs (phB bs) s b l) := by
  induction l with
  | nil => intro s h _; exact h
  | cons y l ih => intro s h hw; exact ih (h.atB (hw y (by simp))) (fun x hx => hw x (by simp [hx]))
theorem alE_mor (mk ph : Nat → Nat → Bool) (ah : List Int) (ps : List PhiD) : ∀ s, Mor s (alE mk ph ah s ps) := by
  induction ps with
  | nil => intro s; exact .refl s
  | cons x l ih => intro s; exact (atEs_mor mk ph _ s).trans (ih _)
theorem alE_has (mk ph : Nat → Nat → Bool) (ah : List Int) (ps : List PhiD) : ∀ s, ∀ p ∈ ps, ∀ x ∈ prP ah p.args, (alE mk ph ah s ps).E x.1 x.2 = true := by
  induction ps with
  | nil => intro s x hx; cases hx
  | cons y l ih =>
    intro s p hp x hx
    rcases List.mem_cons.1 hp with rfl | hp
    · exact (alE_mor mk ph ah l _).e _ _ (atEs_has mk ph _ s x hx)
    · exact ih _ p hp x hx
theorem InvS.alE {bs : List BlkD} {ah : List Int} (ps : List PhiD) : ∀ {s : LvS}, InvS bs s → (∀ p ∈ ps, ∀ x ∈ prP ah p.args, x.1 < bs.length ∧ Want bs true x.1 x.2) → InvS bs (alE (mkB bs) (phB bs) ah s ps) := by
  induction ps with
  | nil => intro s h _; exact h
  | cons y l ih => intro s h hw; exact ih (h.atEs _ (hw y (by simp))) (fun p hp => hw p (by simp [hp]))
theorem prP_lt {bs : List BlkD} {t : Nat} {args : List Int} : ∀ x ∈ prP (aheadL bs t) args, x.1 < bs.length ∧ (x.1 : Int) ∈ aheadL bs t := by
  intro x hx
  unfold prP at hx
  obtain ⟨y, hy, rfl⟩ := List.mem_map.1 hx
  have h1 := (List.of_mem_zip hy).1
  have h2 := aheadK_mem bs 0 t y.1 h1
  have e : ((y.1.toNat : Nat) : Int) = y.1 := by simp at h2; omega
  refine ⟨by simp at h2; omega, ?_⟩
  show ((y.1.toNat : Nat) : Int) ∈ _
  rw [e]; exact h1
theorem stL_mor (bs : List BlkD) (k : Nat) : Mor (stL bs k) (stL bs (k + 1)) := by
  cases h : bs[k]? with
  | none =>
    have : stL bs (k + 1) = stL bs k := by show (match bs[k]? with | some x => _ | none => _) = _; rw [h]
    rw [this]; exact .refl _
  | some x => rw [stL_succ h]; exact (atBs_mor _ _ _ _).trans (alE_mor _ _ _ _ _)
theorem stL_inv (bs : List BlkD) (k : Nat) : InvS bs (stL bs k) := by
  induction k with
  | zero => exact InvS.start bs
  | succ k ih =>
    cases h : bs[k]? with
    | none =>
      have : stL bs (k + 1) = stL bs k := by show (match bs[k]? with | some x => _ | none => _) = _; rw [h]
      rw [this]; exact ih
    | some x =>
      rw [stL_succ h]
      refine (ih.atBs _ (fun r hr hp => .use h hr hp)).alE _ (fun p hp y hy => ⟨(prP_lt y hy).1, .along ⟨x, h, p, hp, hy⟩⟩)
theorem stL_le {bs : List BlkD} {k j : Nat} (h : k ≤ j) : Mor (stL bs k) (stL bs j) := by
  induction j with
  | zero =>
    obtain rfl : k = 0 := by omega
    exact .refl _
  | succ j ih =>
    by_cases e : k = j + 1
    · subst e; exact .refl _
    · exact (ih (by omega)).trans (stL_mor bs j)
/-- All that is used or wanted along edges is held, when all blocks were gone through. -/
structure GotS (bs : List BlkD) (s : LvS) : Prop where
  inv : InvS bs s
  use : ∀ b r x, bs[b]? = some x → r ∈ usB x → s.A b r = true ∨ phB bs b r = true
  along : ∀ b t r, AlongP bs b t r → s.E b r = true
theorem GotS.more {bs : List BlkD} {s s' : LvS} (h : GotS bs s) (m : Mor s s') (i : InvS bs s') : GotS bs s' :=
  ⟨i, fun b r x h1 h2 => (h.use b r x h1 h2).imp (m.a b r) id, fun b t r h1 => m.e b r (h.along b t r h1)⟩
theorem stL_got (bs : List BlkD) : GotS bs (stL bs bs.length) := by
  refine ⟨stL_inv bs _, fun b r x hx hr => ?_, fun b t r ha => ?_⟩
  · have hb := (List.getElem?_eq_some_iff.1 hx).1
    have m := stL_le (bs := bs) (k := b + 1) (j := bs.length) (by omega)
    rw [stL_succ hx] at m
    rcases atBs_has (phB bs) b (usB x) (stL bs b) r hr with h | h
    · exact .inl (m.a b r ((alE_mor _ _ _ _ _).a b r h))
    · exact .inr h
  · obtain ⟨x, hx, p, hp, hm⟩ := ha
    have ht := (List.getElem?_eq_some_iff.1 hx).1
    have m := stL_le (bs := bs) (k := t + 1) (j := bs.length) (by omega)
    rw [stL_succ hx] at m
    exact m.e b r (alE_has _ _ _ _ _ p hp (b, r) hm)
/-- What is wanted at a beginning is told to all blocks ahead, but for what is open, and of one the blocks behind the first j. -/
def Tells (bs : List BlkD) (s : LvS) (op : List (Nat × Nat)) (q : Nat × Nat) (j : Nat) : Prop :=
  ∀ b r, s.A b r = true → (b, r) ∈ op ∨ ((b, r) = q ∧ ∀ i x, i < j → (aheadL bs b)[i]? = some x → s.E x.toNat r = true) ∨ ∀ x ∈ aheadL bs b, s.E x.toNat r = true
def ToldS (bs : List BlkD) (s : LvS) : Prop := ∀ b r, s.A b r = true → (b, r) ∈ s.op ∨ ∀ x ∈ aheadL bs b, s.E x.toNat r = true
theorem ToldS.more {bs : List BlkD} {s s' : LvS} (h : ToldS bs s) (m : Mor s s') : ToldS bs s' := fun b r ha => by
  obtain ⟨l, e, h1⟩ := m.op
  rcases h1 b r ha with h2 | h2
  · rcases h b r h2 with h3 | h3
    · exact .inl (by rw [e]; simp [h3])
    · exact .inr fun x hx => m.e _ _ (h3 x hx)
  · exact .inl (by rw [e]; simp [h2])
theorem ToldS.start (bs : List BlkD) : ToldS bs ⟨fun _ _ => false, fun _ _ => false, []⟩ := fun b r h => by simp at h
theorem stL_told (bs : List BlkD) (k : Nat) : ToldS bs (stL bs k) := (ToldS.start bs).more (stL_le (bs := bs) (k := 0) (j := k) (by omega))
/-- In the midst of a place taken back: what is open is s.op; q was taken. -/
structure MidS (bs : List BlkD) (q : Nat × Nat) (j : Nat) (s : LvS) : Prop where
  got : GotS bs s
  hq : s.A q.1 q.2 = true
  told : ∀ b r, s.A b r = true → (b, r) ∈ s.op ∨ ((b, r) = q ∧ ∀ i x, i < j → (aheadL bs b)[i]? = some x → s.E x.toNat r = true) ∨ ∀ x ∈ aheadL bs b, s.E x.toNat r = true
theorem MidS.start {bs : List BlkD} {s : LvS} {l : List (Nat × Nat)} {q : Nat × Nat} (g : GotS bs s) (t : ToldS bs s) (e : s.op = l ++ [q]) : MidS bs q 0 ⟨s.A, s.E, l⟩ := by
  have hq : s.A q.1 q.2 = true := g.inv.op q (by rw [e]; simp)
  refine ⟨⟨⟨g.inv.sa, g.inv.se, g.inv.ce, fun x hx => g.inv.op x (by rw [e]; simp [hx])⟩, g.use, g.along⟩, hq, fun b r ha => ?_⟩
  rcases t b r ha with h | h
  · rw [e] at h
    rcases List.mem_append.1 h with h | h
    · exact .inl h
    · exact .inr (.inl ⟨List.mem_singleton.1 h, fun i x hi => by omega⟩)
  · exact .inr (.inr h)
theorem MidS.step {bs : List BlkD} {q : Nat × Nat} {j : Nat} {s : LvS} {x : Int} (h : MidS bs q j s) (hq : q.1 < bs.length) (hx : (aheadL bs q.1)[j]? = some x) : MidS bs q (j + 1) (atE (mkB bs) (phB bs) s x.toNat q.2) := by
  have hm := List.mem_of_getElem? hx
  have h2 := aheadK_mem bs 0 q.1 x hm
  have hxn : x.toNat < bs.length := by simp at h2; omega
  have hxe : ((x.toNat : Nat) : Int) = x := by simp at h2; omega
  have mor := atE_mor (mkB bs) (phB bs) s x.toNat q.2
  have hw : Want bs true x.toNat q.2 := .back hq (by rw [hxe]; exact hm) (h.got.inv.sa _ _ h.hq)
  refine ⟨h.got.more mor (h.got.inv.atE hxn hw), mor.a _ _ h.hq, fun b r ha => ?_⟩
  obtain ⟨l, e, h1⟩ := mor.op
  rcases h1 b r ha with h3 | h3
  · rcases h.told b r h3 with h4 | ⟨h4, h5⟩ | h4
    · exact .inl (by rw [e]; simp [h4])
    · refine .inr (.inl ⟨h4, fun i y hi hy => ?_⟩)
      by_cases ei : i = j
      · subst ei
        have e1 : b = q.1 := by rw [← h4]
        have e2 : r = q.2 := by rw [← h4]
        subst e1 e2
        rw [hx] at hy; cases hy
        exact atE_has _ _ _ _ _
      · exact mor.e _ _ (h5 i y (by omega) hy)
    · exact .inr (.inr fun y hy => mor.e _ _ (h4 y hy))
  · exact .inl (by rw [e]; simp [h3])
theorem MidS.done {bs : List BlkD} {q : Nat × Nat} {j : Nat} {s : LvS} (h : MidS bs q j s) (hj : (aheadL bs q.1).length ≤ j) : GotS bs s ∧ ToldS bs s := by
  refine ⟨h.got, fun b r ha => ?_⟩
  rcases h.told b r ha with h4 | ⟨h4, h5⟩ | h4
  · exact .inl h4
  · refine .inr fun x hx => ?_
    obtain ⟨i, hi⟩ := List.mem_iff_getElem?.1 hx
    have e1 : b = q.1 := by rw [← h4]
    refine h5 i x ?_ hi
    have := (List.getElem?_eq_some_iff.1 hi).1
    rw [e1] at this; omega
  · exact .inr h4
/-- When nothing is open: all that is wanted is held. -/
theorem want_held {bs : List BlkD} {s : LvS} (g : GotS bs s) (t : ToldS bs s) (e : s.op = []) {z : Bool} {b r : Nat} (h : Want bs z b r) : (z = false → s.A b r = true) ∧ (z = true → s.E b r = true) := by
  induction h with
  | use hx hr hp =>
    refine ⟨fun _ => ?_, fun h => Bool.noConfusion h⟩
    rcases g.use _ _ _ hx hr with h | h
    · exact h
    · rw [hp] at h; cases h
  | thru hb _ hm hp ih =>
    refine ⟨fun _ => ?_, fun h => Bool.noConfusion h⟩
    rcases g.inv.ce _ _ (ih.2 rfl) hm with h | h
    · exact h
    · rw [hp] at h; cases h
  | along ha => exact ⟨fun h => Bool.noConfusion h, fun _ => g.along _ _ _ ha⟩
  | back ht hb _ ih =>
    refine ⟨fun h => Bool.noConfusion h, fun _ => ?_⟩
    rcases t _ _ (ih.1 rfl) with h | h
    · rw [e] at h; cases h
    · have := h _ hb; simpa using this
theorem want_A {bs : List BlkD} {s : LvS} (g : GotS bs s) (t : ToldS bs s) (e : s.op = []) (b r : Nat) : s.A b r = true ↔ Want bs false b r := ⟨g.inv.sa b r, fun h => (want_held g t e h).1 rfl⟩
theorem want_E {bs : List BlkD} {s : LvS} (g : GotS bs s) (t : ToldS bs s) (e : s.op = []) (b r : Nat) : s.E b r = true ↔ Want bs true b r := ⟨g.inv.se b r, fun h => (want_held g t e h).2 rfl⟩
end Go.Proofs.YtdfiflbkamhchaaDoor
