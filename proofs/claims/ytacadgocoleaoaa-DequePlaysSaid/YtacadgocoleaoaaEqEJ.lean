/- What memory holds of modules, and in which blocks; rows that are built by append; a copy of a slice of integers. -/
import Derived.Test.YtacadgocoleaoaaAheadLJ
import Derived.Deep.AppendLies
import Derived.Laws.OwnMore
import Derived.Maps.AppendAt
import Derived.Test.YtacadgocoleaoaaOpenDJ
import Derived.Deep.OwnRows
import Derived.Deep.DeepCutAuto
import Derived.LaidEql
namespace Go.Proofs.Ytacadgocoleaoaa
open Go.ChangeShapes Go.WideShapes Go.RowKit Go.Deep
set_option linter.unusedVariables false

/-! ### Readings that lie in blocks of a kind -/
def RIntB (B : Nat → Prop) (w : World) (b o : Nat) (x : Int) : Prop := B b ∧ RInt w b o x
def RPhiB (B : Nat → Prop) (w : World) (b o : Nat) (p : PhiD) : Prop := B b ∧ RInt w b o p.dst ∧ CS w b (o + 1) 1 (RIntB B) p.args
def RInsB (B : Nat → Prop) (w : World) (b o : Nat) (x : InsD) : Prop :=
  B b ∧ RInt w b o x.op ∧ RInt w b (o + 1) x.dst ∧ CS w b (o + 2) 1 (RIntB B) x.args ∧ RInt w b (o + 3) x.imm ∧ RInt w b (o + 4) x.fn
def RBlkB (B : Nat → Prop) (w : World) (b o : Nat) (k : BlkD) : Prop :=
  B b ∧ CS w b o 2 (RPhiB B) k.phis ∧ CS w b (o + 1) 5 (RInsB B) k.ins ∧ RInt w b (o + 2) k.term.kind ∧ RInt w b (o + 3) k.term.arg ∧ CS w b (o + 4) 1 (RIntB B) k.term.to
def RFunB (B : Nat → Prop) (w : World) (b o : Nat) (f : FunD) : Prop := B b ∧ RInt w b o f.params ∧ RInt w b (o + 1) f.result ∧ CS w b (o + 2) 1 (RIntB B) f.regs ∧ CS w b (o + 3) 5 (RBlkB B) f.blocks

/-- Cells of such blocks stay. -/
def KeptB (B : Nat → Prop) (w w' : World) : Prop := ∀ a v, B a.block → w.cell? a = some v → w'.cell? a = some v
theorem KeptB.trans {B : Nat → Prop} {a b c : World} (h : KeptB B a b) (k : KeptB B b c) : KeptB B a c := fun x v hB hx => k x v hB (h x v hB hx)
theorem KeptB.of {B : Nat → Prop} {w w' : World} (h : Kept w w') : KeptB B w w' := fun a v _ ha => h a v ha
theorem KeptB.mono {B B' : Nat → Prop} {w w' : World} (h : KeptB B w w') (hB : ∀ b, B' b → B b) : KeptB B' w w' := fun a v hb ha => h a v (hB _ hb) ha
theorem keptB_set (w : World) (a : Addr) (v : Value) : KeptB (fun b => b ≠ a.block) w (w.setCell a v) := fun x u hx h => by
  rw [World.cell?_setCell_other _ _ _ _ (fun e => by subst e; exact hx rfl)]; exact h
theorem keptB_grown {w w' : World} {row : Option Nat} (h : w.grownBy w' row) : KeptB (fun b => some b ≠ row) w w' := fun x u hx hc => by
  rw [World.cell?_of_block (h.block x.block (block_lt_of_cell hc) hx)]; exact hc

theorem SL.imp {α : Type} {w w' : World} {sz : Nat} {R R' : World → Nat → Nat → α → Prop} (hR : ∀ b o x, R w b o x → R' w' b o x) {A : Option Addr} {c : Nat} {xs : List α} (hv : SL w sz R A c xs) : SL w' sz R' A c xs := by
  obtain ⟨h1, h2, h3⟩ := hv
  exact ⟨h1, h2, fun hp => by obtain ⟨b, o, e, hx⟩ := h3 hp; exact ⟨b, o, e, fun i x hi => hR _ _ _ (hx i x hi)⟩⟩

section
variable {B B' : Nat → Prop} {w w' : World} (h : KeptB B w w') (hB : ∀ b, B b → B' b)
include h hB
theorem RIntB.go (b o : Nat) (x : Int) (hv : RIntB B w b o x) : RIntB B' w' b o x := ⟨hB _ hv.1, h _ _ hv.1 hv.2.1, hv.2.2⟩
theorem RIntIn.go {b o : Nat} {x : Int} (hb : B b) (hv : RInt w b o x) : RInt w' b o x := by have _ := hB; exact ⟨h _ _ hb hv.1, hv.2⟩
theorem CSB.go {α : Type} {sz : Nat} {R R' : World → Nat → Nat → α → Prop} (hR : ∀ b o x, R w b o x → R' w' b o x) {b o : Nat} {xs : List α} (hb : B b) (hv : CS w b o sz R xs) : CS w' b o sz R' xs := by
  have _ := hB
  obtain ⟨A, c, e, h1⟩ := hv
  exact ⟨A, c, h _ _ hb e, SL.imp hR h1⟩
theorem RPhiB.go (b o : Nat) (x : PhiD) (hv : RPhiB B w b o x) : RPhiB B' w' b o x := ⟨hB _ hv.1, RIntIn.go h hB hv.1 hv.2.1, CSB.go h hB (RIntB.go h hB) hv.1 hv.2.2⟩
theorem RInsB.go (b o : Nat) (x : InsD) (hv : RInsB B w b o x) : RInsB B' w' b o x := by
  obtain ⟨h0, h1, h2, h3, h5, h6⟩ := hv
  exact ⟨hB _ h0, RIntIn.go h hB h0 h1, RIntIn.go h hB h0 h2, CSB.go h hB (RIntB.go h hB) h0 h3, RIntIn.go h hB h0 h5, RIntIn.go h hB h0 h6⟩
theorem RBlkB.go (b o : Nat) (x : BlkD) (hv : RBlkB B w b o x) : RBlkB B' w' b o x := by
  obtain ⟨h0, h1, h2, h3, h4, h5⟩ := hv
  exact ⟨hB _ h0, CSB.go h hB (RPhiB.go h hB) h0 h1, CSB.go h hB (RInsB.go h hB) h0 h2, RIntIn.go h hB h0 h3, RIntIn.go h hB h0 h4, CSB.go h hB (RIntB.go h hB) h0 h5⟩
theorem RFunB.go (b o : Nat) (x : FunD) (hv : RFunB B w b o x) : RFunB B' w' b o x := by
  obtain ⟨h0, h1, h2, h3, h4⟩ := hv
  exact ⟨hB _ h0, RIntIn.go h hB h0 h1, RIntIn.go h hB h0 h2, CSB.go h hB (RIntB.go h hB) h0 h3, CSB.go h hB (RBlkB.go h hB) h0 h4⟩
theorem SIntsB.go {A : Option Addr} {c : Nat} {xs : List Int} (hv : SL w 1 (RIntB B) A c xs) : SL w' 1 (RIntB B') A c xs := SL.imp (RIntB.go h hB) hv
theorem SPhisB.go {A : Option Addr} {c : Nat} {xs : List PhiD} (hv : SL w 2 (RPhiB B) A c xs) : SL w' 2 (RPhiB B') A c xs := SL.imp (RPhiB.go h hB) hv
theorem SInssB.go {A : Option Addr} {c : Nat} {xs : List InsD} (hv : SL w 5 (RInsB B) A c xs) : SL w' 5 (RInsB B') A c xs := SL.imp (RInsB.go h hB) hv
theorem SBlksB.go {A : Option Addr} {c : Nat} {xs : List BlkD} (hv : SL w 5 (RBlkB B) A c xs) : SL w' 5 (RBlkB B') A c xs := SL.imp (RBlkB.go h hB) hv
end

section
variable {B : Nat → Prop} {w : World}
theorem CSB.plain {α : Type} {sz : Nat} {R R' : World → Nat → Nat → α → Prop} (hR : ∀ b o x, R w b o x → R' w b o x) {b o : Nat} {xs : List α} (hv : CS w b o sz R xs) : CS w b o sz R' xs := by
  obtain ⟨A, c, e, h1⟩ := hv
  exact ⟨A, c, e, SL.imp hR h1⟩
theorem RIntB.plain (b o : Nat) (x : Int) (hv : RIntB B w b o x) : RInt w b o x := hv.2
theorem RPhiB.plain (b o : Nat) (x : PhiD) (hv : RPhiB B w b o x) : RPhi w b o x := ⟨hv.2.1, CSB.plain RIntB.plain hv.2.2⟩
theorem RInsB.plain (b o : Nat) (x : InsD) (hv : RInsB B w b o x) : RIns w b o x := ⟨hv.2.1, hv.2.2.1, CSB.plain RIntB.plain hv.2.2.2.1, hv.2.2.2.2.1, hv.2.2.2.2.2⟩
theorem RBlkB.plain (b o : Nat) (x : BlkD) (hv : RBlkB B w b o x) : RBlk w b o x :=
  ⟨CSB.plain RPhiB.plain hv.2.1, CSB.plain RInsB.plain hv.2.2.1, hv.2.2.2.1, hv.2.2.2.2.1, CSB.plain RIntB.plain hv.2.2.2.2.2⟩
theorem RFunB.plain (b o : Nat) (x : FunD) (hv : RFunB B w b o x) : RFun w b o x := ⟨hv.2.1, hv.2.2.1, CSB.plain RIntB.plain hv.2.2.2.1, CSB.plain RBlkB.plain hv.2.2.2.2⟩
end

section
variable {B : Nat → Prop} {w : World}
theorem CSB.lt {α : Type} {sz : Nat} {R R' : World → Nat → Nat → α → Prop} (hR : ∀ b o x, R w b o x → R' w b o x) {b o : Nat} {xs : List α} (hv : CS w b o sz R xs) : CS w b o sz R' xs := CSB.plain hR hv
theorem RIntB.lt (b o : Nat) (x : Int) (hv : RIntB B w b o x) : RIntB (fun b => B b ∧ b < w.heap.size) w b o x := ⟨⟨hv.1, block_lt_of_cell hv.2.1⟩, hv.2⟩
theorem RPhiB.lt (b o : Nat) (x : PhiD) (hv : RPhiB B w b o x) : RPhiB (fun b => B b ∧ b < w.heap.size) w b o x := ⟨⟨hv.1, block_lt_of_cell hv.2.1.1⟩, hv.2.1, CSB.plain RIntB.lt hv.2.2⟩
theorem RInsB.lt (b o : Nat) (x : InsD) (hv : RInsB B w b o x) : RInsB (fun b => B b ∧ b < w.heap.size) w b o x := ⟨⟨hv.1, block_lt_of_cell hv.2.1.1⟩, hv.2.1, hv.2.2.1, CSB.plain RIntB.lt hv.2.2.2.1, hv.2.2.2.2⟩
theorem RBlkB.lt (b o : Nat) (x : BlkD) (hv : RBlkB B w b o x) : RBlkB (fun b => B b ∧ b < w.heap.size) w b o x :=
  ⟨⟨hv.1, block_lt_of_cell hv.2.2.2.1.1⟩, CSB.plain RPhiB.lt hv.2.1, CSB.plain RInsB.lt hv.2.2.1, hv.2.2.2.1, hv.2.2.2.2.1, CSB.plain RIntB.lt hv.2.2.2.2.2⟩
theorem SIntsB.lt {A : Option Addr} {c : Nat} {xs : List Int} (hv : SL w 1 (RIntB B) A c xs) : SL w 1 (RIntB (fun b => B b ∧ b < w.heap.size)) A c xs := SL.imp RIntB.lt hv
theorem SPhisB.lt {A : Option Addr} {c : Nat} {xs : List PhiD} (hv : SL w 2 (RPhiB B) A c xs) : SL w 2 (RPhiB (fun b => B b ∧ b < w.heap.size)) A c xs := SL.imp RPhiB.lt hv
theorem SInssB.lt {A : Option Addr} {c : Nat} {xs : List InsD} (hv : SL w 5 (RInsB B) A c xs) : SL w 5 (RInsB (fun b => B b ∧ b < w.heap.size)) A c xs := SL.imp RInsB.lt hv
theorem SBlksB.lt {A : Option Addr} {c : Nat} {xs : List BlkD} (hv : SL w 5 (RBlkB B) A c xs) : SL w 5 (RBlkB (fun b => B b ∧ b < w.heap.size)) A c xs := SL.imp RBlkB.lt hv
end

/-! ### All below n but block g is as it was -/
structure BB (n g : Nat) (w w' : World) : Prop where
  os : w'.os = w.os
  tape : w'.tape = w.tape
  output : w'.output = w.output
  size : w.heap.size ≤ w'.heap.size
  block : ∀ k, k < n → k ≠ g → w'.heap[k]? = w.heap[k]?
theorem BB.refl (n g : Nat) (w : World) : BB n g w w := ⟨rfl, rfl, rfl, Nat.le_refl _, fun _ _ _ => rfl⟩
theorem BB.trans {n g : Nat} {a b c : World} (h : BB n g a b) (k : BB n g b c) : BB n g a c :=
  ⟨k.os.trans h.os, k.tape.trans h.tape, k.output.trans h.output, Nat.le_trans h.size k.size, fun i hi hg => (k.block i hi hg).trans (h.block i hi hg)⟩
theorem BB.of_below {n m g : Nat} {w w' : World} (h : Below m w w') (hn : n ≤ m) : BB n g w w' := ⟨h.os, h.tape, h.output, h.size, fun k hk _ => h.block k (by omega)⟩
theorem BB.below {n m g : Nat} {w w' : World} (h : BB n g w w') (hn : m ≤ n) (hg : m ≤ g) : Below m w w' := ⟨h.os, h.tape, h.output, h.size, fun k hk => h.block k (by omega) (by omega)⟩
theorem BB.mono {n m g : Nat} {w w' : World} (h : BB n g w w') (hn : m ≤ n) : BB m g w w' := ⟨h.os, h.tape, h.output, h.size, fun k hk hg => h.block k (by omega) hg⟩
theorem BB.drew {n g : Nat} {a w : World} (h : BB n g a w) : BB n g a w.drew := ⟨h.os, h.tape, h.output, h.size, h.block⟩
theorem BB.alloc {n g : Nat} {a w : World} (h : BB n g a w) (hn : n ≤ w.heap.size) (o : Obj) : BB n g a (w.alloc o) := h.trans (BB.of_below ((Below.refl _ w).alloc (Nat.le_refl _) o) hn)
theorem BB.setCell {n g : Nat} {a w : World} (h : BB n g a w) {p : Addr} (hp : p.block = g ∨ n ≤ p.block) (u : Value) : BB n g a (w.setCell p u) :=
  h.trans ⟨rfl, rfl, rfl, by simp [World.setCell], fun k hk hg => Below.heap_setCell _ _ _ _ (by omega)⟩
theorem BB.grown {n g : Nat} {a w w' : World} {row : Option Nat} (h : BB n g a w) (hg : w.grownBy w' row) (hn : n ≤ w.heap.size) (hr : ∀ k, row = some k → k = g ∨ n ≤ k) : BB n g a w' :=
  h.trans ⟨hg.os, hg.tape, hg.output, hg.size, fun k hk hkg => hg.block k (by omega) (fun e => by have := hr k e.symm; omega)⟩
theorem BB.kept {n g : Nat} {w w' : World} (h : BB n g w w') : KeptB (fun b => b < n ∧ b ≠ g) w w' := fun a v hb ha => (World.cell?_of_block (h.block a.block hb.1 hb.2)).trans ha
theorem BB.block' {n g k : Nat} {w w' : World} {o : Obj} (h : BB n g w w') (hk : w.heap[k]? = some o) (hn : k < n) (hg : k ≠ g) : w'.heap[k]? = some o := (h.block k hn hg).trans hk

/-! ### Elements as the cells of a row -/
def CPhi (B : Nat → Prop) (w : World) (p : PhiD) (cs : List Value) : Prop := ∃ A c, cs = [.int .i64 p.dst, .slice A p.args.length c] ∧ SL w 1 (RIntB B) A c p.args ∧ I64 p.dst
def CIns (B : Nat → Prop) (w : World) (x : InsD) (cs : List Value) : Prop :=
  ∃ A c, cs = [.int .i64 x.op, .int .i64 x.dst, .slice A x.args.length c, .int .i64 x.imm, .int .i64 x.fn] ∧ SL w 1 (RIntB B) A c x.args ∧ I64 x.op ∧ I64 x.dst ∧ I64 x.imm ∧ I64 x.fn
def CBlk (B : Nat → Prop) (w : World) (k : BlkD) (cs : List Value) : Prop :=
  ∃ Ap cp Ai ci At ct, cs = [.slice Ap k.phis.length cp, .slice Ai k.ins.length ci, .int .i64 k.term.kind, .int .i64 k.term.arg, .slice At k.term.to.length ct] ∧
    SL w 2 (RPhiB B) Ap cp k.phis ∧ SL w 5 (RInsB B) Ai ci k.ins ∧ SL w 1 (RIntB B) At ct k.term.to ∧ I64 k.term.kind ∧ I64 k.term.arg
def CFun (B : Nat → Prop) (w : World) (f : FunD) (cs : List Value) : Prop :=
  ∃ Ar cr Ab cb, cs = [.int .i64 f.params, .int .i64 f.result, .slice Ar f.regs.length cr, .slice Ab f.blocks.length cb] ∧ SL w 1 (RIntB B) Ar cr f.regs ∧ SL w 5 (RBlkB B) Ab cb f.blocks ∧ I64 f.params ∧ I64 f.result

section
variable {B B' : Nat → Prop} {w w' : World} (h : KeptB B w w') (hB : ∀ b, B b → B' b)
include h hB
theorem CPhi.go {x : PhiD} {cs : List Value} (hv : CPhi B w x cs) : CPhi B' w' x cs := by
  obtain ⟨A, c, e, g1, g2⟩ := hv; exact ⟨A, c, e, SIntsB.go h hB g1, g2⟩
theorem CIns.go {x : InsD} {cs : List Value} (hv : CIns B w x cs) : CIns B' w' x cs := by
  obtain ⟨A, c, e, g1, g2⟩ := hv; exact ⟨A, c, e, SIntsB.go h hB g1, g2⟩
theorem CBlk.go {x : BlkD} {cs : List Value} (hv : CBlk B w x cs) : CBlk B' w' x cs := by
  obtain ⟨_, _, _, _, _, _, e, g1, g2, g3, g4⟩ := hv; exact ⟨_, _, _, _, _, _, e, SPhisB.go h hB g1, SInssB.go h hB g2, SIntsB.go h hB g3, g4⟩
theorem CFun.go {x : FunD} {cs : List Value} (hv : CFun B w x cs) : CFun B' w' x cs := by
  obtain ⟨_, _, _, _, e, g1, g2, g3⟩ := hv; exact ⟨_, _, _, _, e, SIntsB.go h hB g1, SBlksB.go h hB g2, g3⟩
end

section
variable {B : Nat → Prop} {w : World}
theorem CPhi.lt {x : PhiD} {cs : List Value} (hv : CPhi B w x cs) : CPhi (fun b => B b ∧ b < w.heap.size) w x cs := by
  obtain ⟨A, c, e, g1, g2⟩ := hv; exact ⟨A, c, e, SIntsB.lt g1, g2⟩
theorem CIns.lt {x : InsD} {cs : List Value} (hv : CIns B w x cs) : CIns (fun b => B b ∧ b < w.heap.size) w x cs := by
  obtain ⟨A, c, e, g1, g2⟩ := hv; exact ⟨A, c, e, SIntsB.lt g1, g2⟩
theorem CBlk.lt {x : BlkD} {cs : List Value} (hv : CBlk B w x cs) : CBlk (fun b => B b ∧ b < w.heap.size) w x cs := by
  obtain ⟨_, _, _, _, _, _, e, g1, g2, g3, g4⟩ := hv; exact ⟨_, _, _, _, _, _, e, SPhisB.lt g1, SInssB.lt g2, SIntsB.lt g3, g4⟩
theorem CFun.lt {x : FunD} {cs : List Value} (hv : CFun B w x cs) : CFun (fun b => B b ∧ b < w.heap.size) w x cs := by
  obtain ⟨_, _, _, _, e, g1, g2, g3⟩ := hv; exact ⟨_, _, _, _, e, SIntsB.lt g1, SBlksB.lt g2, g3⟩
end

/-- The cells of a row of such elements. -/
def Rows {α : Type} (sz : Nat) (F : α → List Value → Prop) : List α → List Value → Prop
  | [], cs => cs = []
  | x :: l, cs => ∃ c r, cs = c ++ r ∧ c.length = sz ∧ F x c ∧ Rows sz F l r
section
variable {α : Type} {sz : Nat} {F F' : α → List Value → Prop}
theorem Rows.imp (h : ∀ x c, F x c → F' x c) {l : List α} : ∀ {cs : List Value}, Rows sz F l cs → Rows sz F' l cs := by
  induction l with
  | nil => exact fun h => h
  | cons x l ih => rintro cs ⟨c, r, e, h1, h2, h3⟩; exact ⟨c, r, e, h1, h x c h2, ih h3⟩
theorem Rows.snoc {l : List α} {x : α} {c : List Value} (hx : F x c) (hc : c.length = sz) : ∀ {cs : List Value}, Rows sz F l cs → Rows sz F (l ++ [x]) (cs ++ c) := by
  induction l with
  | nil => rintro cs rfl; exact ⟨c, [], by simp, hc, hx, rfl⟩
  | cons y l ih => rintro cs ⟨d, r, rfl, h1, h2, h3⟩; exact ⟨d, r ++ c, by simp, h1, h2, ih h3⟩
theorem Rows.at_ {l : List α} : ∀ {cs : List Value} (h : Rows sz F l cs) {i : Nat} {x : α}, l[i]? = some x → ∃ c, c.length = sz ∧ F x c ∧ ∀ j, j < sz → cs[i * sz + j]? = c[j]? := by
  induction l with
  | nil => intro cs h i x hi; simp at hi
  | cons y l ih =>
    rintro cs ⟨c, r, rfl, h1, h2, h3⟩ i x hi
    cases i with
    | zero => obtain rfl := Option.some.inj hi; exact ⟨c, h1, h2, fun j hj => by rw [Nat.zero_mul, Nat.zero_add, List.getElem?_append_left (by omega)]⟩
    | succ i =>
      obtain ⟨d, g1, g2, g3⟩ := ih h3 (i := i) hi
      refine ⟨d, g1, g2, fun j hj => ?_⟩
      rw [List.getElem?_append_right (by rw [h1, Nat.succ_mul]; omega), h1, show (i + 1) * sz + j - sz = i * sz + j by rw [Nat.succ_mul]; omega]
      exact g3 j hj
/-- A row that the call owns reads as the list of its elements. -/
theorem Rows.reads {w : World} {base : Nat} {e : TypeId} {u : Value} {l : List α} {cs : List Value} {R : World → Nat → Nat → α → Prop} (h : Rows sz F l cs) (hown : w.ownsRow base e sz u l.length cs)
    (hR : ∀ g o x c, u.ownBlock = some g → base ≤ g → F x c → c.length = sz → (∀ j v, c[j]? = some v → w.cell? ⟨g, o + j, none⟩ = some v) → R w g o x) : VS w sz R u l := by
  rcases hown.2 with ⟨rfl, h0⟩ | ⟨g, c, cur, rfl, hb, hh, hn, hc, hsz, ht⟩
  · have : l = [] := List.length_eq_zero_iff.1 h0
    subst this
    exact ⟨none, 0, rfl, Nat.le_refl _, ⟨by unfold maxLen; omega, fun _ => rfl⟩, fun hp => absurd hp (by simp)⟩
  · refine ⟨some ⟨g, 0, none⟩, c, rfl, hn, ⟨hc, fun e => by cases e⟩, fun _ => ⟨g, 0, rfl, fun i x hi => ?_⟩⟩
    obtain ⟨d, g1, g2, g3⟩ := h.at_ hi
    refine hR g _ x d rfl hb g2 g1 (fun j v hj => ?_)
    have hjs : j < sz := by rw [← g1]; exact (List.getElem?_eq_some_iff.1 hj).1
    have := hown.cells (g := g) rfl (i * sz + j) v ((g3 j hjs).trans hj)
    rwa [show (⟨g, 0, none⟩ : Addr).add (i * sz + j) = ⟨g, 0 + i * sz + j, none⟩ by unfold Addr.add; split <;> simp_all] at this
end
/-- One element more, and the old ones kept. -/
theorem Rows.push {α : Type} {sz base : Nat} {F : (Nat → Prop) → World → α → List Value → Prop} (Fgo : ∀ (B B' : Nat → Prop) (w w' : World) (x : α) (cs : List Value), KeptB B w w' → (∀ b, B b → B' b) → F B w x cs → F B' w' x cs)
    (Flt : ∀ (B : Nat → Prop) (w : World) (x : α) (cs : List Value), F B w x cs → F (fun b => B b ∧ b < w.heap.size) w x cs) {w wN : World} {u u' : Value} {l : List α} {cs : List Value}
    (h : Rows sz (F (fun b => base ≤ b ∧ some b ≠ u.ownBlock) w) l cs) (hk : KeptB (fun b => (base ≤ b ∧ some b ≠ u.ownBlock) ∧ b < w.heap.size) w wN)
    (hu : ∀ b, base ≤ b → some b ≠ u.ownBlock → b < w.heap.size → some b ≠ u'.ownBlock) {x : α} {c : List Value} (hc : c.length = sz) (hx : F (fun b => base ≤ b ∧ some b ≠ u'.ownBlock) wN x c) :
    Rows sz (F (fun b => base ≤ b ∧ some b ≠ u'.ownBlock) wN) (l ++ [x]) (cs ++ c) :=
  Rows.snoc hx hc (h.imp fun y d hy => Fgo _ _ _ _ y d hk (fun b hb => ⟨hb.1.1, hu b hb.1.1 hb.1.2 hb.2⟩) (Flt _ _ y d hy))
theorem CPhi.reads {B : Nat → Prop} {w : World} {g o : Nat} {x : PhiD} {c : List Value} (hg : B g) (h : CPhi B w x c) (hc : ∀ j v, c[j]? = some v → w.cell? ⟨g, o + j, none⟩ = some v) : RPhiB B w g o x := by
  obtain ⟨A, c', rfl, g1, g2⟩ := h
  exact ⟨hg, ⟨hc 0 _ rfl, g2⟩, A, c', hc 1 _ rfl, g1⟩
theorem CIns.reads {B : Nat → Prop} {w : World} {g o : Nat} {x : InsD} {c : List Value} (hg : B g) (h : CIns B w x c) (hc : ∀ j v, c[j]? = some v → w.cell? ⟨g, o + j, none⟩ = some v) : RInsB B w g o x := by
  obtain ⟨A, c', rfl, g1, g2, g3, g4, g5⟩ := h
  exact ⟨hg, ⟨hc 0 _ rfl, g2⟩, ⟨hc 1 _ rfl, g3⟩, ⟨A, c', hc 2 _ rfl, g1⟩, ⟨hc 3 _ rfl, g4⟩, ⟨hc 4 _ rfl, g5⟩⟩
theorem CBlk.reads {B : Nat → Prop} {w : World} {g o : Nat} {x : BlkD} {c : List Value} (hg : B g) (h : CBlk B w x c) (hc : ∀ j v, c[j]? = some v → w.cell? ⟨g, o + j, none⟩ = some v) : RBlkB B w g o x := by
  obtain ⟨Ap, cp, Ai, ci, At, ct, rfl, g1, g2, g3, g4, g5⟩ := h
  exact ⟨hg, ⟨Ap, cp, hc 0 _ rfl, g1⟩, ⟨Ai, ci, hc 1 _ rfl, g2⟩, ⟨hc 2 _ rfl, g4⟩, ⟨hc 3 _ rfl, g5⟩, ⟨At, ct, hc 4 _ rfl, g3⟩⟩
theorem CFun.reads {B : Nat → Prop} {w : World} {g o : Nat} {x : FunD} {c : List Value} (hg : B g) (h : CFun B w x c) (hc : ∀ j v, c[j]? = some v → w.cell? ⟨g, o + j, none⟩ = some v) : RFunB B w g o x := by
  obtain ⟨Ar, cr, Ab, cb, rfl, g1, g2, g3, g4⟩ := h
  exact ⟨hg, ⟨hc 0 _ rfl, g3⟩, ⟨hc 1 _ rfl, g4⟩, ⟨Ar, cr, hc 2 _ rfl, g1⟩, ⟨Ab, cb, hc 3 _ rfl, g2⟩⟩

/-! ### append([]int{}, xs...) -/
theorem run_append_copy (ty : TypeId) {w : World} {g len c : Nat} {A : Option Addr} {xs : List Int} (hg : w.heap[g]? = some (.cells #[] 3 (0, 0)))
    (hsl : SL w 1 RInt A c xs) (hlen : len = xs.length) (hn : xs.length ≤ 1000000) :
    ∃ v' w', (Builtin.append_ #[46, 46] ty #[.slice (some ⟨g, 0, none⟩) 0 0, .slice A len c]).run Try.prog w = .ok v' w' ∧ VS w' 1 (RIntB (fun b => b = g ∨ b = w.heap.size)) v' xs ∧ w.grownBy w' (some g) ∧ w'.ownsRow g 3 1 v' xs.length (xs.map (Value.int .i64)) ∧ (v'.ownBlock = some g ∨ v'.ownBlock = some w.heap.size) := by
  obtain ⟨i0, hi, hz0, hz1, hz2⟩ := info_parts Try.info3
  have hgl : g < w.heap.size := (Array.getElem?_eq_some_iff.1 hg).1
  have hown : w.ownsRow g 3 1 (.slice (some ⟨g, 0, none⟩) 0 0) 0 [] := ⟨rfl, .inr ⟨g, 0, #[], rfl, Nat.le_refl _, hg, Nat.le_refl _, Nat.zero_le _, rfl, rfl⟩⟩
  have hI : ∀ x ∈ xs, I64 x := fun x hx => by
    obtain ⟨i, hi⟩ := List.getElem?_of_mem hx
    obtain ⟨_, _, h3⟩ := hsl
    obtain ⟨b, o, _, hr⟩ := h3 (by have := (List.getElem?_eq_some_iff.1 hi).1; omega)
    exact (hr i x hi).2
  have key : ∀ v' w', w'.ownsRow g 3 1 v' xs.length (xs.map (Value.int .i64)) → (v'.ownBlock = some g ∨ v'.ownBlock = some w.heap.size) → VS w' 1 (RIntB (fun b => b = g ∨ b = w.heap.size)) v' xs := fun v' w' h hat => by
    obtain ⟨A', c', e, s1, s2, s3⟩ := vs_of_own h hI
    refine ⟨A', c', e, s1, s2, fun hp => ?_⟩
    obtain ⟨b, o, e2, hr⟩ := s3 hp
    have hb : b = g ∨ b = w.heap.size := by
      rw [e, e2] at hat
      rcases hat with h | h
      · exact .inl (Option.some.inj h)
      · exact .inr (Option.some.inj h)
    exact ⟨b, o, e2, fun i x hi => ⟨hb, hr i x hi⟩⟩
  cases A with
  | none =>
    obtain rfl : c = 0 := hsl.2.1.2 rfl
    have hx : xs = [] := by
      rcases Nat.eq_zero_or_pos xs.length with h0 | h0
      · exact List.length_eq_zero_iff.1 h0
      · obtain ⟨b, o, e, _⟩ := hsl.2.2 h0; cases e
    subst hx
    subst hlen
    exact ⟨_, _, run_append_owned_none (P := Try.prog) (w := w) g 46 ty 3 i0 1 Try.underlying46 hi _ 0 [] hown, key _ _ hown (.inl rfl), ⟨rfl, rfl, rfl, Nat.le_refl _, fun _ _ _ => rfl⟩, hown, .inl rfl⟩
  | some ad =>
    have hnews : ∀ j u, (xs.map (Value.int .i64))[j]? = some u → w.cell? (ad.add j) = some u := by
      intro j u hu
      rw [List.getElem?_map] at hu
      obtain ⟨x, hx, rfl⟩ := Option.map_eq_some_iff.1 hu
      obtain ⟨_, _, h3⟩ := hsl
      obtain ⟨b, o, e, hr⟩ := h3 (by have := (List.getElem?_eq_some_iff.1 hx).1; omega)
      obtain rfl := Option.some.inj e
      have := (hr j x hx).1
      rw [Nat.mul_one] at this
      rwa [show (⟨b, o, none⟩ : Addr).add j = ⟨b, o + j, none⟩ by unfold Addr.add; split <;> simp_all]
    subst hlen
    obtain ⟨v', w', hr, h2, h3, _, hat⟩ := run_append_own_at (P := Try.prog) w g 46 ty 3 i0 (.int .i64 0) 1 8 Try.underlying46 hi hz0 hz1 hz2 rfl (by decide) _ 0 [] hown ad xs.length c (xs.map (Value.int .i64)) (by simp) hnews (ints_oneCell _ _)
      (by unfold maxLen; omega) (by omega) (by omega)
    rw [Nat.zero_add, List.nil_append] at h2
    exact ⟨v', w', hr, key _ _ h2 hat, h3, h2, hat⟩

theorem row_new (w : World) (o : Obj) : (w.alloc o).drew.heap[w.heap.size]? = some o := heap_alloc_new w o
theorem row_new2 (w : World) (o o' : Obj) : ((w.alloc o).alloc o').drew.heap[w.heap.size]? = some o := (Below.heap_alloc _ _ _ (by simp)).trans (heap_alloc_new w o)
theorem row_new3 (w : World) (o o' : Obj) : ((w.alloc o').alloc o).drew.heap[w.heap.size + 1]? = some o := by
  have h := heap_alloc_new (w.alloc o') o
  rwa [show (w.alloc o').heap.size = w.heap.size + 1 by simp] at h
theorem block_lt' {w : World} {g : Nat} {o : Obj} (h : w.heap[g]? = some o) : g < w.heap.size := (Array.getElem?_eq_some_iff.1 h).1
theorem grown_set (w : World) (a : Addr) (v : Value) : w.grownBy (w.setCell a v) (some a.block) := ⟨rfl, rfl, rfl, by simp [World.setCell], fun k _ hk => Below.heap_setCell _ _ _ _ (fun e => hk (by rw [e]))⟩
theorem own_ne {w : World} {base : Nat} {e : TypeId} {size n : Nat} {v : Value} {xs : List Value} (h : w.ownsRow base e size v n xs) {g : Nat} (hg : w.heap.size ≤ g) : v.ownBlock = none ∨ v.ownBlock ≠ some g := by
  cases hu : v.ownBlock with
  | none => exact .inl rfl
  | some k => right; intro e; have := (h.lt k hu).2; have := Option.some.inj e; omega
theorem row_old (w : World) (o o' : Obj) : ((w.alloc o').alloc o).heap[w.heap.size]? = some o' := (Below.heap_alloc _ _ _ (by simp)).trans (heap_alloc_new w o')
theorem row_keep (w : World) (o o' o1 : Obj) {k : Nat} (h : w.heap[k]? = some o1) : ((w.alloc o').alloc o).heap[k]? = some o1 := by
  have hk := block_lt' h
  exact ((Below.heap_alloc _ _ _ (by simp; omega)).trans (Below.heap_alloc _ _ _ hk)).trans h
theorem row_new4 (w : World) (o o' : Obj) : ((w.alloc o').alloc o).heap[w.heap.size + 1]? = some o := row_new3 w o o'
theorem kept3 (w : World) (o o' : Obj) : Kept w ((w.alloc o).alloc o') := (kept_alloc w o).trans (kept_alloc _ o')
theorem kept1 (w : World) (o : Obj) : Kept w (w.alloc o).drew := kept_alloc w o
theorem kept2 (w : World) (o o' : Obj) : Kept w ((w.alloc o).alloc o').drew := (kept_alloc w o).trans (kept_alloc _ o')
theorem grown_block {w w' : World} {g k : Nat} {o : Obj} (h : w.grownBy w' (some g)) (hk : w.heap[k]? = some o) (hne : k ≠ g) : w'.heap[k]? = some o :=
  (h.block k (Array.getElem?_eq_some_iff.1 hk).1 (fun e => hne (Option.some.inj e))).trans hk
/-- A block that is known whole: its cells, none frozen. -/
theorem cell_of_block {w : World} {g : Nat} {cs : Array Value} {t : TypeId} (h : w.heap[g]? = some (.cells cs t (0, 0))) (i : Nat) : w.cell? ⟨g, i, none⟩ = cs[i]? := cell_of_row w g i cs t (0, 0) h
theorem free_of_block {w : World} {g : Nat} {cs : Array Value} {t : TypeId} (h : w.heap[g]? = some (.cells cs t (0, 0))) (i : Nat) : w.frozen? ⟨g, i, none⟩ = false := by simp [World.frozen?, h]
theorem set_of_block {w : World} {g i : Nat} {cs : Array Value} {t : TypeId} (v : Value) (h : w.heap[g]? = some (.cells cs t (0, 0))) : (w.setCell ⟨g, i, none⟩ v).heap[g]? = some (.cells (cs.setIfInBounds i v) t (0, 0)) := by
  simp [World.setCell, Array.getElem?_modify, h]
theorem block_lt {w : World} {g : Nat} {o : Obj} (h : w.heap[g]? = some o) : g < w.heap.size := (Array.getElem?_eq_some_iff.1 h).1
theorem keptB_sets4 (w : World) (g : Nat) (v0 v1 v2 v3 : Value) : KeptB (fun b => b ≠ g) w ((((w.setCell ⟨g, 0, none⟩ v0).setCell ⟨g, 1, none⟩ v1).setCell ⟨g, 2, none⟩ v2).setCell ⟨g, 3, none⟩ v3) :=
  (((keptB_set w ⟨g, 0, none⟩ v0).trans (keptB_set _ ⟨g, 1, none⟩ v1)).trans (keptB_set _ ⟨g, 2, none⟩ v2)).trans (keptB_set _ ⟨g, 3, none⟩ v3)
theorem sets4_block {w : World} {g : Nat} {a b c d : Value} {t : TypeId} (h : w.heap[g]? = some (.cells #[a, b, c, d] t (0, 0))) (v0 v1 v2 v3 : Value) :
    ((((w.setCell ⟨g, 0, none⟩ v0).setCell ⟨g, 1, none⟩ v1).setCell ⟨g, 2, none⟩ v2).setCell ⟨g, 3, none⟩ v3).heap[g]? = some (.cells #[v0, v1, v2, v3] t (0, 0)) :=
  set_of_block v3 (set_of_block v2 (set_of_block v1 (set_of_block v0 h)))
theorem keptB_sets5 (w : World) (g : Nat) (v0 v1 v2 v3 v4 : Value) : KeptB (fun b => b ≠ g) w (((((w.setCell ⟨g, 0, none⟩ v0).setCell ⟨g, 1, none⟩ v1).setCell ⟨g, 2, none⟩ v2).setCell ⟨g, 3, none⟩ v3).setCell ⟨g, 4, none⟩ v4) :=
  (keptB_sets4 w g v0 v1 v2 v3).trans (keptB_set _ ⟨g, 4, none⟩ v4)
theorem sets5_block {w : World} {g : Nat} {a b c d e : Value} {t : TypeId} (h : w.heap[g]? = some (.cells #[a, b, c, d, e] t (0, 0))) (v0 v1 v2 v3 v4 : Value) :
    (((((w.setCell ⟨g, 0, none⟩ v0).setCell ⟨g, 1, none⟩ v1).setCell ⟨g, 2, none⟩ v2).setCell ⟨g, 3, none⟩ v3).setCell ⟨g, 4, none⟩ v4).heap[g]? = some (.cells #[v0, v1, v2, v3, v4] t (0, 0)) :=
  set_of_block v4 (set_of_block v3 (set_of_block v2 (set_of_block v1 (set_of_block v0 h))))
theorem news_cells (w : World) (cs : Array Value) (t : TypeId) {g : Nat} (hg : g = w.heap.size) : ∀ j u, cs.toList[j]? = some u → (w.alloc (.cells cs t)).cell? ((⟨g, 0, none⟩ : Addr).add j) = some u := fun j u hu => by
  subst hg
  exact World.news_of_block (heap_alloc_new w (.cells cs t)) j u hu
/-- At a step of a region that draws its order. -/
theorem step_append_copy {ops : Array Oper} {o : Oper} {a : Act} {w : World} {K : Act → World → Prop} {Q : Exit → Act → World → Prop} {E : Prop} (hgd : o.guard = none) (s x : Operand)
    (ho : o.op = .call { callee := .builtin .append, args := #[s, x], argTypes := #[46, 46] })
    (g len c : Nat) (A : Option Addr) (xs : List Int) (hs : a.eval s = .slice (some ⟨g, 0, none⟩) 0 0) (hx : a.eval x = .slice A len c) (hg : w.heap[g]? = some (.cells #[] 3 (0, 0)))
    (hsl : SL w 1 RInt A c xs) (hlen : len = xs.length) (hn : xs.length ≤ 1000000)
    (h : ∀ A' c' w', SL w' 1 (RIntB (fun b => b = g ∨ b = w.heap.size)) A' c' xs → w.grownBy w' (some g) → (w'.ownsRow g 3 1 (.slice A' xs.length c') xs.length (xs.map (Value.int .i64)) ∧ ((Value.slice A' xs.length c').ownBlock = some g ∨ (Value.slice A' xs.length c').ownBlock = some w.heap.size)) → K (a.put o.dst (.slice A' xs.length c')) w') :
    if Region.wanted o (yielded ops a.tmps) = true then Oper.wp Try.prog o a w K Q else E := by
  have hw : Region.wanted o (yielded ops a.tmps) = true := by simp [Region.wanted, hgd]
  rw [if_pos hw]
  obtain ⟨v', w', hr, ⟨A', c', rfl, h2⟩, h3, h4⟩ := run_append_copy o.type hg hsl hlen hn
  unfold Oper.wp execOp
  simp only [ho, resolve, invoke, builtin, Sem.run_bind, Sem.run_pure, Result.andThen_ok, List.map_toArray, List.map_cons, List.map_nil, hs, hx, hr]
  exact h A' c' w' h2 h3 h4
/-- At the list of a plain region's operations. -/
theorem wpList_append_copy {ops : Array Oper} {rest : List Oper} {o : Oper} {a : Act} {w : World} {Q : Exit → Act → World → Prop} (hgd : o.guard = none) (s x : Operand)
    (ho : o.op = .call { callee := .builtin .append, args := #[s, x], argTypes := #[46, 46] })
    (g len c : Nat) (A : Option Addr) (xs : List Int) (hs : a.eval s = .slice (some ⟨g, 0, none⟩) 0 0) (hx : a.eval x = .slice A len c) (hg : w.heap[g]? = some (.cells #[] 3 (0, 0)))
    (hsl : SL w 1 RInt A c xs) (hlen : len = xs.length) (hn : xs.length ≤ 1000000)
    (h : ∀ A' c' w', SL w' 1 (RIntB (fun b => b = g ∨ b = w.heap.size)) A' c' xs → w.grownBy w' (some g) → (w'.ownsRow g 3 1 (.slice A' xs.length c') xs.length (xs.map (Value.int .i64)) ∧ ((Value.slice A' xs.length c').ownBlock = some g ∨ (Value.slice A' xs.length c').ownBlock = some w.heap.size)) → wpList Try.prog ops Q rest (a.put o.dst (.slice A' xs.length c')) w') : wpList Try.prog ops Q (o :: rest) a w := by
  refine wpList_plain hgd fun K hK => ?_
  obtain ⟨v', w', hr, ⟨A', c', rfl, h2⟩, h3, h4⟩ := run_append_copy o.type hg hsl hlen hn
  unfold Oper.wp execOp
  simp only [ho, resolve, invoke, builtin, Sem.run_bind, Sem.run_pure, Result.andThen_ok, List.map_toArray, List.map_cons, List.map_nil, hs, hx, hr]
  exact hK _ _ (h A' c' w' h2 h3 h4)
/-- A row that the call owns is so in each world where its block is as it was. -/
theorem own_block {w w' : World} {base n : Nat} {e : TypeId} {size : Nat} {v : Value} {xs : List Value} (h : w.ownsRow base e size v n xs) (hb : ∀ g, v.ownBlock = some g → w'.heap[g]? = w.heap[g]?) : w'.ownsRow base e size v n xs := by
  obtain ⟨h1, h2⟩ := h
  refine ⟨h1, ?_⟩
  rcases h2 with h2 | ⟨g, c, cur, rfl, h3, h4, h5⟩
  · exact .inl h2
  · exact .inr ⟨g, c, cur, rfl, h3, (hb g rfl).trans h4, h5⟩
theorem own_base {w : World} {base base' n : Nat} {e : TypeId} {size : Nat} {v : Value} {xs : List Value} (h : w.ownsRow base e size v n xs) (hb : base' ≤ base) : w.ownsRow base' e size v n xs := by
  obtain ⟨h1, h2⟩ := h
  refine ⟨h1, ?_⟩
  rcases h2 with h2 | ⟨g, c, cur, rfl, h3, h4⟩
  · exact .inl h2
  · exact .inr ⟨g, c, cur, rfl, by omega, h4⟩
theorem sets4_other (w : World) {g k : Nat} (hk : k ≠ g) (v0 v1 v2 v3 : Value) :
    ((((w.setCell ⟨g, 0, none⟩ v0).setCell ⟨g, 1, none⟩ v1).setCell ⟨g, 2, none⟩ v2).setCell ⟨g, 3, none⟩ v3).heap[k]? = w.heap[k]? :=
  (((Below.heap_setCell _ _ _ _ hk).trans (Below.heap_setCell _ _ _ _ hk)).trans (Below.heap_setCell _ _ _ _ hk)).trans (Below.heap_setCell _ _ _ _ hk)
end Go.Proofs.Ytacadgocoleaoaa

/- Nothing has changed but some blocks. No condition. -/
namespace Go.Proofs.Ytacadgocoleaoaa
open Go.ChangeShapes Go.WideShapes Go.RowKit Go.Deep
set_option linter.unusedVariables false

/-! ### Nothing has changed but some blocks -/
structure FrX (X : Nat → Prop) (w w' : World) : Prop where
  os : w'.os = w.os
  tape : w'.tape = w.tape
  output : w'.output = w.output
  size : w.heap.size ≤ w'.heap.size
  block : ∀ k, k < w.heap.size → ¬ X k → w'.heap[k]? = w.heap[k]?
theorem FrX.refl (X : Nat → Prop) (w : World) : FrX X w w := ⟨rfl, rfl, rfl, Nat.le_refl _, fun _ _ _ => rfl⟩
theorem FrX.trans {X : Nat → Prop} {a b c : World} (h : FrX X a b) (k : FrX X b c) : FrX X a c :=
  ⟨k.os.trans h.os, k.tape.trans h.tape, k.output.trans h.output, Nat.le_trans h.size k.size, fun i hi hx => (k.block i (Nat.lt_of_lt_of_le hi h.size) hx).trans (h.block i hi hx)⟩
theorem FrX.of_below {X : Nat → Prop} {w w' : World} (h : Below w.heap.size w w') : FrX X w w' := ⟨h.os, h.tape, h.output, h.size, fun k hk _ => h.block k hk⟩
theorem FrX.mono {X Y : Nat → Prop} {w w' : World} (h : FrX X w w') (hy : ∀ k, k < w.heap.size → X k → Y k) : FrX Y w w' := ⟨h.os, h.tape, h.output, h.size, fun k hk hx => h.block k hk fun hxk => hx (hy k hk hxk)⟩
theorem FrX.alloc {X : Nat → Prop} {a w : World} (h : FrX X a w) (o : Obj) : FrX X a (w.alloc o) := h.trans (.of_below ((Below.refl _ _).alloc (Nat.le_refl _) o))
theorem FrX.drew {X : Nat → Prop} {a w : World} (h : FrX X a w) : FrX X a w.drew := ⟨h.os, h.tape, h.output, h.size, h.block⟩
theorem FrX.setCell {X : Nat → Prop} {a w : World} (h : FrX X a w) {p : Addr} (hp : X p.block ∨ a.heap.size ≤ p.block) (u : Value) : FrX X a (w.setCell p u) :=
  ⟨h.os, h.tape, h.output, by have := h.size; simpa using this, fun k hk hx => (Below.heap_setCell _ _ _ _ (fun e => by rcases hp with hp | hp
                                                                                                                        · exact hx (e ▸ hp)
                                                                                                                        · omega)).trans (h.block k hk hx)⟩
theorem FrX.grown {X : Nat → Prop} {a w w' : World} {row : Option Nat} (h : FrX X a w) (hg : w.grownBy w' row) (hr : ∀ k, row = some k → X k ∨ a.heap.size ≤ k) : FrX X a w' :=
  ⟨hg.os.trans h.os, hg.tape.trans h.tape, hg.output.trans h.output, Nat.le_trans h.size hg.size, fun k hk hx => (hg.block k (Nat.lt_of_lt_of_le hk h.size) (fun e => by
    rcases hr k e.symm with h2 | h2
    · exact hx h2
    · omega)).trans (h.block k hk hx)⟩
theorem FrX.below {X : Nat → Prop} {B : Nat} {w w' : World} (h : FrX X w w') (hB : B ≤ w.heap.size) (hx : ∀ k, X k → B ≤ k) : Below B w w' := ⟨h.os, h.tape, h.output, h.size, fun k hk => h.block k (by omega) (fun hk2 => by have := hx k hk2; omega)⟩
theorem FrX.box {X : Nat → Prop} {w w' : World} (h : FrX X w w') {N : Nat} {o : Obj} (hb : w.heap[N]? = some o) (hx : ¬ X N) : w'.heap[N]? = some o := (h.block N (Array.getElem?_eq_some_iff.1 hb).1 hx).trans hb
end Go.Proofs.Ytacadgocoleaoaa

/- Rows of a call's own. No condition. -/
namespace Go.Proofs.Ytacadgocoleaoaa
open Go.ChangeShapes Go.WideShapes Go.RowKit Go.Deep
set_option linter.unusedVariables false

theorem ownsRow_block {w w' : World} {base n size : Nat} {e : TypeId} {v : Value} {xs : List Value} (h : w.ownsRow base e size v n xs) (hb : ∀ g, v.ownBlock = some g → w'.heap[g]? = w.heap[g]?) : w'.ownsRow base e size v n xs := by
  obtain ⟨h1, h2⟩ := h
  refine ⟨h1, ?_⟩
  rcases h2 with h2 | ⟨g, c, cur, rfl, h3, h4, h5⟩
  · exact .inl h2
  · exact .inr ⟨g, c, cur, rfl, h3, (hb g rfl).trans h4, h5⟩
theorem own_sliceL {w : World} {K n size : Nat} {e : TypeId} {v : Value} {xs : List Value} (h : w.ownsRow K e size v n xs) : ∃ A c, v = .slice A n c := by
  rcases h.2 with ⟨rfl, h0⟩ | ⟨g, c, cur, rfl, -⟩
  · exact ⟨none, 0, by rw [h0]⟩
  · exact ⟨_, _, rfl⟩
theorem owns_mono_ {w : World} {base base' n size : Nat} {e : TypeId} {v : Value} {xs : List Value} (h : w.ownsRow base e size v n xs) (hk : base' ≤ base) : w.ownsRow base' e size v n xs := by
  obtain ⟨h1, h2 | ⟨g, cap, cur, rfl, hb, h3⟩⟩ := h
  · exact ⟨h1, .inl h2⟩
  · exact ⟨h1, .inr ⟨g, cap, cur, rfl, Nat.le_trans hk hb, h3⟩⟩
theorem row_madeQ {w : World} {H k : Nat} (h : w.heap[H]? = some (.cells (madeCells #[.int .i64 0] k) 3)) : w.rowIs H 3 k (fun _ => .int .i64 0) :=
  ⟨_, h, size_madeCells _ _, fun i hi => by simp [madeCells, hi, Nat.mod_one]⟩
end Go.Proofs.Ytacadgocoleaoaa

/- Two interface values of one integer type are equal as their numbers are; one of them against nil is not. Over any program. -/
namespace Go.Proofs.Ytacadgocoleaoaa
section
variable {P : Program} (w : World)

theorem run_equalIn_iface_int (d : Nat) {ti tn : TypeId} {ms : Array (String × TypeId)} {i : TypeInfo} {k : IntKind} (a b : Int)
    (hi : P.underlying ti = some (.interface ms)) (hn : P.underlying tn = some (.int k)) (hinfo : P.info? tn = some i) (hcomp : i.comparable = true) :
    (Op.equalIn (d + 2) ti (.iface tn (.int k a)) (.iface tn (.int k b))).run P w = .ok (a == b) w := by
  simp [Op.equalIn, run_underlying hi, run_underlying hn, typeInfo, hinfo, hcomp]

theorem run_eql_iface_int {ti tn : TypeId} {ms : Array (String × TypeId)} {i : TypeInfo} {k : IntKind} (a b : Int)
    (hi : P.underlying ti = some (.interface ms)) (hn : P.underlying tn = some (.int k)) (hinfo : P.info? tn = some i) (hcomp : i.comparable = true) :
    (binOp .eql ti (.iface tn (.int k a)) (.iface tn (.int k b))).run P w = .ok (.bool (a == b)) w := by
  simp only [binOp]
  simp [Op.equal, Op.maxDepth, run_equalIn_iface_int w 9998 a b hi hn hinfo hcomp]
end
end Go.Proofs.Ytacadgocoleaoaa

/- Two errors that are Codes are equal as their numbers are. -/
namespace Go.Proofs.Ytacadgocoleaoaa
open Go.ChangeShapes Go.WideShapes Go.RowKit Go.Deep
set_option linter.unusedVariables false

theorem codeInfo : Try.prog.info? 45 = some ((Try.prog.info? 45).get!) := by kernel_rfl
theorem codeComp : ((Try.prog.info? 45).get!).comparable = true := by kernel_rfl
theorem eqlErr (x y : Int) (w : World) : (binOp .eql 39 (.iface 45 (.int .i64 x)) (.iface 45 (.int .i64 y))).run Try.prog w = .ok (.bool (x == y)) w :=
  run_eql_iface_int w x y Try.underlying39 Try.underlying45 codeInfo codeComp

end Go.Proofs.Ytacadgocoleaoaa
