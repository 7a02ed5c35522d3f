/- The document's machine: what memory holds of it; numbers stay numbers of 64 bits. -/
import Derived.Test.YtooblmiffgjmjaaGreatDoorRnWJ
import Derived.Test.YtooblmiffgjmjaaGreatDoorMacQJ
import Derived.Deep.DeepCutAuto
import Derived.Deep.LoopGhost
namespace Go.Proofs.YtooblmiffgjmjaaGreatDoor
open Go.ChangeShapes Go.WideShapes Go.RowKit Go.Deep
set_option linter.unusedVariables false

/-! ### Numbers of 64 bits -/
theorem wrap64_i64 (x : Int) : I64 (wrap64 x) := by unfold wrap64 I64; omega
theorem asN_i64 (b : Bool) : I64 (asN b) := by cases b <;> (unfold asN I64; decide)
theorem two_i64 (op a b : Int) (ha : I64 a) : I64 (two op a b) := by
  by_cases h6 : op = 6
  · subst h6; rw [← Rf1.ref_and]; exact wrap64_i64 _
  by_cases h7 : op = 7
  · subst h7; rw [← Rf1.ref_or]; exact wrap64_i64 _
  by_cases h8 : op = 8
  · subst h8; rw [← Rf1.ref_xor]; exact wrap64_i64 _
  by_cases h10 : op = 10
  · subst h10; rw [← Rf1.ref_shr a b ha]; exact wrap64_i64 _
  unfold two
  repeat' split
  all_goals first | exact wrap64_i64 _ | exact asN_i64 _ | omega
theorem one_i64 (op a : Int) (ha : I64 a) : I64 (one op a) := by
  unfold one; split
  · exact wrap64_i64 _
  · exact ha
theorem getD_i64 {l : List Int} (h : ∀ x ∈ l, I64 x) (i : Nat) : I64 (l.getD i 0) := by
  rw [List.getD_eq_getElem?_getD]
  cases hx : l[i]? with
  | none => show I64 0; unfold I64; decide
  | some x => exact h x (List.mem_of_getElem? hx)
theorem evalV_i64 {op : Int} {l : List Int} {v : Int} (h : ∀ x ∈ l, I64 x) (he : evalV op l = some v) : I64 v := by
  unfold evalV at he
  split at he
  · obtain rfl := Option.some.inj he; exact one_i64 _ _ (getD_i64 h 0)
  · split at he
    · cases he
    · obtain rfl := Option.some.inj he; exact two_i64 _ _ _ (getD_i64 h 0)
theorem argsV_i64 {regs : Nat → Int} (h : ∀ i, I64 (regs i)) (l : List Int) : ∀ x ∈ argsV regs l, I64 x := fun x hx => by
  obtain ⟨r, -, rfl⟩ := List.mem_map.1 hx; exact h _
theorem upd_i64 {f : Nat → Int} (h : ∀ i, I64 (f i)) (i : Nat) {v : Int} (hv : I64 v) : ∀ k, I64 (upd f i v k) := fun k => by unfold upd; split; exact hv; exact h k
theorem setAll_i64 : ∀ (l : List (Int × Int)) (r : Nat → Int), (∀ i, I64 (r i)) → (∀ p ∈ l, I64 p.2) → ∀ i, I64 (setAll r l i)
  | [], r, h, _ => h
  | p :: l, r, h, hp => setAll_i64 l _ (upd_i64 h _ (hp p (List.mem_cons_self ..))) (fun q hq => hp q (List.mem_cons_of_mem _ hq))
theorem firstR_i64 {l : List Int} (h : ∀ x ∈ l, I64 x) : ∀ i, I64 (firstR l i) := fun i => getD_i64 h i

/-! ### What memory holds of it -/
def qo (vo : Value) : MV := ⟨.slice none 0 0, .slice none 0 0, .slice none 0 0, .slice none 0 0, vo⟩
/-- Cell i of the document's machine. -/
def cellR (s : St) (vf vo : Value) (most : Int) (i : Nat) : Value := if i = 0 then vf else if i = 1 then .int .i64 most else cellM s (qo vo) (261 + i)
def refC (s : St) (vf vo : Value) (most : Int) : Array Value := Array.ofFn (n := 71) fun i => cellR s vf vo most i.val
theorem refC_size (s : St) (vf vo : Value) (most : Int) : (refC s vf vo most).size = 71 := by simp [refC]
theorem refC_get (s : St) (vf vo : Value) (most : Int) {i : Nat} (hi : i < 71) : (refC s vf vo most)[i]? = some (cellR s vf vo most i) := by
  unfold refC; rw [Array.getElem?_ofFn, dif_pos hi]
theorem refC_set {s s' : St} {vf vo vo' : Value} {most : Int} {i : Nat} {v : Value} (h : ∀ j, j < 71 → cellR s' vf vo' most j = if j = i then v else cellR s vf vo most j) : (refC s vf vo most).setIfInBounds i v = refC s' vf vo' most := by
  apply Array.ext
  · simp [refC]
  · intro j h1 h2
    have hj : j < 71 := by simpa [refC] using h1
    rw [Array.getElem_setIfInBounds (by simpa [refC] using hj)]
    simp only [refC, Array.getElem_ofFn]
    rw [h j hj]
    by_cases hij : i = j
    · rw [if_pos hij, if_pos hij.symm]
    · rw [if_neg hij, if_neg (fun e => hij e.symm)]
theorem cellR_set {s s' : St} {vf vo vo' : Value} {most : Int} {i : Nat} {v : Value} (hi : 2 ≤ i) (h : ∀ j, j < 332 → cellM s' (qo vo') j = if j = 261 + i then v else cellM s (qo vo) j) : ∀ j, j < 71 → cellR s' vf vo' most j = if j = i then v else cellR s vf vo most j := fun j hj => by
  unfold cellR
  by_cases h0 : j = 0
  · rw [if_pos h0, if_pos h0, if_neg (by omega)]
  · rw [if_neg h0, if_neg h0]
    by_cases h1 : j = 1
    · rw [if_pos h1, if_pos h1, if_neg (by omega)]
    · rw [if_neg h1, if_neg h1, h _ (by omega)]
      by_cases e : j = i
      · rw [if_pos e, if_pos (by omega)]
      · rw [if_neg e, if_neg (by omega)]
/-- The registers, the place, who waits: none of it lies in the machine. -/
theorem cellM_told {s s' : St} {q : MV} (h1 : s'.done = s.done) (h2 : s'.trap = s.trap) (h3 : s'.value = s.value) (h4 : s'.steps = s.steps) (h5 : s'.mem = s.mem) {j : Nat} (hj : 263 ≤ j) : cellM s' q j = cellM s q j := by
  by_cases h : j < 268
  · rw [cellM_mid _ _ (by omega) h, cellM_mid _ _ (by omega) h]
    unfold midC; rw [h1, h2, h3, h4]
  · rw [cellM_hi _ _ (by omega), cellM_hi _ _ (by omega), h5]
structure Told0 (s s' : St) : Prop where
  done : s'.done = s.done
  trap : s'.trap = s.trap
  value : s'.value = s.value
  out : s'.out = s.out
  steps : s'.steps = s.steps
  mem : s'.mem = s.mem
theorem Told0.refl (s : St) : Told0 s s := ⟨rfl, rfl, rfl, rfl, rfl, rfl⟩
theorem Told0.cells {s s' : St} (h : Told0 s s') (vf vo : Value) (most : Int) : refC s' vf vo most = refC s vf vo most := by
  unfold refC cellR
  congr 1
  funext i
  by_cases h0 : i.val = 0
  · rw [if_pos h0, if_pos h0]
  · rw [if_neg h0, if_neg h0]
    by_cases h1 : i.val = 1
    · rw [if_pos h1, if_pos h1]
    · rw [if_neg h1, if_neg h1, cellM_told h.done h.trap h.value h.steps h.mem (by omega)]

/-- The machine in block P, the functions behind it, and what was put out. -/
structure RfM (K P : Nat) (m : List FunD) (most : Int) (w : World) (s : St) (vf vo : Value) : Prop where
  box : w.heap[P]? = some (.cells (refC s vf vo most) 71 (0, 0))
  funs : ∃ A c, vf = .slice A m.length c ∧ SL w 4 (RFunB (Old K P)) A c m
  out : w.ownsRow K 2 1 vo s.out.length (s.out.map (Value.int .i64))
  pk : P < K
  kw : K ≤ w.heap.size
  m64 : ∀ k, I64 (s.mem k)
section
variable {K P : Nat} {m : List FunD} {most : Int} {w w' : World} {s s' : St} {vf vo vo' : Value}
theorem RfM.cell (h : RfM K P m most w s vf vo) {i : Nat} (hi : i < 71) : w.cell? ⟨P, i, none⟩ = some (cellR s vf vo most i) := (cell_of_block h.box i).trans (refC_get _ _ _ _ hi)
theorem RfM.free (h : RfM K P m most w s vf vo) (i : Nat) : w.frozen? ⟨P, i, none⟩ = false := free_of_block h.box i
theorem RfM.lt (h : RfM K P m most w s vf vo) : P < w.heap.size := block_lt h.box
theorem RfM.steps (h : RfM K P m most w s vf vo) : w.cell? ⟨P, 6, none⟩ = some (.int .i64 s.steps) := h.cell (by omega)
theorem RfM.mst (h : RfM K P m most w s vf vo) : w.cell? ⟨P, 1, none⟩ = some (.int .i64 most) := h.cell (by omega)
theorem RfM.fun_ (h : RfM K P m most w s vf vo) : w.cell? ⟨P, 0, none⟩ = some vf := h.cell (by omega)
theorem RfM.told (h : RfM K P m most w s vf vo) : w.cell? ⟨P, 5, none⟩ = some vo := h.cell (by omega)
theorem RfM.word (h : RfM K P m most w s vf vo) {k : Nat} (hk : k < 64) : w.cell? ⟨P, 7 + k, none⟩ = some (.int .i64 (s.mem k)) := by
  rw [h.cell (by omega)]; unfold cellR
  rw [if_neg (by omega), if_neg (by omega), show 261 + (7 + k) = 268 + k by omega, cellM_mem _ _ hk]
theorem RfM.ghost (h : RfM K P m most w s vf vo) (ht : Told0 s s') : RfM K P m most w s' vf vo :=
  ⟨by rw [ht.cells]; exact h.box, h.funs, by rw [ht.out]; exact h.out, h.pk, h.kw, by rw [ht.mem]; exact h.m64⟩
theorem RfM.keep (h : RfM K P m most w s vf vo) (hP : w'.heap[P]? = w.heap[P]?) (ho : ∀ g, vo.ownBlock = some g → w'.heap[g]? = w.heap[g]?) (hk : ∀ k, k < K → k ≠ P → w'.heap[k]? = w.heap[k]?) (hs : w.heap.size ≤ w'.heap.size) : RfM K P m most w' s vf vo := by
  obtain ⟨A, c, e, hf⟩ := h.funs
  exact ⟨hP.trans h.box, ⟨A, c, e, SL.imp (RFunB.go (fun a v hB hv => (World.cell?_of_block (hk a.block hB.1 hB.2)).trans hv) (fun _ h => h)) hf⟩, own_block h.out ho, h.pk, by have := h.kw; omega, h.m64⟩
theorem RfM.below (h : RfM K P m most w s vf vo) (hb : Below w.heap.size w w') : RfM K P m most w' s vf vo :=
  h.keep (hb.block P h.lt) (fun g hg => hb.block g (h.out.lt g hg).2) (fun k hk _ => hb.block k (by have := h.kw; omega)) hb.size
/-- A cell of a block that is none of the machine's. -/
theorem RfM.off (h : RfM K P m most w s vf vo) {R : Nat} (hR : K ≤ R) (hv : vo.ownBlock ≠ some R) (i : Nat) (u : Value) : RfM K P m most (w.setCell ⟨R, i, none⟩ u) s vf vo := by
  have hs : ∀ b, b ≠ R → (w.setCell ⟨R, i, none⟩ u).heap[b]? = w.heap[b]? := fun b hb => Below.heap_setCell _ _ _ _ hb
  exact h.keep (hs P (by have := h.pk; omega)) (fun g hg => hs g (fun e => hv (e ▸ hg))) (fun k hk _ => hs k (by omega)) (by simp)
/-- A cell of the machine. -/
theorem RfM.set (h : RfM K P m most w s vf vo) {i : Nat} {v : Value} (hi : 2 ≤ i) (hc : ∀ j, j < 332 → cellM s' (qo vo) j = if j = 261 + i then v else cellM s (qo vo) j) (ho : s'.out = s.out) (hm : ∀ k, I64 (s'.mem k)) : RfM K P m most (w.setCell ⟨P, i, none⟩ v) s' vf vo := by
  have hs : ∀ b, b ≠ P → (w.setCell ⟨P, i, none⟩ v).heap[b]? = w.heap[b]? := fun b hb => Below.heap_setCell _ _ _ _ hb
  obtain ⟨A, c, e, hf⟩ := h.funs
  refine ⟨(set_of_block v h.box).trans (by rw [refC_set (cellR_set hi hc)]), ⟨A, c, e, SL.imp (RFunB.go (fun a v hB hv => (World.cell?_of_block (hs a.block hB.2)).trans hv) (fun _ h => h)) hf⟩, by rw [ho]; exact own_block h.out (fun g hg => hs g (by have := (h.out.lt g hg).1; have := h.pk; omega)), h.pk, by have := h.kw; simpa using this, hm⟩
end

/-- What may have changed: the machine, what X says, the row of what was put out; and what is new. -/
structure Mv (X : Nat → Prop) (P : Nat) (w w' : World) (vo vo' : Value) : Prop where
  os : w'.os = w.os
  tape : w'.tape = w.tape
  output : w'.output = w.output
  size : w.heap.size ≤ w'.heap.size
  block : ∀ k, k < w.heap.size → k ≠ P → ¬ X k → vo.ownBlock ≠ some k → w'.heap[k]? = w.heap[k]?
  own : ∀ g, vo'.ownBlock = some g → vo.ownBlock = some g ∨ w.heap.size ≤ g
section
variable {X Y : Nat → Prop} {P : Nat} {w w' w2 : World} {vo vo' vo2 : Value}
theorem Mv.refl (X : Nat → Prop) (P : Nat) (w : World) (vo : Value) : Mv X P w w vo vo := ⟨rfl, rfl, rfl, Nat.le_refl _, fun _ _ _ _ _ => rfl, fun _ h => .inl h⟩
theorem Mv.trans (h : Mv X P w w' vo vo') (k : Mv X P w' w2 vo' vo2) : Mv X P w w2 vo vo2 :=
  ⟨k.os.trans h.os, k.tape.trans h.tape, k.output.trans h.output, Nat.le_trans h.size k.size,
   fun i hi hP hX hv => (k.block i (Nat.lt_of_lt_of_le hi h.size) hP hX (fun e => by rcases h.own i e with h1 | h1; exact hv h1; omega)).trans (h.block i hi hP hX hv),
   fun g hg => by
    rcases k.own g hg with h1 | h1
    · exact h.own g h1
    · exact .inr (Nat.le_trans h.size h1)⟩
theorem Mv.mono (h : Mv X P w w' vo vo') (hx : ∀ k, k < w.heap.size → X k → Y k) : Mv Y P w w' vo vo' := ⟨h.os, h.tape, h.output, h.size, fun k hk hP hY hv => h.block k hk hP (fun e => hY (hx k hk e)) hv, h.own⟩
theorem Mv.of_below (X : Nat → Prop) (P : Nat) (vo : Value) (h : Below w.heap.size w w') : Mv X P w w' vo vo := ⟨h.os, h.tape, h.output, h.size, fun k hk _ _ _ => h.block k hk, fun _ h => .inl h⟩
theorem Mv.set (X : Nat → Prop) (P : Nat) (vo : Value) (w : World) {p : Addr} (hp : p.block = P ∨ X p.block) (u : Value) : Mv X P w (w.setCell p u) vo vo :=
  ⟨rfl, rfl, rfl, by simp, fun k _ hP hX _ => Below.heap_setCell _ _ _ _ (fun e => by rcases hp with h | h; exact hP (e.trans h); exact hX (e ▸ h)), fun _ h => .inl h⟩
theorem Mv.below (h : Mv X P w w' vo vo') {B : Nat} (hB : B ≤ w.heap.size) (hP : B ≤ P) (hX : ∀ k, X k → B ≤ k) (hv : ∀ g, vo.ownBlock = some g → B ≤ g) : Below B w w' :=
  ⟨h.os, h.tape, h.output, h.size, fun k hk => h.block k (by omega) (by omega) (fun e => by have := hX k e; omega) (fun e => by have := hv k e; omega)⟩
end
/-- A frame's registers. -/
structure FrR (K P R n : Nat) (w : World) (vo : Value) (regs : Nat → Int) : Prop where
  row : w.rowIs R 2 n (fun i => .int .i64 (regs i))
  ap : vo.ownBlock ≠ some R
  ge : K ≤ R
  r64 : ∀ i, I64 (regs i)
theorem FrR.go {X : Nat → Prop} {K P R n : Nat} {w w' : World} {vo vo' : Value} {regs : Nat → Int} (h : FrR K P R n w vo regs) (k : Mv X P w w' vo vo') (hP : P < K) (hX : ¬ X R) : FrR K P R n w' vo' regs :=
  ⟨h.row.of_block (k.block R h.row.lt (by have := h.ge; omega) hX h.ap), fun e => by rcases k.own R e with h1 | h1; exact h.ap h1; have := h.row.lt; omega, h.ge, h.r64⟩
theorem FrR.set {K P R n : Nat} {w : World} {vo : Value} {regs : Nat → Int} (h : FrR K P R n w vo regs) (i : Nat) {v : Int} (hv : I64 v) : FrR K P R n (w.setCell ⟨R, i, none⟩ (.int .i64 v)) vo (upd regs i v) :=
  ⟨(h.row.set i (.int .i64 v)).congr fun x _ => by unfold upd; by_cases e : x = i <;> simp [e], h.ap, h.ge, upd_i64 h.r64 i hv⟩
end Go.Proofs.YtooblmiffgjmjaaGreatDoor

/- The document's machine: step, trap. -/
namespace Go.Proofs.YtooblmiffgjmjaaGreatDoor
open Go.ChangeShapes Go.WideShapes Go.RowKit Go.Deep
set_option linter.unusedVariables false

def NoX : Nat → Prop := fun _ => False
section
variable {K P : Nat} {m : List FunD} {most : Int} {w : World} {s : St} {vf vo : Value}
theorem RfM.drewN (h : RfM K P m most w s vf vo) (n : Nat) : RfM K P m most (w.drewN n) s vf vo := h.below (below_drewN (Below.refl _ _) n)
theorem RfM.tick (h : RfM K P m most w s vf vo) : RfM K P m most (w.setCell ⟨P, 6, none⟩ (.int .i64 ((s.steps : Int) + 1))) (tickS s) vf vo :=
  h.set (s' := tickS s) (by omega) (set_mid (i := 267) (by omega) (by omega) (by show Value.int .i64 ((s.steps + 1 : Nat) : Int) = _; rw [Int.natCast_add]; rfl) rfl rfl
    (mid_cases (fun _ => rfl) (fun _ => rfl) (fun _ => rfl) (fun _ => rfl) (fun _ => rfl) (fun _ => rfl) (fun _ => rfl) (fun _ => rfl) (fun h => absurd rfl h))) rfl h.m64
end

set_option maxRecDepth 100000 in
theorem rstep_no (K P : Nat) (m : List FunD) (most : Int) (w : World) (s : St) (vf vo : Value) (h : RfM K P m most w s vf vo) (hs : ¬ ((s.steps : Int) < most)) :
    Calls Tryz.prog 36 #[.pointer (some ⟨P, 0, none⟩)] w fun e w' => e = .returned (.bool false) ∧ RfM K P m most w' s vf vo ∧ Mv NoX P w w' vo vo := by
  have c6 := h.steps
  have c1 := h.mst
  have HR := Lib.hid h
  have hge : ((s.steps : Int) ≥ most) := by omega
  have hgb : decide ((s.steps : Int) ≥ most) = true := decide_eq_true hge
  clear h
  go_enter Tryz.func36, Tryz.ntmps36
  go_wp2_with fail
  go_quiet (fail)
  go_wp2_with fail
  go_ret
  exact ⟨rfl, HR.out.drewN _, Mv.of_below _ _ _ (below_drewN (Below.refl _ _) _)⟩
set_option maxRecDepth 100000 in
theorem rstep_yes (K P : Nat) (m : List FunD) (most : Int) (w : World) (s : St) (vf vo : Value) (h : RfM K P m most w s vf vo) (hs : ((s.steps : Int) < most)) (hm : most ≤ 1048576) :
    Calls Tryz.prog 36 #[.pointer (some ⟨P, 0, none⟩)] w fun e w' => e = .returned (.bool true) ∧ RfM K P m most w' (tickS s) vf vo ∧ Mv NoX P w w' vo vo := by
  have c6 := h.steps
  have c1 := h.mst
  have f6 := h.free 6
  have HR := Lib.hid h
  have hge : ¬ ((s.steps : Int) ≥ most) := by omega
  have hgb : decide ((s.steps : Int) ≥ most) = false := decide_eq_false hge
  clear h
  go_enter Tryz.func36, Tryz.ntmps36
  go_wp2_with fail
  go_quiet (fail)
  go_wp2_with fail
  go_ret
  exact ⟨rfl, (HR.out.drewN nq).tick, (Mv.of_below _ _ _ (below_drewN (Below.refl _ _) nq)).trans (Mv.set NoX P vo (w.drewN nq) (p := ⟨P, 6, none⟩) (.inl rfl) _)⟩
set_option maxRecDepth 100000 in
theorem rtrap_any (K P : Nat) (m : List FunD) (most : Int) (w : World) (s : St) (vf vo : Value) (t : Int) (h : RfM K P m most w s vf vo) :
    Calls Tryz.prog 54 #[.pointer (some ⟨P, 0, none⟩), .int .i64 t] w fun e w' => e = .returned (.tuple #[]) ∧ RfM K P m most w' (trapS s t) vf vo ∧ Mv NoX P w w' vo vo := by
  have c2 : w.cell? ⟨P, 2, none⟩ = some (.bool s.done) := h.cell (by omega)
  have c3 : w.cell? ⟨P, 3, none⟩ = some (.int .i64 s.trap) := h.cell (by omega)
  have f2 := h.free 2
  have f3 := h.free 3
  have HR := Lib.hid h
  clear h
  go_enter Tryz.func54, Tryz.ntmps54
  go_wp2_with fail
  go_end0
  have h1 : RfM K P m most (w.setCell ⟨P, 2, none⟩ (.bool true)) { s with done := true } vf vo :=
    HR.out.set (by omega) (set_mid (i := 263) (by omega) (by omega) rfl rfl rfl (mid_cases (fun _ => rfl) (fun _ => rfl) (fun _ => rfl) (fun _ => rfl) (fun h => absurd rfl h) (fun _ => rfl) (fun _ => rfl) (fun _ => rfl) (fun _ => rfl))) rfl HR.out.m64
  have h2 : RfM K P m most ((w.setCell ⟨P, 2, none⟩ (.bool true)).setCell ⟨P, 3, none⟩ (.int .i64 t)) (trapS s t) vf vo :=
    h1.set (by omega) (set_mid (i := 264) (by omega) (by omega) rfl rfl rfl (mid_cases (fun _ => rfl) (fun _ => rfl) (fun _ => rfl) (fun _ => rfl) (fun _ => rfl) (fun h => absurd rfl h) (fun _ => rfl) (fun _ => rfl) (fun _ => rfl))) rfl HR.out.m64
  exact ⟨rfl, h2, (Mv.set NoX P vo w (p := ⟨P, 2, none⟩) (.inl rfl) _).trans (Mv.set NoX P vo _ (p := ⟨P, 3, none⟩) (.inl rfl) _)⟩
end Go.Proofs.YtooblmiffgjmjaaGreatDoor

/- The document's machine: what an instruction and a call come to, as contracts; Eval. -/
namespace Go.Proofs.YtooblmiffgjmjaaGreatDoor
open Go.ChangeShapes Go.WideShapes Go.RowKit Go.Deep
set_option linter.unusedVariables false

def IPost (K P R n : Nat) (m : List FunD) (most : Nat) (x : InsD) (g : St) (vf vo : Value) (w : World) (e : Ending) (w' : World) : Prop :=
  (∃ vo' j g', e = .returned (.bool true) ∧ g' = loopS m j (doS g x) ∧ g'.done = false ∧ g'.stack = g.stack ∧ g'.steps = g.steps + j ∧ g'.steps ≤ most ∧ g'.cur.fn = g.cur.fn ∧ g'.cur.blk = g.cur.blk ∧ g'.cur.at_ = g.cur.at_ ∧
    RfM K P m most w' g' vf vo' ∧ FrR K P R n w' vo' g'.cur.regs ∧ Mv (fun b => b = R) P w w' vo vo') ∨
  (∃ vo', e = .returned (.bool false) ∧ RfM K P m most w' (loopS m (most - g.steps) (doS g x)) vf vo' ∧ Mv (fun b => b = R) P w w' vo vo')
theorem IPost.plain {K P R n : Nat} {m : List FunD} {most : Nat} {x : InsD} {g g' : St} {vf vo vo' : Value} {w w' : World} (hE : doS g x = g') (hd : g'.done = false) (hst : g'.stack = g.stack) (hsp : g'.steps = g.steps) (hm : g.steps ≤ most)
    (c1 : g'.cur.fn = g.cur.fn) (c2 : g'.cur.blk = g.cur.blk) (c3 : g'.cur.at_ = g.cur.at_) (hR : RfM K P m most w' g' vf vo') (hF : FrR K P R n w' vo' g'.cur.regs) (hM : Mv (fun b => b = R) P w w' vo vo') : IPost K P R n m most x g vf vo w (.returned (.bool true)) w' :=
  .inl ⟨vo', 0, g', rfl, by rw [hE]; rfl, hd, hst, by rw [hsp]; rfl, by rw [hsp]; exact hm, c1, c2, c3, hR, hF, hM⟩
theorem IPost.trap {K P R n : Nat} {m : List FunD} {most : Nat} {x : InsD} {g : St} {vf vo vo' : Value} {w w' : World} {t : Int} (hE : doS g x = trapS g t) (hR : RfM K P m most w' (trapS g t) vf vo') (hM : Mv (fun b => b = R) P w w' vo vo') : IPost K P R n m most x g vf vo w (.returned (.bool false)) w' :=
  .inr ⟨vo', rfl, by rw [hE, loopS_done rfl]; exact hR, hM⟩
def CPost (K P : Nat) (m : List FunD) (most : Nat) (s : St) (vf vo : Value) (w : World) (e : Ending) (w' : World) : Prop :=
  (∃ vo' v j t, e = .returned (.tuple #[.int .i64 v, .bool true]) ∧ loopS m (j + 1) s = giveS m t v ∧ t.done = false ∧ t.stack = s.stack ∧ t.steps = s.steps + (j + 1) ∧ t.steps ≤ most ∧ I64 v ∧ RfM K P m most w' t vf vo' ∧ Mv NoX P w w' vo vo') ∨
  (∃ vo', e = .returned (.tuple #[.int .i64 0, .bool false]) ∧ RfM K P m most w' (loopS m (most - s.steps) s) vf vo' ∧ Mv NoX P w w' vo vo')
/-- What a call comes to, with so many steps left, at most. -/
def CallP (K P : Nat) (m : List FunD) (most L : Nat) : Prop :=
  ∀ (f : Nat) (F : FunD) (l : List Int) (vl : Value) (w : World) (s : St) (vf vo : Value), m[f]? = some F → (l.length : Int) = F.params → VS w 1 RInt vl l → RfM K P m most w s vf vo → s.cur = ⟨f, 0, 0, firstR l⟩ → s.done = false → s.steps ≤ most → most - s.steps ≤ L → s.out.length ≤ s.steps →
    Calls Tryz.prog 21 #[.pointer (some ⟨P, 0, none⟩), .int .i64 f, vl] w (CPost K P m most s vf vo w)

theorem own_cells {w : World} {K n : Nat} {e : TypeId} {v : Value} {xs : List Int} (h : w.ownsRow K e 1 v n (xs.map (Value.int .i64))) (hn : 0 < n) : ∃ g cap, v = .slice (some ⟨g, 0, none⟩) n cap ∧ (∀ (j : Nat) (x : Int), xs[j]? = some x → w.cell? ⟨g, j, none⟩ = some (.int .i64 x)) ∧ K ≤ g := by
  have h0 := h
  rcases h.2 with ⟨_, h2⟩ | ⟨g, cap, cur, rfl, hb, _⟩
  · omega
  · refine ⟨g, cap, rfl, fun j x hx => ?_, hb⟩
    have := h0.cells (g := g) rfl j (.int .i64 x) (by rw [List.getElem?_map, hx]; rfl)
    rwa [add_plain', Nat.zero_add] at this
theorem RfM.outp {K P : Nat} {m : List FunD} {most : Int} {w w1 : World} {s : St} {vf vo v' : Value} {out' : List Int} (h : RfM K P m most w s vf vo) (hg : Gro w w1 vo v') (hown : w1.ownsRow K 2 1 v' out'.length (out'.map (Value.int .i64))) :
    RfM K P m most (w1.setCell ⟨P, 5, none⟩ v') { s with out := out' } vf v' ∧ Mv NoX P w (w1.setCell ⟨P, 5, none⟩ v') vo v' := by
  have hPv : vo.ownBlock ≠ some P := fun e => by have := (h.out.lt P e).1; have := h.pk; omega
  have hs : ∀ b, b ≠ P → (w1.setCell ⟨P, 5, none⟩ v').heap[b]? = w1.heap[b]? := fun b hb => Below.heap_setCell _ _ _ _ hb
  have hkw := h.kw
  have hpk := h.pk
  obtain ⟨A, c, e, hf⟩ := h.funs
  refine ⟨⟨(set_of_block v' ((hg.block P h.lt hPv).trans h.box)).trans (by
      rw [refC_set (s' := { s with out := out' }) (vo' := v') (cellR_set (by omega) (set_mid (s := s) (s' := { s with out := out' }) (q := qo vo) (q' := qo v') (v := v') (i := 266) (by omega) (by omega) rfl rfl rfl (mid_cases (fun _ => rfl) (fun _ => rfl) (fun _ => rfl) (fun _ => rfl) (fun _ => rfl) (fun _ => rfl) (fun _ => rfl) (fun h => absurd rfl h) (fun _ => rfl))))]),
    ⟨A, c, e, SL.imp (RFunB.go (fun a v hB hv => (World.cell?_of_block ((hs a.block hB.2).trans (hg.block a.block (block_lt_of_cell hv) (fun e => by have := (h.out.lt _ e).1; have := hB.1; omega)))).trans hv) (fun _ h => h)) hf⟩,
    own_block hown (fun g hg2 => hs g (by have := (hown.lt g hg2).1; omega)), h.pk, by have := hg.size; simp; omega, h.m64⟩, ?_⟩
  exact ⟨hg.os, hg.tape, hg.output, by have := hg.size; simpa using this, fun k hk hP _ hv => (hs k hP).trans (hg.block k hk hv), fun g h1 => hg.own g h1⟩
theorem reval_some (op : Int) (l : List Int) (v : Int) (g cap : Nat) (w : World) (hop : 2 ≤ op ∧ op ≤ 14) (hl : (l.length : Int) = opArity op) (h64 : ∀ x ∈ l, I64 x) (hc : ∀ (j : Nat) (x : Int), l[j]? = some x → w.cell? ⟨g, j, none⟩ = some (.int .i64 x)) (he : evalV op l = some v) :
    Calls Tryz.prog 55 #[.int .i64 op, .slice (some ⟨g, 0, none⟩) l.length cap] w fun e w' => e = .returned (.tuple #[.int .i64 v, .bool true]) ∧ Drawn w w' := by
  unfold evalV at he
  by_cases h1 : op = 2 ∨ op = 14
  · rw [if_pos h1] at he
    obtain rfl := Option.some.inj he
    have : l.length = 1 := by unfold opArity at hl; rw [if_pos h1] at hl; omega
    obtain ⟨a, rfl⟩ := len_one this
    rcases h1 with rfl | rfl
    · exact (Rf1.refEval_copy a g 0 cap w (hc 0 a rfl)).mono fun e w' h => ⟨h.1, 0, h.2.symm⟩
    · exact (Rf1.refEval_not a g 0 cap w (hc 0 a rfl)).mono fun e w' h => ⟨h.1, 0, h.2.symm⟩
  · rw [if_neg h1] at he
    have : l.length = 2 := by unfold opArity at hl; rw [if_neg h1, if_pos (by omega)] at hl; omega
    obtain ⟨a, b, rfl⟩ := len_two this
    by_cases h2 : op = 11 ∧ ([a, b] : List Int).getD 1 0 = 0
    · rw [if_pos h2] at he; cases he
    · rw [if_neg h2] at he
      obtain rfl := Option.some.inj he
      refine Rf1.refEval_two op a b g 0 cap w (by omega) (by omega) (fun h => ?_) (Lib.hid (h64 a (by simp))) (Lib.hid (h64 b (by simp))) (hc 0 a rfl) (hc 1 b rfl)
      rw [beq_eq_false_iff_ne]
      exact fun hb => h2 ⟨h, hb⟩
theorem reval_none (op : Int) (l : List Int) (g cap : Nat) (w : World) (hop : 2 ≤ op ∧ op ≤ 14) (hl : (l.length : Int) = opArity op) (hc : ∀ (j : Nat) (x : Int), l[j]? = some x → w.cell? ⟨g, j, none⟩ = some (.int .i64 x)) (he : evalV op l = none) :
    Calls Tryz.prog 55 #[.int .i64 op, .slice (some ⟨g, 0, none⟩) l.length cap] w fun e w' => e = .returned (.tuple #[.int .i64 0, .bool false]) ∧ Drawn w w' := by
  unfold evalV at he
  by_cases h1 : op = 2 ∨ op = 14
  · rw [if_pos h1] at he; cases he
  · rw [if_neg h1] at he
    have : l.length = 2 := by unfold opArity at hl; rw [if_neg h1, if_pos (by omega)] at hl; omega
    obtain ⟨a, b, rfl⟩ := len_two this
    by_cases h2 : op = 11 ∧ ([a, b] : List Int).getD 1 0 = 0
    · obtain ⟨rfl, hb⟩ := h2
      obtain rfl : b = 0 := hb
      exact Rf1.refEval_div0 a g 0 cap w (hc 0 a rfl) (hc 1 0 rfl)
    · rw [if_neg h2] at he; cases he
end Go.Proofs.YtooblmiffgjmjaaGreatDoor

/- The document's machine: an instruction: constants, what is reckoned. (Written by gen/genrni.py.) -/
namespace Go.Proofs.YtooblmiffgjmjaaGreatDoor
open Go.ChangeShapes Go.WideShapes Go.RowKit Go.Deep
set_option linter.unusedVariables false

set_option maxRecDepth 100000 in
set_option maxHeartbeats 8000000 in
theorem ins_const (K P R n most : Nat) (m : List FunD) (w : World) (g : St) (vf vo : Value) (x : InsD) (Ax : Option Addr) (cx : Nat) (h : RfM K P m most w g vf vo) (hr : FrR K P R n w vo g.cur.regs) (hdn : g.done = false) (hsm : g.steps ≤ most) (hargs : SL w 1 (RIntB (Old K P)) Ax cx x.args)
    (hlen : x.args.length ≤ 1000) (hin : ∀ a ∈ x.args, InR n a) (hn : n ≤ 256) (hi64 : I64 x.imm) (hop : x.op = 1) (hdst : InR n x.dst) :
    Calls Tryz.prog 37 #[.pointer (some ⟨P, 0, none⟩), .slice (some ⟨R, 0, none⟩) n n, .agg #[.int .i64 x.op, .int .i64 x.dst, .slice Ax x.args.length cx, .int .i64 x.imm, .int .i64 x.fn]] w (IPost K P R n m most x g vf vo w) := by
  obtain ⟨i0, p1, p2, p3, p4⟩ := info_parts Tryz.info2
  have HI := Lib.hid (And.intro p1 (And.intro p2 (And.intro p3 p4)))
  clear p1 p2 p3 p4
  have e1 : (x.op == 1) = true := by simp; omega
  have e18 : (x.op == 18) = false := by simp; omega
  have e15 : (x.op == 15) = false := by simp; omega
  have e16 : (x.op == 16) = false := by simp; omega
  have e17 : (x.op == 17) = false := by simp; omega
  obtain ⟨d, hd⟩ : ∃ d : Nat, x.dst = d := ⟨x.dst.toNat, by have := hdst.1; omega⟩
  have hdn1 : d < n := by have := hdst.2; omega
  have HD := Lib.hid hd
  have HE : Hid (doS g x = setR g d x.imm) := Lib.hid (by unfold doS; rw [if_pos hop, hd])
  clear hop hd
  go_enter Tryz.func37, Tryz.ntmps37
  go_upto_region 1 with fail
  obtain ⟨w1, hw1, hs1, hk1, hbel1, hc1, -⟩ := named w #[.int .i64 x.op, .int .i64 x.dst, .slice Ax x.args.length cx, .int .i64 x.imm, .int .i64 x.fn] 54
  rw [← hw1]
  obtain ⟨N, hN⟩ : ∃ N, N = w.heap.size := ⟨_, rfl⟩
  rw [← hN] at hc1 hs1 ⊢
  have b0 : w1.cell? ⟨N, 0, none⟩ = some (.int .i64 x.op) := hc1 0 _ rfl
  have b1 : w1.cell? ⟨N, 1, none⟩ = some (.int .i64 x.dst) := hc1 1 _ rfl
  have b2 : w1.cell? ⟨N, 2, none⟩ = some (.slice Ax x.args.length cx) := hc1 2 _ rfl
  have b3 : w1.cell? ⟨N, 3, none⟩ = some (.int .i64 x.imm) := hc1 3 _ rfl
  have b4 : w1.cell? ⟨N, 4, none⟩ = some (.int .i64 x.fn) := hc1 4 _ rfl
  have HC := Lib.hid (And.intro b0 (And.intro b1 (And.intro b2 (And.intro b3 b4))))
  have HM1 := Lib.hid (h.below hbel1)
  have HR1 := Lib.hid (hr.go (Mv.of_below NoX P vo hbel1) h.pk (fun e => e))
  have HA1 : Hid (SL w1 1 (RIntB (Old K P)) Ax cx x.args) := Lib.hid (SL.imp (RIntB.go (fun a v _ ha => hk1 _ _ ha) (fun _ h => h)) hargs)
  have HV1 : Hid (Mv (fun b => b = R) P w w1 vo vo) := Lib.hid (Mv.of_below _ P vo hbel1)
  have HIN := Lib.hid hin
  clear hw1 hs1 hk1 hbel1 hc1 h hr hargs hin hN b0 b1 b2 b3 b4
  go_wp2_with fail
  go_loopw [7, 8] (fun s7 s8 wq => ∃ (k : Nat) (v : Value), k ≤ x.args.length ∧ v = s7 ∧ s8 = .int .i64 (k : Int) ∧ wq.ownsRow w1.heap.size 2 1 v (argsV g.cur.regs (x.args.take k)).length ((argsV g.cur.regs (x.args.take k)).map (Value.int .i64)) ∧ Below w1.heap.size w1 wq) (fun s7 s8 _ => x.args.length - (intOf s8).toNat)
  case atStart => exact ⟨0, _, Nat.zero_le _, rfl, rfl, World.ownsRow_nil _ _ _ _, Below.refl _ _⟩
  case round =>
    obtain ⟨k, v, hk, rfl, rfl, ho, hb⟩ := hrel
    have HO := Lib.hid ho
    have HB := Lib.hid hb
    have d2 := kept_of_below hb _ _ HC.out.2.2.1
    by_cases hkl : k < x.args.length
    · obtain ⟨bx, ox, a, rfl, ha, -, hac, -⟩ := HA1.out.at_ hkl
      obtain ⟨q, rfl⟩ : ∃ q : Nat, a = q := ⟨a.toNat, by have := (HIN.out a (List.mem_of_getElem? ha.out)).1; omega⟩
      have hqn : q < n := by have := (HIN.out _ (List.mem_of_getElem? ha.out)).2; omega
      have xa : wr.cell? ⟨bx, ox + k, none⟩ = some (.int .i64 (q : Int)) := by rw [Nat.mul_one] at hac; exact kept_of_below hb _ _ hac
      have xr := kept_of_below hb _ _ (HR1.out.row.cell hqn)
      have hk0 : (0 : Int) ≤ k := by omega
      have hk1 : (k : Int) < x.args.length := by omega
      have hq0 : (0 : Int) ≤ q := by omega
      have hq1 : (q : Int) < n := by omega
      have HTK : Hid (argsV g.cur.regs (x.args.take (k + 1)) = argsV g.cur.regs (x.args.take k) ++ [g.cur.regs q]) := Lib.hid (by
        rw [List.take_add_one, ha.out]; unfold argsV; rw [List.map_append]; simp)
      have hll : (argsV g.cur.regs (x.args.take k)).length ≤ 1000 := by rw [argsV_len, List.length_take]; omega
      have hz := hb.size
      clear ho hb hac ha
      go_wp2_with (at_builtin; refine wpList_append_lies _ rfl (.tmp 20) (.tmp 29) 25 rfl w1.heap.size 2 i0 (.int .i64 0) 1 8 Tryz.underlying25 HI.out.1 HI.out.2.1 HI.out.2.2.1 HI.out.2.2.2 rfl (by decide) v _ _ rfl (HO.out.alloc _) ⟨wr.heap.size, 0, none⟩ 1 1 [.int .i64 (g.cur.regs q)] rfl rfl ?e1 ?e2 ?e0 ?e3 ?e4 ?e5 (wr.heap.size + 1) ?e6 ?_)
      case e1 => exact news_one_add wr _ _ rfl
      case e2 => exact ints_oneCell .i64 [(g.cur.regs q)]
      case e0 => omega
      case e3 => unfold maxLen; omega
      case e4 => omega
      case e5 => simp; omega
      case e6 => simp
      intro g7 cap w7 hown7 hgrow7 hloc7 hlt7
      have HB7 : Hid (Below w1.heap.size w1 w7) := Lib.hid (by
        have h1 := Below.grown (HB.out.alloc HB.out.size (.cells #[.int .i64 (g.cur.regs q)] 2)) hgrow7 (by simp; omega) (fun y hy => (HO.out.lt y hy).1)
        exact h1)
      have HO7 : Hid (w7.ownsRow w1.heap.size 2 1 (.slice (some ⟨g7, 0, none⟩) ((argsV g.cur.regs (x.args.take k)).length + 1) cap) (argsV g.cur.regs (x.args.take (k + 1))).length ((argsV g.cur.regs (x.args.take (k + 1))).map (Value.int .i64))) := Lib.hid (by rw [HTK.out, List.length_append, List.map_append]; exact hown7)
      clear hown7 hgrow7 hloc7 hlt7
      go_wp2_with fail
      go_roundw
      case rel => exact ⟨k + 1, _, by omega, rfl, by go_num, HO7.out, HB7.out⟩
      case measure => simp [intOf]; omega
    · obtain rfl : k = x.args.length := by omega
      rw [List.take_of_length_le (Nat.le_refl _)] at ho
      have HOL := Lib.hid ho
      have d0 := kept_of_below hb _ _ HC.out.1
      have d1 := kept_of_below hb _ _ HC.out.2.1
      have d3 := kept_of_below hb _ _ HC.out.2.2.2.1
      have d4 := kept_of_below hb _ _ HC.out.2.2.2.2
      have HM2 := Lib.hid (HM1.out.below hb)
      have HV2 : Hid (Mv (fun b => b = R) P w wr vo vo) := Lib.hid (HV1.out.trans (Mv.of_below _ P vo hb))
      have HR2 := Lib.hid (HR1.out.go (Mv.of_below NoX P vo hb) HM1.out.pk (fun e => e))
      have HLE : Hid (K ≤ w1.heap.size) := Lib.hid HM1.out.kw
      obtain ⟨w2, rfl⟩ : ∃ w2, w2 = wr := ⟨wr, rfl⟩
      clear ho hb HO HB HM1 HV1 HR1 HA1 HC
      have xd := HR2.out.row.cell hdn1
      have fd := HR2.out.row.frozen d
      have hd0 : (0 : Int) ≤ d := by omega
      have hd1 : (d : Int) < n := by omega
      rw [HD.out] at d1
      go_wp2_with fail
      go_ret
      have hv := Mv.set (fun b => b = R) P vo w2 (p := ⟨R, d, none⟩) (.inr rfl) (.int .i64 x.imm)
      exact IPost.plain HE.out hdn rfl rfl hsm rfl rfl rfl ((HM2.out.off HR2.out.ge HR2.out.ap d _).ghost ⟨rfl, rfl, rfl, rfl, rfl, rfl⟩) (HR2.out.set d hi64) (HV2.out.trans hv)

set_option maxRecDepth 100000 in
set_option maxHeartbeats 8000000 in
theorem ins_rest (K P R n most : Nat) (m : List FunD) (w : World) (g : St) (vf vo : Value) (x : InsD) (Ax : Option Addr) (cx : Nat) (h : RfM K P m most w g vf vo) (hr : FrR K P R n w vo g.cur.regs) (hdn : g.done = false) (hsm : g.steps ≤ most) (hargs : SL w 1 (RIntB (Old K P)) Ax cx x.args)
    (hlen : x.args.length ≤ 1000) (hin : ∀ a ∈ x.args, InR n a) (hn : n ≤ 256) (hi64 : I64 x.imm) (hop : 2 ≤ x.op ∧ x.op ≤ 14) (hl : (x.args.length : Int) = opArity x.op) (hdst : InR n x.dst) :
    Calls Tryz.prog 37 #[.pointer (some ⟨P, 0, none⟩), .slice (some ⟨R, 0, none⟩) n n, .agg #[.int .i64 x.op, .int .i64 x.dst, .slice Ax x.args.length cx, .int .i64 x.imm, .int .i64 x.fn]] w (IPost K P R n m most x g vf vo w) := by
  obtain ⟨i0, p1, p2, p3, p4⟩ := info_parts Tryz.info2
  have HI := Lib.hid (And.intro p1 (And.intro p2 (And.intro p3 p4)))
  clear p1 p2 p3 p4
  have e1 : (x.op == 1) = false := by simp; omega
  have e18 : (x.op == 18) = false := by simp; omega
  have e15 : (x.op == 15) = false := by simp; omega
  have e16 : (x.op == 16) = false := by simp; omega
  have e17 : (x.op == 17) = false := by simp; omega
  obtain ⟨d, hd⟩ : ∃ d : Nat, x.dst = d := ⟨x.dst.toNat, by have := hdst.1; omega⟩
  have hdn1 : d < n := by have := hdst.2; omega
  have HD := Lib.hid hd
  have hpos : 0 < (argsV g.cur.regs x.args).length := by
    rw [argsV_len]
    have : 0 < opArity x.op := by unfold opArity; split; decide; rw [if_pos (by omega)]; decide
    omega
  have hl2 : ((argsV g.cur.regs x.args).length : Int) = opArity x.op := by rw [argsV_len]; exact hl
  have HAA := Lib.hid (argsV_i64 hr.r64 x.args)
  have HE : Hid (doS g x = match evalV x.op (argsV g.cur.regs x.args) with | some v => setR g d v | none => trapS g 1) := Lib.hid (by
    unfold doS; rw [if_neg (by omega), if_neg (by omega), if_neg (by omega), if_neg (by omega), if_neg (by omega), hd]; cases evalV x.op (argsV g.cur.regs x.args) <;> rfl)
  have HOP := Lib.hid hop
  clear hop hd hl
  go_enter Tryz.func37, Tryz.ntmps37
  go_upto_region 1 with fail
  obtain ⟨w1, hw1, hs1, hk1, hbel1, hc1, -⟩ := named w #[.int .i64 x.op, .int .i64 x.dst, .slice Ax x.args.length cx, .int .i64 x.imm, .int .i64 x.fn] 54
  rw [← hw1]
  obtain ⟨N, hN⟩ : ∃ N, N = w.heap.size := ⟨_, rfl⟩
  rw [← hN] at hc1 hs1 ⊢
  have b0 : w1.cell? ⟨N, 0, none⟩ = some (.int .i64 x.op) := hc1 0 _ rfl
  have b1 : w1.cell? ⟨N, 1, none⟩ = some (.int .i64 x.dst) := hc1 1 _ rfl
  have b2 : w1.cell? ⟨N, 2, none⟩ = some (.slice Ax x.args.length cx) := hc1 2 _ rfl
  have b3 : w1.cell? ⟨N, 3, none⟩ = some (.int .i64 x.imm) := hc1 3 _ rfl
  have b4 : w1.cell? ⟨N, 4, none⟩ = some (.int .i64 x.fn) := hc1 4 _ rfl
  have HC := Lib.hid (And.intro b0 (And.intro b1 (And.intro b2 (And.intro b3 b4))))
  have HM1 := Lib.hid (h.below hbel1)
  have HR1 := Lib.hid (hr.go (Mv.of_below NoX P vo hbel1) h.pk (fun e => e))
  have HA1 : Hid (SL w1 1 (RIntB (Old K P)) Ax cx x.args) := Lib.hid (SL.imp (RIntB.go (fun a v _ ha => hk1 _ _ ha) (fun _ h => h)) hargs)
  have HV1 : Hid (Mv (fun b => b = R) P w w1 vo vo) := Lib.hid (Mv.of_below _ P vo hbel1)
  have HIN := Lib.hid hin
  clear hw1 hs1 hk1 hbel1 hc1 h hr hargs hin hN b0 b1 b2 b3 b4
  go_wp2_with fail
  go_loopw [7, 8] (fun s7 s8 wq => ∃ (k : Nat) (v : Value), k ≤ x.args.length ∧ v = s7 ∧ s8 = .int .i64 (k : Int) ∧ wq.ownsRow w1.heap.size 2 1 v (argsV g.cur.regs (x.args.take k)).length ((argsV g.cur.regs (x.args.take k)).map (Value.int .i64)) ∧ Below w1.heap.size w1 wq) (fun s7 s8 _ => x.args.length - (intOf s8).toNat)
  case atStart => exact ⟨0, _, Nat.zero_le _, rfl, rfl, World.ownsRow_nil _ _ _ _, Below.refl _ _⟩
  case round =>
    obtain ⟨k, v, hk, rfl, rfl, ho, hb⟩ := hrel
    have HO := Lib.hid ho
    have HB := Lib.hid hb
    have d2 := kept_of_below hb _ _ HC.out.2.2.1
    by_cases hkl : k < x.args.length
    · obtain ⟨bx, ox, a, rfl, ha, -, hac, -⟩ := HA1.out.at_ hkl
      obtain ⟨q, rfl⟩ : ∃ q : Nat, a = q := ⟨a.toNat, by have := (HIN.out a (List.mem_of_getElem? ha.out)).1; omega⟩
      have hqn : q < n := by have := (HIN.out _ (List.mem_of_getElem? ha.out)).2; omega
      have xa : wr.cell? ⟨bx, ox + k, none⟩ = some (.int .i64 (q : Int)) := by rw [Nat.mul_one] at hac; exact kept_of_below hb _ _ hac
      have xr := kept_of_below hb _ _ (HR1.out.row.cell hqn)
      have hk0 : (0 : Int) ≤ k := by omega
      have hk1 : (k : Int) < x.args.length := by omega
      have hq0 : (0 : Int) ≤ q := by omega
      have hq1 : (q : Int) < n := by omega
      have HTK : Hid (argsV g.cur.regs (x.args.take (k + 1)) = argsV g.cur.regs (x.args.take k) ++ [g.cur.regs q]) := Lib.hid (by
        rw [List.take_add_one, ha.out]; unfold argsV; rw [List.map_append]; simp)
      have hll : (argsV g.cur.regs (x.args.take k)).length ≤ 1000 := by rw [argsV_len, List.length_take]; omega
      have hz := hb.size
      clear ho hb hac ha
      go_wp2_with (at_builtin; refine wpList_append_lies _ rfl (.tmp 20) (.tmp 29) 25 rfl w1.heap.size 2 i0 (.int .i64 0) 1 8 Tryz.underlying25 HI.out.1 HI.out.2.1 HI.out.2.2.1 HI.out.2.2.2 rfl (by decide) v _ _ rfl (HO.out.alloc _) ⟨wr.heap.size, 0, none⟩ 1 1 [.int .i64 (g.cur.regs q)] rfl rfl ?e1 ?e2 ?e0 ?e3 ?e4 ?e5 (wr.heap.size + 1) ?e6 ?_)
      case e1 => exact news_one_add wr _ _ rfl
      case e2 => exact ints_oneCell .i64 [(g.cur.regs q)]
      case e0 => omega
      case e3 => unfold maxLen; omega
      case e4 => omega
      case e5 => simp; omega
      case e6 => simp
      intro g7 cap w7 hown7 hgrow7 hloc7 hlt7
      have HB7 : Hid (Below w1.heap.size w1 w7) := Lib.hid (by
        have h1 := Below.grown (HB.out.alloc HB.out.size (.cells #[.int .i64 (g.cur.regs q)] 2)) hgrow7 (by simp; omega) (fun y hy => (HO.out.lt y hy).1)
        exact h1)
      have HO7 : Hid (w7.ownsRow w1.heap.size 2 1 (.slice (some ⟨g7, 0, none⟩) ((argsV g.cur.regs (x.args.take k)).length + 1) cap) (argsV g.cur.regs (x.args.take (k + 1))).length ((argsV g.cur.regs (x.args.take (k + 1))).map (Value.int .i64))) := Lib.hid (by rw [HTK.out, List.length_append, List.map_append]; exact hown7)
      clear hown7 hgrow7 hloc7 hlt7
      go_wp2_with fail
      go_roundw
      case rel => exact ⟨k + 1, _, by omega, rfl, by go_num, HO7.out, HB7.out⟩
      case measure => simp [intOf]; omega
    · obtain rfl : k = x.args.length := by omega
      rw [List.take_of_length_le (Nat.le_refl _)] at ho
      have HOL := Lib.hid ho
      have d0 := kept_of_below hb _ _ HC.out.1
      have d1 := kept_of_below hb _ _ HC.out.2.1
      have d3 := kept_of_below hb _ _ HC.out.2.2.2.1
      have d4 := kept_of_below hb _ _ HC.out.2.2.2.2
      have HM2 := Lib.hid (HM1.out.below hb)
      have HV2 : Hid (Mv (fun b => b = R) P w wr vo vo) := Lib.hid (HV1.out.trans (Mv.of_below _ P vo hb))
      have HR2 := Lib.hid (HR1.out.go (Mv.of_below NoX P vo hb) HM1.out.pk (fun e => e))
      have HLE : Hid (K ≤ w1.heap.size) := Lib.hid HM1.out.kw
      obtain ⟨w2, rfl⟩ : ∃ w2, w2 = wr := ⟨wr, rfl⟩
      clear ho hb HO HB HM1 HV1 HR1 HA1 HC
      obtain ⟨ga, ca, rfl, hac, hag⟩ := own_cells HOL.out hpos
      have HAC := Lib.hid hac
      have HL2 := Lib.hid hl2
      clear hac hl2
      cases hev : evalV x.op (argsV g.cur.regs x.args) with
      | some u =>
        have HE2 : Hid (doS g x = setR g d u) := Lib.hid (by rw [HE.out, hev])
        have HU : Hid (I64 u) := Lib.hid (evalV_i64 HAA.out hev)
        have HEV := Lib.hid hev
        clear hev
        have xd := HR2.out.row.cell hdn1
        have fd := HR2.out.row.frozen d
        have hd0 : (0 : Int) ≤ d := by omega
        have hd1 : (d : Int) < n := by omega
        rw [HD.out] at d1
        go_wp2_with fail
        refine (reval_some x.op _ u ga ca w2 HOP.out HL2.out HAA.out HAC.out HEV.out).mono ?_
        rintro e w3 ⟨rfl, nd, rfl⟩
        go_wp2_with fail
        go_ret
        have hb3 : Below w2.heap.size w2 (w2.drewN nd) := below_drewN (Below.refl _ _) nd
        have hM3 : RfM K P m most (w2.drewN nd) g vf vo := HM2.out.below hb3
        have hR3 : FrR K P R n (w2.drewN nd) vo g.cur.regs := HR2.out.go (Mv.of_below NoX P vo hb3) HM2.out.pk (fun e => e)
        have hv := (Mv.of_below (fun b => b = R) P vo hb3).trans (Mv.set (fun b => b = R) P vo (w2.drewN nd) (p := ⟨R, d, none⟩) (.inr rfl) (.int .i64 u))
        exact IPost.plain HE2.out hdn rfl rfl hsm rfl rfl rfl ((hM3.off hR3.ge hR3.ap d _).ghost ⟨rfl, rfl, rfl, rfl, rfl, rfl⟩) (hR3.set d HU.out) (HV2.out.trans hv)
      | none =>
        have HE2 : Hid (doS g x = trapS g 1) := Lib.hid (by rw [HE.out, hev])
        have HEV := Lib.hid hev
        clear hev
        go_wp2_with fail
        refine (reval_none x.op _ ga ca w2 HOP.out HL2.out HAC.out HEV.out).mono ?_
        rintro e w3 ⟨rfl, nd, rfl⟩
        go_wp2_with fail
        have hb3 : Below w2.heap.size w2 (w2.drewN nd) := below_drewN (Below.refl _ _) nd
        refine (rtrap_any K P m most (w2.drewN nd) g vf vo 1 (HM2.out.below hb3)).mono ?_
        rintro e w4 ⟨rfl, g1, g2⟩
        go_wp2_with fail
        go_ret
        exact IPost.trap HE2.out g1 (HV2.out.trans ((Mv.of_below (fun b => b = R) P vo hb3).trans (g2.mono fun _ _ h => h.elim)))
end Go.Proofs.YtooblmiffgjmjaaGreatDoor
