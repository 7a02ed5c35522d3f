/- Rows that a call owns, apart from one another. No condition. -/
import Derived.Test.YtooblmiffgjmjaaDmB
import Derived.Laws.OwnMore
namespace Go.Proofs.Ytooblmiffgjmjaa
open Go.ChangeShapes Go.WideShapes Go.RowKit Go.Deep
set_option linter.unusedVariables false

/-- Of all that was there only the block of v may have changed; the value v' lies in that of v, or is new. -/
structure GroD (w w' : World) (v v' : Value) : Prop where
  os : w'.os = w.os
  tape : w'.tape = w.tape
  output : w'.output = w.output
  size : w.heap.size ≤ w'.heap.size
  block : ∀ k, k < w.heap.size → v.ownBlock ≠ some k → w'.heap[k]? = w.heap[k]?
  own : ∀ g, v'.ownBlock = some g → v.ownBlock = some g ∨ w.heap.size ≤ g
/-- One append of one element, which first lies in a block of its own. -/
theorem groD_append {w w1 : World} {o : Obj} {v : Value} {g n cap : Nat} (hg : (w.alloc o).grownBy w1 v.ownBlock) (hl : v.ownBlock = some g ∨ g = w.heap.size + 1) : GroD w w1 v (.slice (some ⟨g, 0, none⟩) n cap) :=
  ⟨hg.os, hg.tape, hg.output, Nat.le_trans (by simp) hg.size, fun k hk hv => (hg.block k (by simp; omega) (fun e => hv e.symm)).trans (Below.heap_alloc _ _ _ hk),
   fun x hx => by
    obtain rfl : g = x := Option.some.inj hx
    rcases hl with h | h
    · exact .inl h
    · exact .inr (by omega)⟩
theorem groD_drew {w w1 : World} {v v' : Value} (h : GroD w.drew w1 v v') : GroD w w1 v v' := ⟨h.os, h.tape, h.output, h.size, h.block, h.own⟩
/-- A store into an element of the row itself. -/
theorem groD_store (w : World) {g n cap j : Nat} (u : Value) : GroD w (w.setCell ⟨g, j, none⟩ u) (.slice (some ⟨g, 0, none⟩) n cap) (.slice (some ⟨g, 0, none⟩) n cap) :=
  ⟨rfl, rfl, rfl, by simp, fun k hk hv => Below.heap_setCell _ _ _ _ (fun e => hv (by show some g = some k; exact congrArg some e.symm)), fun x hx => .inl hx⟩
theorem GroD.fr {w w' : World} {v v' : Value} (h : GroD w w' v v') {X : Nat → Prop} {a : World} (ha : FrX X a w) (hv : ∀ g, v.ownBlock = some g → X g ∨ a.heap.size ≤ g) : FrX X a w' :=
  ⟨h.os.trans ha.os, h.tape.trans ha.tape, h.output.trans ha.output, Nat.le_trans ha.size h.size, fun k hk hx => (h.block k (Nat.lt_of_lt_of_le hk ha.size) (fun e => by
    rcases hv k e with h2 | h2
    · exact hx h2
    · omega)).trans (ha.block k hk hx)⟩

structure RowD where
  ty : TypeId
  size : Nat
  len : Nat
  xs : List Value
def OwnD (w : World) (K : Nat) (v : Value) (t : RowD) : Prop := w.ownsRow K t.ty t.size v t.len t.xs
/-- So many rows, apart from one another. -/
structure PoolD (w : World) (K m : Nat) (U : Nat → Value) (T : Nat → RowD) : Prop where
  own : ∀ i, i < m → OwnD w K (U i) (T i)
  ap : ∀ i j, i < m → j < m → i ≠ j → (U i).ownBlock = none ∨ (U i).ownBlock ≠ (U j).ownBlock
theorem PoolD.congr {w : World} {K m : Nat} {U U' : Nat → Value} {T T' : Nat → RowD} (h : PoolD w K m U T) (hu : ∀ i, i < m → U i = U' i) (ht : ∀ i, i < m → T i = T' i) : PoolD w K m U' T' :=
  ⟨fun i hi => by rw [← hu i hi, ← ht i hi]; exact h.own i hi, fun i j hi hj hij => by rw [← hu i hi, ← hu j hj]; exact h.ap i j hi hj hij⟩
theorem PoolD.go {w w' : World} {K m : Nat} {U : Nat → Value} {T : Nat → RowD} (h : PoolD w K m U T) (hb : ∀ k, K ≤ k → k < w.heap.size → w'.heap[k]? = w.heap[k]?) : PoolD w' K m U T :=
  ⟨fun i hi => ownsRow_block (h.own i hi) fun g hg => hb g ((h.own i hi).lt g hg).1 ((h.own i hi).lt g hg).2, h.ap⟩
theorem PoolD.gro {w w' : World} {K m t : Nat} {U : Nat → Value} {T : Nat → RowD} {v' : Value} {r : RowD} (h : PoolD w K m U T) (ht : t < m) (hg : GroD w w' (U t) v') (ho : OwnD w' K v' r) : PoolD w' K m (updF U t v') (updF T t r) := by
  have key : ∀ i, i < m → i ≠ t → (U i).ownBlock = none ∨ (U i).ownBlock ≠ v'.ownBlock := fun i hi hit => by
    cases hb : (U i).ownBlock with
    | none => exact .inl rfl
    | some b =>
      right
      intro e
      rcases hg.own b e.symm with h1 | h1
      · rcases h.ap i t hi ht hit with h2 | h2
        · rw [h2] at hb; cases hb
        · exact h2 (hb.trans h1.symm)
      · have := ((h.own i hi).lt b hb).2; omega
  refine ⟨fun i hi => ?_, fun i j hi hj hij => ?_⟩
  · by_cases e : i = t
    · subst e; rw [updF_here, updF_here]; exact ho
    · rw [updF_else _ _ e, updF_else _ _ e]
      refine ownsRow_block (h.own i hi) fun g hgi => hg.block g ((h.own i hi).lt g hgi).2 fun e2 => ?_
      rcases h.ap i t hi ht e with h2 | h2
      · rw [h2] at hgi; cases hgi
      · exact h2 (hgi.trans e2.symm)
  · by_cases ei : i = t
    · subst ei
      rw [updF_here, updF_else _ _ (Ne.symm hij)]
      rcases key j hj (Ne.symm hij) with h1 | h1
      · cases hv : v'.ownBlock with
        | none => exact .inl rfl
        | some b => right; rw [h1]; intro e; cases e
      · exact .inr (Ne.symm h1)
    · rw [updF_else _ _ ei]
      by_cases ej : j = t
      · subst ej; rw [updF_here]; exact key i hi ei
      · rw [updF_else _ _ ej]; exact h.ap i j hi hj hij
/-- One row more, with nothing in it. -/
theorem PoolD.more {w : World} {K m : Nat} {U : Nat → Value} {T : Nat → RowD} (h : PoolD w K m U T) (ty : TypeId) (size : Nat) : PoolD w K (m + 1) (updF U m (.slice none 0 0)) (updF T m ⟨ty, size, 0, []⟩) := by
  refine ⟨fun i hi => ?_, fun i j hi hj hij => ?_⟩
  · by_cases e : i = m
    · subst e; rw [updF_here, updF_here]; exact World.ownsRow_nil _ _ _ _
    · rw [updF_else _ _ e, updF_else _ _ e]; exact h.own i (by omega)
  · by_cases ei : i = m
    · subst ei; rw [updF_here]; exact .inl rfl
    · rw [updF_else _ _ ei]
      by_cases ej : j = m
      · subst ej; rw [updF_here]
        cases hb : (U i).ownBlock with
        | none => exact .inl rfl
        | some b => right; intro e; cases e
      · rw [updF_else _ _ ej]; exact h.ap i j (by omega) (by omega) hij
/-- An element of a row. -/
theorem own_cellD {w : World} {K n : Nat} {e : TypeId} {v : Value} {xs : List Value} (h : w.ownsRow K e 1 v n xs) {i : Nat} (hi : i < n) : ∃ g cap u, v = .slice (some ⟨g, 0, none⟩) n cap ∧ xs[i]? = some u ∧ w.cell? ⟨g, i, none⟩ = some u ∧ w.frozen? ⟨g, i, none⟩ = false ∧ K ≤ g ∧ g < w.heap.size := by
  obtain ⟨g, cap, rfl⟩ : ∃ g cap, v = .slice (some ⟨g, 0, none⟩) n cap := by
    rcases h.2 with ⟨_, h2⟩ | ⟨g, cap, cur, h2, _⟩
    · omega
    · exact ⟨g, cap, h2⟩
  have hl := h.1
  have hx : i < xs.length := by omega
  refine ⟨g, cap, xs[i], rfl, List.getElem?_eq_getElem hx, ?_, h.frozenAt i, (h.lt g rfl).1, (h.lt g rfl).2⟩
  rw [h.cellAt i (by omega)]; exact List.getElem?_eq_getElem hx
theorem map_range_snoc {α : Type} (f : Nat → α) (k : Nat) (x : α) : ((List.range k).map f ++ [x]) = (List.range (k + 1)).map (updF f k x) := by
  rw [List.range_succ, List.map_append, List.map_singleton, updF_here]
  congr 1
  exact List.map_congr_left fun v hv => (updF_else _ _ (by have := List.mem_range.1 hv; omega)).symm
theorem map_range_set {α : Type} (f : Nat → α) (k j : Nat) (x : α) : ((List.range k).map f).set j x = (List.range k).map (updF f j x) := by
  apply List.ext_getElem?
  intro i
  by_cases hik : i < k
  · by_cases e : i = j
    · subst e; simp [hik, updF]
    · simp [hik, updF, e, Ne.symm e]
  · simp [hik]
theorem map_range_at {α : Type} (f : Nat → α) {k i : Nat} {x : α} (h : ((List.range k).map f)[i]? = some x) : x = f i ∧ i < k := by
  rw [List.getElem?_map] at h
  obtain ⟨q, hq, rfl⟩ := Option.map_eq_some_iff.1 h
  obtain ⟨hl, rfl⟩ := List.getElem?_eq_some_iff.1 hq
  simp at hl ⊢; exact hl
end Go.Proofs.Ytooblmiffgjmjaa
