/- Rows that a call owns, apart from one another. No condition. -/
import Derived.Test.YtflbooopgjgkbaaRowGJ
import Derived.Laws.OwnMore
import Derived.Test.YtflbooopgjgkbaaDmKJ
import Derived.Test.YtflbooopgjgkbaaGrEJ
import Derived.WalkSpells
namespace Go.Proofs.Ytflbooopgjgkbaa
open Go.ChangeShapes Go.WideShapes Go.RowKit Go.Deep
set_option linter.unusedVariables false

/-- Of all that was there only the block of v may have changed; the value v' lies in that of v, or is new. -/
structure GroD (w w' : World) (v v' : Value) : Prop where
  os : w'.os = w.os
  tape : w'.tape = w.tape
  output : w'.output = w.output
  size : w.heap.size ≤ w'.heap.size
  block : ∀ k, k < w.heap.size → v.ownBlock ≠ some k → w'.heap[k]? = w.heap[k]?
  own : ∀ g, v'.ownBlock = some g → v.ownBlock = some g ∨ w.heap.size ≤ g
/-- One append of one element, which first lies in a block of its own. -/
theorem groD_append {w w1 : World} {o : Obj} {v : Value} {g n cap : Nat} (hg : (w.alloc o).grownBy w1 v.ownBlock) (hl : v.ownBlock = some g ∨ g = w.heap.size + 1) : GroD w w1 v (.slice (some ⟨g, 0, none⟩) n cap) :=
  ⟨hg.os, hg.tape, hg.output, Nat.le_trans (by simp) hg.size, fun k hk hv => (hg.block k (by simp; omega) (fun e => hv e.symm)).trans (Below.heap_alloc _ _ _ hk),
   fun x hx => by
    obtain rfl : g = x := Option.some.inj hx
    rcases hl with h | h
    · exact .inl h
    · exact .inr (by omega)⟩
theorem groD_drew {w w1 : World} {v v' : Value} (h : GroD w.drew w1 v v') : GroD w w1 v v' := ⟨h.os, h.tape, h.output, h.size, h.block, h.own⟩
/-- A store into an element of the row itself. -/
theorem groD_store (w : World) {g n cap j : Nat} (u : Value) : GroD w (w.setCell ⟨g, j, none⟩ u) (.slice (some ⟨g, 0, none⟩) n cap) (.slice (some ⟨g, 0, none⟩) n cap) :=
  ⟨rfl, rfl, rfl, by simp, fun k hk hv => Below.heap_setCell _ _ _ _ (fun e => hv (by show some g = some k; exact congrArg some e.symm)), fun x hx => .inl hx⟩
theorem GroD.fr {w w' : World} {v v' : Value} (h : GroD w w' v v') {X : Nat → Prop} {a : World} (ha : FrX X a w) (hv : ∀ g, v.ownBlock = some g → X g ∨ a.heap.size ≤ g) : FrX X a w' :=
  ⟨h.os.trans ha.os, h.tape.trans ha.tape, h.output.trans ha.output, Nat.le_trans ha.size h.size, fun k hk hx => (h.block k (Nat.lt_of_lt_of_le hk ha.size) (fun e => by
    rcases hv k e with h2 | h2
    · exact hx h2
    · omega)).trans (ha.block k hk hx)⟩

structure RowD where
  ty : TypeId
  size : Nat
  len : Nat
  xs : List Value
def OwnD (w : World) (K : Nat) (v : Value) (t : RowD) : Prop := w.ownsRow K t.ty t.size v t.len t.xs
/-- So many rows, apart from one another. -/
structure PoolD (w : World) (K m : Nat) (U : Nat → Value) (T : Nat → RowD) : Prop where
  own : ∀ i, i < m → OwnD w K (U i) (T i)
  ap : ∀ i j, i < m → j < m → i ≠ j → (U i).ownBlock = none ∨ (U i).ownBlock ≠ (U j).ownBlock
theorem PoolD.congr {w : World} {K m : Nat} {U U' : Nat → Value} {T T' : Nat → RowD} (h : PoolD w K m U T) (hu : ∀ i, i < m → U i = U' i) (ht : ∀ i, i < m → T i = T' i) : PoolD w K m U' T' :=
  ⟨fun i hi => by rw [← hu i hi, ← ht i hi]; exact h.own i hi, fun i j hi hj hij => by rw [← hu i hi, ← hu j hj]; exact h.ap i j hi hj hij⟩
theorem PoolD.go {w w' : World} {K m : Nat} {U : Nat → Value} {T : Nat → RowD} (h : PoolD w K m U T) (hb : ∀ k, K ≤ k → k < w.heap.size → w'.heap[k]? = w.heap[k]?) : PoolD w' K m U T :=
  ⟨fun i hi => ownsRow_block (h.own i hi) fun g hg => hb g ((h.own i hi).lt g hg).1 ((h.own i hi).lt g hg).2, h.ap⟩
theorem PoolD.gro {w w' : World} {K m t : Nat} {U : Nat → Value} {T : Nat → RowD} {v' : Value} {r : RowD} (h : PoolD w K m U T) (ht : t < m) (hg : GroD w w' (U t) v') (ho : OwnD w' K v' r) : PoolD w' K m (updF U t v') (updF T t r) := by
  have key : ∀ i, i < m → i ≠ t → (U i).ownBlock = none ∨ (U i).ownBlock ≠ v'.ownBlock := fun i hi hit => by
    cases hb : (U i).ownBlock with
    | none => exact .inl rfl
    | some b =>
      right
      intro e
      rcases hg.own b e.symm with h1 | h1
      · rcases h.ap i t hi ht hit with h2 | h2
        · rw [h2] at hb; cases hb
        · exact h2 (hb.trans h1.symm)
      · have := ((h.own i hi).lt b hb).2; omega
  refine ⟨fun i hi => ?_, fun i j hi hj hij => ?_⟩
  · by_cases e : i = t
    · subst e; rw [updF_here, updF_here]; exact ho
    · rw [updF_else _ _ e, updF_else _ _ e]
      refine ownsRow_block (h.own i hi) fun g hgi => hg.block g ((h.own i hi).lt g hgi).2 fun e2 => ?_
      rcases h.ap i t hi ht e with h2 | h2
      · rw [h2] at hgi; cases hgi
      · exact h2 (hgi.trans e2.symm)
  · by_cases ei : i = t
    · subst ei
      rw [updF_here, updF_else _ _ (Ne.symm hij)]
      rcases key j hj (Ne.symm hij) with h1 | h1
      · cases hv : v'.ownBlock with
        | none => exact .inl rfl
        | some b => right; rw [h1]; intro e; cases e
      · exact .inr (Ne.symm h1)
    · rw [updF_else _ _ ei]
      by_cases ej : j = t
      · subst ej; rw [updF_here]; exact key i hi ei
      · rw [updF_else _ _ ej]; exact h.ap i j hi hj hij
/-- One row more, with nothing in it. -/
theorem PoolD.more {w : World} {K m : Nat} {U : Nat → Value} {T : Nat → RowD} (h : PoolD w K m U T) (ty : TypeId) (size : Nat) : PoolD w K (m + 1) (updF U m (.slice none 0 0)) (updF T m ⟨ty, size, 0, []⟩) := by
  refine ⟨fun i hi => ?_, fun i j hi hj hij => ?_⟩
  · by_cases e : i = m
    · subst e; rw [updF_here, updF_here]; exact World.ownsRow_nil _ _ _ _
    · rw [updF_else _ _ e, updF_else _ _ e]; exact h.own i (by omega)
  · by_cases ei : i = m
    · subst ei; rw [updF_here]; exact .inl rfl
    · rw [updF_else _ _ ei]
      by_cases ej : j = m
      · subst ej; rw [updF_here]
        cases hb : (U i).ownBlock with
        | none => exact .inl rfl
        | some b => right; intro e; cases e
      · rw [updF_else _ _ ej]; exact h.ap i j (by omega) (by omega) hij
/-- An element of a row. -/
theorem own_cellD {w : World} {K n : Nat} {e : TypeId} {v : Value} {xs : List Value} (h : w.ownsRow K e 1 v n xs) {i : Nat} (hi : i < n) : ∃ g cap u, v = .slice (some ⟨g, 0, none⟩) n cap ∧ xs[i]? = some u ∧ w.cell? ⟨g, i, none⟩ = some u ∧ w.frozen? ⟨g, i, none⟩ = false ∧ K ≤ g ∧ g < w.heap.size := by
  obtain ⟨g, cap, rfl⟩ : ∃ g cap, v = .slice (some ⟨g, 0, none⟩) n cap := by
    rcases h.2 with ⟨_, h2⟩ | ⟨g, cap, cur, h2, _⟩
    · omega
    · exact ⟨g, cap, h2⟩
  have hl := h.1
  have hx : i < xs.length := by omega
  refine ⟨g, cap, xs[i], rfl, List.getElem?_eq_getElem hx, ?_, h.frozenAt i, (h.lt g rfl).1, (h.lt g rfl).2⟩
  rw [h.cellAt i (by omega)]; exact List.getElem?_eq_getElem hx
theorem map_range_snoc {α : Type} (f : Nat → α) (k : Nat) (x : α) : ((List.range k).map f ++ [x]) = (List.range (k + 1)).map (updF f k x) := by
  rw [List.range_succ, List.map_append, List.map_singleton, updF_here]
  congr 1
  exact List.map_congr_left fun v hv => (updF_else _ _ (by have := List.mem_range.1 hv; omega)).symm
theorem map_range_set {α : Type} (f : Nat → α) (k j : Nat) (x : α) : ((List.range k).map f).set j x = (List.range k).map (updF f j x) := by
  apply List.ext_getElem?
  intro i
  by_cases hik : i < k
  · by_cases e : i = j
    · subst e; simp [hik, updF]
    · simp [hik, updF, e, Ne.symm e]
  · simp [hik]
theorem map_range_at {α : Type} (f : Nat → α) {k i : Nat} {x : α} (h : ((List.range k).map f)[i]? = some x) : x = f i ∧ i < k := by
  rw [List.getElem?_map] at h
  obtain ⟨q, hq, rfl⟩ := Option.map_eq_some_iff.1 h
  obtain ⟨hl, rfl⟩ := List.getElem?_eq_some_iff.1 hq
  simp at hl ⊢; exact hl
end Go.Proofs.Ytflbooopgjgkbaa

/- A row of the call's own as a list. -/
namespace Go.Proofs.Ytflbooopgjgkbaa
open Go.ChangeShapes Go.WideShapes Go.RowKit Go.Deep
set_option linter.unusedVariables false

theorem sl_of_row {w : World} {H n : Nat} {F : Nat → Int} (h : w.rowIs H 3 n (fun b => .int .i64 (F b))) (hn : n ≤ 1000000) (h64 : ∀ b, b < n → I64 (F b)) : SL w 1 RInt (some ⟨H, 0, none⟩) n ((List.range n).map F) := by
  refine ⟨by simp, ⟨by unfold maxLen; omega, fun e => by cases e⟩, fun _ => ⟨H, 0, rfl, fun i x hi => ?_⟩⟩
  obtain ⟨rfl, hl⟩ := map_range_at _ hi
  rw [Nat.mul_one, Nat.zero_add]
  exact ⟨h.cell hl, h64 i hl⟩
theorem NearB.near_lt {bs : List BlkD} {N : Nat → Int} {ord : Nat → Nat} (h : NearB bs N ord) {b : Nat} (hb : b < bs.length) : -1 ≤ N b ∧ N b < bs.length := by
  by_cases h1 : fromB bs 0 (-1) b = false ∨ b = 0
  · rw [h.none b hb h1]; omega
  · obtain ⟨a, ha, he, -⟩ := h.some b hb (by cases hf : fromB bs 0 (-1) b; exact absurd (.inl hf) h1; rfl) (fun e => h1 (.inr e))
    omega
end Go.Proofs.Ytflbooopgjgkbaa

/- slices.Clone of a list of numbers. -/
namespace Go.Proofs.Ytflbooopgjgkbaa
open Go.ChangeShapes Go.WideShapes Go.RowKit Go.Deep
set_option linter.unusedVariables false

/-- An append whose run is known. -/
theorem wpList_append_runs {ops : Array Oper} {rest : List Oper} {o : Oper} {a : Act} {w : World} {Q : Exit → Act → World → Prop} (hgd : o.guard = none) (s x : Operand) (t t' : TypeId)
    (ho : o.op = .call { callee := .builtin .append, args := #[s, x], argTypes := #[t, t'] }) (vs vx : Value) (hs : a.eval s = vs) (hx : a.eval x = vx) {v' : Value} {w' : World}
    (hr : (Builtin.append_ #[t, t'] o.type #[vs, vx]).run Try.prog w = .ok v' w')
    (h : wpList Try.prog ops Q rest (a.put o.dst v') w') : wpList Try.prog ops Q (o :: rest) a w := by
  refine wpList_plain hgd fun K hK => ?_
  unfold Oper.wp execOp
  simp only [ho, resolve, invoke, builtin, Sem.run_bind, Sem.run_pure, Result.andThen_ok, List.map_toArray, List.map_cons, List.map_nil, hs, hx, hr]
  exact hK _ _ h

/-- What slices.Clone tells of a list of numbers. -/
def ToldC_ (xs : List Int) (w : World) (e : Ending) (w' : World) : Prop := (∃ v, e = .returned v ∧ w'.ownsRow w.heap.size 3 1 v xs.length (xs.map (Value.int .i64))) ∧ Below w.heap.size w w'

set_option maxRecDepth 100000 in
theorem cloneInts_any (xs : List Int) (v : Value) (w : World) (hv : VS w 1 RInt v xs) (hn : xs.length ≤ 1000000) : Calls Try.prog 66 #[v] w (ToldC_ xs w) := by
  obtain ⟨A, c, rfl, hs⟩ := hv
  have heq := Lib.run_eql_slice_nil (P := Try.prog) w 22 3 A xs.length c 0 0 Try.underlying22
  cases A with
  | none =>
    obtain rfl : xs = [] := by
      rcases Nat.eq_zero_or_pos xs.length with h0 | h0
      · exact List.length_eq_zero_iff.1 h0
      · obtain ⟨b, o, e, _⟩ := hs.2.2 h0; cases e
    obtain rfl : c = 0 := hs.2.1.2 rfl
    clear hs heq
    have heq := Lib.run_eql_slice_nil (P := Try.prog) w 22 3 none 0 0 0 0 Try.underlying22
    go_enter Try.func66, Try.ntmps66
    go_wp2_with (simp only [heq, Option.isNone])
    go_ret
    exact ⟨⟨_, rfl, World.ownsRow_nil _ _ _ _⟩, Below.refl _ _⟩
  | some ad =>
    obtain ⟨v', w', hr, -, hg, hown, -⟩ := run_append_copy 22 (w := w.alloc (.cells #[] 3)) (heap_alloc_new w (.cells #[] 3)) (SInts.keep (kept_alloc w _) hs) rfl hn
    have hB : Below w.heap.size w w' := ((Below.refl w.heap.size w).alloc (Nat.le_refl _) (.cells #[] 3)).grown hg (by simp) (fun k hk => by have := Option.some.inj hk; omega)
    have HF := Lib.hid (And.intro hown hB)
    clear hown hB hg hs
    go_enter Try.func66, Try.ntmps66
    go_wp2_with (first | (at_builtin; refine wpList_append_runs rfl (.tmp 5) (.tmp 6) 22 22 rfl _ _ rfl rfl hr ?_) | simp only [heq, Option.isNone])
    go_ret
    exact ⟨⟨v', rfl, HF.out.1⟩, HF.out.2⟩

end Go.Proofs.Ytflbooopgjgkbaa
