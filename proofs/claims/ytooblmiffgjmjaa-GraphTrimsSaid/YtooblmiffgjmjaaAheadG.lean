/- A row of rows; what the loops over a function's blocks come to. No condition. -/
import Derived.Test.YtooblmiffgjmjaaAheadL
import Derived.Deep.OwnRows
import Derived.Deep.AppendLies
namespace Go.Proofs.Ytooblmiffgjmjaa
open Go.ChangeShapes Go.WideShapes Go.RowKit Go.Deep
set_option linter.unusedVariables false

/-- Is it the number of one of so many? -/
def isAtB (a : Int) (n : Int) : Bool := decide (0 ≤ a ∧ a < n)
/-- Is a list's last number n? -/
def endsB (l : List Int) (n : Int) : Bool := l.getLast? == some n

/-! ### The row of rows -/
structure Grid (w : World) (G n : Nat) (V : Nat → Value) (L : Nat → List Int) : Prop where
  row : w.rowIs G 22 n V
  own : ∀ i, i < n → w.ownsRow (G + 1) 3 1 (V i) (L i).length ((L i).map (Value.int .i64))
  apart : ∀ i j, i < n → j < n → i ≠ j → (V i).ownBlock = none ∨ (V i).ownBlock ≠ (V j).ownBlock

theorem Grid.congr {w : World} {G n : Nat} {V : Nat → Value} {L L' : Nat → List Int} (h : Grid w G n V L) (e : ∀ i, i < n → L i = L' i) : Grid w G n V L' :=
  ⟨h.row, fun i hi => by rw [← e i hi]; exact h.own i hi, h.apart⟩
theorem Grid.alloc {w : World} {G n : Nat} {V : Nat → Value} {L : Nat → List Int} (h : Grid w G n V L) (o : Obj) : Grid (w.alloc o) G n V L :=
  ⟨h.row.alloc o, fun i hi => (h.own i hi).alloc o, h.apart⟩
theorem Grid.drewN {w : World} {G n : Nat} {V : Nat → Value} {L : Nat → List Int} (h : Grid w G n V L) (k : Nat) : Grid (w.drewN k) G n V L := ⟨h.row, h.own, h.apart⟩
theorem Grid.made (w : World) (G n : Nat) (hG : G = w.heap.size) : Grid (w.alloc (.cells (madeCells #[.slice none 0 0] n) 22)) G n (fun _ => .slice none 0 0) (fun _ => []) := by
  subst hG
  exact ⟨World.rowIs_made w _ n _, fun i _ => World.ownsRow_nil _ _ _ _, fun i j _ _ _ => .inl rfl⟩
theorem Grid.push {w w3 : World} {G n : Nat} {V : Nat → Value} {L : Nat → List Int} (h : Grid w G n V L) {t : Nat} (ht : t < n) {g cap : Nat} {x : Int}
    (hown : w3.ownsRow (G + 1) 3 1 (.slice (some ⟨g, 0, none⟩) ((L t).length + 1) cap) ((L t).length + 1) ((L t).map (Value.int .i64) ++ [.int .i64 x]))
    (hgrow : w.grownBy w3 (V t).ownBlock) (hloc : (V t).ownBlock = some g ∨ g = w.heap.size) :
    Grid (w3.setCell ⟨G, t, none⟩ (.slice (some ⟨g, 0, none⟩) ((L t).length + 1) cap)) G n (fun j => if j = t then .slice (some ⟨g, 0, none⟩) ((L t).length + 1) cap else V j) (fun j => if j = t then L t ++ [x] else L j) := by
  have hblk : w3.heap[G]? = w.heap[G]? := hgrow.block G h.row.lt (fun e => by have := ((h.own t ht).lt G e.symm).1; omega)
  have hrow3 : w3.rowIs G 22 n V := h.row.of_block hblk
  refine ⟨hrow3.set t _, fun j hj => ?_, fun i j hi hj hij => ?_⟩
  · by_cases e : j = t
    · subst e
      simp only [if_true]
      have := ownsRow_setCell_below hown (a := ⟨G, j, none⟩) (by show G < G + 1; omega) (.slice (some ⟨g, 0, none⟩) ((L j).length + 1) cap)
      simpa using this
    · simp only [if_neg e]
      exact ownsRow_setCell_below ((h.own j hj).kept hgrow (h.apart j t hj ht e)) (a := ⟨G, t, none⟩) (by show G < G + 1; omega) _
  · have key : ∀ j, j < n → j ≠ t → (V j).ownBlock = none ∨ (V j).ownBlock ≠ some g := fun j hj hjt => by
      rcases hloc with e | e
      · rw [← e]; exact h.apart j t hj ht hjt
      · cases hb : (V j).ownBlock with
        | none => exact .inl rfl
        | some b => right; intro e2; have := ((h.own j hj).lt b hb).2; simp at e2; omega
    by_cases ei : i = t
    · subst ei
      simp only [if_true, if_neg (Ne.symm hij)]
      right
      rcases key j hj (Ne.symm hij) with e | e
      · rw [e]; simp [Value.ownBlock]
      · intro e2; exact e (e2.symm.trans rfl)
    · by_cases ej : j = t
      · subst ej
        simp only [if_true, if_neg ei]
        exact key i hi ei
      · simp only [if_neg ei, if_neg ej]
        exact h.apart i j hi hj hij

theorem Try.info22 : (Try.prog.info? 22).map (fun i => (i.zero, i.size, i.bytes)) = some (some (.slice none 0 0), 1, 24) := by kernel_rfl

/-! ### What the loops come to -/
def LJ (bs : List BlkD) (k : Nat) (t : List Int) (i : Nat) : List Int := aheadL (bs.take k) i ++ (if hasTo i t then [(k : Int)] else [])
theorem LJ_nil (bs : List BlkD) (k i : Nat) : LJ bs k [] i = aheadL (bs.take k) i := by simp [LJ, hasTo]
theorem LJ_all {bs : List BlkD} {k : Nat} {x : BlkD} (i : Nat) (h : bs[k]? = some x) : LJ bs k x.term.to i = aheadL (bs.take (k + 1)) i := (aheadL_step i h).symm
theorem LJ_ends (bs : List BlkD) (k : Nat) (t : List Int) (i : Nat) : endsB (LJ bs k t i) k = hasTo i t := by
  unfold LJ endsB
  cases h : hasTo i t
  · simp only [if_neg Bool.false_ne_true, List.append_nil]
    rw [beq_eq_false_iff_ne]
    intro e
    have hm := List.mem_of_getLast? e
    have := aheadK_mem (bs.take k) 0 i _ hm
    simp at this; omega
  · simp
theorem LJ_len (bs : List BlkD) (k : Nat) (t : List Int) (i : Nat) : (LJ bs k t i).length ≤ bs.length + 1 := by
  unfold LJ
  have := aheadK_len (bs.take k) 0 i
  rw [List.length_append, aheadL]
  have h2 : (bs.take k).length ≤ bs.length := by simp; omega
  split <;> simp <;> omega
theorem LJ_i64 (bs : List BlkD) (k : Nat) (t : List Int) (i : Nat) (hk : k ≤ 1000000) (h : bs.length ≤ 1000000) : ∀ x ∈ LJ bs k t i, I64 x := by
  intro x hx
  unfold LJ at hx
  rcases List.mem_append.1 hx with hx | hx
  · exact aheadL_i64 _ _ (by simp; omega) x hx
  · split at hx
    · rw [List.mem_singleton.1 hx]; unfold I64; omega
    · simp at hx
/-- A To that is no block's number changes nothing. -/
theorem LJ_out {bs : List BlkD} {k : Nat} {t : List Int} {j : Nat} {x : Int} (hx : t[j]? = some x) (i : Nat) (h : x ≠ i) : LJ bs k (t.take j) i = LJ bs k (t.take (j + 1)) i := by
  unfold LJ
  rw [hasTo_step _ hx, beq_eq_false_iff_ne.2 h, Bool.or_false]
theorem LJ_again {bs : List BlkD} {k : Nat} {t : List Int} {j : Nat} {x : Int} (hx : t[j]? = some x) (i : Nat) (h : hasTo x (t.take j) = true) : LJ bs k (t.take j) i = LJ bs k (t.take (j + 1)) i := by
  by_cases e : x = i
  · unfold LJ; rw [hasTo_step _ hx, ← e, h]; rfl
  · exact LJ_out hx i e
theorem LJ_new {bs : List BlkD} {k : Nat} {t : List Int} {j : Nat} {q : Nat} (hx : t[j]? = some (q : Int)) (i : Nat) (h : hasTo q (t.take j) = false) :
    (if i = q then LJ bs k (t.take j) q ++ [(k : Int)] else LJ bs k (t.take j) i) = LJ bs k (t.take (j + 1)) i := by
  by_cases e : i = q
  · subst e; rw [if_pos rfl]; unfold LJ; rw [hasTo_step _ hx, h]; simp
  · rw [if_neg e, LJ_out hx i (fun e2 => e (by omega))]

/-- A slice of slices reads as a list of lists. -/
def RRow (w : World) (b o : Nat) (xs : List Int) : Prop := CS w b o 1 RInt xs
def rows (bs : List BlkD) : List (List Int) := (List.range bs.length).map fun i => aheadL bs (i : Nat)

theorem rows_len (bs : List BlkD) : (rows bs).length = bs.length := by simp [rows]
theorem rows_at {bs : List BlkD} {k : Nat} {x : List Int} (h : (rows bs)[k]? = some x) : x = aheadL bs k := by
  unfold rows at h
  rw [List.getElem?_map] at h
  obtain ⟨i, hi, rfl⟩ := Option.map_eq_some_iff.1 h
  obtain ⟨hl, rfl⟩ := List.getElem?_eq_some_iff.1 hi
  simp
theorem RRow.keep {w w' : World} (h : Kept w w') (b o : Nat) (x : List Int) (hv : RRow w b o x) : RRow w' b o x := CS.keep h (RInt.keep h) hv
theorem Grid.reads {w : World} {G : Nat} {V : Nat → Value} {bs : List BlkD} (h : Grid w G bs.length V (fun i => aheadL bs i)) (hn : bs.length ≤ 1000000) : SL w 1 RRow (some ⟨G, 0, none⟩) bs.length (rows bs) := by
  refine ⟨by rw [rows_len]; omega, ⟨by unfold maxLen; omega, fun e => by cases e⟩, fun _ => ⟨G, 0, rfl, fun i x hi => ?_⟩⟩
  have hl : i < bs.length := by have := (List.getElem?_eq_some_iff.1 hi).1; rwa [rows_len] at this
  rw [rows_at hi, Nat.mul_one, Nat.zero_add]
  obtain ⟨A, c, e, hs⟩ := vs_of_own (h.own i hl) (aheadL_i64 _ _ (by omega))
  exact ⟨A, c, (h.row.cell hl).trans (congrArg some e), hs⟩

end Go.Proofs.Ytooblmiffgjmjaa
