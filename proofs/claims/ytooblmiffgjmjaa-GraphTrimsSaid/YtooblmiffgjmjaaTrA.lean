/- The document's Trim: what its writes over the copied blocks leave as it was. -/
import Derived.Test.YtooblmiffgjmjaaCopyS
import Derived.Test.YtooblmiffgjmjaaGrJ
import Derived.Test.YtooblmiffgjmjaaGrW
namespace Go.Proofs.Ytooblmiffgjmjaa
open Go.ChangeShapes Go.WideShapes Go.RowKit Go.Deep
set_option linter.unusedVariables false

/-! ### A list, its first k elements changed -/
def mixL {α : Type} (g : α → α) (l : List α) (k : Nat) : List α := (l.take k).map g ++ l.drop k
section
variable {α : Type} {g : α → α} {l : List α} {k : Nat} {x : α}
theorem mixL_zero : mixL g l 0 = l := by simp [mixL]
theorem mixL_all (h : l.length ≤ k) : mixL g l k = l.map g := by unfold mixL; rw [List.take_of_length_le h, List.drop_eq_nil_of_le h]; simp
theorem mixL_len : (mixL g l k).length = l.length := by unfold mixL; simp; omega
theorem mixL_at (h : l[k]? = some x) : (mixL g l k)[k]? = some x := by
  have hk : k < l.length := (List.getElem?_eq_some_iff.1 h).1
  unfold mixL
  rw [List.getElem?_append_right (by simp; omega)]
  simp only [List.length_map, List.length_take, List.getElem?_drop]
  rw [show k + (k - min k l.length) = k by omega]; exact h
theorem mixL_set (h : l[k]? = some x) : (mixL g l k).set k (g x) = mixL g l (k + 1) := by
  have hk : k < l.length := (List.getElem?_eq_some_iff.1 h).1
  unfold mixL
  rw [take_succ_of h, List.map_append, List.append_assoc, List.set_append_right _ _ (by simp; omega)]
  congr 1
  obtain ⟨_, rfl⟩ := List.getElem?_eq_some_iff.1 h
  have e : (l.drop k).set 0 (g l[k]) = g l[k] :: l.drop (k + 1) := by rw [List.drop_eq_getElem_cons hk]; rfl
  rw [show k - ((l.take k).map g).length = 0 by simp; omega, e]; rfl
theorem mixL_same (h : l[k]? = some x) (hg : g x = x) : mixL g l k = mixL g l (k + 1) := by
  rw [← mixL_set h, hg]
  apply List.ext_getElem?
  intro i
  rw [List.getElem?_set]
  split
  · rename_i e; subst e; rw [mixL_at h, if_pos (by rw [mixL_len]; exact (List.getElem?_eq_some_iff.1 h).1)]
  · rfl
end

/-! ### Writes into a row -/
theorem SL.put {α : Type} {sz bp op c k : Nat} {R R' : World → Nat → Nat → α → Prop} {w w' : World} {xs : List α} {y : α} (h : SL w sz R (some ⟨bp, op, none⟩) c xs)
    (hk : R' w' bp (op + k * sz) y) (ho : ∀ i x, i ≠ k → xs[i]? = some x → R w bp (op + i * sz) x → R' w' bp (op + i * sz) x) : SL w' sz R' (some ⟨bp, op, none⟩) c (xs.set k y) := by
  obtain ⟨h1, h2, h3⟩ := h
  refine ⟨by rw [List.length_set]; exact h1, h2, fun hp => ?_⟩
  rw [List.length_set] at hp
  obtain ⟨b, o, e, hr⟩ := h3 hp
  cases e
  refine ⟨_, _, rfl, fun i x hi => ?_⟩
  rw [List.getElem?_set] at hi
  by_cases e : k = i
  · subst e
    rw [if_pos rfl] at hi
    split at hi
    · cases hi; exact hk
    · cases hi
  · rw [if_neg e] at hi
    exact ho i x (fun e' => e e'.symm) hi (hr i x hi)
theorem SL.tos_put {T : Nat → Prop} {w : World} {bt ot c k : Nat} {xs : List Int} {y : Int} (h : SL w 1 (RIntB T) (some ⟨bt, ot, none⟩) c xs) (hk : k < xs.length) (hy : I64 y) :
    SL (w.setCell ⟨bt, ot + k, none⟩ (.int .i64 y)) 1 (RIntB T) (some ⟨bt, ot, none⟩) c (xs.set k y) := by
  obtain ⟨b, o, x, e, hx, hr⟩ := h.at_ hk
  cases e
  have hc := hr.2.1
  rw [Nat.mul_one] at hc
  refine h.put ?_ ?_
  · rw [Nat.mul_one]
    exact ⟨hr.1, World.cell?_setCell_same _ _ _ hc, hy⟩
  · intro i x' hne _ hx'
    refine ⟨hx'.1, ?_, hx'.2.2⟩
    rw [World.cell?_setCell_other]
    · exact hx'.2.1
    · intro e; have := congrArg Addr.off e; simp at this; omega
theorem SL.phi_put {S : Nat → Prop} {w : World} {bp op c k : Nat} {xs : List PhiD} {p q : PhiD} {A : Option Addr} {d : Nat} (h : SL w 2 (RPhiS S) (some ⟨bp, op, none⟩) c xs) (hp : xs[k]? = some p) (hq : q.dst = p.dst)
    (hv : SL w 1 (RIntB (fun y => S y ∧ y ≠ bp)) A d q.args) :
    SL (w.setCell ⟨bp, op + k * 2 + 1, none⟩ (.slice A q.args.length d)) 2 (RPhiS S) (some ⟨bp, op, none⟩) c (xs.set k q) := by
  obtain ⟨b, o, x, e, hx, hr⟩ := h.at_ (List.getElem?_eq_some_iff.1 hp).1
  cases e
  obtain rfl : x = p := by have := hx.out; rw [hp] at this; exact (Option.some.inj this).symm
  obtain ⟨hS, ⟨hd, hd64⟩, A0, c0, ha, has⟩ := hr
  have hkeep : KeptB (fun y => S y ∧ y ≠ bp) w (w.setCell ⟨bp, op + k * 2 + 1, none⟩ (.slice A q.args.length d)) := fun a v hb ha => (World.cell?_of_block (Below.heap_setCell _ _ _ _ (by show a.block ≠ bp; exact hb.2))).trans ha
  refine h.put ?_ ?_
  · refine ⟨hS, ⟨?_, by rw [hq]; exact hd64⟩, A, d, World.cell?_setCell_same _ _ _ ha, SIntsB.go hkeep (fun _ h => h) hv⟩
    rw [hq, World.cell?_setCell_other _ _ _ _ (fun e => by have := congrArg Addr.off e; simp at this)]; exact hd
  · rintro i x' hne _ ⟨hS', ⟨hd', hd64'⟩, A', c', ha', has'⟩
    refine ⟨hS', ⟨?_, hd64'⟩, A', c', ?_, SIntsB.go hkeep (fun _ h => h) has'⟩
    · rw [World.cell?_setCell_other _ _ _ _ (fun e => by have := congrArg Addr.off e; simp at this; omega)]; exact hd'
    · rw [World.cell?_setCell_other _ _ _ _ (fun e => by have := congrArg Addr.off e; simp at this; omega)]; exact ha'

/-! ### Changed within the first i blocks' own parts alone -/
def FrX (l : List BlkU) (bb Hc i : Nat) (w w' : World) : Prop :=
  ∀ y, y < Hc → (y = bb ∨ ∀ j x, j < i → l[j]? = some x → ¬ (x.2.1 ≤ y ∧ y < x.2.2)) → w'.heap[y]? = w.heap[y]?
theorem FrX.refl {l : List BlkU} {bb Hc i : Nat} {w : World} : FrX l bb Hc i w w := fun _ _ _ => rfl
theorem FrX.step {l : List BlkU} {bb Hc i : Nat} {w w1 w2 : World} {x : BlkU} (h : FrX l bb Hc i w w1) (hx : l[i]? = some x) (hk : ∀ y, y < Hc → (y = bb ∨ ¬ (x.2.1 ≤ y ∧ y < x.2.2)) → w2.heap[y]? = w1.heap[y]?) : FrX l bb Hc (i + 1) w w2 := fun y hy hc => by
  refine (hk y hy ?_).trans (h y hy ?_)
  · rcases hc with hc | hc
    · exact .inl hc
    · exact .inr (hc i x (by omega) hx)
  · rcases hc with hc | hc
    · exact .inl hc
    · exact .inr fun j z hj hz => hc j z (by omega) hz
/-- Where the parts of the first i blocks lie. -/
def BX (l : List BlkU) (i K : Nat) (u : Value) (y : Nat) : Prop := (∃ j x, j < i ∧ l[j]? = some x ∧ x.2.1 ≤ y ∧ y < x.2.2) ∨ (K ≤ y ∧ some y ≠ u.ownBlock)
theorem Ivs.before {Mid Hc i j : Nat} {l : List BlkU} {x y : BlkU} (h : Ivs Mid Hc l) (hj : j < i) (hy : l[j]? = some y) (hx : l[i]? = some x) : y.2.2 ≤ x.2.1 := by
  obtain ⟨h1, e1⟩ := List.getElem?_eq_some_iff.1 hy
  obtain ⟨h2, e2⟩ := List.getElem?_eq_some_iff.1 hx
  subst e1 e2
  exact (List.pairwise_iff_getElem.1 h.2) j i h1 h2 hj
theorem FrX.free {Mid Hc i bb : Nat} {l : List BlkU} {x : BlkU} {w w' : World} (h : FrX l bb Hc i w w') (hiv : Ivs Mid Hc l) (hx : l[i]? = some x) (y : Nat) (hy : y < Hc) (hc : y = bb ∨ y < Mid ∨ x.2.1 ≤ y) : w'.heap[y]? = w.heap[y]? := by
  refine h y hy ?_
  rcases hc with hc | hc | hc
  · exact .inl hc
  · exact .inr fun j z hj hz hin => by have := hiv.1 z (List.mem_of_getElem? hz); omega
  · exact .inr fun j z hj hz hin => by have := hiv.before hj hz hx; omega
theorem FrX.low {Mid Hc i bb : Nat} {l : List BlkU} {w w' : World} (h : FrX l bb Hc i w w') (hiv : Ivs Mid Hc l) (y : Nat) (hy : y < Hc) (hc : y < Mid) : w'.heap[y]? = w.heap[y]? :=
  h y hy (.inr fun j z hj hz hin => by have := hiv.1 z (List.mem_of_getElem? hz); omega)

theorem SL.blk {α : Type} {w : World} {sz c : Nat} {R : World → Nat → Nat → α → Prop} {A : Option Addr} {xs : List α} (h : SL w sz R A c xs) (hp : 0 < xs.length) : ∃ b o x, A = some ⟨b, o, none⟩ ∧ R w b o x := by
  obtain ⟨_, _, h3⟩ := h
  obtain ⟨b, o, e, hr⟩ := h3 hp
  have := hr 0 _ (List.getElem?_eq_getElem hp)
  rw [Nat.zero_mul] at this
  exact ⟨b, o, _, e, this⟩
/-- Block i of the copy, when the blocks ahead of it have been gone through. -/
theorem blk_at {Mid Hc bb ob i : Nat} {l : List BlkU} {x : BlkU} {w7 wr : World} (hiv : Ivs Mid Hc l) (hR : RBlkU (fun b => Mid ≤ b) w7 bb (ob + i * 5) x)
    (hF : (∀ A n c, w7.cell? ⟨bb, ob + i * 5, none⟩ = some (.slice A n c) → FzA Mid w7 A n) ∧ (∀ A n c, w7.cell? ⟨bb, ob + i * 5 + 4, none⟩ = some (.slice A n c) → FzA Mid w7 A n))
    (hbb : bb < Hc) (hfr : FrX l bb Hc i w7 wr) (hx : l[i]? = some x) :
    ∃ t p Ap cp Ai ci At ct, (x.2.1 ≤ t ∧ t ≤ p ∧ p ≤ x.2.2) ∧ (wr.cell? ⟨bb, ob + i * 5, none⟩ = some (.slice Ap x.1.phis.length cp) ∧ wr.cell? ⟨bb, ob + i * 5 + 1, none⟩ = some (.slice Ai x.1.ins.length ci) ∧
      wr.cell? ⟨bb, ob + i * 5 + 2, none⟩ = some (.int .i64 x.1.term.kind) ∧ wr.cell? ⟨bb, ob + i * 5 + 3, none⟩ = some (.int .i64 x.1.term.arg) ∧ wr.cell? ⟨bb, ob + i * 5 + 4, none⟩ = some (.slice At x.1.term.to.length ct)) ∧
      (SL wr 2 (RPhiS (fun y => y ≠ bb ∧ t ≤ y ∧ y < p)) Ap cp x.1.phis ∧ SL wr 5 (RInsB (fun y => y ≠ bb ∧ p ≤ y ∧ y < x.2.2)) Ai ci x.1.ins ∧ SL wr 1 (RIntB (fun y => y ≠ bb ∧ x.2.1 ≤ y ∧ y < t)) At ct x.1.term.to) ∧
      (I64 x.1.term.kind ∧ I64 x.1.term.arg) ∧ (0 < x.1.phis.length → ∃ b o, Ap = some ⟨b, o, none⟩ ∧ FzC wr b) ∧ (0 < x.1.term.to.length → ∃ b o, At = some ⟨b, o, none⟩ ∧ FzC wr b) := by
  obtain ⟨hM, t, p, ht, ⟨Ap, cp, c0, s0⟩, ⟨Ai, ci, c1, s1⟩, ⟨c2, i2⟩, ⟨c3, i3⟩, ⟨At, ct, c4, s4⟩⟩ := hR
  have hin := hiv.1 x (List.mem_of_getElem? hx)
  have hk : KeptB (fun y => x.2.1 ≤ y ∧ y < x.2.2) w7 wr := fun a v hb ha => (World.cell?_of_block (hfr.free hiv hx a.block (by omega) (.inr (.inr hb.1)))).trans ha
  have hcell : ∀ o v, w7.cell? ⟨bb, o, none⟩ = some v → wr.cell? ⟨bb, o, none⟩ = some v := fun o v ha => (World.cell?_of_block (a := ⟨bb, o, none⟩) (hfr bb hbb (.inl rfl))).trans ha
  refine ⟨t, p, Ap, cp, Ai, ci, At, ct, ht, ⟨hcell _ _ c0, hcell _ _ c1, hcell _ _ c2, hcell _ _ c3, hcell _ _ c4⟩, ⟨?_, ?_, ?_⟩, ⟨i2, i3⟩, ?_, ?_⟩
  · exact SPhisS.go (B := fun y => x.2.1 ≤ y ∧ y < x.2.2 ∧ y ≠ bb ∧ t ≤ y ∧ y < p) (hk.mono fun y hy => ⟨hy.1, hy.2.1⟩) (fun y hy => hy.2.2) (SPhisS.go (KeptB.of (Kept.refl _)) (fun y hy => ⟨by omega, by omega, hy.1.2, hy.2⟩) s0)
  · exact SInssB.go (B := fun y => x.2.1 ≤ y ∧ y < x.2.2 ∧ y ≠ bb ∧ p ≤ y) (hk.mono fun y hy => ⟨hy.1, hy.2.1⟩) (fun y hy => ⟨hy.2.2.1, hy.2.2.2, hy.2.1⟩) (SInssB.go (KeptB.of (Kept.refl _)) (fun y hy => ⟨by omega, by omega, hy.1.2, by omega⟩) s1)
  · exact SIntsB.go (B := fun y => x.2.1 ≤ y ∧ y < x.2.2 ∧ y ≠ bb ∧ y < t) (hk.mono fun y hy => ⟨hy.1, hy.2.1⟩) (fun y hy => ⟨hy.2.2.1, hy.1, hy.2.2.2⟩) (SIntsB.go (KeptB.of (Kept.refl _)) (fun y hy => ⟨by omega, by omega, hy.1.2, by omega⟩) s4)
  · intro hp
    obtain ⟨b, o, e, _, hz⟩ := hF.1 _ _ _ c0 hp
    obtain ⟨b', o', _, e', hr⟩ := s0.blk hp
    rw [e] at e'; cases e'
    exact ⟨b, o, e, hz.same (hfr.free hiv hx b (by have := hr.1; omega) (.inr (.inr (by have := hr.1; omega))))⟩
  · intro hp
    obtain ⟨b, o, e, _, hz⟩ := hF.2 _ _ _ c4 hp
    obtain ⟨b', o', _, e', hr⟩ := s4.blk hp
    rw [e] at e'; cases e'
    exact ⟨b, o, e, hz.same (hfr.free hiv hx b (by have := hr.1; omega) (.inr (.inr (by have := hr.1; omega))))⟩
/-- The rows of the answer grow by a block. -/
theorem rows_keepX {i K : Nat} {l : List BlkU} {bs : List BlkD} {cs : List Value} {u : Value} {w wN : World} (h : Rows 5 (CBlk (BX l i K u) w) bs cs)
    (hk : ∀ y, y < w.heap.size → BX l i K u y → wN.heap[y]? = w.heap[y]?) {u' : Value} {i' : Nat} (hi : i ≤ i') (hu : ∀ y, K ≤ y → y < w.heap.size → some y ≠ u.ownBlock → some y ≠ u'.ownBlock) : Rows 5 (CBlk (BX l i' K u') wN) bs cs :=
  h.imp fun y d hy => CBlk.go (B := fun b => BX l i K u b ∧ b < w.heap.size) (fun a v hb ha => (World.cell?_of_block (hk a.block hb.2 hb.1)).trans ha) (fun b hb => by
    rcases hb.1 with ⟨j, x, h1, h2⟩ | ⟨h1, h2⟩
    · exact .inl ⟨j, x, by omega, h2⟩
    · exact .inr ⟨h1, hu b h1 hb.2 h2⟩) (CBlk.lt hy)
theorem copy_rows {Mid cb : Nat} {Ab : Option Addr} {l : List BlkU} {w5 : World} (hsl : SL w5 5 (RBlkU (fun b => Mid ≤ b)) Ab cb l) (hfz : FzS Mid w5 Ab l.length) :
    ∃ bb ob, 0 < l.length → Ab = some ⟨bb, ob, none⟩ ∧ bb < w5.heap.size ∧ Mid ≤ bb ∧ ∀ i x, l[i]? = some x → RBlkU (fun b => Mid ≤ b) w5 bb (ob + i * 5) x ∧
      (∀ A n c, w5.cell? ⟨bb, ob + i * 5, none⟩ = some (.slice A n c) → FzA Mid w5 A n) ∧ (∀ A n c, w5.cell? ⟨bb, ob + i * 5 + 4, none⟩ = some (.slice A n c) → FzA Mid w5 A n) := by
  by_cases hp : 0 < l.length
  · obtain ⟨_, _, h3⟩ := hsl
    obtain ⟨b, o, rfl, hr⟩ := h3 hp
    have h0 := hr 0 _ (List.getElem?_eq_getElem hp)
    exact ⟨b, o, fun _ => ⟨rfl, block_lt_of_cell h0.2.choose_spec.choose_spec.2.2.2.1.1, h0.1, fun i x hi => ⟨hr i x hi, hfz b o rfl i (List.getElem?_eq_some_iff.1 hi).1⟩⟩⟩
  · exact ⟨0, 0, fun h => absurd h hp⟩
theorem RPhiS.toB {B : Nat → Prop} {w : World} (b o : Nat) (x : PhiD) (hv : RPhiS B w b o x) : RPhiB B w b o x := ⟨hv.1, hv.2.1, CSB.plain (fun b o x hx => ⟨hx.1.1, hx.2⟩) hv.2.2⟩
theorem SPhisS.toB {B : Nat → Prop} {w : World} {A : Option Addr} {c : Nat} {xs : List PhiD} (hv : SL w 2 (RPhiS B) A c xs) : SL w 2 (RPhiB B) A c xs := SL.imp RPhiS.toB hv
theorem from_reachT (bs : List BlkD) (x : Nat) : fromB bs 0 (-1) x = reachF bs x := by
  unfold fromB
  by_cases h : 0 < bs.length
  · rw [if_pos ⟨by omega, by omega, by omega⟩]
    exact fromN_reachB (nxF_lt bs) h x
  · rw [if_neg (by omega)]
    unfold reachF reachB
    rw [eq_comm, decide_eq_false_iff_not]
    intro hx
    have := orderL_lt (nxF_lt bs) hx
    omega
theorem numsL_zero (r : Nat → Bool) : numsL r 0 = [] := rfl
theorem numsL_succ (r : Nat → Bool) (k : Nat) : numsL r (k + 1) = numsL r k ++ [numB r k] := by unfold numsL; rw [List.range_succ, List.map_append]; rfl
theorem numB_i64T (r : Nat → Bool) {k : Nat} (h : k ≤ 1000000) : I64 (numB r k) := by
  unfold numB
  have := countP_range_le r k
  split <;> exact ⟨by omega, by omega⟩
theorem numsL_i64 (r : Nat → Bool) {n : Nat} (h : n ≤ 1000000) : ∀ x ∈ numsL r n, I64 x := fun x hx => by
  obtain ⟨i, hi⟩ := List.getElem?_of_mem hx
  obtain ⟨rfl, h2⟩ := numsL_at hi
  exact numB_i64T r (by omega)
theorem phiT_skip {r : Nat → Bool} {ah : List Int} {p : PhiD} (h : p.args.length ≠ ah.length) : phiT r ah p = p := by unfold phiT argsT; rw [if_neg h]
theorem phiT_keep {r : Nat → Bool} {ah : List Int} {p : PhiD} (h : p.args.length = ah.length) : phiT r ah p = ⟨p.dst, keepA r ah p.args⟩ := by unfold phiT argsT; rw [if_pos h]
theorem blk_at' {Mid Hc bb ob i lo hi : Nat} {l : List BlkU} {kb : BlkD} {w7 wr : World} (hiv : Ivs Mid Hc l) (hR : RBlkU (fun b => Mid ≤ b) w7 bb (ob + i * 5) (kb, lo, hi))
    (hF : (∀ A n c, w7.cell? ⟨bb, ob + i * 5, none⟩ = some (.slice A n c) → FzA Mid w7 A n) ∧ (∀ A n c, w7.cell? ⟨bb, ob + i * 5 + 4, none⟩ = some (.slice A n c) → FzA Mid w7 A n))
    (hbb : bb < Hc) (hfr : FrX l bb Hc i w7 wr) (hx : l[i]? = some (kb, lo, hi)) :
    ∃ t p Ap cp Ai ci At ct, (lo ≤ t ∧ t ≤ p ∧ p ≤ hi) ∧ (wr.cell? ⟨bb, ob + i * 5, none⟩ = some (.slice Ap kb.phis.length cp) ∧ wr.cell? ⟨bb, ob + i * 5 + 1, none⟩ = some (.slice Ai kb.ins.length ci) ∧
      wr.cell? ⟨bb, ob + i * 5 + 2, none⟩ = some (.int .i64 kb.term.kind) ∧ wr.cell? ⟨bb, ob + i * 5 + 3, none⟩ = some (.int .i64 kb.term.arg) ∧ wr.cell? ⟨bb, ob + i * 5 + 4, none⟩ = some (.slice At kb.term.to.length ct)) ∧
      (SL wr 2 (RPhiS (fun y => y ≠ bb ∧ t ≤ y ∧ y < p)) Ap cp kb.phis ∧ SL wr 5 (RInsB (fun y => y ≠ bb ∧ p ≤ y ∧ y < hi)) Ai ci kb.ins ∧ SL wr 1 (RIntB (fun y => y ≠ bb ∧ lo ≤ y ∧ y < t)) At ct kb.term.to) ∧
      (I64 kb.term.kind ∧ I64 kb.term.arg) ∧ (0 < kb.phis.length → ∃ b o, Ap = some ⟨b, o, none⟩ ∧ FzC wr b) ∧ (0 < kb.term.to.length → ∃ b o, At = some ⟨b, o, none⟩ ∧ FzC wr b) :=
  blk_at (x := (kb, lo, hi)) hiv hR hF hbb hfr hx
/-- A row's own block, if it has elements; else some block that is not there yet. -/
theorem row_block {w : World} {A : Option Addr} {c Z sz : Nat} {S : Nat → Prop} {α : Type} {R : World → Nat → Nat → α → Prop} {xs : List α} (hR : ∀ b o x, R w b o x → S b) (h : SL w sz R A c xs) (hf : 0 < xs.length → ∃ b o, A = some ⟨b, o, none⟩ ∧ FzC w b) :
    ∃ bp op, (0 < xs.length → A = some ⟨bp, op, none⟩ ∧ FzC w bp) ∧ (S bp ∨ bp = Z) := by
  by_cases hp : 0 < xs.length
  · obtain ⟨b, o, e, hz⟩ := hf hp
    obtain ⟨b', o', x, e', hr⟩ := h.blk hp
    rw [e] at e'; cases e'
    exact ⟨b, o, fun _ => ⟨e, hz⟩, .inl (hR _ _ _ hr)⟩
  · exact ⟨Z, 0, fun h => absurd h hp, .inr rfl⟩
end Go.Proofs.Ytooblmiffgjmjaa
