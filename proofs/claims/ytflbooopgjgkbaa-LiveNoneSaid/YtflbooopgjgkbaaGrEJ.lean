/- Rows that a call owns, apart from one another. No condition. -/
import Derived.Test.YtflbooopgjgkbaaDmBJ
import Derived.Laws.OwnMore
import Derived.Test.YtflbooopgjgkbaaGrOJ
import Derived.RegionTactic
import Derived.Test.YtflbooopgjgkbaaArMJ
import Derived.Deep.QuietTactic
import Derived.BigQuiet
namespace Go.Proofs.Ytflbooopgjgkbaa
open Go.ChangeShapes Go.WideShapes Go.RowKit Go.Deep
set_option linter.unusedVariables false

/-- Of all that was there only the block of v may have changed; the value v' lies in that of v, or is new. -/
structure GroD (w w' : World) (v v' : Value) : Prop where
  os : w'.os = w.os
  tape : w'.tape = w.tape
  output : w'.output = w.output
  size : w.heap.size ≤ w'.heap.size
  block : ∀ k, k < w.heap.size → v.ownBlock ≠ some k → w'.heap[k]? = w.heap[k]?
  own : ∀ g, v'.ownBlock = some g → v.ownBlock = some g ∨ w.heap.size ≤ g
/-- One append of one element, which first lies in a block of its own. -/
theorem groD_append {w w1 : World} {o : Obj} {v : Value} {g n cap : Nat} (hg : (w.alloc o).grownBy w1 v.ownBlock) (hl : v.ownBlock = some g ∨ g = w.heap.size + 1) : GroD w w1 v (.slice (some ⟨g, 0, none⟩) n cap) :=
  ⟨hg.os, hg.tape, hg.output, Nat.le_trans (by simp) hg.size, fun k hk hv => (hg.block k (by simp; omega) (fun e => hv e.symm)).trans (Below.heap_alloc _ _ _ hk),
   fun x hx => by
    obtain rfl : g = x := Option.some.inj hx
    rcases hl with h | h
    · exact .inl h
    · exact .inr (by omega)⟩
theorem groD_drew {w w1 : World} {v v' : Value} (h : GroD w.drew w1 v v') : GroD w w1 v v' := ⟨h.os, h.tape, h.output, h.size, h.block, h.own⟩
/-- A store into an element of the row itself. -/
theorem groD_store (w : World) {g n cap j : Nat} (u : Value) : GroD w (w.setCell ⟨g, j, none⟩ u) (.slice (some ⟨g, 0, none⟩) n cap) (.slice (some ⟨g, 0, none⟩) n cap) :=
  ⟨rfl, rfl, rfl, by simp, fun k hk hv => Below.heap_setCell _ _ _ _ (fun e => hv (by show some g = some k; exact congrArg some e.symm)), fun x hx => .inl hx⟩
theorem GroD.fr {w w' : World} {v v' : Value} (h : GroD w w' v v') {X : Nat → Prop} {a : World} (ha : FrX X a w) (hv : ∀ g, v.ownBlock = some g → X g ∨ a.heap.size ≤ g) : FrX X a w' :=
  ⟨h.os.trans ha.os, h.tape.trans ha.tape, h.output.trans ha.output, Nat.le_trans ha.size h.size, fun k hk hx => (h.block k (Nat.lt_of_lt_of_le hk ha.size) (fun e => by
    rcases hv k e with h2 | h2
    · exact hx h2
    · omega)).trans (ha.block k hk hx)⟩

structure RowD where
  ty : TypeId
  size : Nat
  len : Nat
  xs : List Value
def OwnD (w : World) (K : Nat) (v : Value) (t : RowD) : Prop := w.ownsRow K t.ty t.size v t.len t.xs
/-- So many rows, apart from one another. -/
structure PoolD (w : World) (K m : Nat) (U : Nat → Value) (T : Nat → RowD) : Prop where
  own : ∀ i, i < m → OwnD w K (U i) (T i)
  ap : ∀ i j, i < m → j < m → i ≠ j → (U i).ownBlock = none ∨ (U i).ownBlock ≠ (U j).ownBlock
theorem PoolD.congr {w : World} {K m : Nat} {U U' : Nat → Value} {T T' : Nat → RowD} (h : PoolD w K m U T) (hu : ∀ i, i < m → U i = U' i) (ht : ∀ i, i < m → T i = T' i) : PoolD w K m U' T' :=
  ⟨fun i hi => by rw [← hu i hi, ← ht i hi]; exact h.own i hi, fun i j hi hj hij => by rw [← hu i hi, ← hu j hj]; exact h.ap i j hi hj hij⟩
theorem PoolD.go {w w' : World} {K m : Nat} {U : Nat → Value} {T : Nat → RowD} (h : PoolD w K m U T) (hb : ∀ k, K ≤ k → k < w.heap.size → w'.heap[k]? = w.heap[k]?) : PoolD w' K m U T :=
  ⟨fun i hi => ownsRow_block (h.own i hi) fun g hg => hb g ((h.own i hi).lt g hg).1 ((h.own i hi).lt g hg).2, h.ap⟩
theorem PoolD.gro {w w' : World} {K m t : Nat} {U : Nat → Value} {T : Nat → RowD} {v' : Value} {r : RowD} (h : PoolD w K m U T) (ht : t < m) (hg : GroD w w' (U t) v') (ho : OwnD w' K v' r) : PoolD w' K m (updF U t v') (updF T t r) := by
  have key : ∀ i, i < m → i ≠ t → (U i).ownBlock = none ∨ (U i).ownBlock ≠ v'.ownBlock := fun i hi hit => by
    cases hb : (U i).ownBlock with
    | none => exact .inl rfl
    | some b =>
      right
      intro e
      rcases hg.own b e.symm with h1 | h1
      · rcases h.ap i t hi ht hit with h2 | h2
        · rw [h2] at hb; cases hb
        · exact h2 (hb.trans h1.symm)
      · have := ((h.own i hi).lt b hb).2; omega
  refine ⟨fun i hi => ?_, fun i j hi hj hij => ?_⟩
  · by_cases e : i = t
    · subst e; rw [updF_here, updF_here]; exact ho
    · rw [updF_else _ _ e, updF_else _ _ e]
      refine ownsRow_block (h.own i hi) fun g hgi => hg.block g ((h.own i hi).lt g hgi).2 fun e2 => ?_
      rcases h.ap i t hi ht e with h2 | h2
      · rw [h2] at hgi; cases hgi
      · exact h2 (hgi.trans e2.symm)
  · by_cases ei : i = t
    · subst ei
      rw [updF_here, updF_else _ _ (Ne.symm hij)]
      rcases key j hj (Ne.symm hij) with h1 | h1
      · cases hv : v'.ownBlock with
        | none => exact .inl rfl
        | some b => right; rw [h1]; intro e; cases e
      · exact .inr (Ne.symm h1)
    · rw [updF_else _ _ ei]
      by_cases ej : j = t
      · subst ej; rw [updF_here]; exact key i hi ei
      · rw [updF_else _ _ ej]; exact h.ap i j hi hj hij
/-- One row more, with nothing in it. -/
theorem PoolD.more {w : World} {K m : Nat} {U : Nat → Value} {T : Nat → RowD} (h : PoolD w K m U T) (ty : TypeId) (size : Nat) : PoolD w K (m + 1) (updF U m (.slice none 0 0)) (updF T m ⟨ty, size, 0, []⟩) := by
  refine ⟨fun i hi => ?_, fun i j hi hj hij => ?_⟩
  · by_cases e : i = m
    · subst e; rw [updF_here, updF_here]; exact World.ownsRow_nil _ _ _ _
    · rw [updF_else _ _ e, updF_else _ _ e]; exact h.own i (by omega)
  · by_cases ei : i = m
    · subst ei; rw [updF_here]; exact .inl rfl
    · rw [updF_else _ _ ei]
      by_cases ej : j = m
      · subst ej; rw [updF_here]
        cases hb : (U i).ownBlock with
        | none => exact .inl rfl
        | some b => right; intro e; cases e
      · rw [updF_else _ _ ej]; exact h.ap i j (by omega) (by omega) hij
/-- An element of a row. -/
theorem own_cellD {w : World} {K n : Nat} {e : TypeId} {v : Value} {xs : List Value} (h : w.ownsRow K e 1 v n xs) {i : Nat} (hi : i < n) : ∃ g cap u, v = .slice (some ⟨g, 0, none⟩) n cap ∧ xs[i]? = some u ∧ w.cell? ⟨g, i, none⟩ = some u ∧ w.frozen? ⟨g, i, none⟩ = false ∧ K ≤ g ∧ g < w.heap.size := by
  obtain ⟨g, cap, rfl⟩ : ∃ g cap, v = .slice (some ⟨g, 0, none⟩) n cap := by
    rcases h.2 with ⟨_, h2⟩ | ⟨g, cap, cur, h2, _⟩
    · omega
    · exact ⟨g, cap, h2⟩
  have hl := h.1
  have hx : i < xs.length := by omega
  refine ⟨g, cap, xs[i], rfl, List.getElem?_eq_getElem hx, ?_, h.frozenAt i, (h.lt g rfl).1, (h.lt g rfl).2⟩
  rw [h.cellAt i (by omega)]; exact List.getElem?_eq_getElem hx
theorem map_range_snoc {α : Type} (f : Nat → α) (k : Nat) (x : α) : ((List.range k).map f ++ [x]) = (List.range (k + 1)).map (updF f k x) := by
  rw [List.range_succ, List.map_append, List.map_singleton, updF_here]
  congr 1
  exact List.map_congr_left fun v hv => (updF_else _ _ (by have := List.mem_range.1 hv; omega)).symm
theorem map_range_set {α : Type} (f : Nat → α) (k j : Nat) (x : α) : ((List.range k).map f).set j x = (List.range k).map (updF f j x) := by
  apply List.ext_getElem?
  intro i
  by_cases hik : i < k
  · by_cases e : i = j
    · subst e; simp [hik, updF]
    · simp [hik, updF, e, Ne.symm e]
  · simp [hik]
theorem map_range_at {α : Type} (f : Nat → α) {k i : Nat} {x : α} (h : ((List.range k).map f)[i]? = some x) : x = f i ∧ i < k := by
  rw [List.getElem?_map] at h
  obtain ⟨q, hq, rfl⟩ := Option.map_eq_some_iff.1 h
  obtain ⟨hl, rfl⟩ := List.getElem?_eq_some_iff.1 hq
  simp at hl ⊢; exact hl
end Go.Proofs.Ytflbooopgjgkbaa

/- slices.Reverse of a row of numbers that the caller owns. -/
namespace Go.Proofs.Ytflbooopgjgkbaa
open Go.ChangeShapes Go.WideShapes Go.RowKit Go.Deep
set_option linter.unusedVariables false

/-- Turned round from both ends, i elements deep. -/
def Turned (l l' : List Nat) (i : Nat) : Prop := l'.length = l.length ∧ ∀ p, p < l.length → l'[p]? = if p < i ∨ l.length - 1 - i < p then l[l.length - 1 - p]? else l[p]?
theorem Turned.zero (l : List Nat) : Turned l l 0 := ⟨rfl, fun p hp => by rw [if_neg (by omega)]⟩
theorem Turned.all {l l' : List Nat} {i : Nat} (h : Turned l l' i) (hi : l.length ≤ 2 * i + 1) : l' = l.reverse := by
  apply List.ext_getElem?
  intro p
  by_cases hp : p < l.length
  · rw [h.2 p hp, List.getElem?_reverse hp]
    split
    · rfl
    · congr 1; omega
  · rw [List.getElem?_eq_none (by rw [h.1]; omega), List.getElem?_eq_none (by simp; omega)]
theorem Turned.step {l l' : List Nat} {i x y : Nat} (h : Turned l l' i) (hi : i < l.length - 1 - i) (hx : l'[i]? = some x) (hy : l'[l.length - 1 - i]? = some y) : Turned l ((l'.set i y).set (l.length - 1 - i) x) (i + 1) := by
  have e1 := h.2 i (by omega)
  have e2 := h.2 (l.length - 1 - i) (by omega)
  rw [if_neg (by omega), hx] at e1
  rw [if_neg (by omega), hy] at e2
  refine ⟨by simp [h.1], fun p hp => ?_⟩
  rw [List.getElem?_set, List.getElem?_set]
  have hl := h.1
  by_cases c1 : l.length - 1 - i = p
  · subst c1
    rw [if_pos rfl, if_pos (by simp; omega), if_pos (by omega), show l.length - 1 - (l.length - 1 - i) = i by omega, ← e1]
  · rw [if_neg c1]
    by_cases c2 : i = p
    · subst c2
      rw [if_pos rfl, if_pos (by omega), if_pos (by omega), ← e2]
    · rw [if_neg c2, h.2 p hp]
      by_cases c3 : p < i ∨ l.length - 1 - i < p
      · rw [if_pos c3, if_pos (by omega)]
      · rw [if_neg c3, if_neg (by omega)]
theorem grown_refl (w : World) (row : Option Nat) : w.grownBy w row := ⟨rfl, rfl, rfl, Nat.le_refl _, fun _ _ _ => rfl⟩
theorem grown_trans {a b c : World} {row : Option Nat} (h : a.grownBy b row) (k : b.grownBy c row) : a.grownBy c row :=
  ⟨k.os.trans h.os, k.tape.trans h.tape, k.output.trans h.output, Nat.le_trans h.size k.size, fun i h1 h2 => (k.block i (Nat.lt_of_lt_of_le h1 h.size) h2).trans (h.block i h1 h2)⟩
theorem grown_drew (w : World) (row : Option Nat) : w.grownBy w.drew row := ⟨rfl, rfl, rfl, Nat.le_refl _, fun _ _ _ => rfl⟩
/-- A number of a row that the call owns. -/
theorem own_cell {w : World} {base n cap g : Nat} {l : List Nat} {i x : Nat} (h : w.ownsRow base 3 1 (.slice (some ⟨g, 0, none⟩) n cap) n ((zs l).map (Value.int .i64))) (hi : l[i]? = some x) : w.cell? ⟨g, i, none⟩ = some (.int .i64 x) := by
  have := h.cells (g := g) rfl i (.int .i64 x) (by simp [zs, hi])
  rwa [show (⟨g, 0, none⟩ : Addr).add i = ⟨g, i, none⟩ by unfold Addr.add; split <;> simp_all] at this
theorem zs_set (l : List Nat) (i x : Nat) : ((zs l).map (Value.int .i64)).set i (.int .i64 x) = (zs (l.set i x)).map (Value.int .i64) := by
  simp only [zs, List.map_set]
theorem ownsRow_drew {w : World} {base n size : Nat} {e : TypeId} {v : Value} {xs : List Value} (h : w.ownsRow base e size v n xs) : w.drew.ownsRow base e size v n xs := h

set_option maxRecDepth 100000 in
set_option maxHeartbeats 4000000 in
theorem reverse_any (base : Nat) (l : List Nat) (v : Value) (w : World) (h : w.ownsRow base 3 1 v l.length ((zs l).map (Value.int .i64))) (hl : l.length ≤ 1000000) :
    Calls Try.prog 64 #[v] w fun e w' => e = .returned (.tuple #[]) ∧ w'.ownsRow base 3 1 v l.length ((zs l.reverse).map (Value.int .i64)) ∧ w.grownBy w' v.ownBlock := by
  have h0 := h
  rcases h.2 with ⟨hv, hn⟩ | ⟨g, cap, cur, hv, -⟩
  · subst hv
    obtain rfl : l = [] := List.length_eq_zero_iff.1 hn
    clear h h0 hl hn
    go_enter Try.func64, Try.ntmps64
    go_wp2_with fail
    go_loopw [2, 3] (fun s2 s3 wr => s2 = .int .i64 0 ∧ s3 = .int .i64 (-1) ∧ wr = w) (fun _ _ _ => 0)
    case atStart => exact ⟨rfl, rfl, rfl⟩
    case round =>
      obtain ⟨rfl, rfl, rfl⟩ := hrel
      go_wp2_with fail
      go_end0
      exact ⟨rfl, World.ownsRow_nil _ _ _ _, grown_refl _ _⟩
  · subst hv
    have HO := Lib.hid h
    clear h h0
    go_enter Try.func64, Try.ntmps64
    go_wp2_with fail
    go_loopw [2, 3] (fun s2 s3 wr => ∃ (i : Nat) (jz : Int) (l' : List Nat), s2 = .int .i64 i ∧ s3 = .int .i64 jz ∧ jz = (l.length : Int) - 1 - i ∧ i ≤ l.length ∧ Turned l l' i ∧ wr.ownsRow base 3 1 (.slice (some ⟨g, 0, none⟩) l.length cap) l.length ((zs l').map (Value.int .i64)) ∧ w.grownBy wr (some g)) (fun s2 _ _ => l.length - (intOf s2).toNat)
    case atStart => exact ⟨0, _, l, rfl, rfl, by omega, Nat.zero_le _, Turned.zero l, HO.out, grown_refl _ _⟩
    case round =>
      obtain ⟨i, jz, l', rfl, rfl, hjz, hi, ht, hown, hg⟩ := hrel
      have HJ := Lib.hid hjz
      have HT := Lib.hid ht
      have HOW := Lib.hid hown
      have HG := Lib.hid hg
      clear hjz ht hown hg HO
      by_cases hlt : (i : Int) < jz
      · obtain ⟨j, rfl⟩ : ∃ j : Nat, jz = j := ⟨jz.toNat, by omega⟩
        have hij : i < j := by omega
        have hjl : j < l.length := by have := HJ.out; omega
        have HJN : Hid (j = l.length - 1 - i) := Lib.hid (by have := HJ.out; omega)
        obtain ⟨x, hx⟩ : ∃ x, l'[i]? = some x := ⟨_, List.getElem?_eq_getElem (by rw [HT.out.1]; omega)⟩
        obtain ⟨y, hy⟩ : ∃ y, l'[j]? = some y := ⟨_, List.getElem?_eq_getElem (by rw [HT.out.1]; omega)⟩
        have ci : wr.cell? ⟨g, i, none⟩ = some (.int .i64 x) := own_cell HOW.out hx
        have cj : wr.cell? ⟨g, j, none⟩ = some (.int .i64 y) := own_cell HOW.out hy
        have fi := HOW.out.frozenAt i
        have fj := HOW.out.frozenAt j
        have HX := Lib.hid hx
        have HY := Lib.hid hy
        clear hx hy
        go_wp2_with fail
        go_region
        all_goals
          go_wp2_with fail
          have h1 := HOW.out.stored i (.int .i64 y)
          have h2 := h1.1.stored j (.int .i64 x)
          rw [zs_set, zs_set] at h2
          have h3 : Turned l ((l'.set i y).set j x) (i + 1) := by
            have := HT.out.step (by have := HJN.out; omega) HX.out (by rw [← HJN.out]; exact HY.out)
            rwa [← HJN.out] at this
          have HS := Lib.hid (ownsRow_drew h2.1)
          have HGR := Lib.hid (grown_trans HG.out (grown_trans (grown_trans h1.2 h2.2) (grown_drew _ _)))
          go_roundw
          case rel => exact ⟨i + 1, (j : Int) - 1, (l'.set i y).set j x, by go_num, rfl, by have := HJ.out; push_cast; omega, by omega, h3, HS.out, HGR.out⟩
          case measure => simp [intOf]; omega
      · have hnot : ¬ ((i : Int) < jz) := hlt
        have hlen : Hid (l.length ≤ 2 * i + 1) := Lib.hid (by have := HJ.out; omega)
        go_wp2_with fail
        go_end0
        exact ⟨rfl, by rw [← HT.out.all hlen.out]; exact HOW.out, HG.out⟩
end Go.Proofs.Ytflbooopgjgkbaa

/- The program's Order, Reached. -/
namespace Go.Proofs.Ytflbooopgjgkbaa
open Go.ChangeShapes Go.WideShapes Go.RowKit Go.Deep
set_option linter.unusedVariables false

theorem orderF_len (bs : List BlkD) : (orderF bs).length ≤ bs.length := orderL_len (nxF_lt bs)
theorem orderF_lt {bs : List BlkD} {x : Nat} (h : x ∈ orderF bs) : x < bs.length := orderL_lt (nxF_lt bs) h
theorem doneL_len (nx : Nat → List Nat) (n : Nat) : (orderL nx n).length = (doneL nx n).length := by simp [orderL]
theorem below_grown {n : Nat} {w w' : World} {row : Option Nat} (h : w.grownBy w' row) (hr : ∀ k, row = some k → n ≤ k) (hn : n ≤ w.heap.size) : Below n w w' :=
  ⟨h.os, h.tape, h.output, h.size, fun k hk => h.block k (by omega) (fun e => by have := hr k e.symm; omega)⟩

def ToldO_ (bs : List BlkD) (w : World) (e : Ending) (w' : World) : Prop :=
  (∃ v, e = .returned v ∧ w'.ownsRow w.heap.size 3 1 v (orderF bs).length ((zs (orderF bs)).map (Value.int .i64))) ∧ Below w.heap.size w w'

set_option maxRecDepth 100000 in
set_option maxHeartbeats 4000000 in
theorem order_any (f : FunD) (v : Value) (w : World) (hv : VFun w v f) (hn : f.blocks.length ≤ 1000) :
    Calls Try.prog 45 #[v] w (ToldO_ f.blocks w) := by
  have hv0 := hv
  obtain ⟨Ar, cr, A, c, rfl, hr, hb, hp64, hr64⟩ := hv
  clear hr hb hp64 hr64
  go_enter Try.func45, Try.ntmps45
  go_upto_region 1 with fail
  obtain ⟨w1, hw1, hs1, hk1, hbel1, hc1, -⟩ := named w #[.int .i64 f.params, .int .i64 f.result, .slice Ar f.regs.length cr, .slice A f.blocks.length c] 25
  rw [← hw1]
  have c0 := hc1 0 _ rfl
  have c1 := hc1 1 _ rfl
  have c2 := hc1 2 _ rfl
  have c3 := hc1 3 _ rfl
  have HB1 := Lib.hid hbel1
  have HN := Lib.hid (next_any f _ w1 (VFun.keep hk1 hv0) (by omega))
  clear hw1 hs1 hbel1 hc1 hv0 hk1
  go_wp2_with fail
  refine HN.out.mono ?_
  rintro e w2 ⟨⟨V, G, rfl, hG, hg⟩, hb2⟩
  have HB2 : Hid (Below w.heap.size w w2) := Lib.hid (HB1.out.trans (hb2.mono HB1.out.size))
  have HK := Lib.hid (backwards_any G (G + 2) f.blocks.length V (nxF f.blocks) w2 hg hn (nxF_lt f.blocks))
  have HG : Hid (w.heap.size ≤ G) := Lib.hid (Nat.le_trans HB1.out.size hG)
  clear c0 c1 c2 c3 hG hg hb2 HN
  go_wp2_with fail
  refine HK.out.mono ?_
  rintro e w3 ⟨⟨vd, rfl, hown⟩, hb3⟩
  have HB3 : Hid (Below w.heap.size w w3) := Lib.hid (HB2.out.trans (hb3.below HB2.out.size HG.out))
  have hown' := own_base hown (base' := w.heap.size) HB2.out.size
  have HR := Lib.hid (reverse_any w.heap.size (doneL (nxF f.blocks) f.blocks.length) vd w3 hown' (by have := orderF_len f.blocks; rw [← doneL_len]; unfold orderF at this; omega))
  have HO := Lib.hid hown'
  clear hown hown' hb3 HK
  go_wp2_with fail
  refine HR.out.mono ?_
  rintro e w4 ⟨rfl, hown4, hg4⟩
  have HO4 := Lib.hid hown4
  have HB4 : Hid (Below w.heap.size w w4) := Lib.hid (HB3.out.trans (below_grown hg4 (fun k hk => (HO.out.lt k hk).1) HB3.out.size))
  clear hown4 hg4 HR
  go_wp2_with fail
  go_ret
  exact ⟨⟨vd, rfl, by have := HO4.out; rw [← doneL_len] at this; exact this⟩, HB4.out⟩

def ToldR_ (bs : List BlkD) (w : World) (e : Ending) (w' : World) : Prop :=
  (∃ H, e = .returned (.slice (some ⟨H, 0, none⟩) bs.length bs.length) ∧ w.heap.size ≤ H ∧ w'.rowIs H 4 bs.length (fun x => .bool (reachF bs x))) ∧ Below w.heap.size w w'
def tookB (l : List Nat) (k x : Nat) : Bool := decide (x ∈ l.take k)
theorem takesB_succ {l : List Nat} {k q : Nat} (h : l[k]? = some q) (x : Nat) : tookB l (k + 1) x = if x = q then true else tookB l k x := by
  unfold tookB
  rw [take_succ_of h]
  by_cases e : x = q
  · simp [e]
  · simp [e]
theorem takesB_all {bs : List BlkD} {k : Nat} (h : (orderF bs).length ≤ k) (x : Nat) : tookB (orderF bs) k x = reachF bs x := by
  unfold tookB reachF reachB orderF at *
  rw [List.take_of_length_le h]

end Go.Proofs.Ytflbooopgjgkbaa

/- The reference's Small: what it lets by is small. -/
namespace Go.Proofs.Ytflbooopgjgkbaa
open Go.ChangeShapes Go.WideShapes Go.RowKit Go.Deep
set_option linter.unusedVariables false

def Says (p : Prop) (B : Nat) (w : World) (e : Ending) (w' : World) : Prop := (∃ b : Bool, e = .returned (.bool b) ∧ (b = true → p)) ∧ Below B w w'
theorem Says.no {p : Prop} {B : Nat} {w w' : World} (h : Below B w w') : Says p B w (.returned (.bool false)) w' := ⟨⟨false, rfl, fun h => by cases h⟩, h⟩

set_option maxRecDepth 100000 in
set_option maxHeartbeats 4000000 in
theorem small_any (m : List FunD) (v : Value) (w : World) (hv : VMod w v m) :
    Calls Try.prog 19 #[v] w (Says (SmallM m) w.heap.size w) := by
  obtain ⟨A, c, rfl, hm⟩ := hv
  have hml := hm.len
  by_cases h40 : 40 < m.length
  · go_enter Try.func19, Try.ntmps19
    go_wp2_with fail
    go_ret
    exact Says.no ((Below.refl _ _).alloc (Nat.le_refl _) _)
  · go_enter Try.func19, Try.ntmps19
    go_wp2_with fail
    obtain ⟨w1, hw1, hs1, hk1, hbel1, hc1, -⟩ := named w #[.slice A m.length c] 38
    have hc1 := hc1 0 _ rfl
    have hs1 : w.heap.size < w1.heap.size := by omega
    rw [← hw1]
    clear hw1
    go_loopw [3] (fun i wr => ∃ k : Nat, k ≤ m.length ∧ i = .int .i64 k ∧ Below w1.heap.size w1 wr ∧ Upto SmallF m k) (fun i _ => m.length - (intOf i).toNat)
    case atStart => exact ⟨0, Nat.zero_le _, rfl, Below.refl _ _, Upto.zero⟩
    case round =>
      obtain ⟨k, hk, rfl, hbel, hup⟩ := hrel
      obtain ⟨wo, rfl⟩ : ∃ wo, wo = wr := ⟨wr, rfl⟩
      have hs := hbel.size
      have hkw : Kept w1 wo := kept_of_below hbel
      have hbox := hkw _ _ hc1
      have hB : Below w.heap.size w wo := hbel1.trans (hbel.mono (by omega))
      by_cases hlt : k < m.length
      · obtain ⟨b, o, f, rfl, hf, ⟨hp, -⟩, ⟨hr, -⟩, ⟨Ar, cr, hreg, hregs⟩, ⟨Ab, cb, hblk, hblks⟩⟩ := (SFuns.keep (hk1.trans hkw) hm).at_ hlt
        have hrl := hregs.len
        have hbl := hblks.len
        by_cases hok : f.blocks.length ≤ 70 ∧ f.regs.length ≤ 300 ∧ f.params ≤ 1000
        · obtain ⟨ho1, ho2, ho3⟩ := hok
          go_wp2_with fail
          clear hp hr hreg
          obtain ⟨w2, hw2, hs2, hk2, hbel2, hc2, -⟩ := named wo #[.int .i64 f.params, .int .i64 f.result, .slice Ar f.regs.length cr, .slice Ab f.blocks.length cb] 25
          have hc2 := hc2 3 _ rfl
          have hs2 : wo.heap.size < w2.heap.size := by omega
          rw [← hw2]
          clear hw2 hblk
          go_loopw [5] (fun i wr => ∃ j : Nat, j ≤ f.blocks.length ∧ i = .int .i64 j ∧ Below w2.heap.size w2 wr ∧ Upto SmallB f.blocks j) (fun i _ => f.blocks.length - (intOf i).toNat)
          case atStart => exact ⟨0, Nat.zero_le _, rfl, Below.refl _ _, Upto.zero⟩
          case round =>
            obtain ⟨j, hj, rfl, hbel', hup'⟩ := hrel
            have hs' := hbel'.size
            have hkw' : Kept w2 wr := kept_of_below hbel'
            have hbox' := hkw' _ _ hc2
            have hB' : Below w.heap.size w wr := hB.trans ((hbel2.mono (by omega)).trans (hbel'.mono (by omega)))
            by_cases hlt' : j < f.blocks.length
            · obtain ⟨b', o', kb, rfl, hkb, ⟨Ap, cp, hphi, hphis⟩, ⟨Ai, ci, hins, hinss⟩, ⟨hkd, -⟩, ⟨har, -⟩, ⟨At, ct, hto, htos⟩⟩ := (SBlks.keep (hk2.trans hkw') hblks).at_ hlt'
              have hpl := hphis.len
              have hil := hinss.len
              have htl := htos.len
              by_cases hok' : kb.ins.length ≤ 300 ∧ kb.phis.length ≤ 300 ∧ kb.term.to.length ≤ 70
              · obtain ⟨hp1, hp2, hp3⟩ := hok'
                go_wp2_with fail
                clear hphi hkd har hto
                obtain ⟨w3, hw3, hs3, hk3, hbel3, hc3, -⟩ := named wr #[.slice Ap kb.phis.length cp, .slice Ai kb.ins.length ci, .int .i64 kb.term.kind, .int .i64 kb.term.arg, .slice At kb.term.to.length ct] 52
                have hc30 := hc3 0 _ rfl
                have hc31 := hc3 1 _ rfl
                have hs3 : wr.heap.size < w3.heap.size := by omega
                have hB3 : Below w.heap.size w w3 := hB'.trans (hbel3.mono (by omega))
                rw [← hw3]
                clear hw3 hins hc3
                have hinss3 := SInss.keep hk3 hinss
                have hphis3 := SPhis.keep hk3 hphis
                clear hinss hphis
                go_loopw [7] (fun i wi => ∃ n q : Nat, n ≤ kb.ins.length ∧ i = .int .i64 n ∧ wi = w3.drewN q ∧ Upto (fun x : InsD => x.args.length ≤ 300) kb.ins n) (fun i _ => kb.ins.length - (intOf i).toNat)
                case atStart => exact ⟨0, 0, Nat.zero_le _, rfl, rfl, Upto.zero⟩
                case round =>
                  obtain ⟨n, q, hn, rfl, rfl, hup3⟩ := hrel
                  by_cases hlt3 : n < kb.ins.length
                  · obtain ⟨b3, o3, x, rfl, hx, -, -, ⟨Aa, ca, hag, hags⟩, -, -⟩ := hinss3.at_ hlt3
                    have hal := hags.len
                    by_cases hok3 : x.args.length ≤ 300
                    · go_wp2_with fail
                      go_roundw
                      case rel => exact ⟨n + 1, _, by omega, by go_num, rfl, hup3.succ hx.out hok3⟩
                      case measure => simp [intOf]; omega
                    · go_wp2_with fail
                      go_ret
                      exact Says.no (below_drewN hB3 _)
                  · go_wp2_with fail
                    have hi3 := hup3.all (by omega)
                    have HI3 := Lib.hid hi3
                    clear hi3 hup3
                    go_loopw [8] (fun i wi => ∃ n q : Nat, n ≤ kb.phis.length ∧ i = .int .i64 n ∧ wi = w3.drewN q ∧ Upto (fun x : PhiD => x.args.length ≤ 300) kb.phis n) (fun i _ => kb.phis.length - (intOf i).toNat)
                    case atStart => exact ⟨0, q, Nat.zero_le _, rfl, rfl, Upto.zero⟩
                    case round =>
                      obtain ⟨n', q', hn', rfl, rfl, hup4⟩ := hrel
                      by_cases hlt4 : n' < kb.phis.length
                      · obtain ⟨b4, o4, x, rfl, hx, -, ⟨Aa, ca, hag, hags⟩⟩ := hphis3.at_ hlt4
                        have hal := hags.len
                        by_cases hok3 : x.args.length ≤ 300
                        · go_wp2_with fail
                          go_roundw
                          case rel => exact ⟨n' + 1, _, by omega, by go_num, rfl, hup4.succ hx.out hok3⟩
                          case measure => simp [intOf]; omega
                        · go_wp2_with fail
                          go_ret
                          exact Says.no (below_drewN hB3 _)
                      · go_wp2_with fail
                        go_roundw
                        case rel => exact ⟨j + 1, by omega, by go_num, below_drewN ((hbel'.trans (hbel3.mono (by omega)))) _, hup'.succ hkb.out ⟨hp1, hp2, hp3, HI3.out, hup4.all (by omega)⟩⟩
                        case measure => simp [intOf]; omega
              · have hno : 300 < kb.ins.length ∨ 300 < kb.phis.length ∨ 70 < kb.term.to.length := by omega
                clear hok'
                by_cases hq1 : 300 < kb.ins.length
                · clear hno
                  go_wp2_with fail
                  all_goals (go_ret; exact Says.no (hB'.alloc (by omega) _))
                · by_cases hq2 : 300 < kb.phis.length
                  · clear hno
                    go_wp2_with fail
                    all_goals (go_ret; exact Says.no (hB'.alloc (by omega) _))
                  · have hq3 : 70 < kb.term.to.length := by omega
                    clear hno
                    go_wp2_with fail
                    all_goals (go_ret; exact Says.no (hB'.alloc (by omega) _))
            · go_wp2_with fail
              go_roundw
              case rel => exact ⟨k + 1, by omega, by go_num, hbel.trans ((hbel2.mono (by omega)).trans (hbel'.mono (by omega))), hup.succ hf.out ⟨ho1, ho2, ho3, hup'.all (by omega)⟩⟩
              case measure => simp [intOf]; omega
        · have hno : 70 < f.blocks.length ∨ 300 < f.regs.length ∨ 1000 < f.params := by omega
          clear hok
          by_cases hq1 : 70 < f.blocks.length
          · clear hno
            go_wp2_with fail
            all_goals (go_ret; exact Says.no (hB.alloc (by omega) _))
          · by_cases hq2 : 300 < f.regs.length
            · clear hno
              go_wp2_with fail
              all_goals (go_ret; exact Says.no (hB.alloc (by omega) _))
            · have hq3 : 1000 < f.params := by omega
              clear hno
              go_wp2_with fail
              all_goals (go_ret; exact Says.no (hB.alloc (by omega) _))
      · go_wp2_with fail
        go_ret
        exact ⟨⟨true, rfl, fun _ => ⟨by omega, hup.all (by omega)⟩⟩, hB⟩
end Go.Proofs.Ytflbooopgjgkbaa

/- The reference of layer 5: Next; and small, Ints of the statements. -/
namespace Go.Proofs.Ytflbooopgjgkbaa
open Go.ChangeShapes Go.WideShapes Go.RowKit Go.Deep
set_option linter.unusedVariables false

theorem sameInts_any (a b : List Int) (v u : Value) (w : World) (hv : VS w 1 RInt v a) (hu : VS w 1 RInt u b) :
    Calls Try.prog 14 #[v, u] w fun e w' => e = .returned (.bool (decide (a = b))) ∧ ∃ n, w' = w.drewN n := by
  obtain ⟨A, c, rfl, ha⟩ := hv
  obtain ⟨B, d, rfl, hb⟩ := hu
  have hal := ha.len
  have hbl := hb.len
  by_cases hl : a.length = b.length
  · have hne : ((a.length : Int) != b.length) = false := by simp [hl]
    have HL := Lib.hid hl
    clear hl
    go_enter Try.func14, Try.ntmps14
    go_wp2_with fail
    go_loopw [5] (fun i wr => ∃ k q : Nat, k ≤ a.length ∧ i = .int .i64 k ∧ wr = w.drewN q ∧ a.take k = b.take k) (fun i _ => a.length - (intOf i).toNat)
    case atStart => exact ⟨0, 0, Nat.zero_le _, rfl, rfl, by simp⟩
    case round =>
      obtain ⟨k, q, hk, rfl, rfl, hsame⟩ := hrel
      have HS := Lib.hid hsame
      clear hsame
      by_cases hlt : k < a.length
      · obtain ⟨b1, o1, x, rfl, hx, hxc, -⟩ := ha.int hlt
        have hkb : k < b.length := by have := HL.out; omega
        obtain ⟨b2, o2, y, rfl, hy, hyc, -⟩ := hb.int hkb
        have hk0 : (0 : Int) ≤ k := by omega
        have hk1 : (k : Int) < a.length := by omega
        have hk2 : (k : Int) < b.length := by omega
        by_cases hxy : x = y
        · have hb1 : (x != y) = false := by simp [hxy]
          have hsn : Hid (a.take (k + 1) = b.take (k + 1)) := Lib.hid (by rw [take_succ_of hx.out, take_succ_of hy.out, HS.out, hxy])
          clear hxy
          go_wp2_with fail
          go_quiet (fail)
          go_wp2_with fail
          go_roundw
          case rel => exact ⟨k + 1, _, by omega, by go_num, rfl, hsn.out⟩
          case measure => simp [intOf]; omega
        · have hb1 : (x != y) = true := by simpa using hxy
          have hne2 : Hid (decide (a = b) = false) := Lib.hid (decide_eq_false (fun e => hxy (by have h1 := hx.out; rw [e, hy.out] at h1; exact (Option.some.inj h1).symm)))
          clear hxy
          go_wp2_with fail
          go_quiet (fail)
          go_wp2_with fail
          go_ret
          exact ⟨(show Ending.returned (.bool false) = .returned (.bool (decide (a = b))) by rw [hne2.out]), _, World.drewN_drewN _ _ _⟩
      · have hyes : Hid (decide (a = b) = true) := Lib.hid (decide_eq_true (by
          have h1 := HS.out
          rwa [List.take_of_length_le (by omega), List.take_of_length_le (by have := HL.out; omega)] at h1))
        go_wp2_with fail
        go_ret
        exact ⟨(show Ending.returned (.bool true) = .returned (.bool (decide (a = b))) by rw [hyes.out]), _, rfl⟩
  · have hne : ((a.length : Int) != b.length) = true := by simp; omega
    have hno : decide (a = b) = false := decide_eq_false (fun e => hl (by rw [e]))
    rw [hno]
    clear hl hno
    go_enter Try.func14, Try.ntmps14
    go_wp2_with fail
    go_ret
    exact ⟨rfl, 0, rfl⟩

/-! ### Next -/
def outB (n : Nat) (x : Int) : Bool := decide (x < 0) || decide ((n : Int) ≤ x)
def hasB (n : Nat) (acc : List Nat) (x : Int) (i : Nat) : Bool := outB n x || decide (∃ q ∈ acc.take i, (q : Int) = x)
theorem hasB_step {n : Nat} {acc : List Nat} {x : Int} {i q : Nat} (h : acc[i]? = some q) : hasB n acc x (i + 1) = (hasB n acc x i || ((q : Int) == x)) := by
  unfold hasB
  rw [take_succ_of h, Bool.or_assoc]
  congr 1
  rw [Bool.eq_iff_iff, Bool.or_eq_true, decide_eq_true_iff, decide_eq_true_iff, beq_iff_eq]
  constructor
  · rintro ⟨p, hp, e⟩
    rcases List.mem_append.1 hp with hp | hp
    · exact .inl ⟨p, hp, e⟩
    · rw [List.mem_singleton.1 hp] at e; exact .inr e
  · rintro (⟨p, hp, e⟩ | e)
    · exact ⟨p, List.mem_append.2 (.inl hp), e⟩
    · exact ⟨q, by simp, e⟩
theorem addT_has {n : Nat} {acc : List Nat} {x : Int} (h : hasB n acc x acc.length = true) : addT n acc x = acc := by
  apply addT_old
  rintro ⟨h1, h2, h3⟩
  unfold hasB outB at h
  rw [List.take_length] at h
  simp only [Bool.or_eq_true, decide_eq_true_iff] at h
  rcases h with (h | h) | ⟨q, hq, e⟩
  · omega
  · omega
  · exact h3 (by rw [← e]; simpa using hq)
theorem addT_has_not {n : Nat} {acc : List Nat} {x : Int} (h : hasB n acc x acc.length = false) : 0 ≤ x ∧ x < n ∧ addT n acc x = acc ++ [x.toNat] := by
  unfold hasB outB at h
  rw [List.take_length] at h
  simp only [Bool.or_eq_false_iff, decide_eq_false_iff_not] at h
  obtain ⟨⟨h1, h2⟩, h3⟩ := h
  refine ⟨by omega, by omega, ?_⟩
  unfold addT
  rw [if_pos ⟨by omega, by omega, fun hm => h3 ⟨_, hm, by omega⟩⟩]

def ToldN_ (bs : List BlkD) (a : Nat) (w : World) (e : Ending) (w' : World) : Prop :=
  (∃ v, e = .returned v ∧ w'.ownsRow w.heap.size 3 1 v (nxF bs a).length ((zs (nxF bs a)).map (Value.int .i64))) ∧ Below w.heap.size w w'

set_option maxRecDepth 100000 in
set_option maxHeartbeats 4000000 in
theorem refNext_any (f : FunD) (a : Nat) (v : Value) (w : World) (hv : VFun w v f) (hn : f.blocks.length ≤ 1000000) (ha : a < f.blocks.length) :
    Calls Try.prog 52 #[v, .int .i64 a] w (ToldN_ f.blocks a w) := by
  obtain ⟨Ar, cr, A, c, rfl, -, hb, -, -⟩ := hv
  have hbl := hb.len
  obtain ⟨i0, hi, hz0, hz1, hz2⟩ := info_parts Try.info3
  have HI := Lib.hid (And.intro hi (And.intro hz0 (And.intro hz1 hz2)))
  clear hi hz0 hz1 hz2
  have ha0 : (0 : Int) ≤ a := by omega
  have ha1 : (a : Int) < f.blocks.length := by omega
  go_enter Try.func52, Try.ntmps52
  go_wp2_with fail
  obtain ⟨w1, hw1, hs1, hk1, hbel1, hc1, -⟩ := named w #[.int .i64 f.params, .int .i64 f.result, .slice Ar f.regs.length cr, .slice A f.blocks.length c] 25
  have c3 := hc1 3 _ rfl
  rw [← hw1]
  have HB1 := Lib.hid hbel1
  have HS1 : Hid (w.heap.size ≤ w1.heap.size) := Lib.hid (by omega)
  obtain ⟨b, o, kb, rfl, hkb, -, -, -, -, A', c', hto, htos⟩ := (SBlks.keep hk1 hb).at_ ha
  have htl := htos.len
  have HT := Lib.hid (nxF_at hkb.out)
  clear hw1 hs1 hk1 hbel1 hc1 hb
  go_loopw [5, 6] (fun out i wr => ∃ k : Nat, k ≤ kb.term.to.length ∧ i = .int .i64 k ∧ Below w1.heap.size w1 wr ∧
    wr.ownsRow w1.heap.size 3 1 out (nextN f.blocks.length (kb.term.to.take k)).length ((zs (nextN f.blocks.length (kb.term.to.take k))).map (Value.int .i64))) (fun _ i _ => kb.term.to.length - (intOf i).toNat)
  case atStart => exact ⟨0, Nat.zero_le _, rfl, Below.refl _ _, rfl, .inl ⟨rfl, rfl⟩⟩
  case round =>
    obtain ⟨k, hk, rfl, hbel, hown⟩ := hrel
    have hs := hbel.size
    have hkw : Kept w1 wr := kept_of_below hbel
    have hbox := hkw _ _ c3
    have htoc := hkw _ _ hto
    by_cases hlt : k < kb.term.to.length
    · obtain ⟨b', o', x, rfl, hx, hxc, -⟩ := (SInts.keep hkw htos).int hlt
      have HST := Lib.hid (nextN_step (n := f.blocks.length) hx.out)
      have hfew := nextN_few f.blocks.length (kb.term.to.take k)
      have HBEL := Lib.hid hbel
      have HKW := Lib.hid hkw
      clear hbel hkw
      have hmem : ∀ q ∈ nextN f.blocks.length (kb.term.to.take k), q < f.blocks.length := fun q hq => (nextN_mem.1 hq).1
      generalize nextN f.blocks.length (kb.term.to.take k) = acc at *
      obtain ⟨Ao, co, rfl, hso⟩ := slB_of_own (B := fun _ => True) (xs := zs acc) (by rw [zs_len]; exact hown) (fun y hy => by obtain ⟨q, hq, rfl⟩ := zs_mem hy; have := hmem q hq; unfold I64; omega) (fun _ _ _ => trivial)
      rw [zs_len] at hown ⊢
      have HOWN := Lib.hid hown
      have HM := Lib.hid hmem
      clear hown hmem
      go_upto_region 6 with fail
      go_cut [8] (fun s8 wx => s8 = .bool (outB f.blocks.length x) ∧ wx = wr)
      case first =>
        by_cases h0 : x < 0
        · have e : outB f.blocks.length x = true := by unfold outB; simp [h0]
          go_wp2_with fail
          go_meet
          exact ⟨by rw [e], rfl⟩
        · by_cases h1 : (f.blocks.length : Int) ≤ x
          · have e : outB f.blocks.length x = true := by unfold outB; simp [h1]
            go_wp2_with fail
            go_meet
            exact ⟨by rw [e], rfl⟩
          · have e : outB f.blocks.length x = false := by unfold outB; simp; omega
            have h1' : decide ((f.blocks.length : Int) ≤ x) = false := decide_eq_false h1
            go_wp2_with fail
            go_meet
            exact ⟨by rw [e], rfl⟩
      case rest =>
        obtain ⟨rfl, rfl⟩ := hcut
        have hal : acc.length ≤ 1000000 := by omega
        go_wp2_with fail
        go_loop [8, 9] (fun h i => ∃ j : Nat, j ≤ acc.length ∧ i = .int .i64 j ∧ h = .bool (hasB f.blocks.length acc x j)) (fun _ i => acc.length - (intOf i).toNat)
        case atStart => exact ⟨0, Nat.zero_le _, rfl, by unfold hasB; simp⟩
        case round =>
          obtain ⟨j, hj, rfl, rfl⟩ := hrel
          by_cases hjt : j < acc.length
          · obtain ⟨bo, oo, y, rfl, hy, -, hyc, -⟩ := hso.at_ (k := j) (by rw [zs_len]; exact hjt)
            obtain ⟨q, hq, rfl⟩ := zs_at hy.out
            have hyc : wc.cell? ⟨bo, oo + j, none⟩ = some (.int .i64 (q : Int)) := by rw [Nat.mul_one] at hyc; exact hyc
            have HSTEP := Lib.hid (hasB_step (n := f.blocks.length) (x := x) hq)
            have hj0 : (0 : Int) ≤ j := by omega
            have hj1 : (j : Int) < acc.length := by omega
            clear hq hso
            generalize hasB f.blocks.length acc x j = h0 at *
            cases h0
            · cases hqx : ((q : Int) == x)
              · have HQ := Lib.hid hqx
                go_wp2_with fail
                go_round
                case rel => exact ⟨j + 1, by omega, by go_num, by rw [HSTEP.out, HQ.out]; rfl⟩
                case measure => simp [intOf]; omega
              · have HQ := Lib.hid hqx
                go_wp2_with fail
                go_round
                case rel => exact ⟨j + 1, by omega, by go_num, by rw [HSTEP.out, HQ.out]; rfl⟩
                case measure => simp [intOf]; omega
            · go_wp2_with fail
              go_round
              case rel => exact ⟨j + 1, by omega, by go_num, by rw [HSTEP.out]; rfl⟩
              case measure => simp [intOf]; omega
          · obtain rfl : j = acc.length := by omega
            cases hh : hasB f.blocks.length acc x acc.length
            · have HH := Lib.hid (addT_has_not hh)
              clear hh hjt hj
              go_wp2_with (at_builtin; refine wpList_append_lies _ rfl (.tmp 58) (.tmp 60) 22 rfl w1.heap.size 3 i0 (.int .i64 0) 1 8 Try.underlying22 HI.out.1 HI.out.2.1 HI.out.2.2.1 HI.out.2.2.2 rfl (by decide) _ _ _ rfl (HOWN.out.alloc _) ⟨wc.heap.size, 0, none⟩ 1 1 [.int .i64 x] rfl rfl ?d1 ?d2 ?d0 ?d3 ?d4 ?d5 (wc.heap.size + 1) ?d6 ?_)
              case d2 => rfl
              case d3 => unfold maxLen; omega
              case d4 => omega
              case d5 => omega
              intro g cap w3 hown3 hgrow3 hloc3 hlt3
              have hb3 : Below w1.heap.size w1 w3 := (HBEL.out.alloc hs _).grown hgrow3 (by simp; omega) (fun g hg => (HOWN.out.lt g hg).1)
              obtain ⟨q, hq⟩ : ∃ q : Nat, x = q := ⟨x.toNat, by have := HH.out; omega⟩
              have hnew : w3.ownsRow w1.heap.size 3 1 (.slice (some ⟨g, 0, none⟩) (acc.length + 1) cap) (nextN f.blocks.length (kb.term.to.take (k + 1))).length ((zs (nextN f.blocks.length (kb.term.to.take (k + 1)))).map (Value.int .i64)) := by
                rw [HST.out, HH.out.2.2, hq]
                simpa [zs, hq] using hown3
              have HNEW := Lib.hid hnew
              have HB3 := Lib.hid hb3
              clear hown3 hgrow3 hloc3 hnew hb3 hq
              go_wp2_with fail
              go_roundw
              case rel => exact ⟨k + 1, by omega, by go_num, HB3.out, HNEW.out⟩
              case measure => simp [intOf]; omega
            · have HH := Lib.hid (addT_has hh)
              have HOWN2 : Hid (wc.ownsRow w1.heap.size 3 1 (.slice Ao acc.length co) (nextN f.blocks.length (kb.term.to.take (k + 1))).length ((zs (nextN f.blocks.length (kb.term.to.take (k + 1)))).map (Value.int .i64))) := Lib.hid (by rw [HST.out, HH.out]; exact HOWN.out)
              clear hh hjt hj
              go_wp2_with fail
              go_roundw
              case rel => exact ⟨k + 1, by omega, by go_num, HBEL.out, HOWN2.out⟩
              case measure => simp [intOf]; omega
    · have hjj : kb.term.to.take k = kb.term.to := List.take_of_length_le (by omega)
      rw [hjj, ← HT.out] at hown
      have HO := Lib.hid (own_base hown (base' := w.heap.size) HS1.out)
      have HBF : Hid (Below w.heap.size w wr) := Lib.hid (HB1.out.trans (hbel.mono HB1.out.size))
      clear hjj hown hbel hkw
      go_wp2_with fail
      go_ret
      exact ⟨⟨_, rfl, HO.out⟩, HBF.out⟩
end Go.Proofs.Ytflbooopgjgkbaa
