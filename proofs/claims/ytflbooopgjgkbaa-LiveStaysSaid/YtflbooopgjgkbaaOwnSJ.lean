/- The program's Next: a row of rows, row i what block i leads to. -/
import Derived.Test.YtflbooopgjgkbaaGrUJ
import Derived.Test.YtflbooopgjgkbaaDmFrJ
import Derived.Deep.DeepCutAuto
import Derived.Laws.OwnMore
import Derived.Test.YtflbooopgjgkbaaArMJ
import Derived.Deep.AppendLies
import Derived.Deep.OwnRows
namespace Go.Proofs.Ytflbooopgjgkbaa
open Go.ChangeShapes Go.WideShapes Go.RowKit Go.Deep
set_option linter.unusedVariables false

/-! ### A row of rows of the call's own -/
structure Gri (w : World) (G K n : Nat) (V : Nat → Value) (L : Nat → List Int) : Prop where
  row : w.rowIs G 22 n V
  own : ∀ i, i < n → w.ownsRow K 3 1 (V i) (L i).length ((L i).map (Value.int .i64))
  apart : ∀ i j, i < n → j < n → i ≠ j → (V i).ownBlock = none ∨ (V i).ownBlock ≠ (V j).ownBlock
  lt : G < K

theorem Gri.congr {w : World} {G K n : Nat} {V : Nat → Value} {L L' : Nat → List Int} (h : Gri w G K n V L) (e : ∀ i, i < n → L i = L' i) : Gri w G K n V L' :=
  ⟨h.row, fun i hi => by rw [← e i hi]; exact h.own i hi, h.apart, h.lt⟩
theorem Gri.alloc {w : World} {G K n : Nat} {V : Nat → Value} {L : Nat → List Int} (h : Gri w G K n V L) (o : Obj) : Gri (w.alloc o) G K n V L :=
  ⟨h.row.alloc o, fun i hi => (h.own i hi).alloc o, h.apart, h.lt⟩
theorem Gri.drewN {w : World} {G K n : Nat} {V : Nat → Value} {L : Nat → List Int} (h : Gri w G K n V L) (k : Nat) : Gri (w.drewN k) G K n V L := ⟨h.row, h.own, h.apart, h.lt⟩
theorem ownsRow_block {w w' : World} {base n size : Nat} {e : TypeId} {v : Value} {xs : List Value} (h : w.ownsRow base e size v n xs) (hb : ∀ g, v.ownBlock = some g → w'.heap[g]? = w.heap[g]?) : w'.ownsRow base e size v n xs := by
  obtain ⟨h1, h2⟩ := h
  refine ⟨h1, ?_⟩
  rcases h2 with h2 | ⟨g, c, cur, rfl, h3, h4, h5⟩
  · exact .inl h2
  · exact .inr ⟨g, c, cur, rfl, h3, (hb g rfl).trans h4, h5⟩
theorem Gri.of_blocks {w w' : World} {G K n : Nat} {V : Nat → Value} {L : Nat → List Int} (h : Gri w G K n V L) (hG : w'.heap[G]? = w.heap[G]?) (hK : ∀ g, K ≤ g → g < w.heap.size → w'.heap[g]? = w.heap[g]?) : Gri w' G K n V L :=
  ⟨h.row.of_block hG, fun i hi => ownsRow_block (h.own i hi) fun g hg => hK g ((h.own i hi).lt g hg).1 ((h.own i hi).lt g hg).2, h.apart, h.lt⟩
theorem Gri.below {w w' : World} {G K n : Nat} {V : Nat → Value} {L : Nat → List Int} (h : Gri w G K n V L) (hb : Below w.heap.size w w') : Gri w' G K n V L :=
  h.of_blocks (hb.block _ h.row.lt) fun g _ hg => hb.block g hg
theorem Gri.setOther {w : World} {G K n : Nat} {V : Nat → Value} {L : Nat → List Int} (h : Gri w G K n V L) {a : Addr} (h1 : G ≠ a.block) (h2 : a.block < K) (v : Value) : Gri (w.setCell a v) G K n V L :=
  h.of_blocks (Below.heap_setCell _ _ _ _ h1) fun g hg _ => Below.heap_setCell _ _ _ _ (by omega)
theorem Gri.made (w : World) (G K n : Nat) (hG : G = w.heap.size) (hK : G < K) : Gri (w.alloc (.cells (madeCells #[.slice none 0 0] n) 22)) G K n (fun _ => .slice none 0 0) (fun _ => []) := by
  subst hG
  exact ⟨World.rowIs_made w _ n _, fun i _ => World.ownsRow_nil _ _ _ _, fun i j _ _ _ => .inl rfl, hK⟩
theorem Gri.push {w w3 : World} {G K n : Nat} {V : Nat → Value} {L : Nat → List Int} (h : Gri w G K n V L) {t : Nat} (ht : t < n) {g cap : Nat} {x : Int}
    (hown : w3.ownsRow K 3 1 (.slice (some ⟨g, 0, none⟩) ((L t).length + 1) cap) ((L t).length + 1) ((L t).map (Value.int .i64) ++ [.int .i64 x]))
    (hgrow : w.grownBy w3 (V t).ownBlock) (hloc : (V t).ownBlock = some g ∨ g = w.heap.size) :
    Gri (w3.setCell ⟨G, t, none⟩ (.slice (some ⟨g, 0, none⟩) ((L t).length + 1) cap)) G K n (fun j => if j = t then .slice (some ⟨g, 0, none⟩) ((L t).length + 1) cap else V j) (fun j => if j = t then L t ++ [x] else L j) := by
  have hGK := h.lt
  have hblk : w3.heap[G]? = w.heap[G]? := hgrow.block G h.row.lt (fun e => by have := ((h.own t ht).lt G e.symm).1; omega)
  have hrow3 : w3.rowIs G 22 n V := h.row.of_block hblk
  refine ⟨hrow3.set t _, fun j hj => ?_, fun i j hi hj hij => ?_, hGK⟩
  · by_cases e : j = t
    · subst e
      simp only [if_true]
      have := ownsRow_setCell_below hown (a := ⟨G, j, none⟩) (by show G < K; omega) (.slice (some ⟨g, 0, none⟩) ((L j).length + 1) cap)
      simpa using this
    · simp only [if_neg e]
      exact ownsRow_setCell_below ((h.own j hj).kept hgrow (h.apart j t hj ht e)) (a := ⟨G, t, none⟩) (by show G < K; omega) _
  · have key : ∀ j, j < n → j ≠ t → (V j).ownBlock = none ∨ (V j).ownBlock ≠ some g := fun j hj hjt => by
      rcases hloc with e | e
      · rw [← e]; exact h.apart j t hj ht hjt
      · cases hb : (V j).ownBlock with
        | none => exact .inl rfl
        | some b => right; intro e2; have := ((h.own j hj).lt b hb).2; simp at e2; omega
    by_cases ei : i = t
    · subst ei
      simp only [if_true, if_neg (Ne.symm hij)]
      right
      rcases key j hj (Ne.symm hij) with e | e
      · rw [e]; simp [Value.ownBlock]
      · intro e2; exact e (e2.symm.trans rfl)
    · by_cases ej : j = t
      · subst ej
        simp only [if_true, if_neg ei]
        exact key i hi ei
      · simp only [if_neg ei, if_neg ej]
        exact h.apart i j hi hj hij
/-- Read as a list of lists. -/
theorem Gri.reads {w : World} {G K n : Nat} {V : Nat → Value} {L : Nat → List Int} (h : Gri w G K n V L) (hn : n ≤ 1000000) (h64 : ∀ i, i < n → ∀ x ∈ L i, I64 x) : SL w 1 RRow (some ⟨G, 0, none⟩) n ((List.range n).map L) := by
  refine ⟨by simp, ⟨by unfold maxLen; omega, fun e => by cases e⟩, fun _ => ⟨G, 0, rfl, fun i x hi => ?_⟩⟩
  have hl : i < n := by have := (List.getElem?_eq_some_iff.1 hi).1; simpa using this
  rw [List.getElem?_map] at hi
  obtain ⟨q, hq, rfl⟩ := Option.map_eq_some_iff.1 hi
  obtain ⟨_, rfl⟩ := List.getElem?_eq_some_iff.1 hq
  rw [Nat.mul_one, Nat.zero_add, List.getElem_range]
  obtain ⟨A, c, e, hs⟩ := vs_of_own (h.own i hl) (h64 i hl)
  exact ⟨A, c, (h.row.cell hl).trans (congrArg some e), hs⟩

/-! ### What the loops come to -/
def NX (bs : List BlkD) (k : Nat) (t : List Int) (i : Nat) : List Int := if i < k then zs (nxF bs i) else if i = k then zs (nextN bs.length t) else []
def LastOk (la : Nat → Int) (n k : Nat) (acc : List Nat) : Prop := ∀ t, t < n → 0 ≤ la t ∧ la t ≤ k + 1 ∧ (la t = k + 1 ↔ t ∈ acc)
theorem NX_zero (bs : List BlkD) (i : Nat) : NX bs 0 [] i = [] := by unfold NX nextN; simp [zs]
theorem NX_all {bs : List BlkD} {k : Nat} {b : BlkD} (h : bs[k]? = some b) (i : Nat) : NX bs k b.term.to i = NX bs (k + 1) [] i := by
  unfold NX
  by_cases h1 : i < k
  · rw [if_pos h1, if_pos (by omega)]
  · rw [if_neg h1]
    by_cases h2 : i = k
    · subst h2; rw [if_pos rfl, if_pos (by omega), nxF_at h]
    · rw [if_neg h2, if_neg (by omega)]
      by_cases h3 : i = k + 1
      · rw [if_pos h3]; rfl
      · rw [if_neg h3]
theorem NX_end (bs : List BlkD) (i : Nat) (h : i < bs.length) : NX bs bs.length [] i = zs (nxF bs i) := by unfold NX; rw [if_pos h]
theorem NX_here (bs : List BlkD) (k : Nat) (t : List Int) : NX bs k t k = zs (nextN bs.length t) := by unfold NX; rw [if_neg (by omega), if_pos rfl]
theorem nextN_step {n : Nat} {t : List Int} {j : Nat} {x : Int} (hx : t[j]? = some x) : nextN n (t.take (j + 1)) = addT n (nextN n (t.take j)) x := by
  rw [take_succ_of hx, nextN_snoc]
theorem addT_old {n : Nat} {acc : List Nat} {x : Int} (h : ¬ (0 ≤ x ∧ x < n ∧ x.toNat ∉ acc)) : addT n acc x = acc := by unfold addT; rw [if_neg h]
theorem addT_new {n : Nat} {acc : List Nat} {q : Nat} (h : q < n) (h2 : q ∉ acc) : addT n acc (q : Int) = acc ++ [q] := by unfold addT; rw [if_pos ⟨by omega, by omega, by simpa using h2⟩]; simp
theorem NX_old {bs : List BlkD} {k : Nat} {t : List Int} {j : Nat} {x : Int} (hx : t[j]? = some x) (h : ¬ (0 ≤ x ∧ x < bs.length ∧ x.toNat ∉ nextN bs.length (t.take j))) (i : Nat) : NX bs k (t.take j) i = NX bs k (t.take (j + 1)) i := by
  unfold NX; rw [nextN_step hx, addT_old h]
theorem NX_new {bs : List BlkD} {k : Nat} {t : List Int} {j q : Nat} (hx : t[j]? = some (q : Int)) (hq : q < bs.length) (h : q ∉ nextN bs.length (t.take j)) (i : Nat) :
    (if i = k then NX bs k (t.take j) k ++ [(q : Int)] else NX bs k (t.take j) i) = NX bs k (t.take (j + 1)) i := by
  by_cases e : i = k
  · subst e; rw [if_pos rfl, NX_here, NX_here, nextN_step hx, addT_new hq h, zs_snoc]
  · rw [if_neg e]; unfold NX; rw [if_neg e, if_neg e]
theorem LastOk.old {la : Nat → Int} {n k j : Nat} {t : List Int} {x : Int} (hl : LastOk la n k (nextN n (t.take j))) (hx : t[j]? = some x) (h : ¬ (0 ≤ x ∧ x < n ∧ x.toNat ∉ nextN n (t.take j))) : LastOk la n k (nextN n (t.take (j + 1))) := by
  rw [nextN_step hx, addT_old h]; exact hl
theorem LastOk.new {la : Nat → Int} {n k j q : Nat} {t : List Int} (hl : LastOk la n k (nextN n (t.take j))) (hx : t[j]? = some (q : Int)) (hq : q < n) (h : q ∉ nextN n (t.take j)) : LastOk (fun i => if i = q then (k : Int) + 1 else la i) n k (nextN n (t.take (j + 1))) := by
  rw [nextN_step hx, addT_new hq h]
  intro i hi
  obtain ⟨h1, h2, h3⟩ := hl i hi
  simp only [List.mem_append, List.mem_singleton]
  by_cases e : i = q
  · simp only [if_pos e]; exact ⟨by omega, by omega, by simp [e]⟩
  · simp only [if_neg e]; exact ⟨h1, h2, h3.trans (by simp [e])⟩
theorem LastOk.next {la : Nat → Int} {n k : Nat} {acc : List Nat} (hl : LastOk la n k acc) : LastOk la n (k + 1) (nextN n []) := fun i hi => by
  obtain ⟨h1, h2, h3⟩ := hl i hi
  exact ⟨h1, by push_cast; omega, ⟨fun h => by push_cast at h; omega, fun h => by simp [nextN] at h⟩⟩
theorem LastOk.start (n : Nat) : LastOk (fun _ => 0) n 0 (nextN n []) := fun i hi => ⟨by simp, by simp, ⟨fun h => by simp at h, fun h => by simp [nextN] at h⟩⟩

theorem isBlock_any (f : FunD) (v : Value) (a : Int) (w : World) (hv : VFun w v f) :
    Calls Try.prog 65 #[v, .int .i64 a] w fun e w' => e = .returned (.bool (isAtB a f.blocks.length)) ∧ Below w.heap.size w w' := by
  obtain ⟨Ar, cr, A, c, rfl, -, hb, -, -⟩ := hv
  have hbl := hb.len
  by_cases h0 : 0 ≤ a
  · by_cases h1 : a < f.blocks.length
    · have e : isAtB a f.blocks.length = true := decide_eq_true ⟨h0, h1⟩
      rw [e]
      clear e
      go_enter Try.func65, Try.ntmps65
      go_wp2_with fail
      go_ret
      exact ⟨rfl, (Below.refl _ _).alloc (Nat.le_refl _) _⟩
    · have e : isAtB a f.blocks.length = false := decide_eq_false (by omega)
      have h2 : decide (a < (f.blocks.length : Int)) = false := decide_eq_false h1
      rw [e]
      clear e h1
      go_enter Try.func65, Try.ntmps65
      go_wp2_with fail
      go_ret
      exact ⟨rfl, (Below.refl _ _).alloc (Nat.le_refl _) _⟩
  · have e : isAtB a f.blocks.length = false := decide_eq_false (by omega)
    rw [e]
    clear e
    go_enter Try.func65, Try.ntmps65
    go_wp2_with fail
    go_ret
    exact ⟨rfl, (Below.refl _ _).alloc (Nat.le_refl _) _⟩

set_option maxRecDepth 100000 in
set_option maxHeartbeats 4000000 in
theorem next_any (f : FunD) (v : Value) (w : World) (hv : VFun w v f) (hn : f.blocks.length ≤ 1000000) :
    Calls Try.prog 46 #[v] w fun e w' => (∃ V G, e = .returned (.slice (some ⟨G, 0, none⟩) f.blocks.length f.blocks.length) ∧ w.heap.size ≤ G ∧ Gri w' G (G + 2) f.blocks.length V (fun i => zs (nxF f.blocks i))) ∧ Below w.heap.size w w' := by
  obtain ⟨Ar, cr, A, c, rfl, hr, hb, hp64, hr64⟩ := hv
  have hbl := hb.len
  obtain ⟨i0, hi, hz0, hz1, hz2⟩ := info_parts Try.info3
  have HI := Lib.hid (And.intro hi (And.intro hz0 (And.intro hz1 hz2)))
  clear hi hz0 hz1 hz2
  have hmk := run_make_row' (P := Try.prog) 68 22 (.slice none 0 0) 24 Try.underlying68 Try.info22 rfl .i64 .i64 f.blocks.length (by omega) (by omega)
  have hmk2 := run_make_row' (P := Try.prog) 22 3 (.int .i64 0) 8 Try.underlying22 Try.info3 rfl .i64 .i64 f.blocks.length (by omega) (by omega)
  have HP := Lib.hid hp64
  have HR := Lib.hid hr64
  clear hp64 hr64
  go_enter Try.func46, Try.ntmps46
  go_wp2_with fail
  clear hmk hmk2
  obtain ⟨w1, hw1, hs1, hk1, hbel1, hc1, -⟩ := named w #[.int .i64 f.params, .int .i64 f.result, .slice Ar f.regs.length cr, .slice A f.blocks.length c] 25
  have c0 := hc1 0 _ rfl
  have c1 := hc1 1 _ rfl
  have c2 := hc1 2 _ rfl
  have c3 := hc1 3 _ rfl
  rw [← hw1]
  clear hw1 hc1
  obtain ⟨N, hN⟩ : ∃ N, N = w.heap.size := ⟨_, rfl⟩
  rw [← hN] at c0 c1 c2 c3 hs1 hbel1 ⊢
  have hgr := (Gri.made w1 (N + 1) (N + 1 + 2) f.blocks.length hs1.symm (by omega)).alloc (.cells (madeCells #[.int .i64 0] f.blocks.length) 3)
  have hla : ((w1.alloc (.cells (madeCells #[.slice none 0 0] f.blocks.length) 22)).alloc (.cells (madeCells #[.int .i64 0] f.blocks.length) 3)).rowIs (N + 1 + 1) 3 f.blocks.length (fun i => .int .i64 ((fun _ => (0 : Int)) i)) := by
    have := World.rowIs_made (w1.alloc (.cells (madeCells #[.slice none 0 0] f.blocks.length) 22)) (.int .i64 0) f.blocks.length 3
    simpa [hs1] using this
  have hbel1' : Below (N + 1) w1 ((w1.alloc (.cells (madeCells #[.slice none 0 0] f.blocks.length) 22)).alloc (.cells (madeCells #[.int .i64 0] f.blocks.length) 3)) := ((Below.refl _ _).alloc (by omega) _).alloc (by simp; omega) _
  have hs2 : N + 1 + 1 < ((w1.alloc (.cells (madeCells #[.slice none 0 0] f.blocks.length) 22)).alloc (.cells (madeCells #[.int .i64 0] f.blocks.length) 3)).heap.size := by simp; omega
  generalize (w1.alloc (.cells (madeCells #[.slice none 0 0] f.blocks.length) 22)).alloc (.cells (madeCells #[.int .i64 0] f.blocks.length) 3) = w2 at *
  have HS1 := Lib.hid hs1
  have HN := Lib.hid hN
  have hvf : VFun w1 (.agg #[.int .i64 f.params, .int .i64 f.result, .slice Ar f.regs.length cr, .slice A f.blocks.length c]) f := ⟨Ar, cr, A, c, rfl, SInts.keep hk1 hr, SBlks.keep hk1 hb, HP.out, HR.out⟩
  clear hs1 hN hr
  go_loopw [20] (fun i wr => ∃ (k : Nat) (V : Nat → Value) (la : Nat → Int), k ≤ f.blocks.length ∧ i = .int .i64 k ∧ Below (N + 1) w1 wr ∧ N + 1 + 1 < wr.heap.size ∧ Gri wr (N + 1) (N + 1 + 2) f.blocks.length V (NX f.blocks k []) ∧ wr.rowIs (N + 1 + 1) 3 f.blocks.length (fun i => .int .i64 (la i)) ∧ LastOk la f.blocks.length k (nextN f.blocks.length [])) (fun i _ => f.blocks.length - (intOf i).toNat)
  case atStart => exact ⟨0, _, _, Nat.zero_le _, rfl, hbel1', hs2, hgr.congr fun i _ => (NX_zero _ _).symm, hla, LastOk.start _⟩
  case round =>
    obtain ⟨k, V, la, hk, rfl, hbel, hs, hg, hl, hlo⟩ := hrel
    obtain ⟨wo, rfl⟩ : ∃ wo, wo = wr := ⟨wr, rfl⟩
    have hkw : Kept w1 wo := kept_below hbel (by have := HS1.out; omega)
    have c3o := hkw _ _ c3
    by_cases hlt : k < f.blocks.length
    · obtain ⟨b, o, kb, rfl, hkb, ⟨Ap, cp, hphi, -⟩, ⟨Ai, ci, hins, -⟩, ⟨hkd, -⟩, ⟨har, -⟩, ⟨At, ct, hto, htos⟩⟩ := (SBlks.keep hk1 hb).at_ hlt
      have hphi := hkw _ _ hphi
      have hins := hkw _ _ hins
      have hkd := hkw _ _ hkd
      have har := hkw _ _ har
      have hto := hkw _ _ hto
      have htl := htos.len
      go_wp2_with fail
      clear hphi hins hkd har hto
      obtain ⟨w3, hw3, hs3, hk3, hbel3, -, -⟩ := named wo #[.slice Ap kb.phis.length cp, .slice Ai kb.ins.length ci, .int .i64 kb.term.kind, .int .i64 kb.term.arg, .slice At kb.term.to.length ct] 52
      have hg3 : Gri w3 (N + 1) (N + 1 + 2) f.blocks.length V (NX f.blocks k (kb.term.to.take 0)) := by
        rw [hw3, List.take_zero]; exact hg.alloc _
      have hl3 : w3.rowIs (N + 1 + 1) 3 f.blocks.length (fun i => .int .i64 (la i)) := by rw [hw3]; exact hl.alloc _
      have hb3 : Below (N + 1) w1 w3 := hbel.trans (hbel3.mono (by omega))
      have hs3 : N + 1 + 1 < w3.heap.size := by omega
      rw [← hw3]
      clear hw3
      go_loopw [29] (fun i wr => ∃ (j : Nat) (V : Nat → Value) (la : Nat → Int), j ≤ kb.term.to.length ∧ i = .int .i64 j ∧ Below (N + 1) w1 wr ∧ N + 1 + 1 < wr.heap.size ∧ Gri wr (N + 1) (N + 1 + 2) f.blocks.length V (NX f.blocks k (kb.term.to.take j)) ∧ wr.rowIs (N + 1 + 1) 3 f.blocks.length (fun i => .int .i64 (la i)) ∧ LastOk la f.blocks.length k (nextN f.blocks.length (kb.term.to.take j))) (fun i _ => kb.term.to.length - (intOf i).toNat)
      case atStart => exact ⟨0, V, la, Nat.zero_le _, rfl, hb3, hs3, hg3, hl3, by rw [List.take_zero]; exact hlo⟩
      case round =>
        obtain ⟨j, V', la', hj, rfl, hbelr, hsr, hgr', hlr, hlor⟩ := hrel
        have hkr : Kept w1 wr := kept_below hbelr (by have := HS1.out; omega)
        have c0r := hkr _ _ c0
        have c1r := hkr _ _ c1
        have c2r := hkr _ _ c2
        have c3r := hkr _ _ c3
        by_cases hjt : j < kb.term.to.length
        · obtain ⟨b', o', x, rfl, hx, hxc, hx64⟩ := htos.int hjt
          have hxc := hkr _ _ hxc
          go_wp2_with fail
          refine (isBlock_any f _ x wr (VFun.keep hkr hvf)).mono ?_
          rintro e w4 ⟨rfl, hb4⟩
          have hg4 := hgr'.below hb4
          have hl4 : w4.rowIs (N + 1 + 1) 3 f.blocks.length (fun i => .int .i64 (la' i)) := hlr.of_block (hb4.block _ hlr.lt)
          have hbel4 : Below (N + 1) w1 w4 := hbelr.trans (hb4.mono (by omega))
          have hs4 : N + 1 + 1 < w4.heap.size := by have := hb4.size; omega
          clear c0r c1r c2r c3r hxc hgr' hlr hbelr hb4 hkr
          by_cases hin : 0 ≤ x ∧ x < f.blocks.length
          · obtain ⟨q, rfl⟩ : ∃ q : Nat, x = q := ⟨x.toNat, by omega⟩
            have hq : q < f.blocks.length := by omega
            have hat : isAtB q f.blocks.length = true := decide_eq_true hin
            rw [hat]
            have hq1 : (q : Int) < f.blocks.length := by omega
            have hq0 : (0 : Int) ≤ q := by omega
            clear hin hat
            obtain ⟨hy0, hy1, hym⟩ := hlor q hq
            have hyc := hl4.cell hq
            obtain ⟨y, hy⟩ : ∃ y, y = la' q := ⟨_, rfl⟩
            simp only [← hy] at hyc hy0 hy1 hym
            have HYM := Lib.hid hym
            clear hy hym
            by_cases hyk : y = k + 1
            · have hb1 : ((y : Int) != (k : Int) + 1) = false := by simp [hyk]
              have hold : ¬ (0 ≤ (q : Int) ∧ (q : Int) < f.blocks.length ∧ (q : Int).toNat ∉ nextN f.blocks.length (kb.term.to.take j)) := fun h => h.2.2 (by simpa using HYM.out.1 hyk)
              clear hyk
              have HO := Lib.hid hold
              clear hold
              go_wp2_with fail
              go_roundw
              case rel => exact ⟨j + 1, V', la', by omega, by go_num, hbel4, hs4, hg4.congr (fun i _ => NX_old hx.out HO.out i), hl4, hlor.old hx.out HO.out⟩
              case measure => simp [intOf]; omega
            · have hb1 : ((y : Int) != (k : Int) + 1) = true := by simpa using hyk
              have HNEW : Hid (q ∉ nextN f.blocks.length (kb.term.to.take j)) := Lib.hid fun h => hyk (HYM.out.2 h)
              clear hyk
              have hfy := hl4.frozen q
              have hset := hl4.set q (.int .i64 ((k : Int) + 1))
              have hgs : Gri (w4.setCell ⟨N + 1 + 1, q, none⟩ (.int .i64 ((k : Int) + 1))) (N + 1) (N + 1 + 2) f.blocks.length V' (NX f.blocks k (kb.term.to.take j)) := hg4.setOther (by show N + 1 ≠ N + 1 + 1; omega) (by show N + 1 + 1 < N + 1 + 2; omega) _
              have hbs : Below (N + 1) w1 (w4.setCell ⟨N + 1 + 1, q, none⟩ (.int .i64 ((k : Int) + 1))) := hbel4.setCell (by show N + 1 ≤ N + 1 + 1; omega) _
              have hss : N + 1 + 1 < (w4.setCell ⟨N + 1 + 1, q, none⟩ (.int .i64 ((k : Int) + 1))).heap.size := by simpa using hs4
              go_upto_region 11 with fail
              clear hyc hfy hb1
              generalize w4.setCell ⟨N + 1 + 1, q, none⟩ (.int .i64 ((k : Int) + 1)) = w5 at *
              have hrow := hgs.row.cell hlt
              have hll : (NX f.blocks k (kb.term.to.take j) k).length ≤ f.blocks.length := by
                rw [NX_here, zs_len]; exact nextN_few _ _
              have hvs : VS w5 1 RInt (V' k) (NX f.blocks k (kb.term.to.take j) k) := vs_of_own (hgs.own k hlt) (by
                rw [NX_here]; intro x hx; obtain ⟨q, hq, rfl⟩ := zs_mem hx; have := (nextN_mem.1 hq).1; unfold I64; omega)
              go_wp2_with (at_builtin; refine wpList_append_lies _ rfl (.tmp 55) (.tmp 57) 22 rfl (N + 1 + 2) 3 i0 (.int .i64 0) 1 8 Try.underlying22 HI.out.1 HI.out.2.1 HI.out.2.2.1 HI.out.2.2.2 rfl (by decide) (V' k) _ _ rfl ((hgs.own k hlt).alloc _) ⟨w5.heap.size, 0, none⟩ 1 1 [.int .i64 q] rfl rfl ?c1 ?c2 ?c0 ?c3 ?c4 ?c5 (w5.heap.size + 1) ?c6 ?_)
              case c1 => exact news_one_add w5 _ _ rfl
              case c2 => exact ints_oneCell .i64 [(q : Int)]
              case c0 => omega
              case c3 => unfold maxLen; omega
              case c4 => omega
              case c5 => simp; omega
              case c6 => simp
              intro g cap w6 hown6 hgrow6 hloc6 hlt6
              have hgp := Gri.push (hgs.alloc _) hlt hown6 hgrow6 (by simpa using hloc6)
              have hgp' := hgp.congr (fun i _ => NX_new hx.out hq HNEW.out i)
              have hb6 : Below (N + 1) w1 w6 := (hbs.alloc (by omega) _).grown hgrow6 (by simp; omega) (fun g hg => by have := ((hgs.own k hlt).lt g hg).1; omega)
              have hG6 : w6.heap[N + 1]? = (w5.alloc (.cells #[.int .i64 q] 3)).heap[N + 1]? := hgrow6.block _ (by simp; omega) (fun e => by have := ((hgs.own k hlt).lt _ e.symm).1; omega)
              have hrow6 := (World.cell?_of_block (a := ⟨N + 1, k, none⟩) hG6).trans ((hgs.row.alloc _).cell hlt)
              have hfr6 := (World.frozen?_of_block (a := ⟨N + 1, k, none⟩) hG6).trans ((hgs.row.alloc _).frozen k)
              have hs6 : N + 1 + 1 < w6.heap.size := by have := hgrow6.size; simp at this; omega
              have hL6 : w6.heap[N + 1 + 1]? = (w5.alloc (.cells #[.int .i64 q] 3)).heap[N + 1 + 1]? := hgrow6.block _ (by simp; omega) (fun e => by have := ((hgs.own k hlt).lt _ e.symm).1; omega)
              have hl6 := ((hset.alloc (.cells #[.int .i64 q] 3)).of_block hL6).setOther (a := ⟨N + 1, k, none⟩) (by show N + 1 + 1 ≠ N + 1; omega) (.slice (some ⟨g, 0, none⟩) ((NX f.blocks k (kb.term.to.take j) k).length + 1) cap)
              have hl6' := hl6.congr (g := fun i => .int .i64 ((fun i => if i = q then (k : Int) + 1 else la' i) i)) (fun i _ => by by_cases e : i = q <;> simp [e])
              have HP6 := Lib.hid hgp'
              have HL6 := Lib.hid hl6'
              have HLO6 := Lib.hid (hlor.new hx.out hq HNEW.out)
              clear hgp hgp' hown6 hgrow6 hloc6 hG6 hgs hrow hvs hl6 hl6' hL6 hlor hset hl4 hg4
              go_wp2_with fail
              go_roundw
              case rel => exact ⟨j + 1, _, _, by omega, by go_num, hb6.setCell (by show _ ≤ N + 1; omega) _, by simpa using hs6, HP6.out, HL6.out, HLO6.out⟩
              case measure => simp [intOf]; omega
          · have hat : isAtB x f.blocks.length = false := decide_eq_false hin
            rw [hat]
            have hold : ¬ (0 ≤ x ∧ x < f.blocks.length ∧ x.toNat ∉ nextN f.blocks.length (kb.term.to.take j)) := fun h => hin ⟨h.1, h.2.1⟩
            have HO := Lib.hid hold
            clear hold hin hat
            go_wp2_with fail
            go_roundw
            case rel => exact ⟨j + 1, V', la', by omega, by go_num, hbel4, hs4, hg4.congr (fun i _ => NX_old hx.out HO.out i), hl4, hlor.old hx.out HO.out⟩
            case measure => simp [intOf]; omega
        · have hjj : kb.term.to.take j = kb.term.to := List.take_of_length_le (by omega)
          rw [hjj] at hgr' hlor
          clear hjj
          go_wp2_with fail
          go_roundw
          case rel => exact ⟨k + 1, V', la', by omega, by go_num, hbelr, hsr, hgr'.congr (fun i _ => NX_all hkb.out i), hlr, hlor.next⟩
          case measure => simp [intOf]; omega
    · have hkk : k = f.blocks.length := by omega
      subst hkk
      go_wp2_with fail
      go_ret
      exact ⟨⟨V, _, rfl, by have := HN.out; omega, hg.congr (fun i hi => NX_end _ _ hi)⟩, by rw [← HN.out]; exact hbel1.trans (hbel.mono (by omega))⟩
end Go.Proofs.Ytflbooopgjgkbaa

/- Rows that a call owns, apart from one another. No condition. -/
namespace Go.Proofs.Ytflbooopgjgkbaa
open Go.ChangeShapes Go.WideShapes Go.RowKit Go.Deep
set_option linter.unusedVariables false

/-- Of all that was there only the block of v may have changed; the value v' lies in that of v, or is new. -/
structure GroD (w w' : World) (v v' : Value) : Prop where
  os : w'.os = w.os
  tape : w'.tape = w.tape
  output : w'.output = w.output
  size : w.heap.size ≤ w'.heap.size
  block : ∀ k, k < w.heap.size → v.ownBlock ≠ some k → w'.heap[k]? = w.heap[k]?
  own : ∀ g, v'.ownBlock = some g → v.ownBlock = some g ∨ w.heap.size ≤ g
/-- One append of one element, which first lies in a block of its own. -/
theorem groD_append {w w1 : World} {o : Obj} {v : Value} {g n cap : Nat} (hg : (w.alloc o).grownBy w1 v.ownBlock) (hl : v.ownBlock = some g ∨ g = w.heap.size + 1) : GroD w w1 v (.slice (some ⟨g, 0, none⟩) n cap) :=
  ⟨hg.os, hg.tape, hg.output, Nat.le_trans (by simp) hg.size, fun k hk hv => (hg.block k (by simp; omega) (fun e => hv e.symm)).trans (Below.heap_alloc _ _ _ hk),
   fun x hx => by
    obtain rfl : g = x := Option.some.inj hx
    rcases hl with h | h
    · exact .inl h
    · exact .inr (by omega)⟩
theorem groD_drew {w w1 : World} {v v' : Value} (h : GroD w.drew w1 v v') : GroD w w1 v v' := ⟨h.os, h.tape, h.output, h.size, h.block, h.own⟩
/-- A store into an element of the row itself. -/
theorem groD_store (w : World) {g n cap j : Nat} (u : Value) : GroD w (w.setCell ⟨g, j, none⟩ u) (.slice (some ⟨g, 0, none⟩) n cap) (.slice (some ⟨g, 0, none⟩) n cap) :=
  ⟨rfl, rfl, rfl, by simp, fun k hk hv => Below.heap_setCell _ _ _ _ (fun e => hv (by show some g = some k; exact congrArg some e.symm)), fun x hx => .inl hx⟩
theorem GroD.fr {w w' : World} {v v' : Value} (h : GroD w w' v v') {X : Nat → Prop} {a : World} (ha : FrX X a w) (hv : ∀ g, v.ownBlock = some g → X g ∨ a.heap.size ≤ g) : FrX X a w' :=
  ⟨h.os.trans ha.os, h.tape.trans ha.tape, h.output.trans ha.output, Nat.le_trans ha.size h.size, fun k hk hx => (h.block k (Nat.lt_of_lt_of_le hk ha.size) (fun e => by
    rcases hv k e with h2 | h2
    · exact hx h2
    · omega)).trans (ha.block k hk hx)⟩

structure RowD where
  ty : TypeId
  size : Nat
  len : Nat
  xs : List Value
def OwnD (w : World) (K : Nat) (v : Value) (t : RowD) : Prop := w.ownsRow K t.ty t.size v t.len t.xs
/-- So many rows, apart from one another. -/
structure PoolD (w : World) (K m : Nat) (U : Nat → Value) (T : Nat → RowD) : Prop where
  own : ∀ i, i < m → OwnD w K (U i) (T i)
  ap : ∀ i j, i < m → j < m → i ≠ j → (U i).ownBlock = none ∨ (U i).ownBlock ≠ (U j).ownBlock
theorem PoolD.congr {w : World} {K m : Nat} {U U' : Nat → Value} {T T' : Nat → RowD} (h : PoolD w K m U T) (hu : ∀ i, i < m → U i = U' i) (ht : ∀ i, i < m → T i = T' i) : PoolD w K m U' T' :=
  ⟨fun i hi => by rw [← hu i hi, ← ht i hi]; exact h.own i hi, fun i j hi hj hij => by rw [← hu i hi, ← hu j hj]; exact h.ap i j hi hj hij⟩
theorem PoolD.go {w w' : World} {K m : Nat} {U : Nat → Value} {T : Nat → RowD} (h : PoolD w K m U T) (hb : ∀ k, K ≤ k → k < w.heap.size → w'.heap[k]? = w.heap[k]?) : PoolD w' K m U T :=
  ⟨fun i hi => ownsRow_block (h.own i hi) fun g hg => hb g ((h.own i hi).lt g hg).1 ((h.own i hi).lt g hg).2, h.ap⟩
theorem PoolD.gro {w w' : World} {K m t : Nat} {U : Nat → Value} {T : Nat → RowD} {v' : Value} {r : RowD} (h : PoolD w K m U T) (ht : t < m) (hg : GroD w w' (U t) v') (ho : OwnD w' K v' r) : PoolD w' K m (updF U t v') (updF T t r) := by
  have key : ∀ i, i < m → i ≠ t → (U i).ownBlock = none ∨ (U i).ownBlock ≠ v'.ownBlock := fun i hi hit => by
    cases hb : (U i).ownBlock with
    | none => exact .inl rfl
    | some b =>
      right
      intro e
      rcases hg.own b e.symm with h1 | h1
      · rcases h.ap i t hi ht hit with h2 | h2
        · rw [h2] at hb; cases hb
        · exact h2 (hb.trans h1.symm)
      · have := ((h.own i hi).lt b hb).2; omega
  refine ⟨fun i hi => ?_, fun i j hi hj hij => ?_⟩
  · by_cases e : i = t
    · subst e; rw [updF_here, updF_here]; exact ho
    · rw [updF_else _ _ e, updF_else _ _ e]
      refine ownsRow_block (h.own i hi) fun g hgi => hg.block g ((h.own i hi).lt g hgi).2 fun e2 => ?_
      rcases h.ap i t hi ht e with h2 | h2
      · rw [h2] at hgi; cases hgi
      · exact h2 (hgi.trans e2.symm)
  · by_cases ei : i = t
    · subst ei
      rw [updF_here, updF_else _ _ (Ne.symm hij)]
      rcases key j hj (Ne.symm hij) with h1 | h1
      · cases hv : v'.ownBlock with
        | none => exact .inl rfl
        | some b => right; rw [h1]; intro e; cases e
      · exact .inr (Ne.symm h1)
    · rw [updF_else _ _ ei]
      by_cases ej : j = t
      · subst ej; rw [updF_here]; exact key i hi ei
      · rw [updF_else _ _ ej]; exact h.ap i j hi hj hij
/-- One row more, with nothing in it. -/
theorem PoolD.more {w : World} {K m : Nat} {U : Nat → Value} {T : Nat → RowD} (h : PoolD w K m U T) (ty : TypeId) (size : Nat) : PoolD w K (m + 1) (updF U m (.slice none 0 0)) (updF T m ⟨ty, size, 0, []⟩) := by
  refine ⟨fun i hi => ?_, fun i j hi hj hij => ?_⟩
  · by_cases e : i = m
    · subst e; rw [updF_here, updF_here]; exact World.ownsRow_nil _ _ _ _
    · rw [updF_else _ _ e, updF_else _ _ e]; exact h.own i (by omega)
  · by_cases ei : i = m
    · subst ei; rw [updF_here]; exact .inl rfl
    · rw [updF_else _ _ ei]
      by_cases ej : j = m
      · subst ej; rw [updF_here]
        cases hb : (U i).ownBlock with
        | none => exact .inl rfl
        | some b => right; intro e; cases e
      · rw [updF_else _ _ ej]; exact h.ap i j (by omega) (by omega) hij
/-- An element of a row. -/
theorem own_cellD {w : World} {K n : Nat} {e : TypeId} {v : Value} {xs : List Value} (h : w.ownsRow K e 1 v n xs) {i : Nat} (hi : i < n) : ∃ g cap u, v = .slice (some ⟨g, 0, none⟩) n cap ∧ xs[i]? = some u ∧ w.cell? ⟨g, i, none⟩ = some u ∧ w.frozen? ⟨g, i, none⟩ = false ∧ K ≤ g ∧ g < w.heap.size := by
  obtain ⟨g, cap, rfl⟩ : ∃ g cap, v = .slice (some ⟨g, 0, none⟩) n cap := by
    rcases h.2 with ⟨_, h2⟩ | ⟨g, cap, cur, h2, _⟩
    · omega
    · exact ⟨g, cap, h2⟩
  have hl := h.1
  have hx : i < xs.length := by omega
  refine ⟨g, cap, xs[i], rfl, List.getElem?_eq_getElem hx, ?_, h.frozenAt i, (h.lt g rfl).1, (h.lt g rfl).2⟩
  rw [h.cellAt i (by omega)]; exact List.getElem?_eq_getElem hx
theorem map_range_snoc {α : Type} (f : Nat → α) (k : Nat) (x : α) : ((List.range k).map f ++ [x]) = (List.range (k + 1)).map (updF f k x) := by
  rw [List.range_succ, List.map_append, List.map_singleton, updF_here]
  congr 1
  exact List.map_congr_left fun v hv => (updF_else _ _ (by have := List.mem_range.1 hv; omega)).symm
theorem map_range_set {α : Type} (f : Nat → α) (k j : Nat) (x : α) : ((List.range k).map f).set j x = (List.range k).map (updF f j x) := by
  apply List.ext_getElem?
  intro i
  by_cases hik : i < k
  · by_cases e : i = j
    · subst e; simp [hik, updF]
    · simp [hik, updF, e, Ne.symm e]
  · simp [hik]
theorem map_range_at {α : Type} (f : Nat → α) {k i : Nat} {x : α} (h : ((List.range k).map f)[i]? = some x) : x = f i ∧ i < k := by
  rw [List.getElem?_map] at h
  obtain ⟨q, hq, rfl⟩ := Option.map_eq_some_iff.1 h
  obtain ⟨hl, rfl⟩ := List.getElem?_eq_some_iff.1 hq
  simp at hl ⊢; exact hl
end Go.Proofs.Ytflbooopgjgkbaa

/- Rows of a call's own. No condition. -/
namespace Go.Proofs.Ytflbooopgjgkbaa
open Go.ChangeShapes Go.WideShapes Go.RowKit Go.Deep
set_option linter.unusedVariables false

theorem own_sliceL {w : World} {K n size : Nat} {e : TypeId} {v : Value} {xs : List Value} (h : w.ownsRow K e size v n xs) : ∃ A c, v = .slice A n c := by
  rcases h.2 with ⟨rfl, h0⟩ | ⟨g, c, cur, rfl, -⟩
  · exact ⟨none, 0, by rw [h0]⟩
  · exact ⟨_, _, rfl⟩
theorem owns_mono_ {w : World} {base base' n size : Nat} {e : TypeId} {v : Value} {xs : List Value} (h : w.ownsRow base e size v n xs) (hk : base' ≤ base) : w.ownsRow base' e size v n xs := by
  obtain ⟨h1, h2 | ⟨g, cap, cur, rfl, hb, h3⟩⟩ := h
  · exact ⟨h1, .inl h2⟩
  · exact ⟨h1, .inr ⟨g, cap, cur, rfl, Nat.le_trans hk hb, h3⟩⟩
theorem row_madeQ {w : World} {H k : Nat} (h : w.heap[H]? = some (.cells (madeCells #[.int .i64 0] k) 3)) : w.rowIs H 3 k (fun _ => .int .i64 0) :=
  ⟨_, h, size_madeCells _ _, fun i hi => by simp [madeCells, hi, Nat.mod_one]⟩
end Go.Proofs.Ytflbooopgjgkbaa
