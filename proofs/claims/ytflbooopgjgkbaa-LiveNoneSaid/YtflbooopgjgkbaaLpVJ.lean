/- The program's ways: how a function's blocks lead to one another. -/
import Derived.Test.YtflbooopgjgkbaaLpJJ
import Derived.Test.YtflbooopgjgkbaaDmEJ
import Derived.Test.YtflbooopgjgkbaaGrEJ
import Derived.Test.YtflbooopgjgkbaaGrNJ
import Derived.Test.YtflbooopgjgkbaaDmBJ
namespace Go.Proofs.Ytflbooopgjgkbaa
open Go.ChangeShapes Go.WideShapes Go.RowKit Go.Deep
set_option linter.unusedVariables false

def ToldWy (bs : List BlkD) (w : World) (e : Ending) (w' : World) : Prop :=
  (∃ nm en Ao co Gn Ga G1 A2 c2 ord, e = .returned (wyV bs Ao co Gn Ga G1 A2 c2) ∧ WyL bs nm en w' Ao co Gn Ga G1 A2 c2 ∧ NearB bs (nearD bs) ord) ∧ Below w.heap.size w w'
theorem sl_of_ownI {w : World} {base n : Nat} {v : Value} {l : List Nat} {m : Nat} (h : w.ownsRow base 3 1 v n ((zs l).map (Value.int .i64))) (hl : ∀ x ∈ l, x < m) (hm : m ≤ 1000) :
    ∃ A c, v = .slice A n c ∧ ∀ w', (∀ g, base ≤ g → g < w.heap.size → w'.heap[g]? = w.heap[g]?) → SL w' 1 RInt A c (zs l) := by
  have h0 := h
  have hlen : (zs l).length = n := by have := h.1; rw [List.length_map] at this; omega
  rcases h.2 with ⟨rfl, h1⟩ | ⟨g, c, cur, rfl, hb, hh, hn, hc, hsz, ht⟩
  · refine ⟨none, 0, by rw [h1], fun w' _ => ⟨by rw [hlen, h1]; exact Nat.le_refl _, ⟨by unfold maxLen; omega, fun _ => rfl⟩, fun hp => by omega⟩⟩
  · refine ⟨some ⟨g, 0, none⟩, c, rfl, fun w' hw => ⟨by rw [hlen]; exact hn, ⟨hc, fun e => by cases e⟩, fun _ => ⟨g, 0, rfl, fun i x hi => ⟨?_, ?_⟩⟩⟩⟩
    · have := h0.cells (g := g) rfl i (.int .i64 x) (by rw [List.getElem?_map, hi]; rfl)
      rw [Nat.mul_one]
      rw [add_plain'] at this
      exact (World.cell?_of_block (a := ⟨g, 0 + i, none⟩) (hw g hb (h0.lt g rfl).2)).trans this
    · obtain ⟨q, hq, rfl⟩ := zs_at hi
      have := hl q (List.mem_of_getElem? hq)
      unfold I64; omega
theorem ways_cells {W : World} {N3 : Nat} {a0 a1 a2 a3 a4 : Value} (h : W.heap[N3]? = some (.cells #[a0, a1, a2, a3, a4] 70)) :
    W.cell? ⟨N3, 0, none⟩ = some a0 ∧ W.cell? ⟨N3, 1, none⟩ = some a1 ∧ W.cell? ⟨N3, 2, none⟩ = some a2 ∧ W.cell? ⟨N3, 3, none⟩ = some a3 ∧ W.cell? ⟨N3, 4, none⟩ = some a4 ∧
      W.frozen? ⟨N3, 0, none⟩ = false ∧ W.frozen? ⟨N3, 1, none⟩ = false ∧ W.frozen? ⟨N3, 2, none⟩ = false ∧ W.frozen? ⟨N3, 3, none⟩ = false ∧ W.frozen? ⟨N3, 4, none⟩ = false := by
  simp [World.cell?, World.frozen?, h]
/-- What is laid first. -/
def WsR (bs : List BlkD) (w1 : World) (fv : Value) (a a' : Act) (w' : World) : Prop :=
  ∃ (Ao : Option Addr) (co Gn N3 : Nat), a' = (((((a.put (some 8) fv).put (some 9) (.slice Ao (orderF bs).length co)).put (some 10) fv).put (some 11) (.slice (some ⟨Gn, 0, none⟩) bs.length bs.length)).put (some 12) (.agg #[.slice Ao (orderF bs).length co, .slice (some ⟨Gn, 0, none⟩) bs.length bs.length, .slice none 0 0, .slice none 0 0, .slice none 0 0])).put (some 3) (.pointer (some ⟨N3, 0, none⟩)) ∧
    (∀ w'', (∀ g, w1.heap.size ≤ g → g ≠ N3 → g < w'.heap.size → w''.heap[g]? = w'.heap[g]?) → SL w'' 1 RInt Ao co (zs (orderF bs))) ∧ (∀ w'', (∀ g, w1.heap.size ≤ g → g ≠ N3 → g < w'.heap.size → w''.heap[g]? = w'.heap[g]?) → SL w'' 1 RRow (some ⟨Gn, 0, none⟩) bs.length ((List.range bs.length).map fun i => zs (nxF bs i))) ∧
    w'.heap[N3]? = some (.cells #[.slice Ao (orderF bs).length co, .slice (some ⟨Gn, 0, none⟩) bs.length bs.length, .slice none 0 0, .slice none 0 0, .slice none 0 0] 70) ∧ Below w1.heap.size w1 w' ∧ w1.heap.size ≤ N3 ∧ Gn < w'.heap.size
theorem WsR.leaf {bs : List BlkD} {w1 W : World} {fv : Value} {a a' : Act} {Ao : Option Addr} {co Gn N3 : Nat} (hA : ∀ w', (∀ g, w1.heap.size ≤ g → g ≠ N3 → g < W.heap.size → w'.heap[g]? = W.heap[g]?) → SL w' 1 RInt Ao co (zs (orderF bs)))
    (hB : ∀ w', (∀ g, w1.heap.size ≤ g → g ≠ N3 → g < W.heap.size → w'.heap[g]? = W.heap[g]?) → SL w' 1 RRow (some ⟨Gn, 0, none⟩) bs.length ((List.range bs.length).map fun i => zs (nxF bs i)))
    (hC : W.heap[N3]? = some (.cells #[.slice none 0 0, .slice none 0 0, .slice none 0 0, .slice none 0 0, .slice none 0 0] 70)) (hb : Below w1.heap.size w1 W)
    (e : a' = (((((a.put (some 8) fv).put (some 9) (.slice Ao (orderF bs).length co)).put (some 10) fv).put (some 11) (.slice (some ⟨Gn, 0, none⟩) bs.length bs.length)).put (some 12) (.agg #[.slice Ao (orderF bs).length co, .slice (some ⟨Gn, 0, none⟩) bs.length bs.length, .slice none 0 0, .slice none 0 0, .slice none 0 0])).put (some 3) (.pointer (some ⟨N3, 0, none⟩)))
    (h3 : w1.heap.size ≤ N3) (h4 : Gn < W.heap.size) :
    onlyN (fun _ a'' w'' => WsR bs w1 fv a a'' w'') Exit.normal a' (((((W.setCell ⟨N3, 0, none⟩ (.slice Ao (orderF bs).length co)).setCell ⟨N3, 1, none⟩ (.slice (some ⟨Gn, 0, none⟩) bs.length bs.length)).setCell ⟨N3, 2, none⟩ (.slice none 0 0)).setCell ⟨N3, 3, none⟩ (.slice none 0 0)).setCell ⟨N3, 4, none⟩ (.slice none 0 0)) := by
  have hk : ∀ g, g ≠ N3 → g < W.heap.size → (((((W.setCell ⟨N3, 0, none⟩ (.slice Ao (orderF bs).length co)).setCell ⟨N3, 1, none⟩ (.slice (some ⟨Gn, 0, none⟩) bs.length bs.length)).setCell ⟨N3, 2, none⟩ (.slice none 0 0)).setCell ⟨N3, 3, none⟩ (.slice none 0 0)).setCell ⟨N3, 4, none⟩ (.slice none 0 0)).heap[g]? = W.heap[g]? := fun k hk _ =>
    (Below.heap_setCell _ _ _ _ hk).trans ((Below.heap_setCell _ _ _ _ hk).trans ((Below.heap_setCell _ _ _ _ hk).trans ((Below.heap_setCell _ _ _ _ hk).trans (Below.heap_setCell _ _ _ _ hk))))
  refine ⟨Ao, co, Gn, N3, e, fun w'' h => hA _ (fun g h0 h1 h2 => (h g h0 h1 (by simpa using h2)).trans (hk g h1 h2)), fun w'' h => hB _ (fun g h0 h1 h2 => (h g h0 h1 (by simpa using h2)).trans (hk g h1 h2)), ?_, ((((hb.setCell (p := ⟨N3, 0, none⟩) h3 _).setCell (p := ⟨N3, 1, none⟩) h3 _).setCell (p := ⟨N3, 2, none⟩) h3 _).setCell (p := ⟨N3, 3, none⟩) h3 _).setCell (p := ⟨N3, 4, none⟩) h3 _, h3, by simpa using h4⟩
  simp [World.setCell, Array.getElem?_modify, hC]

set_option maxRecDepth 100000 in
set_option maxHeartbeats 8000000 in
theorem waysOf_any (f : FunD) (v : Value) (w : World) (hv : VFun w v f) (hn : f.blocks.length ≤ 1000) : Calls Try.prog 27 #[v] w (ToldWy f.blocks w) := by
  have hv0 := hv
  obtain ⟨Ar, cr, A, c, rfl, -, -, hp64, hr64⟩ := hv
  go_enter Try.func27, Try.ntmps27
  go_wp2_with fail
  obtain ⟨w1, hw1⟩ : ∃ w1, ((w.alloc (.cells #[.int .i64 f.params, .int .i64 f.result, .slice Ar f.regs.length cr, .slice A f.blocks.length c] 25)).alloc (.cells #[.slice none 0 0, .slice none 0 0, .slice none 0 0, .slice none 0 0, .slice none 0 0] 70)) = w1 := ⟨_, rfl⟩
  have hs1 : w1.heap.size = w.heap.size + 1 + 1 := by rw [← hw1]; simp
  have hBw : Below w.heap.size w w1 := by rw [← hw1]; exact ((Below.refl _ _).alloc (Nat.le_refl _) _).alloc (by simp) _
  have b0 : ∀ i u, #[Value.int .i64 f.params, .int .i64 f.result, .slice Ar f.regs.length cr, .slice A f.blocks.length c][i]? = some u → w1.cell? ⟨w.heap.size, i, none⟩ = some u := fun i u hu => by
    rw [← hw1]
    have h1 := (World.cell?_alloc_at (w := w) #[Value.int .i64 f.params, .int .i64 f.result, .slice Ar f.regs.length cr, .slice A f.blocks.length c] 25 w.heap.size i rfl).trans hu
    exact kept_alloc _ _ _ _ h1
  have e2 : w1.heap[w.heap.size + 1]? = some (.cells #[.slice none 0 0, .slice none 0 0, .slice none 0 0, .slice none 0 0, .slice none 0 0] 70) := by
    rw [← hw1]; have := World.alloc_heap_new (w.alloc (.cells #[.int .i64 f.params, .int .i64 f.result, .slice Ar f.regs.length cr, .slice A f.blocks.length c] 25)) (.cells #[.slice none 0 0, .slice none 0 0, .slice none 0 0, .slice none 0 0, .slice none 0 0] 70)
    rwa [World.size_alloc] at this
  rw [hw1]
  clear hw1
  refine wp_named (WsR f.blocks w1 (.agg #[.int .i64 f.params, .int .i64 f.result, .slice Ar f.regs.length cr, .slice A f.blocks.length c])) ?region ?rest
  case region =>
    have hS : ∀ w', Below w1.heap.size w1 w' → w'.cell? ⟨w.heap.size, 0, none⟩ = some (.int .i64 f.params) ∧ w'.cell? ⟨w.heap.size, 1, none⟩ = some (.int .i64 f.result) ∧ w'.cell? ⟨w.heap.size, 2, none⟩ = some (.slice Ar f.regs.length cr) ∧ w'.cell? ⟨w.heap.size, 3, none⟩ = some (.slice A f.blocks.length c) := fun w' hb =>
      ⟨(hb.cell (p := ⟨w.heap.size, 0, none⟩) (by show w.heap.size < w1.heap.size; omega)).trans (b0 0 _ rfl), (hb.cell (p := ⟨w.heap.size, 1, none⟩) (by show w.heap.size < w1.heap.size; omega)).trans (b0 1 _ rfl), (hb.cell (p := ⟨w.heap.size, 2, none⟩) (by show w.heap.size < w1.heap.size; omega)).trans (b0 2 _ rfl), (hb.cell (p := ⟨w.heap.size, 3, none⟩) (by show w.heap.size < w1.heap.size; omega)).trans (b0 3 _ rfl)⟩
    have hB0 : Below w1.heap.size w1 w1.drew := (Below.refl _ _).drew
    refine wp_region_last (L := 6) (S := fun w' : World => w'.cell? ⟨w.heap.size, 0, none⟩ = some (.int .i64 f.params) ∧ w'.cell? ⟨w.heap.size, 1, none⟩ = some (.int .i64 f.result) ∧ w'.cell? ⟨w.heap.size, 2, none⟩ = some (.slice Ar f.regs.length cr) ∧ w'.cell? ⟨w.heap.size, 3, none⟩ = some (.slice A f.blocks.length c)) (by kernel_rfl) (by rfl) (by kernel_rfl) (by kernel_rfl) ?_
    change wpAnyH _ _ _ _ _ _ _ _ (World.drew _)
    obtain ⟨v0, hv0'⟩ : ∃ v0, w1.drew = v0 := ⟨_, rfl⟩
    rw [hv0'] at hB0 ⊢
    have hz0 := hB0.size
    clear hv0'
    refine takeH (i := 0) (some 8) (v := ?_) rfl (by kernel_rfl) (by kernel_rfl) (by kernel_rfl) (fun _ _ _ h => h) (hS _ hB0) (fun o ho => ?_) ?_
    rotate_left
    · simp only [List.getElem?_toArray, List.getElem?_cons_zero, Option.some.injEq] at ho; subst ho; refine Or.inl ⟨by rfl, fun w' hSw => ?_⟩; (try dsimp only at hSw); go_simp; try with_reducible rfl
    simp only [Act.put, List.setIfInBounds_toArray, List.set_cons_zero, List.set_cons_succ]
    refine takeH (i := 2) (some 10) (v := ?_) rfl (by kernel_rfl) (by kernel_rfl) (by kernel_rfl) (fun _ _ _ h => h) (hS _ hB0) (fun o ho => ?_) ?_
    rotate_left
    · simp only [List.getElem?_toArray, List.getElem?_cons_zero, List.getElem?_cons_succ, Option.some.injEq] at ho; subst ho; refine Or.inl ⟨by rfl, fun w' hSw => ?_⟩; (try dsimp only at hSw); go_simp; try with_reducible rfl
    simp only [Act.put, List.setIfInBounds_toArray, List.set_cons_zero, List.set_cons_succ]
    refine manyH (rs := [1, 5]) (by kernel_rfl) (by simp) (fun i hi o ho K' hK => ?_)
    simp only [List.mem_cons, List.not_mem_nil, or_false] at hi
    rcases hi with rfl | rfl
    · simp only [List.getElem?_toArray, List.getElem?_cons_zero, List.getElem?_cons_succ, Option.some.injEq] at ho; subst ho
      go_simp
      refine (order_any f _ v0 (VFun.keep (kept_of_below (hBw.trans (hB0.mono (by omega)))) hv0) hn).mono ?_
      rintro e v1 ⟨⟨vo, rfl, hoo⟩, hb1⟩
      obtain ⟨Ao, co, rfl, fA⟩ := sl_of_ownI hoo (fun x hx => (orderF_lt hx)) hn
      have cA1 : Below v1.heap.size v1 v1 := Below.refl _ _
      dsimp only
      have hB1 : Below w1.heap.size w1 v1 := hB0.trans (hb1.mono (by have := hB0.size; omega))
      have hz1 := hb1.size
      refine hK.out _ _ (hS _ hB1) ?_
      clear hK K'
      try simp only [Act.put, List.setIfInBounds_toArray, List.set_cons_zero, List.set_cons_succ]
      refine manyH (rs := [3, 5]) (by kernel_rfl) (by simp) (fun i hi o ho K' hK => ?_)
      simp only [List.mem_cons, List.not_mem_nil, or_false] at hi
      rcases hi with rfl | rfl
      · simp only [List.getElem?_toArray, List.getElem?_cons_zero, List.getElem?_cons_succ, Option.some.injEq] at ho; subst ho
        go_simp
        refine (next_any f _ v1 (VFun.keep (kept_of_below (hBw.trans (hB1.mono (by omega)))) hv0) (by omega)).mono ?_
        rintro e v2 ⟨⟨V1, Gn, rfl, hGn, hgr⟩, hb2⟩
        have fB : ∀ w', (∀ g, v1.heap.size ≤ g → g < v2.heap.size → w'.heap[g]? = v2.heap[g]?) → SL w' 1 RRow (some ⟨Gn, 0, none⟩) f.blocks.length ((List.range f.blocks.length).map fun i => zs (nxF f.blocks i)) := fun w' h => (hgr.of_blocks (w' := w') (h Gn hGn hgr.row.lt) (fun g h1 h2 => h g (by omega) h2)).reads (by omega) (fun i hi x hx => by obtain ⟨q, hq, rfl⟩ := zs_mem hx; have := nxF_lt f.blocks i q hq; unfold I64; omega)
        have cB2 : Below v2.heap.size v2 v2 := Below.refl _ _
        dsimp only
        have cA2 := cA1.trans (hb2.mono cA1.size)
        have hB2 : Below w1.heap.size w1 v2 := hB1.trans (hb2.mono (by have := hB1.size; omega))
        have hz2 := hb2.size
        refine hK.out _ _ (hS _ hB2) ?_
        clear hK K'
        try simp only [Act.put, List.setIfInBounds_toArray, List.set_cons_zero, List.set_cons_succ]
        refine takeH (i := 4) (some 12) (v := ?_) rfl (by kernel_rfl) (by kernel_rfl) (by kernel_rfl) (fun _ _ _ h => h) (hS _ hB2) (fun o ho => ?_) ?_
        rotate_left
        · simp only [List.getElem?_toArray, List.getElem?_cons_zero, List.getElem?_cons_succ, Option.some.injEq] at ho; subst ho; refine Or.inl ⟨by rfl, fun w' hSw => ?_⟩; (try dsimp only at hSw); go_simp; try with_reducible rfl
        simp only [Act.put, List.setIfInBounds_toArray, List.set_cons_zero, List.set_cons_succ]
        refine manyH (rs := [5]) (by kernel_rfl) (by simp) (fun i hi o ho K' hK => ?_)
        simp only [List.mem_cons, List.not_mem_nil, or_false] at hi
        subst hi
        · simp only [List.getElem?_toArray, List.getElem?_cons_zero, List.getElem?_cons_succ, Option.some.injEq] at ho; subst ho
          go_simp
          obtain ⟨v3, hw3⟩ : ∃ v, v2.alloc (.cells #[.slice none 0 0, .slice none 0 0, .slice none 0 0, .slice none 0 0, .slice none 0 0] 70) = v := ⟨_, rfl⟩
          have hb3 : Below v2.heap.size v2 v3 := by rw [← hw3]; exact (Below.refl _ _).alloc (Nat.le_refl _) _
          have fC3 : v3.heap[v2.heap.size]? = some (.cells #[.slice none 0 0, .slice none 0 0, .slice none 0 0, .slice none 0 0, .slice none 0 0] 70) := by rw [← hw3]; exact World.alloc_heap_new _ _
          have hst : v2.heap.size < v3.heap.size := by rw [← hw3]; simp
          rw [hw3]
          have cA3 := cA2.trans (hb3.mono cA2.size)
          have cB3 := cB2.trans (hb3.mono cB2.size)
          have hB3 : Below w1.heap.size w1 v3 := hB2.trans (hb3.mono (by have := hB2.size; omega))
          have hz3 := hb3.size
          refine hK.out _ _ (hS _ hB3) ?_
          clear hK K'
          try simp only [Act.put, List.setIfInBounds_toArray, List.set_cons_zero, List.set_cons_succ]
          refine wpAnyH_done (by kernel_rfl) ?_ _
          refine lastH (by decide) (fun o ho K' hK => ?_)
          simp only [List.getElem?_toArray, List.getElem?_cons_zero, List.getElem?_cons_succ, Option.some.injEq] at ho; subst ho
          obtain ⟨z0, z1, z2, z3, z4, u0, u1, u2, u3, u4⟩ := ways_cells fC3
          go_simp
          refine hK.out _ _ ?_
          clear hK K'
          have hw := cA3.size
          have hw' := cB3.size
          have hw3 := hgr.row.lt
          exact WsR.leaf (fun w' h => fA w' (fun g h1 h2 => (h g (by omega) (by omega) (by omega)).trans (cA3.block g h2))) (fun w' h => fB w' (fun g h1 h2 => (h g (by omega) (by omega) (by omega)).trans (cB3.block g h2))) fC3 hB3 (by simp only [Act.put, List.setIfInBounds_toArray, List.set_cons_zero, List.set_cons_succ]) (by omega) (by omega)
      · simp only [List.getElem?_toArray, List.getElem?_cons_zero, List.getElem?_cons_succ, Option.some.injEq] at ho; subst ho
        go_simp
        obtain ⟨v2, hw2⟩ : ∃ v, v1.alloc (.cells #[.slice none 0 0, .slice none 0 0, .slice none 0 0, .slice none 0 0, .slice none 0 0] 70) = v := ⟨_, rfl⟩
        have hb2 : Below v1.heap.size v1 v2 := by rw [← hw2]; exact (Below.refl _ _).alloc (Nat.le_refl _) _
        have fC2 : v2.heap[v1.heap.size]? = some (.cells #[.slice none 0 0, .slice none 0 0, .slice none 0 0, .slice none 0 0, .slice none 0 0] 70) := by rw [← hw2]; exact World.alloc_heap_new _ _
        have hst : v1.heap.size < v2.heap.size := by rw [← hw2]; simp
        rw [hw2]
        have cA2 := cA1.trans (hb2.mono cA1.size)
        have hB2 : Below w1.heap.size w1 v2 := hB1.trans (hb2.mono (by have := hB1.size; omega))
        have hz2 := hb2.size
        refine hK.out _ _ (hS _ hB2) ?_
        clear hK K'
        try simp only [Act.put, List.setIfInBounds_toArray, List.set_cons_zero, List.set_cons_succ]
        refine manyH (rs := [3]) (by kernel_rfl) (by simp) (fun i hi o ho K' hK => ?_)
        simp only [List.mem_cons, List.not_mem_nil, or_false] at hi
        subst hi
        · simp only [List.getElem?_toArray, List.getElem?_cons_zero, List.getElem?_cons_succ, Option.some.injEq] at ho; subst ho
          go_simp
          refine (next_any f _ v2 (VFun.keep (kept_of_below (hBw.trans (hB2.mono (by omega)))) hv0) (by omega)).mono ?_
          rintro e v3 ⟨⟨V1, Gn, rfl, hGn, hgr⟩, hb3⟩
          have fB : ∀ w', (∀ g, v2.heap.size ≤ g → g < v3.heap.size → w'.heap[g]? = v3.heap[g]?) → SL w' 1 RRow (some ⟨Gn, 0, none⟩) f.blocks.length ((List.range f.blocks.length).map fun i => zs (nxF f.blocks i)) := fun w' h => (hgr.of_blocks (w' := w') (h Gn hGn hgr.row.lt) (fun g h1 h2 => h g (by omega) h2)).reads (by omega) (fun i hi x hx => by obtain ⟨q, hq, rfl⟩ := zs_mem hx; have := nxF_lt f.blocks i q hq; unfold I64; omega)
          have cB3 : Below v3.heap.size v3 v3 := Below.refl _ _
          dsimp only
          have cA3 := cA2.trans (hb3.mono cA2.size)
          have fC3 := (hb3.block _ (Array.getElem?_eq_some_iff.1 fC2).1).trans fC2
          have hB3 : Below w1.heap.size w1 v3 := hB2.trans (hb3.mono (by have := hB2.size; omega))
          have hz3 := hb3.size
          refine hK.out _ _ (hS _ hB3) ?_
          clear hK K'
          try simp only [Act.put, List.setIfInBounds_toArray, List.set_cons_zero, List.set_cons_succ]
          refine takeH (i := 4) (some 12) (v := ?_) rfl (by kernel_rfl) (by kernel_rfl) (by kernel_rfl) (fun _ _ _ h => h) (hS _ hB3) (fun o ho => ?_) ?_
          rotate_left
          · simp only [List.getElem?_toArray, List.getElem?_cons_zero, List.getElem?_cons_succ, Option.some.injEq] at ho; subst ho; refine Or.inl ⟨by rfl, fun w' hSw => ?_⟩; (try dsimp only at hSw); go_simp; try with_reducible rfl
          simp only [Act.put, List.setIfInBounds_toArray, List.set_cons_zero, List.set_cons_succ]
          refine wpAnyH_done (by kernel_rfl) ?_ _
          refine lastH (by decide) (fun o ho K' hK => ?_)
          simp only [List.getElem?_toArray, List.getElem?_cons_zero, List.getElem?_cons_succ, Option.some.injEq] at ho; subst ho
          obtain ⟨z0, z1, z2, z3, z4, u0, u1, u2, u3, u4⟩ := ways_cells fC3
          go_simp
          refine hK.out _ _ ?_
          clear hK K'
          have hw := cA3.size
          have hw' := cB3.size
          have hw3 := hgr.row.lt
          exact WsR.leaf (fun w' h => fA w' (fun g h1 h2 => (h g (by omega) (by omega) (by omega)).trans (cA3.block g h2))) (fun w' h => fB w' (fun g h1 h2 => (h g (by omega) (by omega) (by omega)).trans (cB3.block g h2))) fC3 hB3 (by simp only [Act.put, List.setIfInBounds_toArray, List.set_cons_zero, List.set_cons_succ]) (by omega) (by omega)
    · simp only [List.getElem?_toArray, List.getElem?_cons_zero, List.getElem?_cons_succ, Option.some.injEq] at ho; subst ho
      go_simp
      obtain ⟨v1, hw1⟩ : ∃ v, v0.alloc (.cells #[.slice none 0 0, .slice none 0 0, .slice none 0 0, .slice none 0 0, .slice none 0 0] 70) = v := ⟨_, rfl⟩
      have hb1 : Below v0.heap.size v0 v1 := by rw [← hw1]; exact (Below.refl _ _).alloc (Nat.le_refl _) _
      have fC1 : v1.heap[v0.heap.size]? = some (.cells #[.slice none 0 0, .slice none 0 0, .slice none 0 0, .slice none 0 0, .slice none 0 0] 70) := by rw [← hw1]; exact World.alloc_heap_new _ _
      have hst : v0.heap.size < v1.heap.size := by rw [← hw1]; simp
      rw [hw1]
      have hB1 : Below w1.heap.size w1 v1 := hB0.trans (hb1.mono (by have := hB0.size; omega))
      have hz1 := hb1.size
      refine hK.out _ _ (hS _ hB1) ?_
      clear hK K'
      try simp only [Act.put, List.setIfInBounds_toArray, List.set_cons_zero, List.set_cons_succ]
      refine manyH (rs := [1]) (by kernel_rfl) (by simp) (fun i hi o ho K' hK => ?_)
      simp only [List.mem_cons, List.not_mem_nil, or_false] at hi
      subst hi
      · simp only [List.getElem?_toArray, List.getElem?_cons_zero, List.getElem?_cons_succ, Option.some.injEq] at ho; subst ho
        go_simp
        refine (order_any f _ v1 (VFun.keep (kept_of_below (hBw.trans (hB1.mono (by omega)))) hv0) hn).mono ?_
        rintro e v2 ⟨⟨vo, rfl, hoo⟩, hb2⟩
        obtain ⟨Ao, co, rfl, fA⟩ := sl_of_ownI hoo (fun x hx => (orderF_lt hx)) hn
        have cA2 : Below v2.heap.size v2 v2 := Below.refl _ _
        dsimp only
        have fC2 := (hb2.block _ (Array.getElem?_eq_some_iff.1 fC1).1).trans fC1
        have hB2 : Below w1.heap.size w1 v2 := hB1.trans (hb2.mono (by have := hB1.size; omega))
        have hz2 := hb2.size
        refine hK.out _ _ (hS _ hB2) ?_
        clear hK K'
        try simp only [Act.put, List.setIfInBounds_toArray, List.set_cons_zero, List.set_cons_succ]
        refine manyH (rs := [3]) (by kernel_rfl) (by simp) (fun i hi o ho K' hK => ?_)
        simp only [List.mem_cons, List.not_mem_nil, or_false] at hi
        subst hi
        · simp only [List.getElem?_toArray, List.getElem?_cons_zero, List.getElem?_cons_succ, Option.some.injEq] at ho; subst ho
          go_simp
          refine (next_any f _ v2 (VFun.keep (kept_of_below (hBw.trans (hB2.mono (by omega)))) hv0) (by omega)).mono ?_
          rintro e v3 ⟨⟨V1, Gn, rfl, hGn, hgr⟩, hb3⟩
          have fB : ∀ w', (∀ g, v2.heap.size ≤ g → g < v3.heap.size → w'.heap[g]? = v3.heap[g]?) → SL w' 1 RRow (some ⟨Gn, 0, none⟩) f.blocks.length ((List.range f.blocks.length).map fun i => zs (nxF f.blocks i)) := fun w' h => (hgr.of_blocks (w' := w') (h Gn hGn hgr.row.lt) (fun g h1 h2 => h g (by omega) h2)).reads (by omega) (fun i hi x hx => by obtain ⟨q, hq, rfl⟩ := zs_mem hx; have := nxF_lt f.blocks i q hq; unfold I64; omega)
          have cB3 : Below v3.heap.size v3 v3 := Below.refl _ _
          dsimp only
          have fC3 := (hb3.block _ (Array.getElem?_eq_some_iff.1 fC2).1).trans fC2
          have cA3 := cA2.trans (hb3.mono cA2.size)
          have hB3 : Below w1.heap.size w1 v3 := hB2.trans (hb3.mono (by have := hB2.size; omega))
          have hz3 := hb3.size
          refine hK.out _ _ (hS _ hB3) ?_
          clear hK K'
          try simp only [Act.put, List.setIfInBounds_toArray, List.set_cons_zero, List.set_cons_succ]
          refine takeH (i := 4) (some 12) (v := ?_) rfl (by kernel_rfl) (by kernel_rfl) (by kernel_rfl) (fun _ _ _ h => h) (hS _ hB3) (fun o ho => ?_) ?_
          rotate_left
          · simp only [List.getElem?_toArray, List.getElem?_cons_zero, List.getElem?_cons_succ, Option.some.injEq] at ho; subst ho; refine Or.inl ⟨by rfl, fun w' hSw => ?_⟩; (try dsimp only at hSw); go_simp; try with_reducible rfl
          simp only [Act.put, List.setIfInBounds_toArray, List.set_cons_zero, List.set_cons_succ]
          refine wpAnyH_done (by kernel_rfl) ?_ _
          refine lastH (by decide) (fun o ho K' hK => ?_)
          simp only [List.getElem?_toArray, List.getElem?_cons_zero, List.getElem?_cons_succ, Option.some.injEq] at ho; subst ho
          obtain ⟨z0, z1, z2, z3, z4, u0, u1, u2, u3, u4⟩ := ways_cells fC3
          go_simp
          refine hK.out _ _ ?_
          clear hK K'
          have hw := cA3.size
          have hw' := cB3.size
          have hw3 := hgr.row.lt
          exact WsR.leaf (fun w' h => fA w' (fun g h1 h2 => (h g (by omega) (by omega) (by omega)).trans (cA3.block g h2))) (fun w' h => fB w' (fun g h1 h2 => (h g (by omega) (by omega) (by omega)).trans (cB3.block g h2))) fC3 hB3 (by simp only [Act.put, List.setIfInBounds_toArray, List.set_cons_zero, List.set_cons_succ]) (by omega) (by omega)
  case rest =>
    rintro a' w2 ⟨Ao, co, Gn, N3, rfl, hO, hNx, hN3, hb2, q3, hGnl⟩
    simp only [Act.put, List.setIfInBounds_toArray, List.set_cons_zero, List.set_cons_succ]
    have hz2 := hb2.size
    have HO := Lib.hid hO
    have HNX := Lib.hid hNx
    have HN3 := Lib.hid hN3
    have e2' : w2.heap[w.heap.size + 1]? = _ := (hb2.block _ (by omega)).trans e2
    have E2 := Lib.hid e2'
    have lN := (Array.getElem?_eq_some_iff.1 hN3).1
    obtain ⟨z0, z1, z2, z3, z4, u0, u1, u2, u3, u4⟩ := ways_cells hN3
    have x0 : w2.cell? ⟨w.heap.size, 0, none⟩ = some (.int .i64 f.params) := (hb2.cell (p := ⟨w.heap.size, 0, none⟩) (by show w.heap.size < w1.heap.size; omega)).trans (b0 0 _ rfl)
    have x1 : w2.cell? ⟨w.heap.size, 1, none⟩ = some (.int .i64 f.result) := (hb2.cell (p := ⟨w.heap.size, 1, none⟩) (by show w.heap.size < w1.heap.size; omega)).trans (b0 1 _ rfl)
    have x2 : w2.cell? ⟨w.heap.size, 2, none⟩ = some (.slice Ar f.regs.length cr) := (hb2.cell (p := ⟨w.heap.size, 2, none⟩) (by show w.heap.size < w1.heap.size; omega)).trans (b0 2 _ rfl)
    have x3 : w2.cell? ⟨w.heap.size, 3, none⟩ = some (.slice A f.blocks.length c) := (hb2.cell (p := ⟨w.heap.size, 3, none⟩) (by show w.heap.size < w1.heap.size; omega)).trans (b0 3 _ rfl)
    have hBw2 : Below w.heap.size w w2 := hBw.trans (hb2.mono (by omega))
    have HB2 := Lib.hid hBw2
    have HV := Lib.hid hv0
    clear hO hNx e2' e2 b0 hBw hb2 hN3
    go_wp2_with fail
    refine wp_named (fun a a' w' => ∃ (nm en : Nat → Int) (G1 : Nat) (A2 : Option Addr) (c2 : Nat) (H : Nat) (ord : Nat → Nat), a' = (((((((((a.put (some 14) (.pointer (some ⟨N3, 0, none⟩))).put (some 15) (.slice Ao (orderF f.blocks).length co)).put (some 16) (.agg #[.int .i64 f.params, .int .i64 f.result, .slice Ar f.regs.length cr, .slice A f.blocks.length c])).put (some 17) (.slice (some ⟨H, 0, none⟩) f.blocks.length f.blocks.length)).put (some 18) (.tuple #[.slice (some ⟨G1, 0, none⟩) f.blocks.length f.blocks.length, .slice A2 f.blocks.length c2])).put (some 13) (.tuple #[.slice (some ⟨G1, 0, none⟩) f.blocks.length f.blocks.length, .slice A2 f.blocks.length c2])).put (some 19) (.slice (some ⟨G1, 0, none⟩) f.blocks.length f.blocks.length)).put (some 20) (.slice A2 f.blocks.length c2)).put (some 21) (.pointer (some ⟨N3, 3, none⟩))).put (some 22) (.pointer (some ⟨N3, 4, none⟩)) ∧
      NumE f.blocks nm en ∧ NearB f.blocks (nearD f.blocks) ord ∧ w2.heap.size ≤ G1 ∧ w'.rowIs G1 3 f.blocks.length (fun b => .int .i64 (nm b)) ∧ (0 < f.blocks.length → ∃ g, A2 = some ⟨g, 0, none⟩ ∧ w2.heap.size ≤ g ∧ RowG w' g 3 f.blocks.length (fun b => .int .i64 (en b))) ∧
      w'.heap[N3]? = some (.cells #[.slice Ao (orderF f.blocks).length co, .slice (some ⟨Gn, 0, none⟩) f.blocks.length f.blocks.length, .slice none 0 0, .slice (some ⟨G1, 0, none⟩) f.blocks.length f.blocks.length, .slice A2 f.blocks.length c2] 70) ∧ FrX (fun b => b = N3) w2 w') ?reg2 ?rest2
    case reg2 =>
      have hS : ∀ w', Below w2.heap.size w2 w' → w'.cell? ⟨N3, 0, none⟩ = some (.slice Ao (orderF f.blocks).length co) ∧ w'.cell? ⟨w.heap.size, 0, none⟩ = some (.int .i64 f.params) ∧ w'.cell? ⟨w.heap.size, 1, none⟩ = some (.int .i64 f.result) ∧ w'.cell? ⟨w.heap.size, 2, none⟩ = some (.slice Ar f.regs.length cr) ∧ w'.cell? ⟨w.heap.size, 3, none⟩ = some (.slice A f.blocks.length c) := fun w' hb =>
        ⟨(hb.cell (p := ⟨N3, 0, none⟩) lN).trans z0, (hb.cell (p := ⟨w.heap.size, 0, none⟩) (by show w.heap.size < w2.heap.size; omega)).trans x0, (hb.cell (p := ⟨w.heap.size, 1, none⟩) (by show w.heap.size < w2.heap.size; omega)).trans x1, (hb.cell (p := ⟨w.heap.size, 2, none⟩) (by show w.heap.size < w2.heap.size; omega)).trans x2, (hb.cell (p := ⟨w.heap.size, 3, none⟩) (by show w.heap.size < w2.heap.size; omega)).trans x3⟩
      have hS0 := hS w2.drew (Below.refl _ _).drew
      refine wp_region_last (L := 11) (S := fun w' : World => w'.cell? ⟨N3, 0, none⟩ = some (.slice Ao (orderF f.blocks).length co) ∧ w'.cell? ⟨w.heap.size, 0, none⟩ = some (.int .i64 f.params) ∧ w'.cell? ⟨w.heap.size, 1, none⟩ = some (.int .i64 f.result) ∧ w'.cell? ⟨w.heap.size, 2, none⟩ = some (.slice Ar f.regs.length cr) ∧ w'.cell? ⟨w.heap.size, 3, none⟩ = some (.slice A f.blocks.length c)) (by kernel_rfl) (by rfl) (by kernel_rfl) (by kernel_rfl) ?_
      change wpAnyH _ _ _ _ _ _ _ _ (World.drew _)
      refine takeH (i := 0) (some 14) (v := ?_) rfl (by kernel_rfl) (by kernel_rfl) (by kernel_rfl) (fun _ _ _ h => h) hS0 (fun o ho => ?_) ?_
      rotate_left
      · simp only [List.getElem?_toArray, List.getElem?_cons_zero, Option.some.injEq] at ho; subst ho; refine Or.inl ⟨by rfl, fun w' hSw => ?_⟩; (try dsimp only at hSw); go_simp; try with_reducible rfl
      simp only [Act.put, List.setIfInBounds_toArray, List.set_cons_zero, List.set_cons_succ]
      refine takeH (i := 1) (some 15) (v := ?_) rfl (by kernel_rfl) (by kernel_rfl) (by kernel_rfl) (fun _ _ _ h => h) hS0 (fun o ho => ?_) ?_
      rotate_left
      · simp only [List.getElem?_toArray, List.getElem?_cons_zero, List.getElem?_cons_succ, Option.some.injEq] at ho; subst ho; refine Or.inl ⟨by rfl, fun w' hSw => ?_⟩; (try dsimp only at hSw); go_simp; try with_reducible rfl
      simp only [Act.put, List.setIfInBounds_toArray, List.set_cons_zero, List.set_cons_succ]
      refine takeH (i := 2) (some 16) (v := ?_) rfl (by kernel_rfl) (by kernel_rfl) (by kernel_rfl) (fun _ _ _ h => h) hS0 (fun o ho => ?_) ?_
      rotate_left
      · simp only [List.getElem?_toArray, List.getElem?_cons_zero, List.getElem?_cons_succ, Option.some.injEq] at ho; subst ho; refine Or.inl ⟨by rfl, fun w' hSw => ?_⟩; (try dsimp only at hSw); go_simp; try with_reducible rfl
      simp only [Act.put, List.setIfInBounds_toArray, List.set_cons_zero, List.set_cons_succ]
      refine oneH (i := 3) (by kernel_rfl) (fun o ho K' hK => ?_)
      simp only [List.getElem?_toArray, List.getElem?_cons_zero, List.getElem?_cons_succ, Option.some.injEq] at ho; subst ho
      go_simp
      refine (nearest_any f _ w2.drew (VFun.keep (kept_of_below HB2.out.drew) HV.out) hn).mono ?_
      rintro e w3 ⟨⟨H, rfl, hH, hrH, ord, hNB⟩, hb3⟩
      dsimp only
      have hb3' : Below w2.heap.size w2 w3 := (Below.refl _ w2).drew.trans hb3
      refine hK.out _ _ (hS _ hb3') ?_
      clear hK K'
      try simp only [Act.put, List.setIfInBounds_toArray, List.set_cons_zero, List.set_cons_succ]
      refine oneH (i := 4) (by kernel_rfl) (fun o ho K' hK => ?_)
      simp only [List.getElem?_toArray, List.getElem?_cons_zero, List.getElem?_cons_succ, Option.some.injEq] at ho; subst ho
      go_simp
      refine (numbers_any f.blocks ord hNB hn Ao co H w3 (HO.out w3 (fun g _ _ h => hb3'.block g h)) hrH).mono ?_
      rintro e w4 ⟨⟨G1, A2, c2, nm, en, rfl, hG1, hr1, hr2, hE⟩, hb4⟩
      dsimp only
      have hb4' : Below w2.heap.size w2 w4 := hb3'.trans (hb4.mono hb3'.size)
      refine hK.out _ _ (hS _ hb4') ?_
      clear hK K'
      try simp only [Act.put, List.setIfInBounds_toArray, List.set_cons_zero, List.set_cons_succ]
      have hS4 := hS _ hb4'
      refine takeH (i := 5) (some 13) (v := ?_) rfl (by kernel_rfl) (by kernel_rfl) (by kernel_rfl) (fun _ _ _ h => h) hS4 (fun o ho => ?_) ?_
      rotate_left
      · simp only [List.getElem?_toArray, List.getElem?_cons_zero, List.getElem?_cons_succ, Option.some.injEq] at ho; subst ho; refine Or.inl ⟨by rfl, fun w' hSw => ?_⟩; (try dsimp only at hSw); go_simp; try with_reducible rfl
      simp only [Act.put, List.setIfInBounds_toArray, List.set_cons_zero, List.set_cons_succ]
      refine takeH (i := 6) (some 19) (v := ?_) rfl (by kernel_rfl) (by kernel_rfl) (by kernel_rfl) (fun _ _ _ h => h) hS4 (fun o ho => ?_) ?_
      rotate_left
      · simp only [List.getElem?_toArray, List.getElem?_cons_zero, List.getElem?_cons_succ, Option.some.injEq] at ho; subst ho; refine Or.inl ⟨by rfl, fun w' hSw => ?_⟩; (try dsimp only at hSw); go_simp; try with_reducible rfl
      simp only [Act.put, List.setIfInBounds_toArray, List.set_cons_zero, List.set_cons_succ]
      refine takeH (i := 7) (some 20) (v := ?_) rfl (by kernel_rfl) (by kernel_rfl) (by kernel_rfl) (fun _ _ _ h => h) hS4 (fun o ho => ?_) ?_
      rotate_left
      · simp only [List.getElem?_toArray, List.getElem?_cons_zero, List.getElem?_cons_succ, Option.some.injEq] at ho; subst ho; refine Or.inl ⟨by rfl, fun w' hSw => ?_⟩; (try dsimp only at hSw); go_simp; try with_reducible rfl
      simp only [Act.put, List.setIfInBounds_toArray, List.set_cons_zero, List.set_cons_succ]
      refine takeH (i := 8) (some 21) (v := ?_) rfl (by kernel_rfl) (by kernel_rfl) (by kernel_rfl) (fun _ _ _ h => h) hS4 (fun o ho => ?_) ?_
      rotate_left
      · simp only [List.getElem?_toArray, List.getElem?_cons_zero, List.getElem?_cons_succ, Option.some.injEq] at ho; subst ho; refine Or.inl ⟨by rfl, fun w' hSw => ?_⟩; (try dsimp only at hSw); go_simp; try with_reducible rfl
      simp only [Act.put, List.setIfInBounds_toArray, List.set_cons_zero, List.set_cons_succ]
      have hN4 : w4.heap[N3]? = some (.cells #[.slice Ao (orderF f.blocks).length co, .slice (some ⟨Gn, 0, none⟩) f.blocks.length f.blocks.length, .slice none 0 0, .slice none 0 0, .slice none 0 0] 70) := (hb4'.block _ lN).trans HN3.out
      obtain ⟨t0, t1, t2, t3, t4, p0, p1, p2, p3, p4⟩ := ways_cells hN4
      refine oneH (i := 9) (by kernel_rfl) (fun o ho K' hK => ?_)
      simp only [List.getElem?_toArray, List.getElem?_cons_zero, List.getElem?_cons_succ, Option.some.injEq] at ho; subst ho
      go_simp
      have hN5 : (w4.setCell ⟨N3, 3, none⟩ (.slice (some ⟨G1, 0, none⟩) f.blocks.length f.blocks.length)).heap[N3]? = some (.cells #[.slice Ao (orderF f.blocks).length co, .slice (some ⟨Gn, 0, none⟩) f.blocks.length f.blocks.length, .slice none 0 0, .slice (some ⟨G1, 0, none⟩) f.blocks.length f.blocks.length, .slice none 0 0] 70) := by
        simp [World.setCell, Array.getElem?_modify, hN4]
      obtain ⟨y0, y1, y2, y3, y4, q0, q1, q2, q3', q4⟩ := ways_cells hN5
      have hS5 : (w4.setCell ⟨N3, 3, none⟩ (.slice (some ⟨G1, 0, none⟩) f.blocks.length f.blocks.length)).cell? ⟨N3, 0, none⟩ = some (.slice Ao (orderF f.blocks).length co) ∧ (w4.setCell ⟨N3, 3, none⟩ (.slice (some ⟨G1, 0, none⟩) f.blocks.length f.blocks.length)).cell? ⟨w.heap.size, 0, none⟩ = some (.int .i64 f.params) ∧ (w4.setCell ⟨N3, 3, none⟩ (.slice (some ⟨G1, 0, none⟩) f.blocks.length f.blocks.length)).cell? ⟨w.heap.size, 1, none⟩ = some (.int .i64 f.result) ∧ (w4.setCell ⟨N3, 3, none⟩ (.slice (some ⟨G1, 0, none⟩) f.blocks.length f.blocks.length)).cell? ⟨w.heap.size, 2, none⟩ = some (.slice Ar f.regs.length cr) ∧ (w4.setCell ⟨N3, 3, none⟩ (.slice (some ⟨G1, 0, none⟩) f.blocks.length f.blocks.length)).cell? ⟨w.heap.size, 3, none⟩ = some (.slice A f.blocks.length c) := by
        have hne : w.heap.size ≠ N3 := by omega
        exact ⟨y0, (World.cell?_of_block (Below.heap_setCell _ _ _ _ hne)).trans hS4.2.1, (World.cell?_of_block (Below.heap_setCell _ _ _ _ hne)).trans hS4.2.2.1, (World.cell?_of_block (Below.heap_setCell _ _ _ _ hne)).trans hS4.2.2.2.1, (World.cell?_of_block (Below.heap_setCell _ _ _ _ hne)).trans hS4.2.2.2.2⟩
      refine hK.out _ _ hS5 ?_
      clear hK K'
      try simp only [Act.put, List.setIfInBounds_toArray, List.set_cons_zero, List.set_cons_succ]
      refine takeH (i := 10) (some 22) (v := ?_) rfl (by kernel_rfl) (by kernel_rfl) (by kernel_rfl) (fun _ _ _ h => h) hS5 (fun o ho => ?_) ?_
      rotate_left
      · simp only [List.getElem?_toArray, List.getElem?_cons_zero, List.getElem?_cons_succ, Option.some.injEq] at ho; subst ho; refine Or.inl ⟨by rfl, fun w' hSw => ?_⟩; (try dsimp only at hSw); go_simp; try with_reducible rfl
      simp only [Act.put, List.setIfInBounds_toArray, List.set_cons_zero, List.set_cons_succ]
      refine wpAnyH_done (by kernel_rfl) ?_ _
      refine lastH (by decide) (fun o ho K' hK => ?_)
      simp only [List.getElem?_toArray, List.getElem?_cons_zero, List.getElem?_cons_succ, Option.some.injEq] at ho; subst ho
      go_simp
      refine hK.out _ _ ?_
      clear hK K'
      have hg4 : w2.heap.size ≤ w3.heap.size := hb3'.size
      have hkb : ∀ g, g ≠ N3 → ((w4.setCell ⟨N3, 3, none⟩ (.slice (some ⟨G1, 0, none⟩) f.blocks.length f.blocks.length)).setCell ⟨N3, 4, none⟩ (.slice A2 f.blocks.length c2)).heap[g]? = w4.heap[g]? := fun g hg => (Below.heap_setCell _ _ _ _ hg).trans (Below.heap_setCell _ _ _ _ hg)
      refine ⟨nm, en, G1, A2, c2, H, ord, rfl, hE, hNB, by omega, hr1.of_block (hkb G1 (by omega)), fun hp => ?_, ?_, ((FrX.of_below (X := fun b => b = N3) hb4').setCell (p := ⟨N3, 3, none⟩) (.inl rfl) _).setCell (p := ⟨N3, 4, none⟩) (.inl rfl) _⟩
      · obtain ⟨g, h1, h2, h3⟩ := hr2 hp
        exact ⟨g, h1, by omega, h3.of_block (hkb g (by omega))⟩
      · simp [World.setCell, Array.getElem?_modify, hN4]
    case rest2 =>
      rintro a' w4 ⟨nm, en, G1, A2, c2, H, ord, rfl, hE, hNB, hG1, hr1, hr2, hN4, hf4⟩
      clear x0 x1 x2 x3 z0 z1 z2 z3 z4 u0 u1 u2 u3 u4
      obtain ⟨i0, hi, hz0, hz1, hz2'⟩ := info_parts Try.info3
      have HI := Lib.hid (And.intro hi (And.intro hz0 (And.intro hz1 hz2')))
      clear hi hz0 hz1 hz2'
      simp only [Act.put, List.setIfInBounds_toArray, List.set_cons_zero, List.set_cons_succ]
      have hz4 := hf4.size
      have lN4 : N3 < w4.heap.size := by omega
      obtain ⟨n, hn2⟩ : ∃ n, n = f.blocks.length := ⟨_, rfl⟩
      obtain ⟨ln, hl2⟩ : ∃ ln, ln = (orderF f.blocks).length := ⟨_, rfl⟩
      have HNN := Lib.hid hn2
      have HLN := Lib.hid hl2
      rw [← hn2] at hr1 hr2 hN4 hn
      rw [← hl2] at hN4
      rw [← hn2, ← hl2]
      clear hn2 hl2
      have hmk := run_make_row' (P := Try.prog) 68 22 (.slice none 0 0) 24 Try.underlying68 Try.info22 rfl .i64 .i64 n (by omega) (by omega)
      obtain ⟨Ga, hGa⟩ : ∃ Ga, w4.heap.size = Ga := ⟨_, rfl⟩
      obtain ⟨w5, hw5⟩ : ∃ w5, w4.alloc (.cells (madeCells #[.slice none 0 0] n) 22) = w5 := ⟨_, rfl⟩
      have hb5 : Below w4.heap.size w4 w5 := by rw [← hw5]; exact (Below.refl _ _).alloc (Nat.le_refl _) _
      have hN5 := (hb5.block N3 lN4).trans hN4
      obtain ⟨y0, y1, y2, y3, y4, q0, q1, q2, q3', q4⟩ := ways_cells hN4
      obtain ⟨t0, t1, t2, t3, t4, s0, s1, s2, s3, s4⟩ := ways_cells hN5
      have hG5 : ∀ K, Ga < K → Gri w5 Ga K n (fun _ => .slice none 0 0) (fun _ => []) := fun K hK => by rw [← hw5, ← hGa]; exact Gri.made w4 _ K _ rfl (by rw [hGa]; exact hK)
      obtain ⟨w6, hw6⟩ : ∃ w6, w5.setCell ⟨N3, 2, none⟩ (.slice (some ⟨Ga, 0, none⟩) n n) = w6 := ⟨_, rfl⟩
      have hk6 : ∀ g, g ≠ N3 → w6.heap[g]? = w5.heap[g]? := fun g hg => by rw [← hw6]; exact Below.heap_setCell _ _ _ _ hg
      have hsz6 : w6.heap.size = w5.heap.size := by rw [← hw6]; simp
      have hsz5 : w4.heap.size < w5.heap.size := by rw [← hw5]; simp
      have hN6 : w6.heap[N3]? = some (.cells #[.slice Ao ln co, .slice (some ⟨Gn, 0, none⟩) n n, .slice (some ⟨Ga, 0, none⟩) n n, .slice (some ⟨G1, 0, none⟩) n n, .slice A2 n c2] 70) := by
        rw [← hw6]; simp [World.setCell, Array.getElem?_modify, hN5]
      have hGN : Ga ≠ N3 := by omega
      obtain ⟨k0, k1, k2, k3, k4, -, -, -, -, -⟩ := ways_cells hN6
      have hg6 : Gri w6 Ga w6.heap.size n (fun _ => .slice none 0 0) (fun _ => []) := (hG5 w6.heap.size (by omega)).of_blocks (w' := w6) (hk6 Ga hGN) (fun g h1 h2 => by omega)
      have hf6 : FrX (fun b => b = N3) w2 w6 := by rw [← hw6]; exact (hf4.trans (FrX.of_below hb5)).setCell (p := ⟨N3, 2, none⟩) (.inl rfl) _
      have hr16 : w6.rowIs G1 3 n (fun b => .int .i64 (nm b)) := (hr1.of_block (hb5.block G1 hr1.lt)).of_block (hk6 G1 (by omega))
      have hr26 : 0 < n → ∃ g, A2 = some ⟨g, 0, none⟩ ∧ w1.heap.size ≤ g ∧ g < Ga ∧ RowG w6 g 3 n (fun b => .int .i64 (en b)) := fun hp => by
        obtain ⟨g, h1, h2, h3⟩ := hr2 hp
        have := h3.lt
        exact ⟨g, h1, by omega, by omega, (h3.of_block (hb5.block g h3.lt)).of_block (hk6 g (by omega))⟩
      have hO6 : ∀ w', (∀ g, w1.heap.size ≤ g → g ≠ Ga → g < w6.heap.size → w'.heap[g]? = w6.heap[g]?) → SL w' 1 RInt Ao co (zs (orderF f.blocks)) := fun w' hw => HO.out w' (fun g h0 h1 h2 => (hw g h0 (by omega) (by have := hf6.size; omega)).trans (hf6.block g h2 h1))
      have hNx6 : ∀ w', (∀ g, w1.heap.size ≤ g → g ≠ Ga → g < w6.heap.size → w'.heap[g]? = w6.heap[g]?) → SL w' 1 RRow (some ⟨Gn, 0, none⟩) f.blocks.length ((List.range f.blocks.length).map fun i => zs (nxF f.blocks i)) := fun w' hw => HNX.out w' (fun g h0 h1 h2 => (hw g h0 (by omega) (by have := hf6.size; omega)).trans (hf6.block g h2 h1))
      have hlG1 : G1 < Ga := by have := hr1.lt; omega
      have hres : w6.heap[w.heap.size + 1]? = some (.cells #[.slice none 0 0, .slice none 0 0, .slice none 0 0, .slice none 0 0, .slice none 0 0] 70) := (hf6.block _ (by omega) (by show ¬ w.heap.size + 1 = N3; omega)).trans E2.out
      have hB6 : Below w.heap.size w w6 := HB2.out.trans (hf6.below (by omega) (fun b hb => by have : b = N3 := hb; omega))
      have HG6 := Lib.hid hg6
      have HF6 := Lib.hid hf6
      have HN6 := Lib.hid hN6
      have HR1 := Lib.hid hr16
      have HR2 := Lib.hid hr26
      have HO6 := Lib.hid hO6
      have HX6 := Lib.hid hNx6
      have HE := Lib.hid hE
      have HNB := Lib.hid hNB
      have HRES := Lib.hid hres
      have HB6 := Lib.hid hB6
      have HSZ : Hid (Ga < w6.heap.size ∧ N3 < Ga ∧ w2.heap.size ≤ Ga) := Lib.hid (by omega)
      clear hg6 hf6 hN6 hr16 hr26 hO6 hNx6 hE hNB hres hB6 hb5 hN5 hG5 hk6 hsz6 hsz5 hf4 hN4 hr1 hr2 HO HNX HN3
      go_wp2_with (first | rw [hGa] | rw [hw5] | rw [hw6])
      clear k0 k1 k2 k3 k4
      have hcell : ∀ w' i u, FrX (fun b => b = Ga) w6 w' → #[Value.slice Ao ln co, .slice (some ⟨Gn, 0, none⟩) n n, .slice (some ⟨Ga, 0, none⟩) n n, .slice (some ⟨G1, 0, none⟩) n n, .slice A2 n c2][i]? = some u → w'.cell? ⟨N3, i, none⟩ = some u := fun w' i u hw hu => by
        have h1 := (hw.block N3 (by have := HSZ.out; omega) (by show ¬ N3 = Ga; omega)).trans HN6.out
        simp only [World.cell?, h1]; exact hu
      have HCE := Lib.hid hcell
      clear hcell
      go_loopw [31] (fun s31 wq => ∃ (k : Nat) (V : Nat → Value), k ≤ n ∧ s31 = .int .i64 (k : Int) ∧ Gri wq Ga w6.heap.size n V (fun b => zs (raL f.blocks k b)) ∧ FrX (fun b => b = Ga) w6 wq) (fun s31 _ => n - (intOf s31).toNat)
      case atStart => exact ⟨0, _, Nat.zero_le _, rfl, HG6.out.congr fun i _ => rfl, FrX.refl _ _⟩
      case round =>
        obtain ⟨k, V, hk, rfl, hg, hfr⟩ := hrel
        obtain ⟨wo, rfl⟩ : ∃ wo, wo = wr := ⟨wr, rfl⟩
        have HG := Lib.hid hg
        have HFR := Lib.hid hfr
        by_cases hkn : k < n
        · obtain ⟨bg, og, l, hbo, hl, hcs⟩ := (HX6.out wo (fun g _ h1 h2 => hfr.block g h2 h1)).at_ (k := k) (by simp; rw [← HNN.out]; exact hkn)
          simp only [Option.some.injEq, Addr.mk.injEq, and_true] at hbo
          obtain ⟨rfl, rfl⟩ := hbo
          have hlz : l = zs (nxF f.blocks k) := (map_range_at _ hl.out).1
          subst hlz
          obtain ⟨A3, c3, hcA, hslA⟩ := hcs
          obtain ⟨m, hm⟩ : ∃ m, (nxF f.blocks k).length = m := ⟨_, rfl⟩
          rw [Nat.mul_one, Nat.zero_add, zs_len, hm] at hcA
          have hmn : m ≤ 1000 := by rw [← hm]; have h1 : (nxF f.blocks k).length ≤ f.blocks.length := by { unfold nxF; split; exact nextN_few _ _; simp }
                                    have := HNN.out; omega
          have x3 := HCE.out wo 3 _ hfr rfl
          have xn := (HR1.out.of_block (hfr.block G1 (by have := HSZ.out; omega) (by show ¬ G1 = Ga; omega))).cell hkn
          have hneg := HE.out.neg k (by rw [← HNN.out]; exact hkn)
          have HM := Lib.hid hm
          have hGnG : Gn < w6.heap.size ∧ Gn ≠ Ga := by have := HSZ.out; omega
          have HCA : Hid (∀ w', FrX (fun b => b = Ga) w6 w' → w'.cell? ⟨Gn, k, none⟩ = some (.slice A3 m c3)) := Lib.hid (fun w' hw => (World.cell?_of_block (a := ⟨Gn, k, none⟩) ((hw.block Gn hGnG.1 hGnG.2).trans (hfr.block Gn hGnG.1 hGnG.2).symm)).trans hcA)
          cases hre : reachF f.blocks k
          · have hlt0 : nm k < 0 := hneg.2 hre
            have HN3' := Lib.hid (hg.congr (L' := fun b => zs (raL f.blocks (k + 1) b)) fun b _ => by rw [raL_not hre])
            clear hg hfr hneg hm hslA hl hGnG
            go_wp2_with fail
            go_roundw
            case rel => exact ⟨k + 1, V, by omega, by go_num, HN3'.out, HFR.out⟩
            case measure => simp [intOf]; omega
          · have hge0 : 0 ≤ nm k := by
              have : ¬ nm k < 0 := fun h => by rw [hneg.1 h] at hre; cases hre
              omega
            have HRK := Lib.hid hre
            have HG7 := Lib.hid (hg.congr (L' := fun b => zs (raJ f.blocks k 0 b)) fun b _ => by rw [raJ_zero])
            clear hg hfr hneg hm hslA hl hre hGnG
            go_wp2_with fail
            clear hcA x3 xn
            go_loopw [44] (fun s44 wq => ∃ (j : Nat) (V : Nat → Value), j ≤ m ∧ s44 = .int .i64 (j : Int) ∧ Gri wq Ga w6.heap.size n V (fun b => zs (raJ f.blocks k j b)) ∧ FrX (fun b => b = Ga) w6 wq) (fun s44 _ => m - (intOf s44).toNat)
            case atStart => exact ⟨0, V, Nat.zero_le _, rfl, HG7.out, HFR.out⟩
            case round =>
              obtain ⟨j, V2, hj, rfl, hg, hfr⟩ := hrel
              obtain ⟨wj, rfl⟩ : ∃ wj, wj = wr := ⟨wr, rfl⟩
              have HGJ := Lib.hid hg
              have HFJ := Lib.hid hfr
              by_cases hjl : j < m
              · obtain ⟨bg, og, l, hbo, hl, hcs⟩ := (HX6.out wj (fun g _ h1 h2 => hfr.block g h2 h1)).at_ (k := k) (by simp; rw [← HNN.out]; exact hkn)
                simp only [Option.some.injEq, Addr.mk.injEq, and_true] at hbo
                obtain ⟨rfl, rfl⟩ := hbo
                have hlz : l = zs (nxF f.blocks k) := (map_range_at _ hl.out).1
                subst hlz
                obtain ⟨A4, c4, hcA4, hslA⟩ := hcs
                have hcA5 := HCA.out wj hfr
                rw [Nat.mul_one, Nat.zero_add, zs_len, HM.out, hcA5] at hcA4
                simp only [Option.some.injEq, Value.slice.injEq] at hcA4
                obtain ⟨rfl, -, rfl⟩ := hcA4
                obtain ⟨bt, ot, x, rfl, hx, hxc, -⟩ := hslA.int (k := j) (by rw [zs_len, HM.out]; exact hjl)
                obtain ⟨t, ht, rfl⟩ := zs_at hx.out
                have htn : t < n := by rw [HNN.out]; exact nxF_lt f.blocks k t (List.mem_of_getElem? ht)
                have hrow := hg.row.cell htn
                have hrowf := hg.row.frozen t
                have how := hg.own t htn
                have HOW := Lib.hid how
                have HT := Lib.hid ht
                have hll : (zs (raJ f.blocks k j t)).length ≤ 2000 := by
                  rw [zs_len]; unfold raJ
                  have := raL_len f.blocks k t
                  rw [List.length_append]
                  split <;> simp <;> omega
                have hz6 := hfr.size
                have x2 := HCE.out wj 2 _ hfr rfl
                clear hg hfr hx ht hl hcA5 hslA how
                go_wp2_with fail
                have hS : ∀ w', Below wj.heap.size wj w' → w'.cell? ⟨N3, 2, none⟩ = some (.slice (some ⟨Ga, 0, none⟩) n n) ∧ w'.cell? ⟨Ga, t, none⟩ = some (V2 t) := fun w' hb => ⟨(hb.cell (p := ⟨N3, 2, none⟩) (by have := HSZ.out; show N3 < wj.heap.size; omega)).trans x2, (hb.cell (p := ⟨Ga, t, none⟩) (by have := HSZ.out; show Ga < wj.heap.size; omega)).trans hrow⟩
                have hS0 := hS wj.drew (Below.refl _ _).drew
                obtain ⟨Av, cv, hvs⟩ := own_sliceL HOW.out
                rw [hvs] at hS0
                refine wp_region_last (L := 12) (S := fun w' : World => w'.cell? ⟨N3, 2, none⟩ = some (.slice (some ⟨Ga, 0, none⟩) n n) ∧ w'.cell? ⟨Ga, t, none⟩ = some (.slice Av (zs (raJ f.blocks k j t)).length cv)) (by kernel_rfl) (by rfl) (by kernel_rfl) (by kernel_rfl) ?_
                change wpAnyH _ _ _ _ _ _ _ _ (World.drew _)
                refine takeH (i := 0) (some 48) (v := ?_) rfl (by kernel_rfl) (by kernel_rfl) (by kernel_rfl) (fun _ _ _ h => h) hS0 (fun o ho => ?_) ?_
                rotate_left
                · simp only [List.getElem?_toArray, List.getElem?_cons_zero, Option.some.injEq] at ho; subst ho; refine Or.inl ⟨by rfl, fun w' hSw => ?_⟩; (try dsimp only at hSw); go_simp; try with_reducible rfl
                simp only [Act.put, List.setIfInBounds_toArray, List.set_cons_zero, List.set_cons_succ]
                refine takeH (i := 1) (some 49) (v := ?_) rfl (by kernel_rfl) (by kernel_rfl) (by kernel_rfl) (fun _ _ _ h => h) hS0 (fun o ho => ?_) ?_
                rotate_left
                · simp only [List.getElem?_toArray, List.getElem?_cons_zero, List.getElem?_cons_succ, Option.some.injEq] at ho; subst ho; refine Or.inl ⟨by rfl, fun w' hSw => ?_⟩; (try dsimp only at hSw); go_simp; try with_reducible rfl
                simp only [Act.put, List.setIfInBounds_toArray, List.set_cons_zero, List.set_cons_succ]
                refine takeH (i := 2) (some 50) (v := ?_) rfl (by kernel_rfl) (by kernel_rfl) (by kernel_rfl) (fun _ _ _ h => h) hS0 (fun o ho => ?_) ?_
                rotate_left
                · simp only [List.getElem?_toArray, List.getElem?_cons_zero, List.getElem?_cons_succ, Option.some.injEq] at ho; subst ho; refine Or.inl ⟨by rfl, fun w' hSw => ?_⟩; (try dsimp only at hSw); go_simp; try with_reducible rfl
                simp only [Act.put, List.setIfInBounds_toArray, List.set_cons_zero, List.set_cons_succ]
                refine takeH (i := 3) (some 51) (v := ?_) rfl (by kernel_rfl) (by kernel_rfl) (by kernel_rfl) (fun _ _ _ h => h) hS0 (fun o ho => ?_) ?_
                rotate_left
                · simp only [List.getElem?_toArray, List.getElem?_cons_zero, List.getElem?_cons_succ, Option.some.injEq] at ho; subst ho; refine Or.inl ⟨by rfl, fun w' hSw => ?_⟩; (try dsimp only at hSw); go_simp; try with_reducible rfl
                simp only [Act.put, List.setIfInBounds_toArray, List.set_cons_zero, List.set_cons_succ]
                refine takeH (i := 4) (some 52) (v := ?_) rfl (by kernel_rfl) (by kernel_rfl) (by kernel_rfl) (fun _ _ _ h => h) hS0 (fun o ho => ?_) ?_
                rotate_left
                · simp only [List.getElem?_toArray, List.getElem?_cons_zero, List.getElem?_cons_succ, Option.some.injEq] at ho; subst ho; refine Or.inl ⟨by rfl, fun w' hSw => ?_⟩; (try dsimp only at hSw); go_simp; try with_reducible rfl
                simp only [Act.put, List.setIfInBounds_toArray, List.set_cons_zero, List.set_cons_succ]
                refine takeH (i := 5) (some 53) (v := ?_) rfl (by kernel_rfl) (by kernel_rfl) (by kernel_rfl) (fun _ _ _ h => h) hS0 (fun o ho => ?_) ?_
                rotate_left
                · simp only [List.getElem?_toArray, List.getElem?_cons_zero, List.getElem?_cons_succ, Option.some.injEq] at ho; subst ho; refine Or.inl ⟨by rfl, fun w' hSw => ?_⟩; (try dsimp only at hSw); go_simp; try with_reducible rfl
                simp only [Act.put, List.setIfInBounds_toArray, List.set_cons_zero, List.set_cons_succ]
                refine takeH (i := 6) (some 54) (v := ?_) rfl (by kernel_rfl) (by kernel_rfl) (by kernel_rfl) (fun _ _ _ h => h) hS0 (fun o ho => ?_) ?_
                rotate_left
                · simp only [List.getElem?_toArray, List.getElem?_cons_zero, List.getElem?_cons_succ, Option.some.injEq] at ho; subst ho; refine Or.inl ⟨by rfl, fun w' hSw => ?_⟩; (try dsimp only at hSw); go_simp; try with_reducible rfl
                simp only [Act.put, List.setIfInBounds_toArray, List.set_cons_zero, List.set_cons_succ]
                refine takeH (i := 7) (some 55) (v := ?_) rfl (by kernel_rfl) (by kernel_rfl) (by kernel_rfl) (fun _ _ _ h => h) hS0 (fun o ho => ?_) ?_
                rotate_left
                · simp only [List.getElem?_toArray, List.getElem?_cons_zero, List.getElem?_cons_succ, Option.some.injEq] at ho; subst ho; refine Or.inl ⟨by rfl, fun w' hSw => ?_⟩; (try dsimp only at hSw); go_simp; try with_reducible rfl
                simp only [Act.put, List.setIfInBounds_toArray, List.set_cons_zero, List.set_cons_succ]
                refine takeH (i := 8) (some 56) (v := ?_) rfl (by kernel_rfl) (by kernel_rfl) (by kernel_rfl) (fun _ _ _ h => h) hS0 (fun o ho => ?_) ?_
                rotate_left
                · simp only [List.getElem?_toArray, List.getElem?_cons_zero, List.getElem?_cons_succ, Option.some.injEq] at ho; subst ho; refine Or.inl ⟨by rfl, fun w' hSw => ?_⟩; (try dsimp only at hSw); go_simp; try with_reducible rfl
                simp only [Act.put, List.setIfInBounds_toArray, List.set_cons_zero, List.set_cons_succ]
                refine oneH (i := 9) (by kernel_rfl) (fun o ho K' hK => ?_)
                simp only [List.getElem?_toArray, List.getElem?_cons_zero, List.getElem?_cons_succ, Option.some.injEq] at ho; subst ho
                go_simp
                have hb8 : Below wj.heap.size wj (wj.alloc (.cells #[.int .i64 (k : Int)] 3)).drew := ((Below.refl _ wj).alloc (Nat.le_refl _) _).drew
                refine hK.out _ _ (by rw [← hvs]; exact hS _ hb8) ?_
                clear hK K'
                refine oneH (i := 10) (by kernel_rfl) (fun o ho K' hK => ?_)
                simp only [List.getElem?_toArray, List.getElem?_cons_zero, List.getElem?_cons_succ, Option.some.injEq] at ho; subst ho
                refine step_append_lies _ (by rfl) _ _ _ (by rfl) w6.heap.size 3 i0 (.int .i64 0) 1 8 Try.underlying22 HI.out.1 HI.out.2.1 HI.out.2.2.1 HI.out.2.2.2 rfl (by decide) (.slice Av (zs (raJ f.blocks k j t)).length cv) _ _ (by rfl) (by rw [← hvs]; exact HOW.out.alloc _)
                  ⟨wj.heap.size, 0, none⟩ 1 1 [.int .i64 (k : Int)] (by rfl) (by rfl) (news_one_add wj _ _ rfl) (ints_oneCell .i64 [(k : Int)]) (by decide) (by unfold maxLen; omega) (by omega) (by simp; omega) (wj.heap.size + 1) (by simp) ?_
                intro g cap w7 hown7 hgrow7 hloc7 hlt7
                rw [← hvs] at hgrow7 hloc7
                have hGj : Gri (wj.alloc (.cells #[.int .i64 (k : Int)] 3)).drew Ga w6.heap.size n V2 (fun b => zs (raJ f.blocks k j b)) := (HGJ.out.alloc _).of_blocks rfl (fun _ _ _ => rfl)
                have hgp := Gri.push hGj htn hown7 hgrow7 (by simpa using hloc7)
                have HGP := Lib.hid (hgp.congr (L' := fun b => zs (raJ f.blocks k (j + 1) b)) fun b _ => by
                  show (if b = t then zs (raJ f.blocks k j t) ++ [(k : Int)] else zs (raJ f.blocks k j b)) = _
                  rw [← raJ_step HT.out b]
                  by_cases e : b = t
                  · rw [if_pos e, if_pos e, zs_snoc]
                  · rw [if_neg e, if_neg e])
                have HFP : Hid (FrX (fun b => b = Ga) w6 (w7.setCell ⟨Ga, t, none⟩ (.slice (some ⟨g, 0, none⟩) ((zs (raJ f.blocks k j t)).length + 1) cap))) := Lib.hid (((((HFJ.out.alloc _).drew).grown hgrow7 (fun b hb => .inr ((HOW.out.lt b hb).1))).setCell (p := ⟨Ga, t, none⟩) (.inl rfl) _))
                have hGlt : Ga < wj.heap.size := by have := HSZ.out; omega
                have hno : ∀ b, b < w6.heap.size → (V2 t).ownBlock ≠ some b := fun b hb e => by have := (HOW.out.lt b e).1; omega
                have hb7 : ∀ b, b < w6.heap.size → w7.heap[b]? = wj.heap[b]? := fun b hb => (hgrow7.block b (by simp; omega) (fun e => hno b hb e.symm)).trans (by
                  show (wj.alloc (.cells #[.int .i64 (k : Int)] 3)).heap[b]? = _
                  exact Below.heap_alloc _ _ _ (by omega))
                have hS7 : w7.cell? ⟨N3, 2, none⟩ = some (.slice (some ⟨Ga, 0, none⟩) n n) ∧ w7.cell? ⟨Ga, t, none⟩ = some (.slice Av (zs (raJ f.blocks k j t)).length cv) := ⟨(World.cell?_of_block (hb7 N3 (by have := HSZ.out; omega))).trans x2, (World.cell?_of_block (hb7 Ga HSZ.out.1)).trans (by rw [hrow, hvs])⟩
                have hfz7 : w7.frozen? ⟨Ga, t, none⟩ = false := (World.frozen?_of_block (a := ⟨Ga, t, none⟩) (hb7 Ga HSZ.out.1)).trans hrowf
                refine hK.out _ _ hS7 ?_
                clear hK K' hgp hGj hown7 hgrow7 hloc7 hb7 hno
                try simp only [Act.put, List.setIfInBounds_toArray, List.set_cons_zero, List.set_cons_succ]
                refine takeH (i := 11) (some 59) (v := ?_) rfl (by kernel_rfl) (by kernel_rfl) (by kernel_rfl) (fun _ _ _ h => h) hS7 (fun o ho => ?_) ?_
                rotate_left
                · simp only [List.getElem?_toArray, List.getElem?_cons_zero, List.getElem?_cons_succ, Option.some.injEq] at ho; subst ho; refine Or.inl ⟨by rfl, fun w' hSw => ?_⟩; (try dsimp only at hSw); go_simp; try with_reducible rfl
                simp only [Act.put, List.setIfInBounds_toArray, List.set_cons_zero, List.set_cons_succ]
                refine wpAnyH_done (by kernel_rfl) ?_ _
                refine lastH (by decide) (fun o ho K' hK => ?_)
                simp only [List.getElem?_toArray, List.getElem?_cons_zero, List.getElem?_cons_succ, Option.some.injEq] at ho; subst ho
                have hcg7 := hS7.2
                go_simp
                refine hK.out _ _ ?_
                clear hK K' hS7 hfz7 hcg7 hS hS0 x2 hrow hrowf hvs
                go_wp2_with fail
                go_roundw
                case rel => exact ⟨j + 1, _, by omega, by go_num, HGP.out, HFP.out⟩
                case measure => simp [intOf]; omega
              · have HGN := Lib.hid (hg.congr (L' := fun b => zs (raL f.blocks (k + 1) b)) fun b _ => by rw [raJ_all HRK.out (by rw [HM.out]; omega)])
                clear hg hfr
                go_wp2_with fail
                go_roundw
                case rel => exact ⟨k + 1, V2, by omega, by go_num, HGN.out, HFJ.out⟩
                case measure => simp [intOf]; omega
        · have hkk : k = n := by omega
          subst hkk
          clear hg hfr
          have hws : ∀ wF, (∀ g, w1.heap.size ≤ g → g < wo.heap.size → wF.heap[g]? = wo.heap[g]?) → WyL f.blocks nm en wF Ao co Gn Ga G1 A2 c2 := by
            intro wF hF
            have hkG : ∀ b, w1.heap.size ≤ b → b ≠ Ga → b < w6.heap.size → wF.heap[b]? = w6.heap[b]? := fun b h0 h1 h2 => (hF b h0 (by have := HFR.out.size; omega)).trans (HFR.out.block b h2 h1)
            have hGF : Gri wF Ga w6.heap.size k V (fun b => zs (raL f.blocks k b)) := HG.out.of_blocks (hF Ga (by have := HSZ.out; omega) HG.out.row.lt) (fun g h1 h2 => hF g (by have := HSZ.out; omega) h2)
            refine ⟨HO6.out wF hkG, HX6.out wF hkG, ?_, fun b hb => ?_, fun hp => ?_, HE.out, by rw [← HNN.out]; exact hn⟩
            · have h1 := hGF.reads (by omega) (fun i hi x hx => by obtain ⟨q, hq, rfl⟩ := zs_mem hx; have := (raL_lt hq).1; unfold I64; omega)
              rw [HNN.out] at h1; exact h1
            · exact (HR1.out.of_block (hkG G1 (by omega) (by omega) (by have := HSZ.out; omega))).cell (by rw [HNN.out]; exact hb)
            · obtain ⟨g, h1, h0, h2, h3⟩ := HR2.out (by rw [HNN.out]; exact hp)
              exact ⟨g, h1, fun b hb => (h3.of_block (hkG g h0 (by omega) (by have := HSZ.out; omega))).cell (by rw [HNN.out]; exact hb)⟩
          have hBo : Below w.heap.size w wo := HB6.out.trans (HFR.out.below (by have := HB6.out.size; omega) (fun b hb => by have : b = Ga := hb; have := HSZ.out; omega))
          have hres' : wo.heap[w.heap.size + 1]? = some (.cells #[.slice none 0 0, .slice none 0 0, .slice none 0 0, .slice none 0 0, .slice none 0 0] 70) := (HFR.out.block _ (by have := HSZ.out; omega) (by have := HSZ.out; show ¬ w.heap.size + 1 = Ga; omega)).trans HRES.out
          obtain ⟨t0, t1, t2, t3, t4, s0, s1, s2, s3, s4⟩ := ways_cells hres'
          have y0 := HCE.out wo 0 _ HFR.out rfl
          have y1 := HCE.out wo 1 _ HFR.out rfl
          have y2 := HCE.out wo 2 _ HFR.out rfl
          have y3 := HCE.out wo 3 _ HFR.out rfl
          have y4 := HCE.out wo 4 _ HFR.out rfl
          have HWS := Lib.hid hws
          have HBO := Lib.hid hBo
          have HRS := Lib.hid hres'
          have hlo : w.heap.size + 1 < wo.heap.size := (Array.getElem?_eq_some_iff.1 hres').1
          clear hws hBo hres'
          go_wp2_with fail
          have hkk : ∀ i, i ≠ w.heap.size + 1 → (((((wo.setCell ⟨w.heap.size + 1, 0, none⟩ (.slice Ao ln co)).setCell ⟨w.heap.size + 1, 1, none⟩ (.slice (some ⟨Gn, 0, none⟩) k k)).setCell ⟨w.heap.size + 1, 2, none⟩ (.slice (some ⟨Ga, 0, none⟩) k k)).setCell ⟨w.heap.size + 1, 3, none⟩ (.slice (some ⟨G1, 0, none⟩) k k)).setCell ⟨w.heap.size + 1, 4, none⟩ (.slice A2 k c2)).heap[i]? = wo.heap[i]? := fun i hi =>
            (Below.heap_setCell _ _ _ _ hi).trans ((Below.heap_setCell _ _ _ _ hi).trans ((Below.heap_setCell _ _ _ _ hi).trans ((Below.heap_setCell _ _ _ _ hi).trans (Below.heap_setCell _ _ _ _ hi))))
          have hfin : (((((wo.setCell ⟨w.heap.size + 1, 0, none⟩ (.slice Ao ln co)).setCell ⟨w.heap.size + 1, 1, none⟩ (.slice (some ⟨Gn, 0, none⟩) k k)).setCell ⟨w.heap.size + 1, 2, none⟩ (.slice (some ⟨Ga, 0, none⟩) k k)).setCell ⟨w.heap.size + 1, 3, none⟩ (.slice (some ⟨G1, 0, none⟩) k k)).setCell ⟨w.heap.size + 1, 4, none⟩ (.slice A2 k c2)).heap[w.heap.size + 1]? = some (.cells #[.slice Ao ln co, .slice (some ⟨Gn, 0, none⟩) k k, .slice (some ⟨Ga, 0, none⟩) k k, .slice (some ⟨G1, 0, none⟩) k k, .slice A2 k c2] 70) := by
            simp [World.setCell, Array.getElem?_modify, HRS.out]
          refine bodyPost_ret (results_cell_row rfl _ _ (w.heap.size + 1) 70 #[.slice Ao ln co, .slice (some ⟨Gn, 0, none⟩) k k, .slice (some ⟨Ga, 0, none⟩) k k, .slice (some ⟨G1, 0, none⟩) k k, .slice A2 k c2] (0, 0) _ (by rfl) hfin Try.underlying70 (by rfl) (by kernel_rfl)) rfl ?_
          refine ⟨⟨nm, en, Ao, co, Gn, Ga, G1, A2, c2, ord, by unfold wyV; rw [HNN.out, HLN.out], HWS.out _ (fun g h0 h1 => hkk g (by omega)), HNB.out⟩, ?_⟩
          exact ((((HBO.out.setCell (p := ⟨w.heap.size + 1, 0, none⟩) (Nat.le_succ _) _).setCell (p := ⟨w.heap.size + 1, 1, none⟩) (Nat.le_succ _) _).setCell (p := ⟨w.heap.size + 1, 2, none⟩) (Nat.le_succ _) _).setCell (p := ⟨w.heap.size + 1, 3, none⟩) (Nat.le_succ _) _).setCell (p := ⟨w.heap.size + 1, 4, none⟩) (Nat.le_succ _) _
end Go.Proofs.Ytflbooopgjgkbaa
