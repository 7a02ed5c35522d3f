/- The program's nest: which loops are in which. -/
import Derived.Test.YtflbooopgjgkbaaLpJJ
namespace Go.Proofs.Ytflbooopgjgkbaa
open Go.ChangeShapes Go.WideShapes Go.RowKit Go.Deep Go.Shelf
set_option linter.unusedVariables false
attribute [local go_sem] Oper.semAt_some

/-- What is made ahead of the loops: a row of no heads, a row of none around, a struct that holds both. -/
def NsR (w1 : World) (NB n : Nat) (ah : Value) (a a' : Act) (w' : World) : Prop :=
  ∃ GA GR N3 N15 : Nat, a' = ((((((((((a.put (some 11) (.pointer (some ⟨NB, 2, none⟩))).put (some 12) ah).put (some 13) (.int .i64 (n : Int))).put (some 14) (.slice (some ⟨GA, 0, none⟩) n n)).put (some 15) (.slice (some ⟨N15, 0, none⟩) 1 1)).put (some 16) (.pointer (some ⟨NB, 2, none⟩))).put (some 17) ah).put (some 18) (.int .i64 (n : Int))).put (some 19) (.slice (some ⟨GR, 0, none⟩) n n)).put (some 20) (.agg #[.slice (some ⟨GA, 0, none⟩) n n, .slice (some ⟨GR, 0, none⟩) n n, .slice none 0 0])).put (some 3) (.pointer (some ⟨N3, 0, none⟩)) ∧
    w'.rowIs GA 4 n (fun _ => .bool false) ∧ w'.rowIs GR 3 n (fun _ => .int .i64 (-1)) ∧ w'.heap[N3]? = some (.cells #[.slice (some ⟨GA, 0, none⟩) n n, .slice (some ⟨GR, 0, none⟩) n n, .slice none 0 0] 73) ∧
    Below w1.heap.size w1 w' ∧ w1.heap.size ≤ GA ∧ w1.heap.size ≤ GR ∧ w1.heap.size ≤ N3 ∧ GA ≠ GR ∧ GA ≠ N3 ∧ GR ≠ N3
theorem nest_cells {W : World} {N3 : Nat} (h : W.heap[N3]? = some (.cells #[.slice none 0 0, .slice none 0 0, .slice none 0 0] 73)) :
    W.cell? ⟨N3, 0, none⟩ = some (.slice none 0 0) ∧ W.cell? ⟨N3, 1, none⟩ = some (.slice none 0 0) ∧ W.cell? ⟨N3, 2, none⟩ = some (.slice none 0 0) ∧ W.frozen? ⟨N3, 0, none⟩ = false ∧ W.frozen? ⟨N3, 1, none⟩ = false ∧ W.frozen? ⟨N3, 2, none⟩ = false := by
  simp [World.cell?, World.frozen?, h]

theorem NsR.leaf {w1 W : World} {NB n N3 GA GR N15 : Nat} {ah : Value} {a a' : Act} (hA : W.rowIs GA 4 n (fun _ => .bool false)) (hC : W.rowIs GR 3 n (fun _ => .int .i64 (-1))) (hD : W.heap[N3]? = some (.cells #[.slice none 0 0, .slice none 0 0, .slice none 0 0] 73)) (hB : Below w1.heap.size w1 W)
    (e : a' = ((((((((((a.put (some 11) (.pointer (some ⟨NB, 2, none⟩))).put (some 12) ah).put (some 13) (.int .i64 (n : Int))).put (some 14) (.slice (some ⟨GA, 0, none⟩) n n)).put (some 15) (.slice (some ⟨N15, 0, none⟩) 1 1)).put (some 16) (.pointer (some ⟨NB, 2, none⟩))).put (some 17) ah).put (some 18) (.int .i64 (n : Int))).put (some 19) (.slice (some ⟨GR, 0, none⟩) n n)).put (some 20) (.agg #[.slice (some ⟨GA, 0, none⟩) n n, .slice (some ⟨GR, 0, none⟩) n n, .slice none 0 0])).put (some 3) (.pointer (some ⟨N3, 0, none⟩)))
    (h1 : w1.heap.size ≤ GA) (h2 : w1.heap.size ≤ GR) (h3 : w1.heap.size ≤ N3) (h4 : GA ≠ GR) (h5 : GA ≠ N3) (h6 : GR ≠ N3) :
    onlyN (fun _ a'' w'' => NsR w1 NB n ah a a'' w'') Exit.normal a' (((W.setCell ⟨N3, 0, none⟩ (.slice (some ⟨GA, 0, none⟩) n n)).setCell ⟨N3, 1, none⟩ (.slice (some ⟨GR, 0, none⟩) n n)).setCell ⟨N3, 2, none⟩ (.slice none 0 0)) := by
  have hk : ∀ k, k ≠ N3 → (((W.setCell ⟨N3, 0, none⟩ (.slice (some ⟨GA, 0, none⟩) n n)).setCell ⟨N3, 1, none⟩ (.slice (some ⟨GR, 0, none⟩) n n)).setCell ⟨N3, 2, none⟩ (.slice none 0 0)).heap[k]? = W.heap[k]? := fun k hk =>
    (Below.heap_setCell _ _ _ _ hk).trans ((Below.heap_setCell _ _ _ _ hk).trans (Below.heap_setCell _ _ _ _ hk))
  refine ⟨GA, GR, N3, N15, e, hA.of_block (hk _ h5), hC.of_block (hk _ h6), ?_, ((hB.setCell (p := ⟨N3, 0, none⟩) h3 _).setCell (p := ⟨N3, 1, none⟩) h3 _).setCell (p := ⟨N3, 2, none⟩) h3 _, h1, h2, h3, h4, h5, h6⟩
  simp [World.setCell, Array.getElem?_modify, hD]

def ToldNs (bs : List BlkD) (w : World) (e : Ending) (w' : World) : Prop :=
  (∃ GA GR Au cu hd ar, e = .returned (.agg #[.slice (some ⟨GA, 0, none⟩) bs.length bs.length, .slice (some ⟨GR, 0, none⟩) bs.length bs.length, .slice Au bs.length cu]) ∧ w'.rowIs GA 4 bs.length (fun b => .bool (hd b)) ∧ w'.rowIs GR 3 bs.length (fun b => .int .i64 (ar b)) ∧ NestE bs hd ar) ∧ Below w.heap.size w w'
/-- When k heads were gone through. -/
def NsL (bs : List BlkD) (WL : World) (n ln N3 GA GR K : Nat) (Au : Option Addr) (cu : Nat) (k : Nat) (W : World) : Prop :=
  ∃ (hd : Nat → Bool) (ar : Nat → Int) (up : Nat → Nat), FrX (fun b => b = GA ∨ b = GR ∨ (0 < n ∧ Au = some ⟨b, 0, none⟩)) WL W ∧ NsI W n N3 GA GR K Au cu hd ar up ∧
    UpS bs ((orderF bs).drop (ln - k)) up ∧ (∀ b, b < bs.length → ArS bs ((orderF bs).drop (ln - k)) (ar b) b) ∧ ∀ b, b < bs.length → hd b = (decide (b ∈ (orderF bs).drop (ln - k)) && hdB bs b)

set_option maxRecDepth 100000 in
set_option maxHeartbeats 8000000 in
theorem nest_any (bs : List BlkD) (ord : Nat → Nat) (N : NearB bs (nearD bs) ord) (nm en : Nat → Int) (Ao : Option Addr) (co Gn Ga G1 : Nat) (A2 : Option Addr) (c2 : Nat) (w : World) (h : WyL bs nm en w Ao co Gn Ga G1 A2 c2) :
    Calls Try.prog 28 #[wyV bs Ao co Gn Ga G1 A2 c2] w (ToldNs bs w) := by
  obtain ⟨n, hn⟩ : ∃ n, bs.length = n := ⟨_, rfl⟩
  obtain ⟨ln, hln⟩ : ∃ ln, (orderF bs).length = ln := ⟨_, rfl⟩
  have HNB := Lib.hid hn
  have HLN := Lib.hid hln
  have HN := Lib.hid N
  have HW := Lib.hid h
  have hn2 : n ≤ 1000 := by rw [← hn]; exact h.few
  unfold wyV
  rw [hn, hln]
  clear hn hln N h
  have hmkb := run_make_row' (P := Try.prog) 46 4 (.bool false) 1 Try.underlying46 Try.info4 rfl .i64 .i64 n (by omega) (by omega)
  refine (callsIn_wide (n := 4)).1 ?_
  refine callsIn_of_wp_marks Try.func28 rfl trivial ?_ rfl
  refine wpIn_wide.2 ?_
  simp only [Try.ntmps28, List.size_toArray, List.length_cons, List.length_nil, Nat.reduceAdd, Nat.reduceSub, Array.replicate_succ, Array.replicate_zero, List.push_toArray, List.append_toArray, List.nil_append, List.cons_append]
  go_wp2_with fail
  obtain ⟨w1, hw1⟩ : ∃ w1, ((w.alloc (.cells #[.slice Ao ln co, .slice (some ⟨Gn, 0, none⟩) n n, .slice (some ⟨Ga, 0, none⟩) n n, .slice (some ⟨G1, 0, none⟩) n n, .slice A2 n c2] 70)).alloc (.cells #[.slice none 0 0, .slice none 0 0, .slice none 0 0] 73)) = w1 := ⟨_, rfl⟩
  have hs1 : w1.heap.size = w.heap.size + 1 + 1 := by rw [← hw1]; simp
  have hbel1 : Below w.heap.size w w1 := by rw [← hw1]; exact ((Below.refl _ _).alloc (Nat.le_refl _) _).alloc (by simp) _
  have b0 : ∀ i u, #[Value.slice Ao ln co, .slice (some ⟨Gn, 0, none⟩) n n, .slice (some ⟨Ga, 0, none⟩) n n, .slice (some ⟨G1, 0, none⟩) n n, .slice A2 n c2][i]? = some u → w1.cell? ⟨w.heap.size, i, none⟩ = some u := fun i u hu => by
    rw [← hw1]
    have h1 := (World.cell?_alloc_at (w := w) #[Value.slice Ao ln co, .slice (some ⟨Gn, 0, none⟩) n n, .slice (some ⟨Ga, 0, none⟩) n n, .slice (some ⟨G1, 0, none⟩) n n, .slice A2 n c2] 70 w.heap.size i rfl).trans hu
    exact kept_alloc _ _ _ _ h1
  have e2 : w1.heap[w.heap.size + 1]? = some (.cells #[.slice none 0 0, .slice none 0 0, .slice none 0 0] 73) := by
    rw [← hw1]; have := World.alloc_heap_new (w.alloc (.cells #[.slice Ao ln co, .slice (some ⟨Gn, 0, none⟩) n n, .slice (some ⟨Ga, 0, none⟩) n n, .slice (some ⟨G1, 0, none⟩) n n, .slice A2 n c2] 70)) (.cells #[.slice none 0 0, .slice none 0 0, .slice none 0 0] 73)
    rwa [World.size_alloc] at this
  rw [hw1]
  clear hw1
  refine wp_named (NsR w1 w.heap.size n (.slice (some ⟨Ga, 0, none⟩) n n)) ?region ?rest
  case region =>
    have hS : ∀ w', Below w1.heap.size w1 w' → w'.cell? ⟨w.heap.size, 2, none⟩ = some (.slice (some ⟨Ga, 0, none⟩) n n) := fun w' hb => (hb.cell (p := ⟨w.heap.size, 2, none⟩) (by show w.heap.size < w1.heap.size; omega)).trans (b0 2 _ rfl)
    have hB0 : Below w1.heap.size w1 w1.drew := (Below.refl _ _).drew
    refine wp_region_last (L := 11) (S := fun w' : World => w'.cell? ⟨w.heap.size, 2, none⟩ = some (.slice (some ⟨Ga, 0, none⟩) n n)) (by kernel_rfl) (by rfl) (by kernel_rfl) (by kernel_rfl) ?_
    change wpAnyH _ _ _ _ _ _ _ _ (World.drew _)
    obtain ⟨v0, hv0⟩ : ∃ v0, w1.drew = v0 := ⟨_, rfl⟩
    rw [hv0] at hB0 ⊢
    have hz0 := hB0.size
    clear hv0
    refine takeH (i := 0) (some 11) (v := ?_) rfl (by kernel_rfl) (by kernel_rfl) (by kernel_rfl) (fun _ _ _ h => h) (hS _ hB0) (fun o ho => ?_) ?_
    rotate_left
    · simp only [List.getElem?_toArray, List.getElem?_cons_zero, Option.some.injEq] at ho; subst ho; refine Or.inl ⟨by rfl, fun w' hSw => ?_⟩; (try dsimp only at hSw); go_simp; try with_reducible rfl
    simp only [Act.put, List.setIfInBounds_toArray, List.set_cons_zero, List.set_cons_succ]
    refine takeH (i := 1) (some 12) (v := ?_) rfl (by kernel_rfl) (by kernel_rfl) (by kernel_rfl) (fun _ _ _ h => h) (hS _ hB0) (fun o ho => ?_) ?_
    rotate_left
    · simp only [List.getElem?_toArray, List.getElem?_cons_zero, List.getElem?_cons_succ, Option.some.injEq] at ho; subst ho; refine Or.inl ⟨by rfl, fun w' hSw => ?_⟩; (try dsimp only at hSw); go_simp; try with_reducible rfl
    simp only [Act.put, List.setIfInBounds_toArray, List.set_cons_zero, List.set_cons_succ]
    refine takeH (i := 2) (some 13) (v := ?_) rfl (by kernel_rfl) (by kernel_rfl) (by kernel_rfl) (fun _ _ _ h => h) (hS _ hB0) (fun o ho => ?_) ?_
    rotate_left
    · simp only [List.getElem?_toArray, List.getElem?_cons_zero, List.getElem?_cons_succ, Option.some.injEq] at ho; subst ho; refine Or.inl ⟨by rfl, fun w' hSw => ?_⟩; (try dsimp only at hSw); go_simp; try with_reducible rfl
    simp only [Act.put, List.setIfInBounds_toArray, List.set_cons_zero, List.set_cons_succ]
    refine takeH (i := 5) (some 16) (v := ?_) rfl (by kernel_rfl) (by kernel_rfl) (by kernel_rfl) (fun _ _ _ h => h) (hS _ hB0) (fun o ho => ?_) ?_
    rotate_left
    · simp only [List.getElem?_toArray, List.getElem?_cons_zero, List.getElem?_cons_succ, Option.some.injEq] at ho; subst ho; refine Or.inl ⟨by rfl, fun w' hSw => ?_⟩; (try dsimp only at hSw); go_simp; try with_reducible rfl
    simp only [Act.put, List.setIfInBounds_toArray, List.set_cons_zero, List.set_cons_succ]
    refine takeH (i := 6) (some 17) (v := ?_) rfl (by kernel_rfl) (by kernel_rfl) (by kernel_rfl) (fun _ _ _ h => h) (hS _ hB0) (fun o ho => ?_) ?_
    rotate_left
    · simp only [List.getElem?_toArray, List.getElem?_cons_zero, List.getElem?_cons_succ, Option.some.injEq] at ho; subst ho; refine Or.inl ⟨by rfl, fun w' hSw => ?_⟩; (try dsimp only at hSw); go_simp; try with_reducible rfl
    simp only [Act.put, List.setIfInBounds_toArray, List.set_cons_zero, List.set_cons_succ]
    refine takeH (i := 7) (some 18) (v := ?_) rfl (by kernel_rfl) (by kernel_rfl) (by kernel_rfl) (fun _ _ _ h => h) (hS _ hB0) (fun o ho => ?_) ?_
    rotate_left
    · simp only [List.getElem?_toArray, List.getElem?_cons_zero, List.getElem?_cons_succ, Option.some.injEq] at ho; subst ho; refine Or.inl ⟨by rfl, fun w' hSw => ?_⟩; (try dsimp only at hSw); go_simp; try with_reducible rfl
    simp only [Act.put, List.setIfInBounds_toArray, List.set_cons_zero, List.set_cons_succ]
    refine manyH (rs := [3, 4, 10]) (by kernel_rfl) (by simp) (fun i hi o ho K' hK => ?_)
    simp only [List.mem_cons, List.not_mem_nil, or_false] at hi
    rcases hi with rfl | rfl | rfl
    · simp only [List.getElem?_toArray, List.getElem?_cons_zero, List.getElem?_cons_succ, Option.some.injEq] at ho; subst ho
      go_simp
      obtain ⟨v1, hw1⟩ : ∃ v, v0.alloc (.cells (madeCells #[.bool false] n) 4) = v := ⟨_, rfl⟩
      have hb1 : Below v0.heap.size v0 v1 := by rw [← hw1]; exact (Below.refl _ _).alloc (Nat.le_refl _) _
      have fA1 : v1.rowIs v0.heap.size 4 n (fun _ => .bool false) := by rw [← hw1]; exact World.rowIs_made _ (.bool false) n 4
      rw [hw1]
      have hB1 : Below w1.heap.size w1 v1 := hB0.trans (hb1.mono (by have := hB0.size; omega))
      have hz1 := hb1.size
      refine hK.out _ _ (hS _ hB1) ?_
      clear hK K'
      try simp only [Act.put, List.setIfInBounds_toArray, List.set_cons_zero, List.set_cons_succ]
      refine manyH (rs := [4, 10]) (by kernel_rfl) (by simp) (fun i hi o ho K' hK => ?_)
      simp only [List.mem_cons, List.not_mem_nil, or_false] at hi
      rcases hi with rfl | rfl
      · simp only [List.getElem?_toArray, List.getElem?_cons_zero, List.getElem?_cons_succ, Option.some.injEq] at ho; subst ho
        go_simp
        obtain ⟨v2, hw2⟩ : ∃ v, v1.alloc (.cells #[.int .i64 (-1)] 3) = v := ⟨_, rfl⟩
        have hb2 : Below v1.heap.size v1 v2 := by rw [← hw2]; exact (Below.refl _ _).alloc (Nat.le_refl _) _
        have fB2 : v2.cell? ⟨v1.heap.size, 0, none⟩ = some (.int .i64 (-1)) := by rw [← hw2]; simp [go_sem]
        rw [hw2]
        have lA1 : v0.heap.size < v1.heap.size := fA1.lt
        have fA2 := fA1.of_block (hb2.block _ lA1)
        have hB2 : Below w1.heap.size w1 v2 := hB1.trans (hb2.mono (by have := hB1.size; omega))
        have hz2 := hb2.size
        refine hK.out _ _ (hS _ hB2) ?_
        clear hK K'
        try simp only [Act.put, List.setIfInBounds_toArray, List.set_cons_zero, List.set_cons_succ]
        refine manyH (rs := [8, 10]) (by kernel_rfl) (by simp) (fun i hi o ho K' hK => ?_)
        simp only [List.mem_cons, List.not_mem_nil, or_false] at hi
        rcases hi with rfl | rfl
        · simp only [List.getElem?_toArray, List.getElem?_cons_zero, List.getElem?_cons_succ, Option.some.injEq] at ho; subst ho
          go_simp
          refine (repeat_any n v1.heap.size 1 (-1) _ fB2 (by omega)).mono ?_
          rintro e v3 ⟨⟨GR, rfl, hGR, fC3⟩, hb3⟩
          dsimp only
          have lA2 : v0.heap.size < v2.heap.size := fA2.lt
          have fA3 := fA2.of_block (hb3.block _ lA2)
          have lB2 : v1.heap.size < v2.heap.size := World.block_lt_of_cell? _ _ fB2
          have fB3 := (hb3.cell (p := ⟨v1.heap.size, 0, none⟩) lB2).trans fB2
          have hB3 : Below w1.heap.size w1 v3 := hB2.trans (hb3.mono (by have := hB2.size; omega))
          have hz3 := hb3.size
          refine hK.out _ _ (hS _ hB3) ?_
          clear hK K'
          try simp only [Act.put, List.setIfInBounds_toArray, List.set_cons_zero, List.set_cons_succ]
          refine takeH (i := 9) (some 20) (v := ?_) rfl (by kernel_rfl) (by kernel_rfl) (by kernel_rfl) (fun _ _ _ h => h) (hS _ hB3) (fun o ho => ?_) ?_
          rotate_left
          · simp only [List.getElem?_toArray, List.getElem?_cons_zero, List.getElem?_cons_succ, Option.some.injEq] at ho; subst ho; refine Or.inl ⟨by rfl, fun w' hSw => ?_⟩; (try dsimp only at hSw); go_simp; try with_reducible rfl
          simp only [Act.put, List.setIfInBounds_toArray, List.set_cons_zero, List.set_cons_succ]
          refine manyH (rs := [10]) (by kernel_rfl) (by simp) (fun i hi o ho K' hK => ?_)
          simp only [List.mem_cons, List.not_mem_nil, or_false] at hi
          subst hi
          · simp only [List.getElem?_toArray, List.getElem?_cons_zero, List.getElem?_cons_succ, Option.some.injEq] at ho; subst ho
            go_simp
            obtain ⟨v4, hw4⟩ : ∃ v, v3.alloc (.cells #[.slice none 0 0, .slice none 0 0, .slice none 0 0] 73) = v := ⟨_, rfl⟩
            have hb4 : Below v3.heap.size v3 v4 := by rw [← hw4]; exact (Below.refl _ _).alloc (Nat.le_refl _) _
            have fD4 : v4.heap[v3.heap.size]? = some (.cells #[.slice none 0 0, .slice none 0 0, .slice none 0 0] 73) := by rw [← hw4]; exact World.alloc_heap_new _ _
            rw [hw4]
            have lA3 : v0.heap.size < v3.heap.size := fA3.lt
            have fA4 := fA3.of_block (hb4.block _ lA3)
            have lB3 : v1.heap.size < v3.heap.size := World.block_lt_of_cell? _ _ fB3
            have fB4 := (hb4.cell (p := ⟨v1.heap.size, 0, none⟩) lB3).trans fB3
            have lC3 : GR < v3.heap.size := fC3.lt
            have fC4 := fC3.of_block (hb4.block _ lC3)
            have hB4 : Below w1.heap.size w1 v4 := hB3.trans (hb4.mono (by have := hB3.size; omega))
            have hz4 := hb4.size
            refine hK.out _ _ (hS _ hB4) ?_
            clear hK K'
            try simp only [Act.put, List.setIfInBounds_toArray, List.set_cons_zero, List.set_cons_succ]
            refine wpAnyH_done (by kernel_rfl) ?_ _
            refine lastH (by decide) (fun o ho K' hK => ?_)
            simp only [List.getElem?_toArray, List.getElem?_cons_zero, List.getElem?_cons_succ, Option.some.injEq] at ho; subst ho
            obtain ⟨z0, z1, z2, zf0, zf1, zf2⟩ := nest_cells fD4
            go_simp
            refine hK.out _ _ ?_
            clear hK K'
            exact NsR.leaf (N15 := v1.heap.size) fA4 fC4 fD4 hB4 (by simp only [Act.put, List.setIfInBounds_toArray, List.set_cons_zero, List.set_cons_succ]) (by omega) (by omega) (by omega) (by omega) (by omega) (by omega)
        · simp only [List.getElem?_toArray, List.getElem?_cons_zero, List.getElem?_cons_succ, Option.some.injEq] at ho; subst ho
          go_simp
          obtain ⟨v3, hw3⟩ : ∃ v, v2.alloc (.cells #[.slice none 0 0, .slice none 0 0, .slice none 0 0] 73) = v := ⟨_, rfl⟩
          have hb3 : Below v2.heap.size v2 v3 := by rw [← hw3]; exact (Below.refl _ _).alloc (Nat.le_refl _) _
          have fD3 : v3.heap[v2.heap.size]? = some (.cells #[.slice none 0 0, .slice none 0 0, .slice none 0 0] 73) := by rw [← hw3]; exact World.alloc_heap_new _ _
          rw [hw3]
          have lA2 : v0.heap.size < v2.heap.size := fA2.lt
          have fA3 := fA2.of_block (hb3.block _ lA2)
          have lB2 : v1.heap.size < v2.heap.size := World.block_lt_of_cell? _ _ fB2
          have fB3 := (hb3.cell (p := ⟨v1.heap.size, 0, none⟩) lB2).trans fB2
          have hB3 : Below w1.heap.size w1 v3 := hB2.trans (hb3.mono (by have := hB2.size; omega))
          have hz3 := hb3.size
          refine hK.out _ _ (hS _ hB3) ?_
          clear hK K'
          try simp only [Act.put, List.setIfInBounds_toArray, List.set_cons_zero, List.set_cons_succ]
          refine manyH (rs := [8]) (by kernel_rfl) (by simp) (fun i hi o ho K' hK => ?_)
          simp only [List.mem_cons, List.not_mem_nil, or_false] at hi
          subst hi
          · simp only [List.getElem?_toArray, List.getElem?_cons_zero, List.getElem?_cons_succ, Option.some.injEq] at ho; subst ho
            go_simp
            refine (repeat_any n v1.heap.size 1 (-1) _ fB3 (by omega)).mono ?_
            rintro e v4 ⟨⟨GR, rfl, hGR, fC4⟩, hb4⟩
            dsimp only
            have lA3 : v0.heap.size < v3.heap.size := fA3.lt
            have fA4 := fA3.of_block (hb4.block _ lA3)
            have lB3 : v1.heap.size < v3.heap.size := World.block_lt_of_cell? _ _ fB3
            have fB4 := (hb4.cell (p := ⟨v1.heap.size, 0, none⟩) lB3).trans fB3
            have lD3 : v2.heap.size < v3.heap.size := (Array.getElem?_eq_some_iff.1 fD3).1
            have fD4 := (hb4.block _ lD3).trans fD3
            have hB4 : Below w1.heap.size w1 v4 := hB3.trans (hb4.mono (by have := hB3.size; omega))
            have hz4 := hb4.size
            refine hK.out _ _ (hS _ hB4) ?_
            clear hK K'
            try simp only [Act.put, List.setIfInBounds_toArray, List.set_cons_zero, List.set_cons_succ]
            refine takeH (i := 9) (some 20) (v := ?_) rfl (by kernel_rfl) (by kernel_rfl) (by kernel_rfl) (fun _ _ _ h => h) (hS _ hB4) (fun o ho => ?_) ?_
            rotate_left
            · simp only [List.getElem?_toArray, List.getElem?_cons_zero, List.getElem?_cons_succ, Option.some.injEq] at ho; subst ho; refine Or.inl ⟨by rfl, fun w' hSw => ?_⟩; (try dsimp only at hSw); go_simp; try with_reducible rfl
            simp only [Act.put, List.setIfInBounds_toArray, List.set_cons_zero, List.set_cons_succ]
            refine wpAnyH_done (by kernel_rfl) ?_ _
            refine lastH (by decide) (fun o ho K' hK => ?_)
            simp only [List.getElem?_toArray, List.getElem?_cons_zero, List.getElem?_cons_succ, Option.some.injEq] at ho; subst ho
            obtain ⟨z0, z1, z2, zf0, zf1, zf2⟩ := nest_cells fD4
            go_simp
            refine hK.out _ _ ?_
            clear hK K'
            exact NsR.leaf (N15 := v1.heap.size) fA4 fC4 fD4 hB4 (by simp only [Act.put, List.setIfInBounds_toArray, List.set_cons_zero, List.set_cons_succ]) (by omega) (by omega) (by omega) (by omega) (by omega) (by omega)
      · simp only [List.getElem?_toArray, List.getElem?_cons_zero, List.getElem?_cons_succ, Option.some.injEq] at ho; subst ho
        go_simp
        obtain ⟨v2, hw2⟩ : ∃ v, v1.alloc (.cells #[.slice none 0 0, .slice none 0 0, .slice none 0 0] 73) = v := ⟨_, rfl⟩
        have hb2 : Below v1.heap.size v1 v2 := by rw [← hw2]; exact (Below.refl _ _).alloc (Nat.le_refl _) _
        have fD2 : v2.heap[v1.heap.size]? = some (.cells #[.slice none 0 0, .slice none 0 0, .slice none 0 0] 73) := by rw [← hw2]; exact World.alloc_heap_new _ _
        rw [hw2]
        have lA1 : v0.heap.size < v1.heap.size := fA1.lt
        have fA2 := fA1.of_block (hb2.block _ lA1)
        have hB2 : Below w1.heap.size w1 v2 := hB1.trans (hb2.mono (by have := hB1.size; omega))
        have hz2 := hb2.size
        refine hK.out _ _ (hS _ hB2) ?_
        clear hK K'
        try simp only [Act.put, List.setIfInBounds_toArray, List.set_cons_zero, List.set_cons_succ]
        refine manyH (rs := [4]) (by kernel_rfl) (by simp) (fun i hi o ho K' hK => ?_)
        simp only [List.mem_cons, List.not_mem_nil, or_false] at hi
        subst hi
        · simp only [List.getElem?_toArray, List.getElem?_cons_zero, List.getElem?_cons_succ, Option.some.injEq] at ho; subst ho
          go_simp
          obtain ⟨v3, hw3⟩ : ∃ v, v2.alloc (.cells #[.int .i64 (-1)] 3) = v := ⟨_, rfl⟩
          have hb3 : Below v2.heap.size v2 v3 := by rw [← hw3]; exact (Below.refl _ _).alloc (Nat.le_refl _) _
          have fB3 : v3.cell? ⟨v2.heap.size, 0, none⟩ = some (.int .i64 (-1)) := by rw [← hw3]; simp [go_sem]
          rw [hw3]
          have lA2 : v0.heap.size < v2.heap.size := fA2.lt
          have fA3 := fA2.of_block (hb3.block _ lA2)
          have lD2 : v1.heap.size < v2.heap.size := (Array.getElem?_eq_some_iff.1 fD2).1
          have fD3 := (hb3.block _ lD2).trans fD2
          have hB3 : Below w1.heap.size w1 v3 := hB2.trans (hb3.mono (by have := hB2.size; omega))
          have hz3 := hb3.size
          refine hK.out _ _ (hS _ hB3) ?_
          clear hK K'
          try simp only [Act.put, List.setIfInBounds_toArray, List.set_cons_zero, List.set_cons_succ]
          refine manyH (rs := [8]) (by kernel_rfl) (by simp) (fun i hi o ho K' hK => ?_)
          simp only [List.mem_cons, List.not_mem_nil, or_false] at hi
          subst hi
          · simp only [List.getElem?_toArray, List.getElem?_cons_zero, List.getElem?_cons_succ, Option.some.injEq] at ho; subst ho
            go_simp
            refine (repeat_any n v2.heap.size 1 (-1) _ fB3 (by omega)).mono ?_
            rintro e v4 ⟨⟨GR, rfl, hGR, fC4⟩, hb4⟩
            dsimp only
            have lA3 : v0.heap.size < v3.heap.size := fA3.lt
            have fA4 := fA3.of_block (hb4.block _ lA3)
            have lD3 : v1.heap.size < v3.heap.size := (Array.getElem?_eq_some_iff.1 fD3).1
            have fD4 := (hb4.block _ lD3).trans fD3
            have lB3 : v2.heap.size < v3.heap.size := World.block_lt_of_cell? _ _ fB3
            have fB4 := (hb4.cell (p := ⟨v2.heap.size, 0, none⟩) lB3).trans fB3
            have hB4 : Below w1.heap.size w1 v4 := hB3.trans (hb4.mono (by have := hB3.size; omega))
            have hz4 := hb4.size
            refine hK.out _ _ (hS _ hB4) ?_
            clear hK K'
            try simp only [Act.put, List.setIfInBounds_toArray, List.set_cons_zero, List.set_cons_succ]
            refine takeH (i := 9) (some 20) (v := ?_) rfl (by kernel_rfl) (by kernel_rfl) (by kernel_rfl) (fun _ _ _ h => h) (hS _ hB4) (fun o ho => ?_) ?_
            rotate_left
            · simp only [List.getElem?_toArray, List.getElem?_cons_zero, List.getElem?_cons_succ, Option.some.injEq] at ho; subst ho; refine Or.inl ⟨by rfl, fun w' hSw => ?_⟩; (try dsimp only at hSw); go_simp; try with_reducible rfl
            simp only [Act.put, List.setIfInBounds_toArray, List.set_cons_zero, List.set_cons_succ]
            refine wpAnyH_done (by kernel_rfl) ?_ _
            refine lastH (by decide) (fun o ho K' hK => ?_)
            simp only [List.getElem?_toArray, List.getElem?_cons_zero, List.getElem?_cons_succ, Option.some.injEq] at ho; subst ho
            obtain ⟨z0, z1, z2, zf0, zf1, zf2⟩ := nest_cells fD4
            go_simp
            refine hK.out _ _ ?_
            clear hK K'
            exact NsR.leaf (N15 := v2.heap.size) fA4 fC4 fD4 hB4 (by simp only [Act.put, List.setIfInBounds_toArray, List.set_cons_zero, List.set_cons_succ]) (by omega) (by omega) (by omega) (by omega) (by omega) (by omega)
    · simp only [List.getElem?_toArray, List.getElem?_cons_zero, List.getElem?_cons_succ, Option.some.injEq] at ho; subst ho
      go_simp
      obtain ⟨v1, hw1⟩ : ∃ v, v0.alloc (.cells #[.int .i64 (-1)] 3) = v := ⟨_, rfl⟩
      have hb1 : Below v0.heap.size v0 v1 := by rw [← hw1]; exact (Below.refl _ _).alloc (Nat.le_refl _) _
      have fB1 : v1.cell? ⟨v0.heap.size, 0, none⟩ = some (.int .i64 (-1)) := by rw [← hw1]; simp [go_sem]
      rw [hw1]
      have hB1 : Below w1.heap.size w1 v1 := hB0.trans (hb1.mono (by have := hB0.size; omega))
      have hz1 := hb1.size
      refine hK.out _ _ (hS _ hB1) ?_
      clear hK K'
      try simp only [Act.put, List.setIfInBounds_toArray, List.set_cons_zero, List.set_cons_succ]
      refine manyH (rs := [3, 8, 10]) (by kernel_rfl) (by simp) (fun i hi o ho K' hK => ?_)
      simp only [List.mem_cons, List.not_mem_nil, or_false] at hi
      rcases hi with rfl | rfl | rfl
      · simp only [List.getElem?_toArray, List.getElem?_cons_zero, List.getElem?_cons_succ, Option.some.injEq] at ho; subst ho
        go_simp
        obtain ⟨v2, hw2⟩ : ∃ v, v1.alloc (.cells (madeCells #[.bool false] n) 4) = v := ⟨_, rfl⟩
        have hb2 : Below v1.heap.size v1 v2 := by rw [← hw2]; exact (Below.refl _ _).alloc (Nat.le_refl _) _
        have fA2 : v2.rowIs v1.heap.size 4 n (fun _ => .bool false) := by rw [← hw2]; exact World.rowIs_made _ (.bool false) n 4
        rw [hw2]
        have lB1 : v0.heap.size < v1.heap.size := World.block_lt_of_cell? _ _ fB1
        have fB2 := (hb2.cell (p := ⟨v0.heap.size, 0, none⟩) lB1).trans fB1
        have hB2 : Below w1.heap.size w1 v2 := hB1.trans (hb2.mono (by have := hB1.size; omega))
        have hz2 := hb2.size
        refine hK.out _ _ (hS _ hB2) ?_
        clear hK K'
        try simp only [Act.put, List.setIfInBounds_toArray, List.set_cons_zero, List.set_cons_succ]
        refine manyH (rs := [8, 10]) (by kernel_rfl) (by simp) (fun i hi o ho K' hK => ?_)
        simp only [List.mem_cons, List.not_mem_nil, or_false] at hi
        rcases hi with rfl | rfl
        · simp only [List.getElem?_toArray, List.getElem?_cons_zero, List.getElem?_cons_succ, Option.some.injEq] at ho; subst ho
          go_simp
          refine (repeat_any n v0.heap.size 1 (-1) _ fB2 (by omega)).mono ?_
          rintro e v3 ⟨⟨GR, rfl, hGR, fC3⟩, hb3⟩
          dsimp only
          have lB2 : v0.heap.size < v2.heap.size := World.block_lt_of_cell? _ _ fB2
          have fB3 := (hb3.cell (p := ⟨v0.heap.size, 0, none⟩) lB2).trans fB2
          have lA2 : v1.heap.size < v2.heap.size := fA2.lt
          have fA3 := fA2.of_block (hb3.block _ lA2)
          have hB3 : Below w1.heap.size w1 v3 := hB2.trans (hb3.mono (by have := hB2.size; omega))
          have hz3 := hb3.size
          refine hK.out _ _ (hS _ hB3) ?_
          clear hK K'
          try simp only [Act.put, List.setIfInBounds_toArray, List.set_cons_zero, List.set_cons_succ]
          refine takeH (i := 9) (some 20) (v := ?_) rfl (by kernel_rfl) (by kernel_rfl) (by kernel_rfl) (fun _ _ _ h => h) (hS _ hB3) (fun o ho => ?_) ?_
          rotate_left
          · simp only [List.getElem?_toArray, List.getElem?_cons_zero, List.getElem?_cons_succ, Option.some.injEq] at ho; subst ho; refine Or.inl ⟨by rfl, fun w' hSw => ?_⟩; (try dsimp only at hSw); go_simp; try with_reducible rfl
          simp only [Act.put, List.setIfInBounds_toArray, List.set_cons_zero, List.set_cons_succ]
          refine manyH (rs := [10]) (by kernel_rfl) (by simp) (fun i hi o ho K' hK => ?_)
          simp only [List.mem_cons, List.not_mem_nil, or_false] at hi
          subst hi
          · simp only [List.getElem?_toArray, List.getElem?_cons_zero, List.getElem?_cons_succ, Option.some.injEq] at ho; subst ho
            go_simp
            obtain ⟨v4, hw4⟩ : ∃ v, v3.alloc (.cells #[.slice none 0 0, .slice none 0 0, .slice none 0 0] 73) = v := ⟨_, rfl⟩
            have hb4 : Below v3.heap.size v3 v4 := by rw [← hw4]; exact (Below.refl _ _).alloc (Nat.le_refl _) _
            have fD4 : v4.heap[v3.heap.size]? = some (.cells #[.slice none 0 0, .slice none 0 0, .slice none 0 0] 73) := by rw [← hw4]; exact World.alloc_heap_new _ _
            rw [hw4]
            have lB3 : v0.heap.size < v3.heap.size := World.block_lt_of_cell? _ _ fB3
            have fB4 := (hb4.cell (p := ⟨v0.heap.size, 0, none⟩) lB3).trans fB3
            have lA3 : v1.heap.size < v3.heap.size := fA3.lt
            have fA4 := fA3.of_block (hb4.block _ lA3)
            have lC3 : GR < v3.heap.size := fC3.lt
            have fC4 := fC3.of_block (hb4.block _ lC3)
            have hB4 : Below w1.heap.size w1 v4 := hB3.trans (hb4.mono (by have := hB3.size; omega))
            have hz4 := hb4.size
            refine hK.out _ _ (hS _ hB4) ?_
            clear hK K'
            try simp only [Act.put, List.setIfInBounds_toArray, List.set_cons_zero, List.set_cons_succ]
            refine wpAnyH_done (by kernel_rfl) ?_ _
            refine lastH (by decide) (fun o ho K' hK => ?_)
            simp only [List.getElem?_toArray, List.getElem?_cons_zero, List.getElem?_cons_succ, Option.some.injEq] at ho; subst ho
            obtain ⟨z0, z1, z2, zf0, zf1, zf2⟩ := nest_cells fD4
            go_simp
            refine hK.out _ _ ?_
            clear hK K'
            exact NsR.leaf (N15 := v0.heap.size) fA4 fC4 fD4 hB4 (by simp only [Act.put, List.setIfInBounds_toArray, List.set_cons_zero, List.set_cons_succ]) (by omega) (by omega) (by omega) (by omega) (by omega) (by omega)
        · simp only [List.getElem?_toArray, List.getElem?_cons_zero, List.getElem?_cons_succ, Option.some.injEq] at ho; subst ho
          go_simp
          obtain ⟨v3, hw3⟩ : ∃ v, v2.alloc (.cells #[.slice none 0 0, .slice none 0 0, .slice none 0 0] 73) = v := ⟨_, rfl⟩
          have hb3 : Below v2.heap.size v2 v3 := by rw [← hw3]; exact (Below.refl _ _).alloc (Nat.le_refl _) _
          have fD3 : v3.heap[v2.heap.size]? = some (.cells #[.slice none 0 0, .slice none 0 0, .slice none 0 0] 73) := by rw [← hw3]; exact World.alloc_heap_new _ _
          rw [hw3]
          have lB2 : v0.heap.size < v2.heap.size := World.block_lt_of_cell? _ _ fB2
          have fB3 := (hb3.cell (p := ⟨v0.heap.size, 0, none⟩) lB2).trans fB2
          have lA2 : v1.heap.size < v2.heap.size := fA2.lt
          have fA3 := fA2.of_block (hb3.block _ lA2)
          have hB3 : Below w1.heap.size w1 v3 := hB2.trans (hb3.mono (by have := hB2.size; omega))
          have hz3 := hb3.size
          refine hK.out _ _ (hS _ hB3) ?_
          clear hK K'
          try simp only [Act.put, List.setIfInBounds_toArray, List.set_cons_zero, List.set_cons_succ]
          refine manyH (rs := [8]) (by kernel_rfl) (by simp) (fun i hi o ho K' hK => ?_)
          simp only [List.mem_cons, List.not_mem_nil, or_false] at hi
          subst hi
          · simp only [List.getElem?_toArray, List.getElem?_cons_zero, List.getElem?_cons_succ, Option.some.injEq] at ho; subst ho
            go_simp
            refine (repeat_any n v0.heap.size 1 (-1) _ fB3 (by omega)).mono ?_
            rintro e v4 ⟨⟨GR, rfl, hGR, fC4⟩, hb4⟩
            dsimp only
            have lB3 : v0.heap.size < v3.heap.size := World.block_lt_of_cell? _ _ fB3
            have fB4 := (hb4.cell (p := ⟨v0.heap.size, 0, none⟩) lB3).trans fB3
            have lA3 : v1.heap.size < v3.heap.size := fA3.lt
            have fA4 := fA3.of_block (hb4.block _ lA3)
            have lD3 : v2.heap.size < v3.heap.size := (Array.getElem?_eq_some_iff.1 fD3).1
            have fD4 := (hb4.block _ lD3).trans fD3
            have hB4 : Below w1.heap.size w1 v4 := hB3.trans (hb4.mono (by have := hB3.size; omega))
            have hz4 := hb4.size
            refine hK.out _ _ (hS _ hB4) ?_
            clear hK K'
            try simp only [Act.put, List.setIfInBounds_toArray, List.set_cons_zero, List.set_cons_succ]
            refine takeH (i := 9) (some 20) (v := ?_) rfl (by kernel_rfl) (by kernel_rfl) (by kernel_rfl) (fun _ _ _ h => h) (hS _ hB4) (fun o ho => ?_) ?_
            rotate_left
            · simp only [List.getElem?_toArray, List.getElem?_cons_zero, List.getElem?_cons_succ, Option.some.injEq] at ho; subst ho; refine Or.inl ⟨by rfl, fun w' hSw => ?_⟩; (try dsimp only at hSw); go_simp; try with_reducible rfl
            simp only [Act.put, List.setIfInBounds_toArray, List.set_cons_zero, List.set_cons_succ]
            refine wpAnyH_done (by kernel_rfl) ?_ _
            refine lastH (by decide) (fun o ho K' hK => ?_)
            simp only [List.getElem?_toArray, List.getElem?_cons_zero, List.getElem?_cons_succ, Option.some.injEq] at ho; subst ho
            obtain ⟨z0, z1, z2, zf0, zf1, zf2⟩ := nest_cells fD4
            go_simp
            refine hK.out _ _ ?_
            clear hK K'
            exact NsR.leaf (N15 := v0.heap.size) fA4 fC4 fD4 hB4 (by simp only [Act.put, List.setIfInBounds_toArray, List.set_cons_zero, List.set_cons_succ]) (by omega) (by omega) (by omega) (by omega) (by omega) (by omega)
      · simp only [List.getElem?_toArray, List.getElem?_cons_zero, List.getElem?_cons_succ, Option.some.injEq] at ho; subst ho
        go_simp
        refine (repeat_any n v0.heap.size 1 (-1) _ fB1 (by omega)).mono ?_
        rintro e v2 ⟨⟨GR, rfl, hGR, fC2⟩, hb2⟩
        dsimp only
        have lB1 : v0.heap.size < v1.heap.size := World.block_lt_of_cell? _ _ fB1
        have fB2 := (hb2.cell (p := ⟨v0.heap.size, 0, none⟩) lB1).trans fB1
        have hB2 : Below w1.heap.size w1 v2 := hB1.trans (hb2.mono (by have := hB1.size; omega))
        have hz2 := hb2.size
        refine hK.out _ _ (hS _ hB2) ?_
        clear hK K'
        try simp only [Act.put, List.setIfInBounds_toArray, List.set_cons_zero, List.set_cons_succ]
        refine manyH (rs := [3, 10]) (by kernel_rfl) (by simp) (fun i hi o ho K' hK => ?_)
        simp only [List.mem_cons, List.not_mem_nil, or_false] at hi
        rcases hi with rfl | rfl
        · simp only [List.getElem?_toArray, List.getElem?_cons_zero, List.getElem?_cons_succ, Option.some.injEq] at ho; subst ho
          go_simp
          obtain ⟨v3, hw3⟩ : ∃ v, v2.alloc (.cells (madeCells #[.bool false] n) 4) = v := ⟨_, rfl⟩
          have hb3 : Below v2.heap.size v2 v3 := by rw [← hw3]; exact (Below.refl _ _).alloc (Nat.le_refl _) _
          have fA3 : v3.rowIs v2.heap.size 4 n (fun _ => .bool false) := by rw [← hw3]; exact World.rowIs_made _ (.bool false) n 4
          rw [hw3]
          have lB2 : v0.heap.size < v2.heap.size := World.block_lt_of_cell? _ _ fB2
          have fB3 := (hb3.cell (p := ⟨v0.heap.size, 0, none⟩) lB2).trans fB2
          have lC2 : GR < v2.heap.size := fC2.lt
          have fC3 := fC2.of_block (hb3.block _ lC2)
          have hB3 : Below w1.heap.size w1 v3 := hB2.trans (hb3.mono (by have := hB2.size; omega))
          have hz3 := hb3.size
          refine hK.out _ _ (hS _ hB3) ?_
          clear hK K'
          try simp only [Act.put, List.setIfInBounds_toArray, List.set_cons_zero, List.set_cons_succ]
          refine takeH (i := 9) (some 20) (v := ?_) rfl (by kernel_rfl) (by kernel_rfl) (by kernel_rfl) (fun _ _ _ h => h) (hS _ hB3) (fun o ho => ?_) ?_
          rotate_left
          · simp only [List.getElem?_toArray, List.getElem?_cons_zero, List.getElem?_cons_succ, Option.some.injEq] at ho; subst ho; refine Or.inl ⟨by rfl, fun w' hSw => ?_⟩; (try dsimp only at hSw); go_simp; try with_reducible rfl
          simp only [Act.put, List.setIfInBounds_toArray, List.set_cons_zero, List.set_cons_succ]
          refine manyH (rs := [10]) (by kernel_rfl) (by simp) (fun i hi o ho K' hK => ?_)
          simp only [List.mem_cons, List.not_mem_nil, or_false] at hi
          subst hi
          · simp only [List.getElem?_toArray, List.getElem?_cons_zero, List.getElem?_cons_succ, Option.some.injEq] at ho; subst ho
            go_simp
            obtain ⟨v4, hw4⟩ : ∃ v, v3.alloc (.cells #[.slice none 0 0, .slice none 0 0, .slice none 0 0] 73) = v := ⟨_, rfl⟩
            have hb4 : Below v3.heap.size v3 v4 := by rw [← hw4]; exact (Below.refl _ _).alloc (Nat.le_refl _) _
            have fD4 : v4.heap[v3.heap.size]? = some (.cells #[.slice none 0 0, .slice none 0 0, .slice none 0 0] 73) := by rw [← hw4]; exact World.alloc_heap_new _ _
            rw [hw4]
            have lB3 : v0.heap.size < v3.heap.size := World.block_lt_of_cell? _ _ fB3
            have fB4 := (hb4.cell (p := ⟨v0.heap.size, 0, none⟩) lB3).trans fB3
            have lC3 : GR < v3.heap.size := fC3.lt
            have fC4 := fC3.of_block (hb4.block _ lC3)
            have lA3 : v2.heap.size < v3.heap.size := fA3.lt
            have fA4 := fA3.of_block (hb4.block _ lA3)
            have hB4 : Below w1.heap.size w1 v4 := hB3.trans (hb4.mono (by have := hB3.size; omega))
            have hz4 := hb4.size
            refine hK.out _ _ (hS _ hB4) ?_
            clear hK K'
            try simp only [Act.put, List.setIfInBounds_toArray, List.set_cons_zero, List.set_cons_succ]
            refine wpAnyH_done (by kernel_rfl) ?_ _
            refine lastH (by decide) (fun o ho K' hK => ?_)
            simp only [List.getElem?_toArray, List.getElem?_cons_zero, List.getElem?_cons_succ, Option.some.injEq] at ho; subst ho
            obtain ⟨z0, z1, z2, zf0, zf1, zf2⟩ := nest_cells fD4
            go_simp
            refine hK.out _ _ ?_
            clear hK K'
            exact NsR.leaf (N15 := v0.heap.size) fA4 fC4 fD4 hB4 (by simp only [Act.put, List.setIfInBounds_toArray, List.set_cons_zero, List.set_cons_succ]) (by omega) (by omega) (by omega) (by omega) (by omega) (by omega)
        · simp only [List.getElem?_toArray, List.getElem?_cons_zero, List.getElem?_cons_succ, Option.some.injEq] at ho; subst ho
          go_simp
          obtain ⟨v3, hw3⟩ : ∃ v, v2.alloc (.cells #[.slice none 0 0, .slice none 0 0, .slice none 0 0] 73) = v := ⟨_, rfl⟩
          have hb3 : Below v2.heap.size v2 v3 := by rw [← hw3]; exact (Below.refl _ _).alloc (Nat.le_refl _) _
          have fD3 : v3.heap[v2.heap.size]? = some (.cells #[.slice none 0 0, .slice none 0 0, .slice none 0 0] 73) := by rw [← hw3]; exact World.alloc_heap_new _ _
          rw [hw3]
          have lB2 : v0.heap.size < v2.heap.size := World.block_lt_of_cell? _ _ fB2
          have fB3 := (hb3.cell (p := ⟨v0.heap.size, 0, none⟩) lB2).trans fB2
          have lC2 : GR < v2.heap.size := fC2.lt
          have fC3 := fC2.of_block (hb3.block _ lC2)
          have hB3 : Below w1.heap.size w1 v3 := hB2.trans (hb3.mono (by have := hB2.size; omega))
          have hz3 := hb3.size
          refine hK.out _ _ (hS _ hB3) ?_
          clear hK K'
          try simp only [Act.put, List.setIfInBounds_toArray, List.set_cons_zero, List.set_cons_succ]
          refine manyH (rs := [3]) (by kernel_rfl) (by simp) (fun i hi o ho K' hK => ?_)
          simp only [List.mem_cons, List.not_mem_nil, or_false] at hi
          subst hi
          · simp only [List.getElem?_toArray, List.getElem?_cons_zero, List.getElem?_cons_succ, Option.some.injEq] at ho; subst ho
            go_simp
            obtain ⟨v4, hw4⟩ : ∃ v, v3.alloc (.cells (madeCells #[.bool false] n) 4) = v := ⟨_, rfl⟩
            have hb4 : Below v3.heap.size v3 v4 := by rw [← hw4]; exact (Below.refl _ _).alloc (Nat.le_refl _) _
            have fA4 : v4.rowIs v3.heap.size 4 n (fun _ => .bool false) := by rw [← hw4]; exact World.rowIs_made _ (.bool false) n 4
            rw [hw4]
            have lB3 : v0.heap.size < v3.heap.size := World.block_lt_of_cell? _ _ fB3
            have fB4 := (hb4.cell (p := ⟨v0.heap.size, 0, none⟩) lB3).trans fB3
            have lC3 : GR < v3.heap.size := fC3.lt
            have fC4 := fC3.of_block (hb4.block _ lC3)
            have lD3 : v2.heap.size < v3.heap.size := (Array.getElem?_eq_some_iff.1 fD3).1
            have fD4 := (hb4.block _ lD3).trans fD3
            have hB4 : Below w1.heap.size w1 v4 := hB3.trans (hb4.mono (by have := hB3.size; omega))
            have hz4 := hb4.size
            refine hK.out _ _ (hS _ hB4) ?_
            clear hK K'
            try simp only [Act.put, List.setIfInBounds_toArray, List.set_cons_zero, List.set_cons_succ]
            refine takeH (i := 9) (some 20) (v := ?_) rfl (by kernel_rfl) (by kernel_rfl) (by kernel_rfl) (fun _ _ _ h => h) (hS _ hB4) (fun o ho => ?_) ?_
            rotate_left
            · simp only [List.getElem?_toArray, List.getElem?_cons_zero, List.getElem?_cons_succ, Option.some.injEq] at ho; subst ho; refine Or.inl ⟨by rfl, fun w' hSw => ?_⟩; (try dsimp only at hSw); go_simp; try with_reducible rfl
            simp only [Act.put, List.setIfInBounds_toArray, List.set_cons_zero, List.set_cons_succ]
            refine wpAnyH_done (by kernel_rfl) ?_ _
            refine lastH (by decide) (fun o ho K' hK => ?_)
            simp only [List.getElem?_toArray, List.getElem?_cons_zero, List.getElem?_cons_succ, Option.some.injEq] at ho; subst ho
            obtain ⟨z0, z1, z2, zf0, zf1, zf2⟩ := nest_cells fD4
            go_simp
            refine hK.out _ _ ?_
            clear hK K'
            exact NsR.leaf (N15 := v0.heap.size) fA4 fC4 fD4 hB4 (by simp only [Act.put, List.setIfInBounds_toArray, List.set_cons_zero, List.set_cons_succ]) (by omega) (by omega) (by omega) (by omega) (by omega) (by omega)
      · simp only [List.getElem?_toArray, List.getElem?_cons_zero, List.getElem?_cons_succ, Option.some.injEq] at ho; subst ho
        go_simp
        obtain ⟨v2, hw2⟩ : ∃ v, v1.alloc (.cells #[.slice none 0 0, .slice none 0 0, .slice none 0 0] 73) = v := ⟨_, rfl⟩
        have hb2 : Below v1.heap.size v1 v2 := by rw [← hw2]; exact (Below.refl _ _).alloc (Nat.le_refl _) _
        have fD2 : v2.heap[v1.heap.size]? = some (.cells #[.slice none 0 0, .slice none 0 0, .slice none 0 0] 73) := by rw [← hw2]; exact World.alloc_heap_new _ _
        rw [hw2]
        have lB1 : v0.heap.size < v1.heap.size := World.block_lt_of_cell? _ _ fB1
        have fB2 := (hb2.cell (p := ⟨v0.heap.size, 0, none⟩) lB1).trans fB1
        have hB2 : Below w1.heap.size w1 v2 := hB1.trans (hb2.mono (by have := hB1.size; omega))
        have hz2 := hb2.size
        refine hK.out _ _ (hS _ hB2) ?_
        clear hK K'
        try simp only [Act.put, List.setIfInBounds_toArray, List.set_cons_zero, List.set_cons_succ]
        refine manyH (rs := [3, 8]) (by kernel_rfl) (by simp) (fun i hi o ho K' hK => ?_)
        simp only [List.mem_cons, List.not_mem_nil, or_false] at hi
        rcases hi with rfl | rfl
        · simp only [List.getElem?_toArray, List.getElem?_cons_zero, List.getElem?_cons_succ, Option.some.injEq] at ho; subst ho
          go_simp
          obtain ⟨v3, hw3⟩ : ∃ v, v2.alloc (.cells (madeCells #[.bool false] n) 4) = v := ⟨_, rfl⟩
          have hb3 : Below v2.heap.size v2 v3 := by rw [← hw3]; exact (Below.refl _ _).alloc (Nat.le_refl _) _
          have fA3 : v3.rowIs v2.heap.size 4 n (fun _ => .bool false) := by rw [← hw3]; exact World.rowIs_made _ (.bool false) n 4
          rw [hw3]
          have lB2 : v0.heap.size < v2.heap.size := World.block_lt_of_cell? _ _ fB2
          have fB3 := (hb3.cell (p := ⟨v0.heap.size, 0, none⟩) lB2).trans fB2
          have lD2 : v1.heap.size < v2.heap.size := (Array.getElem?_eq_some_iff.1 fD2).1
          have fD3 := (hb3.block _ lD2).trans fD2
          have hB3 : Below w1.heap.size w1 v3 := hB2.trans (hb3.mono (by have := hB2.size; omega))
          have hz3 := hb3.size
          refine hK.out _ _ (hS _ hB3) ?_
          clear hK K'
          try simp only [Act.put, List.setIfInBounds_toArray, List.set_cons_zero, List.set_cons_succ]
          refine manyH (rs := [8]) (by kernel_rfl) (by simp) (fun i hi o ho K' hK => ?_)
          simp only [List.mem_cons, List.not_mem_nil, or_false] at hi
          subst hi
          · simp only [List.getElem?_toArray, List.getElem?_cons_zero, List.getElem?_cons_succ, Option.some.injEq] at ho; subst ho
            go_simp
            refine (repeat_any n v0.heap.size 1 (-1) _ fB3 (by omega)).mono ?_
            rintro e v4 ⟨⟨GR, rfl, hGR, fC4⟩, hb4⟩
            dsimp only
            have lB3 : v0.heap.size < v3.heap.size := World.block_lt_of_cell? _ _ fB3
            have fB4 := (hb4.cell (p := ⟨v0.heap.size, 0, none⟩) lB3).trans fB3
            have lD3 : v1.heap.size < v3.heap.size := (Array.getElem?_eq_some_iff.1 fD3).1
            have fD4 := (hb4.block _ lD3).trans fD3
            have lA3 : v2.heap.size < v3.heap.size := fA3.lt
            have fA4 := fA3.of_block (hb4.block _ lA3)
            have hB4 : Below w1.heap.size w1 v4 := hB3.trans (hb4.mono (by have := hB3.size; omega))
            have hz4 := hb4.size
            refine hK.out _ _ (hS _ hB4) ?_
            clear hK K'
            try simp only [Act.put, List.setIfInBounds_toArray, List.set_cons_zero, List.set_cons_succ]
            refine takeH (i := 9) (some 20) (v := ?_) rfl (by kernel_rfl) (by kernel_rfl) (by kernel_rfl) (fun _ _ _ h => h) (hS _ hB4) (fun o ho => ?_) ?_
            rotate_left
            · simp only [List.getElem?_toArray, List.getElem?_cons_zero, List.getElem?_cons_succ, Option.some.injEq] at ho; subst ho; refine Or.inl ⟨by rfl, fun w' hSw => ?_⟩; (try dsimp only at hSw); go_simp; try with_reducible rfl
            simp only [Act.put, List.setIfInBounds_toArray, List.set_cons_zero, List.set_cons_succ]
            refine wpAnyH_done (by kernel_rfl) ?_ _
            refine lastH (by decide) (fun o ho K' hK => ?_)
            simp only [List.getElem?_toArray, List.getElem?_cons_zero, List.getElem?_cons_succ, Option.some.injEq] at ho; subst ho
            obtain ⟨z0, z1, z2, zf0, zf1, zf2⟩ := nest_cells fD4
            go_simp
            refine hK.out _ _ ?_
            clear hK K'
            exact NsR.leaf (N15 := v0.heap.size) fA4 fC4 fD4 hB4 (by simp only [Act.put, List.setIfInBounds_toArray, List.set_cons_zero, List.set_cons_succ]) (by omega) (by omega) (by omega) (by omega) (by omega) (by omega)
        · simp only [List.getElem?_toArray, List.getElem?_cons_zero, List.getElem?_cons_succ, Option.some.injEq] at ho; subst ho
          go_simp
          refine (repeat_any n v0.heap.size 1 (-1) _ fB2 (by omega)).mono ?_
          rintro e v3 ⟨⟨GR, rfl, hGR, fC3⟩, hb3⟩
          dsimp only
          have lB2 : v0.heap.size < v2.heap.size := World.block_lt_of_cell? _ _ fB2
          have fB3 := (hb3.cell (p := ⟨v0.heap.size, 0, none⟩) lB2).trans fB2
          have lD2 : v1.heap.size < v2.heap.size := (Array.getElem?_eq_some_iff.1 fD2).1
          have fD3 := (hb3.block _ lD2).trans fD2
          have hB3 : Below w1.heap.size w1 v3 := hB2.trans (hb3.mono (by have := hB2.size; omega))
          have hz3 := hb3.size
          refine hK.out _ _ (hS _ hB3) ?_
          clear hK K'
          try simp only [Act.put, List.setIfInBounds_toArray, List.set_cons_zero, List.set_cons_succ]
          refine manyH (rs := [3]) (by kernel_rfl) (by simp) (fun i hi o ho K' hK => ?_)
          simp only [List.mem_cons, List.not_mem_nil, or_false] at hi
          subst hi
          · simp only [List.getElem?_toArray, List.getElem?_cons_zero, List.getElem?_cons_succ, Option.some.injEq] at ho; subst ho
            go_simp
            obtain ⟨v4, hw4⟩ : ∃ v, v3.alloc (.cells (madeCells #[.bool false] n) 4) = v := ⟨_, rfl⟩
            have hb4 : Below v3.heap.size v3 v4 := by rw [← hw4]; exact (Below.refl _ _).alloc (Nat.le_refl _) _
            have fA4 : v4.rowIs v3.heap.size 4 n (fun _ => .bool false) := by rw [← hw4]; exact World.rowIs_made _ (.bool false) n 4
            rw [hw4]
            have lB3 : v0.heap.size < v3.heap.size := World.block_lt_of_cell? _ _ fB3
            have fB4 := (hb4.cell (p := ⟨v0.heap.size, 0, none⟩) lB3).trans fB3
            have lD3 : v1.heap.size < v3.heap.size := (Array.getElem?_eq_some_iff.1 fD3).1
            have fD4 := (hb4.block _ lD3).trans fD3
            have lC3 : GR < v3.heap.size := fC3.lt
            have fC4 := fC3.of_block (hb4.block _ lC3)
            have hB4 : Below w1.heap.size w1 v4 := hB3.trans (hb4.mono (by have := hB3.size; omega))
            have hz4 := hb4.size
            refine hK.out _ _ (hS _ hB4) ?_
            clear hK K'
            try simp only [Act.put, List.setIfInBounds_toArray, List.set_cons_zero, List.set_cons_succ]
            refine takeH (i := 9) (some 20) (v := ?_) rfl (by kernel_rfl) (by kernel_rfl) (by kernel_rfl) (fun _ _ _ h => h) (hS _ hB4) (fun o ho => ?_) ?_
            rotate_left
            · simp only [List.getElem?_toArray, List.getElem?_cons_zero, List.getElem?_cons_succ, Option.some.injEq] at ho; subst ho; refine Or.inl ⟨by rfl, fun w' hSw => ?_⟩; (try dsimp only at hSw); go_simp; try with_reducible rfl
            simp only [Act.put, List.setIfInBounds_toArray, List.set_cons_zero, List.set_cons_succ]
            refine wpAnyH_done (by kernel_rfl) ?_ _
            refine lastH (by decide) (fun o ho K' hK => ?_)
            simp only [List.getElem?_toArray, List.getElem?_cons_zero, List.getElem?_cons_succ, Option.some.injEq] at ho; subst ho
            obtain ⟨z0, z1, z2, zf0, zf1, zf2⟩ := nest_cells fD4
            go_simp
            refine hK.out _ _ ?_
            clear hK K'
            exact NsR.leaf (N15 := v0.heap.size) fA4 fC4 fD4 hB4 (by simp only [Act.put, List.setIfInBounds_toArray, List.set_cons_zero, List.set_cons_succ]) (by omega) (by omega) (by omega) (by omega) (by omega) (by omega)
    · simp only [List.getElem?_toArray, List.getElem?_cons_zero, List.getElem?_cons_succ, Option.some.injEq] at ho; subst ho
      go_simp
      obtain ⟨v1, hw1⟩ : ∃ v, v0.alloc (.cells #[.slice none 0 0, .slice none 0 0, .slice none 0 0] 73) = v := ⟨_, rfl⟩
      have hb1 : Below v0.heap.size v0 v1 := by rw [← hw1]; exact (Below.refl _ _).alloc (Nat.le_refl _) _
      have fD1 : v1.heap[v0.heap.size]? = some (.cells #[.slice none 0 0, .slice none 0 0, .slice none 0 0] 73) := by rw [← hw1]; exact World.alloc_heap_new _ _
      rw [hw1]
      have hB1 : Below w1.heap.size w1 v1 := hB0.trans (hb1.mono (by have := hB0.size; omega))
      have hz1 := hb1.size
      refine hK.out _ _ (hS _ hB1) ?_
      clear hK K'
      try simp only [Act.put, List.setIfInBounds_toArray, List.set_cons_zero, List.set_cons_succ]
      refine manyH (rs := [3, 4]) (by kernel_rfl) (by simp) (fun i hi o ho K' hK => ?_)
      simp only [List.mem_cons, List.not_mem_nil, or_false] at hi
      rcases hi with rfl | rfl
      · simp only [List.getElem?_toArray, List.getElem?_cons_zero, List.getElem?_cons_succ, Option.some.injEq] at ho; subst ho
        go_simp
        obtain ⟨v2, hw2⟩ : ∃ v, v1.alloc (.cells (madeCells #[.bool false] n) 4) = v := ⟨_, rfl⟩
        have hb2 : Below v1.heap.size v1 v2 := by rw [← hw2]; exact (Below.refl _ _).alloc (Nat.le_refl _) _
        have fA2 : v2.rowIs v1.heap.size 4 n (fun _ => .bool false) := by rw [← hw2]; exact World.rowIs_made _ (.bool false) n 4
        rw [hw2]
        have lD1 : v0.heap.size < v1.heap.size := (Array.getElem?_eq_some_iff.1 fD1).1
        have fD2 := (hb2.block _ lD1).trans fD1
        have hB2 : Below w1.heap.size w1 v2 := hB1.trans (hb2.mono (by have := hB1.size; omega))
        have hz2 := hb2.size
        refine hK.out _ _ (hS _ hB2) ?_
        clear hK K'
        try simp only [Act.put, List.setIfInBounds_toArray, List.set_cons_zero, List.set_cons_succ]
        refine manyH (rs := [4]) (by kernel_rfl) (by simp) (fun i hi o ho K' hK => ?_)
        simp only [List.mem_cons, List.not_mem_nil, or_false] at hi
        subst hi
        · simp only [List.getElem?_toArray, List.getElem?_cons_zero, List.getElem?_cons_succ, Option.some.injEq] at ho; subst ho
          go_simp
          obtain ⟨v3, hw3⟩ : ∃ v, v2.alloc (.cells #[.int .i64 (-1)] 3) = v := ⟨_, rfl⟩
          have hb3 : Below v2.heap.size v2 v3 := by rw [← hw3]; exact (Below.refl _ _).alloc (Nat.le_refl _) _
          have fB3 : v3.cell? ⟨v2.heap.size, 0, none⟩ = some (.int .i64 (-1)) := by rw [← hw3]; simp [go_sem]
          rw [hw3]
          have lD2 : v0.heap.size < v2.heap.size := (Array.getElem?_eq_some_iff.1 fD2).1
          have fD3 := (hb3.block _ lD2).trans fD2
          have lA2 : v1.heap.size < v2.heap.size := fA2.lt
          have fA3 := fA2.of_block (hb3.block _ lA2)
          have hB3 : Below w1.heap.size w1 v3 := hB2.trans (hb3.mono (by have := hB2.size; omega))
          have hz3 := hb3.size
          refine hK.out _ _ (hS _ hB3) ?_
          clear hK K'
          try simp only [Act.put, List.setIfInBounds_toArray, List.set_cons_zero, List.set_cons_succ]
          refine manyH (rs := [8]) (by kernel_rfl) (by simp) (fun i hi o ho K' hK => ?_)
          simp only [List.mem_cons, List.not_mem_nil, or_false] at hi
          subst hi
          · simp only [List.getElem?_toArray, List.getElem?_cons_zero, List.getElem?_cons_succ, Option.some.injEq] at ho; subst ho
            go_simp
            refine (repeat_any n v2.heap.size 1 (-1) _ fB3 (by omega)).mono ?_
            rintro e v4 ⟨⟨GR, rfl, hGR, fC4⟩, hb4⟩
            dsimp only
            have lD3 : v0.heap.size < v3.heap.size := (Array.getElem?_eq_some_iff.1 fD3).1
            have fD4 := (hb4.block _ lD3).trans fD3
            have lA3 : v1.heap.size < v3.heap.size := fA3.lt
            have fA4 := fA3.of_block (hb4.block _ lA3)
            have lB3 : v2.heap.size < v3.heap.size := World.block_lt_of_cell? _ _ fB3
            have fB4 := (hb4.cell (p := ⟨v2.heap.size, 0, none⟩) lB3).trans fB3
            have hB4 : Below w1.heap.size w1 v4 := hB3.trans (hb4.mono (by have := hB3.size; omega))
            have hz4 := hb4.size
            refine hK.out _ _ (hS _ hB4) ?_
            clear hK K'
            try simp only [Act.put, List.setIfInBounds_toArray, List.set_cons_zero, List.set_cons_succ]
            refine takeH (i := 9) (some 20) (v := ?_) rfl (by kernel_rfl) (by kernel_rfl) (by kernel_rfl) (fun _ _ _ h => h) (hS _ hB4) (fun o ho => ?_) ?_
            rotate_left
            · simp only [List.getElem?_toArray, List.getElem?_cons_zero, List.getElem?_cons_succ, Option.some.injEq] at ho; subst ho; refine Or.inl ⟨by rfl, fun w' hSw => ?_⟩; (try dsimp only at hSw); go_simp; try with_reducible rfl
            simp only [Act.put, List.setIfInBounds_toArray, List.set_cons_zero, List.set_cons_succ]
            refine wpAnyH_done (by kernel_rfl) ?_ _
            refine lastH (by decide) (fun o ho K' hK => ?_)
            simp only [List.getElem?_toArray, List.getElem?_cons_zero, List.getElem?_cons_succ, Option.some.injEq] at ho; subst ho
            obtain ⟨z0, z1, z2, zf0, zf1, zf2⟩ := nest_cells fD4
            go_simp
            refine hK.out _ _ ?_
            clear hK K'
            exact NsR.leaf (N15 := v2.heap.size) fA4 fC4 fD4 hB4 (by simp only [Act.put, List.setIfInBounds_toArray, List.set_cons_zero, List.set_cons_succ]) (by omega) (by omega) (by omega) (by omega) (by omega) (by omega)
      · simp only [List.getElem?_toArray, List.getElem?_cons_zero, List.getElem?_cons_succ, Option.some.injEq] at ho; subst ho
        go_simp
        obtain ⟨v2, hw2⟩ : ∃ v, v1.alloc (.cells #[.int .i64 (-1)] 3) = v := ⟨_, rfl⟩
        have hb2 : Below v1.heap.size v1 v2 := by rw [← hw2]; exact (Below.refl _ _).alloc (Nat.le_refl _) _
        have fB2 : v2.cell? ⟨v1.heap.size, 0, none⟩ = some (.int .i64 (-1)) := by rw [← hw2]; simp [go_sem]
        rw [hw2]
        have lD1 : v0.heap.size < v1.heap.size := (Array.getElem?_eq_some_iff.1 fD1).1
        have fD2 := (hb2.block _ lD1).trans fD1
        have hB2 : Below w1.heap.size w1 v2 := hB1.trans (hb2.mono (by have := hB1.size; omega))
        have hz2 := hb2.size
        refine hK.out _ _ (hS _ hB2) ?_
        clear hK K'
        try simp only [Act.put, List.setIfInBounds_toArray, List.set_cons_zero, List.set_cons_succ]
        refine manyH (rs := [3, 8]) (by kernel_rfl) (by simp) (fun i hi o ho K' hK => ?_)
        simp only [List.mem_cons, List.not_mem_nil, or_false] at hi
        rcases hi with rfl | rfl
        · simp only [List.getElem?_toArray, List.getElem?_cons_zero, List.getElem?_cons_succ, Option.some.injEq] at ho; subst ho
          go_simp
          obtain ⟨v3, hw3⟩ : ∃ v, v2.alloc (.cells (madeCells #[.bool false] n) 4) = v := ⟨_, rfl⟩
          have hb3 : Below v2.heap.size v2 v3 := by rw [← hw3]; exact (Below.refl _ _).alloc (Nat.le_refl _) _
          have fA3 : v3.rowIs v2.heap.size 4 n (fun _ => .bool false) := by rw [← hw3]; exact World.rowIs_made _ (.bool false) n 4
          rw [hw3]
          have lD2 : v0.heap.size < v2.heap.size := (Array.getElem?_eq_some_iff.1 fD2).1
          have fD3 := (hb3.block _ lD2).trans fD2
          have lB2 : v1.heap.size < v2.heap.size := World.block_lt_of_cell? _ _ fB2
          have fB3 := (hb3.cell (p := ⟨v1.heap.size, 0, none⟩) lB2).trans fB2
          have hB3 : Below w1.heap.size w1 v3 := hB2.trans (hb3.mono (by have := hB2.size; omega))
          have hz3 := hb3.size
          refine hK.out _ _ (hS _ hB3) ?_
          clear hK K'
          try simp only [Act.put, List.setIfInBounds_toArray, List.set_cons_zero, List.set_cons_succ]
          refine manyH (rs := [8]) (by kernel_rfl) (by simp) (fun i hi o ho K' hK => ?_)
          simp only [List.mem_cons, List.not_mem_nil, or_false] at hi
          subst hi
          · simp only [List.getElem?_toArray, List.getElem?_cons_zero, List.getElem?_cons_succ, Option.some.injEq] at ho; subst ho
            go_simp
            refine (repeat_any n v1.heap.size 1 (-1) _ fB3 (by omega)).mono ?_
            rintro e v4 ⟨⟨GR, rfl, hGR, fC4⟩, hb4⟩
            dsimp only
            have lD3 : v0.heap.size < v3.heap.size := (Array.getElem?_eq_some_iff.1 fD3).1
            have fD4 := (hb4.block _ lD3).trans fD3
            have lB3 : v1.heap.size < v3.heap.size := World.block_lt_of_cell? _ _ fB3
            have fB4 := (hb4.cell (p := ⟨v1.heap.size, 0, none⟩) lB3).trans fB3
            have lA3 : v2.heap.size < v3.heap.size := fA3.lt
            have fA4 := fA3.of_block (hb4.block _ lA3)
            have hB4 : Below w1.heap.size w1 v4 := hB3.trans (hb4.mono (by have := hB3.size; omega))
            have hz4 := hb4.size
            refine hK.out _ _ (hS _ hB4) ?_
            clear hK K'
            try simp only [Act.put, List.setIfInBounds_toArray, List.set_cons_zero, List.set_cons_succ]
            refine takeH (i := 9) (some 20) (v := ?_) rfl (by kernel_rfl) (by kernel_rfl) (by kernel_rfl) (fun _ _ _ h => h) (hS _ hB4) (fun o ho => ?_) ?_
            rotate_left
            · simp only [List.getElem?_toArray, List.getElem?_cons_zero, List.getElem?_cons_succ, Option.some.injEq] at ho; subst ho; refine Or.inl ⟨by rfl, fun w' hSw => ?_⟩; (try dsimp only at hSw); go_simp; try with_reducible rfl
            simp only [Act.put, List.setIfInBounds_toArray, List.set_cons_zero, List.set_cons_succ]
            refine wpAnyH_done (by kernel_rfl) ?_ _
            refine lastH (by decide) (fun o ho K' hK => ?_)
            simp only [List.getElem?_toArray, List.getElem?_cons_zero, List.getElem?_cons_succ, Option.some.injEq] at ho; subst ho
            obtain ⟨z0, z1, z2, zf0, zf1, zf2⟩ := nest_cells fD4
            go_simp
            refine hK.out _ _ ?_
            clear hK K'
            exact NsR.leaf (N15 := v1.heap.size) fA4 fC4 fD4 hB4 (by simp only [Act.put, List.setIfInBounds_toArray, List.set_cons_zero, List.set_cons_succ]) (by omega) (by omega) (by omega) (by omega) (by omega) (by omega)
        · simp only [List.getElem?_toArray, List.getElem?_cons_zero, List.getElem?_cons_succ, Option.some.injEq] at ho; subst ho
          go_simp
          refine (repeat_any n v1.heap.size 1 (-1) _ fB2 (by omega)).mono ?_
          rintro e v3 ⟨⟨GR, rfl, hGR, fC3⟩, hb3⟩
          dsimp only
          have lD2 : v0.heap.size < v2.heap.size := (Array.getElem?_eq_some_iff.1 fD2).1
          have fD3 := (hb3.block _ lD2).trans fD2
          have lB2 : v1.heap.size < v2.heap.size := World.block_lt_of_cell? _ _ fB2
          have fB3 := (hb3.cell (p := ⟨v1.heap.size, 0, none⟩) lB2).trans fB2
          have hB3 : Below w1.heap.size w1 v3 := hB2.trans (hb3.mono (by have := hB2.size; omega))
          have hz3 := hb3.size
          refine hK.out _ _ (hS _ hB3) ?_
          clear hK K'
          try simp only [Act.put, List.setIfInBounds_toArray, List.set_cons_zero, List.set_cons_succ]
          refine manyH (rs := [3]) (by kernel_rfl) (by simp) (fun i hi o ho K' hK => ?_)
          simp only [List.mem_cons, List.not_mem_nil, or_false] at hi
          subst hi
          · simp only [List.getElem?_toArray, List.getElem?_cons_zero, List.getElem?_cons_succ, Option.some.injEq] at ho; subst ho
            go_simp
            obtain ⟨v4, hw4⟩ : ∃ v, v3.alloc (.cells (madeCells #[.bool false] n) 4) = v := ⟨_, rfl⟩
            have hb4 : Below v3.heap.size v3 v4 := by rw [← hw4]; exact (Below.refl _ _).alloc (Nat.le_refl _) _
            have fA4 : v4.rowIs v3.heap.size 4 n (fun _ => .bool false) := by rw [← hw4]; exact World.rowIs_made _ (.bool false) n 4
            rw [hw4]
            have lD3 : v0.heap.size < v3.heap.size := (Array.getElem?_eq_some_iff.1 fD3).1
            have fD4 := (hb4.block _ lD3).trans fD3
            have lB3 : v1.heap.size < v3.heap.size := World.block_lt_of_cell? _ _ fB3
            have fB4 := (hb4.cell (p := ⟨v1.heap.size, 0, none⟩) lB3).trans fB3
            have lC3 : GR < v3.heap.size := fC3.lt
            have fC4 := fC3.of_block (hb4.block _ lC3)
            have hB4 : Below w1.heap.size w1 v4 := hB3.trans (hb4.mono (by have := hB3.size; omega))
            have hz4 := hb4.size
            refine hK.out _ _ (hS _ hB4) ?_
            clear hK K'
            try simp only [Act.put, List.setIfInBounds_toArray, List.set_cons_zero, List.set_cons_succ]
            refine takeH (i := 9) (some 20) (v := ?_) rfl (by kernel_rfl) (by kernel_rfl) (by kernel_rfl) (fun _ _ _ h => h) (hS _ hB4) (fun o ho => ?_) ?_
            rotate_left
            · simp only [List.getElem?_toArray, List.getElem?_cons_zero, List.getElem?_cons_succ, Option.some.injEq] at ho; subst ho; refine Or.inl ⟨by rfl, fun w' hSw => ?_⟩; (try dsimp only at hSw); go_simp; try with_reducible rfl
            simp only [Act.put, List.setIfInBounds_toArray, List.set_cons_zero, List.set_cons_succ]
            refine wpAnyH_done (by kernel_rfl) ?_ _
            refine lastH (by decide) (fun o ho K' hK => ?_)
            simp only [List.getElem?_toArray, List.getElem?_cons_zero, List.getElem?_cons_succ, Option.some.injEq] at ho; subst ho
            obtain ⟨z0, z1, z2, zf0, zf1, zf2⟩ := nest_cells fD4
            go_simp
            refine hK.out _ _ ?_
            clear hK K'
            exact NsR.leaf (N15 := v1.heap.size) fA4 fC4 fD4 hB4 (by simp only [Act.put, List.setIfInBounds_toArray, List.set_cons_zero, List.set_cons_succ]) (by omega) (by omega) (by omega) (by omega) (by omega) (by omega)
  case rest =>
    rintro a' w2 ⟨GA, GR, N3, N15, rfl, fA, fR, fN, hb2, q1, q2, q3, q4, q5, q6⟩
    obtain ⟨i0, hi, hz0, hz1, hz2⟩ := info_parts Try.info3
    have HI := Lib.hid (And.intro hi (And.intro hz0 (And.intro hz1 hz2)))
    clear hi hz0 hz1 hz2 hmkb
    simp only [Act.put, List.setIfInBounds_toArray, List.set_cons_zero, List.set_cons_succ]
    have hz2 := hb2.size
    have b1 : ∀ i u, #[Value.slice Ao ln co, .slice (some ⟨Gn, 0, none⟩) n n, .slice (some ⟨Ga, 0, none⟩) n n, .slice (some ⟨G1, 0, none⟩) n n, .slice A2 n c2][i]? = some u → w2.cell? ⟨w.heap.size, i, none⟩ = some u := fun i u hu => (hb2.cell (p := ⟨w.heap.size, i, none⟩) (by show w.heap.size < w1.heap.size; omega)).trans (b0 i u hu)
    have c2' : w2.cell? ⟨w.heap.size, 2, none⟩ = some (.slice (some ⟨Ga, 0, none⟩) n n) := b1 2 _ rfl
    have e2' : w2.heap[w.heap.size + 1]? = some (.cells #[.slice none 0 0, .slice none 0 0, .slice none 0 0] 73) := (hb2.block _ (by omega)).trans e2
    have HB2 : Hid (Below w.heap.size w w2) := Lib.hid (hbel1.trans (hb2.mono (by omega)))
    have lN := (Array.getElem?_eq_some_iff.1 fN).1
    have lA := fA.lt
    have lR := fR.lt
    have FN := Lib.hid fN
    have B1 := Lib.hid b1
    have E2 := Lib.hid e2'
    have FA := Lib.hid fA
    have FR := Lib.hid fR
    clear b0 e2 hbel1 hb2 fN b1 e2' fA fR
    go_wp2_with fail
    clear c2'
    go_loopw [24] (fun s wr => ∃ (k : Nat) (vu : Value), k ≤ n ∧ s = .int .i64 (k : Int) ∧ wr.heap[N3]? = some (.cells #[.slice (some ⟨GA, 0, none⟩) n n, .slice (some ⟨GR, 0, none⟩) n n, vu] 73) ∧ wr.ownsRow w2.heap.size 3 1 vu k ((List.range k).map fun x : Nat => Value.int .i64 (x : Int)) ∧ FrX (fun b => b = N3) w2 wr) (fun s _ => n - (intOf s).toNat)
    case atStart => exact ⟨0, _, Nat.zero_le _, rfl, FN.out, World.ownsRow_nil _ _ _ _, FrX.refl _ _⟩
    case round =>
      obtain ⟨k, vu, hk, rfl, hbx, hown, hfr⟩ := hrel
      have HF := Lib.hid hfr
      have HO := Lib.hid hown
      have HBX := Lib.hid hbx
      by_cases hkn : k < n
      · have cu : wr.cell? ⟨N3, 2, none⟩ = some vu := by simp [World.cell?, hbx]
        have hz := hfr.size
        have hnN : vu.ownBlock ≠ some N3 := fun e => by have := (hown.lt N3 e).1; omega
        have HNN := Lib.hid hnN
        clear hfr hown hbx hnN
        go_wp2_with (at_builtin; refine wpList_append_lies _ rfl (.tmp 28) (.tmp 30) 22 rfl w2.heap.size 3 i0 (.int .i64 0) 1 8 Try.underlying22 HI.out.1 HI.out.2.1 HI.out.2.2.1 HI.out.2.2.2 rfl (by decide) vu _ _ rfl (HO.out.alloc _) ⟨wr.heap.size, 0, none⟩ 1 1 [.int .i64 (k : Int)] rfl rfl ?e1 ?e2 ?e0 ?e3 ?e4 ?e5 (wr.heap.size + 1) ?e6 ?_)
        case e1 => exact news_one_add wr _ _ rfl
        case e2 => exact ints_oneCell .i64 [(k : Int)]
        case e0 => omega
        case e3 => unfold maxLen; omega
        case e4 => omega
        case e5 => simp; omega
        case e6 => simp
        intro g cap wC hownC hgrowC hlocC hltC
        have HGR : Hid (GroD wr wC vu (.slice (some ⟨g, 0, none⟩) (k + 1) cap)) := Lib.hid (groD_append hgrowC hlocC)
        have lN' : N3 < wr.heap.size := by omega
        have hbC : wC.heap[N3]? = some (.cells #[.slice (some ⟨GA, 0, none⟩) n n, .slice (some ⟨GR, 0, none⟩) n n, vu] 73) := (HGR.out.block N3 lN' HNN.out).trans HBX.out
        have cC : wC.cell? ⟨N3, 2, none⟩ = some vu := by simp [World.cell?, hbC]
        have fC : wC.frozen? ⟨N3, 2, none⟩ = false := by simp [World.frozen?, hbC]
        have HBC := Lib.hid hbC
        have HOC := Lib.hid hownC
        clear hgrowC hlocC hownC hbC
        go_wp2_with fail
        go_roundw
        case rel =>
          have hgN : g ≠ N3 := fun e => by have := (HOC.out.lt g rfl).1; omega
          refine ⟨k + 1, _, by omega, by go_num, set_of_block (i := 2) _ HBC.out, ?_, (HGR.out.fr HF.out (fun g' e => .inr (HO.out.lt g' e).1)).setCell (.inl rfl) _⟩
          rw [List.range_succ, List.map_append]
          exact ownsRow_setCell_other HOC.out (a := ⟨N3, 2, none⟩) (fun e => hgN (by injection e)) _
        case measure => simp [intOf]; omega
      · obtain ⟨kq, hkq⟩ : ∃ kq, kq = k := ⟨_, rfl⟩
        have hkn2 : k = n := by omega
        have d0 : wr.cell? ⟨w.heap.size, 0, none⟩ = some (.slice Ao ln co) := (World.cell?_of_block (hfr.block w.heap.size (by omega) (by omega))).trans (B1.out 0 _ rfl)
        rw [hkn2] at hown
        obtain ⟨Au, cu, rfl, hAu⟩ := rowG_of_own hown (f := fun x : Nat => .int .i64 (x : Int)) (fun i hi => by simp [hi])
        have HAU := Lib.hid hAu
        have hzr := hfr.size
        subst hkn2
        clear hfr hown hbx hAu HO hkq kq
        go_wp2_with fail
        -- slices.Backward
        refine (backward_in Ao ln co _).mono ?_
        rintro e w3 ⟨rfl, rfl⟩
        go_wp2_with fail
        obtain ⟨BB, hBB⟩ : ∃ BB, wr.heap.size = BB := ⟨_, rfl⟩
        obtain ⟨WL, hWL⟩ : ∃ WL, wr.alloc (.cells #[.slice Ao ln co] 22) = WL := ⟨_, rfl⟩
        have hbL : Below BB wr WL := by rw [← hWL, ← hBB]; exact (Below.refl _ _).alloc (Nat.le_refl _) _
        have hszL : WL.heap.size = BB + 1 := by rw [← hWL, ← hBB]; simp
        have cB : WL.cell? ⟨BB, 0, none⟩ = some (.slice Ao ln co) := by rw [← hWL, ← hBB]; simp [go_sem]
        have hwL : Below w2.heap.size w2 WL ∨ True := .inr trivial
        have hFL : FrX (fun b => b = N3) w2 WL := HF.out.trans (FrX.of_below (by rw [hBB]; exact hbL))
        have hNs : NsI WL k N3 GA GR w2.heap.size Au cu (fun _ => false) (fun _ => -1) (fun x => x) := by
          refine ⟨(hbL.block _ (by omega)).trans HBX.out, FA.out.of_block (hFL.block GA lA q5), FR.out.of_block (hFL.block GR lR q6), fun hp => ?_, q4, q5, q6⟩
          obtain ⟨g, h1, h2, h3⟩ := HAU.out hp
          exact ⟨g, h1, h2, by omega, by omega, by omega, h3.of_block (hbL.block g (by have := h3.lt; omega))⟩
        have hBL : Below w.heap.size w WL := HB2.out.trans (hFL.below (by omega) (fun b hb => by have : b = N3 := hb; omega))
        have hbox : ∀ i u, #[Value.slice Ao ln co, .slice (some ⟨Gn, 0, none⟩) k k, .slice (some ⟨Ga, 0, none⟩) k k, .slice (some ⟨G1, 0, none⟩) k k, .slice A2 k c2][i]? = some u → WL.cell? ⟨w.heap.size, i, none⟩ = some u := fun i u hu => (World.cell?_of_block (hFL.block w.heap.size (by omega) (by omega))).trans (B1.out i u hu)
        have hres : WL.heap[w.heap.size + 1]? = some (.cells #[.slice none 0 0, .slice none 0 0, .slice none 0 0] 73) := (hFL.block _ (by omega) (by omega)).trans E2.out
        have hgB : ∀ g, Au = some ⟨g, 0, none⟩ → 0 < k → g < BB := fun g e hp => by
          obtain ⟨g', h1, h2, h3⟩ := HAU.out hp
          rw [h1] at e; injection e with e; injection e with e
          have := h3.lt; omega
        have HGB := Lib.hid hgB
        clear hgB
        rw [hWL, hBB]
        have HNS := Lib.hid hNs
        have HBL := Lib.hid hBL
        have HBOX := Lib.hid hbox
        have HRES := Lib.hid hres
        have hsz2 : w2.heap.size ≤ BB := by omega
        have hw2 : w.heap.size + 1 < w2.heap.size ∧ w.heap.size + 1 < GA ∧ w.heap.size + 1 < GR ∧ w.heap.size + 1 < N3 := ⟨by omega, by omega, by omega, by omega⟩
        clear hNs hBL hbox hres hFL hbL hWL HF HBX HAU FN FA FR B1 E2 hwL d0 hz2 hzr hs1 q1 q2 q3 hBB
        have hzl : (zs (orderF bs)).length = ln := by rw [← HLN.out]; simp [zs]
        obtain ⟨F, hF⟩ : ∃ F : Nat → Nat, ∀ k, F k = (orderF bs)[ln - 1 - k]?.getD 0 := ⟨_, fun _ => rfl⟩
        have hen : backE (zs (orderF bs)) = fun k => #[.int .i64 ((ln : Int) - 1 - (k : Int)), .int .i64 (F k : Int)] := by
          funext k
          unfold backE
          rw [hzl, hF]
          congr 3
          simp only [zs, List.getElem?_map]
          cases (orderF bs)[ln - 1 - k]? <;> simp
        have hseq : SeqN Try.prog 70 #[.pointer (some ⟨BB, 0, none⟩)] (fun k => #[.int .i64 ((ln : Int) - 1 - (k : Int)), .int .i64 (F k : Int)]) (fun b => b = BB ∨ b < w.heap.size) ln WL := by
          have h := backward_stops BB co (fun b => b = BB ∨ b < w.heap.size) Ao (zs (orderF bs)) (by rw [hzl, ← HLN.out]; have := orderF_len bs; have := HNB.out; omega) WL (fun k hk => by omega)
            (by rw [hzl]; exact cB) (SInts.keep (kept_of_below HBL.out) HW.out.ord) (.inl rfl) (fun b off e hp => by
              obtain ⟨b', o', e', hcs⟩ := HW.out.ord.2.2 hp
              rw [e] at e'
              injection e' with e'
              injection e' with e1 e2
              have h1 := (hcs 0 _ (List.getElem?_eq_getElem hp)).1
              exact .inr (by rw [e1]; exact World.block_lt_of_cell? w _ h1))
          rw [hzl, hen] at h
          exact h
        clear hen hzl cB
        have HF := Lib.hid hF
        clear hF
        refine rangeN (gf := 70) (lb := #[.pointer (some ⟨BB, 0, none⟩)]) rfl (enters_of Try.func70 (by kernel_rfl) rfl) hseq (fun k hk => by omega) (fun _ => rfl)
          (NsL bs WL k ln N3 GA GR w2.heap.size Au cu) ?apart ?start ?a1 ?assign ?body ?done
        case apart =>
          rintro j W l o' ⟨hd, ar, up, h1, h2, h3⟩ hl ⟨o, ho, hc⟩
          exact ⟨hd, ar, up, h1.grown (grownBy_putObj' W l o') (fun j e => by cases e; exact .inr hl), h2.put o' ho hc, h3⟩
        case start =>
          intro W hW
          refine ⟨_, _, _, FrX.of_below hW, HNS.out.go hW, ⟨fun x hx => .inl ⟨rfl, fun g hg => ?_⟩⟩, fun b hb => .inl ⟨rfl, fun g hg => ?_⟩, fun b hb => ?_⟩
          · rw [Nat.sub_zero, ← HLN.out, List.drop_length] at hg; simp at hg
          · rw [Nat.sub_zero, ← HLN.out, List.drop_length] at hg; simp at hg
          · rw [Nat.sub_zero, ← HLN.out, List.drop_length]; simp
        case assign =>
          intro l j W K hK
          gi_wp2
          exact hK
        case body =>
          rintro l j W ⟨hd, ar, up, hfx, hns, hU, hA, hH⟩ hj
          clear hseq
          obtain ⟨h, hh⟩ : ∃ h, F j = h := ⟨_, rfl⟩
          rw [hh]
          have hOb : (orderF bs)[ln - 1 - j]? = some h := by
            have h1 := HF.out j
            rw [hh] at h1
            rw [h1, List.getElem?_eq_getElem (by rw [HLN.out]; omega)]; simp
          have hdrop : (orderF bs).drop (ln - (j + 1)) = h :: (orderF bs).drop (ln - j) := by
            have h1 := List.drop_eq_getElem_cons (l := orderF bs) (i := ln - (j + 1)) (by rw [HLN.out]; omega)
            rw [h1, show ln - (j + 1) + 1 = ln - j by omega]
            congr 1
            have h2 := (List.getElem?_eq_some_iff.1 hOb).2
            rw [← h2]; congr 1; omega
          have hhn : h < k := by rw [← HNB.out]; exact reachF_lt (orderF_mem.1 (List.mem_iff_getElem?.2 ⟨_, hOb⟩))
          obtain ⟨S, hS⟩ : ∃ S, (orderF bs).drop (ln - j) = S := ⟨_, rfl⟩
          have hNew : NewH bs S h := new_head HN.out (pre := (orderF bs).take (ln - (j + 1))) (by rw [← hS, ← hdrop, List.take_append_drop])
          rw [hS] at hU hA hH hdrop
          have hp : 0 < k := by omega
          obtain ⟨gu, rfl, u1, u2, u3, u4, -⟩ := hns.rU hp
          have hkW : Below w.heap.size w W := HBL.out.trans (hfx.below (by omega) (fun b hb => by
            rcases hb with hb | hb | ⟨-, hb⟩
            · omega
            · omega
            · have : gu = b := by injection hb with hb; injection hb
              omega))
          have hx : ∀ i, i ≠ GA → i ≠ GR → i ≠ gu → ¬ (i = GA ∨ i = GR ∨ (0 < k ∧ some (⟨gu, 0, none⟩ : Addr) = some ⟨i, 0, none⟩)) := fun i e1 e2 e3 hb => by
            rcases hb with hb | hb | ⟨-, hb⟩
            · exact e1 hb
            · exact e2 hb
            · exact e3 (by injection hb with hb; injection hb with hb; exact hb.symm)
          have hboxW : ∀ i u, #[Value.slice Ao ln co, .slice (some ⟨Gn, 0, none⟩) k k, .slice (some ⟨Ga, 0, none⟩) k k, .slice (some ⟨G1, 0, none⟩) k k, .slice A2 k c2][i]? = some u → W.cell? ⟨w.heap.size, i, none⟩ = some u := fun i u hu => (World.cell?_of_block (hfx.block w.heap.size (by omega) (hx _ (by omega) (by omega) (by omega)))).trans (HBOX.out i u hu)
          have hWy := HW.out.keep (kept_of_below hkW)
          obtain ⟨bg, og, lz, hbo, hl, hcs⟩ := hWy.ahd.at_ (k := h) (by simp; rw [HNB.out]; exact hhn)
          simp only [Option.some.injEq, Addr.mk.injEq, and_true] at hbo
          obtain ⟨rfl, rfl⟩ := hbo
          have hlz : lz = zs (raL bs bs.length h) := (map_range_at _ hl.out).1
          subst hlz
          obtain ⟨A3, c3, hcA, hslA⟩ := hcs
          obtain ⟨m, hm⟩ : ∃ m, (raL bs bs.length h).length = m := ⟨_, rfl⟩
          rw [Nat.mul_one, Nat.zero_add, zs_len, hm] at hcA
          have hmn : m ≤ 1000 := by rw [← hm]; have := ra_len bs h; have := HNB.out; omega
          have cx2 := hboxW 2 _ rfl
          have HX := Lib.hid hx
          have HFX := Lib.hid hfx
          have HNS2 := Lib.hid hns
          have HMU := Lib.hid (And.intro hU (And.intro hA hH))
          have HDR := Lib.hid (And.intro hOb (And.intro hdrop (And.intro hS hNew)))
          have HKW := Lib.hid hkW
          have HBW := Lib.hid hboxW
          have HWY := Lib.hid hWy
          have HSA := Lib.hid hslA
          have HM := Lib.hid hm
          clear hfx hns hU hA hH hOb hdrop hS hNew hkW hboxW hWy hslA hl hm hx
          gi_wp2
          clear cx2 hcA
          have hlW : w.heap.size < W.heap.size := by have := HFX.out.size; omega
          gi_loopw [7, 45] (fun s7 s45 wr => ∃ (i : Nat) (vo : Value), i ≤ m ∧ s45 = .int .i64 (i : Int) ∧ s7 = vo ∧ wr.ownsRow W.heap.size 3 1 vo (opl bs h i).length ((opl bs h i).map fun y : Nat => Value.int .i64 (y : Int)) ∧ Below W.heap.size W wr) (fun _ s45 _ => m - (intOf s45).toNat)
          case atStart => exact ⟨0, _, Nat.zero_le _, rfl, rfl, World.ownsRow_nil _ _ _ _, Below.refl _ _⟩
          case round =>
            obtain ⟨i, vo, hi, rfl, rfl, hown, hbr⟩ := hrel
            have HOW := Lib.hid hown
            have HBR := Lib.hid hbr
            by_cases him : i < m
            · obtain ⟨bt, ot, x, rfl, hx, hxc, -⟩ := (SInts.keep (kept_of_below hbr) HSA.out).int (k := i) (by rw [zs_len, HM.out]; exact him)
              obtain ⟨t, ht, rfl⟩ := zs_at hx.out
              have htn : t < bs.length := (raL_lt (List.mem_of_getElem? ht)).1
              have hopl : (opl bs h i).length ≤ 1000 := by have := opl_len bs h i; have := HNB.out; omega
              have x0 := (hbr.cell (p := ⟨w.heap.size, 0, none⟩) hlW).trans (HBW.out 0 _ rfl)
              have x1 := (hbr.cell (p := ⟨w.heap.size, 1, none⟩) hlW).trans (HBW.out 1 _ rfl)
              have x2 := (hbr.cell (p := ⟨w.heap.size, 2, none⟩) hlW).trans (HBW.out 2 _ rfl)
              have x3 := (hbr.cell (p := ⟨w.heap.size, 3, none⟩) hlW).trans (HBW.out 3 _ rfl)
              have x4 := (hbr.cell (p := ⟨w.heap.size, 4, none⟩) hlW).trans (HBW.out 4 _ rfl)
              have hdo := dominates_any bs nm en Ao co Gn Ga G1 A2 c2 wr (HWY.out.keep (kept_of_below hbr)) h t (by rw [HNB.out]; exact hhn) htn
              unfold wyV at hdo
              rw [HNB.out, HLN.out] at hdo
              have HDO := Lib.hid hdo
              have HT := Lib.hid ht
              clear hdo ht hx hown hbr
              cases hd1 : dmB bs h t
              · rw [hd1] at HDO
                gi_wp2_with (refine ⟨trivial, ?_⟩; gi_at_call 34; refine (CallsIn.inRound l (callsIn_wide.2 HDO.out)).mono ?_; rintro e w5 ⟨rfl, hb5⟩)
                go_roundw
                case rel => exact ⟨i + 1, _, by omega, by go_num, rfl, by rw [opl_succ HT.out, hd1]; simpa using ownsRow_block HOW.out (fun g hg => hb5.block g (HOW.out.lt g hg).2), HBR.out.trans (hb5.mono HBR.out.size)⟩
                case measure => simp [intOf]; omega
              · rw [hd1] at HDO
                gi_wp2_with (first | (refine ⟨trivial, ?_⟩; gi_at_call 34; refine (CallsIn.inRound l (callsIn_wide.2 HDO.out)).mono ?_; rintro e w5 ⟨rfl, hb5⟩) |
                  (gi_at_builtin; refine round_append rfl (.tmp 53) (.tmp 55) 22 rfl 3 i0 (.int .i64 0) 8 Try.underlying22 HI.out rfl W.heap.size _ _ _ rfl ((show w5.ownsRow _ _ _ _ _ _ from ownsRow_block HOW.out (fun g hg => hb5.block g (HOW.out.lt g hg).2)).alloc _) ⟨w5.heap.size, 0, none⟩ 1 1 [.int .i64 (t : Int)] rfl rfl ?e1 ?e2 (by decide) ?e3 ?e4 ?e5 (w5.heap.size + 1) ?e6 ?_))
                case e1 => exact news_one_add w5 _ _ rfl
                case e2 => exact ints_oneCell .i64 [(t : Int)]
                case e3 => unfold maxLen; omega
                case e4 => omega
                case e5 => have := HBR.out.size; have := hb5.size; simp; omega
                case e6 => simp
                intro g cap w6 hown6 hgrow6 hloc6 hlt6
                have hb6 : Below W.heap.size W w6 := by
                  have h1 := HBR.out.trans (hb5.mono HBR.out.size)
                  exact (h1.alloc h1.size _).grown hgrow6 (by have := h1.size; simp; omega) (fun g' hg' => (HOW.out.lt g' hg').1)
                have HB6 := Lib.hid hb6
                have HO6 := Lib.hid hown6
                clear hown6 hgrow6 hloc6 hlt6 hb6
                gi_wp2
                go_roundw
                case rel =>
                  refine ⟨i + 1, _, by omega, by go_num, rfl, ?_, HB6.out⟩
                  have h2 : opl bs h (i + 1) = opl bs h i ++ [t] := by rw [opl_succ HT.out, hd1]; rfl
                  rw [h2]; simpa using HO6.out
                case measure => simp [intOf]; omega
            · obtain ⟨i2, hi2⟩ : ∃ i2, i2 = i := ⟨_, rfl⟩
              have him2 : i = m := by omega
              subst him2
              clear hi2 i2
              obtain ⟨q0, hq0⟩ : ∃ q0, (opl bs h i).length = q0 := ⟨_, rfl⟩
              have hq0n : q0 ≤ k := by rw [← hq0, ← HNB.out]; exact opl_len bs h i
              have hsl := own_sliceL hown
              rw [hq0] at hsl
              obtain ⟨Av, cv, rfl⟩ := hsl
              have hn5 := HNS2.out.go hbr
              have y0 : wr.cell? ⟨N3, 0, none⟩ = some (.slice (some ⟨GA, 0, none⟩) k k) := by simp [World.cell?, hn5.box]
              have y1 := hn5.rA.cell hhn
              have y2 := hn5.rA.frozen h
              have hhd : decide (0 < q0) = hdB bs h := by rw [← hq0]; exact opl_hd bs h (by rw [HM.out]; exact Nat.le_refl _)
              obtain ⟨W5, hW5⟩ : ∃ W5, wr.setCell ⟨GA, h, none⟩ (.bool (decide (0 < q0))) = W5 := ⟨_, rfl⟩
              have hN5 := hn5.setA h (decide (0 < q0))
              rw [hW5, hhd] at hN5
              have hf5 : FrX (fun b => b = GA ∨ b = GR ∨ b = gu) W W5 := by rw [← hW5]; exact (FrX.of_below hbr).setCell (.inl (.inl rfl)) _
              have ho5 : W5.ownsRow W.heap.size 3 1 (.slice Av q0 cv) (opl bs h i).length ((opl bs h i).map fun y : Nat => Value.int .i64 (y : Int)) := by
                rw [← hW5]; exact ownsRow_setCell_other hown (a := ⟨GA, h, none⟩) (fun e => by have := (hown.lt GA e).1; have := HNS2.out.lts; omega) _
              have HN5 := Lib.hid hN5
              have HF5 := Lib.hid hf5
              have HO5 := Lib.hid ho5
              have HQ0 := Lib.hid hq0
              clear hq0 hn5 hN5 hf5 ho5 hown hbr hhd
              gi_wp2_with (rw [hW5])
              clear y0 y1 y2
              have hdl0 := HDR.out.2.2.2
              gi_loopw [7] (fun s7 wq => ∃ (op dl : List Nat) (ar' : Nat → Int) (up' : Nat → Nat), wq.ownsRow W.heap.size 3 1 s7 op.length (op.map fun y : Nat => Value.int .i64 (y : Int)) ∧ NsI wq k N3 GA GR w2.heap.size (some ⟨gu, 0, none⟩) cu (fun y => if y = h then hdB bs h else hd y) ar' up' ∧
                FrX (fun b => b = GA ∨ b = GR ∨ b = gu) W wq ∧ UpM bs S h dl up' ∧ ArM bs S h dl ar' ∧ CoM bs S h dl op ∧ op.length ≤ k + dl.length * k) (fun s7 wq => slLen s7 + (k + 1) * cntN h GR k wq)
              case atStart =>
                refine ⟨opl bs h i, [], ar, up, HO5.out, HN5.out, HF5.out, HMU.out.1.start h, ArM.start HMU.out.2.1 h, ?_, by rw [HQ0.out]; simpa using hq0n⟩
                rw [opl_all bs h (by rw [HM.out]; exact Nat.le_refl _)]; exact CoM.start bs S h
              case round =>
                obtain ⟨wq, rfl⟩ : ∃ wq, wq = wr := ⟨wr, rfl⟩
                obtain ⟨op, dl, ar', up', hown, hns, hfr, hU, hA, hC, hln⟩ := hrel
                have hdlk : dl.length ≤ k := by
                  have := List.Nodup.length_le_of_subset hU.nd (l₂ := List.range k) (fun r hr => List.mem_range.2 (by rw [← HNB.out]; exact lp_lt HN.out (hU.inn r hr).2.1))
                  simpa using this
                have hln2 : op.length ≤ 1001000 := by
                  have h1 : dl.length * k ≤ 1000 * 1000 := Nat.mul_le_mul (by omega) (by omega)
                  omega
                have HNQ := Lib.hid hns
                have HFQ := Lib.hid hfr
                have HMQ := Lib.hid (And.intro hU (And.intro hA (And.intro hC hln)))
                rcases List.eq_nil_or_concat op with rfl | ⟨op0, x, rfl⟩
                · -- nothing lies open
                  clear hns hfr hU hA hC hln
                  obtain ⟨Aq, cq, rfl⟩ := own_sliceL hown
                  clear hown
                  gi_wp2
                  have hguB := HGB.out gu rfl hp
                  have hBW : BB < W.heap.size := by have := HFX.out.size; omega
                  obtain ⟨hU, hA, hC, -⟩ := HMQ.out
                  refine ⟨⟨HFQ.out.size, fun i o hB hi2 _ => (HFQ.out.block i (Array.getElem?_eq_some_iff.1 hi2).1 (by omega)).trans hi2⟩, fun i hi2 => HFQ.out.block i (by omega) (by omega), _, _, _, HFX.out.trans (HFQ.out.mono fun i _ hi2 => ?_), HNQ.out, ?_, ?_, ?_⟩
                  · rcases hi2 with hi2 | hi2 | hi2
                    · exact .inl hi2
                    · exact .inr (.inl hi2)
                    · exact .inr (.inr ⟨hp, by rw [hi2]⟩)
                  · rw [HDR.out.2.1]; exact hU.done HN.out hC
                  · rw [HDR.out.2.1]; exact hA.done HN.out hU hC HDR.out.2.2.2
                  · intro b hb
                    rw [HDR.out.2.1]
                    by_cases e : b = h
                    · rw [if_pos e, e]; simp
                    · rw [if_neg e, HMU.out.2.2 b hb]; simp [e]
                · rw [List.concat_eq_append] at hown HMQ hln2
                  obtain ⟨g7, cap7, rfl, hg7, cx, hcap, hcm, hrun, hown0⟩ := own_popI hown
                  have hxk : x < k := by rw [← HNB.out]; exact lp_lt HN.out (hC.opn x (by simp))
                  have hrg := hns.row hp
                  have hcutl := outmost_any k GA GR gu cu x up' ord wq.drew hn2 hxk (hrg.2.2.2.2.of_block rfl) (fun z hz hz2 => by
                    have h1 := hU.rank HN.out (x := z) (by rw [HNB.out]; exact hz) hz2
                    rw [HNB.out] at h1; exact h1)
                  have HOMT := Lib.hid hcutl
                  have z0 : wq.cell? ⟨N3, 0, none⟩ = some (.slice (some ⟨GA, 0, none⟩) k k) := by simp [World.cell?, hns.box]
                  have z1 : wq.cell? ⟨N3, 1, none⟩ = some (.slice (some ⟨GR, 0, none⟩) k k) := by simp [World.cell?, hns.box]
                  have z2 : wq.cell? ⟨N3, 2, none⟩ = some (.slice (some ⟨gu, 0, none⟩) k cu) := by simp [World.cell?, hns.box]
                  have hg7w : g7 < wq.heap.size := (hown0.lt g7 rfl).2
                  have hguW : gu < W.heap.size := by have := HGB.out gu rfl hp; have := HFX.out.size; omega
                  have hlts := hns.lts
                  have HOW0 := Lib.hid hown0
                  clear hns hfr hU hA hC hln hcutl hown hown0 hrg
                  obtain ⟨p0, hp0⟩ : ∃ p0, op0.length = p0 := ⟨_, rfl⟩
                  rw [hp0] at cx hcap hrun HOW0 ⊢
                  have hp02 : p0 ≤ 1001000 := by simp at hln2; omega
                  have HP0 := Lib.hid hp0
                  clear hp0 hln2
                  gi_wp2
                  have hS0 : wq.drew.cell? ⟨N3, 0, none⟩ = some (.slice (some ⟨GA, 0, none⟩) k k) ∧ wq.drew.cell? ⟨N3, 1, none⟩ = some (.slice (some ⟨GR, 0, none⟩) k k) ∧ wq.drew.cell? ⟨N3, 2, none⟩ = some (.slice (some ⟨gu, 0, none⟩) k cu) ∧ wq.drew.cell? ⟨g7, p0, none⟩ = some (.int .i64 (x : Int)) := ⟨z0, z1, z2, cx⟩
                  clear z0 z1 z2 cx
                  have ew2 : (p0 : Int) < (p0 : Int) + 1 := by omega
                  have ew : IntKind.i64.wrap (p0 : Int) = (p0 : Int) := Go.IntWalk.i64_in _ (by omega)
                  refine wpIn_named (fun a a' w' => ∃ (y : Nat) (up'' : Nat → Nat), a' = ((((((((a.put (some 68) (.agg #[.slice (some ⟨GA, 0, none⟩) k k, .slice (some ⟨GR, 0, none⟩) k k, .slice (some ⟨gu, 0, none⟩) k cu])).put (some 69) (.slice (some ⟨g7, 0, none⟩) (p0 + 1) cap7)).put (some 70) (.slice (some ⟨g7, 0, none⟩) (p0 + 1) cap7)).put (some 71) (.int .i64 ((p0 : Int) + 1))).put (some 72) (.int .i64 (p0 : Int))).put (some 73) (.pointer (some ⟨g7, p0, none⟩))).put (some 74) (.int .i64 (x : Int))).put (some 75) (.int .i64 (y : Int))).put (some 10) (.int .i64 (y : Int)) ∧
                    UpR up' x y ∧ y < k ∧ (∀ z, z < k → up'' z = up' z ∨ (up'' z = y ∧ UpR up' z y)) ∧ RowG w' gu 3 k (fun z => .int .i64 (up'' z : Int)) ∧ FrX (fun b => b = gu) wq.drew w') ?reg18 ?rest18
                  case reg18 =>
                    refine wpIn_round_last (L := 8) (S := fun w' : World => w'.cell? ⟨N3, 0, none⟩ = some (.slice (some ⟨GA, 0, none⟩) k k) ∧ w'.cell? ⟨N3, 1, none⟩ = some (.slice (some ⟨GR, 0, none⟩) k k) ∧ w'.cell? ⟨N3, 2, none⟩ = some (.slice (some ⟨gu, 0, none⟩) k cu) ∧ w'.cell? ⟨g7, p0, none⟩ = some (.int .i64 (x : Int))) (by kernel_rfl) (by rfl) (by kernel_rfl) onlyN_lets (by kernel_rfl) (by kernel_rfl) ?_
                    change wpAnyH _ _ _ _ _ _ _ _ (World.drew _)
                    refine takeH (i := 0) (some 68) (v := ?_) rfl (by kernel_rfl) (by kernel_rfl) (by kernel_rfl) (fun _ _ _ h => h) hS0 (fun o ho => ?_) ?_
                    rotate_left
                    · simp only [List.getElem?_toArray, List.getElem?_cons_zero, Option.some.injEq] at ho; subst ho; refine Or.inl ⟨by rfl, fun w' hSw => ?_⟩; (try dsimp only at hSw); go_simp; try with_reducible rfl
                    simp only [Act.put, List.setIfInBounds_toArray, List.set_cons_zero, List.set_cons_succ]
                    refine takeH (i := 1) (some 69) (v := ?_) rfl (by kernel_rfl) (by kernel_rfl) (by kernel_rfl) (fun _ _ _ h => h) hS0 (fun o ho => ?_) ?_
                    rotate_left
                    · simp only [List.getElem?_toArray, List.getElem?_cons_zero, List.getElem?_cons_succ, Option.some.injEq] at ho; subst ho; refine Or.inl ⟨by rfl, fun w' hSw => ?_⟩; (try dsimp only at hSw); go_simp; try with_reducible rfl
                    simp only [Act.put, List.setIfInBounds_toArray, List.set_cons_zero, List.set_cons_succ]
                    refine takeH (i := 2) (some 70) (v := ?_) rfl (by kernel_rfl) (by kernel_rfl) (by kernel_rfl) (fun _ _ _ h => h) hS0 (fun o ho => ?_) ?_
                    rotate_left
                    · simp only [List.getElem?_toArray, List.getElem?_cons_zero, List.getElem?_cons_succ, Option.some.injEq] at ho; subst ho; refine Or.inl ⟨by rfl, fun w' hSw => ?_⟩; (try dsimp only at hSw); go_simp; try with_reducible rfl
                    simp only [Act.put, List.setIfInBounds_toArray, List.set_cons_zero, List.set_cons_succ]
                    refine takeH (i := 3) (some 71) (v := ?_) rfl (by kernel_rfl) (by kernel_rfl) (by kernel_rfl) (fun _ _ _ h => h) hS0 (fun o ho => ?_) ?_
                    rotate_left
                    · simp only [List.getElem?_toArray, List.getElem?_cons_zero, List.getElem?_cons_succ, Option.some.injEq] at ho; subst ho; refine Or.inl ⟨by rfl, fun w' hSw => ?_⟩; (try dsimp only at hSw); go_simp; try with_reducible rfl
                    simp only [Act.put, List.setIfInBounds_toArray, List.set_cons_zero, List.set_cons_succ]
                    refine takeH (i := 4) (some 72) (v := ?_) rfl (by kernel_rfl) (by kernel_rfl) (by kernel_rfl) (fun _ _ _ h => h) hS0 (fun o ho => ?_) ?_
                    rotate_left
                    · simp only [List.getElem?_toArray, List.getElem?_cons_zero, List.getElem?_cons_succ, Option.some.injEq] at ho; subst ho; refine Or.inl ⟨by rfl, fun w' hSw => ?_⟩; (try dsimp only at hSw); go_simp; try with_reducible rfl
                    simp only [Act.put, List.setIfInBounds_toArray, List.set_cons_zero, List.set_cons_succ]
                    refine takeH (i := 5) (some 73) (v := ?_) rfl (by kernel_rfl) (by kernel_rfl) (by kernel_rfl) (fun _ _ _ h => h) hS0 (fun o ho => ?_) ?_
                    rotate_left
                    · simp only [List.getElem?_toArray, List.getElem?_cons_zero, List.getElem?_cons_succ, Option.some.injEq] at ho; subst ho; refine Or.inl ⟨by rfl, fun w' hSw => ?_⟩; (try dsimp only at hSw); go_simp; try with_reducible rfl
                    simp only [Act.put, List.setIfInBounds_toArray, List.set_cons_zero, List.set_cons_succ]
                    refine takeH (i := 6) (some 74) (v := ?_) rfl (by kernel_rfl) (by kernel_rfl) (by kernel_rfl) (fun _ _ _ h => h) hS0 (fun o ho => ?_) ?_
                    rotate_left
                    · simp only [List.getElem?_toArray, List.getElem?_cons_zero, List.getElem?_cons_succ, Option.some.injEq] at ho; subst ho; refine Or.inl ⟨by rfl, fun w' hSw => ?_⟩; (try dsimp only at hSw); go_simp; try with_reducible rfl
                    simp only [Act.put, List.setIfInBounds_toArray, List.set_cons_zero, List.set_cons_succ]
                    refine oneH (i := 7) (by kernel_rfl) (fun o ho K' hK => ?_)
                    simp only [List.getElem?_toArray, List.getElem?_cons_zero, List.getElem?_cons_succ, Option.some.injEq] at ho; subst ho
                    go_simp
                    refine HOMT.out.mono ?_
                    rintro e w6 ⟨y, up'', rfl, r1, r2, r3, r4, r5⟩
                    dsimp only
                    have hS6 : w6.cell? ⟨N3, 0, none⟩ = some (.slice (some ⟨GA, 0, none⟩) k k) ∧ w6.cell? ⟨N3, 1, none⟩ = some (.slice (some ⟨GR, 0, none⟩) k k) ∧ w6.cell? ⟨N3, 2, none⟩ = some (.slice (some ⟨gu, 0, none⟩) k cu) ∧ w6.cell? ⟨g7, p0, none⟩ = some (.int .i64 (x : Int)) :=
                      ⟨(World.cell?_of_block (r5.block N3 hlts.1 (by show ¬ N3 = gu; omega))).trans hS0.1, (World.cell?_of_block (r5.block N3 hlts.1 (by show ¬ N3 = gu; omega))).trans hS0.2.1, (World.cell?_of_block (r5.block N3 hlts.1 (by show ¬ N3 = gu; omega))).trans hS0.2.2.1, (World.cell?_of_block (r5.block g7 hg7w (by show ¬ g7 = gu; omega))).trans hS0.2.2.2⟩
                    refine hK.out _ _ hS6 ?_
                    clear hK K'
                    try simp only [Act.put, List.setIfInBounds_toArray, List.set_cons_zero, List.set_cons_succ]
                    refine wpAnyH_done (by kernel_rfl) ?_ _
                    refine lastH (by decide) (fun o ho K' hK => ?_)
                    simp only [List.getElem?_toArray, List.getElem?_cons_zero, List.getElem?_cons_succ, Option.some.injEq] at ho; subst ho
                    go_simp
                    refine hK.out _ _ ?_
                    clear hK K'
                    exact ⟨y, up'', rfl, r1, r2, r3, r4, r5⟩
                  case rest18 =>
                    rintro a' w6 ⟨y, up'', rfl, r1, r2, r3, r4, r5⟩
                    simp only [Act.put, List.setIfInBounds_toArray, List.set_cons_zero, List.set_cons_succ]
                    obtain ⟨hU, hA, hC, hln⟩ := HMQ.out
                    have hNew := HDR.out.2.2.2
                    have hfind := hU.find HN.out hNew r1 (by rw [HNB.out]; exact hxk)
                    have hU6 : UpM bs S h dl up'' := hU.cut HN.out hNew (y := y) (fun z hz => r3 z (by rw [← HNB.out]; exact hz))
                    have hN6 : NsI w6 k N3 GA GR w2.heap.size (some ⟨gu, 0, none⟩) cu (fun y => if y = h then hdB bs h else hd y) ar' up'' := (HNQ.out.same (w' := wq.drew) (fun _ _ => rfl)).newU hp (fun i hi hne => r5.block i hi hne) r4
                    have hF6 : FrX (fun b => b = GA ∨ b = GR ∨ b = gu) W w6 := HFQ.out.drew.trans (r5.mono fun i _ hi => .inr (.inr hi))
                    have hO6 : w6.ownsRow W.heap.size 3 1 (.slice (some ⟨g7, 0, none⟩) p0 cap7) p0 (op0.map fun y : Nat => Value.int .i64 (y : Int)) := ownsRow_block HOW0.out (fun g hg => by
                      have hg' : g = g7 := by injection hg with hg; exact hg.symm
                      rw [hg']; exact r5.block g7 hg7w (by show ¬ g7 = gu; omega))
                    have hcn : cntN h GR k w6 = cntN h GR k wq := by rw [cntN_row hN6.rR, cntN_row HNQ.out.rR]
                    have HA6 := Lib.hid hA
                    have HC6 := Lib.hid hC
                    have HL6 := Lib.hid hln
                    have HFI := Lib.hid hfind
                    have HU6 := Lib.hid hU6
                    have HN6 := Lib.hid hN6
                    have HF6 := Lib.hid hF6
                    have HO6 := Lib.hid hO6
                    have HCN := Lib.hid hcn
                    clear hU hA hC hln hfind hU6 hN6 hF6 hO6 hcn r1 r3 r4 hS0 HOMT
                    have R5 := Lib.hid r5
                    clear r5
                    by_cases hyh : y = h
                    · subst hyh
                      gi_wp2
                      go_roundw
                      case rel =>
                        refine ⟨op0, dl, ar', up'', by rw [HP0.out]; exact HO6.out, HN6.out, HF6.out, HU6.out, HA6.out, HC6.out.skip ?_, by have := HL6.out; simp at this; omega⟩
                        rcases HFI.out with ⟨f1, -, -⟩ | ⟨-, -, f1⟩
                        · rcases f1.1 with f2 | ⟨f2, f3⟩
                          · exact .inl f2
                          · exact absurd f2 hNew.2.1
                        · exact .inr f1
                      case measure => simp only [slLen]; rw [HCN.out]; omega
                    · have hyi : ¬ ((y : Int) = (h : Int)) := by omega
                      gi_wp2
                      obtain ⟨f1, f2⟩ : RtU bs S x y ∧ y ∉ dl := by
                        rcases HFI.out with ⟨f1, f2, -⟩ | ⟨f1, -, -⟩
                        · exact ⟨f1, f2⟩
                        · exact absurd f1 hyh
                      have hl6 := HN6.out.lts
                      have hrg6 := HN6.out.row hp
                      have s1 : w6.drew.cell? ⟨N3, 1, none⟩ = some (.slice (some ⟨GR, 0, none⟩) k k) := by
                        have : w6.cell? ⟨N3, 1, none⟩ = some (.slice (some ⟨GR, 0, none⟩) k k) := by simp [World.cell?, HN6.out.box]
                        exact this
                      have s2 : w6.drew.cell? ⟨N3, 2, none⟩ = some (.slice (some ⟨gu, 0, none⟩) k cu) := by
                        have : w6.cell? ⟨N3, 2, none⟩ = some (.slice (some ⟨gu, 0, none⟩) k cu) := by simp [World.cell?, HN6.out.box]
                        exact this
                      have hS0 : w6.drew.cell? ⟨N3, 1, none⟩ = some (.slice (some ⟨GR, 0, none⟩) k k) ∧ w6.drew.cell? ⟨N3, 2, none⟩ = some (.slice (some ⟨gu, 0, none⟩) k cu) := ⟨s1, s2⟩
                      have cR := HN6.out.rR.cell r2
                      have fR := HN6.out.rR.frozen y
                      have cU := hrg6.2.2.2.2.cell r2
                      have fU := hrg6.2.2.2.2.frozen y
                      have nA := HN6.out.setR y (h : Int)
                      have cU' := (nA.row hp).2.2.2.2.cell r2
                      have fU' := (nA.row hp).2.2.2.2.frozen y
                      have nAB := nA.setU hp y h
                      have g1 : GR ≠ gu := Ne.symm hrg6.2.2.2.1
                      have sA : (w6.setCell ⟨GR, y, none⟩ (.int .i64 (h : Int))).cell? ⟨N3, 1, none⟩ = some (.slice (some ⟨GR, 0, none⟩) k k) ∧ (w6.setCell ⟨GR, y, none⟩ (.int .i64 (h : Int))).cell? ⟨N3, 2, none⟩ = some (.slice (some ⟨gu, 0, none⟩) k cu) := by
                        constructor <;> simp [World.cell?, nA.box]
                      have hR21 : ∀ w', w'.heap = ((w6.setCell ⟨GR, y, none⟩ (.int .i64 (h : Int))).setCell ⟨gu, y, none⟩ (.int .i64 (h : Int))).heap → NsI w' k N3 GA GR w2.heap.size (some ⟨gu, 0, none⟩) cu (fun y => if y = h then hdB bs h else hd y) (fun z => if z = y then (h : Int) else ar' z) (fun z => if z = y then h else up'' z) := fun w' hw => nAB.same fun i _ => by rw [hw]
                      refine wpIn_named (fun a a' w' => a' = (((((((((a.put (some 84) (.pointer (some ⟨N3, 1, none⟩))).put (some 85) (.slice (some ⟨GR, 0, none⟩) k k)).put (some 86) (.int .i64 (y : Int))).put (some 87) (.pointer (some ⟨N3, 2, none⟩))).put (some 88) (.slice (some ⟨gu, 0, none⟩) k cu)).put (some 89) (.int .i64 (y : Int))).put (some 90) (.int .i64 (h : Int))).put (some 91) (.int .i64 (h : Int))).put (some 92) (.pointer (some ⟨GR, y, none⟩))).put (some 93) (.pointer (some ⟨gu, y, none⟩)) ∧
                        NsI w' k N3 GA GR w2.heap.size (some ⟨gu, 0, none⟩) cu (fun y => if y = h then hdB bs h else hd y) (fun z => if z = y then (h : Int) else ar' z) (fun z => if z = y then h else up'' z) ∧ FrX (fun b => b = GR ∨ b = gu) w6 w') ?reg21 ?rest21
                      case reg21 =>
                        clear nA nAB hrg6
                        refine wpIn_round_last (L := 11) (S := fun w' : World => w'.cell? ⟨N3, 1, none⟩ = some (.slice (some ⟨GR, 0, none⟩) k k) ∧ w'.cell? ⟨N3, 2, none⟩ = some (.slice (some ⟨gu, 0, none⟩) k cu)) (by kernel_rfl) (by rfl) (by kernel_rfl) onlyN_lets (by kernel_rfl) (by kernel_rfl) ?_
                        change wpAnyH _ _ _ _ _ _ _ _ (World.drew _)
                        refine takeH (i := 0) (some 84) (v := ?_) rfl (by kernel_rfl) (by kernel_rfl) (by kernel_rfl) (fun _ _ _ h => h) hS0 (fun o ho => ?_) ?_
                        rotate_left
                        · simp only [List.getElem?_toArray, List.getElem?_cons_zero, Option.some.injEq] at ho; subst ho; refine Or.inl ⟨by rfl, fun w' hSw => ?_⟩; (try dsimp only at hSw); go_simp; try with_reducible rfl
                        simp only [Act.put, List.setIfInBounds_toArray, List.set_cons_zero, List.set_cons_succ]
                        refine takeH (i := 1) (some 85) (v := ?_) rfl (by kernel_rfl) (by kernel_rfl) (by kernel_rfl) (fun _ _ _ h => h) hS0 (fun o ho => ?_) ?_
                        rotate_left
                        · simp only [List.getElem?_toArray, List.getElem?_cons_zero, List.getElem?_cons_succ, Option.some.injEq] at ho; subst ho; refine Or.inl ⟨by rfl, fun w' hSw => ?_⟩; (try dsimp only at hSw); go_simp; try with_reducible rfl
                        simp only [Act.put, List.setIfInBounds_toArray, List.set_cons_zero, List.set_cons_succ]
                        refine takeH (i := 2) (some 86) (v := ?_) rfl (by kernel_rfl) (by kernel_rfl) (by kernel_rfl) (fun _ _ _ h => h) hS0 (fun o ho => ?_) ?_
                        rotate_left
                        · simp only [List.getElem?_toArray, List.getElem?_cons_zero, List.getElem?_cons_succ, Option.some.injEq] at ho; subst ho; refine Or.inl ⟨by rfl, fun w' hSw => ?_⟩; (try dsimp only at hSw); go_simp; try with_reducible rfl
                        simp only [Act.put, List.setIfInBounds_toArray, List.set_cons_zero, List.set_cons_succ]
                        refine takeH (i := 3) (some 87) (v := ?_) rfl (by kernel_rfl) (by kernel_rfl) (by kernel_rfl) (fun _ _ _ h => h) hS0 (fun o ho => ?_) ?_
                        rotate_left
                        · simp only [List.getElem?_toArray, List.getElem?_cons_zero, List.getElem?_cons_succ, Option.some.injEq] at ho; subst ho; refine Or.inl ⟨by rfl, fun w' hSw => ?_⟩; (try dsimp only at hSw); go_simp; try with_reducible rfl
                        simp only [Act.put, List.setIfInBounds_toArray, List.set_cons_zero, List.set_cons_succ]
                        refine takeH (i := 4) (some 88) (v := ?_) rfl (by kernel_rfl) (by kernel_rfl) (by kernel_rfl) (fun _ _ _ h => h) hS0 (fun o ho => ?_) ?_
                        rotate_left
                        · simp only [List.getElem?_toArray, List.getElem?_cons_zero, List.getElem?_cons_succ, Option.some.injEq] at ho; subst ho; refine Or.inl ⟨by rfl, fun w' hSw => ?_⟩; (try dsimp only at hSw); go_simp; try with_reducible rfl
                        simp only [Act.put, List.setIfInBounds_toArray, List.set_cons_zero, List.set_cons_succ]
                        refine takeH (i := 5) (some 89) (v := ?_) rfl (by kernel_rfl) (by kernel_rfl) (by kernel_rfl) (fun _ _ _ h => h) hS0 (fun o ho => ?_) ?_
                        rotate_left
                        · simp only [List.getElem?_toArray, List.getElem?_cons_zero, List.getElem?_cons_succ, Option.some.injEq] at ho; subst ho; refine Or.inl ⟨by rfl, fun w' hSw => ?_⟩; (try dsimp only at hSw); go_simp; try with_reducible rfl
                        simp only [Act.put, List.setIfInBounds_toArray, List.set_cons_zero, List.set_cons_succ]
                        refine takeH (i := 6) (some 90) (v := ?_) rfl (by kernel_rfl) (by kernel_rfl) (by kernel_rfl) (fun _ _ _ h => h) hS0 (fun o ho => ?_) ?_
                        rotate_left
                        · simp only [List.getElem?_toArray, List.getElem?_cons_zero, List.getElem?_cons_succ, Option.some.injEq] at ho; subst ho; refine Or.inl ⟨by rfl, fun w' hSw => ?_⟩; (try dsimp only at hSw); go_simp; try with_reducible rfl
                        simp only [Act.put, List.setIfInBounds_toArray, List.set_cons_zero, List.set_cons_succ]
                        refine takeH (i := 7) (some 91) (v := ?_) rfl (by kernel_rfl) (by kernel_rfl) (by kernel_rfl) (fun _ _ _ h => h) hS0 (fun o ho => ?_) ?_
                        rotate_left
                        · simp only [List.getElem?_toArray, List.getElem?_cons_zero, List.getElem?_cons_succ, Option.some.injEq] at ho; subst ho; refine Or.inl ⟨by rfl, fun w' hSw => ?_⟩; (try dsimp only at hSw); go_simp; try with_reducible rfl
                        simp only [Act.put, List.setIfInBounds_toArray, List.set_cons_zero, List.set_cons_succ]
                        refine takeH (i := 8) (some 92) (v := ?_) rfl (by kernel_rfl) (by kernel_rfl) (by kernel_rfl) (fun _ _ _ h => h) hS0 (fun o ho => ?_) ?_
                        rotate_left
                        · simp only [List.getElem?_toArray, List.getElem?_cons_zero, List.getElem?_cons_succ, Option.some.injEq] at ho; subst ho; refine Or.inl ⟨by rfl, fun w' hSw => ?_⟩; (try dsimp only at hSw); go_simp; try with_reducible rfl
                        simp only [Act.put, List.setIfInBounds_toArray, List.set_cons_zero, List.set_cons_succ]
                        refine oneH (i := 9) (by kernel_rfl) (fun o ho K' hK => ?_)
                        simp only [List.getElem?_toArray, List.getElem?_cons_zero, List.getElem?_cons_succ, Option.some.injEq] at ho; subst ho
                        have cR1 : w6.drew.cell? ⟨GR, y, none⟩ = _ := cR
                        have fR1 : w6.drew.frozen? ⟨GR, y, none⟩ = false := fR
                        go_simp
                        refine hK.out _ _ sA ?_
                        clear hK K' cR1 fR1
                        try simp only [Act.put, List.setIfInBounds_toArray, List.set_cons_zero, List.set_cons_succ]
                        refine takeH (i := 10) (some 93) (v := ?_) rfl (by kernel_rfl) (by kernel_rfl) (by kernel_rfl) (fun _ _ _ h => h) sA (fun o ho => ?_) ?_
                        rotate_left
                        · simp only [List.getElem?_toArray, List.getElem?_cons_zero, List.getElem?_cons_succ, Option.some.injEq] at ho; subst ho; refine Or.inl ⟨by rfl, fun w' hSw => ?_⟩; (try dsimp only at hSw); go_simp; try with_reducible rfl
                        simp only [Act.put, List.setIfInBounds_toArray, List.set_cons_zero, List.set_cons_succ]
                        refine wpAnyH_done (by kernel_rfl) ?_ _
                        refine lastH (by decide) (fun o ho K' hK => ?_)
                        simp only [List.getElem?_toArray, List.getElem?_cons_zero, List.getElem?_cons_succ, Option.some.injEq] at ho; subst ho
                        have cU1 : (w6.setCell ⟨GR, y, none⟩ (.int .i64 (h : Int))).drew.cell? ⟨gu, y, none⟩ = _ := cU'
                        have fU1 : (w6.setCell ⟨GR, y, none⟩ (.int .i64 (h : Int))).drew.frozen? ⟨gu, y, none⟩ = false := fU'
                        go_simp
                        refine hK.out _ _ ?_
                        clear hK K' cU1 fU1
                        exact ⟨by rw [show ((y : Int) != (h : Int)) = true from by simp [hyi]], hR21 _ rfl, (((FrX.refl _ w6).setCell (p := ⟨GR, y, none⟩) (.inl (.inl rfl)) _).setCell (p := ⟨gu, y, none⟩) (.inl (.inr rfl)) _).drew⟩
                      case rest21 =>
                        clear sA cR fR cU fU cU' fU' nA nAB hrg6 s1 s2 hS0 hR21
                        rintro a' w7 ⟨rfl, N7, F7⟩
                        simp only [Act.put, List.setIfInBounds_toArray, List.set_cons_zero, List.set_cons_succ]
                        have hF7 : FrX (fun b => b = GA ∨ b = GR ∨ b = gu) W w7 := HF6.out.trans (F7.mono fun i _ hi => .inr hi)
                        have hO7 : w7.ownsRow W.heap.size 3 1 (.slice (some ⟨g7, 0, none⟩) p0 cap7) p0 (op0.map fun y : Nat => Value.int .i64 (y : Int)) := ownsRow_block HO6.out (fun g hg => by
                          have hg' : g = g7 := by injection hg with hg; exact hg.symm
                          rw [hg']
                          exact F7.block g7 (HO6.out.lt g7 rfl).2 (by have := HNS2.out.lts; show ¬ (g7 = GR ∨ g7 = gu); omega))
                        have hk7 : Below w.heap.size w w7 := HKW.out.trans (hF7.below (by omega) (fun b hb => by omega))
                        have hWy7 := HW.out.keep (kept_of_below hk7)
                        obtain ⟨b4, o4, l4, hb4, hl4, hcs4⟩ := hWy7.ahd.at_ (k := y) (by simp; rw [HNB.out]; exact r2)
                        simp only [Option.some.injEq, Addr.mk.injEq, and_true] at hb4
                        obtain ⟨rfl, rfl⟩ := hb4
                        have hlz4 : l4 = zs (raL bs bs.length y) := (map_range_at _ hl4.out).1
                        subst hlz4
                        obtain ⟨A4, c4, hcA4, hsl4⟩ := hcs4
                        obtain ⟨my, hmy⟩ : ∃ my, (raL bs bs.length y).length = my := ⟨_, rfl⟩
                        rw [Nat.mul_one, Nat.zero_add, zs_len, hmy] at hcA4
                        have hmyk : my ≤ k := by rw [← hmy, ← HNB.out]; exact ra_len bs y
                        have hly : lpB bs h y = true := f1.inside HN.out hNew (HC6.out.opn x (by simp)) hyh
                        have hmy0 : 0 < my := by
                          rw [← hmy]
                          refine ra_some (lp_reach HN.out hly) (fun e => hyh ?_)
                          subst e
                          have h1 := lp_dm HN.out hly
                          have h2 := HN.out.ord h 0 (hd_lt (lp_hd hly)) (by have := HNB.out; omega) h1
                          have h3 := HN.out.ord 0 h (by have := HNB.out; omega) (hd_lt (lp_hd hly)) (HN.out.first h (hd_lt (lp_hd hly)) (HN.out.reach h 0 (hd_lt (lp_hd hly)) (by have := HNB.out; omega) h1))
                          exact (h2.2 (by omega)).symm
                        obtain ⟨b4, o4, rfl, hnw4⟩ := hsl4.2.2 (by rw [zs_len, hmy]; exact hmy0)
                        have hnews : ∀ jj u, ((raL bs bs.length y).map fun z : Nat => Value.int .i64 (z : Int))[jj]? = some u → w7.cell? ((⟨b4, o4, none⟩ : Addr).add jj) = some u := fun jj u hu => by
                          rw [List.getElem?_map] at hu
                          obtain ⟨z, hz, rfl⟩ := Option.map_eq_some_iff.1 hu
                          rw [add_plain']
                          have h1 := (hnw4 jj (z : Int) (by unfold zs; rw [List.getElem?_map, hz]; rfl)).1
                          rw [Nat.mul_one] at h1; exact h1
                        have x2 : w7.cell? ⟨w.heap.size, 2, none⟩ = some (.slice (some ⟨Ga, 0, none⟩) k k) := (World.cell?_of_block (hF7.block w.heap.size hlW (by omega))).trans (HBW.out 2 _ rfl)
                        have HNW := Lib.hid hnews
                        have HF7 := Lib.hid hF7
                        have HO7 := Lib.hid hO7
                        have HN7 := Lib.hid N7
                        have HMY := Lib.hid hmy
                        have HLY := Lib.hid hly
                        have hs7 : W.heap.size ≤ w7.heap.size := hF7.size
                        have F7' := Lib.hid F7
                        clear hF7 hO7 hk7 hWy7 hl4 hsl4 hnw4 hnews hmy hly N7 F7
                        gi_wp2_with (gi_at_builtin; refine round_append rfl (.tmp 94) (.tmp 99) 22 rfl 3 i0 (.int .i64 0) 8 Try.underlying22 HI.out rfl W.heap.size _ _ _ rfl HO7.out ⟨b4, o4, none⟩ my c4 ((raL bs bs.length y).map fun z : Nat => Value.int .i64 (z : Int)) rfl (by rw [List.length_map]; exact HMY.out) HNW.out ?e2 hmy0 ?e3 ?e4 hs7 w7.heap.size rfl ?_)
                        case e2 => intro u hu; obtain ⟨z, -, rfl⟩ := List.mem_map.1 hu; rfl
                        case e3 => unfold maxLen; omega
                        case e4 => omega
                        intro g8 cap8 w8 hown8 hgrow8 hloc8 hlt8
                        have hg7W : W.heap.size ≤ g7 := hg7
                        have hfx8 : FrX (fun b => b = GA ∨ b = GR ∨ b = gu) W w8 := HF7.out.grown hgrow8 (fun k2 e => by have e2 : some g7 = some k2 := e; injection e2 with e2; exact .inr (by omega))
                        have hN8 : NsI w8 k N3 GA GR w2.heap.size (some ⟨gu, 0, none⟩) cu (fun y => if y = h then hdB bs h else hd y) (fun z => if z = y then (h : Int) else ar' z) (fun z => if z = y then h else up'' z) := by
                          have hl0 := HNS2.out.lts
                          exact HN7.out.grow (B := W.heap.size) hl0.1 hl0.2.1 hl0.2.2 (fun g e _ => by injection e with e; injection e with e; omega) (fun i hi hiB => hgrow8.block i hi (fun e => by have e2 : some i = some g7 := e; injection e2 with e2; omega))
                        have HO8 := Lib.hid hown8
                        have HF8 := Lib.hid hfx8
                        have HN8 := Lib.hid hN8
                        clear hown8 hgrow8 hloc8 hlt8 hfx8 hN8
                        gi_wp2
                        go_roundw
                        case rel =>
                          refine ⟨op0 ++ raL bs bs.length y, y :: dl, _, _, ?_, HN8.out, HF8.out, HU6.out.mark HN.out hNew f1 f2 (HC6.out.opn x (by simp)) hyh (fun _ => rfl), HA6.out.mark (fun _ => rfl), HC6.out.take f1 hyh HLY.out, ?_⟩
                          · have h1 := HO8.out
                            rw [List.length_append, List.map_append, HP0.out, HMY.out]; exact h1
                          · have h1 := HL6.out
                            rw [List.length_append, HP0.out] at h1
                            rw [List.length_append, HP0.out, HMY.out, List.length_cons, Nat.succ_mul]
                            simp at h1; omega
                        case measure =>
                          have hne : ar' y ≠ (h : Int) := by
                            rcases HA6.out y (by rw [HNB.out]; exact r2) with ⟨h1, -⟩ | ⟨-, ⟨h1, -⟩ | ⟨a, h1, h2, -⟩⟩
                            · exact absurd h1 f2
                            · omega
                            · intro e
                              have : a = h := by omega
                              exact hNew.2.1 (this ▸ h2)
                          have h1 := cnt_mark (h := h) r2 hne (ar' := fun z => if z = y then (h : Int) else ar' z) (fun _ => rfl)
                          simp only [slLen]
                          rw [cntN_row HN8.out.rR, ← HCN.out, cntN_row HN6.out.rR, ← h1, Nat.mul_succ]
                          omega
        case done =>
          rintro D W hD ⟨hd, ar, up, hfx, hns, hU, hA, hH⟩ hK
          clear hseq
          have hE : NestE bs hd ar := by
            rw [Nat.sub_self, List.drop_zero] at hA hH
            refine ArS.all HN.out (S := orderF bs) (fun b hb => orderF_mem.2 hb) (fun b hb => ?_) hA
            rw [hH b hb]
            cases hh : hdB bs b
            · simp
            · have h1 : b ∈ orderF bs := orderF_mem.2 (hd_reach HN.out hh)
              simp [h1]
          have hX : ∀ i, i < w2.heap.size → i ≠ GA → i ≠ GR → W.heap[i]? = WL.heap[i]? := fun i h1 h2 h3 => hfx.block i (by omega) (fun hb => by
            rcases hb with hb | hb | ⟨hp, hb⟩
            · exact h2 hb
            · exact h3 hb
            · obtain ⟨g, e1, e2, -⟩ := hns.rU hp
              rw [e1] at hb; injection hb with hb; injection hb with hb; omega)
          have hres : W.heap[w.heap.size + 1]? = some (.cells #[.slice none 0 0, .slice none 0 0, .slice none 0 0] 73) := (hX _ (by omega) (by omega) (by omega)).trans HRES.out
          have z0 : W.cell? ⟨N3, 0, none⟩ = some (.slice (some ⟨GA, 0, none⟩) k k) := by simp [World.cell?, hns.box]
          have z1 : W.cell? ⟨N3, 1, none⟩ = some (.slice (some ⟨GR, 0, none⟩) k k) := by simp [World.cell?, hns.box]
          have z2 : W.cell? ⟨N3, 2, none⟩ = some (.slice Au k cu) := by simp [World.cell?, hns.box]
          obtain ⟨v0, v1, v2, v3, v4, v5⟩ := nest_cells hres
          have hbW : Below w.heap.size w W := HBL.out.trans (hfx.below (by omega) (fun b hb => by
            rcases hb with hb | hb | ⟨hp, hb⟩
            · omega
            · omega
            · obtain ⟨g, e1, e2, -⟩ := hns.rU hp
              rw [e1] at hb; injection hb with hb; injection hb with hb; omega))
          have hlt := hns.lts
          have HNSW := Lib.hid hns
          have HBW := Lib.hid hbW
          have HR := Lib.hid hres
          have HK := Lib.hid hK
          clear hfx hns hU hA hH hK hX hres hbW
          have HE := Lib.hid hE
          clear hE
          go_wp2_with fail
          have hkk : ∀ i, i ≠ w.heap.size + 1 → (((W.setCell ⟨w.heap.size + 1, 0, none⟩ (.slice (some ⟨GA, 0, none⟩) k k)).setCell ⟨w.heap.size + 1, 1, none⟩ (.slice (some ⟨GR, 0, none⟩) k k)).setCell ⟨w.heap.size + 1, 2, none⟩ (.slice Au k cu)).heap[i]? = W.heap[i]? := fun i hi =>
            (Below.heap_setCell _ _ _ _ hi).trans ((Below.heap_setCell _ _ _ _ hi).trans (Below.heap_setCell _ _ _ _ hi))
          have hfin : (((W.setCell ⟨w.heap.size + 1, 0, none⟩ (.slice (some ⟨GA, 0, none⟩) k k)).setCell ⟨w.heap.size + 1, 1, none⟩ (.slice (some ⟨GR, 0, none⟩) k k)).setCell ⟨w.heap.size + 1, 2, none⟩ (.slice Au k cu)).heap[w.heap.size + 1]? = some (.cells #[.slice (some ⟨GA, 0, none⟩) k k, .slice (some ⟨GR, 0, none⟩) k k, .slice Au k cu] 73) := by
            simp [World.setCell, Array.getElem?_modify, HR.out]
          refine ⟨by simp, .inl ⟨_, _, rfl, run_takeDeferred ((hkk D (by omega)).trans HK.out), ?_⟩⟩
          have hpD : ∀ i, i ≠ D → ((((W.setCell ⟨w.heap.size + 1, 0, none⟩ (.slice (some ⟨GA, 0, none⟩) k k)).setCell ⟨w.heap.size + 1, 1, none⟩ (.slice (some ⟨GR, 0, none⟩) k k)).setCell ⟨w.heap.size + 1, 2, none⟩ (.slice Au k cu)).putObj D (.deferred none)).heap[i]? = _ := fun i hi => World.putObj_heap_other hi
          refine ⟨_, results_cell_row rfl _ _ (w.heap.size + 1) 73 #[.slice (some ⟨GA, 0, none⟩) k k, .slice (some ⟨GR, 0, none⟩) k k, .slice Au k cu] (0, 0) _ (by rfl) ((hpD _ (by omega)).trans hfin) Try.underlying73 (by rfl) (by kernel_rfl), ⟨GA, GR, Au, cu, hd, ar, by rw [HNB.out], ?_, ?_, HE.out⟩, ?_⟩
          · rw [HNB.out]; exact (HNSW.out.rA.of_block (hkk GA (by omega))).of_block (hpD GA (by omega))
          · rw [HNB.out]; exact (HNSW.out.rR.of_block (hkk GR (by omega))).of_block (hpD GR (by omega))
          · exact (((HBW.out.setCell (p := ⟨w.heap.size + 1, 0, none⟩) (Nat.le_succ _) _).setCell (p := ⟨w.heap.size + 1, 1, none⟩) (Nat.le_succ _) _).setCell (p := ⟨w.heap.size + 1, 2, none⟩) (Nat.le_succ _) _).trans ⟨rfl, rfl, rfl, by simp, fun i hi => hpD i (by omega)⟩
end Go.Proofs.Ytflbooopgjgkbaa
