/- Of and Code of the statements: what an error is, and its place. -/
import Derived.Test.YtoidhjmhakajlaaGreatDoorErrAsJ
import Derived.Test.YtoidhjmhakajlaaGreatDoorEqEJ
import Derived.Test.YtoidhjmhakajlaaGreatDoorEncJ
import Derived.Test.YtoidhjmhakajlaaGreatDoorModBJ
import Derived.Test.YtoidhjmhakajlaaGreatDoorOkMJ
import Derived.Deep.Cut
import Derived.Deep.RegionHeld
namespace Go.Proofs.YtoidhjmhakajlaaGreatDoor
open Go.ChangeShapes Go.WideShapes Go.RowKit Go.Deep
set_option linter.unusedVariables false

/-! ### What is amiss with modules has one of four numbers -/
def okE (x : Int) : Prop := x = 0 ∨ (3 ≤ x ∧ x ≤ 6)
theorem firstE_in {l : List Int} (h : ∀ x ∈ l, okE x) : okE (firstE l) := by
  induction l with
  | nil => exact .inl rfl
  | cons x r ih =>
    simp only [firstE]
    split
    · exact ih (fun y hy => h y (List.mem_cons_of_mem _ hy))
    · exact h x (List.mem_cons_self ..)
theorem okE_ite {c : Prop} [Decidable c] {a b : Int} (ha : okE a) (hb : okE b) : okE (if c then a else b) := by split; exact ha; exact hb
theorem okE_0 : okE 0 := .inl rfl
theorem okE_3 : okE 3 := .inr ⟨by decide, by decide⟩
theorem okE_4 : okE 4 := .inr ⟨by decide, by decide⟩
theorem okE_5 : okE 5 := .inr ⟨by decide, by decide⟩
theorem okE_6 : okE 6 := .inr ⟨by decide, by decide⟩
theorem restE_in (f : FunD) (x : InsD) (ts : List Int) (d : Int) (b : Bool) : okE (restE f x ts d b) := by
  unfold restE; exact okE_ite (okE_ite okE_0 okE_3) okE_4
theorem insE_in (m : List FunD) (f : FunD) (x : InsD) : okE (insE m f x) := by
  unfold insE
  refine okE_ite (okE_ite (okE_ite (restE_in _ _ _ _ _) okE_6) okE_4) ?_
  split
  · exact okE_6
  · exact okE_ite (restE_in _ _ _ _ _) okE_6
theorem phiE_in' (f : FunD) (p : PhiD) : okE (phiE f p) := by unfold phiE; exact okE_ite (okE_ite okE_0 okE_3) okE_4
theorem termE_in (f : FunD) (t : TermD) : okE (termE f t) := by unfold termE; exact okE_ite (okE_ite okE_0 okE_3) (okE_ite (okE_ite okE_0 okE_3) okE_4)
theorem blockE_in (m : List FunD) (f : FunD) (b : BlkD) : okE (blockE m f b) := by
  have h1 : okE (firstE (b.phis.map (phiE f))) := firstE_in fun x hx => by obtain ⟨p, _, rfl⟩ := List.mem_map.1 hx; exact phiE_in' f p
  have h2 : okE (firstE (b.ins.map (insE m f))) := firstE_in fun x hx => by obtain ⟨p, _, rfl⟩ := List.mem_map.1 hx; exact insE_in m f p
  unfold blockE
  exact okE_ite (okE_ite (termE_in _ _) h2) h1
theorem funE_in (m : List FunD) (f : FunD) : okE (funE m f) := by
  unfold funE
  split
  · exact firstE_in fun x hx => by obtain ⟨p, _, rfl⟩ := List.mem_map.1 hx; exact blockE_in m f p
  · unfold outerE; exact okE_ite (okE_ite (okE_ite okE_0 okE_6) okE_3) okE_5
theorem modK_in (m : List FunD) : ∀ (l : List FunD) (i : Nat), okE (modK m l i).1
  | [], _ => .inl rfl
  | f :: l, i => by
    simp only [modK]
    split
    · exact modK_in m l (i + 1)
    · exact funE_in m f
theorem modE_in (m : List FunD) : okE (modE m).1 := by
  unfold modE
  split
  · exact okE_5
  · exact modK_in m m 0

set_option maxRecDepth 100000 in
set_option maxHeartbeats 2000000 in
/-- The number of an error that is a Code. -/
theorem code_any (c : Int) (w : World) (hc : 1 ≤ c ∧ c ≤ 8) : Calls Tryz.prog 26 #[.iface 51 (.int .i64 c)] w fun e w' => e = .returned (.int .i64 c) ∧ ∃ n, w' = w.drewN n := by
  obtain ⟨h1, h8⟩ := hc
  go_enter Tryz.func26, Tryz.ntmps26
  go_wp2_with fail
  go_loopw [3] (fun i wr => ∃ k n : Nat, 1 ≤ k ∧ (k : Int) ≤ c ∧ i = .int .i64 k ∧ wr = w.drewN n) (fun i _ => 9 - (intOf i).toNat)
  case atStart => exact ⟨1, 0, by omega, by omega, rfl, rfl⟩
  case round =>
    obtain ⟨k, n, hk1, hkc, rfl, rfl⟩ := hrel
    have hk8 : (k : Int) ≤ 8 := by omega
    have he := eqlErr c k (w.drewN n)
    by_cases h : c = k
    · subst h
      rw [show (((k : Nat) : Int) == (k : Int)) = true by simp] at he
      go_wp2_with fail
      go_ret
      exact ⟨rfl, _, rfl⟩
    · rw [show (c == (k : Int)) = false by simpa using h] at he
      go_wp2_with fail
      go_roundw
      case rel => exact ⟨k + 1, n, by omega, by omega, by go_num, rfl⟩
      case measure => simp [intOf]; omega
def HoldsE (w : World) : Prop := w.cell? ⟨0, 0, none⟩ = some (.iface 155 (.agg #[.pointer (some ⟨1, 29, none⟩)]))

set_option maxRecDepth 100000 in
set_option maxHeartbeats 4000000 in
/-- Which error it is, and its place. -/
theorem of_any (v : Value) (p : Int × Int) (w : World) (he : ErrAt w v p) (hp : 1 ≤ p.1 ∧ p.1 ≤ 8) (hg : HoldsE w) : Calls Tryz.prog 10 #[v] w fun e w' => e = .returned (.tuple #[.int .i64 p.1, .int .i64 p.2]) ∧ Below w.heap.size w w' := by
  have h0 : 0 < w.heap.size := block_lt_of_cell hg
  obtain ⟨p1, p2⟩ := p
  obtain ⟨w1, hw1, hs1, hk1, hb1, hc1, -⟩ := named w #[.pointer none] 70
  have t0 : w1.cell? ⟨w.heap.size, 0, none⟩ = some (.pointer none) := hc1 0 _ rfl
  have tb : w1.heap[w.heap.size]? = some (.cells #[.pointer none] 70 (0, 0)) := by rw [hw1]; exact heap_alloc_new _ _
  have tf := free_of_block tb 0
  have g1 : w1.cell? ⟨0, 0, none⟩ = _ := hk1 _ _ hg
  rcases he with h | ⟨hne, hat, rfl⟩ | ⟨hne, hat, g, rfl, hg0, hg1⟩
  · have : p1 = 0 := h.1
    have : (1 : Int) ≤ p1 := hp.1
    omega
  · have hat : p2 = -1 := hat
    subst hat
    have HAS := Lib.hid (as_code p1 ⟨w.heap.size, 0, none⟩ _ w1 g1 t0)
    have HC := Lib.hid (fun w => code_any p1 w hp)
    have HB1 := Lib.hid hb1
    clear hk1 hb1 hc1 tb tf g1 t0 hne
    go_enter Tryz.func10, Tryz.ntmps10
    go_wp2_with fail
    rw [← hw1]
    refine HAS.out.mono ?_
    rintro e w2 ⟨rfl, hw2⟩
    have HB2 : Hid (Below w.heap.size w w2) := Lib.hid (by
      have hs := HB1.out.size
      rw [hw2]
      exact ((HB1.out.alloc hs _).alloc (by simp; omega) _).alloc (by simp; omega) _)
    clear hw1 hw2 hs1
    go_wp2_with fail
    refine (HC.out _).mono ?_
    rintro e w3 ⟨rfl, n3, rfl⟩
    go_wp2_with fail
    go_ret2
    exact ⟨rfl, below_drewN HB2.out n3⟩
  · have hg0' := hk1 _ _ hg0
    have hg1' := hk1 _ _ hg1
    have hgl : g < w.heap.size := block_lt_of_cell hg0
    have HAS := Lib.hid (as_spot ⟨g, 0, none⟩ ⟨w.heap.size, 0, none⟩ _ w1 g1 t0 tf)
    have HCODE := Lib.hid (fun w => code_any p1 w hp)
    have HB1 := Lib.hid hb1
    have HTB := Lib.hid tb
    clear hk1 hb1 hc1 tb tf g1 t0 hne
    go_enter Tryz.func10, Tryz.ntmps10
    go_wp2_with fail
    rw [← hw1]
    refine HAS.out.mono ?_
    rintro e w2 ⟨rfl, hw2⟩
    obtain ⟨T, hT⟩ : ∃ T, T = w.heap.size := ⟨_, rfl⟩
    rw [← hT] at hw2 ⊢
    have hBA : Below w1.heap.size w1 ((((w1.alloc (.cells #[.pointer (some ⟨T, 0, none⟩)] 72)).alloc (.cells #[.pointer (some ⟨1, 72, none⟩), .pointer (some ⟨w1.heap.size, 0, none⟩), .int .u64 150] 112)).alloc (.cells #[.pointer (some ⟨1, 72, none⟩), .pointer (some ⟨w1.heap.size, 0, none⟩), .int .u64 150] 112)).alloc (.cells #[.pointer (some ⟨g, 0, none⟩)] 70)) :=
      ((((Below.refl _ _).alloc (Nat.le_refl _) _).alloc (by simp) _).alloc (by simp; omega) _).alloc (by simp; omega) _
    have x0 : w2.cell? ⟨T, 0, none⟩ = some (.pointer (some ⟨g, 0, none⟩)) := by
      rw [hw2]
      exact cell_of_block (set_of_block (i := 0) (.pointer (some ⟨g, 0, none⟩)) ((hBA.block T (by omega)).trans (by rw [hT]; exact HTB.out))) 0
    have x1 : w2.cell? ⟨g, 0, none⟩ = some (.int .i64 p2) := by
      rw [hw2]
      exact (World.cell?_of_block (a := ⟨g, 0, none⟩) ((Below.heap_setCell _ _ _ _ (by show g ≠ T; omega)).trans (hBA.block g (by omega)))).trans hg0'
    have x2 : w2.cell? ⟨g, 1, none⟩ = some (.iface 51 (.int .i64 p1)) := by
      rw [hw2]
      exact (World.cell?_of_block (a := ⟨g, 1, none⟩) ((Below.heap_setCell _ _ _ _ (by show g ≠ T; omega)).trans (hBA.block g (by omega)))).trans hg1'
    have HB2 : Hid (Below w.heap.size w w2) := Lib.hid (by
      rw [hw2]
      exact (HB1.out.trans (hBA.mono HB1.out.size)).setCell (by show _ ≤ T; omega) _)
    have HBF : Hid (∀ w', Below w2.heap.size w2 w' → Below w.heap.size w w') := Lib.hid (fun w' h => HB2.out.trans (h.mono HB2.out.size))
    clear hw1 hw2 hs1 hBA hg0' hg1' hg0 hg1 hT hgl
    go_upto_region 5 with fail
    have hS : ∀ w' : World, Below w2.heap.size w2 w' → w'.cell? ⟨T, 0, none⟩ = some (.pointer (some ⟨g, 0, none⟩)) ∧ w'.cell? ⟨g, 0, none⟩ = some (.int .i64 p2) ∧ w'.cell? ⟨g, 1, none⟩ = some (.iface 51 (.int .i64 p1)) := fun w' h => ⟨kept_of_below h _ _ x0, kept_of_below h _ _ x1, kept_of_below h _ _ x2⟩
    have hB0 : Below w2.heap.size w2 w2.drew := (Below.refl w2.heap.size w2).drew
    have hS0 := hS _ hB0
    clear x0 x1 x2
    refine wp_region_held_drew (S := fun w' => w'.cell? ⟨T, 0, none⟩ = some (.pointer (some ⟨g, 0, none⟩)) ∧ w'.cell? ⟨g, 0, none⟩ = some (.int .i64 p2) ∧ w'.cell? ⟨g, 1, none⟩ = some (.iface 51 (.int .i64 p1))) (by kernel_rfl) hS0 (fun hHeld => ?_)
    clear hHeld
    refine takeH (i := 0) (some 17) (v := ?_) rfl (by kernel_rfl) (by kernel_rfl) (by kernel_rfl) (fun _ _ _ h => h) hS0 (fun o ho => ?_) ?_
    rotate_left
    · simp only [List.getElem?_toArray, List.getElem?_cons_zero, Option.some.injEq] at ho; subst ho; refine Or.inl ⟨by rfl, fun w' hSw => ?_⟩; (try dsimp only at hSw); go_simp; try with_reducible rfl
    simp only [Act.put, List.setIfInBounds_toArray, List.set_cons_zero, List.set_cons_succ]
    refine takeH (i := 1) (some 18) (v := ?_) rfl (by kernel_rfl) (by kernel_rfl) (by kernel_rfl) (fun _ _ _ h => h) hS0 (fun o ho => ?_) ?_
    rotate_left
    · simp only [List.getElem?_toArray, List.getElem?_cons_zero, List.getElem?_cons_succ, Option.some.injEq] at ho; subst ho; refine Or.inl ⟨by rfl, fun w' hSw => ?_⟩; (try dsimp only at hSw); go_simp; try with_reducible rfl
    simp only [Act.put, List.setIfInBounds_toArray, List.set_cons_zero, List.set_cons_succ]
    refine takeH (i := 2) (some 19) (v := ?_) rfl (by kernel_rfl) (by kernel_rfl) (by kernel_rfl) (fun _ _ _ h => h) hS0 (fun o ho => ?_) ?_
    rotate_left
    · simp only [List.getElem?_toArray, List.getElem?_cons_zero, List.getElem?_cons_succ, Option.some.injEq] at ho; subst ho; refine Or.inl ⟨by rfl, fun w' hSw => ?_⟩; (try dsimp only at hSw); go_simp; try with_reducible rfl
    simp only [Act.put, List.setIfInBounds_toArray, List.set_cons_zero, List.set_cons_succ]
    refine takeH (i := 3) (some 20) (v := ?_) rfl (by kernel_rfl) (by kernel_rfl) (by kernel_rfl) (fun _ _ _ h => h) hS0 (fun o ho => ?_) ?_
    rotate_left
    · simp only [List.getElem?_toArray, List.getElem?_cons_zero, List.getElem?_cons_succ, Option.some.injEq] at ho; subst ho; refine Or.inl ⟨by rfl, fun w' hSw => ?_⟩; (try dsimp only at hSw); go_simp; try with_reducible rfl
    simp only [Act.put, List.setIfInBounds_toArray, List.set_cons_zero, List.set_cons_succ]
    refine takeH (i := 5) (some 22) (v := ?_) rfl (by kernel_rfl) (by kernel_rfl) (by kernel_rfl) (fun _ _ _ h => h) hS0 (fun o ho => ?_) ?_
    rotate_left
    · simp only [List.getElem?_toArray, List.getElem?_cons_zero, List.getElem?_cons_succ, Option.some.injEq] at ho; subst ho; refine Or.inl ⟨by rfl, fun w' hSw => ?_⟩; (try dsimp only at hSw); go_simp; try with_reducible rfl
    simp only [Act.put, List.setIfInBounds_toArray, List.set_cons_zero, List.set_cons_succ]
    refine takeH (i := 6) (some 23) (v := ?_) rfl (by kernel_rfl) (by kernel_rfl) (by kernel_rfl) (fun _ _ _ h => h) hS0 (fun o ho => ?_) ?_
    rotate_left
    · simp only [List.getElem?_toArray, List.getElem?_cons_zero, List.getElem?_cons_succ, Option.some.injEq] at ho; subst ho; refine Or.inl ⟨by rfl, fun w' hSw => ?_⟩; (try dsimp only at hSw); go_simp; try with_reducible rfl
    simp only [Act.put, List.setIfInBounds_toArray, List.set_cons_zero, List.set_cons_succ]
    refine takeH (i := 7) (some 24) (v := ?_) rfl (by kernel_rfl) (by kernel_rfl) (by kernel_rfl) (fun _ _ _ h => h) hS0 (fun o ho => ?_) ?_
    rotate_left
    · simp only [List.getElem?_toArray, List.getElem?_cons_zero, List.getElem?_cons_succ, Option.some.injEq] at ho; subst ho; refine Or.inl ⟨by rfl, fun w' hSw => ?_⟩; (try dsimp only at hSw); go_simp; try with_reducible rfl
    simp only [Act.put, List.setIfInBounds_toArray, List.set_cons_zero, List.set_cons_succ]
    refine takeH (i := 8) (some 25) (v := ?_) rfl (by kernel_rfl) (by kernel_rfl) (by kernel_rfl) (fun _ _ _ h => h) hS0 (fun o ho => ?_) ?_
    rotate_left
    · simp only [List.getElem?_toArray, List.getElem?_cons_zero, List.getElem?_cons_succ, Option.some.injEq] at ho; subst ho; refine Or.inl ⟨by rfl, fun w' hSw => ?_⟩; (try dsimp only at hSw); go_simp; try with_reducible rfl
    simp only [Act.put, List.setIfInBounds_toArray, List.set_cons_zero, List.set_cons_succ]
    refine oneH (i := 4) (by kernel_rfl) (fun o ho K hK => ?_)
    simp only [List.getElem?_toArray, List.getElem?_cons_zero, List.getElem?_cons_succ, Option.some.injEq] at ho; subst ho
    go_simp
    refine (HCODE.out _).mono ?_
    rintro e w6 ⟨rfl, n6, rfl⟩
    have hS1 := hS _ (below_drewN hB0 n6)
    go_wp2_with fail
    refine hK.out _ _ hS1 ?_
    clear hK K
    try simp only [Act.put, List.setIfInBounds_toArray, List.set_cons_zero, List.set_cons_succ]
    refine takeH (i := 9) (some 2) (v := ?_) rfl (by kernel_rfl) (by kernel_rfl) (by kernel_rfl) (fun _ _ _ h => h) hS1 (fun o ho => ?_) ?_
    rotate_left
    · simp only [List.getElem?_toArray, List.getElem?_cons_zero, List.getElem?_cons_succ, Option.some.injEq] at ho; subst ho; refine Or.inl ⟨by rfl, fun w' hSw => ?_⟩; (try dsimp only at hSw); go_simp; try with_reducible rfl
    simp only [Act.put, List.setIfInBounds_toArray, List.set_cons_zero, List.set_cons_succ]
    refine takeH (i := 10) (some 3) (v := ?_) rfl (by kernel_rfl) (by kernel_rfl) (by kernel_rfl) (fun _ _ _ h => h) hS1 (fun o ho => ?_) ?_
    rotate_left
    · simp only [List.getElem?_toArray, List.getElem?_cons_zero, List.getElem?_cons_succ, Option.some.injEq] at ho; subst ho; refine Or.inl ⟨by rfl, fun w' hSw => ?_⟩; (try dsimp only at hSw); go_simp; try with_reducible rfl
    simp only [Act.put, List.setIfInBounds_toArray, List.set_cons_zero, List.set_cons_succ]
    refine wpAnyH_done (by kernel_rfl) ?_ _
    go_wp2_with fail
    go_ret2
    exact ⟨rfl, HBF.out _ (below_drewN (Below.refl _ _) _)⟩
end Go.Proofs.YtoidhjmhakajlaaGreatDoor
