/- The document's Same of two outcomes. -/
import Derived.Test.YtoidhjmhakajlaaRunE
import Derived.Deep.Cut
namespace Go.Proofs.Ytoidhjmhakajlaa
open Go.ChangeShapes Go.WideShapes Go.RowKit Go.Deep
set_option linter.unusedVariables false

theorem below_alike {B : Nat} {w w' : World} (h : Below B w w') (n : Nat) : Below B w (w'.drewN n) := below_drewN h n

set_option maxRecDepth 100000 in
set_option maxHeartbeats 8000000 in
theorem sameO_any (s t : St) (A B : Option Addr) (c d : Nat) (w : World) (ha : SL w 1 RW A c s.out) (hb : SL w 1 RW B d t.out) :
    Calls Try.prog 20 #[.agg (outC s (.slice A s.out.length c)), .agg (outC t (.slice B t.out.length d))] w fun e w' => e = .returned (.bool (sameS s t)) ∧ Below w.heap.size w w' := by
  obtain ⟨w2, hw2⟩ : ∃ w2, w2 = (w.alloc (.cells (outC s (.slice A s.out.length c)) 31)).alloc (.cells (outC t (.slice B t.out.length d)) 31) := ⟨_, rfl⟩
  have hB2 : Below w.heap.size w w2 := by rw [hw2]; exact ((Below.refl _ _).alloc (Nat.le_refl _) _).alloc (by simp) _
  have hs2 : w2.heap.size = w.heap.size + 2 := by rw [hw2]; simp
  have h1 : w2.heap[w.heap.size]? = some (.cells (outC s (.slice A s.out.length c)) 31 (0, 0)) := by rw [hw2]; exact (Below.heap_alloc _ _ _ (by simp)).trans (heap_alloc_new w _)
  have h2 : w2.heap[w.heap.size + 1]? = some (.cells (outC t (.slice B t.out.length d)) 31 (0, 0)) := by
    rw [hw2]
    have := heap_alloc_new (w.alloc (.cells (outC s (.slice A s.out.length c)) 31)) (.cells (outC t (.slice B t.out.length d)) 31)
    rwa [show (w.alloc (.cells (outC s (.slice A s.out.length c)) 31)).heap.size = w.heap.size + 1 by simp] at this
  have cs : ∀ i, i < 69 → w2.cell? ⟨w.heap.size, i, none⟩ = some (cellM s ⟨.slice none 0 0, .slice none 0 0, .slice none 0 0, .slice none 0 0, .slice A s.out.length c⟩ (263 + i)) := fun i hi => (cell_of_block h1 i).trans (outC_get s ⟨_, _, _, _, _⟩ hi)
  have ct : ∀ i, i < 69 → w2.cell? ⟨w.heap.size + 1, i, none⟩ = some (cellM t ⟨.slice none 0 0, .slice none 0 0, .slice none 0 0, .slice none 0 0, .slice B t.out.length d⟩ (263 + i)) := fun i hi => (cell_of_block h2 i).trans (outC_get t ⟨_, _, _, _, _⟩ hi)
  have s0 : w2.cell? ⟨w.heap.size, 0, none⟩ = some (.bool s.done) := cs 0 (by omega)
  have s1 : w2.cell? ⟨w.heap.size, 1, none⟩ = some (.int .i64 s.trap) := cs 1 (by omega)
  have s2 : w2.cell? ⟨w.heap.size, 2, none⟩ = some (.int .i64 s.value) := cs 2 (by omega)
  have s3 : w2.cell? ⟨w.heap.size, 3, none⟩ = some (.slice A s.out.length c) := cs 3 (by omega)
  have s4 : w2.cell? ⟨w.heap.size, 4, none⟩ = some (.int .i64 s.steps) := cs 4 (by omega)
  have t0 : w2.cell? ⟨w.heap.size + 1, 0, none⟩ = some (.bool t.done) := ct 0 (by omega)
  have t1 : w2.cell? ⟨w.heap.size + 1, 1, none⟩ = some (.int .i64 t.trap) := ct 1 (by omega)
  have t2 : w2.cell? ⟨w.heap.size + 1, 2, none⟩ = some (.int .i64 t.value) := ct 2 (by omega)
  have t3 : w2.cell? ⟨w.heap.size + 1, 3, none⟩ = some (.slice B t.out.length d) := ct 3 (by omega)
  have t4 : w2.cell? ⟨w.heap.size + 1, 4, none⟩ = some (.int .i64 t.steps) := ct 4 (by omega)
  have LS := Lib.hid (load_mem (g := w.heap.size) (o := 5) (w := w2) (s := s) (fun i hi => (cs (5 + i) (by omega)).trans (by rw [show 263 + (5 + i) = 268 + i by omega, cellM_mem _ _ hi])))
  have LT := Lib.hid (load_mem (g := w.heap.size + 1) (o := 5) (w := w2) (s := t) (fun i hi => (ct (5 + i) (by omega)).trans (by rw [show 263 + (5 + i) = 268 + i by omega, cellM_mem _ _ hi])))
  have HAL := Lib.hid (alike_any s.out t.out A B c d w2 (SL.keep (kept_of_below hB2) (fun b o x hx => kept_of_below hB2 _ _ hx) ha) (SL.keep (kept_of_below hB2) (fun b o x hx => kept_of_below hB2 _ _ hx) hb))
  have HE : ∀ b : Bool, Hid (sameS s t = b) → Hid (sameS s t = b) := fun _ h => h
  have HBB := Lib.hid hB2
  clear cs ct h1 h2 ha hb hs2 hB2
  by_cases e1 : s.done = t.done
  · have f1 : (s.done == t.done) = true := by rw [e1]; simp
    by_cases e2 : s.trap = t.trap
    · have f2 : (s.trap == t.trap) = true := by rw [e2]; simp
      by_cases e3 : s.value = t.value
      · have f3 : (s.value == t.value) = true := by rw [e3]; simp
        by_cases e4 : s.steps = t.steps
        · have f4 : ((s.steps : Int) == (t.steps : Int)) = true := by rw [e4]; simp
          have HS : Hid (sameS s t = (decide (memL s = memL t) && decide (s.out = t.out))) := Lib.hid (by unfold sameS; simp [e1, e2, e3, e4])
          have heq := eq_mem s t w2
          by_cases e5 : memL s = memL t
          · have f5 : (memL s == memL t) = true := by rw [e5]; simp
            have HS2 : Hid (sameS s t = decide (s.out = t.out)) := Lib.hid (by rw [HS.out, decide_eq_true e5]; rfl)
            rw [f5] at heq
            clear e1 e2 e3 e4 e5
            go_enter Try.func20, Try.ntmps20
            go_upto_region 1 with fail
            rw [← hw2]
            clear hw2
            go_step
            iterate 28 (first | (go_step; go_simp; go_step) | (go_step; go_step))
            refine wpList_load_w w2 (by rfl) 29 (.tmp 32) rfl _ (by rfl) LS.out ?_
            (first | (go_step; go_simp; go_step) | (go_step; go_step))
            refine wpList_load_w w2 (by rfl) 29 (.tmp 34) rfl _ (by rfl) LT.out ?_
            go_wp2_with fail
            refine HAL.out.mono ?_
            rintro e w3 ⟨rfl, n, rfl⟩
            go_wp2_with fail
            go_ret
            exact ⟨by rw [HS2.out]; rfl, below_alike HBB.out n⟩
          · have f5 : (memL s == memL t) = false := by simp [e5]
            have HS2 : Hid (sameS s t = false) := Lib.hid (by rw [HS.out, decide_eq_false e5]; rfl)
            rw [f5] at heq
            clear e1 e2 e3 e4 e5
            go_enter Try.func20, Try.ntmps20
            go_upto_region 1 with fail
            rw [← hw2]
            clear hw2
            go_step
            iterate 28 (first | (go_step; go_simp; go_step) | (go_step; go_step))
            refine wpList_load_w w2 (by rfl) 29 (.tmp 32) rfl _ (by rfl) LS.out ?_
            (first | (go_step; go_simp; go_step) | (go_step; go_step))
            refine wpList_load_w w2 (by rfl) 29 (.tmp 34) rfl _ (by rfl) LT.out ?_
            go_wp2_with fail
            go_ret
            exact ⟨by rw [HS2.out]; rfl, HBB.out⟩
        · have f4 : ((s.steps : Int) == (t.steps : Int)) = false := by rw [beq_eq_false_iff_ne]; omega
          have HS : Hid (sameS s t = false) := Lib.hid (by unfold sameS; rw [decide_eq_false]; exact fun h => e4 h.2.2.2.1)
          clear e1 e2 e3 e4
          go_enter Try.func20, Try.ntmps20
          go_upto_region 1 with fail
          rw [← hw2]
          clear hw2
          go_wp2_with fail
          go_ret
          exact ⟨by rw [HS.out]; rfl, HBB.out⟩
      · have f3 : (s.value == t.value) = false := by simp [e3]
        have HS : Hid (sameS s t = false) := Lib.hid (by unfold sameS; rw [decide_eq_false]; exact fun h => e3 h.2.2.1)
        clear e1 e2 e3
        go_enter Try.func20, Try.ntmps20
        go_upto_region 1 with fail
        rw [← hw2]
        clear hw2
        go_wp2_with fail
        go_ret
        exact ⟨by rw [HS.out]; rfl, HBB.out⟩
    · have f2 : (s.trap == t.trap) = false := by simp [e2]
      have HS : Hid (sameS s t = false) := Lib.hid (by unfold sameS; rw [decide_eq_false]; exact fun h => e2 h.2.1)
      clear e1 e2
      go_enter Try.func20, Try.ntmps20
      go_upto_region 1 with fail
      rw [← hw2]
      clear hw2
      go_wp2_with fail
      go_ret
      exact ⟨by rw [HS.out]; rfl, HBB.out⟩
  · have f1 : (s.done == t.done) = false := by simp [e1]
    have HS : Hid (sameS s t = false) := Lib.hid (by unfold sameS; rw [decide_eq_false]; exact fun h => e1 h.1)
    clear e1
    go_enter Try.func20, Try.ntmps20
    go_upto_region 1 with fail
    rw [← hw2]
    clear hw2
    go_wp2_with fail
    go_ret
    exact ⟨by rw [HS.out]; rfl, HBB.out⟩
end Go.Proofs.Ytoidhjmhakajlaa
