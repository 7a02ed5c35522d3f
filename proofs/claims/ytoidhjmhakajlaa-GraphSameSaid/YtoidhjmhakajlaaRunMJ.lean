/- The document's Same of two outcomes. -/
import Derived.Test.YtoidhjmhakajlaaRunEJ
import Derived.Deep.Cut
namespace Go.Proofs.Ytoidhjmhakajlaa
open Go.ChangeShapes Go.WideShapes Go.RowKit Go.Deep
set_option linter.unusedVariables false

theorem below_alike {B : Nat} {w w' : World} (h : Below B w w') (n : Nat) : Below B w (w'.drewN n) := below_drewN h n

set_option maxRecDepth 100000 in
set_option maxHeartbeats 8000000 in
theorem sameO_any (s t : St) (A B : Option Addr) (c d : Nat) (w : World) (ha : SL w 1 RW A c s.out) (hb : SL w 1 RW B d t.out) :
    Calls Try.prog 20 #[.agg (outC s (.slice A s.out.length c)), .agg (outC t (.slice B t.out.length d))] w fun e w' => e = .returned (.bool (sameS s t)) ∧ Below w.heap.size w w' := by
  obtain ⟨w2, hw2⟩ : ∃ w2, w2 = (w.alloc (.cells (outC s (.slice A s.out.length c)) 31)).alloc (.cells (outC t (.slice B t.out.length d)) 31) := ⟨_, rfl⟩
  have hB2 : Below w.heap.size w w2 := by rw [hw2]; exact ((Below.refl _ _).alloc (Nat.le_refl _) _).alloc (by simp) _
  have hs2 : w2.heap.size = w.heap.size + 2 := by rw [hw2]; simp
  have h1 : w2.heap[w.heap.size]? = some (.cells (outC s (.slice A s.out.length c)) 31 (0, 0)) := by rw [hw2]; exact (Below.heap_alloc _ _ _ (by simp)).trans (heap_alloc_new w _)
  have h2 : w2.heap[w.heap.size + 1]? = some (.cells (outC t (.slice B t.out.length d)) 31 (0, 0)) := by
    rw [hw2]
    have := heap_alloc_new (w.alloc (.cells (outC s (.slice A s.out.length c)) 31)) (.cells (outC t (.slice B t.out.length d)) 31)
    rwa [show (w.alloc (.cells (outC s (.slice A s.out.length c)) 31)).heap.size = w.heap.size + 1 by simp] at this
  have cs : ∀ i, i < 69 → w2.cell? ⟨w.heap.size, i, none⟩ = some (cellM s ⟨.slice none 0 0, .slice none 0 0, .slice none 0 0, .slice none 0 0, .slice A s.out.length c⟩ (263 + i)) := fun i hi => (cell_of_block h1 i).trans (outC_get s ⟨_, _, _, _, _⟩ hi)
  have ct : ∀ i, i < 69 → w2.cell? ⟨w.heap.size + 1, i, none⟩ = some (cellM t ⟨.slice none 0 0, .slice none 0 0, .slice none 0 0, .slice none 0 0, .slice B t.out.length d⟩ (263 + i)) := fun i hi => (cell_of_block h2 i).trans (outC_get t ⟨_, _, _, _, _⟩ hi)
  have s0 : w2.cell? ⟨w.heap.size, 0, none⟩ = some (.bool s.done) := cs 0 (by omega)
  have s1 : w2.cell? ⟨w.heap.size, 1, none⟩ = some (.int .i64 s.trap) := cs 1 (by omega)
  have s2 : w2.cell? ⟨w.heap.size, 2, none⟩ = some (.int .i64 s.value) := cs 2 (by omega)
  have s3 : w2.cell? ⟨w.heap.size, 3, none⟩ = some (.slice A s.out.length c) := cs 3 (by omega)
  have s4 : w2.cell? ⟨w.heap.size, 4, none⟩ = some (.int .i64 s.steps) := cs 4 (by omega)
  have t0 : w2.cell? ⟨w.heap.size + 1, 0, none⟩ = some (.bool t.done) := ct 0 (by omega)
  have t1 : w2.cell? ⟨w.heap.size + 1, 1, none⟩ = some (.int .i64 t.trap) := ct 1 (by omega)
  have t2 : w2.cell? ⟨w.heap.size + 1, 2, none⟩ = some (.int .i64 t.value) := ct 2 (by omega)
  have t3 : w2.cell? ⟨w.heap.size + 1, 3, none⟩ = some (.slice B t.out.length d) := ct 3 (by omega)
  have t4 : w2.cell? ⟨w.heap.size + 1, 4, none⟩ = some (.int .i64 t.steps) := ct 4 (by omega)
  have LS := Lib.hid (load_mem (g := w.heap.size) (o := 5) (w := w2) (s := s) (fun i hi => (cs (5 + i) (by omega)).trans (by rw [show 263 + (5 + i) = 268 + i by omega, cellM_mem _ _ hi])))
  have LT := Lib.hid (load_mem (g := w.heap.size + 1) (o := 5) (w := w2) (s := t) (fun i hi => (ct (5 + i) (by omega)).trans (by rw [show 263 + (5 + i) = 268 + i by omega, cellM_mem _ _ hi])))
  have HAL := Lib.hid (alike_any s.out t.out A B c d w2 (SL.keep (kept_of_below hB2) (fun b o x hx => kept_of_below hB2 _ _ hx) ha) (SL.keep (kept_of_below hB2) (fun b o x hx => kept_of_below hB2 _ _ hx) hb))
  have HE : ∀ b : Bool, Hid (sameS s t = b) → Hid (sameS s t = b) := fun _ h => h
  have HBB := Lib.hid hB2
  clear cs ct h1 h2 ha hb hs2 hB2
  by_cases e1 : s.done = t.done
  · have f1 : (s.done == t.done) = true := by rw [e1]; simp
    by_cases e2 : s.trap = t.trap
    · have f2 : (s.trap == t.trap) = true := by rw [e2]; simp
      by_cases e3 : s.value = t.value
      · have f3 : (s.value == t.value) = true := by rw [e3]; simp
        by_cases e4 : s.steps = t.steps
        · have f4 : ((s.steps : Int) == (t.steps : Int)) = true := by rw [e4]; simp
          have HS : Hid (sameS s t = (decide (memL s = memL t) && decide (s.out = t.out))) := Lib.hid (by unfold sameS; simp [e1, e2, e3, e4])
          have heq := eq_mem s t w2
          by_cases e5 : memL s = memL t
          · have f5 : (memL s == memL t) = true := by rw [e5]; simp
            have HS2 : Hid (sameS s t = decide (s.out = t.out)) := Lib.hid (by rw [HS.out, decide_eq_true e5]; rfl)
            rw [f5] at heq
            clear e1 e2 e3 e4 e5
            go_enter Try.func20, Try.ntmps20
            go_upto_region 1 with fail
            rw [← hw2]
            clear hw2
            go_step
            iterate 28 (first | (go_step; go_simp; go_step) | (go_step; go_step))
            refine wpList_load_w w2 (by rfl) 29 (.tmp 32) rfl _ (by rfl) LS.out ?_
            (first | (go_step; go_simp; go_step) | (go_step; go_step))
            refine wpList_load_w w2 (by rfl) 29 (.tmp 34) rfl _ (by rfl) LT.out ?_
            go_wp2_with fail
            refine HAL.out.mono ?_
            rintro e w3 ⟨rfl, n, rfl⟩
            go_wp2_with fail
            go_ret
            exact ⟨by rw [HS2.out]; rfl, below_alike HBB.out n⟩
          · have f5 : (memL s == memL t) = false := by simp [e5]
            have HS2 : Hid (sameS s t = false) := Lib.hid (by rw [HS.out, decide_eq_false e5]; rfl)
            rw [f5] at heq
            clear e1 e2 e3 e4 e5
            go_enter Try.func20, Try.ntmps20
            go_upto_region 1 with fail
            rw [← hw2]
            clear hw2
            go_step
            iterate 28 (first | (go_step; go_simp; go_step) | (go_step; go_step))
            refine wpList_load_w w2 (by rfl) 29 (.tmp 32) rfl _ (by rfl) LS.out ?_
            (first | (go_step; go_simp; go_step) | (go_step; go_step))
            refine wpList_load_w w2 (by rfl) 29 (.tmp 34) rfl _ (by rfl) LT.out ?_
            go_wp2_with fail
            go_ret
            exact ⟨by rw [HS2.out]; rfl, HBB.out⟩
        · have f4 : ((s.steps : Int) == (t.steps : Int)) = false := by rw [beq_eq_false_iff_ne]; omega
          have HS : Hid (sameS s t = false) := Lib.hid (by unfold sameS; rw [decide_eq_false]; exact fun h => e4 h.2.2.2.1)
          clear e1 e2 e3 e4
          go_enter Try.func20, Try.ntmps20
          go_upto_region 1 with fail
          rw [← hw2]
          clear hw2
          go_wp2_with fail
          go_ret
          exact ⟨by rw [HS.out]; rfl, HBB.out⟩
      · have f3 : (s.value == t.value) = false := by simp [e3]
        have HS : Hid (sameS s t = false) := Lib.hid (by unfold sameS; rw [decide_eq_false]; exact fun h => e3 h.2.2.1)
        clear e1 e2 e3
        go_enter Try.func20, Try.ntmps20
        go_upto_region 1 with fail
        rw [← hw2]
        clear hw2
        go_wp2_with fail
        go_ret
        exact ⟨by rw [HS.out]; rfl, HBB.out⟩
    · have f2 : (s.trap == t.trap) = false := by simp [e2]
      have HS : Hid (sameS s t = false) := Lib.hid (by unfold sameS; rw [decide_eq_false]; exact fun h => e2 h.2.1)
      clear e1 e2
      go_enter Try.func20, Try.ntmps20
      go_upto_region 1 with fail
      rw [← hw2]
      clear hw2
      go_wp2_with fail
      go_ret
      exact ⟨by rw [HS.out]; rfl, HBB.out⟩
  · have f1 : (s.done == t.done) = false := by simp [e1]
    have HS : Hid (sameS s t = false) := Lib.hid (by unfold sameS; rw [decide_eq_false]; exact fun h => e1 h.1)
    clear e1
    go_enter Try.func20, Try.ntmps20
    go_upto_region 1 with fail
    rw [← hw2]
    clear hw2
    go_wp2_with fail
    go_ret
    exact ⟨by rw [HS.out]; rfl, HBB.out⟩
end Go.Proofs.Ytoidhjmhakajlaa

/- The walk of RunMore. -/
namespace Go.Proofs.Ytoidhjmhakajlaa
open Go.ChangeShapes Go.WideShapes Go.RowKit Go.Deep
set_option linter.unusedVariables false

def upF : FunD := ⟨1, 1, [1], [⟨[], [], ⟨3, 0, []⟩⟩]⟩
theorem up_proper : Proper [upF] := by show (modE [upF]).1 = 0; decide
theorem up_may : mayB [upF] 0 [7] 1 = true := by decide
theorem SL.nil {α : Type} {w : World} {sz : Nat} {R : World → Nat → Nat → α → Prop} : SL w sz R none 0 [] := ⟨Nat.le_refl _, ⟨by unfold maxLen; omega, fun _ => rfl⟩, fun h => absurd h (by simp)⟩
/-- An outcome is stored into a block that was just made. -/
theorem store_new (w : World) (s : St) (vo : Value) (h : vo.oneCell' = true) :
    (Instr.storeAt 31 (.pointer (some ⟨w.heap.size, 0, none⟩)) (.agg (outC s vo))).run Try.prog (w.alloc (.cells Try.zeroCells31 31)) = .ok () (w.alloc (.cells (outC s vo) 31)) :=
  run_storeAt_new w 31 Try.zeroCells31 (outC s vo) (by rw [outC_size]; exact out_size) (by rw [outC_size]; exact zero_out_size) (out_one s vo h)
/-- What a block of an outcome holds. -/
theorem out_cells {w : World} {g : Nat} {s : St} {vo : Value} (h : w.heap[g]? = some (.cells (outC s vo) 31 (0, 0))) :
    w.cell? ⟨g, 0, none⟩ = some (.bool s.done) ∧ w.cell? ⟨g, 1, none⟩ = some (.int .i64 s.trap) ∧ w.cell? ⟨g, 2, none⟩ = some (.int .i64 s.value) ∧ w.cell? ⟨g, 3, none⟩ = some vo ∧ w.cell? ⟨g, 4, none⟩ = some (.int .i64 s.steps) := by
  have hc : ∀ i, i < 69 → w.cell? ⟨g, i, none⟩ = some (cellM s ⟨.slice none 0 0, .slice none 0 0, .slice none 0 0, .slice none 0 0, vo⟩ (263 + i)) := fun i hi => (cell_of_block h i).trans (outC_get s ⟨_, _, _, _, _⟩ hi)
  exact ⟨hc 0 (by omega), hc 1 (by omega), hc 2 (by omega), hc 3 (by omega), hc 4 (by omega)⟩

set_option maxRecDepth 100000 in
set_option maxHeartbeats 8000000 in
theorem up_any (w : World) : Calls Try.prog 6 #[] w fun e w' => e = .returned (.bool true) ∧ Below w.heap.size w w' := by
  obtain ⟨w1, hw1, hs1, hk1, hB1, hc1, -⟩ := named w #[.int .i64 1] 3
  obtain ⟨w2, hw2, hs2, hk2, hB2, hc2, -⟩ := named w1 #[.slice none 0 0, .slice none 0 0, .int .i64 3, .int .i64 0, .slice none 0 0] 47
  obtain ⟨w3, hw3, hs3, hk3, hB3, hc3, -⟩ := named w2 #[.int .i64 1, .int .i64 1, .slice (some ⟨w.heap.size, 0, none⟩) 1 1, .slice (some ⟨w.heap.size + 1, 0, none⟩) 1 1] 39
  obtain ⟨w4, hw4, hs4, hk4, hB4, hc4, -⟩ := named w3 #[.int .i64 1, .int .i64 1, .slice (some ⟨w.heap.size, 0, none⟩) 1 1, .slice (some ⟨w.heap.size + 1, 0, none⟩) 1 1] 39
  obtain ⟨w5, hw5, hs5, hk5, hB5, hc5, -⟩ := named w4 #[.int .i64 7] 2
  have K25 : Kept w2 w5 := hk3.trans (hk4.trans hk5)
  have K15 : Kept w1 w5 := hk2.trans K25
  have hB : Below w.heap.size w w5 := (((hB1.trans (hB2.mono (by omega))).trans (hB3.mono (by omega))).trans (hB4.mono (by omega))).trans (hB5.mono (by omega))
  have r0 : SL w5 1 RInt (some ⟨w.heap.size, 0, none⟩) 1 [1] := SL.one ⟨K15 _ _ (hc1 0 _ rfl), by unfold I64; omega⟩
  have g2 : ∀ i u, (#[.slice none 0 0, .slice none 0 0, .int .i64 3, .int .i64 0, .slice none 0 0] : Array Value)[i]? = some u → w5.cell? ⟨w.heap.size + 1, i, none⟩ = some u := fun i u h => by
    have := K25 _ _ (hc2 i u h)
    rwa [hs1] at this
  have r1 : SL w5 5 RBlk (some ⟨w.heap.size + 1, 0, none⟩) 1 [⟨[], [], ⟨3, 0, []⟩⟩] := SL.one ⟨⟨none, 0, g2 0 _ rfl, SL.nil⟩, ⟨none, 0, g2 1 _ rfl, SL.nil⟩, ⟨g2 2 _ rfl, by show I64 3; unfold I64; omega⟩, ⟨g2 3 _ rfl, by show I64 0; unfold I64; omega⟩, none, 0, g2 4 _ rfl, SL.nil⟩
  have g4 : ∀ i u, (#[.int .i64 upF.params, .int .i64 upF.result, .slice (some ⟨w.heap.size, 0, none⟩) upF.regs.length 1, .slice (some ⟨w.heap.size + 1, 0, none⟩) upF.blocks.length 1] : Array Value)[i]? = some u → w5.cell? ⟨w.heap.size + 1 + 1 + 1, i, none⟩ = some u := fun i u h => by
    have := hk5 _ _ (hc4 i u h)
    rwa [show w3.heap.size = w.heap.size + 1 + 1 + 1 by omega] at this
  have r2 : VMod w5 (.agg #[.slice (some ⟨w.heap.size + 1 + 1 + 1, 0, none⟩) 1 1]) [upF] := ⟨_, _, rfl, SL.one (RFun.of_cells g4 r0 r1 (by unfold I64 upF; dsimp only; omega) (by unfold I64 upF; dsimp only; omega))⟩
  have r3 : SL w5 1 RInt (some ⟨w.heap.size + 1 + 1 + 1 + 1, 0, none⟩) 1 [7] := SL.one ⟨by
    have := hc5 0 _ rfl
    rwa [show w4.heap.size = w.heap.size + 1 + 1 + 1 + 1 by omega] at this, by unfold I64; omega⟩
  have hsm : SmallM [upF] := ⟨by decide, fun f hf => by
    rw [List.mem_singleton.1 hf]
    refine ⟨by decide, by decide, by decide, fun b hb => ?_⟩
    have hb' : b = ⟨[], [], ⟨3, 0, []⟩⟩ := List.mem_singleton.1 hb
    subst hb'
    exact ⟨by decide, by decide, by decide, (fun x hx => by simp at hx), (fun x hx => by simp at hx)⟩⟩
  have HRUN := Lib.hid (run_any [upF] 0 [7] 1 _ _ 1 w5 r2 r3 hsm (by unfold I64; omega) (by unfold I64; omega))
  have HB := Lib.hid hB
  clear hs1 hk1 hB1 hc1 hs2 hk2 hB2 hc2 hs3 hk3 hB3 hc3 hs4 hk4 hB4 hc4 hs5 hk5 hB5 hc5 K25 K15 hB r0 g2 r1 g4 r2 r3 hsm
  go_enter Try.func6, Try.ntmps6
  go_wp2_with fail
  rw [← hw1, ← hw2, ← hw3, ← hw4, ← hw5]
  refine HRUN.out.mono ?_
  rintro e w6 ⟨o, err, rfl, hb6, hcase⟩
  rcases hcase with ⟨h, _⟩ | ⟨_, h, _⟩ | ⟨_, _, rfl, A, c, rfl, hso⟩
  · exact absurd up_proper h
  · rw [up_may] at h; cases h
  · clear hso
    have hB6 : Below w.heap.size w w6 := HB.out.trans (hb6.mono HB.out.size)
    have hst := store_new w6 (runS [upF] (Int.toNat 0) [7] (Int.toNat 1)) (.slice A (runS [upF] (Int.toNat 0) [7] (Int.toNat 1)).out.length c) rfl
    have f0 : (runS [upF] (Int.toNat 0) [7] (Int.toNat 1)).done = true := by rfl
    have f1 : (runS [upF] (Int.toNat 0) [7] (Int.toNat 1)).value = 7 := by rfl
    have f2 : (runS [upF] (Int.toNat 0) [7] (Int.toNat 1)).steps = 1 := by rfl
    generalize hs : runS [upF] (Int.toNat 0) [7] (Int.toNat 1) = s at *
    obtain ⟨w7, hw7⟩ : ∃ w7, w7 = w6.alloc (.cells (outC s (.slice A s.out.length c)) 31) := ⟨_, rfl⟩
    have hB7 : Below w.heap.size w w7 := by rw [hw7]; exact hB6.alloc hB6.size _
    obtain ⟨d0, -, d2, -, d4⟩ := out_cells (w := w7) (g := w6.heap.size) (s := s) (vo := .slice A s.out.length c) (by rw [hw7]; exact heap_alloc_new w6 _)
    rw [f0] at d0
    rw [f1] at d2
    rw [f2] at d4
    rw [← hw7] at hst
    clear hs f0 f1 f2 hB6 hb6 hw1 hw2 hw3 hw4 hw5
    dsimp only
    go_step
    iterate 4 (first | (go_step; go_simp; go_step) | (go_step; go_step))
    refine wpList_store_any _ rfl 31 (.tmp 2) (.tmp 15) rfl _ _ (by rfl) (by rfl) hst ?_
    clear hst hw7
    go_wp2_with fail
    go_ret
    exact ⟨rfl, hB7⟩

/-- A run, told for a caller. -/
def ToldR (m : List FunD) (f : Int) (args : List Int) (steps : Int) (w : World) (e : Ending) (w' : World) : Prop :=
  ∃ s A c err, e = .returned (.tuple #[.agg (outC s (.slice A s.out.length c)), err]) ∧ Below w.heap.size w w' ∧ SL w' 1 RW A c s.out ∧
    ((∃ t x, err = .iface t x) ∧ ¬ (Proper m ∧ mayB m f args steps = true) ∨ err = .nilIface ∧ Proper m ∧ mayB m f args steps = true ∧ s = runS m f.toNat args steps.toNat)
theorem run_told {m : List FunD} {f : Int} {args : List Int} {steps : Int} {w : World} {e : Ending} {w' : World} (h : ToldRun m f args steps w e w') : ToldR m f args steps w e w' := by
  obtain ⟨o, err, rfl, hb, ⟨hp, he, rfl⟩ | ⟨hp, hm, rfl, rfl⟩ | ⟨hp, hm, rfl, A, c, rfl, hs⟩⟩ := h
  · exact ⟨zeroS, none, 0, err, rfl, hb, SL.nil, .inl ⟨he.iface hp, fun h => hp h.1⟩⟩
  · exact ⟨zeroS, none, 0, _, rfl, hb, SL.nil, .inl ⟨⟨_, _, rfl⟩, fun h => by rw [hm] at h; cases h.2⟩⟩
  · exact ⟨_, A, c, _, rfl, hb, SL.imp (fun b o x hx => hx.2) hs.sl, .inr ⟨rfl, hp, hm, rfl⟩⟩
/-- An outcome in a block of its own. -/
def OutAt (w : World) (g : Nat) (s : St) (A : Option Addr) (c : Nat) : Prop :=
  (∀ i, i < 69 → w.cell? ⟨g, i, none⟩ = some (cellM s ⟨.slice none 0 0, .slice none 0 0, .slice none 0 0, .slice none 0 0, .slice A s.out.length c⟩ (263 + i))) ∧ SL w 1 RW A c s.out
theorem OutAt.keep {w w' : World} {g : Nat} {s : St} {A : Option Addr} {c : Nat} (h : OutAt w g s A c) (hk : Kept w w') : OutAt w' g s A c :=
  ⟨fun i hi => hk _ _ (h.1 i hi), SL.keep hk (fun b o x hx => hk _ _ hx) h.2⟩
theorem OutAt.new {w w' : World} {s : St} {A : Option Addr} {c : Nat} (hw : w' = w.alloc (.cells (outC s (.slice A s.out.length c)) 31)) (h : SL w 1 RW A c s.out) : OutAt w' w.heap.size s A c := by
  subst hw
  have hk : Kept w (w.alloc (.cells (outC s (.slice A s.out.length c)) 31)) := kept_of_below ((Below.refl w.heap.size w).alloc (Nat.le_refl _) _)
  exact ⟨fun i hi => (cell_of_block (heap_alloc_new w _) i).trans (outC_get s ⟨_, _, _, _, _⟩ hi), SL.keep hk (fun b o x hx => hk _ _ hx) h⟩
theorem OutAt.load {w : World} {g : Nat} {s : St} {A : Option Addr} {c : Nat} (h : OutAt w g s A c) :
    (Instr.loadAt 31 (.pointer (some ⟨g, 0, none⟩))).run Try.prog w = .ok (.agg (outC s (.slice A s.out.length c))) w := by
  have hl := run_loadCells_list (P := Try.prog) (w := w) ⟨g, 0, none⟩ (outC s (.slice A s.out.length c)).toList (fun j v hv => by
    rw [add_plain']
    have hj : j < 69 := by have := (List.getElem?_eq_some_iff.1 hv).1; rwa [Array.length_toList, outC_size] at this
    rw [Array.getElem?_toList] at hv
    rw [Nat.zero_add, h.1 j hj, ← hv]
    exact (outC_get s ⟨_, _, _, _, _⟩ hj).symm)
  rw [Array.length_toList, outC_size, Array.toArray_toList] at hl
  have hagg : (isAgg 31).run Try.prog w = .ok true w := by
    unfold isAgg
    rw [Sem.run_bind, run_underlying Try.underlying31 w]
    rfl
  have hsz : (sizeOf 31).run Try.prog w = .ok 69 w := by
    have := out_size
    cases hq : Try.prog.info? 31 with
    | none => simp [hq] at this
    | some i => simp [hq] at this; simp [sizeOf, typeInfo, hq, this]
  simp only [Instr.loadAt, Instr.sureAddr, loadVar, Sem.run_bind, Sem.run_pure, Result.andThen_ok, hagg, hsz, hl, if_true]
theorem OutAt.cells {w : World} {g : Nat} {s : St} {A : Option Addr} {c : Nat} (h : OutAt w g s A c) :
    w.cell? ⟨g, 0, none⟩ = some (.bool s.done) ∧ w.cell? ⟨g, 3, none⟩ = some (.slice A s.out.length c) ∧ w.cell? ⟨g, 4, none⟩ = some (.int .i64 s.steps) :=
  ⟨h.1 0 (by omega), h.1 3 (by omega), h.1 4 (by omega)⟩
theorem begins_app (a r : List Int) : beginsB a (a ++ r) = true := by
  unfold beginsB
  simp
theorem same_refl (s : St) : sameS s s = true := by unfold sameS; simp
theorem same_none (m : List FunD) (f : Nat) (args : List Int) : sameS (runS m f args 0) zeroS = true := by
  unfold sameS
  exact decide_eq_true ⟨rfl, rfl, rfl, rfl, rfl, rfl⟩
/-- What more steps make of a run. -/
theorem more_facts (m : List FunD) (f : Nat) (args : List Int) (k n : Nat) :
    (runS m f args k).steps ≤ k ∧ (runS m f args k).steps ≤ (runS m f args (k + n)).steps ∧ ((runS m f args k).done = true → runS m f args (k + n) = runS m f args k) ∧
    ((runS m f args k).done = false → (runS m f args k).steps = k) ∧ ∃ r, (runS m f args (k + n)).out = (runS m f args k).out ++ r := by
  have h0 : (startS f args).steps = 0 := rfl
  obtain ⟨a1, a2, a3⟩ := loopS_steps m k (startS f args)
  rw [runS_more]
  obtain ⟨b1, b2, b3⟩ := loopS_steps m n (runS m f args k)
  refine ⟨?_, b1, fun h => loopS_done h, fun h => ?_, loopS_out m n _⟩
  · show (loopS m k (startS f args)).steps ≤ k; omega
  · have := a3 h; show (loopS m k (startS f args)).steps = k; omega
end Go.Proofs.Ytoidhjmhakajlaa
