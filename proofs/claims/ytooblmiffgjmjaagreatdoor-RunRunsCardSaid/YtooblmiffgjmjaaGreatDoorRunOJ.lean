/- The document's Same of two outcomes. -/
import Derived.Test.YtooblmiffgjmjaaGreatDoorRunEJ
import Derived.Deep.Cut
import Derived.Test.YtooblmiffgjmjaaGreatDoorArMJ
import Derived.ProofKit
namespace Go.Proofs.YtooblmiffgjmjaaGreatDoor
open Go.ChangeShapes Go.WideShapes Go.RowKit Go.Deep
set_option linter.unusedVariables false

theorem below_alike {B : Nat} {w w' : World} (h : Below B w w') (n : Nat) : Below B w (w'.drewN n) := below_drewN h n

set_option maxRecDepth 100000 in
set_option maxHeartbeats 8000000 in
theorem sameO_any (s t : St) (A B : Option Addr) (c d : Nat) (w : World) (ha : SL w 1 RW A c s.out) (hb : SL w 1 RW B d t.out) :
    Calls Tryz.prog 10 #[.agg (outC s (.slice A s.out.length c)), .agg (outC t (.slice B t.out.length d))] w fun e w' => e = .returned (.bool (sameS s t)) ∧ Below w.heap.size w w' := by
  obtain ⟨w2, hw2⟩ : ∃ w2, w2 = (w.alloc (.cells (outC s (.slice A s.out.length c)) 31)).alloc (.cells (outC t (.slice B t.out.length d)) 31) := ⟨_, rfl⟩
  have hB2 : Below w.heap.size w w2 := by rw [hw2]; exact ((Below.refl _ _).alloc (Nat.le_refl _) _).alloc (by simp) _
  have hs2 : w2.heap.size = w.heap.size + 2 := by rw [hw2]; simp
  have h1 : w2.heap[w.heap.size]? = some (.cells (outC s (.slice A s.out.length c)) 31 (0, 0)) := by rw [hw2]; exact (Below.heap_alloc _ _ _ (by simp)).trans (heap_alloc_new w _)
  have h2 : w2.heap[w.heap.size + 1]? = some (.cells (outC t (.slice B t.out.length d)) 31 (0, 0)) := by
    rw [hw2]
    have := heap_alloc_new (w.alloc (.cells (outC s (.slice A s.out.length c)) 31)) (.cells (outC t (.slice B t.out.length d)) 31)
    rwa [show (w.alloc (.cells (outC s (.slice A s.out.length c)) 31)).heap.size = w.heap.size + 1 by simp] at this
  have cs : ∀ i, i < 69 → w2.cell? ⟨w.heap.size, i, none⟩ = some (cellM s ⟨.slice none 0 0, .slice none 0 0, .slice none 0 0, .slice none 0 0, .slice A s.out.length c⟩ (263 + i)) := fun i hi => (cell_of_block h1 i).trans (outC_get s ⟨_, _, _, _, _⟩ hi)
  have ct : ∀ i, i < 69 → w2.cell? ⟨w.heap.size + 1, i, none⟩ = some (cellM t ⟨.slice none 0 0, .slice none 0 0, .slice none 0 0, .slice none 0 0, .slice B t.out.length d⟩ (263 + i)) := fun i hi => (cell_of_block h2 i).trans (outC_get t ⟨_, _, _, _, _⟩ hi)
  have s0 : w2.cell? ⟨w.heap.size, 0, none⟩ = some (.bool s.done) := cs 0 (by omega)
  have s1 : w2.cell? ⟨w.heap.size, 1, none⟩ = some (.int .i64 s.trap) := cs 1 (by omega)
  have s2 : w2.cell? ⟨w.heap.size, 2, none⟩ = some (.int .i64 s.value) := cs 2 (by omega)
  have s3 : w2.cell? ⟨w.heap.size, 3, none⟩ = some (.slice A s.out.length c) := cs 3 (by omega)
  have s4 : w2.cell? ⟨w.heap.size, 4, none⟩ = some (.int .i64 s.steps) := cs 4 (by omega)
  have t0 : w2.cell? ⟨w.heap.size + 1, 0, none⟩ = some (.bool t.done) := ct 0 (by omega)
  have t1 : w2.cell? ⟨w.heap.size + 1, 1, none⟩ = some (.int .i64 t.trap) := ct 1 (by omega)
  have t2 : w2.cell? ⟨w.heap.size + 1, 2, none⟩ = some (.int .i64 t.value) := ct 2 (by omega)
  have t3 : w2.cell? ⟨w.heap.size + 1, 3, none⟩ = some (.slice B t.out.length d) := ct 3 (by omega)
  have t4 : w2.cell? ⟨w.heap.size + 1, 4, none⟩ = some (.int .i64 t.steps) := ct 4 (by omega)
  have LS := Lib.hid (load_mem (g := w.heap.size) (o := 5) (w := w2) (s := s) (fun i hi => (cs (5 + i) (by omega)).trans (by rw [show 263 + (5 + i) = 268 + i by omega, cellM_mem _ _ hi])))
  have LT := Lib.hid (load_mem (g := w.heap.size + 1) (o := 5) (w := w2) (s := t) (fun i hi => (ct (5 + i) (by omega)).trans (by rw [show 263 + (5 + i) = 268 + i by omega, cellM_mem _ _ hi])))
  have HAL := Lib.hid (alike_any s.out t.out A B c d w2 (SL.keep (kept_of_below hB2) (fun b o x hx => kept_of_below hB2 _ _ hx) ha) (SL.keep (kept_of_below hB2) (fun b o x hx => kept_of_below hB2 _ _ hx) hb))
  have HE : ∀ b : Bool, Hid (sameS s t = b) → Hid (sameS s t = b) := fun _ h => h
  have HBB := Lib.hid hB2
  clear cs ct h1 h2 ha hb hs2 hB2
  by_cases e1 : s.done = t.done
  · have f1 : (s.done == t.done) = true := by rw [e1]; simp
    by_cases e2 : s.trap = t.trap
    · have f2 : (s.trap == t.trap) = true := by rw [e2]; simp
      by_cases e3 : s.value = t.value
      · have f3 : (s.value == t.value) = true := by rw [e3]; simp
        by_cases e4 : s.steps = t.steps
        · have f4 : ((s.steps : Int) == (t.steps : Int)) = true := by rw [e4]; simp
          have HS : Hid (sameS s t = (decide (memL s = memL t) && decide (s.out = t.out))) := Lib.hid (by unfold sameS; simp [e1, e2, e3, e4])
          have heq := eq_mem s t w2
          by_cases e5 : memL s = memL t
          · have f5 : (memL s == memL t) = true := by rw [e5]; simp
            have HS2 : Hid (sameS s t = decide (s.out = t.out)) := Lib.hid (by rw [HS.out, decide_eq_true e5]; rfl)
            rw [f5] at heq
            clear e1 e2 e3 e4 e5
            go_enter Tryz.func10, Tryz.ntmps10
            go_upto_region 1 with fail
            rw [← hw2]
            clear hw2
            go_step
            iterate 28 (first | (go_step; go_simp; go_step) | (go_step; go_step))
            refine wpList_load_w w2 (by rfl) 29 (.tmp 32) rfl _ (by rfl) LS.out ?_
            (first | (go_step; go_simp; go_step) | (go_step; go_step))
            refine wpList_load_w w2 (by rfl) 29 (.tmp 34) rfl _ (by rfl) LT.out ?_
            go_wp2_with fail
            refine HAL.out.mono ?_
            rintro e w3 ⟨rfl, n, rfl⟩
            go_wp2_with fail
            go_ret
            exact ⟨by rw [HS2.out]; rfl, below_alike HBB.out n⟩
          · have f5 : (memL s == memL t) = false := by simp [e5]
            have HS2 : Hid (sameS s t = false) := Lib.hid (by rw [HS.out, decide_eq_false e5]; rfl)
            rw [f5] at heq
            clear e1 e2 e3 e4 e5
            go_enter Tryz.func10, Tryz.ntmps10
            go_upto_region 1 with fail
            rw [← hw2]
            clear hw2
            go_step
            iterate 28 (first | (go_step; go_simp; go_step) | (go_step; go_step))
            refine wpList_load_w w2 (by rfl) 29 (.tmp 32) rfl _ (by rfl) LS.out ?_
            (first | (go_step; go_simp; go_step) | (go_step; go_step))
            refine wpList_load_w w2 (by rfl) 29 (.tmp 34) rfl _ (by rfl) LT.out ?_
            go_wp2_with fail
            go_ret
            exact ⟨by rw [HS2.out]; rfl, HBB.out⟩
        · have f4 : ((s.steps : Int) == (t.steps : Int)) = false := by rw [beq_eq_false_iff_ne]; omega
          have HS : Hid (sameS s t = false) := Lib.hid (by unfold sameS; rw [decide_eq_false]; exact fun h => e4 h.2.2.2.1)
          clear e1 e2 e3 e4
          go_enter Tryz.func10, Tryz.ntmps10
          go_upto_region 1 with fail
          rw [← hw2]
          clear hw2
          go_wp2_with fail
          go_ret
          exact ⟨by rw [HS.out]; rfl, HBB.out⟩
      · have f3 : (s.value == t.value) = false := by simp [e3]
        have HS : Hid (sameS s t = false) := Lib.hid (by unfold sameS; rw [decide_eq_false]; exact fun h => e3 h.2.2.1)
        clear e1 e2 e3
        go_enter Tryz.func10, Tryz.ntmps10
        go_upto_region 1 with fail
        rw [← hw2]
        clear hw2
        go_wp2_with fail
        go_ret
        exact ⟨by rw [HS.out]; rfl, HBB.out⟩
    · have f2 : (s.trap == t.trap) = false := by simp [e2]
      have HS : Hid (sameS s t = false) := Lib.hid (by unfold sameS; rw [decide_eq_false]; exact fun h => e2 h.2.1)
      clear e1 e2
      go_enter Tryz.func10, Tryz.ntmps10
      go_upto_region 1 with fail
      rw [← hw2]
      clear hw2
      go_wp2_with fail
      go_ret
      exact ⟨by rw [HS.out]; rfl, HBB.out⟩
  · have f1 : (s.done == t.done) = false := by simp [e1]
    have HS : Hid (sameS s t = false) := Lib.hid (by unfold sameS; rw [decide_eq_false]; exact fun h => e1 h.1)
    clear e1
    go_enter Tryz.func10, Tryz.ntmps10
    go_upto_region 1 with fail
    rw [← hw2]
    clear hw2
    go_wp2_with fail
    go_ret
    exact ⟨by rw [HS.out]; rfl, HBB.out⟩
end Go.Proofs.YtooblmiffgjmjaaGreatDoor

/- The walk of RunMore. -/
namespace Go.Proofs.YtooblmiffgjmjaaGreatDoor
open Go.ChangeShapes Go.WideShapes Go.RowKit Go.Deep
set_option linter.unusedVariables false

def upF : FunD := ⟨1, 1, [1], [⟨[], [], ⟨3, 0, []⟩⟩]⟩
theorem up_proper : Proper [upF] := by show (modE [upF]).1 = 0; decide
theorem up_may : mayB [upF] 0 [7] 1 = true := by decide
theorem SL.nil {α : Type} {w : World} {sz : Nat} {R : World → Nat → Nat → α → Prop} : SL w sz R none 0 [] := ⟨Nat.le_refl _, ⟨by unfold maxLen; omega, fun _ => rfl⟩, fun h => absurd h (by simp)⟩
/-- An outcome is stored into a block that was just made. -/
theorem store_new (w : World) (s : St) (vo : Value) (h : vo.oneCell' = true) :
    (Instr.storeAt 31 (.pointer (some ⟨w.heap.size, 0, none⟩)) (.agg (outC s vo))).run Tryz.prog (w.alloc (.cells Tryz.zeroCells31 31)) = .ok () (w.alloc (.cells (outC s vo) 31)) :=
  run_storeAt_new w 31 Tryz.zeroCells31 (outC s vo) (by rw [outC_size]; exact out_size) (by rw [outC_size]; exact zero_out_size) (out_one s vo h)
/-- What a block of an outcome holds. -/
theorem out_cells {w : World} {g : Nat} {s : St} {vo : Value} (h : w.heap[g]? = some (.cells (outC s vo) 31 (0, 0))) :
    w.cell? ⟨g, 0, none⟩ = some (.bool s.done) ∧ w.cell? ⟨g, 1, none⟩ = some (.int .i64 s.trap) ∧ w.cell? ⟨g, 2, none⟩ = some (.int .i64 s.value) ∧ w.cell? ⟨g, 3, none⟩ = some vo ∧ w.cell? ⟨g, 4, none⟩ = some (.int .i64 s.steps) := by
  have hc : ∀ i, i < 69 → w.cell? ⟨g, i, none⟩ = some (cellM s ⟨.slice none 0 0, .slice none 0 0, .slice none 0 0, .slice none 0 0, vo⟩ (263 + i)) := fun i hi => (cell_of_block h i).trans (outC_get s ⟨_, _, _, _, _⟩ hi)
  exact ⟨hc 0 (by omega), hc 1 (by omega), hc 2 (by omega), hc 3 (by omega), hc 4 (by omega)⟩

set_option maxRecDepth 100000 in
set_option maxHeartbeats 8000000 in
theorem up_any (w : World) : Calls Tryz.prog 4 #[] w fun e w' => e = .returned (.bool true) ∧ Below w.heap.size w w' := by
  obtain ⟨w1, hw1, hs1, hk1, hB1, hc1, -⟩ := named w #[.int .i64 1] 3
  obtain ⟨w2, hw2, hs2, hk2, hB2, hc2, -⟩ := named w1 #[.slice none 0 0, .slice none 0 0, .int .i64 3, .int .i64 0, .slice none 0 0] 49
  obtain ⟨w3, hw3, hs3, hk3, hB3, hc3, -⟩ := named w2 #[.int .i64 1, .int .i64 1, .slice (some ⟨w.heap.size, 0, none⟩) 1 1, .slice (some ⟨w.heap.size + 1, 0, none⟩) 1 1] 52
  obtain ⟨w4, hw4, hs4, hk4, hB4, hc4, -⟩ := named w3 #[.int .i64 1, .int .i64 1, .slice (some ⟨w.heap.size, 0, none⟩) 1 1, .slice (some ⟨w.heap.size + 1, 0, none⟩) 1 1] 52
  obtain ⟨w5, hw5, hs5, hk5, hB5, hc5, -⟩ := named w4 #[.int .i64 7] 2
  have K25 : Kept w2 w5 := hk3.trans (hk4.trans hk5)
  have K15 : Kept w1 w5 := hk2.trans K25
  have hB : Below w.heap.size w w5 := (((hB1.trans (hB2.mono (by omega))).trans (hB3.mono (by omega))).trans (hB4.mono (by omega))).trans (hB5.mono (by omega))
  have r0 : SL w5 1 RInt (some ⟨w.heap.size, 0, none⟩) 1 [1] := SL.one ⟨K15 _ _ (hc1 0 _ rfl), by unfold I64; omega⟩
  have g2 : ∀ i u, (#[.slice none 0 0, .slice none 0 0, .int .i64 3, .int .i64 0, .slice none 0 0] : Array Value)[i]? = some u → w5.cell? ⟨w.heap.size + 1, i, none⟩ = some u := fun i u h => by
    have := K25 _ _ (hc2 i u h)
    rwa [hs1] at this
  have r1 : SL w5 5 RBlk (some ⟨w.heap.size + 1, 0, none⟩) 1 [⟨[], [], ⟨3, 0, []⟩⟩] := SL.one ⟨⟨none, 0, g2 0 _ rfl, SL.nil⟩, ⟨none, 0, g2 1 _ rfl, SL.nil⟩, ⟨g2 2 _ rfl, by show I64 3; unfold I64; omega⟩, ⟨g2 3 _ rfl, by show I64 0; unfold I64; omega⟩, none, 0, g2 4 _ rfl, SL.nil⟩
  have g4 : ∀ i u, (#[.int .i64 upF.params, .int .i64 upF.result, .slice (some ⟨w.heap.size, 0, none⟩) upF.regs.length 1, .slice (some ⟨w.heap.size + 1, 0, none⟩) upF.blocks.length 1] : Array Value)[i]? = some u → w5.cell? ⟨w.heap.size + 1 + 1 + 1, i, none⟩ = some u := fun i u h => by
    have := hk5 _ _ (hc4 i u h)
    rwa [show w3.heap.size = w.heap.size + 1 + 1 + 1 by omega] at this
  have r2 : VMod w5 (.agg #[.slice (some ⟨w.heap.size + 1 + 1 + 1, 0, none⟩) 1 1]) [upF] := ⟨_, _, rfl, SL.one (RFun.of_cells g4 r0 r1 (by unfold I64 upF; dsimp only; omega) (by unfold I64 upF; dsimp only; omega))⟩
  have r3 : SL w5 1 RInt (some ⟨w.heap.size + 1 + 1 + 1 + 1, 0, none⟩) 1 [7] := SL.one ⟨by
    have := hc5 0 _ rfl
    rwa [show w4.heap.size = w.heap.size + 1 + 1 + 1 + 1 by omega] at this, by unfold I64; omega⟩
  have hsm : SmallM [upF] := ⟨by decide, fun f hf => by
    rw [List.mem_singleton.1 hf]
    refine ⟨by decide, by decide, by decide, fun b hb => ?_⟩
    have hb' : b = ⟨[], [], ⟨3, 0, []⟩⟩ := List.mem_singleton.1 hb
    subst hb'
    exact ⟨by decide, by decide, by decide, (fun x hx => by simp at hx), (fun x hx => by simp at hx)⟩⟩
  have HRUN := Lib.hid (run_any [upF] 0 [7] 1 _ _ 1 w5 r2 r3 hsm (by unfold I64; omega) (by unfold I64; omega))
  have HB := Lib.hid hB
  clear hs1 hk1 hB1 hc1 hs2 hk2 hB2 hc2 hs3 hk3 hB3 hc3 hs4 hk4 hB4 hc4 hs5 hk5 hB5 hc5 K25 K15 hB r0 g2 r1 g4 r2 r3 hsm
  go_enter Tryz.func4, Tryz.ntmps4
  go_wp2_with fail
  rw [← hw1, ← hw2, ← hw3, ← hw4, ← hw5]
  refine HRUN.out.mono ?_
  rintro e w6 ⟨o, err, rfl, hb6, hcase⟩
  rcases hcase with ⟨h, _⟩ | ⟨_, h, _⟩ | ⟨_, _, rfl, A, c, rfl, hso⟩
  · exact absurd up_proper h
  · rw [up_may] at h; cases h
  · clear hso
    have hB6 : Below w.heap.size w w6 := HB.out.trans (hb6.mono HB.out.size)
    have hst := store_new w6 (runS [upF] (Int.toNat 0) [7] (Int.toNat 1)) (.slice A (runS [upF] (Int.toNat 0) [7] (Int.toNat 1)).out.length c) rfl
    have f0 : (runS [upF] (Int.toNat 0) [7] (Int.toNat 1)).done = true := by rfl
    have f1 : (runS [upF] (Int.toNat 0) [7] (Int.toNat 1)).value = 7 := by rfl
    have f2 : (runS [upF] (Int.toNat 0) [7] (Int.toNat 1)).steps = 1 := by rfl
    generalize hs : runS [upF] (Int.toNat 0) [7] (Int.toNat 1) = s at *
    obtain ⟨w7, hw7⟩ : ∃ w7, w7 = w6.alloc (.cells (outC s (.slice A s.out.length c)) 31) := ⟨_, rfl⟩
    have hB7 : Below w.heap.size w w7 := by rw [hw7]; exact hB6.alloc hB6.size _
    obtain ⟨d0, -, d2, -, d4⟩ := out_cells (w := w7) (g := w6.heap.size) (s := s) (vo := .slice A s.out.length c) (by rw [hw7]; exact heap_alloc_new w6 _)
    rw [f0] at d0
    rw [f1] at d2
    rw [f2] at d4
    rw [← hw7] at hst
    clear hs f0 f1 f2 hB6 hb6 hw1 hw2 hw3 hw4 hw5
    dsimp only
    go_step
    iterate 4 (first | (go_step; go_simp; go_step) | (go_step; go_step))
    refine wpList_store_any _ rfl 31 (.tmp 2) (.tmp 15) rfl _ _ (by rfl) (by rfl) hst ?_
    clear hst hw7
    go_wp2_with fail
    go_ret
    exact ⟨rfl, hB7⟩

/-- A run, told for a caller. -/
def ToldR (m : List FunD) (f : Int) (args : List Int) (steps : Int) (w : World) (e : Ending) (w' : World) : Prop :=
  ∃ s A c err, e = .returned (.tuple #[.agg (outC s (.slice A s.out.length c)), err]) ∧ Below w.heap.size w w' ∧ SL w' 1 RW A c s.out ∧
    ((∃ t x, err = .iface t x) ∧ ¬ (Proper m ∧ mayB m f args steps = true) ∨ err = .nilIface ∧ Proper m ∧ mayB m f args steps = true ∧ s = runS m f.toNat args steps.toNat)
theorem run_told {m : List FunD} {f : Int} {args : List Int} {steps : Int} {w : World} {e : Ending} {w' : World} (h : ToldRun m f args steps w e w') : ToldR m f args steps w e w' := by
  obtain ⟨o, err, rfl, hb, ⟨hp, he, rfl⟩ | ⟨hp, hm, rfl, rfl⟩ | ⟨hp, hm, rfl, A, c, rfl, hs⟩⟩ := h
  · exact ⟨zeroS, none, 0, err, rfl, hb, SL.nil, .inl ⟨he.iface hp, fun h => hp h.1⟩⟩
  · exact ⟨zeroS, none, 0, _, rfl, hb, SL.nil, .inl ⟨⟨_, _, rfl⟩, fun h => by rw [hm] at h; cases h.2⟩⟩
  · exact ⟨_, A, c, _, rfl, hb, SL.imp (fun b o x hx => hx.2) hs.sl, .inr ⟨rfl, hp, hm, rfl⟩⟩
/-- An outcome in a block of its own. -/
def OutAt (w : World) (g : Nat) (s : St) (A : Option Addr) (c : Nat) : Prop :=
  (∀ i, i < 69 → w.cell? ⟨g, i, none⟩ = some (cellM s ⟨.slice none 0 0, .slice none 0 0, .slice none 0 0, .slice none 0 0, .slice A s.out.length c⟩ (263 + i))) ∧ SL w 1 RW A c s.out
theorem OutAt.keep {w w' : World} {g : Nat} {s : St} {A : Option Addr} {c : Nat} (h : OutAt w g s A c) (hk : Kept w w') : OutAt w' g s A c :=
  ⟨fun i hi => hk _ _ (h.1 i hi), SL.keep hk (fun b o x hx => hk _ _ hx) h.2⟩
theorem OutAt.new {w w' : World} {s : St} {A : Option Addr} {c : Nat} (hw : w' = w.alloc (.cells (outC s (.slice A s.out.length c)) 31)) (h : SL w 1 RW A c s.out) : OutAt w' w.heap.size s A c := by
  subst hw
  have hk : Kept w (w.alloc (.cells (outC s (.slice A s.out.length c)) 31)) := kept_of_below ((Below.refl w.heap.size w).alloc (Nat.le_refl _) _)
  exact ⟨fun i hi => (cell_of_block (heap_alloc_new w _) i).trans (outC_get s ⟨_, _, _, _, _⟩ hi), SL.keep hk (fun b o x hx => hk _ _ hx) h⟩
theorem OutAt.load {w : World} {g : Nat} {s : St} {A : Option Addr} {c : Nat} (h : OutAt w g s A c) :
    (Instr.loadAt 31 (.pointer (some ⟨g, 0, none⟩))).run Tryz.prog w = .ok (.agg (outC s (.slice A s.out.length c))) w := by
  have hl := run_loadCells_list (P := Tryz.prog) (w := w) ⟨g, 0, none⟩ (outC s (.slice A s.out.length c)).toList (fun j v hv => by
    rw [add_plain']
    have hj : j < 69 := by have := (List.getElem?_eq_some_iff.1 hv).1; rwa [Array.length_toList, outC_size] at this
    rw [Array.getElem?_toList] at hv
    rw [Nat.zero_add, h.1 j hj, ← hv]
    exact (outC_get s ⟨_, _, _, _, _⟩ hj).symm)
  rw [Array.length_toList, outC_size, Array.toArray_toList] at hl
  have hagg : (isAgg 31).run Tryz.prog w = .ok true w := by
    unfold isAgg
    rw [Sem.run_bind, run_underlying Tryz.underlying31 w]
    rfl
  have hsz : (sizeOf 31).run Tryz.prog w = .ok 69 w := by
    have := out_size
    cases hq : Tryz.prog.info? 31 with
    | none => simp [hq] at this
    | some i => simp [hq] at this; simp [sizeOf, typeInfo, hq, this]
  simp only [Instr.loadAt, Instr.sureAddr, loadVar, Sem.run_bind, Sem.run_pure, Result.andThen_ok, hagg, hsz, hl, if_true]
theorem OutAt.cells {w : World} {g : Nat} {s : St} {A : Option Addr} {c : Nat} (h : OutAt w g s A c) :
    w.cell? ⟨g, 0, none⟩ = some (.bool s.done) ∧ w.cell? ⟨g, 3, none⟩ = some (.slice A s.out.length c) ∧ w.cell? ⟨g, 4, none⟩ = some (.int .i64 s.steps) :=
  ⟨h.1 0 (by omega), h.1 3 (by omega), h.1 4 (by omega)⟩
theorem begins_app (a r : List Int) : beginsB a (a ++ r) = true := by
  unfold beginsB
  simp
theorem same_refl (s : St) : sameS s s = true := by unfold sameS; simp
theorem same_none (m : List FunD) (f : Nat) (args : List Int) : sameS (runS m f args 0) zeroS = true := by
  unfold sameS
  exact decide_eq_true ⟨rfl, rfl, rfl, rfl, rfl, rfl⟩
/-- What more steps make of a run. -/
theorem more_facts (m : List FunD) (f : Nat) (args : List Int) (k n : Nat) :
    (runS m f args k).steps ≤ k ∧ (runS m f args k).steps ≤ (runS m f args (k + n)).steps ∧ ((runS m f args k).done = true → runS m f args (k + n) = runS m f args k) ∧
    ((runS m f args k).done = false → (runS m f args k).steps = k) ∧ ∃ r, (runS m f args (k + n)).out = (runS m f args k).out ++ r := by
  have h0 : (startS f args).steps = 0 := rfl
  obtain ⟨a1, a2, a3⟩ := loopS_steps m k (startS f args)
  rw [runS_more]
  obtain ⟨b1, b2, b3⟩ := loopS_steps m n (runS m f args k)
  refine ⟨?_, b1, fun h => loopS_done h, fun h => ?_, loopS_out m n _⟩
  · show (loopS m k (startS f args)).steps ≤ k; omega
  · have := a3 h; show (loopS m k (startS f args)).steps = k; omega
end Go.Proofs.YtooblmiffgjmjaaGreatDoor

/- Functions and modules that came in as arguments: what they read as. -/
namespace Go.Proofs.YtooblmiffgjmjaaGreatDoor
open Go.ChangeShapes Go.WideShapes Go.RowKit Go.Deep
set_option linter.unusedVariables false

section
variable {H : Type} {enc : TypeId × Value → H} {P : Program} {w : World} {base : Nat} {spare : Nat → Bool} {held : Bool}

theorem struct_field {t : TypeId} {fs : Array Field} {fuel : Nat} {cs : List Value} {y : DataW H × List MemPlace} (ht : P.underlying t = some (.struct fs)) (h : DataW.trod enc P w base spare held fuel t cs = some y)
    (i : Nat) (f : Field) (hf : fs[i]? = some f) : ∃ n z, DataW.trod enc P w base spare held n f.type ((cs.drop f.offset).take (P.cellsOf f.type)) = some z := by
  obtain ⟨xs, n, _, _, _, hlen, hx⟩ := DataW.trod_struct ht h
  have hi : i < xs.length := by rw [hlen]; exact (Array.getElem?_eq_some_iff.1 hf).1
  exact ⟨n, xs[i], (hx i f hf).trans (List.getElem?_eq_getElem hi)⟩
theorem field_of {t : TypeId} {fs : Array Field} {fuel : Nat} {cs : List Value} {y : DataW H × List MemPlace} (ht : P.underlying t = some (.struct fs)) (h : DataW.trod enc P w base spare held fuel t cs = some y)
    (i : Nat) {f : Field} (hf : fs[i]? = some f) {t' : TypeId} {c k : Nat} (hft : f.type = t') (hk : f.offset = k) (hc : P.cellsOf t' = c) : ∃ n z, DataW.trod enc P w base spare held n t' ((cs.drop k).take c) = some z := by
  subst hft hk hc
  exact struct_field ht h i f hf
theorem drop_take_one {cs : List Value} {k : Nat} (hk : k < cs.length) : (cs.drop k).take 1 = [cs[k]] := by
  rw [List.drop_eq_getElem_cons hk]; rfl
theorem int_field {t : TypeId} {n k : Nat} {cs : List Value} {z : DataW H × List MemPlace} (ht : P.underlying t = some (.int .i64)) (hk : k < cs.length) (h : DataW.trod enc P w base spare held n t ((cs.drop k).take 1) = some z) :
    ∃ x, cs[k]? = some (.int .i64 x) ∧ I64 x := by
  rw [drop_take_one hk] at h
  obtain ⟨x, hx, _, hw⟩ := DataW.trod_int ht h
  exact ⟨x, by rw [List.getElem?_eq_getElem hk]; exact congrArg some (List.cons.inj hx).1, wf_i64 hw⟩
theorem slice_field {α : Type} [Inhabited α] {t e : TypeId} {sz : Nat} {R : World → Nat → Nat → α → Prop} {n k : Nat} {cs : List Value} {z : DataW H × List MemPlace} (ht : P.underlying t = some (.slice e)) (hsz : P.cellsOf e = sz) (hpos : 0 < sz)
    (hR : Opens enc P w base spare held e sz R) (hk : k < cs.length) (h : DataW.trod enc P w base spare held n t ((cs.drop k).take 1) = some z) : ∃ A c xs, cs[k]? = some (.slice A xs.length c) ∧ SL w sz R A c xs := by
  rw [drop_take_one hk] at h
  obtain ⟨xs, A, c, e, hs⟩ := open_vs ht hsz hpos hR h
  exact ⟨A, c, xs, by rw [List.getElem?_eq_getElem hk, e], hs⟩
end

theorem Tryz.cells3 : Tryz.prog.cellsOf 3 = 1 := by kernel_rfl
theorem Tryz.cells2 : Tryz.prog.cellsOf 2 = 1 := by kernel_rfl
theorem Tryz.cells43 : Tryz.prog.cellsOf 43 = 1 := by kernel_rfl
theorem Tryz.cells46 : Tryz.prog.cellsOf 46 = 1 := by kernel_rfl
theorem Tryz.cells47 : Tryz.prog.cellsOf 47 = 1 := by kernel_rfl
theorem Tryz.cells50 : Tryz.prog.cellsOf 50 = 1 := by kernel_rfl
theorem Tryz.cells22 : Tryz.prog.cellsOf 22 = 1 := by kernel_rfl
theorem Tryz.cells56 : Tryz.prog.cellsOf 56 = 2 := by kernel_rfl
theorem Tryz.cells54 : Tryz.prog.cellsOf 54 = 5 := by kernel_rfl
theorem Tryz.cells45 : Tryz.prog.cellsOf 45 = 3 := by kernel_rfl
theorem Tryz.cells49 : Tryz.prog.cellsOf 49 = 5 := by kernel_rfl
theorem Tryz.cells52 : Tryz.prog.cellsOf 52 = 4 := by kernel_rfl
theorem Tryz.cells24 : Tryz.prog.cellsOf 24 = 1 := by kernel_rfl

section
variable {H : Type} {enc : TypeId × Value → H} {w : World} {base : Nat} {spare : Nat → Bool} {held : Bool}

theorem opens_int : Opens enc Tryz.prog w base spare held 3 1 RInt := fun n b o cs y hlen hat h => by
  obtain ⟨x, rfl, _, hw⟩ := DataW.trod_int Tryz.underlying3 h
  exact ⟨x, (hat 0 (by omega)).trans rfl, wf_i64 hw⟩
theorem field_int {fs : Array Field} {t : TypeId} {fuel : Nat} {cs : List Value} {y : DataW H × List MemPlace} (ht : Tryz.prog.underlying t = some (.struct fs)) (h : DataW.trod enc Tryz.prog w base spare held fuel t cs = some y)
    (i : Nat) (f : Field) (hf : fs[i]? = some f) (hft : f.type = 3) (hk : f.offset < cs.length) : ∃ x, cs[f.offset]? = some (.int .i64 x) ∧ I64 x := by
  obtain ⟨n, z, hz⟩ := struct_field ht h i f hf
  rw [hft, Tryz.cells3] at hz
  exact int_field Tryz.underlying3 hk hz
theorem field_int64 {fs : Array Field} {t : TypeId} {fuel : Nat} {cs : List Value} {y : DataW H × List MemPlace} (ht : Tryz.prog.underlying t = some (.struct fs)) (h : DataW.trod enc Tryz.prog w base spare held fuel t cs = some y)
    (i : Nat) (f : Field) (hf : fs[i]? = some f) (hft : f.type = 2) (hk : f.offset < cs.length) : ∃ x, cs[f.offset]? = some (.int .i64 x) ∧ I64 x := by
  obtain ⟨n, z, hz⟩ := struct_field ht h i f hf
  rw [hft, Tryz.cells2] at hz
  exact int_field Tryz.underlying2 hk hz
theorem field_ints {fs : Array Field} {t : TypeId} {fuel : Nat} {cs : List Value} {y : DataW H × List MemPlace} (ht : Tryz.prog.underlying t = some (.struct fs)) (h : DataW.trod enc Tryz.prog w base spare held fuel t cs = some y)
    (i : Nat) (f : Field) (hf : fs[i]? = some f) (hft : f.type = 43) (hk : f.offset < cs.length) : ∃ A c, ∃ xs : List Int, cs[f.offset]? = some (.slice A xs.length c) ∧ SL w 1 RInt A c xs := by
  obtain ⟨n, z, hz⟩ := struct_field ht h i f hf
  rw [hft, Tryz.cells43] at hz
  exact slice_field Tryz.underlying43 Tryz.cells3 (by omega) opens_int hk hz
theorem opens_phi : Opens enc Tryz.prog w base spare held 56 2 RPhi := fun n b o cs y hlen hat h => by
  obtain ⟨x, h0, w0⟩ := field_int Tryz.underlying56 h 0 _ rfl rfl (by simp; omega)
  obtain ⟨A, c, xs, h1, w1⟩ := field_ints Tryz.underlying56 h 1 _ rfl rfl (by simp; omega)
  exact ⟨⟨x, xs⟩, ⟨(hat 0 (by omega)).trans h0, w0⟩, A, c, (hat 1 (by omega)).trans h1, w1⟩
theorem opens_ins : Opens enc Tryz.prog w base spare held 54 5 RIns := fun n b o cs y hlen hat h => by
  obtain ⟨x0, h0, w0⟩ := field_int Tryz.underlying54 h 0 _ rfl rfl (by simp; omega)
  obtain ⟨x1, h1, w1⟩ := field_int Tryz.underlying54 h 1 _ rfl rfl (by simp; omega)
  obtain ⟨A, c, xs, h2, w2⟩ := field_ints Tryz.underlying54 h 2 _ rfl rfl (by simp; omega)
  obtain ⟨x3, h3, w3⟩ := field_int64 Tryz.underlying54 h 3 _ rfl rfl (by simp; omega)
  obtain ⟨x4, h4, w4⟩ := field_int Tryz.underlying54 h 4 _ rfl rfl (by simp; omega)
  exact ⟨⟨x0, x1, xs, x3, x4⟩, ⟨(hat 0 (by omega)).trans h0, w0⟩, ⟨(hat 1 (by omega)).trans h1, w1⟩, ⟨A, c, (hat 2 (by omega)).trans h2, w2⟩, ⟨(hat 3 (by omega)).trans h3, w3⟩, ⟨(hat 4 (by omega)).trans h4, w4⟩⟩
theorem opens_blk : Opens enc Tryz.prog w base spare held 49 5 RBlk := fun n b o cs y hlen hat h => by
  obtain ⟨n0, z0, hz0⟩ := field_of Tryz.underlying49 h 0 rfl rfl rfl Tryz.cells46
  obtain ⟨A0, c0, ps, h0, w0⟩ := slice_field Tryz.underlying46 Tryz.cells56 (by omega) opens_phi (by simp; omega) hz0
  obtain ⟨n1, z1, hz1⟩ := field_of Tryz.underlying49 h 1 rfl rfl rfl Tryz.cells47
  obtain ⟨A1, c1, is, h1, w1⟩ := slice_field Tryz.underlying47 Tryz.cells54 (by omega) opens_ins (by simp; omega) hz1
  obtain ⟨n2, z2, hz2⟩ := field_of Tryz.underlying49 h 2 rfl rfl rfl Tryz.cells45
  have hl2 : ((cs.drop 2).take 3).length = 3 := by simp; omega
  obtain ⟨x2, h2, w2⟩ := field_int Tryz.underlying45 hz2 0 _ rfl rfl (by simp; omega)
  obtain ⟨x3, h3, w3⟩ := field_int Tryz.underlying45 hz2 1 _ rfl rfl (by simp; omega)
  obtain ⟨A4, c4, xs, h4, w4⟩ := field_ints Tryz.underlying45 hz2 2 _ rfl rfl (by simp; omega)
  have g (i : Nat) (hi : i < 3) : ((cs.drop 2).take 3)[i]? = cs[2 + i]? := by rw [List.getElem?_take_of_lt hi, List.getElem?_drop]
  exact ⟨⟨ps, is, ⟨x2, x3, xs⟩⟩, ⟨A0, c0, (hat 0 (by omega)).trans h0, w0⟩, ⟨A1, c1, (hat 1 (by omega)).trans h1, w1⟩, ⟨(hat 2 (by omega)).trans ((g 0 (by omega)).symm.trans h2), w2⟩, ⟨(hat 3 (by omega)).trans ((g 1 (by omega)).symm.trans h3), w3⟩, ⟨A4, c4, (hat 4 (by omega)).trans ((g 2 (by omega)).symm.trans h4), w4⟩⟩
theorem opens_fun : Opens enc Tryz.prog w base spare held 52 4 RFun := fun n b o cs y hlen hat h => by
  obtain ⟨x0, h0, w0⟩ := field_int Tryz.underlying52 h 0 _ rfl rfl (by simp; omega)
  obtain ⟨x1, h1, w1⟩ := field_int Tryz.underlying52 h 1 _ rfl rfl (by simp; omega)
  obtain ⟨A2, c2, xs, h2, w2⟩ := field_ints Tryz.underlying52 h 2 _ rfl rfl (by simp; omega)
  obtain ⟨n3, z3, hz3⟩ := field_of Tryz.underlying52 h 3 rfl rfl rfl Tryz.cells50
  obtain ⟨A3, c3, bs, h3, w3⟩ := slice_field Tryz.underlying50 Tryz.cells49 (by omega) opens_blk (by simp; omega) hz3
  exact ⟨⟨x0, x1, xs, bs⟩, ⟨(hat 0 (by omega)).trans h0, w0⟩, ⟨(hat 1 (by omega)).trans h1, w1⟩, ⟨A2, c2, (hat 2 (by omega)).trans h2, w2⟩, ⟨A3, c3, (hat 3 (by omega)).trans h3, w3⟩⟩

set_option maxRecDepth 100000 in
/-- A function by value. -/
theorem open_fun {r : Reach} {b0 : Nat} {v : Value} {d : DataW H} {p : List MemPlace} (hv : Value.okWide Tryz.prog w r b0 52 v) (h : DataW.Trod enc Tryz.prog w base spare held 52 v d p) : ∃ f, VFun w v f := by
  obtain ⟨cs, rfl, hsz⟩ := okWide_struct Tryz.underlying52 hv
  rw [Tryz.cells52] at hsz
  obtain ⟨l⟩ := cs
  match l, hsz with
  | [a, b, c, d], _ =>
    obtain ⟨fuel, hf⟩ := h
    have hf : DataW.trod enc Tryz.prog w base spare held fuel 52 [a, b, c, d] = some (_, p) := hf
    obtain ⟨x0, h0, w0⟩ := field_int Tryz.underlying52 hf 0 _ rfl rfl (by simp)
    obtain ⟨x1, h1, w1⟩ := field_int Tryz.underlying52 hf 1 _ rfl rfl (by simp)
    obtain ⟨A2, c2, xs, h2, w2⟩ := field_ints Tryz.underlying52 hf 2 _ rfl rfl (by simp)
    obtain ⟨n3, z3, hz3⟩ := field_of Tryz.underlying52 hf 3 rfl rfl rfl Tryz.cells50
    obtain ⟨A3, c3, bs, h3, w3⟩ := slice_field Tryz.underlying50 Tryz.cells49 (by omega) opens_blk (by simp) hz3
    obtain rfl := Option.some.inj h0
    obtain rfl := Option.some.inj h1
    obtain rfl := Option.some.inj h2
    obtain rfl := Option.some.inj h3
    exact ⟨⟨x0, x1, xs, bs⟩, A2, c2, A3, c3, rfl, w2, w3, w0, w1⟩
set_option maxRecDepth 100000 in
/-- A module by value. -/
theorem open_mod {r : Reach} {b0 : Nat} {v : Value} {d : DataW H} {p : List MemPlace} (hv : Value.okWide Tryz.prog w r b0 24 v) (h : DataW.Trod enc Tryz.prog w base spare held 24 v d p) : ∃ m, VMod w v m := by
  obtain ⟨cs, rfl, hsz⟩ := okWide_struct Tryz.underlying24 hv
  rw [Tryz.cells24] at hsz
  obtain ⟨l⟩ := cs
  match l, hsz with
  | [a], _ =>
    obtain ⟨fuel, hf⟩ := h
    have hf : DataW.trod enc Tryz.prog w base spare held fuel 24 [a] = some (_, p) := hf
    obtain ⟨n3, z3, hz3⟩ := field_of Tryz.underlying24 hf 0 rfl rfl rfl Tryz.cells22
    obtain ⟨A3, c3, bs, h3, w3⟩ := slice_field Tryz.underlying22 Tryz.cells52 (by omega) opens_fun (by simp) hz3
    obtain rfl := Option.some.inj h3
    exact ⟨bs, A3, c3, rfl, w3⟩
end
end Go.Proofs.YtooblmiffgjmjaaGreatDoor

/- Arguments of a run that came in from outside. -/
namespace Go.Proofs.YtooblmiffgjmjaaGreatDoor
open Go.ChangeShapes Go.WideShapes Go.RowKit Go.Deep
set_option linter.unusedVariables false

section
variable {H : Type} {enc : TypeId × Value → H} {w : World} {base : Nat} {spare : Nat → Bool} {held : Bool}
set_option maxRecDepth 100000 in
theorem opens_int64 : Opens enc Tryz.prog w base spare held 2 1 RInt := fun n b o cs y hlen hat h => by
  obtain ⟨x, rfl, _, hw⟩ := DataW.trod_int Tryz.underlying2 h
  exact ⟨x, (hat 0 (by omega)).trans rfl, wf_i64 hw⟩
set_option maxRecDepth 100000 in
theorem open_int64sV {r : Reach} {b0 : Nat} {v : Value} {d : DataW H} {p : List MemPlace} (hv : Value.okWide Tryz.prog w r b0 25 v) (h : DataW.Trod enc Tryz.prog w base spare held 25 v d p) : ∃ l, VS w 1 RInt v l := by
  obtain ⟨a, len, cap, rfl⟩ := okWide_slice Tryz.underlying25 hv
  obtain ⟨fuel, hf⟩ := h
  exact open_vs Tryz.underlying25 Tryz.cells2 (by omega) opens_int64 hf
end
end Go.Proofs.YtooblmiffgjmjaaGreatDoor
