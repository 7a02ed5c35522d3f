/- The law's 'begun': an operation is begun on a deque and on its model. -/
import Derived.Test.YtacadgocoleaoaaDqUJ
import Derived.Test.YtacadgocoleaoaaEqEJ
import Derived.Test.YtacadgocoleaoaaOnTJ
namespace Go.Proofs.Ytacadgocoleaoaa
open Go.ChangeShapes Go.WideShapes Go.RowKit Go.Deep
set_option linter.unusedVariables false

theorem results_cell_row_tmp2 {P : Program} {fn : Func} {p u v : Tmp} {ty : TypeId} (h : fn.results = #[.cell p ty, .tmp u, .tmp v]) (tmps : Array Value) (w : World) (g : Nat) (t : TypeId) (cs : Array Value) (fr : Nat × Nat) (d : TypeDesc)
    (hp : tmps.getD p undef = .pointer (some ⟨g, 0, none⟩)) (hg : w.heap[g]? = some (.cells cs t fr))
    (hu : P.underlying ty = some d) (hd : (match d with | .struct _ | .array _ _ => true | _ => false) = true) (hi : (P.info? ty).map (·.size) = some cs.size) :
    (results fn tmps).run P w = .ok (.tuple #[.agg cs, tmps.getD u undef, tmps.getD v undef]) w := by
  have hp' : tmps[p]?.getD undef = .pointer (some ⟨g, 0, none⟩) := by simpa using hp
  simp [results, h, hp', asAddr, run_loadVar_row w g t ty cs fr d hg hu hd hi]
/-- What 'begun' tells of a pair that is begun. -/
def pairV (p r : Nat) : Value := .agg #[.pointer (some ⟨p, 0, none⟩), .pointer (some ⟨r, 0, none⟩)]
set_option maxHeartbeats 1000000 in
theorem begun_steal (D M : Nat) (v : Int) (w : World) : Calls Try.prog 10 #[.pointer (some ⟨D, 0, none⟩), .pointer (some ⟨M, 0, none⟩), .int .i64 2, .int .i64 v] w fun e w' => ∃ p r, e = .returned (.tuple #[pairV p r, .bool true, .bool true]) ∧
    OpB w' p D (opB 3 0) ∧ RfOp w' r (opB 3 0) 0 ∧ Below w.heap.size w w' ∧ w.heap.size ≤ p ∧ w.heap.size ≤ r ∧ p ≠ r := by
  go_enter Try.func10, Try.ntmps10
  go_upto_region 1 with fail
  obtain ⟨wA, hwA⟩ : ∃ wA, wA = w.alloc (.cells #[.pointer none, .pointer none] 35) := ⟨_, rfl⟩
  rw [← hwA]
  have hzA : wA.heap.size = w.heap.size + 1 := by rw [hwA]; simp
  have hrA : wA.heap[w.heap.size]? = some (.cells #[.pointer none, .pointer none] 35 (0, 0)) := by rw [hwA]; exact heap_alloc_new _ _
  have hbA : Below w.heap.size w wA := by rw [hwA]; exact (Below.refl _ _).alloc (Nat.le_refl _) _
  clear hwA
  have HR := Lib.hid hrA
  have HB := Lib.hid hbA
  have HZ := Lib.hid hzA
  clear hrA hbA hzA
  go_wp2_with fail
  refine (steal_any D wA).mono ?_
  rintro e w2 ⟨rfl, hO2, hb2⟩
  have HP : Hid (w.heap.size < wA.heap.size ∧ wA.heap.size < w2.heap.size) := Lib.hid ⟨by rw [HZ.out]; omega, hO2.lt⟩
  have hG2 : w2.heap[w.heap.size]? = some (.cells #[.pointer none, .pointer none] 35 (0, 0)) := (hb2.block _ HP.out.1).trans HR.out
  obtain ⟨w3, hw3⟩ : ∃ w3, w3 = w2.alloc (Obj.cells #[.int .i64 3, .int .i64 0, .int .i64 0, .int .i64 0, .int .i64 0, .int .i64 0, .bool false] 68) := ⟨_, rfl⟩
  have hG3 : w3.heap[w.heap.size]? = some (.cells #[.pointer none, .pointer none] 35 (0, 0)) := by rw [hw3]; exact alloc_old hG2
  have hO3 : OpB w3 wA.heap.size D (opB 3 0) := by rw [hw3]; exact alloc_old hO2
  have hr3 : w3.heap[w2.heap.size]? = some (.cells #[.int .i64 3, .int .i64 0, .int .i64 0, .int .i64 0, .int .i64 0, .int .i64 0, .bool false] 68 (0, 0)) := by rw [hw3]; exact heap_alloc_new _ _
  have hb3 : Below w.heap.size w w3 := by
    have h1 := HB.out.trans (hb2.mono (Nat.le_of_lt HP.out.1))
    rw [hw3]; exact h1.alloc h1.size _
  have HB3 := Lib.hid hb3
  have HG3 := Lib.hid hG3
  have HO3 := Lib.hid hO3
  have Hr3 := Lib.hid hr3
  have e0 : w3.cell? ⟨w.heap.size, 0, none⟩ = some (.pointer none) := cell_of_block hG3 0
  have e1 : w3.cell? ⟨w.heap.size, 1, none⟩ = some (.pointer none) := cell_of_block hG3 1
  have e2 : w3.frozen? ⟨w.heap.size, 0, none⟩ = false := free_of_block hG3 0
  have e3 : w3.frozen? ⟨w.heap.size, 1, none⟩ = false := free_of_block hG3 1
  rw [hw3] at e0 e1 e2 e3
  have HW3 := Lib.hid hw3
  clear hG2 hG3 hO3 hr3 hb3 hO2 hb2 hw3 HR HB
  generalize hGG : w.heap.size = G at *
  have HGG := Lib.hid hGG
  generalize hpp : wA.heap.size = p at *
  clear hGG hpp
  go_wp2_with fail
  rw [← HW3.out]
  refine bodyPost_ret (results_cell_row_tmp2 rfl _ _ G 35 #[.pointer (some ⟨p, 0, none⟩), .pointer (some ⟨w2.heap.size, 0, none⟩)] (0, 0) _ (by rfl) (set_of_block (i := 1) _ (set_of_block (i := 0) _ HG3.out)) Try.underlying35 (by rfl) (by kernel_rfl)) rfl ?_
  have h1 := HP.out.1
  have h2 := HP.out.2
  rw [HGG.out]
  refine ⟨p, w2.heap.size, rfl, ?_, ?_, ?_, by omega, by omega, by omega⟩
  · exact (setP_other (by omega) _ _).trans ((setP_other (by omega) _ _).trans HO3.out)
  · exact (setP_other (by omega) _ _).trans ((setP_other (by omega) _ _).trans Hr3.out)
  · exact (HB3.out.setCell (p := ⟨G, 0, none⟩) (Nat.le_refl _) _).setCell (p := ⟨G, 1, none⟩) (Nat.le_refl _) _
set_option maxHeartbeats 1000000 in
theorem begun_busy0 {D M C q : Nat} {s sm : DqS} {v : Int} {w : World} (hd : DeqB w D s (ovV (some q))) (hm : RfS w M C sm true) : Calls Try.prog 10 #[.pointer (some ⟨D, 0, none⟩), .pointer (some ⟨M, 0, none⟩), .int .i64 0, .int .i64 v] w fun e w' => e = .returned (.tuple #[.agg #[.pointer none, .pointer none], .bool false, .bool true]) ∧ Below w.heap.size w w' := by
  have HD := Lib.hid hd
  have HM := Lib.hid hm
  have heq := fun u => eqlErr 7 7 u
  rw [show ((7 : Int) == 7) = true from rfl] at heq
  clear hd hm
  go_enter Try.func10, Try.ntmps10
  go_upto_region 1 with fail
  obtain ⟨wA, hwA⟩ : ∃ wA, wA = w.alloc (.cells #[.pointer none, .pointer none] 35) := ⟨_, rfl⟩
  rw [← hwA]
  have hzA : wA.heap.size = w.heap.size + 1 := by rw [hwA]; simp
  have hrA : wA.heap[w.heap.size]? = some (.cells #[.pointer none, .pointer none] 35 (0, 0)) := by rw [hwA]; exact heap_alloc_new _ _
  have hbA : Below w.heap.size w wA := by rw [hwA]; exact (Below.refl _ _).alloc (Nat.le_refl _) _
  clear hwA
  have HR := Lib.hid hrA
  have HB := Lib.hid hbA
  have HZ := Lib.hid hzA
  have hdA : DeqB wA D s (ovV (some q)) := HD.out.go (hbA.block D HD.out.lt)
  have HPU := Lib.hid (push_no q v hdA)
  clear hrA hbA hzA hdA
  go_wp2_with fail
  refine HPU.out.mono ?_
  rintro e w2 ⟨rfl, hb2⟩
  have hG2 : w2.heap[w.heap.size]? = some (.cells #[.pointer none, .pointer none] 35 (0, 0)) := (hb2.block _ (by rw [HZ.out]; omega)).trans HR.out
  have hMl : M < w.heap.size := block_lt HM.out.d.box
  have hM2 : w2.heap[M]? = w.heap[M]? := (hb2.block M (by rw [HZ.out]; omega)).trans (HB.out.block M hMl)
  have m3 : w2.cell? ⟨M, 3, none⟩ = some (.bool true) := (World.cell?_of_block (a := ⟨M, 3, none⟩) hM2).trans (cell_of_block HM.out.d.box 3)
  have HB2 : Hid (Below w.heap.size w w2) := Lib.hid (HB.out.trans (hb2.mono (by rw [HZ.out]; omega)))
  have HG2 := Lib.hid hG2
  have e0 : w2.cell? ⟨w.heap.size, 0, none⟩ = some (.pointer none) := cell_of_block hG2 0
  have e1 : w2.cell? ⟨w.heap.size, 1, none⟩ = some (.pointer none) := cell_of_block hG2 1
  have e2 : w2.frozen? ⟨w.heap.size, 0, none⟩ = false := free_of_block hG2 0
  have e3 : w2.frozen? ⟨w.heap.size, 1, none⟩ = false := free_of_block hG2 1
  clear hG2 hb2 hMl hM2 HR HB HPU HZ
  generalize hGG : w.heap.size = G at *
  have HGG := Lib.hid hGG
  clear hGG
  go_wp2_with fail
  refine bodyPost_ret (results_cell_row_tmp2 rfl _ _ G 35 #[.pointer none, .pointer none] (0, 0) _ (by rfl) (set_of_block (i := 1) _ (set_of_block (i := 0) _ HG2.out)) Try.underlying35 (by rfl) (by kernel_rfl)) rfl ?_
  rw [HGG.out]
  exact ⟨rfl, (HB2.out.setCell (p := ⟨G, 0, none⟩) (Nat.le_refl _) _).setCell (p := ⟨G, 1, none⟩) (Nat.le_refl _) _⟩
set_option maxHeartbeats 1000000 in
theorem begun_busy1 {D M C q : Nat} {s sm : DqS} {v : Int} {w : World} (hd : DeqB w D s (ovV (some q))) (hm : RfS w M C sm true) : Calls Try.prog 10 #[.pointer (some ⟨D, 0, none⟩), .pointer (some ⟨M, 0, none⟩), .int .i64 1, .int .i64 v] w fun e w' => e = .returned (.tuple #[.agg #[.pointer none, .pointer none], .bool false, .bool true]) ∧ Below w.heap.size w w' := by
  have HD := Lib.hid hd
  have HM := Lib.hid hm
  have heq := fun u => eqlErr 7 7 u
  rw [show ((7 : Int) == 7) = true from rfl] at heq
  clear hd hm
  go_enter Try.func10, Try.ntmps10
  go_upto_region 1 with fail
  obtain ⟨wA, hwA⟩ : ∃ wA, wA = w.alloc (.cells #[.pointer none, .pointer none] 35) := ⟨_, rfl⟩
  rw [← hwA]
  have hzA : wA.heap.size = w.heap.size + 1 := by rw [hwA]; simp
  have hrA : wA.heap[w.heap.size]? = some (.cells #[.pointer none, .pointer none] 35 (0, 0)) := by rw [hwA]; exact heap_alloc_new _ _
  have hbA : Below w.heap.size w wA := by rw [hwA]; exact (Below.refl _ _).alloc (Nat.le_refl _) _
  clear hwA
  have HR := Lib.hid hrA
  have HB := Lib.hid hbA
  have HZ := Lib.hid hzA
  have hdA : DeqB wA D s (ovV (some q)) := HD.out.go (hbA.block D HD.out.lt)
  have HPU := Lib.hid (pop_no q hdA)
  clear hrA hbA hzA hdA
  go_wp2_with fail
  refine HPU.out.mono ?_
  rintro e w2 ⟨rfl, hb2⟩
  have hG2 : w2.heap[w.heap.size]? = some (.cells #[.pointer none, .pointer none] 35 (0, 0)) := (hb2.block _ (by rw [HZ.out]; omega)).trans HR.out
  have hMl : M < w.heap.size := block_lt HM.out.d.box
  have hM2 : w2.heap[M]? = w.heap[M]? := (hb2.block M (by rw [HZ.out]; omega)).trans (HB.out.block M hMl)
  have m3 : w2.cell? ⟨M, 3, none⟩ = some (.bool true) := (World.cell?_of_block (a := ⟨M, 3, none⟩) hM2).trans (cell_of_block HM.out.d.box 3)
  have HB2 : Hid (Below w.heap.size w w2) := Lib.hid (HB.out.trans (hb2.mono (by rw [HZ.out]; omega)))
  have HG2 := Lib.hid hG2
  have e0 : w2.cell? ⟨w.heap.size, 0, none⟩ = some (.pointer none) := cell_of_block hG2 0
  have e1 : w2.cell? ⟨w.heap.size, 1, none⟩ = some (.pointer none) := cell_of_block hG2 1
  have e2 : w2.frozen? ⟨w.heap.size, 0, none⟩ = false := free_of_block hG2 0
  have e3 : w2.frozen? ⟨w.heap.size, 1, none⟩ = false := free_of_block hG2 1
  clear hG2 hb2 hMl hM2 HR HB HPU HZ
  generalize hGG : w.heap.size = G at *
  have HGG := Lib.hid hGG
  clear hGG
  go_wp2_with fail
  refine bodyPost_ret (results_cell_row_tmp2 rfl _ _ G 35 #[.pointer none, .pointer none] (0, 0) _ (by rfl) (set_of_block (i := 1) _ (set_of_block (i := 0) _ HG2.out)) Try.underlying35 (by rfl) (by kernel_rfl)) rfl ?_
  rw [HGG.out]
  exact ⟨rfl, (HB2.out.setCell (p := ⟨G, 0, none⟩) (Nat.le_refl _) _).setCell (p := ⟨G, 1, none⟩) (Nat.le_refl _) _⟩
set_option maxHeartbeats 1000000 in
theorem begun_own0 {D M C : Nat} {s sm : DqS} {v : Int} {w : World} (hd : DeqB w D s (ovV none)) (hm : RfS w M C sm false) (hne : D ≠ M) (hnc : D ≠ C) (hmc : M ≠ C) : Calls Try.prog 10 #[.pointer (some ⟨D, 0, none⟩), .pointer (some ⟨M, 0, none⟩), .int .i64 0, .int .i64 v] w fun e w' => ∃ p r, e = .returned (.tuple #[pairV p r, .bool true, .bool true]) ∧
    OpB w' p D (opB 1 v) ∧ RfOp w' r (opB 1 v) v ∧ DeqB w' D s (ovV (some p)) ∧ RfS w' M C sm true ∧ FrX (fun y => y = D ∨ y = M) w w' ∧ w.heap.size ≤ p ∧ w.heap.size ≤ r ∧ p ≠ r := by
  have HD := Lib.hid hd
  have HM := Lib.hid hm
  have hDl : D < w.heap.size := hd.lt
  have hMl : M < w.heap.size := block_lt hm.d.box
  have hCl : C < w.heap.size := block_lt hm.d.row
  clear hd hm
  go_enter Try.func10, Try.ntmps10
  go_upto_region 1 with fail
  obtain ⟨wA, hwA⟩ : ∃ wA, wA = w.alloc (.cells #[.pointer none, .pointer none] 35) := ⟨_, rfl⟩
  rw [← hwA]
  have hzA : wA.heap.size = w.heap.size + 1 := by rw [hwA]; simp
  have hrA : wA.heap[w.heap.size]? = some (.cells #[.pointer none, .pointer none] 35 (0, 0)) := by rw [hwA]; exact heap_alloc_new _ _
  have hbA : Below w.heap.size w wA := by rw [hwA]; exact (Below.refl _ _).alloc (Nat.le_refl _) _
  clear hwA
  have HR := Lib.hid hrA
  have HB := Lib.hid hbA
  have HZ := Lib.hid hzA
  have hdA : DeqB wA D s (ovV none) := HD.out.go (hbA.block D HD.out.lt)
  have HPU := Lib.hid (push_yes v hdA)
  clear hrA hbA hzA hdA
  go_wp2_with fail
  refine HPU.out.mono ?_
  rintro e w2 ⟨rfl, hD2, hO2, hF2⟩
  have HP : Hid (w.heap.size < wA.heap.size ∧ wA.heap.size < w2.heap.size) := Lib.hid ⟨by rw [HZ.out]; omega, hO2.lt⟩
  have hh : ∀ y, y < w.heap.size → y ≠ D → w2.heap[y]? = w.heap[y]? := fun y hy hyd => (hF2.block y (by have := HP.out.1; omega) hyd).trans (HB.out.block y hy)
  have hG2 : w2.heap[w.heap.size]? = some (.cells #[.pointer none, .pointer none] 35 (0, 0)) := (hF2.block _ HP.out.1 (by omega)).trans HR.out
  have hM2 : RfS w2 M C sm false := ⟨HM.out.d.go (hh M hMl (Ne.symm hne)) (hh C hCl (Ne.symm hnc))⟩
  have hf2 : FrX (fun y => y = D ∨ y = M) w w2 := ((frx_of HB.out).trans (hF2.mono (fun k _ hk => .inl hk)))
  have m3 : w2.cell? ⟨M, 3, none⟩ = some (.bool false) := cell_of_block hM2.d.box 3
  have m4 : w2.frozen? ⟨M, 3, none⟩ = false := free_of_block hM2.d.box 3
  have HM2 := Lib.hid hM2
  have HG2 := Lib.hid hG2
  have HD2 := Lib.hid hD2
  have HO2 := Lib.hid hO2
  have HF2 := Lib.hid hf2
  clear hh hG2 hM2 hf2 hD2 hO2 hF2 HPU HR HB
  go_upto_region 12 with fail
  obtain ⟨w3, hw3⟩ : ∃ w3, w3 = w2.setCell ⟨M, 3, none⟩ (.bool true) := ⟨_, rfl⟩
  rw [← hw3]
  have hz3 : w3.heap.size = w2.heap.size := by rw [hw3]; simp
  have hy3 : ∀ y, y ≠ M → w3.heap[y]? = w2.heap[y]? := fun y hy => by rw [hw3]; exact setP_other hy _ _
  have hM3 : RfS w3 M C sm true := ⟨by
    rw [hw3]; exact ⟨set_of_block _ HM2.out.d.box, (setP_other (Ne.symm hmc) _ _).trans HM2.out.d.row⟩⟩
  have hF3 : FrX (fun y => y = D ∨ y = M) w w3 := by rw [hw3]; exact HF2.out.setCell (p := ⟨M, 3, none⟩) (.inl (.inr rfl)) _
  obtain ⟨w4, hw4⟩ : ∃ w4, w4 = w3.alloc (Obj.cells #[.int .i64 1, .int .i64 0, .int .i64 0, .int .i64 0, .int .i64 v, .int .i64 0, .bool false] 68) := ⟨_, rfl⟩
  have hG4 : w4.heap[w.heap.size]? = some (.cells #[.pointer none, .pointer none] 35 (0, 0)) := by rw [hw4]; exact alloc_old ((hy3 _ (by omega)).trans HG2.out)
  have hO4 : OpB w4 wA.heap.size D (opB 1 v) := by rw [hw4]; exact alloc_old ((hy3 _ (by have := HP.out.1; omega)).trans HO2.out)
  have hD4 : DeqB w4 D s (ovV (some wA.heap.size)) := by rw [hw4]; exact alloc_old ((hy3 _ hne).trans HD2.out)
  have hM4 : RfS w4 M C sm true := ⟨by rw [hw4]; exact ⟨alloc_old hM3.d.box, alloc_old hM3.d.row⟩⟩
  have hr4 : w4.heap[w3.heap.size]? = some (.cells #[.int .i64 1, .int .i64 0, .int .i64 0, .int .i64 0, .int .i64 v, .int .i64 0, .bool false] 68 (0, 0)) := by rw [hw4]; exact heap_alloc_new _ _
  have hF4 : FrX (fun y => y = D ∨ y = M) w w4 := by rw [hw4]; exact hF3.alloc _
  have e0 : w4.cell? ⟨w.heap.size, 0, none⟩ = some (.pointer none) := cell_of_block hG4 0
  have e1 : w4.cell? ⟨w.heap.size, 1, none⟩ = some (.pointer none) := cell_of_block hG4 1
  have e2 : w4.frozen? ⟨w.heap.size, 0, none⟩ = false := free_of_block hG4 0
  have e3 : w4.frozen? ⟨w.heap.size, 1, none⟩ = false := free_of_block hG4 1
  rw [hw4] at e0 e1 e2 e3
  have HG4 := Lib.hid hG4
  have HO4 := Lib.hid hO4
  have HD4 := Lib.hid hD4
  have HM4 := Lib.hid hM4
  have HR4 := Lib.hid hr4
  have HF4 := Lib.hid hF4
  have HZ3 := Lib.hid hz3
  have HW4 := Lib.hid hw4
  have HLT := Lib.hid (And.intro hDl (And.intro hMl hCl))
  clear hG4 hO4 hD4 hM4 hr4 hF4 hz3 hw4 hw3 hy3 hM3 hF3 m3 m4 hDl hMl hCl
  generalize hGG : w.heap.size = G at *
  have HGG := Lib.hid hGG
  generalize hpp : wA.heap.size = p at *
  clear hGG hpp
  go_wp2_with fail
  rw [← HW4.out]
  refine bodyPost_ret (results_cell_row_tmp2 rfl _ _ G 35 #[.pointer (some ⟨p, 0, none⟩), .pointer (some ⟨w3.heap.size, 0, none⟩)] (0, 0) _ (by rfl) (set_of_block (i := 1) _ (set_of_block (i := 0) _ HG4.out)) Try.underlying35 (by rfl) (by kernel_rfl)) rfl ?_
  have h1 := HP.out.1
  have h2 := HP.out.2
  have h3 := HZ3.out
  obtain ⟨l1, l2, l3⟩ := HLT.out
  rw [HGG.out]
  refine ⟨p, w3.heap.size, rfl, ?_, ?_, ?_, ⟨HM4.out.d.go ((setP_other (by omega) _ _).trans (setP_other (by omega) _ _)) ((setP_other (by omega) _ _).trans (setP_other (by omega) _ _))⟩, ?_, by omega, by omega, by omega⟩
  · exact (setP_other (by omega) _ _).trans ((setP_other (by omega) _ _).trans HO4.out)
  · exact (setP_other (by omega) _ _).trans ((setP_other (by omega) _ _).trans HR4.out)
  · exact HD4.out.go ((setP_other (by omega) _ _).trans (setP_other (by omega) _ _))
  · exact (HF4.out.setCell (p := ⟨G, 0, none⟩) (.inr (by rw [HGG.out]; exact Nat.le_refl _)) _).setCell (p := ⟨G, 1, none⟩) (.inr (by rw [HGG.out]; exact Nat.le_refl _)) _
set_option maxHeartbeats 1000000 in
theorem begun_own1 {D M C : Nat} {s sm : DqS} {v : Int} {w : World} (hd : DeqB w D s (ovV none)) (hm : RfS w M C sm false) (hne : D ≠ M) (hnc : D ≠ C) (hmc : M ≠ C) : Calls Try.prog 10 #[.pointer (some ⟨D, 0, none⟩), .pointer (some ⟨M, 0, none⟩), .int .i64 1, .int .i64 v] w fun e w' => ∃ p r, e = .returned (.tuple #[pairV p r, .bool true, .bool true]) ∧
    OpB w' p D (opB 2 0) ∧ RfOp w' r (opB 2 0) v ∧ DeqB w' D s (ovV (some p)) ∧ RfS w' M C sm true ∧ FrX (fun y => y = D ∨ y = M) w w' ∧ w.heap.size ≤ p ∧ w.heap.size ≤ r ∧ p ≠ r := by
  have HD := Lib.hid hd
  have HM := Lib.hid hm
  have hDl : D < w.heap.size := hd.lt
  have hMl : M < w.heap.size := block_lt hm.d.box
  have hCl : C < w.heap.size := block_lt hm.d.row
  clear hd hm
  go_enter Try.func10, Try.ntmps10
  go_upto_region 1 with fail
  obtain ⟨wA, hwA⟩ : ∃ wA, wA = w.alloc (.cells #[.pointer none, .pointer none] 35) := ⟨_, rfl⟩
  rw [← hwA]
  have hzA : wA.heap.size = w.heap.size + 1 := by rw [hwA]; simp
  have hrA : wA.heap[w.heap.size]? = some (.cells #[.pointer none, .pointer none] 35 (0, 0)) := by rw [hwA]; exact heap_alloc_new _ _
  have hbA : Below w.heap.size w wA := by rw [hwA]; exact (Below.refl _ _).alloc (Nat.le_refl _) _
  clear hwA
  have HR := Lib.hid hrA
  have HB := Lib.hid hbA
  have HZ := Lib.hid hzA
  have hdA : DeqB wA D s (ovV none) := HD.out.go (hbA.block D HD.out.lt)
  have HPU := Lib.hid (pop_yes hdA)
  clear hrA hbA hzA hdA
  go_wp2_with fail
  refine HPU.out.mono ?_
  rintro e w2 ⟨rfl, hD2, hO2, hF2⟩
  have HP : Hid (w.heap.size < wA.heap.size ∧ wA.heap.size < w2.heap.size) := Lib.hid ⟨by rw [HZ.out]; omega, hO2.lt⟩
  have hh : ∀ y, y < w.heap.size → y ≠ D → w2.heap[y]? = w.heap[y]? := fun y hy hyd => (hF2.block y (by have := HP.out.1; omega) hyd).trans (HB.out.block y hy)
  have hG2 : w2.heap[w.heap.size]? = some (.cells #[.pointer none, .pointer none] 35 (0, 0)) := (hF2.block _ HP.out.1 (by omega)).trans HR.out
  have hM2 : RfS w2 M C sm false := ⟨HM.out.d.go (hh M hMl (Ne.symm hne)) (hh C hCl (Ne.symm hnc))⟩
  have hf2 : FrX (fun y => y = D ∨ y = M) w w2 := ((frx_of HB.out).trans (hF2.mono (fun k _ hk => .inl hk)))
  have m3 : w2.cell? ⟨M, 3, none⟩ = some (.bool false) := cell_of_block hM2.d.box 3
  have m4 : w2.frozen? ⟨M, 3, none⟩ = false := free_of_block hM2.d.box 3
  have HM2 := Lib.hid hM2
  have HG2 := Lib.hid hG2
  have HD2 := Lib.hid hD2
  have HO2 := Lib.hid hO2
  have HF2 := Lib.hid hf2
  clear hh hG2 hM2 hf2 hD2 hO2 hF2 HPU HR HB
  go_upto_region 12 with fail
  obtain ⟨w3, hw3⟩ : ∃ w3, w3 = w2.setCell ⟨M, 3, none⟩ (.bool true) := ⟨_, rfl⟩
  rw [← hw3]
  have hz3 : w3.heap.size = w2.heap.size := by rw [hw3]; simp
  have hy3 : ∀ y, y ≠ M → w3.heap[y]? = w2.heap[y]? := fun y hy => by rw [hw3]; exact setP_other hy _ _
  have hM3 : RfS w3 M C sm true := ⟨by
    rw [hw3]; exact ⟨set_of_block _ HM2.out.d.box, (setP_other (Ne.symm hmc) _ _).trans HM2.out.d.row⟩⟩
  have hF3 : FrX (fun y => y = D ∨ y = M) w w3 := by rw [hw3]; exact HF2.out.setCell (p := ⟨M, 3, none⟩) (.inl (.inr rfl)) _
  obtain ⟨w4, hw4⟩ : ∃ w4, w4 = w3.alloc (Obj.cells #[.int .i64 2, .int .i64 0, .int .i64 0, .int .i64 0, .int .i64 v, .int .i64 0, .bool false] 68) := ⟨_, rfl⟩
  have hG4 : w4.heap[w.heap.size]? = some (.cells #[.pointer none, .pointer none] 35 (0, 0)) := by rw [hw4]; exact alloc_old ((hy3 _ (by omega)).trans HG2.out)
  have hO4 : OpB w4 wA.heap.size D (opB 2 0) := by rw [hw4]; exact alloc_old ((hy3 _ (by have := HP.out.1; omega)).trans HO2.out)
  have hD4 : DeqB w4 D s (ovV (some wA.heap.size)) := by rw [hw4]; exact alloc_old ((hy3 _ hne).trans HD2.out)
  have hM4 : RfS w4 M C sm true := ⟨by rw [hw4]; exact ⟨alloc_old hM3.d.box, alloc_old hM3.d.row⟩⟩
  have hr4 : w4.heap[w3.heap.size]? = some (.cells #[.int .i64 2, .int .i64 0, .int .i64 0, .int .i64 0, .int .i64 v, .int .i64 0, .bool false] 68 (0, 0)) := by rw [hw4]; exact heap_alloc_new _ _
  have hF4 : FrX (fun y => y = D ∨ y = M) w w4 := by rw [hw4]; exact hF3.alloc _
  have e0 : w4.cell? ⟨w.heap.size, 0, none⟩ = some (.pointer none) := cell_of_block hG4 0
  have e1 : w4.cell? ⟨w.heap.size, 1, none⟩ = some (.pointer none) := cell_of_block hG4 1
  have e2 : w4.frozen? ⟨w.heap.size, 0, none⟩ = false := free_of_block hG4 0
  have e3 : w4.frozen? ⟨w.heap.size, 1, none⟩ = false := free_of_block hG4 1
  rw [hw4] at e0 e1 e2 e3
  have HG4 := Lib.hid hG4
  have HO4 := Lib.hid hO4
  have HD4 := Lib.hid hD4
  have HM4 := Lib.hid hM4
  have HR4 := Lib.hid hr4
  have HF4 := Lib.hid hF4
  have HZ3 := Lib.hid hz3
  have HW4 := Lib.hid hw4
  have HLT := Lib.hid (And.intro hDl (And.intro hMl hCl))
  clear hG4 hO4 hD4 hM4 hr4 hF4 hz3 hw4 hw3 hy3 hM3 hF3 m3 m4 hDl hMl hCl
  generalize hGG : w.heap.size = G at *
  have HGG := Lib.hid hGG
  generalize hpp : wA.heap.size = p at *
  clear hGG hpp
  go_wp2_with fail
  rw [← HW4.out]
  refine bodyPost_ret (results_cell_row_tmp2 rfl _ _ G 35 #[.pointer (some ⟨p, 0, none⟩), .pointer (some ⟨w3.heap.size, 0, none⟩)] (0, 0) _ (by rfl) (set_of_block (i := 1) _ (set_of_block (i := 0) _ HG4.out)) Try.underlying35 (by rfl) (by kernel_rfl)) rfl ?_
  have h1 := HP.out.1
  have h2 := HP.out.2
  have h3 := HZ3.out
  obtain ⟨l1, l2, l3⟩ := HLT.out
  rw [HGG.out]
  refine ⟨p, w3.heap.size, rfl, ?_, ?_, ?_, ⟨HM4.out.d.go ((setP_other (by omega) _ _).trans (setP_other (by omega) _ _)) ((setP_other (by omega) _ _).trans (setP_other (by omega) _ _))⟩, ?_, by omega, by omega, by omega⟩
  · exact (setP_other (by omega) _ _).trans ((setP_other (by omega) _ _).trans HO4.out)
  · exact (setP_other (by omega) _ _).trans ((setP_other (by omega) _ _).trans HR4.out)
  · exact HD4.out.go ((setP_other (by omega) _ _).trans (setP_other (by omega) _ _))
  · exact (HF4.out.setCell (p := ⟨G, 0, none⟩) (.inr (by rw [HGG.out]; exact Nat.le_refl _)) _).setCell (p := ⟨G, 1, none⟩) (.inr (by rw [HGG.out]; exact Nat.le_refl _)) _
end Go.Proofs.Ytacadgocoleaoaa

/- What DequePlays holds between any two rounds. -/
namespace Go.Proofs.Ytacadgocoleaoaa
open Go.ChangeShapes Go.WideShapes Go.RowKit Go.Deep
set_option linter.unusedVariables false

/-- An operation and its model. -/
structure Tr where
  p : Nat
  r : Nat
  o : OpS
def prs (l : List Tr) : List (Nat × OpS) := l.map fun z => (z.p, z.o)
def cellsP : List Tr → List Value
  | [] => []
  | x :: r => .pointer (some ⟨x.p, 0, none⟩) :: .pointer (some ⟨x.r, 0, none⟩) :: cellsP r
theorem cellsP_len (l : List Tr) : (cellsP l).length = l.length * 2 := by
  induction l with
  | nil => rfl
  | cons x r ih => simp [cellsP, ih]; omega
theorem cellsP_append (a b : List Tr) : cellsP (a ++ b) = cellsP a ++ cellsP b := by
  induction a with
  | nil => rfl
  | cons x r ih => simp [cellsP, ih]
theorem cellsP_at {l : List Tr} {i : Nat} {x : Tr} (h : l[i]? = some x) : (cellsP l)[i * 2]? = some (.pointer (some ⟨x.p, 0, none⟩)) ∧ (cellsP l)[i * 2 + 1]? = some (.pointer (some ⟨x.r, 0, none⟩)) := by
  induction l generalizing i with
  | nil => cases h
  | cons a r ih =>
    cases i with
    | zero =>
      obtain rfl := Option.some.inj h
      exact ⟨rfl, rfl⟩
    | succ i =>
      have := ih (i := i) (by simpa using h)
      rw [show (i + 1) * 2 = i * 2 + 1 + 1 by omega]
      simpa [cellsP] using this
theorem cellsP_one {l : List Tr} {v : Value} (h : v ∈ cellsP l) : v.oneCell' = true := by
  induction l with
  | nil => cases h
  | cons a r ih =>
    simp only [cellsP, List.mem_cons] at h
    rcases h with rfl | rfl | h
    · rfl
    · rfl
    · exact ih h
theorem cellsP_take (l : List Tr) (n : Nat) : cellsP (l.take n) = (cellsP l).take (n * 2) := by
  induction l generalizing n with
  | nil => simp [cellsP]
  | cons a r ih =>
    cases n with
    | zero => simp [cellsP]
    | succ n => rw [List.take_succ_cons, show (n + 1) * 2 = n * 2 + 1 + 1 by omega]; simp [cellsP, ih]
theorem cellsP_drop (l : List Tr) (n : Nat) : cellsP (l.drop n) = (cellsP l).drop (n * 2) := by
  induction l generalizing n with
  | nil => simp [cellsP]
  | cons a r ih =>
    cases n with
    | zero => simp [cellsP]
    | succ n => rw [List.drop_succ_cons, show (n + 1) * 2 = n * 2 + 1 + 1 by omega]; simp [cellsP, ih]
theorem cellsP_erase (l : List Tr) (n : Nat) : cellsP (l.eraseIdx n) = (cellsP l).take (n * 2) ++ (cellsP l).drop ((n + 1) * 2) := by
  rw [List.eraseIdx_eq_take_drop_succ, cellsP_append, cellsP_take, cellsP_drop]
theorem cellsP_set {l : List Tr} {n : Nat} {x y : Tr} (h : l[n]? = some x) (h1 : y.p = x.p) (h2 : y.r = x.r) : cellsP (l.set n y) = cellsP l := by
  induction l generalizing n with
  | nil => cases h
  | cons a r ih =>
    cases n with
    | zero =>
      obtain rfl := Option.some.inj h
      simp [cellsP, h1, h2]
    | succ n => simp [cellsP, ih (n := n) (by simpa using h)]
theorem mem_prs {l : List Tr} {x : Nat × OpS} (h : x ∈ prs l) : ∃ z ∈ l, x = (z.p, z.o) := by
  obtain ⟨z, hz, rfl⟩ := List.mem_map.1 h
  exact ⟨z, hz, rfl⟩
theorem prs_snd (l : List Tr) : (prs l).map Prod.snd = l.map Tr.o := by unfold prs; rw [List.map_map]; rfl

structure PlC (W wr : World) (D E M C : Nat) (i : Int) (l : List Tr) : Prop where
  on : ∃ s ow, OnL wr D s ow (prs l) i ∧ DP s (l.map Tr.o) ∧ RfS wr M C s ow.isSome
  rfo : ∀ z ∈ l, ∃ x, RfOp wr z.r z.o x ∧ (NumC z.o → x = z.o.x)
  oth : ∃ sE, DeqB wr E sE (ovV none)
  sp : D < E ∧ E < C ∧ C < M
  gt : ∀ z ∈ l, M < z.p ∧ M < z.r
  pr : ∀ z ∈ l, ∀ y ∈ l, z.p ≠ y.r
  nr : ∀ (a b : Nat) x y, l[a]? = some x → l[b]? = some y → x.r = y.r → a = b
  bel : Below W.heap.size W wr
  wd : W.heap.size ≤ D
section
variable {W wr w' : World} {D E M C : Nat} {i : Int} {l : List Tr}
theorem PlC.lt (h : PlC W wr D E M C i l) : M < wr.heap.size ∧ ∀ z ∈ l, z.p < wr.heap.size ∧ z.r < wr.heap.size := by
  obtain ⟨s, ow, h1, h2, h3⟩ := h.on
  refine ⟨block_lt h3.d.box, fun z hz => ⟨h1.lt (z.p, z.o) (List.mem_map.2 ⟨z, hz, rfl⟩), ?_⟩⟩
  obtain ⟨x, hx, -⟩ := h.rfo z hz
  exact block_lt hx
theorem PlC.go (h : PlC W wr D E M C i l) (hb : Below wr.heap.size wr w') : PlC W w' D E M C i l := by
  obtain ⟨hM, hz⟩ := h.lt
  have hs := h.sp
  obtain ⟨s, ow, h1, h2, h3⟩ := h.on
  obtain ⟨sE, hE⟩ := h.oth
  refine ⟨⟨s, ow, h1.below hb, h2, ⟨h3.d.go (hb.block _ hM) (hb.block _ (by omega))⟩⟩, fun z hzl => ?_, ⟨sE, hE.go (hb.block _ hE.lt)⟩, hs, h.gt, h.pr, h.nr, h.bel.trans (hb.mono h.bel.size), h.wd⟩
  obtain ⟨x, hx, hx2⟩ := h.rfo z hzl
  exact ⟨x, (hb.block _ (hz z hzl).2).trans hx, hx2⟩
theorem PlC.more {j : Int} (h : PlC W wr D E M C i l) (hij : i ≤ j) : PlC W wr D E M C j l := by
  obtain ⟨s, ow, h1, h2, h3⟩ := h.on
  exact ⟨⟨s, ow, h1.more hij, h2, h3⟩, h.rfo, h.oth, h.sp, h.gt, h.pr, h.nr, h.bel, h.wd⟩
theorem OnL.begin2 {s : DqS} {lq : List (Nat × OpS)} {p k : Nat} {v : Int} (h : OnL wr D s none lq i) (hD : DeqB w' D s (ovV (some p))) (hO : OpB w' p D (opB k v)) (hb : ∀ x ∈ lq, w'.heap[x.1]? = wr.heap[x.1]?) (hp : wr.heap.size ≤ p) (hk : k ≠ 3) : OnL w' D s (some p) (lq ++ [(p, opB k v)]) i := by
  refine ⟨hD, h.bd, fun x hx => ?_, fun x hx => ?_, h.nd.append (fun x hx => by have := h.lt x hx; omega), h.ow.begin_ hk⟩
  · rcases List.mem_append.1 hx with hx | hx
    · exact ⟨(h.ops x hx).1.go (hb x hx), (h.ops x hx).2⟩
    · rw [List.mem_singleton.1 hx]; exact ⟨hO, bdO_new _ _ _ h.low⟩
  · rcases List.mem_append.1 hx with hx | hx
    · exact h.ne x hx
    · rw [List.mem_singleton.1 hx]; have := h.deq.lt; show p ≠ D; omega
/-- One more is begun. -/
theorem PlC.one {s : DqS} {ow' : Option Nat} {p r : Nat} {o : OpS} {x : Int} (h : PlC W wr D E M C i l) (h1 : OnL w' D s ow' (prs l ++ [(p, o)]) i) (h2 : DP s (l.map Tr.o ++ [o])) (h3 : RfS w' M C s ow'.isSome) (ho : RfOp w' r o x) (hx : NumC o → x = o.x)
    (hf : FrX (fun y => y = D ∨ y = M) wr w') (hp : wr.heap.size ≤ p) (hr : wr.heap.size ≤ r) (hpr : p ≠ r) : PlC W w' D E M C i (l ++ [⟨p, r, o⟩]) := by
  obtain ⟨hM, hz⟩ := h.lt
  have hs := h.sp
  obtain ⟨sE, hE⟩ := h.oth
  have hap : ∀ z ∈ l ++ [(⟨p, r, o⟩ : Tr)], z ∈ l ∨ z = ⟨p, r, o⟩ := fun z hz => by
    rcases List.mem_append.1 hz with hz | hz
    · exact .inl hz
    · exact .inr (List.mem_singleton.1 hz)
  refine ⟨⟨s, ow', by unfold prs at h1 ⊢; rw [List.map_append]; exact h1, by rw [List.map_append]; exact h2, h3⟩, fun z hzl => ?_, ⟨sE, hE.go (hf.block _ hE.lt (by omega))⟩, hs, fun z hzl => ?_, fun z hzl y hyl => ?_, fun a b u v ha hb he => ?_, ?_, h.wd⟩
  · rcases hap z hzl with hzl | rfl
    · obtain ⟨x2, hx2, hx3⟩ := h.rfo z hzl
      exact ⟨x2, (hf.block _ (hz z hzl).2 (by have := h.gt z hzl; omega)).trans hx2, hx3⟩
    · exact ⟨x, ho, hx⟩
  · rcases hap z hzl with hzl | rfl
    · exact h.gt z hzl
    · exact ⟨by show M < p; omega, by show M < r; omega⟩
  · rcases hap z hzl with hzl | rfl <;> rcases hap y hyl with hyl | rfl
    · exact h.pr z hzl y hyl
    · have := (hz z hzl).1; show z.p ≠ r; omega
    · have := (hz y hyl).2; show p ≠ y.r; omega
    · exact hpr
  · have key : ∀ {k : Nat} {z : Tr}, (l ++ [(⟨p, r, o⟩ : Tr)])[k]? = some z → (k < l.length ∧ l[k]? = some z) ∨ (k = l.length ∧ z = ⟨p, r, o⟩) := fun {k z} hk => by
      by_cases c : k < l.length
      · rw [List.getElem?_append_left c] at hk
        exact .inl ⟨c, hk⟩
      · obtain ⟨c2, -⟩ := List.getElem?_eq_some_iff.1 hk
        rw [List.length_append] at c2
        have c3 : k = l.length := by simp at c2; omega
        subst c3
        rw [List.getElem?_append_right (Nat.le_refl _), Nat.sub_self] at hk
        exact .inr ⟨rfl, (Option.some.inj hk).symm⟩
    rcases key ha with ⟨c1, c2⟩ | ⟨c1, rfl⟩ <;> rcases key hb with ⟨c3, c4⟩ | ⟨c3, rfl⟩
    · exact h.nr a b u v c2 c4 he
    · have := (hz u (List.mem_of_getElem? c2)).2
      have he : u.r = r := he
      omega
    · have := (hz v (List.mem_of_getElem? c4)).2
      have he : r = v.r := he
      omega
    · omega
  · exact h.bel.trans (hf.below (B := W.heap.size) h.bel.size (fun k hk => by have := h.wd; omega))
/-- A step of the n-th one, and of its model. -/
theorem PlC.step {s : DqS} {ow : Option Nat} {k : Nat} {z : Tr} {w6 : World} (h : PlC W wr D E M C i l) (h1 : OnL wr D s ow (prs l) i) (h2 : DP s (l.map Tr.o)) (h3 : RfS wr M C s ow.isSome) (hk : l[k]? = some z)
    (hR : StepR z.p D s z.o ow wr w6) (hT : RfT w6 M C z.r s z.o ow.isSome w') :
    ((stepD s z.o).2.got = 0 → PlC W w' D E M C (i + 1) (l.set k ⟨z.p, z.r, (stepD s z.o).2⟩)) ∧ ((stepD s z.o).2.got ≠ 0 → PlC W w' D E M C (i + 1) (l.eraseIdx k)) := by
  obtain ⟨hM, hz⟩ := h.lt
  have hs := h.sp
  obtain ⟨sE, hE⟩ := h.oth
  have hmem := List.mem_of_getElem? hk
  have hkl := (List.getElem?_eq_some_iff.1 hk).1
  have hk2 : (l.map Tr.o)[k]? = some z.o := by rw [List.getElem?_map, hk]; rfl
  have hk3 : (prs l)[k]? = some (z.p, z.o) := by unfold prs; rw [List.getElem?_map, hk]; rfl
  have hal := h2.al hk2
  have hnx := step_next s hal.in_
  have hst := h1.step hk3 hal.safe hR
  have hg6 := hR.fr.size
  -- what stays over both
  have hboth : ∀ y, y < wr.heap.size → y ≠ D → y ≠ z.p → y ≠ M → y ≠ C → y ≠ z.r → w'.heap[y]? = wr.heap[y]? := fun y hy a b c d e =>
    (hT.fr.block y (by omega) (fun q => by rcases q with q | q | q; exact c q; exact d q; exact e q)).trans (hR.fr.block y hy (fun q => by rcases q with q | q; exact a q; exact b q))
  have hzg := h.gt z hmem
  have hpz := h.pr z hmem z hmem
  -- from w6 to w'
  have h67 : ∀ y, y < w6.heap.size → y ≠ M → y ≠ C → y ≠ z.r → w'.heap[y]? = w6.heap[y]? := fun y hy c d e => hT.fr.block y hy (fun q => by rcases q with q | q | q; exact c q; exact d q; exact e q)
  have hrf : ∀ y ∈ l, y.r ≠ z.r → ∃ x, RfOp w' y.r y.o x ∧ (NumC y.o → x = y.o.x) := fun y hy hne => by
    obtain ⟨x, hx, hx2⟩ := h.rfo y hy
    have h4 := h.gt y hy
    exact ⟨x, (hboth _ (hz y hy).2 (by omega) (fun e => h.pr z hmem y hy e.symm) (by omega) (by omega) hne).trans hx, hx2⟩
  have hbel : Below W.heap.size W w' := by
    have b1 : Below W.heap.size W w6 := h.bel.trans (hR.fr.below (B := W.heap.size) h.bel.size (fun y hy => by have := h.wd; rcases hy with rfl | rfl <;> omega))
    exact b1.trans (hT.fr.below (B := W.heap.size) b1.size (fun y hy => by have := h.wd; rcases hy with rfl | rfl | rfl <;> omega))
  have hE' : ∃ sE, DeqB w' E sE (ovV none) := ⟨sE, hE.go (hboth _ hE.lt (by omega) (by omega) (by omega) (by omega) (by omega))⟩
  refine ⟨fun hg => ?_, fun hg => ?_⟩
  · have hon := hst.1 hg
    have hbz : (if (stepD s z.o).2.got ≠ 0 ∧ z.o.kind ≠ 3 then false else ow.isSome) = ow.isSome := if_neg (fun q => q.1 hg)
    have hsd := hT.sd
    rw [hbz] at hsd
    have hset : ∀ y ∈ l.set k ⟨z.p, z.r, (stepD s z.o).2⟩, ∃ u ∈ l, u.p = y.p ∧ u.r = y.r := fun y hy => by
      rcases List.mem_or_eq_of_mem_set hy with hy | hy
      · exact ⟨y, hy, rfl, rfl⟩
      · exact ⟨z, hmem, by rw [hy], by rw [hy]⟩
    have hprs : prs (l.set k ⟨z.p, z.r, (stepD s z.o).2⟩) = (prs l).set k (z.p, (stepD s z.o).2) := by unfold prs; rw [List.map_set]
    refine ⟨⟨_, ow, ?_, ?_, hsd⟩, fun y hy => ?_, hE', hs, fun y hy => ?_, fun y hy u hu => ?_, fun a b u v ha hb he => ?_, hbel, h.wd⟩
    · rw [hprs]
      refine hon.go (h67 _ hon.deq.lt (by omega) (by omega) (by omega)) (fun x hx => ?_)
      have hx2 := hon.lt x hx
      rw [← hprs] at hx
      obtain ⟨y, hy, rfl⟩ := mem_prs hx
      obtain ⟨u, hu, e1, e2⟩ := hset y hy
      have h4 := h.gt u hu
      have h5 := h.pr u hu z hmem
      exact h67 _ hx2 (by show y.p ≠ M; omega) (by show y.p ≠ C; omega) (by show y.p ≠ z.r; omega)
    · rw [List.map_set]
      exact (h2.step hk2).1 hg
    · obtain ⟨j, hj⟩ := List.getElem?_of_mem hy
      by_cases c : k = j
      · subst c
        rw [List.getElem?_set_self hkl] at hj
        obtain rfl := Option.some.inj hj
        exact hT.od
      · rw [List.getElem?_set_ne c] at hj
        exact hrf y (List.mem_of_getElem? hj) (fun e => c (h.nr k j z y hk hj e.symm))
    · obtain ⟨u, hu, e1, e2⟩ := hset y hy
      have := h.gt u hu
      omega
    · obtain ⟨y2, hy2, e1, e2⟩ := hset y hy
      obtain ⟨u2, hu2, e3, e4⟩ := hset u hu
      rw [← e1, ← e4]
      exact h.pr y2 hy2 u2 hu2
    · have key : ∀ {q : Nat} {x : Tr}, (l.set k ⟨z.p, z.r, (stepD s z.o).2⟩)[q]? = some x → ∃ x', l[q]? = some x' ∧ x'.r = x.r := fun {q x} hq => by
        by_cases c : k = q
        · subst c
          rw [List.getElem?_set_self hkl] at hq
          exact ⟨_, hk, by rw [← Option.some.inj hq]⟩
        · rw [List.getElem?_set_ne c] at hq
          exact ⟨x, hq, rfl⟩
      obtain ⟨u', c1, c2⟩ := key ha
      obtain ⟨v', c3, c4⟩ := key hb
      exact h.nr a b u' v' c1 c3 (by rw [c2, c4, he])
  · have hon := hst.2 hg
    have hbz : (if (stepD s z.o).2.got ≠ 0 ∧ z.o.kind ≠ 3 then false else ow.isSome) = (ovE z.p (stepD s z.o).2 ow).isSome := by
      by_cases c : z.o.kind = 3
      · rw [if_neg (fun q => q.2 c)]
        have hne : ow ≠ some z.p := fun e => by
          obtain ⟨o2, c1, c2⟩ := (h1.ow z.p).1 e
          obtain ⟨j, hj⟩ := List.getElem?_of_mem c1
          have := h1.nd j k _ _ hj hk3 rfl
          subst this
          rw [hk3] at hj
          injection hj with hj
          injection hj with _ c4
          exact c2 (c4 ▸ c)
        unfold ovE
        rw [if_neg (fun q => hne q.2)]
      · rw [if_pos ⟨hg, c⟩]
        have ho : ow = some z.p := (h1.ow z.p).2 ⟨z.o, List.mem_of_getElem? hk3, c⟩
        unfold ovE
        rw [if_pos ⟨hg, ho⟩]; rfl
    have hsd := hT.sd
    rw [hbz] at hsd
    have hme : ∀ y ∈ l.eraseIdx k, y ∈ l := fun y hy => List.mem_of_mem_eraseIdx hy
    have hprs : prs (l.eraseIdx k) = (prs l).eraseIdx k := map_eraseQ _ _ _
    refine ⟨⟨_, _, ?_, ?_, hsd⟩, fun y hy => ?_, hE', hs, fun y hy => h.gt y (hme y hy), fun y hy u hu => h.pr y (hme y hy) u (hme u hu), fun a b u v ha hb he => ?_, hbel, h.wd⟩
    · rw [hprs]
      refine hon.go (h67 _ hon.deq.lt (by omega) (by omega) (by omega)) (fun x hx => ?_)
      have hx2 := hon.lt x hx
      rw [← hprs] at hx
      obtain ⟨y, hy, rfl⟩ := mem_prs hx
      have h4 := h.gt y (hme y hy)
      have h5 := h.pr y (hme y hy) z hmem
      exact h67 _ hx2 (by show y.p ≠ M; omega) (by show y.p ≠ C; omega) (by show y.p ≠ z.r; omega)
    · rw [map_eraseQ]
      exact (h2.step hk2).2 hg
    · obtain ⟨j, hj, hjy⟩ := List.mem_eraseIdx_iff_getElem?.1 hy
      exact hrf y (hme y hy) (fun e => hj (h.nr j k y z hjy hk e))
    · rw [List.getElem?_eraseIdx] at ha hb
      split at ha <;> split at hb
      · exact h.nr a b u v ha hb he
      · have := h.nr a (b + 1) u v ha hb he; omega
      · have := h.nr (a + 1) b u v ha hb he; omega
      · have := h.nr (a + 1) (b + 1) u v ha hb he; omega
end
end Go.Proofs.Ytacadgocoleaoaa

/- What DequePlays holds between any two rounds: with the row of what is under way. -/
namespace Go.Proofs.Ytacadgocoleaoaa
open Go.ChangeShapes Go.WideShapes Go.RowKit Go.Deep
set_option linter.unusedVariables false

theorem infoPair : (Try.prog.info? 35).map (fun i => (i.zero, i.size, i.bytes)) = some (some (.agg #[.pointer none, .pointer none]), 2, 16) := by kernel_rfl
structure PlT (W : World) (D E M C : Nat) (i : Nat) (l : List Tr) (vl : Value) (wr : World) : Prop where
  core : PlC W wr D E M C i l
  few : l.length ≤ 6
  rl : wr.ownsRow (M + 1) 35 2 vl l.length (cellsP l)
  al : ∀ g, vl.ownBlock = some g → ∀ z ∈ l, z.p ≠ g ∧ z.r ≠ g
section
variable {W wr w' : World} {D E M C i : Nat} {l : List Tr} {vl : Value}
theorem PlT.bw (h : PlT W D E M C i l vl wr) (hb : Below wr.heap.size wr w') : PlT W D E M C i l vl w' :=
  ⟨h.core.go hb, h.few, ownsRow_block h.rl fun g hg => hb.block g (h.rl.lt g hg).2, h.al⟩
theorem PlT.skip (h : PlT W D E M C i l vl wr) : PlT W D E M C (i + 1) l vl wr := ⟨h.core.more (by omega), h.few, h.rl, h.al⟩
theorem PlC.go2 {j : Int} (h : PlC W wr D E M C j l) (hb : ∀ y, y ≤ M → w'.heap[y]? = wr.heap[y]?) (hz : ∀ z ∈ l, w'.heap[z.p]? = wr.heap[z.p]? ∧ w'.heap[z.r]? = wr.heap[z.r]?) (hB : Below W.heap.size W w') : PlC W w' D E M C j l := by
  have hs := h.sp
  obtain ⟨s, ow, h1, h2, h3⟩ := h.on
  obtain ⟨sE, hE⟩ := h.oth
  refine ⟨⟨s, ow, h1.go (hb _ (by omega)) (fun x hx => ?_), h2, ⟨h3.d.go (hb _ (by omega)) (hb _ (by omega))⟩⟩, fun z hzl => ?_, ⟨sE, hE.go (hb _ (by omega))⟩, hs, h.gt, h.pr, h.nr, hB, h.wd⟩
  · obtain ⟨y, hy, rfl⟩ := mem_prs hx
    exact (hz y hy).1
  · obtain ⟨x, hx, hx2⟩ := h.rfo z hzl
    exact ⟨x, (hz z hzl).2.trans hx, hx2⟩
theorem PlT.app {z : Tr} {wb w7 : World} {vl' : Value} (h : PlT W D E M C i l vl wr) (hc : PlC W wb D E M C i (l ++ [z])) (hl : l.length < 6) (hzp : wr.heap.size ≤ z.p) (hzr : wr.heap.size ≤ z.r) (hg : wb.grownBy w7 vl.ownBlock)
    (hr : w7.ownsRow (M + 1) 35 2 vl' (l.length + 1) (cellsP (l ++ [z]))) (hv : ∀ g, vl'.ownBlock = some g → vl.ownBlock = some g ∨ wb.heap.size ≤ g) : PlT W D E M C (i + 1) (l ++ [z]) vl' w7 := by
  obtain ⟨hM, hzl⟩ := hc.lt
  have hvl : ∀ g, vl.ownBlock = some g → M + 1 ≤ g ∧ g < wr.heap.size := fun g hg => h.rl.lt g hg
  have hal : ∀ g, vl.ownBlock = some g → ∀ y ∈ l ++ [z], y.p ≠ g ∧ y.r ≠ g := fun g hgv y hy => by
    rcases List.mem_append.1 hy with hy | hy
    · exact h.al g hgv y hy
    · rw [List.mem_singleton.1 hy]
      have := (hvl g hgv).2
      exact ⟨by omega, by omega⟩
  have hwd := hc.wd
  have hsp := hc.sp
  refine ⟨(hc.go2 (fun y hy => hg.block y (by omega) (fun e => by have := (hvl y e.symm).1; omega)) (fun y hy => ?_) ?_).more (by omega), by rw [List.length_append]; simp; omega, by rw [List.length_append]; exact hr, fun g hgv y hy => ?_⟩
  · exact ⟨hg.block _ (hzl y hy).1 (fun e => (hal _ e.symm y hy).1 rfl), hg.block _ (hzl y hy).2 (fun e => (hal _ e.symm y hy).2 rfl)⟩
  · exact hc.bel.grown hg hc.bel.size (fun k hk => by have := (hvl k hk).1; omega)
  · rcases hv g hgv with h3 | h3
    · exact hal g h3 y hy
    · have := hzl y hy
      exact ⟨by omega, by omega⟩
theorem PlT.rowAt {s : DqS} {ow : Option Nat} {k : Nat} {z : Tr} {w6 : World} (h : PlT W D E M C i l vl wr) (hk : l[k]? = some z) (hR : StepR z.p D s z.o ow wr w6) (hT : RfT w6 M C z.r s z.o ow.isSome w') : w'.ownsRow (M + 1) 35 2 vl l.length (cellsP l) := by
  have hmem := List.mem_of_getElem? hk
  have hs := h.core.sp
  refine ownsRow_block h.rl fun g hgv => ?_
  have h3 := h.rl.lt g hgv
  have h4 := h.al g hgv z hmem
  exact (hT.fr.block g (by have := hR.fr.size; omega) (fun q => by rcases q with q | q | q <;> omega)).trans (hR.fr.block g h3.2 (fun q => by rcases q with q | q <;> omega))
theorem PlT.on_ {s : DqS} {ow : Option Nat} {k : Nat} {z : Tr} {w6 : World} (h : PlT W D E M C i l vl wr) (h1 : OnL wr D s ow (prs l) i) (h2 : DP s (l.map Tr.o)) (h3 : RfS wr M C s ow.isSome) (hk : l[k]? = some z)
    (hR : StepR z.p D s z.o ow wr w6) (hT : RfT w6 M C z.r s z.o ow.isSome w') (hg : (stepD s z.o).2.got = 0) : PlT W D E M C (i + 1) (l.set k ⟨z.p, z.r, (stepD s z.o).2⟩) vl w' := by
  have hmem := List.mem_of_getElem? hk
  refine ⟨(h.core.step h1 h2 h3 hk hR hT).1 hg, by rw [List.length_set]; exact h.few, by rw [List.length_set, cellsP_set (x := z) (y := ⟨z.p, z.r, (stepD s z.o).2⟩) hk rfl rfl]; exact h.rowAt hk hR hT, fun g hgv y hy => ?_⟩
  rcases List.mem_or_eq_of_mem_set hy with hy | hy
  · exact h.al g hgv y hy
  · rw [hy]; exact h.al g hgv z hmem
theorem PlT.off {s : DqS} {ow : Option Nat} {k : Nat} {z : Tr} {w6 w8 : World} {vl' : Value} (h : PlT W D E M C i l vl wr) (h1 : OnL wr D s ow (prs l) i) (h2 : DP s (l.map Tr.o)) (h3 : RfS wr M C s ow.isSome) (hk : l[k]? = some z)
    (hR : StepR z.p D s z.o ow wr w6) (hT : RfT w6 M C z.r s z.o ow.isSome w') (hg : (stepD s z.o).2.got ≠ 0) (hb : Below w'.heap.size w' w8) (hrl : w8.ownsRow w'.heap.size 35 2 vl' (l.length - 1) (cellsP (l.eraseIdx k))) : PlT W D E M C (i + 1) (l.eraseIdx k) vl' w8 := by
  have hkl := (List.getElem?_eq_some_iff.1 hk).1
  have hel : (l.eraseIdx k).length = l.length - 1 := by rw [List.length_eraseIdx, if_pos hkl]
  have hc := (h.core.step h1 h2 h3 hk hR hT).2 hg
  have hcl := hc.lt
  refine ⟨hc.go hb, by rw [hel]; have := h.few; omega, by rw [hel]; exact owns_mono_ hrl (by omega), fun g hgv y hy => ?_⟩
  have := (hrl.lt g hgv).1
  have := hcl.2 y hy
  exact ⟨by omega, by omega⟩
end
end Go.Proofs.Ytacadgocoleaoaa
