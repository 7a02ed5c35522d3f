/- byContent: values compared. -/
import Derived.Test.YtcjmhdneelmbhaaTbLJ
import Derived.Sort.Grow
import Derived.StillTailTactics
import Derived.Shelf.Spec.SlicesGrow
import Derived.Test.YtcjmhdneelmbhaaChecked
import Derived.Laws.AppendOwnNone
import Derived.Deep.AppendLies
namespace Go.Proofs.Ytcjmhdneelmbhaa
open Go.ChangeShapes Go.WideShapes Go.RowKit Go.Deep
set_option linter.unusedVariables false

def orV (a c : Int) : Int := if a = 0 then c else a
def cmpV (x y : VD) : Int := orV (Lib.compareInt x.1 y.1) (Lib.compareInt x.2 y.2)
theorem cmpInt_zero {a b : Int} : Lib.compareInt a b = 0 ↔ a = b := by
  unfold Lib.compareInt
  by_cases h1 : a < b
  · rw [if_pos h1]; constructor <;> intro h <;> omega
  · rw [if_neg h1]
    by_cases h2 : b < a
    · rw [if_pos h2]; constructor <;> intro h <;> omega
    · rw [if_neg h2]; constructor <;> intro h <;> omega
theorem cmpInt_lt {a b : Int} : Lib.compareInt a b < 0 ↔ a < b := by
  unfold Lib.compareInt
  by_cases h1 : a < b
  · rw [if_pos h1]; constructor <;> intro h <;> omega
  · rw [if_neg h1]
    by_cases h2 : b < a
    · rw [if_pos h2]; constructor <;> intro h <;> omega
    · rw [if_neg h2]; constructor <;> intro h <;> omega
theorem cmpInt_in (a b : Int) : -1 ≤ Lib.compareInt a b ∧ Lib.compareInt a b ≤ 1 := by
  unfold Lib.compareInt
  split
  · omega
  · split <;> omega
theorem cmpV_lt {x y : VD} : cmpV x y < 0 ↔ ltV x y = true := by
  unfold cmpV orV ltV
  rw [decide_eq_true_iff]
  by_cases h : x.1 = y.1
  · rw [if_pos (cmpInt_zero.2 h), cmpInt_lt]; omega
  · rw [if_neg (fun e => h (cmpInt_zero.1 e)), cmpInt_lt]; omega

theorem compI_any (x y : Int) (w : World) : Calls Try.prog 49 #[.int .i64 x, .int .i64 y] w fun e w' => e = .returned (.int .i64 (Lib.compareInt x y)) ∧ w' = w := by
  have hx : (x != x) = false := by simp
  have hy : (y != y) = false := by simp
  by_cases h1 : x < y
  · have e : Lib.compareInt x y = -1 := by unfold Lib.compareInt; rw [if_pos h1]
    rw [e]
    clear e
    go_enter Try.func49, Try.ntmps49
    go_wp2
    all_goals (go_ret; exact ⟨rfl, rfl⟩)
  · by_cases h2 : y < x
    · have e : Lib.compareInt x y = 1 := by unfold Lib.compareInt; rw [if_neg h1, if_pos h2]
      rw [e]
      clear e
      go_enter Try.func49, Try.ntmps49
      go_wp2
      all_goals (go_ret; exact ⟨rfl, rfl⟩)
    · have e : Lib.compareInt x y = 0 := by unfold Lib.compareInt; rw [if_neg h1, if_neg h2]
      rw [e]
      clear e
      go_enter Try.func49, Try.ntmps49
      go_wp2
      all_goals (go_ret; exact ⟨rfl, rfl⟩)
theorem compL_any (x y : Int) (w : World) : Calls Try.prog 50 #[.int .i64 x, .int .i64 y] w fun e w' => e = .returned (.int .i64 (Lib.compareInt x y)) ∧ w' = w := by
  have hx : (x != x) = false := by simp
  have hy : (y != y) = false := by simp
  by_cases h1 : x < y
  · have e : Lib.compareInt x y = -1 := by unfold Lib.compareInt; rw [if_pos h1]
    rw [e]
    clear e
    go_enter Try.func50, Try.ntmps50
    go_wp2
    all_goals (go_ret; exact ⟨rfl, rfl⟩)
  · by_cases h2 : y < x
    · have e : Lib.compareInt x y = 1 := by unfold Lib.compareInt; rw [if_neg h1, if_pos h2]
      rw [e]
      clear e
      go_enter Try.func50, Try.ntmps50
      go_wp2
      all_goals (go_ret; exact ⟨rfl, rfl⟩)
    · have e : Lib.compareInt x y = 0 := by unfold Lib.compareInt; rw [if_neg h1, if_neg h2]
      rw [e]
      clear e
      go_enter Try.func50, Try.ntmps50
      go_wp2
      all_goals (go_ret; exact ⟨rfl, rfl⟩)
/-- The first that isn't 0. -/
theorem or_any {w : World} {b : Nat} (a c : Int) (h0 : w.cell? ⟨b, 0, none⟩ = some (.int .i64 a)) (h1 : w.cell? ⟨b, 1, none⟩ = some (.int .i64 c)) :
    Calls Try.prog 48 #[.slice (some ⟨b, 0, none⟩) 2 2] w fun e w' => e = .returned (.int .i64 (orV a c)) ∧ w' = w := by
  go_enter Try.func48, Try.ntmps48
  go_wp2
  by_cases ha : a = 0
  · have d0 : (a != 0) = false := by simp [ha]
    have HE : Hid (orV a c = c) := Lib.hid (if_pos ha)
    clear ha
    go_loop [8] (fun i => ∃ j : Nat, j ≤ 2 ∧ i = .int .i64 j ∧ Hid (2 ≤ j → c = 0)) (fun i => 2 - (intOf i).toNat)
    case atStart => exact ⟨0, by omega, rfl, Lib.hid (fun h => by omega)⟩
    case round =>
      obtain ⟨j, hj, rfl, hz⟩ := hrel
      rcases (show j = 0 ∨ j = 1 ∨ j = 2 by omega) with rfl | rfl | rfl
      · go_wp2
        go_round
        case rel => exact ⟨1, by omega, by go_num, Lib.hid (fun h => by omega)⟩
        case measure => simp [intOf]
      · by_cases hc : c = 0
        · have d1 : (c != 0) = false := by simp [hc]
          have HC := Lib.hid hc
          clear hc
          go_wp2
          go_round
          case rel => exact ⟨2, by omega, by go_num, Lib.hid (fun _ => HC.out)⟩
          case measure => simp [intOf]
        · have d1 : (c != 0) = true := by simp [hc]
          clear hc
          go_wp2
          go_ret
          exact ⟨by rw [HE.out]; rfl, rfl⟩
      · have HC := Lib.hid (hz.out (Nat.le_refl _))
        go_wp2
        go_ret
        exact ⟨by rw [HE.out, HC.out]; rfl, rfl⟩
  · have d0 : (a != 0) = true := by simp [ha]
    have HE : Hid (orV a c = a) := Lib.hid (if_neg ha)
    clear ha
    refine wp_loop_rounds 1 ?_
    rw [rounds_succ]
    go_wp2
    go_ret
    exact ⟨by rw [HE.out]; rfl, rfl⟩
set_option maxRecDepth 100000 in
theorem byContent_any (x y : VD) (w : World) :
    Calls Try.prog 33 #[.agg #[.int .i64 x.1, .int .i64 x.2], .agg #[.int .i64 y.1, .int .i64 y.2]] w fun e w' => e = .returned (.int .i64 (cmpV x y)) ∧ ∃ q os', w' = Sort.grow (w.drewN q) os' := by
  obtain ⟨x1, x2⟩ := x
  obtain ⟨y1, y2⟩ := y
  have HE : Hid (cmpV (x1, x2) (y1, y2) = orV (Lib.compareInt x1 y1) (Lib.compareInt x2 y2)) := Lib.hid rfl
  dsimp only
  go_enter Try.func33, Try.ntmps33
  go_upto_region 1 with fail
  obtain ⟨wA, hwA⟩ : ∃ wA, wA = (w.alloc (.cells #[.int .i64 x1, .int .i64 x2] 69)).alloc (.cells #[.int .i64 y1, .int .i64 y2] 69) := ⟨_, rfl⟩
  have g0 : wA.cell? ⟨w.heap.size, 0, none⟩ = some (.int .i64 x1) := by rw [hwA]; simp
  have g1 : wA.cell? ⟨w.heap.size, 1, none⟩ = some (.int .i64 x2) := by rw [hwA]; simp
  have g2 : wA.cell? ⟨w.heap.size + 1, 0, none⟩ = some (.int .i64 y1) := by rw [hwA]; simp
  have g3 : wA.cell? ⟨w.heap.size + 1, 1, none⟩ = some (.int .i64 y2) := by rw [hwA]; simp
  rw [← hwA]
  have HW := Lib.hid hwA
  clear hwA
  obtain ⟨a, ha⟩ : ∃ a, a = Lib.compareInt x1 y1 := ⟨_, rfl⟩
  obtain ⟨c, hc⟩ : ∃ c, c = Lib.compareInt x2 y2 := ⟨_, rfl⟩
  have HC1 : ∀ w, Calls Try.prog 49 #[.int .i64 x1, .int .i64 y1] w fun e w' => e = .returned (.int .i64 a) ∧ w' = w := by rw [ha]; exact compI_any x1 y1
  have HC2 : ∀ w, Calls Try.prog 50 #[.int .i64 x2, .int .i64 y2] w fun e w' => e = .returned (.int .i64 c) ∧ w' = w := by rw [hc]; exact compL_any x2 y2
  rw [← ha, ← hc] at HE
  have H1 := Lib.hid HC1
  have H2 := Lib.hid HC2
  clear ha hc HC1 HC2
  refine wp_region_still_tail 10 (by kernel_rfl) (by kernel_rfl) ?_
  simp only [List.take_succ_cons, List.take_zero, List.drop_succ_cons, List.drop_zero]
  iterate 4 still_step
  still_call (H1.out _)
  iterate 4 still_step
  still_call (H2.out _)
  refine wpStill_nil ?_
  change wpList _ _ _ _ _ wA.drew
  go_wp2_with fail
  refine (or_any a c ?_ ?_).mono ?_
  · simp
  · simp
  rintro e w' ⟨rfl, rfl⟩
  go_wp2_with fail
  go_ret
  refine ⟨by rw [HE.out]; rfl, 1, #[.cells #[.int .i64 x1, .int .i64 x2] 69, .cells #[.int .i64 y1, .int .i64 y2] 69, .cells #[.int .i64 a, .int .i64 c] 3], ?_⟩
  rw [HW.out, Sort.alloc_eq_grow w, Sort.alloc_eq_grow (Sort.grow w _), Sort.grow_grow, Sort.alloc_eq_grow (Sort.grow w _), Sort.grow_grow, Sort.drew_grow]
  rfl

/-! ### the sort -/
def encV (x : VD) : List Value := [.int .i64 x.1, .int .i64 x.2]
theorem ltC (x y : VD) : ltOf cmpV x y = ltV x y := by
  unfold ltOf
  rw [Bool.eq_iff_iff, decide_eq_true_iff, cmpV_lt]
theorem swoC : Sort.SWO (ltOf cmpV) where
  irrefl x := by rw [ltC]; unfold ltV; simp
  trans x y z h1 h2 := by rw [ltC] at *; unfold ltV at *; rw [decide_eq_true_iff] at *; omega
  ntrans x y z h1 h2 := by rw [ltC] at *; unfold ltV at *; rw [decide_eq_false_iff_not] at *; omega
theorem flat_len (d : Array VD) : (Sort.flatK encV 2 d).toList.length = (cellsV d.toList).length := by
  rw [cellsV_len, Array.length_toList, Sort.size_flatK, Array.length_toList]
theorem flat_cells (d : Array VD) : (Sort.flatK encV 2 d).toList = cellsV d.toList := by
  apply List.ext_getElem (flat_len d)
  intro t h1 h2
  have ht : t < d.size * 2 := by rw [Array.length_toList, Sort.size_flatK] at h1; exact h1
  have hi : t / 2 < d.size := by omega
  have e1 := Sort.get_flatK encV 2 d t ht
  have e2 : (Sort.flatK encV 2 d).toList[t] = (Sort.flatK encV 2 d)[t]! := by
    rw [getElem!_pos (Sort.flatK encV 2 d) t (by rw [Sort.size_flatK]; exact ht)]; simp
  rw [e2, e1, getElem!_pos d (t / 2) hi]
  have h3 := cellsV_at (l := d.toList) (i := t / 2) (x := d[t / 2]) (by rw [Array.getElem?_toList]; exact Array.getElem?_eq_getElem hi)
  rcases (show t % 2 = 0 ∨ t % 2 = 1 by omega) with hp | hp
  · have ht2 : t / 2 * 2 = t := by omega
    rw [ht2] at h3
    rw [hp]
    have := (List.getElem?_eq_some_iff.1 h3.1).2
    rw [this]; rfl
  · have ht2 : t / 2 * 2 + 1 = t := by omega
    rw [ht2] at h3
    rw [hp]
    have := (List.getElem?_eq_some_iff.1 h3.2).2
    rw [this]; rfl
/-- A row of the caller's own, all of whose cells were written over, in a world that has grown. -/
theorem own_putK {w : World} {K g n cap sz : Nat} {e : TypeId} {xs : List Value} {D : Array Value} {m : Nat} {os : Array Obj} (h : w.ownsRow K e sz (.slice (some ⟨g, 0, none⟩) n cap) n xs) (hd : D.size = n * sz) :
    (Sort.grow (Sort.putRow id (Sort.ahead w m) g 0 D) os).ownsRow K e sz (.slice (some ⟨g, 0, none⟩) n cap) n D.toList ∧ GroD w (Sort.grow (Sort.putRow id (Sort.ahead w m) g 0 D) os) (.slice (some ⟨g, 0, none⟩) n cap) (.slice (some ⟨g, 0, none⟩) n cap) := by
  obtain ⟨h1, h2⟩ := h
  rcases h2 with ⟨h0, _⟩ | ⟨g', cap', cur, hv, hg, hh, hn, hcap, hsz, ht⟩
  · cases h0
  cases hv
  have hlt : g < w.heap.size := (Array.getElem?_eq_some_iff.1 hh).1
  have hgr : ∀ y, y < w.heap.size → (Sort.grow (Sort.putRow id (Sort.ahead w m) g 0 D) os).heap[y]? = (Sort.putRow id (Sort.ahead w m) g 0 D).heap[y]? := fun y hy => Sort.heap_grow_old _ _ (by simpa using hy)
  have hold : ∀ y, y < w.heap.size → y ≠ g → (Sort.grow (Sort.putRow id (Sort.ahead w m) g 0 D) os).heap[y]? = w.heap[y]? := fun y hy hyg => by
    rw [hgr y hy]
    simp [Sort.putRow, Sort.mapBlock, Array.getElem?_modify, Ne.symm hyg]
  have hnew : (Sort.grow (Sort.putRow id (Sort.ahead w m) g 0 D) os).heap[g]? = some (.cells (Sort.putCells id 0 D cur) e (0, 0)) := by
    rw [hgr g hlt]
    simp [Sort.putRow, Sort.mapBlock, Array.getElem?_modify, hh, Sort.onCells]
  have hps : (Sort.putCells id 0 D cur).size = cur.size := by simp [Sort.putCells]
  have hns : n * sz ≤ cap * sz := Nat.mul_le_mul_right _ hn
  refine ⟨⟨by rw [Array.length_toList]; exact hd, .inr ⟨g, cap, _, rfl, hg, hnew, hn, hcap, by rw [hps, hsz], ?_⟩⟩, ⟨rfl, rfl, rfl, by simp, fun y hy hv => hold y hy (fun e => hv (by rw [e]; rfl)), fun y hy => .inl hy⟩⟩
  apply List.ext_getElem?
  intro i
  rw [List.getElem?_take]
  by_cases hi : i < n * sz
  · rw [if_pos hi]
    have hid : i < D.size := by omega
    have hic : i < cur.size := by rw [hsz]; omega
    have hic2 : i < (Sort.putCells id 0 D cur).size := by omega
    rw [Array.getElem?_toList, Array.getElem?_eq_getElem hic2, Array.getElem?_toList, Array.getElem?_eq_getElem hid]
    simp [Sort.putCells, hid]
  · rw [if_neg hi, List.getElem?_eq_none (by simp; omega)]
theorem valAgg (w : World) : (isAgg 69).run Try.prog w = .ok true w := by
  unfold isAgg
  rw [Sem.run_bind, run_underlying Try.underlying69 w]
  rfl
theorem valSize (w : World) : (Go.sizeOf 69).run Try.prog w = .ok 2 w := by
  have := Try.infoVal69
  cases hq : Try.prog.info? 69 with
  | none => simp [hq] at this
  | some i => simp [hq] at this; simp [Go.sizeOf, typeInfo, hq, this]
theorem sorted_is {l : List VD} {d : Array VD} (hp : d.toList.Perm l) (hs : Sort.SortedIn (ltOf cmpV) 0 d.size d) : d.toList = l.mergeSort leV := by
  refine eq_of_sorted (hp.trans (List.mergeSort_perm _ _).symm) ?_ (List.pairwise_mergeSort leV_trans leV_total _)
  rw [List.pairwise_iff_getElem]
  intro i j hi hj hij
  have hi' : i < d.size := by simpa using hi
  have hj' : j < d.size := by simpa using hj
  have h3 := hs i j (Nat.zero_le _) hij hj'
  rw [ltC, getElem!_pos d i hi', getElem!_pos d j hj'] at h3
  unfold ltV at h3
  unfold leV
  rw [decide_eq_false_iff_not] at h3
  rw [decide_eq_true_iff]
  simp only [Array.getElem_toList]
  omega
theorem sortVals_some {w : World} {K g cap : Nat} {l : List VD} (h : w.ownsRow K 69 2 (.slice (some ⟨g, 0, none⟩) l.length cap) l.length (cellsV l)) (hl : l.length ≤ 1000000) :
    Calls Try.prog 32 #[.slice (some ⟨g, 0, none⟩) l.length cap, .func (.func 33) #[] #[]] w fun e w' =>
      e = .returned (.tuple #[]) ∧ w'.ownsRow K 69 2 (.slice (some ⟨g, 0, none⟩) l.length cap) l.length (cellsV (l.mergeSort leV)) ∧ GroD w w' (.slice (some ⟨g, 0, none⟩) l.length cap) (.slice (some ⟨g, 0, none⟩) l.length cap) := by
  have hlt := (h.lt g rfl).2
  have hsz : l.toArray.size = l.length := by simp
  have hcmp : CmpLays Try.prog 33 #[] encV 2 cmpV g 0 l.toArray.size w := by
    intro m os dk hs x y
    exact byContent_any x y _
  have hH : Sort.HoldsK encV 2 w g 0 l.toArray := by
    intro j hj
    rw [Sort.size_flatK, hsz] at hj
    refine ⟨?_, by rw [Nat.zero_add]; exact h.frozenAt j⟩
    rw [Nat.zero_add, h.cellAt j hj]
    have hjl : j < (cellsV l).length := by rw [cellsV_len]; exact hj
    have e := flat_cells l.toArray
    rw [List.toList_toArray] at e
    rw [List.getElem?_eq_getElem hjl, getElem!_pos (Sort.flatK encV 2 l.toArray) j (by rw [Sort.size_flatK, hsz]; exact hj)]
    show some _ = some _
    congr 1
    have e2 : (Sort.flatK encV 2 l.toArray)[j]'(by rw [Sort.size_flatK, hsz]; exact hj) = (Sort.flatK encV 2 l.toArray).toList[j]'(by rw [Array.length_toList, Sort.size_flatK, hsz]; exact hj) := by simp
    rw [e2]
    simp only [e]
    rfl
  have eg : ∀ args w, (callFunc 33 args).run Try.prog w = .ok (.enter 33 args) w := enters_of Try.func33 (by kernel_rfl) rfl
  have hcon := AnyQ.slices_SortFunc sfv 2 valAgg valSize encV (fun _ => rfl) (fun x v hv => by
    simp only [encV, List.mem_cons, List.not_mem_nil, or_false] at hv
    rcases hv with rfl | rfl <;> rfl) cmpV swoC 33 #[] g 0 cap l.toArray w eg hcmp hH hlt (by rw [hsz]; omega)
  rw [hsz] at hcon
  refine Calls.mono (show Calls Try.prog _ _ _ _ from hcon) ?_
  rintro e w' ⟨rfl, d', m, os, hp, hs, rfl⟩
  have hds : d'.size = l.length := by rw [hp.1]; simp
  have hperm : d'.toList.Perm l := by
    have h1 := hp.2.2
    have e1 : d'.extract 0 l.length = d' := by rw [← hds]; simp
    have e2 : l.toArray.extract 0 l.length = l.toArray := by
      rw [show l.toArray.extract 0 l.length = l.toArray.extract 0 l.toArray.size from by rw [hsz]]
      simp
    rw [e1, e2] at h1
    simpa using h1
  have hso := sorted_is hperm (by rw [hds]; exact hs)
  have hpt := own_putK (D := Sort.flatK encV 2 d') (m := m) (os := os) h (by rw [Sort.size_flatK, hds])
  rw [flat_cells, hso] at hpt
  exact ⟨rfl, hpt⟩
end Go.Proofs.Ytcjmhdneelmbhaa

/- The library's Grow for values at this program. -/
namespace Go.Proofs.Ytcjmhdneelmbhaa
open Go.Shelf
def grw_ren : Go.Shelf.Ren := ⟨fun | 4 => 45 | n => n, fun | 25 => 69 | 22 => 59 | 0 => 0 | 3 => 3 | 4 => 4 | 9 => 9 | 20 => 20 | n => n, fun | n => n⟩
theorem grw : Go.Proofs.Lays8.n4 Try.prog grw_ren := {
  mixed := by kernel_rfl,
  f4 := ⟨Try.f45.name, by decide, Try.func45.trans (congrArg some (by kernel_rfl))⟩,
  t0 := Try.underlying0, a0 := Try.isAgg0, z0 := Try.sizeOf0, v0 := Try.zeroValue0,
  t3 := Try.underlying3, a3 := Try.isAgg3, z3 := Try.sizeOf3, v3 := Try.zeroValue3,
  t4 := Try.underlying4, a4 := Try.isAgg4, z4 := Try.sizeOf4, v4 := Try.zeroValue4,
  t9 := Try.underlying9, a9 := Try.isAgg9, z9 := Try.sizeOf9, v9 := Try.zeroValue9,
  t20 := Try.underlying20, a20 := Try.isAgg20, z20 := Try.sizeOf20, v20 := Try.zeroValue20,
  t22 := Try.underlying59, a22 := Try.isAgg59, z22 := Try.sizeOf59, v22 := Try.zeroValue59 }
end Go.Proofs.Ytcjmhdneelmbhaa

/- All values of a table, by content. -/
namespace Go.Proofs.Ytcjmhdneelmbhaa
open Go.ChangeShapes Go.WideShapes Go.RowKit Go.Deep
set_option linter.unusedVariables false

theorem bitsLenV (k : Int) (w : World) (h0 : 0 ≤ k) (h1 : k ≤ 18446744073709551615) : Calls Try.prog 47 #[.int .u64 k] w fun e w' => e = .returned (.int .i64 (Lib.bitLen k.toNat : Nat)) ∧ w' = w :=
  Any.bits_Len (SlLaysF0.n15.bits (P := Try.prog) (ρ := sfv_ren) { sfv with }) k w h0 h1
theorem insSortV_nil (cb : Value) (w : World) :
    Calls Try.prog 63 #[.slice none 0 0, .int .i64 0, .int .i64 0, cb] w fun e w' => e = .returned (.tuple #[]) ∧ w' = w := by
  go_enter Try.func63, Try.ntmps63
  go_wp2
  refine wp_loop_rounds 1 ?_
  rw [rounds_succ]
  go_wp2
  go_end0
  exact ⟨rfl, rfl⟩
set_option maxRecDepth 100000 in
theorem pdqSortV_nil (cb : Value) (w : World) :
    Calls Try.prog 46 #[.slice none 0 0, .int .i64 0, .int .i64 0, .int .i64 0, cb] w fun e w' => e = .returned (.tuple #[]) ∧ w' = w := by
  go_enter Try.func46, Try.ntmps46
  go_wp2
  refine wp_loop_rounds 1 ?_
  rw [rounds_succ]
  go_wp2_with (first | (go_at_call 63; refine (insSortV_nil _ _).mono ?_; rintro e w' ⟨rfl, rfl⟩))
  refine bodyPost_ret (results_none rfl _ _ _) rfl ?_
  exact ⟨rfl, rfl⟩
set_option maxRecDepth 100000 in
theorem sortV_nil (cb : Value) (w : World) :
    Calls Try.prog 32 #[.slice none 0 0, cb] w fun e w' => e = .returned (.tuple #[]) ∧ w' = w := by
  have hLen : ∀ w, Calls Try.prog 47 #[.int .u64 0] w fun e w' => e = .returned (.int .i64 0) ∧ w' = w := fun w => bitsLenV 0 w (by omega) (by omega)
  go_enter Try.func32, Try.ntmps32
  go_wp2_with (first
    | (go_at_call 47; refine (hLen _).mono ?_; rintro e w' ⟨rfl, rfl⟩)
    | (go_at_call 46; refine (pdqSortV_nil _ _).mono ?_; rintro e w' ⟨rfl, rfl⟩))
  go_end0
  exact ⟨rfl, rfl⟩
/-- The sort of any row of values of the caller's own. -/
theorem sortVals_any {w : World} {K : Nat} {v : Value} {l : List VD} (h : w.ownsRow K 69 2 v l.length (cellsV l)) (hl : l.length ≤ 1000000) :
    Calls Try.prog 32 #[v, .func (.func 33) #[] #[]] w fun e w' =>
      e = .returned (.tuple #[]) ∧ w'.ownsRow K 69 2 v l.length (cellsV (l.mergeSort leV)) ∧ GroD w w' v v := by
  have h0 := h
  rcases h.2 with ⟨rfl, h1⟩ | ⟨g, cap, cur, rfl, -⟩
  · obtain rfl : l = [] := List.length_eq_zero_iff.1 h1
    refine (sortV_nil _ w).mono ?_
    rintro e w' ⟨rfl, rfl⟩
    exact ⟨rfl, by simpa using h0, rfl, rfl, rfl, Nat.le_refl _, fun _ _ _ => rfl, fun _ h => .inl h⟩
  · exact sortVals_some h0 hl

theorem zeroCells_size (z : Array Value) (n : Nat) : (Builtin.zeroCells z n).size = n * z.size := by
  unfold Builtin.zeroCells
  simp
/-- Grow of nothing. -/
theorem grow_any (n : Nat) (hn : n ≤ 1000000) (w : World) :
    Calls Try.prog 45 #[.slice none 0 0, .int .i64 n] w fun e w' => ∃ v, e = .returned v ∧ w'.ownsRow w.heap.size 69 2 v 0 [] ∧ Below w.heap.size w w' := by
  rcases Nat.eq_zero_or_pos n with rfl | hp
  · refine Calls.mono (Any8.slices_Grow_room grw none 0 0 0 w (Nat.le_refl _) (by omega) (by omega) (by omega)) ?_
    rintro e w' ⟨rfl, rfl⟩
    exact ⟨_, rfl, World.ownsRow_nil _ _ _ _, Below.refl _ _⟩
  · obtain ⟨i0, hi0, hz0, hz1, hz2⟩ := info_parts Try.infoVal69
    refine Calls.mono (Any8.slices_Grow_grow grw i0 (.agg #[.int .i64 0, .int .i64 0]) hi0 hz0 (by rw [hz1]; omega) none 0 0 n [] w (Nat.le_refl _) (by omega) (by rw [hz2]; omega) (by omega) (by simp) (fun _ => rfl) (fun a h => by cases h)) ?_
    rintro e w' ⟨rfl, rfl⟩
    have h1 : 0 + n ≤ grownCap w (0 + n) 0 69 := grownCap_ge w _ _ _
    have h2 := grownCap_le_maxLen w (0 + n) 0 69 (by unfold maxLen; omega)
    refine ⟨_, rfl, ⟨rfl, .inr ⟨w.heap.size, _, _, rfl, Nat.le_refl _, heap_alloc_new w.drew _, Nat.zero_le _, h2, ?_, by simp⟩⟩, ((Below.refl _ w).drew).alloc (Nat.le_refl _) _⟩
    rw [Array.size_append, Array.size_append, zeroCells_size, zeroCells_size]
    show (0 + (0 + n - 0) * 2 + (grownCap w (0 + n) 0 69 - (0 + n)) * 2) = grownCap w (0 + n) 0 69 * 2
    omega
/-- An append of nothing. -/
theorem append_empty {w : World} {base : Nat} {t ty e : TypeId} {i : TypeInfo} {size : Nat} (ht : Try.prog.underlying t = some (.slice e)) (hi : Try.prog.info? e = some i) {v : Value} {n : Nat} {xs : List Value} (hown : w.ownsRow base e size v n xs) (A : Option Addr) (c : Nat) :
    (Builtin.append_ #[t, t] ty #[v, .slice A 0 c]).run Try.prog w = .ok v w := by
  cases A with
  | none =>
    rcases hown.2 with ⟨rfl, rfl⟩ | ⟨g, cap, cur, rfl, _, _, hnc, _⟩
    · simp [Builtin.append_, run_underlying ht, sizeOf, typeInfo, hi, Builtin.lenOf, Builtin.firstCells]
    · simp [Builtin.append_, run_underlying ht, sizeOf, typeInfo, hi, Builtin.lenOf, Builtin.firstCells, hnc, storeCells]
  | some a =>
    rcases hown.2 with ⟨rfl, rfl⟩ | ⟨g, cap, cur, rfl, _, _, hnc, _⟩
    · simp [Builtin.append_, run_underlying ht, sizeOf, typeInfo, hi, Builtin.lenOf, Builtin.firstCells, loadCells, loadCellsFrom]
    · simp [Builtin.append_, run_underlying ht, sizeOf, typeInfo, hi, Builtin.lenOf, Builtin.firstCells, hnc, storeCells, loadCells, loadCellsFrom]
/-- How many values the first j drawers have. -/
def preV (L : Nat → List VD) (j : Nat) : List VD := (List.range j).flatMap L
theorem preV_succ (L : Nat → List VD) (j : Nat) : preV L (j + 1) = preV L j ++ L j := by
  unfold preV
  rw [List.range_succ, List.flatMap_append]
  simp
theorem pre_mono (L : Nat → List VD) {a b : Nat} (h : a ≤ b) : (preV L a).length ≤ (preV L b).length := by
  induction h with
  | refl => exact Nat.le_refl _
  | step _ ih => rw [preV_succ, List.length_append]; omega
theorem preV_all (ds : List (List VD)) : preV (fun d => ds.getD d []) ds.length = ds.flatten := by
  unfold preV
  rw [List.flatMap_def]
  congr 1
  apply List.ext_getElem (by simp)
  intro i h1 h2
  have hi : i < ds.length := by simpa using h1
  simp [hi]
/-- A row of values of the call's own is told. -/
def ToldRow (w : World) (l : List VD) (e : Ending) (w' : World) : Prop := ∃ v, e = .returned v ∧ w'.ownsRow w.heap.size 69 2 v l.length (cellsV l) ∧ Below w.heap.size w w'
set_option maxRecDepth 100000 in
set_option maxHeartbeats 4000000 in
theorem concat_any {w : World} {K g n : Nat} {U : Nat → Value} {L : Nat → List VD} (hr : w.rowIs g 59 n U) (hp : ∀ d, d < n → w.ownsRow K 69 2 (U d) (L d).length (cellsV (L d))) (hn : n ≤ 16) (ht : (preV L n).length ≤ 4096) :
    Calls Try.prog 31 #[.slice (some ⟨g, 0, none⟩) n n] w (ToldRow w (preV L n)) := by
  have HR := Lib.hid hr
  have HP := Lib.hid hp
  have HT := Lib.hid ht
  clear hr hp ht
  go_enter Try.func31, Try.ntmps31
  go_wp2_with fail
  go_loop [3, 11] (fun s i => ∃ j : Nat, j ≤ n ∧ i = .int .i64 j ∧ ∃ q : Nat, s = .int .i64 q ∧ Hid (q = (preV L j).length)) (fun _ i => n - (intOf i).toNat)
  case atStart => exact ⟨0, Nat.zero_le _, rfl, 0, rfl, Lib.hid rfl⟩
  case round =>
    obtain ⟨j, hj, rfl, q, rfl, hq⟩ := hrel
    by_cases hjn : j < n
    · obtain ⟨A, c, hU⟩ : ∃ A c, U j = .slice A (L j).length c := own_sliceL (HP.out j hjn)
      have hc := HR.out.cell hjn
      rw [hU] at hc
      have hl : (preV L (j + 1)).length = (preV L j).length + (L j).length := by rw [preV_succ, List.length_append]
      have hle : (preV L (j + 1)).length ≤ 4096 := Nat.le_trans (pre_mono L hjn) HT.out
      have hq1 : (q : Int) + ((L j).length : Int) ≤ 4096 := by have := hq.out; omega
      have HN : Hid (q + (L j).length = (preV L (j + 1)).length) := Lib.hid (by rw [hl, ← hq.out])
      have hnn : ¬ ((q : Int) + ((L j).length : Int) < 0) := by omega
      have dnn : decide ((q : Int) + ((L j).length : Int) < 0) = false := decide_eq_false hnn
      have hj0 : (0 : Int) ≤ j := by omega
      have hj1 : (j : Int) < n := by omega
      clear hl hle hU hq
      go_wp2_with fail
      go_round
      case rel => exact ⟨j + 1, hjn, by go_num, q + (L j).length, by go_num, HN⟩
      case measure => simp [intOf]; omega
    · obtain rfl : j = n := by omega
      have HQ : Hid (q ≤ 4096) := Lib.hid (by rw [hq.out]; exact HT.out)
      clear hq hj hjn
      go_wp2_with fail
      refine (grow_any q (by have := HQ.out; omega) w).mono ?_
      rintro e w1 ⟨v, rfl, hown, hb1⟩
      have HO := Lib.hid hown
      have HB := Lib.hid hb1
      clear hown hb1
      go_wp2_with fail
      clear HQ
      go_loopw [6, 27] (fun sv i wr => ∃ k : Nat, k ≤ j ∧ i = .int .i64 k ∧ ∃ v2, sv = v2 ∧ Hid (wr.ownsRow w.heap.size 69 2 v2 (preV L k).length (cellsV (preV L k))) ∧ Hid (Below w.heap.size w wr)) (fun _ i _ => j - (intOf i).toNat)
      case atStart => exact ⟨0, Nat.zero_le _, rfl, v, rfl, HO, HB⟩
      case round =>
        obtain ⟨k, hk, rfl, v2, hv2, HOr, HBr⟩ := hrel
        obtain rfl := hv2.symm
        by_cases hkj : k < j
        · obtain ⟨A, c, hU⟩ : ∃ A c, U k = .slice A (L k).length c := own_sliceL (HP.out k hkj)
          have hc := (World.cell?_of_block (a := ⟨g, k, none⟩) (HBr.out.block g HR.out.lt)).trans (HR.out.cell hkj)
          rw [hU] at hc
          have hl : (preV L (k + 1)).length = (preV L k).length + (L k).length := by rw [preV_succ, List.length_append]
          have hle : (preV L (k + 1)).length ≤ 4096 := Nat.le_trans (pre_mono L hkj) HT.out
          have HUK := Lib.hid hU
          have hk0 : (0 : Int) ≤ k := by omega
          have hk1 : (k : Int) < j := by omega
          have HLE := Lib.hid (And.intro hl hle)
          clear hl hle hU
          cases hLk : L k with
          | nil =>
            have hc0 := hc
            rw [hLk] at hc0
            have hrun : ∀ ty, (Builtin.append_ #[59, 59] ty #[v2, .slice A 0 c]).run Try.prog wr = .ok v2 wr := fun ty => by
              obtain ⟨i0, hi0, -⟩ := info_parts Try.infoVal69
              exact append_empty Try.underlying59 hi0 HOr.out A c
            have HN : Hid (preV L (k + 1) = preV L k) := Lib.hid (by rw [preV_succ, hLk, List.append_nil])
            clear hc hLk
            go_wp2_with (at_builtin; refine Lib.wpList_append_run _ rfl _ _ _ _ rfl _ _ rfl rfl _ _ (hrun _) ?_)
            go_roundw
            case rel => exact ⟨k + 1, hkj, by go_num, _, rfl, by rw [HN.out]; exact HOr, HBr⟩
            case measure => simp [intOf]; omega
          | cons x0 r0 =>
            obtain ⟨b, hA⟩ : ∃ b, A = some ⟨b, 0, none⟩ := by
              rcases (HP.out k hkj).2 with ⟨_, h0⟩ | ⟨b, c', cur, e, -⟩
              · rw [hLk] at h0; cases h0
              · rw [HUK.out] at e
                simp only [Value.slice.injEq] at e
                exact ⟨b, e.1⟩
            subst hA
            have HLK : Hid (0 < (L k).length) := Lib.hid (by rw [hLk]; simp)
            clear hLk
            have hown := HP.out k hkj
            rw [HUK.out] at hown
            have hownr : wr.ownsRow K 69 2 (.slice (some ⟨b, 0, none⟩) (L k).length c) (L k).length (cellsV (L k)) := ownsRow_block hown fun y hy => HBr.out.block y (hown.lt y hy).2
            have HWR := Lib.hid hownr
            obtain ⟨i0, hi0, hz0, hz1, hz2⟩ := info_parts Try.infoVal69
            have HI0 := Lib.hid (And.intro hi0 (And.intro hz0 (And.intro hz1 hz2)))
            clear hown hownr hi0 hz0 hz1 hz2
            go_wp2_with (at_builtin; refine wpList_append_lies _ rfl _ _ _ rfl w.heap.size 69 i0 (.agg #[.int .i64 0, .int .i64 0]) 2 16 Try.underlying59 HI0.out.1 HI0.out.2.1 HI0.out.2.2.1 HI0.out.2.2.2 rfl (by decide) _ _ _ rfl HOr.out ⟨b, 0, none⟩ (L k).length c (cellsV (L k)) rfl (cellsV_len _) (fun jj u hu => HWR.out.cells (g := b) rfl jj u hu) (fun u hu => cellsV_one hu) HLK.out (by have := HLE.out; unfold maxLen; omega) (by have := HLE.out; omega) HBr.out.size wr.heap.size rfl ?_)
            intro g' cap' w8 hown8 hgrow8 hloc8 hlt8
            have HO8 : Hid (w8.ownsRow w.heap.size 69 2 (.slice (some ⟨g', 0, none⟩) (preV L (k + 1)).length cap') (preV L (k + 1)).length (cellsV (preV L (k + 1)))) := Lib.hid (by rw [HLE.out.1, preV_succ, cellsV_append]; exact hown8)
            have HB8 : Hid (Below w.heap.size w w8) := Lib.hid (HBr.out.grown hgrow8 HBr.out.size (fun y hy => (HOr.out.lt y hy).1))
            rw [← HLE.out.1]
            clear hown8 hgrow8 hloc8 hlt8
            go_wp2_with fail
            go_roundw
            case rel => exact ⟨k + 1, hkj, by go_num, _, rfl, HO8, HB8⟩
            case measure => simp [intOf]; omega
        · obtain rfl : k = j := by omega
          clear hk hkj
          go_wp2_with fail
          go_ret
          exact ⟨_, rfl, HOr.out, HBr.out⟩
theorem values_any {w : World} {K b g bm n : Nat} {U : Nat → Value} {ds : List (List VD)} (h : TabM w K b g bm n U ds) :
    Calls Try.prog 18 #[.pointer (some ⟨b, 0, none⟩)] w (ToldRow w (valsV ds)) := by
  have c0 := h.cells.1
  have hlen := h.ok.len
  have hpre : preV (fun d => ds.getD d []) n = ds.flatten := by rw [← hlen]; exact preV_all ds
  have htot : ds.flatten.length ≤ 4096 := h.ok.tot
  have HC := Lib.hid (concat_any (w := w) (K := K) (g := g) (n := n) (U := U) (L := fun d => ds.getD d []) h.row h.pool.own h.ok.n16 (by rw [hpre]; exact htot))
  have HPRE := Lib.hid hpre
  have HTOT := Lib.hid htot
  clear h hpre htot hlen
  go_enter Try.func18, Try.ntmps18
  go_wp2_with fail
  refine HC.out.mono ?_
  rintro e w1 ⟨v, rfl, hown, hb1⟩
  rw [HPRE.out] at hown
  have HS := Lib.hid (sortVals_any hown (by have := HTOT.out; omega))
  have HO := Lib.hid hown
  have HB := Lib.hid hb1
  clear hown hb1
  go_wp2_with fail
  refine HS.out.mono ?_
  rintro e w2 ⟨rfl, hown2, hg2⟩
  have HO2 : Hid (w2.ownsRow w.heap.size 69 2 v (valsV ds).length (cellsV (valsV ds))) := Lib.hid (by rw [vals_len]; exact hown2)
  have HB2 : Hid (Below w.heap.size w w2) := Lib.hid ⟨hg2.os.trans HB.out.os, hg2.tape.trans HB.out.tape, hg2.output.trans HB.out.output, Nat.le_trans HB.out.size hg2.size, fun k hk => (hg2.block k (Nat.lt_of_lt_of_le hk HB.out.size) (fun e => by have := (HO.out.lt k e).1; omega)).trans (HB.out.block k hk)⟩
  clear hown2 hg2
  go_wp2_with fail
  go_ret
  exact ⟨v, rfl, HO2.out, HB2.out⟩
end Go.Proofs.Ytcjmhdneelmbhaa

/- Ranks: each handle's place by content. -/
namespace Go.Proofs.Ytcjmhdneelmbhaa
open Go.ChangeShapes Go.WideShapes Go.RowKit Go.Deep
set_option linter.unusedVariables false

theorem run_makeMap_hint {P : Program} {t k e : TypeId} (ht : P.underlying t = some (.map k e)) (n : Int) (w : World) : (Instr.makeMap t (some (.int .i64 n))).run P w = .ok (.map (some w.heap.size)) (w.alloc (.map #[] 0)) := by
  simp [Instr.makeMap, run_underlying ht, asInt, asIntOf, Result.andThen]
/-- The first k values' handles have their places. -/
structure RkUp (n : Nat) (ds : List (List VD)) (f : Int → Option Int) (k : Nat) : Prop where
  at_ : ∀ i x, i < k → (valsV ds)[i]? = some x → f (hV n ds x : Int) = some (i : Int)
  only : ∀ h : Int, (f h).isSome = true → ∃ i x, i < k ∧ (valsV ds)[i]? = some x ∧ h = (hV n ds x : Int)
theorem RkUp.start (n : Nat) (ds : List (List VD)) : RkUp n ds (fun _ => none) 0 := ⟨fun i x h => by omega, fun h e => by cases e⟩
theorem RkUp.fresh {n : Nat} {ds : List (List VD)} {f : Int → Option Int} {k : Nat} (h : RkUp n ds f k) (T : TbOk n ds) {x : VD} (hx : (valsV ds)[k]? = some x) : (f (hV n ds x : Int)).isSome = false := by
  cases e : (f (hV n ds x : Int)).isSome with
  | false => rfl
  | true =>
    obtain ⟨i, y, hi, hy, hh⟩ := h.only _ e
    have a := T.mem_vals.1 (List.mem_of_getElem? hx)
    have b := T.mem_vals.1 (List.mem_of_getElem? hy)
    obtain rfl := T.h_inj a b (by omega)
    have h1 := (List.getElem?_eq_some_iff.1 hx)
    have h2 := (List.getElem?_eq_some_iff.1 hy)
    have h3 := List.pairwise_iff_getElem.1 T.vals_nodup i k h2.1 h1.1 (by omega)
    exact absurd (h2.2.trans h1.2.symm) h3
theorem RkUp.step {n : Nat} {ds : List (List VD)} {f : Int → Option Int} {k : Nat} (h : RkUp n ds f k) (T : TbOk n ds) {x : VD} (hx : (valsV ds)[k]? = some x) : RkUp n ds (putF f (hV n ds x : Int) (k : Int)) (k + 1) := by
  refine ⟨fun i y hi hy => ?_, fun z hz => ?_⟩
  · unfold putF
    by_cases e : i = k
    · subst e
      rw [hx] at hy
      rw [Option.some.inj hy, if_pos rfl]
    · rw [if_neg (fun q => ?_)]
      · exact h.at_ i y (by omega) hy
      · have h1 := h.fresh T hx
        rw [← q, h.at_ i y (by omega) hy] at h1
        cases h1
  · unfold putF at hz
    by_cases e : z = (hV n ds x : Int)
    · exact ⟨k, x, by omega, hx, e⟩
    · rw [if_neg e] at hz
      obtain ⟨i, y, hi, hy⟩ := h.only z hz
      exact ⟨i, y, by omega, hy⟩
def ToldRk (w : World) (n : Nat) (ds : List (List VD)) (e : Ending) (w' : World) : Prop :=
  ∃ br c f, e = .returned (.map (some br)) ∧ w.heap.size ≤ br ∧ c ≤ 4096 ∧ MpI w' br c f (totV ds) ∧ RkUp n ds f (totV ds) ∧ Below w.heap.size w w'

set_option maxRecDepth 100000 in
set_option maxHeartbeats 4000000 in
theorem ranks_any {w : World} {K b g bm n : Nat} {U : Nat → Value} {ds : List (List VD)} (h : TabM w K b g bm n U ds) :
    Calls Try.prog 22 #[.pointer (some ⟨b, 0, none⟩)] w (ToldRk w n ds) := by
  have HT := Lib.hid h
  have hmk := fun (z : Int) (u : World) => run_makeMap_hint (P := Try.prog) Try.underlying70 z u
  have hbl := (h.lt (.inl rfl)).2
  obtain ⟨N, hN⟩ : ∃ N, N = totV ds := ⟨_, rfl⟩
  have hN4 : N ≤ 4096 := by rw [hN]; exact h.ok.tot
  have HNN := Lib.hid hN
  clear h hN
  go_enter Try.func22, Try.ntmps22
  go_wp2_with fail
  refine (len_any HT.out).mono ?_
  rintro e w1 ⟨rfl, rfl⟩
  go_wp2_with fail
  obtain ⟨wM, hwM⟩ : ∃ wM, wM = w1.alloc (.map #[] 0) := ⟨_, rfl⟩
  have HM0 : Hid (MpI wM w1.heap.size 0 (fun _ => none) 0) := Lib.hid (by rw [hwM]; exact MpI.made w1)
  have HBM : Hid (Below w1.heap.size w1 wM) := Lib.hid (by rw [hwM]; exact (Below.refl _ _).alloc (Nat.le_refl _) _)
  have hzM : wM.heap.size = w1.heap.size + 1 := by rw [hwM]; simp
  rw [← hwM]
  obtain ⟨br, hbr⟩ : ∃ br, br = w1.heap.size := ⟨_, rfl⟩
  rw [← hbr] at HM0 ⊢
  have HZ := Lib.hid (And.intro hzM hbr)
  clear hwM hzM hbr hmk
  refine (values_any (HT.out.below HBM.out)).mono ?_
  rintro e w2 ⟨v, rfl, hown, hb2⟩
  rw [vals_len, ← HNN.out] at hown
  obtain ⟨A, cv, hv⟩ := own_sliceL hown
  subst hv
  have HO := Lib.hid hown
  have HB2 := Lib.hid hb2
  have HB12 : Hid (Below w1.heap.size w1 w2) := Lib.hid (HBM.out.trans (hb2.mono HBM.out.size))
  have HM2 : Hid (MpI w2 br 0 (fun _ => none) 0) := Lib.hid (HM0.out.kept (hb2.block br HM0.out.lt))
  clear hown hb2
  go_wp2_with fail
  go_loopw [12] (fun i wr => ∃ (k c : Nat) (f : Int → Option Int), k ≤ N ∧ i = .int .i64 k ∧ c ≤ k ∧ Hid (MpI wr br c f k) ∧ Hid (RkUp n ds f k) ∧ Hid (FrX (fun y => y = br) w2 wr)) (fun i _ => N - (intOf i).toNat)
  case atStart => exact ⟨0, 0, _, Nat.zero_le _, rfl, Nat.le_refl _, HM2, Lib.hid (RkUp.start n ds), Lib.hid (FrX.refl _ _)⟩
  case round =>
    obtain ⟨k, c, f, hk, rfl, hck, HMr, HRr, HFr⟩ := hrel
    have hbrlt := HMr.out.lt
    by_cases hkN : k < N
    · obtain ⟨x, hx⟩ : ∃ x, (valsV ds)[k]? = some x := ⟨_, List.getElem?_eq_getElem (by rw [vals_len, ← HNN.out]; exact hkN)⟩
      obtain ⟨gv, hA⟩ : ∃ gv, A = some ⟨gv, 0, none⟩ := by
        rcases HO.out.2 with ⟨_, h0⟩ | ⟨gv, c', cur, e, -⟩
        · omega
        · simp only [Value.slice.injEq] at e
          exact ⟨gv, e.1⟩
      subst hA
      have hgv := HO.out.lt gv rfl
      have hgv2 : wr.heap[gv]? = w2.heap[gv]? := HFr.out.block gv hgv.2 (fun e => by have := HZ.out; omega)
      have hca := cellsV_at hx
      have e0 : wr.cell? ⟨gv, k * 2, none⟩ = some (.int .i64 x.1) := by
        rw [World.cell?_of_block (a := ⟨gv, k * 2, none⟩) hgv2, HO.out.cellAt _ (by omega)]; exact hca.1
      have e1 : wr.cell? ⟨gv, k * 2 + 1, none⟩ = some (.int .i64 x.2) := by
        rw [World.cell?_of_block (a := ⟨gv, k * 2 + 1, none⟩) hgv2, HO.out.cellAt _ (by omega)]; exact hca.2
      have hin : inV n ds x = true := HT.out.ok.mem_vals.1 (List.mem_of_getElem? hx)
      have HX := Lib.hid (And.intro hx hin)
      have hk0 : (0 : Int) ≤ k := by omega
      have hk1 : (k : Int) < N := by omega
      have c1 := HT.out.cells.2
      have hb12 := HB12.out
      have HBr : Hid (Below w1.heap.size w1 wr) := Lib.hid (hb12.trans (HFr.out.below hb12.size (fun y hy => by have := HZ.out; omega)))
      clear hgv2 hca hx hin hb12
      go_upto_region 5 with fail
      obtain ⟨wA, hwA⟩ : ∃ wA, wA = wr.alloc (.cells #[.int .i64 x.1, .int .i64 x.2] 69) := ⟨_, rfl⟩
      have hbA : Below wr.heap.size wr wA := by rw [hwA]; exact (Below.refl _ _).alloc (Nat.le_refl _) _
      have g0 : wA.cell? ⟨wr.heap.size, 0, none⟩ = some (.int .i64 x.1) := by rw [hwA]; simp
      have g1 : wA.cell? ⟨wr.heap.size, 1, none⟩ = some (.int .i64 x.2) := by rw [hwA]; simp
      rw [← hwA]
      have HBA : Hid (Below w1.heap.size w1 wA) := Lib.hid (HBr.out.trans (hbA.mono HBr.out.size))
      have HFA : Hid (FrX (fun y => y = br) w2 wA) := Lib.hid (HFr.out.trans (FrX.of_below hbA))
      have HTA : Hid (TabM wA K b g bm n U ds) := Lib.hid (HT.out.below HBA.out)
      have c1 := HTA.out.cells.2
      have hiv : IV x := HT.out.in_iv HX.out.2
      have hlk : (Instr.lookup 90 (.map (some bm)) (.agg #[.int .i64 x.1, .int .i64 x.2]) false).run Try.prog wA.drew = .ok (.int .i64 (hV n ds x : Int)) wA.drew := by
        have := (HTA.out.map.kept (w' := wA.drew) rfl).look1 hiv
        rw [if_pos HX.out.2] at this
        exact this
      have hMA : MpI wA.drew br c f k := (HMr.out.kept (hbA.block br hbrlt)).kept rfl
      have hh := HT.out.ok.h_lt HX.out.2
      obtain ⟨w9, hrun9, hm9, hg9, hz9⟩ := hMA.store (by unfold maxLen; omega) (x := (hV n ds x : Int)) (y := (k : Int)) (by unfold I64; omega) (by unfold I64; omega)
      rw [HRr.out.fresh HT.out.ok HX.out.1] at hm9
      have HM9 : Hid (MpI w9 br (c + 1) (putF f (hV n ds x : Int) (k : Int)) (k + 1)) := Lib.hid hm9
      have HR9 : Hid (RkUp n ds (putF f (hV n ds x : Int) (k : Int)) (k + 1)) := Lib.hid (HRr.out.step HT.out.ok HX.out.1)
      have HF9 : Hid (FrX (fun y => y = br) w2 w9) := Lib.hid (HFA.out.drew.grown hg9 (fun y hy => .inl (by simpa using hy.symm)))
      generalize (hV n ds x : Int) = hx at *
      clear hwA hbA hiv hMA hh hm9 hg9 hz9 e0 e1
      go_still_tail 8, (by kernel_rfl)
      change wpList _ _ _ _ _ wA.drew
      go_wp2_with fail
      go_roundw
      case rel => exact ⟨k + 1, c + 1, _, hkN, by go_num, by omega, HM9, HR9, HF9⟩
      case measure => simp [intOf]; omega
    · obtain rfl : k = N := by omega
      clear hk hkN
      go_wp2_with fail
      go_ret
      exact ⟨br, c, f, rfl, by have := HZ.out; omega, by omega, by rw [← HNN.out]; exact HMr.out, by rw [← HNN.out]; exact HRr.out, HB12.out.trans (HFr.out.below HB12.out.size (fun y hy => by have := HZ.out; omega))⟩
end Go.Proofs.Ytcjmhdneelmbhaa
