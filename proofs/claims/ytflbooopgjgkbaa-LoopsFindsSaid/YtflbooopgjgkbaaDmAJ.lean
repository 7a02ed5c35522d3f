/- The program's newGrove: three rows, each place hanging below none. -/
import Derived.Test.YtflbooopgjgkbaaDmGJ
import Derived.Test.YtflbooopgjgkbaaGrGJ
import Derived.Test.YtflbooopgjgkbaaDmKJ
import Derived.Deep.DeepCutAuto
import Derived.Deep.LoopGhost
import Derived.StillTailTactics
import Derived.Laws.ResultCell
namespace Go.Proofs.Ytflbooopgjgkbaa
open Go.ChangeShapes Go.WideShapes Go.RowKit Go.Deep
set_option linter.unusedVariables false

/-- Three rows of numbers. -/
structure GvM (w : World) (k He Ha Hl : Nat) (early least : Nat → Nat) (above : Nat → Int) : Prop where
  e : w.rowIs He 3 k (fun v => .int .i64 (early v : Int))
  a : w.rowIs Ha 3 k (fun v => .int .i64 (above v))
  l : w.rowIs Hl 3 k (fun v => .int .i64 (least v : Int))
  ne : He ≠ Ha ∧ He ≠ Hl ∧ Ha ≠ Hl

def ToldNG (k : Nat) (w : World) (e : Ending) (w' : World) : Prop :=
  (∃ He Ha Hl, e = .returned (.agg #[.slice (some ⟨He, 0, none⟩) k k, .slice (some ⟨Ha, 0, none⟩) k k, .slice (some ⟨Hl, 0, none⟩) k k]) ∧ w.heap.size ≤ He ∧ w.heap.size ≤ Ha ∧ w.heap.size ≤ Hl ∧ GvM w' k He Ha Hl (fun v => v) (fun v => v) (fun _ => -1)) ∧ Below w.heap.size w w'

theorem boxes5 (w : World) (M : Nat) (hM : M = w.heap.size) (o0 o1 o2 o3 o4 : Obj) (W : World) (hW : W = (((((w.alloc o0).alloc o1).alloc o2).alloc o3).alloc o4).drew) :
    W.heap[M]? = some o0 ∧ W.heap[M + 1]? = some o1 ∧ W.heap[M + 1 + 1]? = some o2 ∧ W.heap[M + 1 + 1 + 1]? = some o3 ∧ W.heap[M + 1 + 1 + 1 + 1]? = some o4 ∧ W.heap.size = M + 5 ∧ Below M w W := by
  subst hM hW
  have hz (u : World) (o : Obj) : (u.alloc o).heap.size = u.heap.size + 1 := by simp
  have hg (u : World) (o : Obj) (k : Nat) : (u.alloc o).heap[k]? = if k = u.heap.size then some o else u.heap[k]? := by
    show (u.heap.push o)[k]? = _
    rw [Array.getElem?_push]
  have hd (u : World) (k : Nat) : u.drew.heap[k]? = u.heap[k]? := rfl
  refine ⟨?_, ?_, ?_, ?_, ?_, ?_, ?_⟩
  · rw [hd]; simp only [hg, hz]; repeat rw [if_neg (by omega)]
    exact if_pos (by first | trivial | omega)
  · rw [hd]; simp only [hg, hz]; repeat rw [if_neg (by omega)]
    exact if_pos (by first | trivial | omega)
  · rw [hd]; simp only [hg, hz]; repeat rw [if_neg (by omega)]
    exact if_pos (by first | trivial | omega)
  · rw [hd]; simp only [hg, hz]; repeat rw [if_neg (by omega)]
    exact if_pos (by first | trivial | omega)
  · rw [hd]; simp only [hg, hz]; repeat rw [if_neg (by omega)]
    exact if_pos (by first | trivial | omega)
  · show (((((w.alloc o0).alloc o1).alloc o2).alloc o3).alloc o4).heap.size = _
    simp [hz]
  · refine Below.drew ?_
    refine (((((Below.refl _ w).alloc ?_ _).alloc ?_ _).alloc ?_ _).alloc ?_ _).alloc ?_ _
    all_goals (simp [hz]; try omega)

/-- Behind the struct's making: its three rows, it itself, and the result's box. -/
def MkNG (k : Nat) (w : World) (He Ha Hl Hg : Nat) (wc : World) : Prop :=
  wc.heap[Hg]? = some (.cells #[.slice (some ⟨He, 0, none⟩) k k, .slice (some ⟨Ha, 0, none⟩) k k, .slice (some ⟨Hl, 0, none⟩) k k] 147) ∧
  wc.heap[He]? = some (.cells (madeCells #[.int .i64 0] k) 3) ∧ wc.heap[Ha]? = some (.cells (madeCells #[.int .i64 0] k) 3) ∧ wc.heap[Hl]? = some (.cells (madeCells #[.int .i64 0] k) 3) ∧
  wc.heap[w.heap.size]? = some (.cells #[.slice none 0 0, .slice none 0 0, .slice none 0 0] 147) ∧
  (w.heap.size < He ∧ w.heap.size < Ha ∧ w.heap.size < Hl ∧ w.heap.size < Hg ∧ He ≠ Ha ∧ He ≠ Hl ∧ Ha ≠ Hl ∧ Hg ≠ He ∧ Hg ≠ Ha ∧ Hg ≠ Hl) ∧ Below w.heap.size w wc
def WcNG (k : Nat) (w : World) (s3 : Value) (wc : World) : Prop := ∃ He Ha Hl Hg : Nat, s3 = .pointer (some ⟨Hg, 0, none⟩) ∧ MkNG k w He Ha Hl Hg wc
theorem leafNG {k : Nat} {w W : World} {s3 : Value} {o0 o1 o2 o3 o4 : Obj} (hW : W = (((((w.alloc o0).alloc o1).alloc o2).alloc o3).alloc o4).drew)
    (f : (W.heap[w.heap.size]? = some o0 ∧ W.heap[w.heap.size + 1]? = some o1 ∧ W.heap[w.heap.size + 1 + 1]? = some o2 ∧ W.heap[w.heap.size + 1 + 1 + 1]? = some o3 ∧ W.heap[w.heap.size + 1 + 1 + 1 + 1]? = some o4 ∧ W.heap.size = w.heap.size + 5 ∧ Below w.heap.size w W) → WcNG k w s3 W) : WcNG k w s3 W :=
  f (boxes5 w w.heap.size rfl o0 o1 o2 o3 o4 W hW)
/-- How far the rows are laid. -/
def LayNG (k : Nat) (w : World) (He Ha Hl Hg j : Nat) (wr : World) : Prop :=
  GvM wr k He Ha Hl (fun v => if v < j then v else 0) (fun v => if v < j then v else 0) (fun v => if v < j then -1 else 0) ∧
  wr.heap[Hg]? = some (.cells #[.slice (some ⟨He, 0, none⟩) k k, .slice (some ⟨Ha, 0, none⟩) k k, .slice (some ⟨Hl, 0, none⟩) k k] 147) ∧
  wr.heap[w.heap.size]? = some (.cells #[.slice none 0 0, .slice none 0 0, .slice none 0 0] 147) ∧ Below w.heap.size w wr
theorem row_made {w : World} {H k : Nat} (h : w.heap[H]? = some (.cells (madeCells #[.int .i64 0] k) 3)) : w.rowIs H 3 k (fun _ => .int .i64 0) :=
  ⟨_, h, size_madeCells _ _, fun i hi => by simp [madeCells, hi, Nat.mod_one]⟩
theorem LayNG.start {k : Nat} {w wc : World} {He Ha Hl Hg : Nat} (h : MkNG k w He Ha Hl Hg wc) : LayNG k w He Ha Hl Hg 0 wc := by
  obtain ⟨h1, h2, h3, h4, h5, ⟨_, _, _, _, n1, n2, n3, _⟩, h7⟩ := h
  exact ⟨⟨(row_made h2).congr fun _ _ => rfl, (row_made h3).congr fun _ _ => rfl, (row_made h4).congr fun _ _ => rfl, n1, n2, n3⟩, h1, h5, h7⟩
theorem LayNG.step {k : Nat} {w wr : World} {He Ha Hl Hg j : Nat} (h : LayNG k w He Ha Hl Hg j wr)
    (hn : w.heap.size < He ∧ w.heap.size < Ha ∧ w.heap.size < Hl ∧ w.heap.size < Hg ∧ He ≠ Ha ∧ He ≠ Hl ∧ Ha ≠ Hl ∧ Hg ≠ He ∧ Hg ≠ Ha ∧ Hg ≠ Hl) :
    LayNG k w He Ha Hl Hg (j + 1) (((wr.setCell ⟨He, j, none⟩ (.int .i64 (j : Int))).setCell ⟨Ha, j, none⟩ (.int .i64 (-1))).setCell ⟨Hl, j, none⟩ (.int .i64 (j : Int))).drew := by
  obtain ⟨p1, p2, p3, p4, n1, n2, n3, n4, n5, n6⟩ := hn
  obtain ⟨⟨h1, h2, h3, h4⟩, h5, h6, h7⟩ := h
  have hs : ∀ (u : World) (H i k : Nat) (v : Value), k ≠ H → (u.setCell ⟨H, i, none⟩ v).heap[k]? = u.heap[k]? := fun u H i k v hk => Below.heap_setCell _ _ _ _ hk
  have rd : ∀ (u : World) (H : Nat) (f : Nat → Value), u.rowIs H 3 k f → u.drew.rowIs H 3 k f := fun _ _ _ h => h
  have r1 := ((h1.set j (.int .i64 (j : Int))).of_block (hs _ Ha j He (.int .i64 (-1)) n1)).of_block (hs _ Hl j He (.int .i64 (j : Int)) n2)
  have r2 := ((h2.of_block (hs _ He j Ha (.int .i64 (j : Int)) n1.symm)).set j (.int .i64 (-1))).of_block (hs _ Hl j Ha (.int .i64 (j : Int)) n3)
  have r3 := ((h3.of_block (hs _ He j Hl (.int .i64 (j : Int)) n2.symm)).of_block (hs _ Ha j Hl (.int .i64 (-1)) n3.symm)).set j (.int .i64 (j : Int))
  refine ⟨⟨?_, ?_, ?_, h4⟩, ?_, ?_, ?_⟩
  · refine (rd _ _ _ r1).congr fun v _ => ?_
    by_cases e : v = j
    · simp [e]
    · simp only [if_neg e]; by_cases e2 : v < j
      · rw [if_pos e2, if_pos (by omega)]
      · rw [if_neg e2, if_neg (by omega)]
  · refine (rd _ _ _ r2).congr fun v _ => ?_
    by_cases e : v = j
    · simp [e]
    · simp only [if_neg e]; by_cases e2 : v < j
      · rw [if_pos e2, if_pos (by omega)]
      · rw [if_neg e2, if_neg (by omega)]
  · refine (rd _ _ _ r3).congr fun v _ => ?_
    by_cases e : v = j
    · simp [e]
    · simp only [if_neg e]; by_cases e2 : v < j
      · rw [if_pos e2, if_pos (by omega)]
      · rw [if_neg e2, if_neg (by omega)]
  · exact (hs _ Hl j Hg _ n6).trans ((hs _ Ha j Hg _ n5).trans ((hs _ He j Hg _ n4).trans h5))
  · exact (hs _ Hl j _ _ (by omega)).trans ((hs _ Ha j _ _ (by omega)).trans ((hs _ He j _ _ (by omega)).trans h6))
  · exact (((h7.setCell (p := ⟨He, j, none⟩) (by show _ ≤ He; omega) _).setCell (p := ⟨Ha, j, none⟩) (by show _ ≤ Ha; omega) _).setCell (p := ⟨Hl, j, none⟩) (by show _ ≤ Hl; omega) _).drew
theorem LayNG.all {k : Nat} {w wr : World} {He Ha Hl Hg : Nat} (h : LayNG k w He Ha Hl Hg k wr) : GvM wr k He Ha Hl (fun v => v) (fun v => v) (fun _ => -1) := by
  obtain ⟨⟨h1, h2, h3, h4⟩, -⟩ := h
  exact ⟨h1.congr fun v hv => by rw [if_pos hv], h2.congr fun v hv => by rw [if_pos hv], h3.congr fun v hv => by rw [if_pos hv], h4⟩
theorem GvM.of_blocks {w w' : World} {k He Ha Hl : Nat} {early least : Nat → Nat} {above : Nat → Int} (h : GvM w k He Ha Hl early least above) (he : w'.heap[He]? = w.heap[He]?) (ha : w'.heap[Ha]? = w.heap[Ha]?) (hl : w'.heap[Hl]? = w.heap[Hl]?) : GvM w' k He Ha Hl early least above :=
  ⟨h.e.of_block he, h.a.of_block ha, h.l.of_block hl, h.ne⟩

set_option maxRecDepth 100000 in
set_option maxHeartbeats 4000000 in
theorem newGrove_any (k : Nat) (w : World) (hk : k ≤ 1000000) : Calls Try.prog 86 #[.int .i64 k] w (ToldNG k w) := by
  have hmk := run_make_row' (P := Try.prog) 22 3 (.int .i64 0) 8 Try.underlying22 Try.info3 rfl .i64 .i64 k (by omega) (by omega)
  go_enter Try.func86, Try.ntmps86
  go_upto_region 1 with fail
  go_cut [3] (fun s3 wc => WcNG k w s3 wc)
  case first =>
    go_region
    all_goals (go_wp2_with fail; go_meet)
    all_goals (
      case rel =>
        refine leafNG rfl ?_
        rintro ⟨b0, b1, b2, b3, b4, hsz, hbel⟩
        exact ⟨_, _, _, _, rfl, by first | exact b1 | exact b2 | exact b3 | exact b4, by first | exact b1 | exact b2 | exact b3 | exact b4, by first | exact b1 | exact b2 | exact b3 | exact b4, by first | exact b1 | exact b2 | exact b3 | exact b4, b0, by omega, hbel⟩)
  case rest =>
    obtain ⟨He, Ha, Hl, Hg, rfl, hmk2⟩ := hcut
    have HST := Lib.hid (LayNG.start hmk2)
    have HD := Lib.hid hmk2.2.2.2.2.2.1
    clear hmk2 hmk
    go_wp2_with fail
    go_loopw [13] (fun i wr => ∃ j : Nat, j ≤ k ∧ i = .int .i64 j ∧ LayNG k w He Ha Hl Hg j wr) (fun i _ => k - (intOf i).toNat)
    case atStart => exact ⟨0, Nat.zero_le _, rfl, HST.out⟩
    case round =>
      obtain ⟨j, hj, rfl, hl⟩ := hrel
      have HL := Lib.hid hl
      obtain ⟨⟨r1, r2, r3, -⟩, h5, h6, h7⟩ := hl
      have c0 : wr.cell? ⟨Hg, 0, none⟩ = some (.slice (some ⟨He, 0, none⟩) k k) := cell_of_block h5 0
      have c1 : wr.cell? ⟨Hg, 1, none⟩ = some (.slice (some ⟨Ha, 0, none⟩) k k) := cell_of_block h5 1
      have c2 : wr.cell? ⟨Hg, 2, none⟩ = some (.slice (some ⟨Hl, 0, none⟩) k k) := cell_of_block h5 2
      by_cases hjk : j < k
      · have e1 : wr.cell? ⟨He, j, none⟩ = some (.int .i64 0) := by have := r1.cell hjk; simpa using this
        have e2 : wr.cell? ⟨Ha, j, none⟩ = some (.int .i64 0) := by have := r2.cell hjk; simpa using this
        have e3 : wr.cell? ⟨Hl, j, none⟩ = some (.int .i64 0) := by have := r3.cell hjk; simpa using this
        have f1 := r1.frozen j
        have f2 := r2.frozen j
        have f3 := r3.frozen j
        have hj0 : (0 : Int) ≤ j := by omega
        have hj1 : (j : Int) < k := by omega
        obtain ⟨p1, p2, p3, p4, n1, n2, n3, n4, n5, n6⟩ := HD.out
        have n7 := Ne.symm n1
        have n8 := Ne.symm n2
        have n9 := Ne.symm n3
        have n10 := Ne.symm n4
        have n11 := Ne.symm n5
        have n12 := Ne.symm n6
        clear r1 r2 r3 h5 h6 h7
        go_upto_region 5 with fail
        go_region
        all_goals (
          go_wp2_with fail
          go_roundw)
        case rel => exact ⟨j + 1, by omega, by go_num, LayNG.step HL.out HD.out⟩
        case measure => simp [intOf]; omega
      · obtain rfl : j = k := by omega
        have hGV := LayNG.all HL.out
        obtain ⟨p1, p2, p3, p4, -⟩ := HD.out
        have hoth : ∀ y, y ≠ w.heap.size → (((wr.setCell ⟨w.heap.size, 0, none⟩ (.slice (some ⟨He, 0, none⟩) j j)).setCell ⟨w.heap.size, 1, none⟩ (.slice (some ⟨Ha, 0, none⟩) j j)).setCell ⟨w.heap.size, 2, none⟩ (.slice (some ⟨Hl, 0, none⟩) j j)).heap[y]? = wr.heap[y]? := fun y hy => ((Below.heap_setCell _ _ _ _ hy).trans (Below.heap_setCell _ _ _ _ hy)).trans (Below.heap_setCell _ _ _ _ hy)
        have hfin : (((wr.setCell ⟨w.heap.size, 0, none⟩ (.slice (some ⟨He, 0, none⟩) j j)).setCell ⟨w.heap.size, 1, none⟩ (.slice (some ⟨Ha, 0, none⟩) j j)).setCell ⟨w.heap.size, 2, none⟩ (.slice (some ⟨Hl, 0, none⟩) j j)).heap[w.heap.size]? = some (.cells #[.slice (some ⟨He, 0, none⟩) j j, .slice (some ⟨Ha, 0, none⟩) j j, .slice (some ⟨Hl, 0, none⟩) j j] 147) := set_of_block _ (set_of_block _ (set_of_block _ h6))
        have HFIN := Lib.hid hfin
        have HRES := Lib.hid (hGV.of_blocks (hoth He (by omega)) (hoth Ha (by omega)) (hoth Hl (by omega)))
        have HBEL := Lib.hid (((h7.setCell (p := ⟨w.heap.size, 0, none⟩) (Nat.le_refl _) (.slice (some ⟨He, 0, none⟩) j j)).setCell (p := ⟨w.heap.size, 1, none⟩) (Nat.le_refl _) (.slice (some ⟨Ha, 0, none⟩) j j)).setCell (p := ⟨w.heap.size, 2, none⟩) (Nat.le_refl _) (.slice (some ⟨Hl, 0, none⟩) j j))
        have hm0 := cell_of_block h6 0
        have hm1 := cell_of_block h6 1
        have hm2 := cell_of_block h6 2
        have hf0 : wr.frozen? ⟨w.heap.size, 0, none⟩ = false := by unfold World.frozen?; simp [h6]
        have hf1 : wr.frozen? ⟨w.heap.size, 1, none⟩ = false := by unfold World.frozen?; simp [h6]
        have hf2 : wr.frozen? ⟨w.heap.size, 2, none⟩ = false := by unfold World.frozen?; simp [h6]
        have HP := Lib.hid (And.intro p1 (And.intro p2 p3))
        clear r1 r2 r3 h5 h6 h7 hoth hfin hGV p1 p2 p3 p4
        go_wp2_with fail
        refine bodyPost_ret (results_cell_row rfl _ _ w.heap.size 147 #[.slice (some ⟨He, 0, none⟩) j j, .slice (some ⟨Ha, 0, none⟩) j j, .slice (some ⟨Hl, 0, none⟩) j j] (0, 0) _ (by rfl) HFIN.out Try.underlying147 (by rfl) (by kernel_rfl)) rfl ?_
        exact ⟨⟨He, Ha, Hl, rfl, by have := HP.out; omega, by have := HP.out; omega, by have := HP.out; omega, HRES.out⟩, HBEL.out⟩
end Go.Proofs.Ytflbooopgjgkbaa
