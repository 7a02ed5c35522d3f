/- The program's backwards, Order, Reached. -/
import Derived.Test.YtflbooopgjgkbaaGrGJ
import Derived.Laws.EntriesVeiled
import Derived.Test.YtflbooopgjgkbaaLvBJ
namespace Go.Proofs.Ytflbooopgjgkbaa
open Go.ChangeShapes Go.WideShapes Go.RowKit Go.Deep
set_option linter.unusedVariables false

theorem Try.info4 : (Try.prog.info? 4).map (fun i => (i.zero, i.size, i.bytes)) = some (some (.bool false), 1, 1) := by kernel_rfl
/-- A row that the call owns, as a list that lies in its blocks. -/
theorem slB_of_own {w : World} {base : Nat} {v : Value} {xs : List Int} (h : w.ownsRow base 3 1 v xs.length (xs.map (Value.int .i64))) (hx : ∀ x ∈ xs, I64 x) {B : Nat → Prop} (hB : ∀ g, base ≤ g → g < w.heap.size → B g) :
    ∃ A c, v = .slice A xs.length c ∧ SL w 1 (RIntB B) A c xs := by
  obtain ⟨A, c, e, hs⟩ := vs_of_own h hx
  obtain ⟨h1, h2, h3⟩ := hs
  refine ⟨A, c, e, h1, h2, fun hp => ?_⟩
  obtain ⟨b, o, e2, hr⟩ := h3 hp
  have hl := h.lt b (by rw [e, e2]; rfl)
  exact ⟨b, o, e2, fun i x hi => ⟨hB b hl.1 hl.2, hr i x hi⟩⟩

/-- Seven new blocks. -/
theorem boxes7 (w : World) (M : Nat) (hM : M = w.heap.size) (o0 o1 o2 o3 o4 o5 o6 : Obj) (W : World) (hW : W = ((((((w.alloc o0).alloc o1).alloc o2).alloc o3).alloc o4).alloc o5).alloc o6) :
    W.heap[M]? = some o0 ∧ W.heap[M + 1]? = some o1 ∧ W.heap[M + 2]? = some o2 ∧ W.heap[M + 3]? = some o3 ∧ W.heap[M + 4]? = some o4 ∧ W.heap[M + 5]? = some o5 ∧ W.heap[M + 6]? = some o6 ∧ W.heap.size = M + 7 ∧ Below M w W := by
  subst hM hW
  have hz (u : World) (o : Obj) : (u.alloc o).heap.size = u.heap.size + 1 := by simp
  have hg (u : World) (o : Obj) (k : Nat) : (u.alloc o).heap[k]? = if k = u.heap.size then some o else u.heap[k]? := by
    show (u.heap.push o)[k]? = _
    rw [Array.getElem?_push]
  refine ⟨?_, ?_, ?_, ?_, ?_, ?_, ?_, ?_, ?_⟩
  · simp only [hg, hz]; repeat rw [if_neg (by omega)]
    exact if_pos (by first | trivial | omega)
  · simp only [hg, hz]; repeat rw [if_neg (by omega)]
    exact if_pos (by first | trivial | omega)
  · simp only [hg, hz]; repeat rw [if_neg (by omega)]
    exact if_pos (by first | trivial | omega)
  · simp only [hg, hz]; repeat rw [if_neg (by omega)]
    exact if_pos (by first | trivial | omega)
  · simp only [hg, hz]; repeat rw [if_neg (by omega)]
    exact if_pos (by first | trivial | omega)
  · simp only [hg, hz]; repeat rw [if_neg (by omega)]
    exact if_pos (by first | trivial | omega)
  · simp only [hg, hz]; repeat rw [if_neg (by omega)]
    exact if_pos (by first | trivial | omega)
  · simp [hz]
  · refine (((((((Below.refl _ w).alloc ?_ _).alloc ?_ _).alloc ?_ _).alloc ?_ _).alloc ?_ _).alloc ?_ _).alloc ?_ _
    all_goals (simp [hz]; try omega)
theorem doneL_rest (nx : Nat → List Nat) {n : Nat} (hn : n ≠ 0) : rest nx (n - 1) 0 (nx 0) ⟨mark noneSeen 0, []⟩ = visit nx n 0 ⟨noneSeen, []⟩ := by
  obtain ⟨m, rfl⟩ : ∃ m, n = m + 1 := ⟨n - 1, by omega⟩
  rfl
theorem doneL_out (nx : Nat → List Nat) {n : Nat} (hn : n ≠ 0) : doneL nx n = (visit nx n 0 ⟨noneSeen, []⟩).out := by unfold doneL; rw [if_neg hn]

set_option maxRecDepth 100000 in
set_option maxHeartbeats 8000000 in
theorem backwards_any (G K n : Nat) (V : Nat → Value) (nx : Nat → List Nat) (w : World) (h : Gri w G K n V (fun i => zs (nx i))) (hn : n ≤ 1000) (hnx : ∀ x, ∀ t ∈ nx x, t < n) :
    Calls Try.prog 63 #[.slice (some ⟨G, 0, none⟩) n n] w fun e w' => (∃ vd, e = .returned vd ∧ w'.ownsRow w.heap.size 3 1 vd (doneL nx n).length ((zs (doneL nx n)).map (Value.int .i64))) ∧ BB w.heap.size G w w' := by
  by_cases hn0 : n = 0
  · subst hn0
    have e : doneL nx 0 = [] := rfl
    rw [e]
    go_enter Try.func63, Try.ntmps63
    go_wp2_with fail
    go_ret
    exact ⟨⟨_, rfl, World.ownsRow_nil _ _ _ _⟩, (BB.refl _ _ _).alloc (Nat.le_refl _) _⟩
  · have hpos : 0 < n := by omega
    have hne : ((n : Int) == 0) = false := by simp; omega
    have hmf : ∀ (fn : Fn) (first cap : Array Value) (w : World), (Instr.makeFunc fn first cap).run Try.prog w = .ok (.func fn first cap) w := fun _ _ _ _ => rfl
    have hmk := run_make_row' (P := Try.prog) 46 4 (.bool false) 1 Try.underlying46 Try.info4 rfl .i64 .i64 n (by omega) (by omega)
    clear hn0
    go_enter Try.func63, Try.ntmps63
    go_upto_region 8 with fail
    clear hmk hmf
    obtain ⟨M, hM⟩ : ∃ M, M = w.heap.size := ⟨_, rfl⟩
    rw [← hM]
    obtain ⟨W, hW⟩ : ∃ W, W = ((((((w.alloc (.cells #[.slice (some ⟨G, 0, none⟩) n n] 68)).alloc (.cells (madeCells #[.bool false] n) 4)).alloc (.cells #[.slice (some ⟨M + 1, 0, none⟩) n n] 46)).alloc (.cells #[.slice none 0 0] 22)).alloc (.cells #[.slice none 0 0] 22)).alloc
      (.cells #[.func (.func 83) #[] #[.pointer (some ⟨M + 1 + 1, 0, none⟩), .pointer (some ⟨M + 1 + 1 + 1 + 1, 0, none⟩)]] 135)).alloc
      (.cells #[.func (.func 84) #[] #[.pointer (some ⟨M, 0, none⟩), .pointer (some ⟨M + 1 + 1, 0, none⟩), .pointer (some ⟨M + 1 + 1 + 1 + 1 + 1, 0, none⟩), .pointer (some ⟨M + 1 + 1 + 1 + 1 + 1 + 1, 0, none⟩), .pointer (some ⟨M + 1 + 1 + 1 + 1, 0, none⟩), .pointer (some ⟨M + 1 + 1 + 1, 0, none⟩)]] 108) := ⟨_, rfl⟩
    rw [← hW]
    obtain ⟨b0, b1, b2, b3, b4, b5, b6, hsz, hbel⟩ := boxes7 w M hM _ _ _ _ _ _ _ W hW
    clear hW
    have hGM : G < M := by rw [hM]; exact h.row.lt
    have hbw : BW W M G n noneSeen nx V [] [] (.slice none 0 0) (.slice none 0 0) := by
      refine ⟨b0, b2, b3, b4, b5, b6, ⟨_, b1, size_madeCells _ _, fun i hi => ?_⟩, h.row.of_block (hbel.block G hGM), fun x hx => ?_, World.ownsRow_nil _ _ _ _, World.ownsRow_nil _ _ _ _, .inl rfl, fun x _ => hnx x, hGM⟩
      · simp [madeCells, hi, Nat.mod_one, noneSeen]
      · have hg := h.below (w' := W) (by rw [← hM]; exact hbel)
        obtain ⟨A, c, e, hs⟩ := slB_of_own (h.own x hx) (fun y hy => by obtain ⟨q, hq, rfl⟩ := zs_mem hy; have := hnx x q hq; unfold I64; omega) (B := fun b => b < M ∧ b ≠ G) (fun g h1 h2 => ⟨by omega, fun e => by have := h.lt; omega⟩)
        rw [zs_len] at e
        exact ⟨A, c, e, SIntsB.go (fun a v hb ha => (World.cell?_of_block (hbel.block _ hb.1)).trans ha) (fun _ hb => hb) hs⟩
    have HBEL : Hid (BB M G w W) := Lib.hid (BB.of_below hbel (Nat.le_refl _))
    have heb : W.cell? ⟨M + 1 + 1 + 1 + 1 + 1, 0, none⟩ = some (.func (.func 83) #[] #[.pointer (some ⟨M + 1 + 1, 0, none⟩), .pointer (some ⟨M + 1 + 1 + 1 + 1, 0, none⟩)]) := cell_of_block b5 0
    have HE := Lib.hid (enterG_any M G n 0 noneSeen nx V [] [] _ _ W hbw hpos (by omega) (by simp))
    have HMW := Lib.hid hM
    clear b0 b1 b2 b3 b4 b5 b6 hsz hbel hbw hM
    go_wp2_with fail
    refine HE.out.mono ?_
    rintro e w2 ⟨rfl, ⟨vo, hw2⟩, hbb2⟩
    have HB2 : Hid (BB M G w w2) := Lib.hid (HBEL.out.trans hbb2)
    have HW2 := Lib.hid hw2
    clear heb HE HBEL hw2 hbb2
    go_wp2_with fail
    go_loopw [] (fun wr => ((∃ vo vd, BW wr M G n (mark noneSeen 0) nx V [0] [] vo vd) ∨ (∃ S R V' vo vd, BW wr M G n S R V' [] (doneL nx n) vo vd)) ∧ BB M G w wr) (fun wr => lenAt (M + 4) 0 wr)
    case atStart => exact ⟨.inl ⟨_, _, HW2.out⟩, HB2.out⟩
    case round =>
      obtain ⟨hor, hbb⟩ := hrel
      have HBB := Lib.hid hbb
      clear hbb HW2 HB2
      rcases hor with ⟨vo, vd, hw⟩ | ⟨S, R, V', vo, vd, hw⟩
      · have HW := Lib.hid hw
        obtain ⟨g, cap, hvo, hlast, hcap, hcm, -, -⟩ := own_pop (xs := []) (x := 0) hw.ownO
        subst hvo
        have hob : wr.cell? ⟨M + 1 + 1 + 1 + 1, 0, none⟩ = some (.slice (some ⟨g, 0, none⟩) 1 cap) := cell_of_block hw.obox 0
        have hrb : wr.cell? ⟨M + 1 + 1 + 1 + 1 + 1 + 1, 0, none⟩ = some (.func (.func 84) #[] #[.pointer (some ⟨M, 0, none⟩), .pointer (some ⟨M + 1 + 1, 0, none⟩), .pointer (some ⟨M + 1 + 1 + 1 + 1 + 1, 0, none⟩), .pointer (some ⟨M + 1 + 1 + 1 + 1 + 1 + 1, 0, none⟩), .pointer (some ⟨M + 1 + 1 + 1 + 1, 0, none⟩), .pointer (some ⟨M + 1 + 1 + 1, 0, none⟩)]) := cell_of_block hw.rbox 0
        have hob' : wr.cell? ⟨M + 4, 0, none⟩ = some (.slice (some ⟨g, 0, none⟩) 1 cap) := hob
        have hrb' : wr.cell? ⟨M + 6, 0, none⟩ = some (.func (.func 84) #[] #[.pointer (some ⟨M, 0, none⟩), .pointer (some ⟨M + 1 + 1, 0, none⟩), .pointer (some ⟨M + 1 + 1 + 1 + 1 + 1, 0, none⟩), .pointer (some ⟨M + 1 + 1 + 1 + 1 + 1 + 1, 0, none⟩), .pointer (some ⟨M + 1 + 1 + 1 + 1, 0, none⟩), .pointer (some ⟨M + 1 + 1 + 1, 0, none⟩)]) := hrb
        have hl0 : wr.cell? ⟨g, 0, none⟩ = some (.int .i64 0) := hlast
        have hun := unseen_mark (S := noneSeen) (b := 0) rfl hpos
        have hul := unseen_le n noneSeen
        have HG := Lib.hid (goOn_any M G n nx (by omega) hnx (n - 1) 0 0 (nx 0) (mark noneSeen 0) nx V [] [] _ _ wr.drew (hw.drewN 1) hpos (mark_same _ _) rfl (fun _ _ _ => rfl) (by omega) (by omega) (by simp; omega) (by simp; omega))
        have HL : Hid (lenAt (M + 4) 0 wr = 1) := Lib.hid (lenAt_of hob)
        clear hw hlast hun hul
        go_upto_region 10 with fail
        have hw0 : IntKind.i64.wrap (0 : Int) = 0 := by decide
        go_still_tail 7, (by kernel_rfl)
        change wpList _ _ _ _ _ wr.drew
        go_wp2_with fail
        refine HG.out.mono ?_
        rintro e w3 ⟨rfl, R', V', vo', vd', hw3, -, -, hbb3⟩
        rw [doneL_rest nx (by omega), ← doneL_out nx (by omega)] at hw3
        have HW3 := Lib.hid hw3
        have HM : Hid (lenAt (M + 4) 0 w3 < lenAt (M + 4) 0 wr) := Lib.hid (by
          rcases hw3.ownO.2 with ⟨e, _⟩ | ⟨g3, c3, cur3, e, _⟩
          · have h1 : w3.cell? ⟨M + 4, 0, none⟩ = some vo' := cell_of_block hw3.obox 0
            rw [e] at h1
            rw [HL.out, lenAt_of h1]; omega
          · have h1 : w3.cell? ⟨M + 4, 0, none⟩ = some vo' := cell_of_block hw3.obox 0
            rw [e] at h1
            rw [HL.out, lenAt_of h1]; simp)
        have HB3 : Hid (BB M G w w3) := Lib.hid (HBB.out.trans ((BB.refl M G wr).drew.trans hbb3))
        clear hw3 hbb3 hob hrb hob' hrb' hl0 HG
        go_wp2_with fail
        go_roundw
        case rel => exact ⟨.inr ⟨_, _, _, _, _, HW3.out⟩, HB3.out⟩
        case measure => exact HM.out
      · have HW := Lib.hid hw
        have h1 : wr.cell? ⟨M + 1 + 1 + 1 + 1, 0, none⟩ = some vo := cell_of_block hw.obox 0
        have h2 : wr.cell? ⟨M + 1 + 1 + 1, 0, none⟩ = some vd := cell_of_block hw.dbox 0
        have hown := own_base hw.ownD (base' := M) (by omega)
        have hvo : ∃ A c, vo = .slice A 0 c := by
          rcases hw.ownO.2 with ⟨e, _⟩ | ⟨g3, c3, cur3, e, _⟩
          · exact ⟨_, _, e⟩
          · exact ⟨_, _, e⟩
        obtain ⟨A, c, rfl⟩ := hvo
        have HO := Lib.hid hown
        clear hw hown
        go_wp2_with fail
        go_ret
        exact ⟨⟨_, rfl, by rw [← HMW.out]; exact HO.out⟩, by rw [← HMW.out]; exact HBB.out⟩
end Go.Proofs.Ytflbooopgjgkbaa

/- The program's truths, usesOf. -/
namespace Go.Proofs.Ytflbooopgjgkbaa
open Go.ChangeShapes Go.WideShapes Go.RowKit Go.Deep
set_option linter.unusedVariables false

theorem Try.infoL46 : (Try.prog.info? 46).map (fun i => (i.zero, i.size, i.bytes)) = some (some (.slice none 0 0), 1, 24) := by kernel_rfl
theorem Try.underlyingL41 : Try.prog.underlying 41 = some (.slice 46) := by kernel_rfl
/-- How many rows are made. -/
def LayR (w4 : World) (G n R j : Nat) (wq : World) : Prop :=
  wq.heap.size = G + 1 + j ∧ wq.rowIs G 46 n (fun a => if a < j then .slice (some ⟨G + 1 + a, 0, none⟩) R R else .slice none 0 0) ∧ (∀ a, a < j → wq.rowIs (G + 1 + a) 4 R (fun _ => .bool false)) ∧ FrX (fun b => b = G) w4 wq
theorem LayR.step {w4 wq : World} {G n R j : Nat} (h : LayR w4 G n R j wq) : LayR w4 G n R (j + 1) ((wq.setCell ⟨G, j, none⟩ (.slice (some ⟨wq.heap.size, 0, none⟩) R R)).alloc (.cells (madeCells #[.bool false] R) 4)) := by
  obtain ⟨h1, h2, h3, h4⟩ := h
  have hs : ∀ y, y ≠ G → (wq.setCell ⟨G, j, none⟩ (.slice (some ⟨wq.heap.size, 0, none⟩) R R)).heap[y]? = wq.heap[y]? := fun y hy => Below.heap_setCell _ _ _ _ hy
  have hz : (wq.setCell ⟨G, j, none⟩ (.slice (some ⟨wq.heap.size, 0, none⟩) R R)).heap.size = wq.heap.size := by simp
  have hnew := heap_alloc_new (wq.setCell ⟨G, j, none⟩ (.slice (some ⟨wq.heap.size, 0, none⟩) R R)) (.cells (madeCells #[.bool false] R) 4)
  refine ⟨by simp; omega, ?_, fun a ha => ?_, (h4.setCell (.inl rfl) _).alloc _⟩
  · refine ((h2.set j _).of_block (Below.heap_alloc _ _ _ (by have := h2.lt; omega))).congr fun a _ => ?_
    by_cases e : a = j
    · subst e; simp only [if_true]; rw [if_pos (by omega), h1]
    · simp only [if_neg e]
      by_cases e2 : a < j
      · rw [if_pos e2, if_pos (by omega)]
      · rw [if_neg e2, if_neg (by omega)]
  · by_cases e : a = j
    · subst e
      have e : G + 1 + a = (wq.setCell ⟨G, a, none⟩ (.slice (some ⟨wq.heap.size, 0, none⟩) R R)).heap.size := by omega
      rw [← e] at hnew
      exact ⟨_, hnew, size_madeCells _ _, fun i hi => by simp [madeCells, hi, Nat.mod_one]⟩
    · exact (h3 a (by omega)).of_block ((Below.heap_alloc _ _ _ (by omega)).trans (hs _ (by omega)))
theorem LayR.all {w4 wq : World} {G n R : Nat} (h : LayR w4 G n R n wq) : BG1 wq G n R (fun _ _ => false) :=
  ⟨h.2.1.congr fun a ha => by rw [if_pos ha], h.2.2.1⟩

set_option maxRecDepth 100000 in
set_option maxHeartbeats 8000000 in
theorem truths_any (n R : Nat) (hn : n ≤ 64) (hR : R ≤ 256) (w : World) :
    Calls Try.prog 55 #[.int .i64 (n : Int), .int .i64 (R : Int)] w fun e w' => e = .returned (.slice (some ⟨w.heap.size, 0, none⟩) n n) ∧ BG1 w' w.heap.size n R (fun _ _ => false) ∧ w'.heap.size = w.heap.size + (n + 1) ∧ Below w.heap.size w w' := by
  have hmk := run_make_row' (P := Try.prog) 41 46 (.slice none 0 0) 24 Try.underlyingL41 Try.infoL46 rfl .i64 .i64 n (by omega) (by omega)
  have hmk3 := run_make_row' (P := Try.prog) 46 4 (.bool false) 1 Try.underlying46 Try.info4 rfl .i64 .i64 R (by omega) (by omega)
  have HMK := Lib.hid hmk3
  clear hmk3
  go_enter Try.func55, Try.ntmps55
  go_upto_region 2 with fail
  clear hmk
  obtain ⟨G, hG⟩ : ∃ G, G = w.heap.size := ⟨_, rfl⟩
  obtain ⟨w4, hw4⟩ : ∃ w4, w4 = w.alloc (.cells (madeCells #[.slice none 0 0] n) 46) := ⟨_, rfl⟩
  have hlay : LayR w4 G n R 0 w4 := by
    subst hw4 hG
    exact ⟨by simp, (World.rowIs_made w _ _ _).congr fun a _ => by simp, fun a ha => by omega, FrX.refl _ _⟩
  have HB4 : Hid (Below w.heap.size w w4) := Lib.hid (by rw [hw4]; exact (Below.refl _ _).alloc (Nat.le_refl _) _)
  have HGG := Lib.hid hG
  have HLAY := Lib.hid hlay
  rw [← hw4, ← hG]
  clear hw4 hG hlay
  go_wp2_with fail
  go_loopw [11] (fun s11 wq => ∃ j : Nat, j ≤ n ∧ s11 = .int .i64 (j : Int) ∧ LayR w4 G n R j wq) (fun s11 _ => n - (intOf s11).toNat)
  case atStart => exact ⟨0, Nat.zero_le _, rfl, HLAY.out⟩
  case round =>
    obtain ⟨j, hj, rfl, hl⟩ := hrel
    have HL := Lib.hid hl
    by_cases hjn : j < n
    · have hmk := HMK.out
      have xc : wr.cell? ⟨G, j, none⟩ = some (.slice none 0 0) := by have := hl.2.1.cell hjn; rwa [if_neg (by omega)] at this
      have xf := hl.2.1.frozen j
      have hG := hl.2.1.lt
      have hj0 : (0 : Int) ≤ j := by omega
      have hj1 : (j : Int) < n := by omega
      have HST := Lib.hid (LayR.step hl)
      clear hl
      go_wp2_with fail
      go_roundw
      case rel => exact ⟨j + 1, by omega, by go_num, HST.out⟩
      case measure => simp [intOf]; omega
    · obtain rfl : j = n := by omega
      clear hl
      go_wp2_with fail
      go_ret
      refine ⟨by rw [← HGG.out]; rfl, by rw [← HGG.out]; exact HL.out.all, by have := HL.out.1; have := HGG.out; omega, HB4.out.trans (HL.out.2.2.2.below ?_ (fun b hb => ?_))⟩
      · exact HB4.out.size
      · have := HGG.out; have hb : b = G := hb; omega
/-! ### What a block uses -/
set_option maxRecDepth 100000 in
set_option maxHeartbeats 8000000 in
theorem use_any (W : World) (B1 B2 GM R K r : Nat) (vu : Value) (l : List Nat) (m : Bool) (b1 : W.heap[B1]? = some (.cells #[.slice (some ⟨GM, 0, none⟩) R R] 46)) (b2 : W.heap[B2]? = some (.cells #[vu] 22)) (hm : W.cell? ⟨GM, r, none⟩ = some (.bool m))
    (ho : W.ownsRow K 3 1 vu l.length (l.map fun y : Nat => Value.int .i64 (y : Int))) (hr : r < R) (hR : R ≤ 256) (hl : l.length ≤ 200000) (hK : B2 < K) (hKW : K ≤ W.heap.size) :
    Calls Try.prog 73 #[.int .i64 (r : Int), .pointer (some ⟨B1, 0, none⟩), .pointer (some ⟨B2, 0, none⟩)] W fun e W' => e = .returned (.tuple #[]) ∧ ∃ vu', W'.heap[B2]? = some (.cells #[vu'] 22) ∧ W'.ownsRow K 3 1 vu' (if m = true then l else l ++ [r]).length ((if m = true then l else l ++ [r]).map fun y : Nat => Value.int .i64 (y : Int)) ∧ GroS B2 B2 W W' vu vu' := by
  obtain ⟨i0, hi, hz0, hz1, hz2⟩ := info_parts Try.info3
  have HI := Lib.hid (And.intro hi (And.intro hz0 (And.intro hz1 hz2)))
  clear hi hz0 hz1 hz2
  have c1 := cell_of_block b1 0
  have c2 := cell_of_block b2 0
  have f2 : W.frozen? ⟨B2, 0, none⟩ = false := by simp [World.frozen?, b2]
  have HB2 := Lib.hid b2
  have HO := Lib.hid ho
  have hlt : B2 < W.heap.size := (Array.getElem?_eq_some_iff.1 b2).1
  have hr0 : (0 : Int) ≤ r := by omega
  have hr1 : (r : Int) < R := by omega
  obtain ⟨Av, cv, hv⟩ := own_sliceL ho
  obtain ⟨lz, hlz⟩ : ∃ lz, l.length = lz := ⟨_, rfl⟩
  rw [hlz] at hv hl
  have HLZ := Lib.hid hlz
  have HV := Lib.hid hv
  have HOV : Hid (W.ownsRow K 3 1 (.slice Av lz cv) lz (l.map fun y : Nat => Value.int .i64 (y : Int))) := Lib.hid (by rw [hv, hlz] at ho; exact ho)
  rw [hv] at c2
  clear b1 b2 ho hlz hv
  go_enter Try.func73, Try.ntmps73
  cases m
  · go_wp2_with (at_builtin; refine wpList_append_lies _ rfl (.tmp 9) (.tmp 11) 22 rfl K 3 i0 (.int .i64 0) 1 8 Try.underlying22 HI.out.1 HI.out.2.1 HI.out.2.2.1 HI.out.2.2.2 rfl (by decide) _ lz _ rfl (HOV.out.alloc _) ⟨W.heap.size, 0, none⟩ 1 1 [.int .i64 (r : Int)] rfl rfl ?e1 ?e2 (by decide) ?e3 ?e4 ?e5 (W.heap.size + 1) ?e6 ?_)
    case e1 => exact news_one_add W _ _ rfl
    case e2 => exact ints_oneCell .i64 [(r : Int)]
    case e3 => unfold maxLen; omega
    case e4 => omega
    case e5 => simp; omega
    case e6 => simp
    intro g cap w6 hown6 hgrow6 hloc6 hlt6
    have hgr : GroD W w6 vu (.slice (some ⟨g, 0, none⟩) (lz + 1) cap) := by rw [HV.out]; exact groD_append hgrow6 hloc6
    have hbC : w6.heap[B2]? = some (.cells #[vu] 22) := (hgr.block B2 hlt (fun e => by have := (HO.out.lt B2 e).1; omega)).trans HB2.out
    have q0 : w6.cell? ⟨B2, 0, none⟩ = some (.slice Av lz cv) := by rw [← HV.out]; exact cell_of_block hbC 0
    have q1 : w6.frozen? ⟨B2, 0, none⟩ = false := by simp [World.frozen?, hbC]
    have HBC := Lib.hid hbC
    have HGR := Lib.hid hgr
    have HON := Lib.hid hown6
    clear hgr hbC hown6 hgrow6 hloc6 hlt6 c2 f2 c1 hm
    go_wp2_with fail
    go_end0
    refine ⟨rfl, _, ?_, ?_, (GroS.of_groD HGR.out).trans (GroS.store _ _ (p := ⟨B2, 0, none⟩) ⟨Nat.le_refl _, Nat.le_refl _⟩ _)⟩
    · simp [World.setCell, Array.getElem?_modify, HBC.out]
    · rw [HLZ.out]
      exact ownsRow_block (by simpa using HON.out) (fun g' hg' => Below.heap_setCell _ _ _ _ (fun e => by have := (HON.out.lt g' hg').1; have e : g' = B2 := e; omega))
  · go_wp2_with fail
    go_end0
    exact ⟨rfl, vu, HB2.out, HO.out, GroS.refl _ _ _ _⟩
end Go.Proofs.Ytflbooopgjgkbaa

/- The program's usesOf. -/
namespace Go.Proofs.Ytflbooopgjgkbaa
open Go.ChangeShapes Go.WideShapes Go.RowKit Go.Deep
set_option linter.unusedVariables false

theorem FrX.groS {X : Nat → Prop} {w0 a b : World} {lo hi : Nat} {v v' : Value} (h : FrX X w0 a) (g : GroS lo hi a b v v') (hx : ∀ k, lo ≤ k → k ≤ hi → X k ∨ w0.heap.size ≤ k) (hv : ∀ k, v.ownBlock = some k → X k ∨ w0.heap.size ≤ k) : FrX X w0 b :=
  ⟨g.os.trans h.os, g.tape.trans h.tape, g.output.trans h.output, Nat.le_trans h.size g.size, fun k hk hn => (g.block k (Nat.lt_of_lt_of_le hk h.size) (fun e => by
    rcases hx k e.1 e.2 with h1 | h1
    · exact hn h1
    · omega) (fun e => by
    rcases hv k e with h1 | h1
    · exact hn h1
    · omega)).trans (h.block k hk hn)⟩
/-- What of a block its uses lean on. -/
structure UseOk (R : Nat) (k : BlkD) : Prop where
  ins : ∀ x ∈ k.ins, (∀ a ∈ x.args, InR R a) ∧ (x.dst = -1 ∨ InR R x.dst) ∧ x.args.length ≤ 300
  len : k.ins.length ≤ 300
  arg : k.term.arg = -1 ∨ InR R k.term.arg
theorem usA_len (ins : List InsD) (i : Nat) (args : List Int) : (usA ins i args).length ≤ args.length := by unfold usA; refine Nat.le_trans (List.length_filter_le _ _) (by simp)
theorem usA_zero (ins : List InsD) (i : Nat) (args : List Int) : usA ins i (args.take 0) = [] := by simp [usA]
theorem usA_step {ins : List InsD} {i j : Nat} {args : List Int} {r : Nat} (h : args[j]? = some (r : Int)) : usA ins i (args.take (j + 1)) = if mkI ins i r = true then usA ins i (args.take j) else usA ins i (args.take j) ++ [r] := by
  unfold usA
  rw [take_succ_of h, List.map_append, List.filter_append]
  simp only [List.map_cons, List.map_nil, Int.toNat_natCast]
  cases hm : mkI ins i r <;> simp [hm]
theorem usK_len {ins : List InsD} (h : ∀ x ∈ ins, x.args.length ≤ 300) (i : Nat) : (usK ins i).length ≤ 300 * i := by
  induction i with
  | zero => simp [usK]
  | succ i ih =>
    cases hx : ins[i]? with
    | none =>
      have : usK ins (i + 1) = usK ins i ++ [] := by show usK ins i ++ (match ins[i]? with | some x => _ | none => _) = _; rw [hx]
      rw [this, List.append_nil]; omega
    | some x =>
      rw [usK_succ hx, List.length_append]
      have h1 := usA_len ins i x.args
      have h2 := h x (List.mem_of_getElem? hx)
      omega
def ToldU (w : World) (GM R : Nat) (k : BlkD) (e : Ending) (w' : World) : Prop :=
  ∃ vu, e = .returned vu ∧ w'.ownsRow w.heap.size 3 1 vu (usB k).length ((usB k).map fun y : Nat => Value.int .i64 (y : Int)) ∧ w'.rowIs GM 4 R (fun r => .bool (mkI k.ins k.ins.length r)) ∧ FrX (fun b => b = GM) w w'
set_option maxRecDepth 100000 in
set_option maxHeartbeats 8000000 in
theorem usesOf_any (Wa w : World) (k : BlkD) (v : Value) (hv : VBlk Wa v k) (GM R : Nat) (hW : Below Wa.heap.size Wa w) (hGM : Wa.heap.size ≤ GM) (hm : w.rowIs GM 4 R (fun _ => .bool false)) (hok : UseOk R k) (hR : R ≤ 256) :
    Calls Try.prog 56 #[v, .slice (some ⟨GM, 0, none⟩) R R] w (ToldU w GM R k) := by
  obtain ⟨Ap, cp, Ai, ci, At, ct, rfl, -, hi, -, hk1, hk2⟩ := hv
  have HW := Lib.hid hW
  have HI := Lib.hid hi
  have HOK := Lib.hid hok
  have HM := Lib.hid hm
  have HGM := Lib.hid (And.intro hGM hm.lt)
  have hil := hok.len
  have hmf : ∀ (fn : Fn) (first cap : Array Value) (w : World), (Instr.makeFunc fn first cap).run Try.prog w = .ok (.func fn first cap) w := fun _ _ _ _ => rfl
  clear hW hi hok hm hGM
  go_enter Try.func56, Try.ntmps56
  go_upto_region 3 with fail
  clear hmf
  obtain ⟨N, hN⟩ : ∃ N, N = w.heap.size := ⟨_, rfl⟩
  rw [← hN]
  obtain ⟨W0, hW0⟩ : ∃ W0, W0 = ((w.alloc (.cells #[.slice Ap k.phis.length cp, .slice Ai k.ins.length ci, .int .i64 k.term.kind, .int .i64 k.term.arg, .slice At k.term.to.length ct] 52)).alloc (.cells #[.slice (some ⟨GM, 0, none⟩) R R] 46)).alloc (.cells #[.slice none 0 0] 22) := ⟨_, rfl⟩
  obtain ⟨b0, b1, b2, hbel⟩ : W0.heap[N]? = some (.cells #[.slice Ap k.phis.length cp, .slice Ai k.ins.length ci, .int .i64 k.term.kind, .int .i64 k.term.arg, .slice At k.term.to.length ct] 52) ∧ W0.heap[N + 1]? = some (.cells #[.slice (some ⟨GM, 0, none⟩) R R] 46) ∧ W0.heap[N + 1 + 1]? = some (.cells #[.slice none 0 0] 22) ∧ Below N w W0 := by
    subst hW0 hN
    have h0 := heap_alloc_new w (.cells #[.slice Ap k.phis.length cp, .slice Ai k.ins.length ci, .int .i64 k.term.kind, .int .i64 k.term.arg, .slice At k.term.to.length ct] 52)
    have h1 := heap_alloc_new (w.alloc (.cells #[.slice Ap k.phis.length cp, .slice Ai k.ins.length ci, .int .i64 k.term.kind, .int .i64 k.term.arg, .slice At k.term.to.length ct] 52)) (.cells #[.slice (some ⟨GM, 0, none⟩) R R] 46)
    have h2 := heap_alloc_new ((w.alloc (.cells #[.slice Ap k.phis.length cp, .slice Ai k.ins.length ci, .int .i64 k.term.kind, .int .i64 k.term.arg, .slice At k.term.to.length ct] 52)).alloc (.cells #[.slice (some ⟨GM, 0, none⟩) R R] 46)) (.cells #[.slice none 0 0] 22)
    refine ⟨?_, ?_, by simpa using h2, (((Below.refl _ w).alloc (Nat.le_refl _) _).alloc (by simp) _).alloc (by simp; omega) _⟩
    · exact (Below.heap_alloc _ _ _ (by simp; omega)).trans ((Below.heap_alloc _ _ _ (by simp)).trans h0)
    · exact (Below.heap_alloc _ _ _ (by simp)).trans (by simpa using h1)
  have hz0 : W0.heap.size = N + 3 := by rw [hW0, hN]; simp
  have HG2 : Hid (Wa.heap.size ≤ GM ∧ GM < N) := Lib.hid (by rw [hN]; exact HGM.out)
  have HZ0 : Hid (W0.heap.size = N + 3 ∧ N = w.heap.size) := Lib.hid ⟨hz0, hN⟩
  have HB0 := Lib.hid b0
  have HB1 := Lib.hid b1
  have HB2 := Lib.hid b2
  have HBEL := Lib.hid hbel
  have HW0 : Hid (Below Wa.heap.size Wa W0) := Lib.hid (HW.out.trans (hbel.mono (by have := HG2.out; omega)))
  have HM0 := Lib.hid (HM.out.of_block (hbel.block GM HG2.out.2))
  have c1 := cell_of_block b0 1
  have hk30 : (300 : Nat) * k.ins.length ≤ 90000 := by omega
  rw [← hW0]
  clear hW0 hN hbel b0 b1 b2 hz0
  go_wp2_with fail
  clear c1
  go_loopw [15] (fun s15 wq => ∃ (i : Nat) (vu : Value), i ≤ k.ins.length ∧ s15 = .int .i64 (i : Int) ∧ wq.heap[N + 1 + 1]? = some (.cells #[vu] 22) ∧ wq.ownsRow (N + 3) 3 1 vu (usK k.ins i).length ((usK k.ins i).map fun y : Nat => Value.int .i64 (y : Int)) ∧ wq.rowIs GM 4 R (fun r => .bool (mkI k.ins i r)) ∧ FrX (fun b => b = GM ∨ b = N + 1 + 1) W0 wq) (fun s15 _ => k.ins.length - (intOf s15).toNat)
  case atStart => exact ⟨0, _, Nat.zero_le _, rfl, HB2.out, World.ownsRow_nil _ _ _ _, HM0.out.congr fun _ _ => by simp [mkI], FrX.refl _ _⟩
  case round =>
    obtain ⟨i, vu, hi, rfl, hb2, ho, hm, hfr⟩ := hrel
    obtain ⟨wL, rfl⟩ : ∃ wL, wL = wr := ⟨_, rfl⟩
    have HO := Lib.hid ho
    have HMI := Lib.hid hm
    have HFR := Lib.hid hfr
    have HB2L := Lib.hid hb2
    have hb0L : wL.heap[N]? = _ := (hfr.block N (by have := HZ0.out; omega) (by have := HG2.out; omega)).trans HB0.out
    have HB0L := Lib.hid hb0L
    have hb1L : wL.heap[N + 1]? = _ := (hfr.block (N + 1) (by have := HZ0.out; omega) (by have := HG2.out; omega)).trans HB1.out
    have HB1L := Lib.hid hb1L
    have hbw : Below Wa.heap.size Wa wL := HW0.out.trans (hfr.below HW0.out.size (fun b hb => by have := HG2.out; omega))
    have HBW := Lib.hid hbw
    have hul := usK_len (fun x hx => (HOK.out.ins x hx).2.2) i
    have hzL := hfr.size
    by_cases hil : i < k.ins.length
    · obtain ⟨bi, oi, x, rfl, hx, h0, h1, ⟨A2, c2, h2', hs2⟩, h3, h4⟩ := HI.out.at_ hil
      have hkb := kept_of_below hbw
      have h2 := hkb _ _ h2'
      obtain ⟨hxa, hxd, hxl⟩ := HOK.out.ins x (List.mem_of_getElem? hx.out)
      have d0 := hkb _ _ h0.1
      have d1 := hkb _ _ h1.1
      have d3 := hkb _ _ h3.1
      have d4 := hkb _ _ h4.1
      have HX := Lib.hid hx
      have HXA := Lib.hid hxa
      have HXD := Lib.hid hxd
      have HS2 := Lib.hid hs2
      have hi0 : (0 : Int) ≤ i := by omega
      have hi1 : (i : Int) < k.ins.length := by omega
      obtain ⟨la, hla⟩ : ∃ la, x.args.length = la := ⟨_, rfl⟩
      rw [hla] at h2 hxl
      have HLA := Lib.hid hla
      obtain ⟨Q, hQ⟩ : ∃ Q, Q = wL.heap.size := ⟨_, rfl⟩
      obtain ⟨wB, hwB⟩ : ∃ wB, wB = wL.alloc (.cells #[.int .i64 x.op, .int .i64 x.dst, .slice A2 la c2, .int .i64 x.imm, .int .i64 x.fn] 55) := ⟨_, rfl⟩
      have hbQ : wB.heap[Q]? = some (.cells #[.int .i64 x.op, .int .i64 x.dst, .slice A2 la c2, .int .i64 x.imm, .int .i64 x.fn] 55) := by rw [hwB, hQ]; exact heap_alloc_new _ _
      have hbelB : Below wL.heap.size wL wB := by rw [hwB]; exact (Below.refl _ _).alloc (Nat.le_refl _) _
      have HQ : Hid (Q = wL.heap.size ∧ wB.heap.size = Q + 1 ∧ N + 3 ≤ Q) := Lib.hid ⟨hQ, by rw [hwB, hQ]; simp, by have := HZ0.out; omega⟩
      have HBQ := Lib.hid hbQ
      have HBB := Lib.hid hbelB
      have q2 := cell_of_block hbQ 2
      go_upto_region 6 with fail
      rw [← hwB, ← hQ]
      clear ho hm hfr hb0L hb1L hbw hkb hx h0 h1 h2 h2' h3 h4 hs2 hxa hxd hla hwB hQ hbQ hbelB d0 d1 d3 d4
      go_wp2_with fail
      clear q2
      go_loopw [22] (fun s22 wq => ∃ (j : Nat) (v2 : Value), j ≤ la ∧ s22 = .int .i64 (j : Int) ∧ wq.heap[N + 1 + 1]? = some (.cells #[v2] 22) ∧ wq.ownsRow (N + 3) 3 1 v2 (usK k.ins i ++ usA k.ins i (x.args.take j)).length ((usK k.ins i ++ usA k.ins i (x.args.take j)).map fun y : Nat => Value.int .i64 (y : Int)) ∧ GroS (N + 1 + 1) (N + 1 + 1) wB wq vu v2) (fun s22 _ => la - (intOf s22).toNat)
      case atStart => exact ⟨0, vu, Nat.zero_le _, rfl, (HBB.out.block _ (by have := HQ.out; omega)).trans HB2L.out, by rw [usA_zero, List.append_nil]; exact ownsRow_block HO.out (fun g hg => HBB.out.block g (HO.out.lt g hg).2), GroS.refl _ _ _ _⟩
      case round =>
        obtain ⟨j, v2, hj, rfl, hb2, ho, hG⟩ := hrel
        have HO2 := Lib.hid ho
        have HG := Lib.hid hG
        have HB2J := Lib.hid hb2
        by_cases hjl : j < la
        · have hkeep : ∀ b, b < wL.heap.size → b ≠ N + 1 + 1 → vu.ownBlock ≠ some b → wr.heap[b]? = wL.heap[b]? := fun b h1 h2 h3 => (hG.block b (by have := HQ.out; omega) (by omega) h3).trans (HBB.out.block b h1)
          have hvu : ∀ b, b < N + 3 → vu.ownBlock ≠ some b := fun b hb e => by have := (HO.out.lt b e).1; omega
          have hb1J : wr.heap[N + 1]? = _ := (hkeep (N + 1) (by have := HQ.out; omega) (by omega) (hvu _ (by omega))).trans HB1L.out
          have hbw2 : Below Wa.heap.size Wa wr := HBW.out.trans ⟨hG.os.trans HBB.out.os, hG.tape.trans HBB.out.tape, hG.output.trans HBB.out.output, Nat.le_trans HBB.out.size hG.size, fun b hb => hkeep b (by have := HG2.out; have := HQ.out; omega) (by have := HG2.out; omega) (hvu _ (by have := HG2.out; omega))⟩
          obtain ⟨bt, ot, y, rfl, hy, hyc, -⟩ := (SInts.keep (kept_of_below hbw2) HS2.out).int (k := j) (by rw [HLA.out]; exact hjl)
          have hyr := HXA.out y (List.mem_of_getElem? hy.out)
          obtain ⟨r, rfl⟩ : ∃ r : Nat, y = (r : Int) := ⟨y.toNat, by have := hyr.1; omega⟩
          have hr : r < R := by have := hyr.2; omega
          have hmr := (HMI.out.of_block (hkeep GM (by have := HG2.out; have := HQ.out; omega) (by have := HG2.out; omega) (hvu _ (by have := HG2.out; omega)))).cell hr
          have hlen : (usK k.ins i ++ usA k.ins i (x.args.take j)).length ≤ 200000 := by
            have h1 := usA_len k.ins i (x.args.take j)
            rw [List.length_take, HLA.out] at h1
            rw [List.length_append]; omega
          have hcl := use_any wr (N + 1) (N + 1 + 1) GM R (N + 3) r v2 _ _ hb1J hb2 hmr ho hr hR hlen (by omega) (by have := hG.size; have := HQ.out; omega)
          have HCL := Lib.hid hcl
          have HST := Lib.hid (usA_step (ins := k.ins) (i := i) hy.out)
          have hj0 : (0 : Int) ≤ j := by omega
          have hj1 : (j : Int) < la := by omega
          clear hb2 ho hG hkeep hvu hb1J hbw2 hy hyr hmr hlen hcl
          go_wp2_with (go_at_call 73; refine HCL.out.mono ?_; rintro e w5 ⟨rfl, v3, hb5, ho5, hG5⟩)
          have HB5 := Lib.hid hb5
          have HO5 := Lib.hid ho5
          have HG5 := Lib.hid hG5
          clear hb5 ho5 hG5
          go_roundw
          case rel =>
            refine ⟨j + 1, v3, by omega, by go_num, HB5.out, ?_, HG.out.trans HG5.out⟩
            rw [HST.out]
            have h1 := HO5.out
            cases hq : mkI k.ins i r
            · rw [hq] at h1; simpa [List.append_assoc] using h1
            · rw [hq] at h1; simpa using h1
          case measure => simp [intOf]; omega
        · obtain rfl : j = la := by omega
          have hkeep : ∀ b, b < wL.heap.size → b ≠ N + 1 + 1 → vu.ownBlock ≠ some b → wr.heap[b]? = wL.heap[b]? := fun b h1 h2 h3 => (hG.block b (by have := HQ.out; omega) (by omega) h3).trans (HBB.out.block b h1)
          have hvu : ∀ b, b < N + 3 → vu.ownBlock ≠ some b := fun b hb e => by have := (HO.out.lt b e).1; omega
          have hbQ3 : wr.heap[Q]? = _ := (hG.block Q (by have := HQ.out; omega) (by have := HQ.out; omega) (fun e => by have := (HO.out.lt Q e).2; have := HQ.out; omega)).trans HBQ.out
          have d1 := cell_of_block hbQ3 1
          have hb1J : wr.heap[N + 1]? = _ := (hkeep (N + 1) (by have := HQ.out; omega) (by omega) (hvu _ (by omega))).trans HB1L.out
          have e1 := cell_of_block hb1J 0
          have hmJ := HMI.out.of_block (hkeep GM (by have := HG2.out; have := HQ.out; omega) (by have := HG2.out; omega) (hvu _ (by have := HG2.out; omega)))
          have hfr2 : FrX (fun b => b = GM ∨ b = N + 1 + 1) W0 wr := (HFR.out.trans (.of_below HBB.out)).groS hG (fun q h1 h2 => .inl (.inr (by omega))) (fun q hq => .inr (by have := (HO.out.lt q hq).1; have := HZ0.out; omega))
          have hus : usK k.ins (i + 1) = usK k.ins i ++ usA k.ins i (x.args.take j) := by rw [usK_succ HX.out, List.take_of_length_le (by rw [HLA.out]; exact Nat.le_refl _)]
          have HUS := Lib.hid hus
          have HMJ := Lib.hid hmJ
          have HFR2 := Lib.hid hfr2
          have HSU := Lib.hid (mkI_succ HX.out)
          by_cases hd : x.dst = -1
          · rw [hd] at d1
            have HMN : Hid (wr.rowIs GM 4 R (fun r => .bool (mkI k.ins (i + 1) r))) := Lib.hid (hmJ.congr fun r _ => by rw [HSU.out r, decide_eq_false (by omega), Bool.or_false])
            clear hb2 ho hG hkeep hvu hbQ3 hb1J e1 hmJ hfr2 hus hd
            go_wp2_with fail
            go_roundw
            case rel => exact ⟨i + 1, v2, by omega, by go_num, HB2J.out, by rw [HUS.out]; exact HO2.out, HMN.out, HFR2.out⟩
            case measure => simp [intOf]; omega
          · obtain ⟨d, hde, hdR⟩ : ∃ d : Nat, x.dst = (d : Int) ∧ d < R := by
              rcases HXD.out with h1 | h1
              · exact absurd h1 hd
              · exact ⟨x.dst.toNat, by have := h1.1; omega, by have := h1.1; have := h1.2; omega⟩
            rw [hde] at d1
            have HDE := Lib.hid hde
            have HMN : Hid ((wr.setCell ⟨GM, d, none⟩ (.bool true)).rowIs GM 4 R (fun r => .bool (mkI k.ins (i + 1) r))) := Lib.hid ((hmJ.set d _).congr fun r _ => by
              rw [HSU.out r, hde]
              by_cases e : r = d
              · subst e; simp
              · rw [if_neg e, decide_eq_false (by omega), Bool.or_false])
            have hs : ∀ y, y ≠ GM → (wr.setCell ⟨GM, d, none⟩ (.bool true)).heap[y]? = wr.heap[y]? := fun y hy => Below.heap_setCell _ _ _ _ hy
            have HBN : Hid ((wr.setCell ⟨GM, d, none⟩ (.bool true)).heap[N + 1 + 1]? = some (.cells #[v2] 22)) := Lib.hid ((hs _ (by have := HG2.out; omega)).trans hb2)
            have HON : Hid ((wr.setCell ⟨GM, d, none⟩ (.bool true)).ownsRow (N + 3) 3 1 v2 (usK k.ins (i + 1)).length ((usK k.ins (i + 1)).map fun y : Nat => Value.int .i64 (y : Int))) := Lib.hid (by rw [hus]; exact ownsRow_block ho (fun g hg => hs g (by have := (ho.lt g hg).1; have := HG2.out; omega)))
            have HFN := Lib.hid (hfr2.setCell (p := ⟨GM, d, none⟩) (.inl (.inl rfl)) (.bool true))
            have gf := hmJ.frozen d
            have gc := hmJ.cell hdR
            have hd0 : (0 : Int) ≤ d := by omega
            have hd1 : (d : Int) < R := by omega
            clear hb2 ho hG hkeep hvu hbQ3 hb1J hmJ hfr2 hus hd hde hs
            go_wp2_with fail
            go_roundw
            case rel => exact ⟨i + 1, v2, by omega, by go_num, HBN.out, HON.out, HMN.out, HFN.out⟩
            case measure => simp [intOf]; omega
    · obtain rfl : i = k.ins.length := by omega
      have e3 := cell_of_block hb0L 3
      have e2 := cell_of_block hb2 0
      have HB := Lib.hid hbw
      by_cases hd : k.term.arg = -1
      · have HUB : Hid (usB k = usK k.ins k.ins.length) := Lib.hid (by unfold usB usE; rw [if_neg (fun h => by rw [hd] at h; omega), List.append_nil])
        rw [hd] at e3
        clear ho hm hfr hb0L hb1L hbw hb2 hd
        go_wp2_with fail
        go_ret
        refine ⟨vu, rfl, ?_, HMI.out, ?_⟩
        · rw [HUB.out]; exact owns_mono_ HO.out (by have := HZ0.out; omega)
        · exact ⟨HFR.out.os.trans HBEL.out.os, HFR.out.tape.trans HBEL.out.tape, HFR.out.output.trans HBEL.out.output, Nat.le_trans HBEL.out.size HFR.out.size, fun b hb hn => (HFR.out.block b (by have := HZ0.out; omega) (fun e => by have := HZ0.out; rcases e with e | e; exact hn e; omega)).trans (HBEL.out.block b (by have := HZ0.out; omega))⟩
      · obtain ⟨d, hde, hdR⟩ : ∃ d : Nat, k.term.arg = (d : Int) ∧ d < R := by
          rcases HOK.out.arg with h1 | h1
          · exact absurd h1 hd
          · exact ⟨k.term.arg.toNat, by have := h1.1; omega, by have := h1.1; have := h1.2; omega⟩
        rw [hde] at e3
        have hlen : (usK k.ins k.ins.length).length ≤ 200000 := by omega
        have hcl := use_any wL (N + 1) (N + 1 + 1) GM R (N + 3) d vu _ _ hb1L hb2 (hm.cell hdR) ho hdR hR hlen (by omega) (by have := HZ0.out; omega)
        have HCL := Lib.hid hcl
        have HUB : Hid (usB k = if mkI k.ins k.ins.length d = true then usK k.ins k.ins.length else usK k.ins k.ins.length ++ [d]) := Lib.hid (by
          unfold usB usE
          rw [hde]
          have e : ((d : Int)).toNat = d := by omega
          rw [e]
          cases hq : mkI k.ins k.ins.length d
          · rw [if_pos ⟨by omega, rfl⟩]; simp
          · rw [if_neg (fun h => by simp at h)]; simp)
        have hd0 : (0 : Int) ≤ d := by omega
        clear ho hm hfr hb0L hb1L hbw hb2 hd hde hlen hcl e2
        go_wp2_with (go_at_call 73; refine HCL.out.mono ?_; rintro e w5 ⟨rfl, v3, hb5, ho5, hG5⟩; have e5 := cell_of_block hb5 0; have HO5 := Lib.hid ho5; have HG5 := Lib.hid hG5; clear hb5 ho5 hG5)
        go_ret
        have hfr2 : FrX (fun b => b = GM ∨ b = N + 1 + 1) W0 w5 := HFR.out.groS HG5.out (fun q h1 h2 => .inl (.inr (by omega))) (fun q hq => .inr (by have := (HO.out.lt q hq).1; have := HZ0.out; omega))
        refine ⟨v3, rfl, ?_, ?_, ?_⟩
        · rw [HUB.out]; exact owns_mono_ HO5.out (by have := HZ0.out; omega)
        · exact HMI.out.of_block (HG5.out.block GM HMI.out.lt (by have := HG2.out; omega) (fun e => by have := (HO.out.lt GM e).1; have := HG2.out; omega))
        · exact ⟨hfr2.os.trans HBEL.out.os, hfr2.tape.trans HBEL.out.tape, hfr2.output.trans HBEL.out.output, Nat.le_trans HBEL.out.size hfr2.size, fun b hb hn => (hfr2.block b (by have := HZ0.out; omega) (fun e => by have := HZ0.out; rcases e with e | e; exact hn e; omega)).trans (HBEL.out.block b (by have := HZ0.out; omega))⟩
end Go.Proofs.Ytflbooopgjgkbaa
