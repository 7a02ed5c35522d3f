/- The program's backwards, Order, Reached. -/
import Derived.Test.YtooblmiffgjmjaaGrG
import Derived.Laws.EntriesVeiled
namespace Go.Proofs.Ytooblmiffgjmjaa
open Go.ChangeShapes Go.WideShapes Go.RowKit Go.Deep
set_option linter.unusedVariables false

theorem Try.info4 : (Try.prog.info? 4).map (fun i => (i.zero, i.size, i.bytes)) = some (some (.bool false), 1, 1) := by kernel_rfl
/-- A row that the call owns, as a list that lies in its blocks. -/
theorem slB_of_own {w : World} {base : Nat} {v : Value} {xs : List Int} (h : w.ownsRow base 3 1 v xs.length (xs.map (Value.int .i64))) (hx : ∀ x ∈ xs, I64 x) {B : Nat → Prop} (hB : ∀ g, base ≤ g → g < w.heap.size → B g) :
    ∃ A c, v = .slice A xs.length c ∧ SL w 1 (RIntB B) A c xs := by
  obtain ⟨A, c, e, hs⟩ := vs_of_own h hx
  obtain ⟨h1, h2, h3⟩ := hs
  refine ⟨A, c, e, h1, h2, fun hp => ?_⟩
  obtain ⟨b, o, e2, hr⟩ := h3 hp
  have hl := h.lt b (by rw [e, e2]; rfl)
  exact ⟨b, o, e2, fun i x hi => ⟨hB b hl.1 hl.2, hr i x hi⟩⟩

/-- Seven new blocks. -/
theorem boxes7 (w : World) (M : Nat) (hM : M = w.heap.size) (o0 o1 o2 o3 o4 o5 o6 : Obj) (W : World) (hW : W = ((((((w.alloc o0).alloc o1).alloc o2).alloc o3).alloc o4).alloc o5).alloc o6) :
    W.heap[M]? = some o0 ∧ W.heap[M + 1]? = some o1 ∧ W.heap[M + 2]? = some o2 ∧ W.heap[M + 3]? = some o3 ∧ W.heap[M + 4]? = some o4 ∧ W.heap[M + 5]? = some o5 ∧ W.heap[M + 6]? = some o6 ∧ W.heap.size = M + 7 ∧ Below M w W := by
  subst hM hW
  have hz (u : World) (o : Obj) : (u.alloc o).heap.size = u.heap.size + 1 := by simp
  have hg (u : World) (o : Obj) (k : Nat) : (u.alloc o).heap[k]? = if k = u.heap.size then some o else u.heap[k]? := by
    show (u.heap.push o)[k]? = _
    rw [Array.getElem?_push]
  refine ⟨?_, ?_, ?_, ?_, ?_, ?_, ?_, ?_, ?_⟩
  · simp only [hg, hz]; repeat rw [if_neg (by omega)]
    exact if_pos (by first | trivial | omega)
  · simp only [hg, hz]; repeat rw [if_neg (by omega)]
    exact if_pos (by first | trivial | omega)
  · simp only [hg, hz]; repeat rw [if_neg (by omega)]
    exact if_pos (by first | trivial | omega)
  · simp only [hg, hz]; repeat rw [if_neg (by omega)]
    exact if_pos (by first | trivial | omega)
  · simp only [hg, hz]; repeat rw [if_neg (by omega)]
    exact if_pos (by first | trivial | omega)
  · simp only [hg, hz]; repeat rw [if_neg (by omega)]
    exact if_pos (by first | trivial | omega)
  · simp only [hg, hz]; repeat rw [if_neg (by omega)]
    exact if_pos (by first | trivial | omega)
  · simp [hz]
  · refine (((((((Below.refl _ w).alloc ?_ _).alloc ?_ _).alloc ?_ _).alloc ?_ _).alloc ?_ _).alloc ?_ _).alloc ?_ _
    all_goals (simp [hz]; try omega)
theorem doneL_rest (nx : Nat → List Nat) {n : Nat} (hn : n ≠ 0) : rest nx (n - 1) 0 (nx 0) ⟨mark noneSeen 0, []⟩ = visit nx n 0 ⟨noneSeen, []⟩ := by
  obtain ⟨m, rfl⟩ : ∃ m, n = m + 1 := ⟨n - 1, by omega⟩
  rfl
theorem doneL_out (nx : Nat → List Nat) {n : Nat} (hn : n ≠ 0) : doneL nx n = (visit nx n 0 ⟨noneSeen, []⟩).out := by unfold doneL; rw [if_neg hn]

set_option maxRecDepth 100000 in
set_option maxHeartbeats 8000000 in
theorem backwards_any (G K n : Nat) (V : Nat → Value) (nx : Nat → List Nat) (w : World) (h : Gri w G K n V (fun i => zs (nx i))) (hn : n ≤ 1000) (hnx : ∀ x, ∀ t ∈ nx x, t < n) :
    Calls Try.prog 44 #[.slice (some ⟨G, 0, none⟩) n n] w fun e w' => (∃ vd, e = .returned vd ∧ w'.ownsRow w.heap.size 3 1 vd (doneL nx n).length ((zs (doneL nx n)).map (Value.int .i64))) ∧ BB w.heap.size G w w' := by
  by_cases hn0 : n = 0
  · subst hn0
    have e : doneL nx 0 = [] := rfl
    rw [e]
    go_enter Try.func44, Try.ntmps44
    go_wp2_with fail
    go_ret
    exact ⟨⟨_, rfl, World.ownsRow_nil _ _ _ _⟩, (BB.refl _ _ _).alloc (Nat.le_refl _) _⟩
  · have hpos : 0 < n := by omega
    have hne : ((n : Int) == 0) = false := by simp; omega
    have hmf : ∀ (fn : Fn) (first cap : Array Value) (w : World), (Instr.makeFunc fn first cap).run Try.prog w = .ok (.func fn first cap) w := fun _ _ _ _ => rfl
    have hmk := run_make_row' (P := Try.prog) 37 4 (.bool false) 1 Try.underlying37 Try.info4 rfl .i64 .i64 n (by omega) (by omega)
    clear hn0
    go_enter Try.func44, Try.ntmps44
    go_upto_region 8 with fail
    clear hmk hmf
    obtain ⟨M, hM⟩ : ∃ M, M = w.heap.size := ⟨_, rfl⟩
    rw [← hM]
    obtain ⟨W, hW⟩ : ∃ W, W = ((((((w.alloc (.cells #[.slice (some ⟨G, 0, none⟩) n n] 35)).alloc (.cells (madeCells #[.bool false] n) 4)).alloc (.cells #[.slice (some ⟨M + 1, 0, none⟩) n n] 37)).alloc (.cells #[.slice none 0 0] 22)).alloc (.cells #[.slice none 0 0] 22)).alloc
      (.cells #[.func (.func 52) #[] #[.pointer (some ⟨M + 1 + 1, 0, none⟩), .pointer (some ⟨M + 1 + 1 + 1 + 1, 0, none⟩)]] 82)).alloc
      (.cells #[.func (.func 53) #[] #[.pointer (some ⟨M, 0, none⟩), .pointer (some ⟨M + 1 + 1, 0, none⟩), .pointer (some ⟨M + 1 + 1 + 1 + 1 + 1, 0, none⟩), .pointer (some ⟨M + 1 + 1 + 1 + 1 + 1 + 1, 0, none⟩), .pointer (some ⟨M + 1 + 1 + 1 + 1, 0, none⟩), .pointer (some ⟨M + 1 + 1 + 1, 0, none⟩)]] 83) := ⟨_, rfl⟩
    rw [← hW]
    obtain ⟨b0, b1, b2, b3, b4, b5, b6, hsz, hbel⟩ := boxes7 w M hM _ _ _ _ _ _ _ W hW
    clear hW
    have hGM : G < M := by rw [hM]; exact h.row.lt
    have hbw : BW W M G n noneSeen nx V [] [] (.slice none 0 0) (.slice none 0 0) := by
      refine ⟨b0, b2, b3, b4, b5, b6, ⟨_, b1, size_madeCells _ _, fun i hi => ?_⟩, h.row.of_block (hbel.block G hGM), fun x hx => ?_, World.ownsRow_nil _ _ _ _, World.ownsRow_nil _ _ _ _, .inl rfl, fun x _ => hnx x, hGM⟩
      · simp [madeCells, hi, Nat.mod_one, noneSeen]
      · have hg := h.below (w' := W) (by rw [← hM]; exact hbel)
        obtain ⟨A, c, e, hs⟩ := slB_of_own (h.own x hx) (fun y hy => by obtain ⟨q, hq, rfl⟩ := zs_mem hy; have := hnx x q hq; unfold I64; omega) (B := fun b => b < M ∧ b ≠ G) (fun g h1 h2 => ⟨by omega, fun e => by have := h.lt; omega⟩)
        rw [zs_len] at e
        exact ⟨A, c, e, SIntsB.go (fun a v hb ha => (World.cell?_of_block (hbel.block _ hb.1)).trans ha) (fun _ hb => hb) hs⟩
    have HBEL : Hid (BB M G w W) := Lib.hid (BB.of_below hbel (Nat.le_refl _))
    have heb : W.cell? ⟨M + 1 + 1 + 1 + 1 + 1, 0, none⟩ = some (.func (.func 52) #[] #[.pointer (some ⟨M + 1 + 1, 0, none⟩), .pointer (some ⟨M + 1 + 1 + 1 + 1, 0, none⟩)]) := cell_of_block b5 0
    have HE := Lib.hid (enterG_any M G n 0 noneSeen nx V [] [] _ _ W hbw hpos (by omega) (by simp))
    have HMW := Lib.hid hM
    clear b0 b1 b2 b3 b4 b5 b6 hsz hbel hbw hM
    go_wp2_with fail
    refine HE.out.mono ?_
    rintro e w2 ⟨rfl, ⟨vo, hw2⟩, hbb2⟩
    have HB2 : Hid (BB M G w w2) := Lib.hid (HBEL.out.trans hbb2)
    have HW2 := Lib.hid hw2
    clear heb HE HBEL hw2 hbb2
    go_wp2_with fail
    go_loopw [] (fun wr => ((∃ vo vd, BW wr M G n (mark noneSeen 0) nx V [0] [] vo vd) ∨ (∃ S R V' vo vd, BW wr M G n S R V' [] (doneL nx n) vo vd)) ∧ BB M G w wr) (fun wr => lenAt (M + 4) 0 wr)
    case atStart => exact ⟨.inl ⟨_, _, HW2.out⟩, HB2.out⟩
    case round =>
      obtain ⟨hor, hbb⟩ := hrel
      have HBB := Lib.hid hbb
      clear hbb HW2 HB2
      rcases hor with ⟨vo, vd, hw⟩ | ⟨S, R, V', vo, vd, hw⟩
      · have HW := Lib.hid hw
        obtain ⟨g, cap, hvo, hlast, hcap, hcm, -, -⟩ := own_pop (xs := []) (x := 0) hw.ownO
        subst hvo
        have hob : wr.cell? ⟨M + 1 + 1 + 1 + 1, 0, none⟩ = some (.slice (some ⟨g, 0, none⟩) 1 cap) := cell_of_block hw.obox 0
        have hrb : wr.cell? ⟨M + 1 + 1 + 1 + 1 + 1 + 1, 0, none⟩ = some (.func (.func 53) #[] #[.pointer (some ⟨M, 0, none⟩), .pointer (some ⟨M + 1 + 1, 0, none⟩), .pointer (some ⟨M + 1 + 1 + 1 + 1 + 1, 0, none⟩), .pointer (some ⟨M + 1 + 1 + 1 + 1 + 1 + 1, 0, none⟩), .pointer (some ⟨M + 1 + 1 + 1 + 1, 0, none⟩), .pointer (some ⟨M + 1 + 1 + 1, 0, none⟩)]) := cell_of_block hw.rbox 0
        have hob' : wr.cell? ⟨M + 4, 0, none⟩ = some (.slice (some ⟨g, 0, none⟩) 1 cap) := hob
        have hrb' : wr.cell? ⟨M + 6, 0, none⟩ = some (.func (.func 53) #[] #[.pointer (some ⟨M, 0, none⟩), .pointer (some ⟨M + 1 + 1, 0, none⟩), .pointer (some ⟨M + 1 + 1 + 1 + 1 + 1, 0, none⟩), .pointer (some ⟨M + 1 + 1 + 1 + 1 + 1 + 1, 0, none⟩), .pointer (some ⟨M + 1 + 1 + 1 + 1, 0, none⟩), .pointer (some ⟨M + 1 + 1 + 1, 0, none⟩)]) := hrb
        have hl0 : wr.cell? ⟨g, 0, none⟩ = some (.int .i64 0) := hlast
        have hun := unseen_mark (S := noneSeen) (b := 0) rfl hpos
        have hul := unseen_le n noneSeen
        have HG := Lib.hid (goOn_any M G n nx (by omega) hnx (n - 1) 0 0 (nx 0) (mark noneSeen 0) nx V [] [] _ _ wr.drew (hw.drewN 1) hpos (mark_same _ _) rfl (fun _ _ _ => rfl) (by omega) (by omega) (by simp; omega) (by simp; omega))
        have HL : Hid (lenAt (M + 4) 0 wr = 1) := Lib.hid (lenAt_of hob)
        clear hw hlast hun hul
        go_upto_region 10 with fail
        have hw0 : IntKind.i64.wrap (0 : Int) = 0 := by decide
        go_still_tail 7, (by kernel_rfl)
        change wpList _ _ _ _ _ wr.drew
        go_wp2_with fail
        refine HG.out.mono ?_
        rintro e w3 ⟨rfl, R', V', vo', vd', hw3, -, -, hbb3⟩
        rw [doneL_rest nx (by omega), ← doneL_out nx (by omega)] at hw3
        have HW3 := Lib.hid hw3
        have HM : Hid (lenAt (M + 4) 0 w3 < lenAt (M + 4) 0 wr) := Lib.hid (by
          rcases hw3.ownO.2 with ⟨e, _⟩ | ⟨g3, c3, cur3, e, _⟩
          · have h1 : w3.cell? ⟨M + 4, 0, none⟩ = some vo' := cell_of_block hw3.obox 0
            rw [e] at h1
            rw [HL.out, lenAt_of h1]; omega
          · have h1 : w3.cell? ⟨M + 4, 0, none⟩ = some vo' := cell_of_block hw3.obox 0
            rw [e] at h1
            rw [HL.out, lenAt_of h1]; simp)
        have HB3 : Hid (BB M G w w3) := Lib.hid (HBB.out.trans ((BB.refl M G wr).drew.trans hbb3))
        clear hw3 hbb3 hob hrb hob' hrb' hl0 HG
        go_wp2_with fail
        go_roundw
        case rel => exact ⟨.inr ⟨_, _, _, _, _, HW3.out⟩, HB3.out⟩
        case measure => exact HM.out
      · have HW := Lib.hid hw
        have h1 : wr.cell? ⟨M + 1 + 1 + 1 + 1, 0, none⟩ = some vo := cell_of_block hw.obox 0
        have h2 : wr.cell? ⟨M + 1 + 1 + 1, 0, none⟩ = some vd := cell_of_block hw.dbox 0
        have hown := own_base hw.ownD (base' := M) (by omega)
        have hvo : ∃ A c, vo = .slice A 0 c := by
          rcases hw.ownO.2 with ⟨e, _⟩ | ⟨g3, c3, cur3, e, _⟩
          · exact ⟨_, _, e⟩
          · exact ⟨_, _, e⟩
        obtain ⟨A, c, rfl⟩ := hvo
        have HO := Lib.hid hown
        clear hw hown
        go_wp2_with fail
        go_ret
        exact ⟨⟨_, rfl, by rw [← HMW.out]; exact HO.out⟩, by rw [← HMW.out]; exact HBB.out⟩
end Go.Proofs.Ytooblmiffgjmjaa
