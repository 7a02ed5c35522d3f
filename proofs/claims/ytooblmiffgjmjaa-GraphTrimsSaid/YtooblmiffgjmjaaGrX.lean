/- The example at the head of the statements of layer 5 holds. -/
import Derived.Test.YtooblmiffgjmjaaGrP
import Derived.Deep.RegionHeld3
namespace Go.Proofs.Ytooblmiffgjmjaa
open Go.ChangeShapes Go.WideShapes Go.RowKit Go.Deep
set_option linter.unusedVariables false

def exB : List BlkD := [⟨[], [], ⟨2, 0, [2, 1]⟩⟩, ⟨[], [], ⟨3, 0, []⟩⟩, ⟨[], [], ⟨1, 0, [1]⟩⟩]
theorem ex_order : orderF exB = [0, 2, 1] := by decide

set_option maxRecDepth 100000 in
set_option maxHeartbeats 4000000 in
theorem up5_any (w : World) : Calls Try.prog 9 #[] w fun e w' => e = .returned (.bool true) ∧ Below w.heap.size w w' := by
  go_enter Try.func9, Try.ntmps9
  go_upto_region 2 with fail
  obtain ⟨N, hN⟩ : ∃ N, N = w.heap.size := ⟨_, rfl⟩
  rw [← hN]
  obtain ⟨W, hW⟩ : ∃ W, W = (((w.alloc (.cells #[.int .i64 2, .int .i64 1] 3)).alloc (.cells #[.int .i64 1] 3)).alloc
    (.cells #[.int .i64 2, .int .i64 0, .slice (some ⟨N, 0, none⟩) 2 2, .int .i64 3, .int .i64 0, .slice none 0 0, .int .i64 1, .int .i64 0, .slice (some ⟨N + 1, 0, none⟩) 1 1] 44)) := ⟨_, rfl⟩
  rw [← hW]
  have hz (u : World) (o : Obj) : (u.alloc o).heap.size = u.heap.size + 1 := by simp
  have hg (u : World) (o : Obj) (k : Nat) : (u.alloc o).heap[k]? = if k = u.heap.size then some o else u.heap[k]? := by
    show (u.heap.push o)[k]? = _
    rw [Array.getElem?_push]
  have b0 : W.heap[N]? = some (.cells #[.int .i64 2, .int .i64 1] 3 (0, 0)) := by
    rw [hW]; simp only [hg, hz, ← hN]; repeat rw [if_neg (by omega)]
    exact if_pos trivial
  have b1 : W.heap[N + 1]? = some (.cells #[.int .i64 1] 3 (0, 0)) := by
    rw [hW]; simp only [hg, hz, ← hN]; repeat rw [if_neg (by omega)]
    exact if_pos trivial
  have b2 : W.heap[N + 1 + 1]? = some (.cells #[.int .i64 2, .int .i64 0, .slice (some ⟨N, 0, none⟩) 2 2, .int .i64 3, .int .i64 0, .slice none 0 0, .int .i64 1, .int .i64 0, .slice (some ⟨N + 1, 0, none⟩) 1 1] 44 (0, 0)) := by
    rw [hW]; simp only [hg, hz, ← hN]; exact if_pos trivial
  have hbel : Below N w W := by
    rw [hW]; exact (((Below.refl _ w).alloc (by omega) _).alloc (by rw [hz]; omega) _).alloc (by rw [hz, hz]; omega) _
  have hsz : W.heap.size = N + 3 := by rw [hW]; simp only [hz, ← hN]
  have HB := Lib.hid hbel
  have HN := Lib.hid hN
  have HZ := Lib.hid hsz
  have HB0 := Lib.hid b0
  have HB1 := Lib.hid b1
  have hS : ∀ w', Below W.heap.size W w' → w'.cell? ⟨N + 1 + 1, 0, none⟩ = some (.int .i64 2) ∧ w'.cell? ⟨N + 1 + 1, 1, none⟩ = some (.int .i64 0) ∧ w'.cell? ⟨N + 1 + 1, 2, none⟩ = some (.slice (some ⟨N, 0, none⟩) 2 2) ∧
      w'.cell? ⟨N + 1 + 1, 3, none⟩ = some (.int .i64 3) ∧ w'.cell? ⟨N + 1 + 1, 4, none⟩ = some (.int .i64 0) ∧ w'.cell? ⟨N + 1 + 1, 5, none⟩ = some (.slice none 0 0) ∧
      w'.cell? ⟨N + 1 + 1, 6, none⟩ = some (.int .i64 1) ∧ w'.cell? ⟨N + 1 + 1, 7, none⟩ = some (.int .i64 0) ∧ w'.cell? ⟨N + 1 + 1, 8, none⟩ = some (.slice (some ⟨N + 1, 0, none⟩) 1 1) :=
    fun w' h => by
      have hb := (h.block (N + 1 + 1) (by omega)).trans b2
      exact ⟨cell_of_block hb 0, cell_of_block hb 1, cell_of_block hb 2, cell_of_block hb 3, cell_of_block hb 4, cell_of_block hb 5, cell_of_block hb 6, cell_of_block hb 7, cell_of_block hb 8⟩
  clear hW hz hg b0 b1 b2 hbel hsz hN
  go_cut [2] (fun s2 wx => ∃ go g, s2 = .pointer (some ⟨go, 0, none⟩) ∧ Below W.heap.size W wx ∧ wx.heap[go]? = some (.cells #[.int .i64 0, .int .i64 0, .slice none 0 0, .slice (some ⟨g, 0, none⟩) 3 3] 25 (0, 0)) ∧
    wx.heap[g]? = some (.cells #[.slice none 0 0, .slice none 0 0, .int .i64 2, .int .i64 0, .slice (some ⟨N, 0, none⟩) 2 2, .slice none 0 0, .slice none 0 0, .int .i64 3, .int .i64 0, .slice none 0 0, .slice none 0 0, .slice none 0 0, .int .i64 1, .int .i64 0, .slice (some ⟨N + 1, 0, none⟩) 1 1] 49 (0, 0)))
  case first =>
    go_region_held3 (fun w' => w'.cell? ⟨N + 1 + 1, 0, none⟩ = some (.int .i64 2) ∧ w'.cell? ⟨N + 1 + 1, 1, none⟩ = some (.int .i64 0) ∧ w'.cell? ⟨N + 1 + 1, 2, none⟩ = some (.slice (some ⟨N, 0, none⟩) 2 2) ∧
      w'.cell? ⟨N + 1 + 1, 3, none⟩ = some (.int .i64 3) ∧ w'.cell? ⟨N + 1 + 1, 4, none⟩ = some (.int .i64 0) ∧ w'.cell? ⟨N + 1 + 1, 5, none⟩ = some (.slice none 0 0) ∧
      w'.cell? ⟨N + 1 + 1, 6, none⟩ = some (.int .i64 1) ∧ w'.cell? ⟨N + 1 + 1, 7, none⟩ = some (.int .i64 0) ∧ w'.cell? ⟨N + 1 + 1, 8, none⟩ = some (.slice (some ⟨N + 1, 0, none⟩) 1 1))
      (first
        | (refine hS _ ?_; repeat (first | exact Below.refl _ _ | refine Below.drew ?_ | refine Below.setCell ?_ (by first | omega | (simp; done) | (simp; omega)) _ | refine Below.alloc ?_ (by first | omega | (simp; done) | (simp; omega)) _)))
      (fail)
    · go_wp2_with fail
      go_meet
      exact ⟨_, _, rfl, ((((Below.refl _ W).alloc (Nat.le_refl _) _).alloc (by simp) _).drew), row_new3 _ _ _, row_new2 _ _ _⟩
    · go_wp2_with fail
      go_meet
      exact ⟨_, _, rfl, ((((Below.refl _ W).alloc (Nat.le_refl _) _).alloc (by simp) _).drew), row_new2 _ _ _, row_new3 _ _ _⟩
  case rest =>
    obtain ⟨go, g, rfl, hb, hf, hk⟩ := hcut
    have c0 : wc.cell? ⟨go, 0, none⟩ = some (.int .i64 0) := cell_of_block hf 0
    have c1 : wc.cell? ⟨go, 1, none⟩ = some (.int .i64 0) := cell_of_block hf 1
    have c2 : wc.cell? ⟨go, 2, none⟩ = some (.slice none 0 0) := cell_of_block hf 2
    have c3 : wc.cell? ⟨go, 3, none⟩ = some (.slice (some ⟨g, 0, none⟩) 3 3) := cell_of_block hf 3
    have hnil {α : Type} {sz : Nat} {R : World → Nat → Nat → α → Prop} : SL wc sz R none 0 [] := ⟨Nat.le_refl _, ⟨by unfold maxLen; omega, fun _ => rfl⟩, fun h => absurd h (by simp)⟩
    have e0 : SL wc 1 RInt (some ⟨N, 0, none⟩) 2 [2, 1] := by
      have hb0 := (hb.block N (by have := HZ.out; omega)).trans HB0.out
      refine ⟨by simp, ⟨by unfold maxLen; omega, fun e => by cases e⟩, fun _ => ⟨N, 0, rfl, fun i x hi => ?_⟩⟩
      match i, hi with
      | 0, hi => obtain rfl := Option.some.inj hi; exact ⟨cell_of_block hb0 0, by unfold I64; omega⟩
      | 1, hi => obtain rfl := Option.some.inj hi; exact ⟨cell_of_block hb0 1, by unfold I64; omega⟩
    have e1 : SL wc 1 RInt (some ⟨N + 1, 0, none⟩) 1 [1] := by
      have hb1 := (hb.block (N + 1) (by have := HZ.out; omega)).trans HB1.out
      exact SL.one ⟨cell_of_block hb1 0, by unfold I64; decide⟩
    have hv : VFun wc (.agg #[.int .i64 0, .int .i64 0, .slice none 0 0, .slice (some ⟨g, 0, none⟩) 3 3]) ⟨0, 0, [], exB⟩ := by
      refine ⟨none, 0, some ⟨g, 0, none⟩, 3, rfl, hnil, ⟨by simp [exB], ⟨by unfold maxLen; omega, fun e => by cases e⟩, fun _ => ⟨g, 0, rfl, fun i x hi => ?_⟩⟩, by unfold I64; decide, by unfold I64; decide⟩
      match i, hi with
      | 0, hi => obtain rfl := Option.some.inj hi; exact ⟨⟨none, 0, cell_of_block hk 0, hnil⟩, ⟨none, 0, cell_of_block hk 1, hnil⟩, ⟨cell_of_block hk 2, by unfold I64; decide⟩, ⟨cell_of_block hk 3, by unfold I64; decide⟩, ⟨some ⟨N, 0, none⟩, 2, cell_of_block hk 4, e0⟩⟩
      | 1, hi => obtain rfl := Option.some.inj hi; exact ⟨⟨none, 0, cell_of_block hk 5, hnil⟩, ⟨none, 0, cell_of_block hk 6, hnil⟩, ⟨cell_of_block hk 7, by unfold I64; decide⟩, ⟨cell_of_block hk 8, by unfold I64; decide⟩, ⟨none, 0, cell_of_block hk 9, hnil⟩⟩
      | 2, hi => obtain rfl := Option.some.inj hi; exact ⟨⟨none, 0, cell_of_block hk 10, hnil⟩, ⟨none, 0, cell_of_block hk 11, hnil⟩, ⟨cell_of_block hk 12, by unfold I64; decide⟩, ⟨cell_of_block hk 13, by unfold I64; decide⟩, ⟨some ⟨N + 1, 0, none⟩, 1, cell_of_block hk 14, e1⟩⟩
    have HO := Lib.hid (order_any ⟨0, 0, [], exB⟩ _ wc hv (by simp [exB]))
    have HBB : Hid (Below w.heap.size w wc) := Lib.hid (by rw [← HN.out]; exact HB.out.trans (hb.mono (by have := HZ.out; omega)))
    clear hb hf hk e0 e1 hv hnil hS
    go_wp2_with fail
    refine HO.out.mono ?_
    rintro e w2 ⟨⟨vo, rfl, hown⟩, hb2⟩
    have e3 : orderF exB = [0, 2, 1] := ex_order
    rw [e3] at hown
    rcases hown.2 with ⟨-, h0⟩ | ⟨g2, cap, cur, rfl, -⟩
    · simp at h0
    have o0 : w2.cell? ⟨g2, 0, none⟩ = some (.int .i64 0) := own_cell (i := 0) (x := 0) hown rfl
    have o1 : w2.cell? ⟨g2, 1, none⟩ = some (.int .i64 2) := own_cell (i := 1) (x := 2) hown rfl
    have o2 : w2.cell? ⟨g2, 2, none⟩ = some (.int .i64 1) := own_cell (i := 2) (x := 1) hown rfl
    have HBF : Hid (Below w.heap.size w w2) := Lib.hid (HBB.out.trans (hb2.mono HBB.out.size))
    clear hown hb2 HO c0 c1 c2 c3 e3
    go_wp2_with fail
    go_ret
    exact ⟨rfl, HBF.out⟩
end Go.Proofs.Ytooblmiffgjmjaa
