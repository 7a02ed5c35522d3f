/- The program's numbers: by which it is told what dominates what. -/
import Derived.Test.YtflbooopgjgkbaaRndJ
import Derived.Test.YtflbooopgjgkbaaClnJ
import Derived.Test.YtflbooopgjgkbaaDmBJ
import Derived.Test.YtflbooopgjgkbaaGrFJ
import Derived.StillTailTactics
import Derived.Deep.RegionHeld3
namespace Go.Proofs.Ytflbooopgjgkbaa
open Go.ChangeShapes Go.WideShapes Go.RowKit Go.Deep Go.Shelf
set_option linter.unusedVariables false
attribute [local go_sem] Oper.semAt_some

/-- What lies ready ahead of the first loop. -/
structure NbM (w WL : World) (n ln : Nat) (A : Option Addr) (c H G1 GM MB BB : Nat) (A2 : Option Addr) (nr : Nat → Int) : Prop where
  cN : WL.cell? ⟨w.heap.size, 0, none⟩ = some (.slice (some ⟨H, 0, none⟩) n n)
  cM : WL.cell? ⟨MB, 0, none⟩ = some (.slice (some ⟨GM, 0, none⟩) n n)
  cB : WL.cell? ⟨BB, 0, none⟩ = some (.slice A ln c)
  rN : WL.rowIs H 3 n (fun b => .int .i64 (nr b))
  r1 : WL.rowIs G1 3 n (fun _ => .int .i64 (-1))
  rM : WL.rowIs GM 3 n (fun _ => .int .i64 0)
  r2 : 0 < n → ∃ g, A2 = some ⟨g, 0, none⟩ ∧ G1 < g ∧ g < GM ∧ RowG WL g 3 n (fun _ => .int .i64 (-1))
  o1 : H < w.heap.size
  o2 : w.heap.size < G1
  o3 : G1 < GM
  o4 : GM < MB
  o5 : MB < BB
  o6 : BB < WL.heap.size
  low : Below w.heap.size w WL

theorem keepsFrom_drew {B : Nat} {W W' : World} (h : KeepsFrom B W W') : KeepsFrom B W W'.drew := ⟨h.size, h.same⟩
/-- While the numbers are given. -/
structure NbR (wr : World) (n H wN G1 GM GF D : Nat) (A2 : Option Addr) (M : Nat → Nat) (nr nm en fre : Nat → Int) : Prop where
  rN : wr.rowIs H 3 n (fun b => .int .i64 (nr b))
  r1 : wr.rowIs G1 3 n (fun b => .int .i64 (nm b))
  r2 : 0 < n → ∃ g, A2 = some ⟨g, 0, none⟩ ∧ G1 < g ∧ g < GM ∧ RowG wr g 3 n (fun b => .int .i64 (en b))
  rM : wr.rowIs GM 3 n (fun b => .int .i64 (M b : Nat))
  rF : wr.rowIs GF 3 n (fun b => .int .i64 (fre b))
  cN : wr.cell? ⟨wN, 0, none⟩ = some (.slice (some ⟨H, 0, none⟩) n n)
  cM : wr.cell? ⟨GM + 1, 0, none⟩ = some (.slice (some ⟨GM, 0, none⟩) n n)
  hD : wr.heap[D]? = some (.deferred (some []))
  o1 : H < wN
  o2 : wN < G1
  o3 : G1 < GM
  o4 : GM + 1 < D
  o5 : D < GF
section
variable {wr : World} {n H wN G1 GM GF D g : Nat} {c2 : Nat} {M : Nat → Nat} {nr nm en fre : Nat → Int}
theorem NbR.drew {A2 : Option Addr} (h : NbR wr n H wN G1 GM GF D A2 M nr nm en fre) : NbR wr.drew n H wN G1 GM GF D A2 M nr nm en fre := ⟨h.rN, h.r1, h.r2, h.rM, h.rF, h.cN, h.cM, h.hD, h.o1, h.o2, h.o3, h.o4, h.o5⟩
theorem NbR.set1 {A2 : Option Addr} (h : NbR wr n H wN G1 GM GF D A2 M nr nm en fre) (b : Nat) (x : Int) : NbR (wr.setCell ⟨G1, b, none⟩ (.int .i64 x)) n H wN G1 GM GF D A2 M nr (fun y => if y = b then x else nm y) en fre := by
  have := h.o1; have := h.o2; have := h.o3; have := h.o4; have := h.o5
  have hk : ∀ k, k ≠ G1 → (wr.setCell ⟨G1, b, none⟩ (.int .i64 x)).heap[k]? = wr.heap[k]? := fun k hk => Below.heap_setCell _ _ _ _ hk
  refine ⟨h.rN.of_block (hk H (by omega)), (h.r1.set b _).congr fun y _ => ?_, fun hp => ?_, h.rM.of_block (hk GM (by omega)), h.rF.of_block (hk GF (by omega)), (World.cell?_of_block (hk wN (by omega))).trans h.cN, (World.cell?_of_block (hk (GM + 1) (by omega))).trans h.cM, (hk D (by omega)).trans h.hD, h.o1, h.o2, h.o3, h.o4, h.o5⟩
  · by_cases e : y = b
    · rw [if_pos e, if_pos e]
    · rw [if_neg e, if_neg e]
  · obtain ⟨g, h1, h2, h3, h4⟩ := h.r2 hp
    exact ⟨g, h1, h2, h3, h4.of_block (hk g (by omega))⟩
theorem NbR.setF {A2 : Option Addr} (h : NbR wr n H wN G1 GM GF D A2 M nr nm en fre) (b : Nat) (x : Int) : NbR (wr.setCell ⟨GF, b, none⟩ (.int .i64 x)) n H wN G1 GM GF D A2 M nr nm en (fun y => if y = b then x else fre y) := by
  have := h.o1; have := h.o2; have := h.o3; have := h.o4; have := h.o5
  have hk : ∀ k, k ≠ GF → (wr.setCell ⟨GF, b, none⟩ (.int .i64 x)).heap[k]? = wr.heap[k]? := fun k hk => Below.heap_setCell _ _ _ _ hk
  refine ⟨h.rN.of_block (hk H (by omega)), h.r1.of_block (hk G1 (by omega)), fun hp => ?_, h.rM.of_block (hk GM (by omega)), (h.rF.set b _).congr fun y _ => ?_, (World.cell?_of_block (hk wN (by omega))).trans h.cN, (World.cell?_of_block (hk (GM + 1) (by omega))).trans h.cM, (hk D (by omega)).trans h.hD, h.o1, h.o2, h.o3, h.o4, h.o5⟩
  · obtain ⟨g, h1, h2, h3, h4⟩ := h.r2 hp
    exact ⟨g, h1, h2, h3, h4.of_block (hk g (by omega))⟩
  · by_cases e : y = b
    · rw [if_pos e, if_pos e]
    · rw [if_neg e, if_neg e]
theorem NbR.set2 (h : NbR wr n H wN G1 GM GF D (some ⟨g, 0, none⟩) M nr nm en fre) (b : Nat) (x : Int) (hn : 0 < n) : NbR (wr.setCell ⟨g, b, none⟩ (.int .i64 x)) n H wN G1 GM GF D (some ⟨g, 0, none⟩) M nr nm (fun y => if y = b then x else en y) fre := by
  have := h.o1; have := h.o2; have := h.o3; have := h.o4; have := h.o5
  obtain ⟨g', h1, h2, h3, h4⟩ := h.r2 hn
  obtain rfl : g = g' := by injection h1 with h1; injection h1
  have hk : ∀ k, k ≠ g → (wr.setCell ⟨g, b, none⟩ (.int .i64 x)).heap[k]? = wr.heap[k]? := fun k hk => Below.heap_setCell _ _ _ _ hk
  refine ⟨h.rN.of_block (hk H (by omega)), h.r1.of_block (hk G1 (by omega)), fun _ => ⟨g, rfl, h2, h3, (h4.set b _).congr fun y _ => ?_⟩, h.rM.of_block (hk GM (by omega)), h.rF.of_block (hk GF (by omega)), (World.cell?_of_block (hk wN (by omega))).trans h.cN, (World.cell?_of_block (hk (GM + 1) (by omega))).trans h.cM, (hk D (by omega)).trans h.hD, h.o1, h.o2, h.o3, h.o4, h.o5⟩
  by_cases e : y = b
  · rw [if_pos e, if_pos e]
  · rw [if_neg e, if_neg e]
end
def ToldNb (bs : List BlkD) (w : World) (e : Ending) (w' : World) : Prop :=
  (∃ G1 A2 c2 nm en, e = .returned (.tuple #[.slice (some ⟨G1, 0, none⟩) bs.length bs.length, .slice A2 bs.length c2]) ∧ w.heap.size ≤ G1 ∧ w'.rowIs G1 3 bs.length (fun b => .int .i64 (nm b)) ∧
    (0 < bs.length → ∃ g, A2 = some ⟨g, 0, none⟩ ∧ w.heap.size ≤ g ∧ RowG w' g 3 bs.length (fun b => .int .i64 (en b))) ∧ NumE bs nm en) ∧ Below w.heap.size w w'

set_option maxRecDepth 100000 in
set_option maxHeartbeats 4000000 in
theorem numbers_any (bs : List BlkD) (ord : Nat → Nat) (N : NearB bs (nearD bs) ord) (hn : bs.length ≤ 1000) (A : Option Addr) (c H : Nat) (w : World) (hO : SL w 1 RInt A c (zs (orderF bs))) (hN : w.rowIs H 3 bs.length (fun b => .int .i64 (nearD bs b))) :
    Calls Try.prog 47 #[.slice A (orderF bs).length c, .slice (some ⟨H, 0, none⟩) bs.length bs.length] w (ToldNb bs w) := by
  obtain ⟨n, hnb⟩ : ∃ n, bs.length = n := ⟨_, rfl⟩
  obtain ⟨ln, hln⟩ : ∃ ln, (orderF bs).length = ln := ⟨_, rfl⟩
  have HNB := Lib.hid hnb
  have HLN := Lib.hid hln
  have HN := Lib.hid N
  rw [hnb] at hN hn ⊢
  rw [hln]
  clear hnb hln N
  have HO := Lib.hid hO
  clear hO
  have hmk2 := run_make_row' (P := Try.prog) 22 3 (.int .i64 0) 8 Try.underlying22 Try.info3 rfl .i64 .i64 n (by omega) (by omega)
  refine (callsIn_wide (n := 4)).1 ?_
  refine callsIn_of_wp_marks Try.func47 rfl trivial ?_ rfl
  refine wpIn_wide.2 ?_
  simp only [Try.ntmps47, List.size_toArray, List.length_cons, List.length_nil, Nat.reduceAdd, Nat.reduceSub, Array.replicate_succ, Array.replicate_zero, List.push_toArray, List.append_toArray, List.nil_append, List.cons_append]
  go_wp2_with fail
  -- slices.Repeat
  refine (repeat_any n (w.heap.size + 1) 1 (-1) _ (by simp [World.cell?_alloc_at, go_sem]) (by omega)).mono ?_
  rintro e w1 ⟨⟨G1, rfl, hG1, hrow1⟩, hb1⟩
  have hBa : Below w.heap.size w ((w.alloc (.cells #[.slice (some ⟨H, 0, none⟩) n n] 22)).alloc (.cells #[.int .i64 (-1)] 3)) := ((Below.refl _ _).alloc (Nat.le_refl _) _).alloc (by simp) _
  have cN1 : w1.cell? ⟨w.heap.size, 0, none⟩ = some (.slice (some ⟨H, 0, none⟩) n n) := (hb1.cell (p := ⟨w.heap.size, 0, none⟩) (by simp; omega)).trans (by simp [go_sem])
  have hB1 : Below w.heap.size w w1 := hBa.trans (hb1.mono (by simp; omega))
  have hg1 : w.heap.size < G1 := by simp at hG1; omega
  have hs1 := hrow1.lt
  have hSL := sl_of_row hrow1 (by omega) (fun b _ => ⟨by decide, by decide⟩)
  clear hb1 hBa hG1
  have HR1 := Lib.hid hrow1
  have HB1 := Lib.hid hB1
  clear hrow1 hB1
  go_wp2_with fail
  -- slices.Clone
  refine (cloneInts_any ((List.range n).map fun _ => (-1)) _ _ ⟨some ⟨G1, 0, none⟩, n, by simp, by simpa using hSL⟩ (by simp; omega)).mono ?_
  rintro e w2 ⟨⟨v2, rfl, hown2⟩, hb2⟩
  clear hSL
  simp only [List.length_map, List.length_range] at hown2
  obtain ⟨A2, c2, rfl, hA2⟩ := rowG_of_own hown2 (f := fun _ => .int .i64 (-1)) (fun i hi => by simp [hi])
  clear hown2
  have cN2 : w2.cell? ⟨w.heap.size, 0, none⟩ = some (.slice (some ⟨H, 0, none⟩) n n) := (hb2.cell (p := ⟨w.heap.size, 0, none⟩) (by show w.heap.size < w1.heap.size; omega)).trans cN1
  have HR2 : Hid (w2.rowIs G1 3 n (fun _ => .int .i64 (-1))) := Lib.hid (HR1.out.of_block (hb2.block G1 hs1))
  have HB2 : Hid (Below w.heap.size w w2) := Lib.hid (HB1.out.trans (hb2.mono (by have := HB1.out.size; exact this)))
  have HA2 := Lib.hid hA2
  have hs2 := hb2.size
  clear hA2 cN1 HR1 HB1
  have HBX := Lib.hid hb2
  clear hb2
  go_wp2_with fail
  -- slices.Backward
  refine (backward_in A ln c _).mono ?_
  rintro e w3 ⟨rfl, rfl⟩
  go_wp2_with fail
  clear hmk2
  obtain ⟨GM, hGM⟩ : ∃ GM, w2.heap.size = GM := ⟨_, rfl⟩
  obtain ⟨WL, hWL⟩ : ∃ WL, (((w2.alloc (.cells (madeCells #[.int .i64 0] n) 3)).alloc (.cells #[.slice (some ⟨w2.heap.size, 0, none⟩) n n] 22)).alloc (.cells #[.slice A ln c] 22)) = WL := ⟨_, rfl⟩
  have hsz : WL.heap.size = GM + 1 + 1 + 1 := by rw [← hWL, ← hGM]; simp
  have hbL : Below w2.heap.size w2 WL := by rw [← hWL]; exact (((Below.refl _ _).alloc (Nat.le_refl _) _).alloc (by simp) _).alloc (by simp; omega) _
  have hM : NbM w WL n ln A c H G1 GM (GM + 1) (GM + 1 + 1) A2 (nearD bs) := by
    have hrm : WL.rowIs GM 3 n (fun _ => .int .i64 0) := by
      have h1 := World.rowIs_made w2 (.int .i64 0) n 3
      rw [hGM] at h1
      rw [← hWL, hGM]
      exact (h1.alloc _).alloc _
    refine ⟨?_, ?_, ?_, ?_, HR2.out.of_block (hbL.block G1 (by omega)), hrm, fun hp => ?_, hN.lt, hg1, by omega, by omega, by omega, by omega, HB2.out.trans (hbL.mono (by have := HB2.out.size; exact this))⟩
    · exact (hbL.cell (p := ⟨w.heap.size, 0, none⟩) (by show w.heap.size < w2.heap.size; omega)).trans cN2
    · rw [← hWL, ← hGM]; simp [go_sem]
    · rw [← hWL, ← hGM]; simp [go_sem]
    · exact (hN.of_block (HB2.out.block H hN.lt)).of_block (hbL.block H (by have := hN.lt; omega))
    · obtain ⟨g, h1, h2, h3⟩ := HA2.out hp
      have := h3.lt
      exact ⟨g, h1, by omega, by omega, h3.of_block (hbL.block g (by omega))⟩
  rw [hWL, hGM]
  have HM := Lib.hid hM
  clear hM hbL hWL HR2 HB2 HA2 HBX cN2 hs1 hs2 hGM
  have hzl : (zs (orderF bs)).length = ln := by rw [← HLN.out]; simp [zs]
  obtain ⟨F, hF⟩ : ∃ F : Nat → Nat, ∀ k, F k = (orderF bs)[ln - 1 - k]?.getD 0 := ⟨_, fun _ => rfl⟩
  have hen : backE (zs (orderF bs)) = fun k => #[.int .i64 ((ln : Int) - 1 - (k : Int)), .int .i64 (F k : Int)] := by
    funext k
    unfold backE
    rw [hzl, hF]
    congr 3
    simp only [zs, List.getElem?_map]
    cases (orderF bs)[ln - 1 - k]? <;> simp
  have hseq : SeqN Try.prog 70 #[.pointer (some ⟨GM + 1 + 1, 0, none⟩)] (fun k => #[.int .i64 ((ln : Int) - 1 - (k : Int)), .int .i64 (F k : Int)]) (fun b => b = GM + 1 + 1 ∨ b < w.heap.size) ln WL := by
    have h := backward_stops (GM + 1 + 1) c (fun b => b = GM + 1 + 1 ∨ b < w.heap.size) A (zs (orderF bs)) (by rw [hzl, ← HLN.out]; have := orderF_len bs; have := HNB.out; omega) WL (fun k hk => by have := HM.out.o2; have := HM.out.o3; omega)
      (by rw [hzl]; exact HM.out.cB) (SInts.keep (kept_of_below HM.out.low) HO.out) (.inl rfl) (fun b off e hp => by
        obtain ⟨b', o', e', hcs⟩ := HO.out.2.2 hp
        rw [e] at e'
        injection e' with e'
        injection e' with e1 e2
        have h1 := (hcs 0 _ (List.getElem?_eq_getElem hp)).1
        exact .inr (by rw [e1]; exact World.block_lt_of_cell? w _ h1))
    rw [hzl, hen] at h
    exact h
  clear hen hzl
  have HF := Lib.hid hF
  clear hF
  have hbig : GM < WL.heap.size := by omega
  refine rangeN (gf := 70) (lb := #[.pointer (some ⟨GM + 1 + 1, 0, none⟩)]) rfl (enters_of Try.func70 (by kernel_rfl) rfl) hseq (fun k hk => by have := HM.out.o2; have := HM.out.o3; omega) (fun _ => rfl)
    (fun k W => FrX (fun b => b = GM) WL W ∧ W.rowIs GM 3 n (fun x => .int .i64 (manyL (nearD bs) ((orderF bs).drop (ln - k)) x : Nat))) ?apart ?start ?a1 ?assign ?body ?done
  case apart =>
    rintro k W l o' ⟨h1, h2⟩ hl ⟨o, ho, hc⟩
    exact ⟨h1.grown (grownBy_putObj' W l o') (fun j e => by cases e; exact .inr hl), h2.of_block (World.putObj_heap_other (by omega))⟩
  case start =>
    intro W hW
    exact ⟨FrX.of_below hW, (HM.out.rM.of_block (hW.block GM hbig)).congr fun x _ => by rw [Nat.sub_zero, ← HLN.out, List.drop_length]; rfl⟩
  case assign =>
    intro l k W K hK
    gi_wp2
    exact hK
  case body =>
    rintro l k W ⟨hfx, hrow⟩ hk
    clear hseq
    obtain ⟨b, hb⟩ : ∃ b, F k = b := ⟨_, rfl⟩
    rw [hb]
    have hOb : (orderF bs)[ln - 1 - k]? = some b := by
      have h1 := HF.out k
      rw [hb] at h1
      rw [h1, List.getElem?_eq_getElem (by rw [HLN.out]; omega)]; simp
    have hdrop : (orderF bs).drop (ln - (k + 1)) = b :: (orderF bs).drop (ln - k) := by
      have h1 := List.drop_eq_getElem_cons (l := orderF bs) (i := ln - (k + 1)) (by rw [HLN.out]; omega)
      rw [h1, show ln - (k + 1) + 1 = ln - k by omega]
      congr 1
      have h2 := (List.getElem?_eq_some_iff.1 hOb).2
      rw [← h2]; congr 1; omega
    have hbO : b ∈ orderF bs := List.mem_iff_getElem?.2 ⟨_, hOb⟩
    have hbn : b < n := by rw [← HNB.out]; exact reachF_lt (orderF_mem.1 hbO)
    have hL : LaterC (nearD bs) (b :: (orderF bs).drop (ln - k)) := by
      rw [← hdrop]
      have h1 := later_order HN.out
      rw [← List.take_append_drop (ln - (k + 1)) (orderF bs)] at h1
      exact LaterC.tail h1
    obtain ⟨m, hm⟩ : ∃ m : Nat → Nat, ∀ x, m x = manyL (nearD bs) ((orderF bs).drop (ln - k)) x := ⟨_, fun _ => rfl⟩
    have hml : ∀ x, m x ≤ 1000 := fun x => by
      rw [hm]
      have := many_le hL.2.2.2 x
      have h2 : ((orderF bs).drop (ln - k)).length ≤ (orderF bs).length := by simp
      have := orderF_len bs; have := HNB.out; omega
    have hrow' : W.rowIs GM 3 n (fun x => .int .i64 (m x : Nat)) := hrow.congr fun x _ => by rw [hm]
    have hnew (m' : Nat → Nat) (h' : ∀ x, m' x = if nearD bs b = (x : Int) then m x + (m b + 1) else if x = b then m b + 1 else m x) (W' : World) (hr' : W'.rowIs GM 3 n (fun x => .int .i64 (m' x : Nat))) : W'.rowIs GM 3 n (fun x => .int .i64 (manyL (nearD bs) ((orderF bs).drop (ln - (k + 1))) x : Nat)) := hr'.congr fun x _ => by
      rw [h', hdrop]; simp only [manyL]; rw [hm, hm]
    have cM : W.cell? ⟨GM + 1, 0, none⟩ = some (.slice (some ⟨GM, 0, none⟩) n n) := (World.cell?_of_block (hfx.block (GM + 1) (by omega) (by simp))).trans HM.out.cM
    have cN : W.cell? ⟨w.heap.size, 0, none⟩ = some (.slice (some ⟨H, 0, none⟩) n n) := (World.cell?_of_block (hfx.block w.heap.size (by have := HM.out.o2; have := HM.out.o3; omega) (by have := HM.out.o2; have := HM.out.o3; omega))).trans HM.out.cN
    have cH : W.cell? ⟨H, b, none⟩ = some (.int .i64 (nearD bs b)) := (World.cell?_of_block (hfx.block H (by have := HM.out.o1; have := HM.out.o2; have := HM.out.o3; omega) (by have := HM.out.o1; have := HM.out.o2; have := HM.out.o3; omega))).trans (HM.out.rN.cell hbn)
    have cb := hrow'.cell hbn
    have fb := hrow'.frozen b
    obtain ⟨W1, hW1⟩ : ∃ W1, W.setCell ⟨GM, b, none⟩ (.int .i64 ((m b : Int) + 1)) = W1 := ⟨_, rfl⟩
    have n1 : w.heap.size ≠ GM := by have := HM.out.o2; have := HM.out.o3; omega
    have n2 : H ≠ GM := by have := HM.out.o1; have := HM.out.o2; have := HM.out.o3; omega
    have hrow1 : W1.rowIs GM 3 n (fun x => .int .i64 ((if x = b then m b + 1 else m x : Nat) : Int)) := by
      rw [← hW1]; exact (hrow'.set b _).congr fun x _ => by by_cases e : x = b; rw [if_pos e, if_pos e]; rfl; rw [if_neg e, if_neg e]
    have dM : W1.cell? ⟨GM + 1, 0, none⟩ = some (.slice (some ⟨GM, 0, none⟩) n n) := by rw [← hW1]; exact (World.cell?_setCell_other _ _ _ _ (by simp)).trans cM
    have dN : W1.cell? ⟨w.heap.size, 0, none⟩ = some (.slice (some ⟨H, 0, none⟩) n n) := by rw [← hW1]; exact (World.cell?_setCell_other _ _ _ _ (by intro e; injection e with e1; exact n1 e1.symm)).trans cN
    have dH : W1.cell? ⟨H, b, none⟩ = some (.int .i64 (nearD bs b)) := by rw [← hW1]; exact (World.cell?_setCell_other _ _ _ _ (by intro e; injection e with e1; exact n2 e1.symm)).trans cH
    have hmb := hml b
    have HROW1 := Lib.hid hrow1
    have HNEW := Lib.hid hnew
    have HML := Lib.hid hml
    have HL := Lib.hid hL
    have HFX := Lib.hid hfx
    have HHM := Lib.hid (And.intro hm (And.intro hdrop hOb))
    clear hrow hrow' hrow1 hnew hml hL hfx hm hdrop hOb hbO
    have fx1 : Hid (FrX (fun b => b = GM) WL W1) := Lib.hid (by rw [← hW1]; exact HFX.out.setCell (.inl rfl) _)
    have kf1 : Hid (KeepsFrom WL.heap.size W W1) := Lib.hid (by rw [← hW1]; exact (KeepsOthers.setCell _ _ _).from _)
    have kx1 : Hid (KeepX (fun b => b = GM + 1 + 1 ∨ b < w.heap.size) W W1) := Lib.hid (by
      rw [← hW1]; intro j hj; exact Below.heap_setCell _ _ _ _ (by have := HM.out.o2; have := HM.out.o3; show j ≠ GM; omega))
    by_cases hneg : nearD bs b < 0
    · gi_wp2_with (rw [hW1])
      exact ⟨kf1.out, kx1.out, fx1.out, HNEW.out (fun x => if x = b then m b + 1 else m x) (fun x => by rw [if_neg (show ¬ nearD bs b = (x : Int) by omega)]) _ HROW1.out⟩
    · obtain ⟨q, hq⟩ : ∃ q : Nat, nearD bs b = (q : Int) := ⟨(nearD bs b).toNat, by omega⟩
      have hnr := near_of HN.out (b := b) (p := q) (by have := HNB.out; omega) hq
      have hqn : q < n := by have := hnr.1; have := HNB.out; omega
      have hqb : q ≠ b := hnr.2.1
      have d1 := HROW1.out.cell hbn
      have d2 := HROW1.out.cell hqn
      have d3 := HROW1.out.frozen q
      simp only [if_true, if_neg hqb] at d1 d2
      have hmq := HML.out q
      clear hnr
      gi_wp2_with (rw [hW1])
      rw [hq] at dH
      have hS0 : W1.drew.cell? ⟨GM + 1, 0, none⟩ = some (.slice (some ⟨GM, 0, none⟩) n n) ∧ W1.drew.cell? ⟨w.heap.size, 0, none⟩ = some (.slice (some ⟨H, 0, none⟩) n n) ∧ W1.drew.cell? ⟨H, b, none⟩ = some (.int .i64 (q : Int)) ∧
          W1.drew.cell? ⟨GM, b, none⟩ = some (.int .i64 ((m b + 1 : Nat) : Int)) ∧ W1.drew.cell? ⟨GM, q, none⟩ = some (.int .i64 (m q : Int)) := ⟨dM, dN, dH, d1, d2⟩
      clear cM cN cH cb fb dM dN dH d1 d2 hW1
      refine wpIn_round_last (L := 13) (S := fun w' : World => w'.cell? ⟨GM + 1, 0, none⟩ = some (.slice (some ⟨GM, 0, none⟩) n n) ∧ w'.cell? ⟨w.heap.size, 0, none⟩ = some (.slice (some ⟨H, 0, none⟩) n n) ∧ w'.cell? ⟨H, b, none⟩ = some (.int .i64 (q : Int)) ∧
          w'.cell? ⟨GM, b, none⟩ = some (.int .i64 ((m b + 1 : Nat) : Int)) ∧ w'.cell? ⟨GM, q, none⟩ = some (.int .i64 (m q : Int))) (by kernel_rfl) (by rfl) (by kernel_rfl) (fun ⟨_, _, h⟩ => h) (by kernel_rfl) (by kernel_rfl) ?_
      change wpAnyH _ _ _ _ _ _ _ _ (World.drew _)
      refine takeH (i := 0) (some 37) (v := ?_) rfl (by kernel_rfl) (by kernel_rfl) (by kernel_rfl) (fun _ _ _ h => h) hS0 (fun o ho => ?_) ?_
      rotate_left
      · simp only [List.getElem?_toArray, List.getElem?_cons_zero, Option.some.injEq] at ho; subst ho; refine Or.inl ⟨by rfl, fun w' hSw => ?_⟩; (try dsimp only at hSw); go_simp; try with_reducible rfl
      simp only [Act.put, List.setIfInBounds_toArray, List.set_cons_zero, List.set_cons_succ]
      refine takeH (i := 1) (some 38) (v := ?_) rfl (by kernel_rfl) (by kernel_rfl) (by kernel_rfl) (fun _ _ _ h => h) hS0 (fun o ho => ?_) ?_
      rotate_left
      · simp only [List.getElem?_toArray, List.getElem?_cons_zero, List.getElem?_cons_succ, Option.some.injEq] at ho; subst ho; refine Or.inl ⟨by rfl, fun w' hSw => ?_⟩; (try dsimp only at hSw); go_simp; try with_reducible rfl
      simp only [Act.put, List.setIfInBounds_toArray, List.set_cons_zero, List.set_cons_succ]
      refine takeH (i := 2) (some 39) (v := ?_) rfl (by kernel_rfl) (by kernel_rfl) (by kernel_rfl) (fun _ _ _ h => h) hS0 (fun o ho => ?_) ?_
      rotate_left
      · simp only [List.getElem?_toArray, List.getElem?_cons_zero, List.getElem?_cons_succ, Option.some.injEq] at ho; subst ho; refine Or.inl ⟨by rfl, fun w' hSw => ?_⟩; (try dsimp only at hSw); go_simp; try with_reducible rfl
      simp only [Act.put, List.setIfInBounds_toArray, List.set_cons_zero, List.set_cons_succ]
      refine takeH (i := 3) (some 40) (v := ?_) rfl (by kernel_rfl) (by kernel_rfl) (by kernel_rfl) (fun _ _ _ h => h) hS0 (fun o ho => ?_) ?_
      rotate_left
      · simp only [List.getElem?_toArray, List.getElem?_cons_zero, List.getElem?_cons_succ, Option.some.injEq] at ho; subst ho; refine Or.inl ⟨by rfl, fun w' hSw => ?_⟩; (try dsimp only at hSw); go_simp; try with_reducible rfl
      simp only [Act.put, List.setIfInBounds_toArray, List.set_cons_zero, List.set_cons_succ]
      refine takeH (i := 4) (some 41) (v := ?_) rfl (by kernel_rfl) (by kernel_rfl) (by kernel_rfl) (fun _ _ _ h => h) hS0 (fun o ho => ?_) ?_
      rotate_left
      · simp only [List.getElem?_toArray, List.getElem?_cons_zero, List.getElem?_cons_succ, Option.some.injEq] at ho; subst ho; refine Or.inl ⟨by rfl, fun w' hSw => ?_⟩; (try dsimp only at hSw); go_simp; try with_reducible rfl
      simp only [Act.put, List.setIfInBounds_toArray, List.set_cons_zero, List.set_cons_succ]
      refine takeH (i := 5) (some 42) (v := ?_) rfl (by kernel_rfl) (by kernel_rfl) (by kernel_rfl) (fun _ _ _ h => h) hS0 (fun o ho => ?_) ?_
      rotate_left
      · simp only [List.getElem?_toArray, List.getElem?_cons_zero, List.getElem?_cons_succ, Option.some.injEq] at ho; subst ho; refine Or.inl ⟨by rfl, fun w' hSw => ?_⟩; (try dsimp only at hSw); go_simp; try with_reducible rfl
      simp only [Act.put, List.setIfInBounds_toArray, List.set_cons_zero, List.set_cons_succ]
      refine takeH (i := 6) (some 43) (v := ?_) rfl (by kernel_rfl) (by kernel_rfl) (by kernel_rfl) (fun _ _ _ h => h) hS0 (fun o ho => ?_) ?_
      rotate_left
      · simp only [List.getElem?_toArray, List.getElem?_cons_zero, List.getElem?_cons_succ, Option.some.injEq] at ho; subst ho; refine Or.inl ⟨by rfl, fun w' hSw => ?_⟩; (try dsimp only at hSw); go_simp; try with_reducible rfl
      simp only [Act.put, List.setIfInBounds_toArray, List.set_cons_zero, List.set_cons_succ]
      refine takeH (i := 7) (some 44) (v := ?_) rfl (by kernel_rfl) (by kernel_rfl) (by kernel_rfl) (fun _ _ _ h => h) hS0 (fun o ho => ?_) ?_
      rotate_left
      · simp only [List.getElem?_toArray, List.getElem?_cons_zero, List.getElem?_cons_succ, Option.some.injEq] at ho; subst ho; refine Or.inl ⟨by rfl, fun w' hSw => ?_⟩; (try dsimp only at hSw); go_simp; try with_reducible rfl
      simp only [Act.put, List.setIfInBounds_toArray, List.set_cons_zero, List.set_cons_succ]
      refine takeH (i := 8) (some 45) (v := ?_) rfl (by kernel_rfl) (by kernel_rfl) (by kernel_rfl) (fun _ _ _ h => h) hS0 (fun o ho => ?_) ?_
      rotate_left
      · simp only [List.getElem?_toArray, List.getElem?_cons_zero, List.getElem?_cons_succ, Option.some.injEq] at ho; subst ho; refine Or.inl ⟨by rfl, fun w' hSw => ?_⟩; (try dsimp only at hSw); go_simp; try with_reducible rfl
      simp only [Act.put, List.setIfInBounds_toArray, List.set_cons_zero, List.set_cons_succ]
      refine takeH (i := 9) (some 46) (v := ?_) rfl (by kernel_rfl) (by kernel_rfl) (by kernel_rfl) (fun _ _ _ h => h) hS0 (fun o ho => ?_) ?_
      rotate_left
      · simp only [List.getElem?_toArray, List.getElem?_cons_zero, List.getElem?_cons_succ, Option.some.injEq] at ho; subst ho; refine Or.inl ⟨by rfl, fun w' hSw => ?_⟩; (try dsimp only at hSw); go_simp; try with_reducible rfl
      simp only [Act.put, List.setIfInBounds_toArray, List.set_cons_zero, List.set_cons_succ]
      refine takeH (i := 10) (some 47) (v := ?_) rfl (by kernel_rfl) (by kernel_rfl) (by kernel_rfl) (fun _ _ _ h => h) hS0 (fun o ho => ?_) ?_
      rotate_left
      · simp only [List.getElem?_toArray, List.getElem?_cons_zero, List.getElem?_cons_succ, Option.some.injEq] at ho; subst ho; refine Or.inl ⟨by rfl, fun w' hSw => ?_⟩; (try dsimp only at hSw); go_simp; try with_reducible rfl
      simp only [Act.put, List.setIfInBounds_toArray, List.set_cons_zero, List.set_cons_succ]
      refine takeH (i := 11) (some 48) (v := ?_) rfl (by kernel_rfl) (by kernel_rfl) (by kernel_rfl) (fun _ _ _ h => h) hS0 (fun o ho => ?_) ?_
      rotate_left
      · simp only [List.getElem?_toArray, List.getElem?_cons_zero, List.getElem?_cons_succ, Option.some.injEq] at ho; subst ho; refine Or.inl ⟨by rfl, fun w' hSw => ?_⟩; (try dsimp only at hSw); go_simp; try with_reducible rfl
      simp only [Act.put, List.setIfInBounds_toArray, List.set_cons_zero, List.set_cons_succ]
      refine takeH (i := 12) (some 49) (v := ?_) rfl (by kernel_rfl) (by kernel_rfl) (by kernel_rfl) (fun _ _ _ h => h) hS0 (fun o ho => ?_) ?_
      rotate_left
      · simp only [List.getElem?_toArray, List.getElem?_cons_zero, List.getElem?_cons_succ, Option.some.injEq] at ho; subst ho; refine Or.inl ⟨by rfl, fun w' hSw => ?_⟩; (try dsimp only at hSw); go_simp; try with_reducible rfl
      simp only [Act.put, List.setIfInBounds_toArray, List.set_cons_zero, List.set_cons_succ]
      refine wpAnyH_done (by kernel_rfl) ?_ _
      refine lastH (by decide) (fun o ho K' hK => ?_)
      simp only [List.getElem?_toArray, List.getElem?_cons_zero, List.getElem?_cons_succ, Option.some.injEq] at ho; subst ho
      have hfq : W1.drew.frozen? ⟨GM, q, none⟩ = false := d3
      have hcq := hS0.2.2.2.2
      go_simp
      refine hK.out _ _ ?_
      clear hK K'
      have e1 : IntKind.i64.wrap ((m q : Int) + ((m b : Int) + 1)) = ((m q + (m b + 1) : Nat) : Int) := by rw [Go.IntWalk.i64_in _ (by omega)]; omega
      rw [e1]
      have hX : ∀ k, (k = GM + 1 + 1 ∨ k < w.heap.size) → k ≠ GM := fun k hk => by have := HM.out.o2; have := HM.out.o3; omega
      refine ⟨kf1.out.trans (keepsFrom_drew ((KeepsOthers.setCell W1 ⟨GM, q, none⟩ _).from _)), keepX_t kx1.out (fun j hj => Below.heap_setCell _ _ _ _ (hX j hj)), fx1.out.trans ((FrX.setCell (X := fun b => b = GM) (FrX.refl _ W1) (p := ⟨GM, q, none⟩) (.inl rfl) _).drew), HNEW.out (fun x => if x = q then m q + (m b + 1) else if x = b then m b + 1 else m x) (fun x => ?_) _ ((HROW1.out.set q _).congr fun x _ => ?_)⟩
      · by_cases e : x = q
        · subst e; rw [if_pos rfl, if_pos hq]
        · rw [if_neg e, if_neg (show ¬ nearD bs b = (x : Int) by omega)]
      · by_cases e : x = q
        · rw [if_pos e, if_pos e]
        · rw [if_neg e, if_neg e]
  case done =>
    rintro D W hD ⟨hfx, hrow⟩ hK
    clear hseq
    have hmk2 := run_make_row' (P := Try.prog) 22 3 (.int .i64 0) 8 Try.underlying22 Try.info3 rfl .i64 .i64 n (by omega) (by omega)
    have cN : W.cell? ⟨w.heap.size, 0, none⟩ = some (.slice (some ⟨H, 0, none⟩) n n) := (World.cell?_of_block (hfx.block w.heap.size (by have := HM.out.o2; have := HM.out.o3; omega) (by have := HM.out.o2; have := HM.out.o3; omega))).trans HM.out.cN
    have HFX := Lib.hid hfx
    have HROW := Lib.hid hrow
    have HHK := Lib.hid hK
    clear hfx hrow hK
    go_wp2_with fail
    clear hmk2
    obtain ⟨WF, hWF⟩ : ∃ WF, W.alloc (.cells (madeCells #[.int .i64 0] n) 3) = WF := ⟨_, rfl⟩
    obtain ⟨GF, hGF⟩ : ∃ GF, W.heap.size = GF := ⟨_, rfl⟩
    have hbF : Below GF W WF := by rw [← hWF, ← hGF]; exact (Below.refl _ _).alloc (Nat.le_refl _) _
    have hDW : D < W.heap.size := (Array.getElem?_eq_some_iff.1 HHK.out).1
    have o2 := HM.out.o2; have o3 := HM.out.o3; have o1 := HM.out.o1
    have hR0 : NbR WF n H w.heap.size G1 GM GF D A2 (manyL (nearD bs) (orderF bs)) (nearD bs) (fun _ => -1) (fun _ => -1) (fun _ => 0) := by
      have hk : ∀ k, k < WL.heap.size → k ≠ GM → WF.heap[k]? = WL.heap[k]? := fun k h1 h2 => (hbF.block k (by have := HFX.out.size; omega)).trans (HFX.out.block k h1 h2)
      refine ⟨HM.out.rN.of_block (hk H (by omega) (by omega)), HM.out.r1.of_block (hk G1 (by omega) (by omega)), fun hp => ?_, (HROW.out.of_block (hbF.block GM (by have := HFX.out.size; omega))).congr fun x _ => by rw [Nat.sub_self]; rfl, ?_,
        (World.cell?_of_block (hk w.heap.size (by omega) (by omega))).trans HM.out.cN, (World.cell?_of_block (hk (GM + 1) (by omega) (by omega))).trans HM.out.cM, (hbF.block D (by omega)).trans HHK.out, o1, o2, o3, by omega, by omega⟩
      · obtain ⟨g, h1, h2, h3, h4⟩ := HM.out.r2 hp
        exact ⟨g, h1, h2, h3, h4.of_block (hk g (by omega) (by omega))⟩
      · rw [← hWF, ← hGF]; exact World.rowIs_made W (.int .i64 0) n 3
    have hBF : Below w.heap.size w WF := (HM.out.low.trans (HFX.out.below (by omega) (fun k hk => by have : k = GM := hk; omega))).trans (hbF.mono (by have := HFX.out.size; omega))
    rw [hWF, hGF]
    have HR0 := Lib.hid hR0
    have HBF := Lib.hid hBF
    clear hR0 hBF hbF hWF hGF HROW HHK HFX cN o1 o2 o3 hD hDW HF HM hbig hsz
    obtain ⟨M, hM⟩ : ∃ M, manyL (nearD bs) (orderF bs) = M := ⟨_, rfl⟩
    rw [hM] at HR0
    have HMM := Lib.hid hM
    clear hM
    have hln2 : ln ≤ 1000 := by rw [← HLN.out]; have := orderF_len bs; have := HNB.out; omega
    go_loopw [55] (fun i wr => ∃ (k : Nat) (nm en fre : Nat → Int), k ≤ ln ∧ i = .int .i64 k ∧ NumI (nearD bs) M ((orderF bs).take k) nm en fre ∧ NbR wr n H w.heap.size G1 GM GF D A2 M (nearD bs) nm en fre ∧ Below w.heap.size w wr) (fun i _ => ln - (intOf i).toNat)
    case atStart => exact ⟨0, _, _, _, Nat.zero_le _, rfl, NumI.start _ _ _, HR0.out, HBF.out⟩
    case round =>
      clear HR0 HBF
      obtain ⟨k, nm, en, fre, hk, rfl, hI, hR, hB⟩ := hrel
      by_cases hlt : k < ln
      · obtain ⟨b, hOb⟩ : ∃ b, (orderF bs)[k]? = some b := ⟨_, List.getElem?_eq_getElem (by rw [HLN.out]; exact hlt)⟩
        have hbO : b ∈ orderF bs := List.mem_iff_getElem?.2 ⟨_, hOb⟩
        have hbn : b < n := by rw [← HNB.out]; exact reachF_lt (orderF_mem.1 hbO)
        have hsp : orderF bs = (orderF bs).take k ++ b :: (orderF bs).drop (k + 1) := by
          have h1 := List.drop_eq_getElem_cons (l := orderF bs) (i := k) (by rw [HLN.out]; exact hlt)
          rw [(List.getElem?_eq_some_iff.1 hOb).2] at h1
          rw [← h1, List.take_append_drop]
        have hLt := later_order HN.out
        have hMb : M b ≤ 1000 := by rw [← HMM.out]; have := many_le hLt b; have := orderF_len bs; have := HNB.out; omega
        have hnot : b ∉ (orderF bs).take k := by
          have h1 := orderF_nodup bs
          rw [hsp] at h1
          intro h2
          exact (List.nodup_append.1 h1).2.2 b h2 b (by simp) rfl
        have hno : ∀ c ∈ (orderF bs).take k ++ [b], nearD bs c ≠ (b : Int) := by
          rw [hsp] at hLt
          intro c hc
          rcases List.mem_append.1 hc with hc | hc
          · exact (LaterC.front hLt c hc b (by simp)).1
          · rw [List.mem_singleton.1 hc]; exact (LaterC.tail hLt).1
        have htk : (orderF bs).take (k + 1) = (orderF bs).take k ++ [b] := take_succ_of hOb
        obtain ⟨g, rfl, -, -, -⟩ := hR.r2 (by omega)
        obtain ⟨bo, oo, rfl, hcs⟩ := HO.out.2.2 (by rw [zs_len, HLN.out]; omega)
        have cO : wr.cell? ⟨bo, oo + k, none⟩ = some (.int .i64 (b : Int)) := by
          have h1 := (hcs k (b : Int) (by unfold zs; rw [List.getElem?_map, hOb]; rfl)).1
          rw [Nat.mul_one] at h1
          exact (hB.cell (p := ⟨bo, oo + k, none⟩) (World.block_lt_of_cell? w _ h1)).trans h1
        clear hcs
        have cN := hR.cN
        have cH := hR.rN.cell hbn
        have f1 := hR.r1.frozen b
        have c0 := hR.r1.cell hbn
        have HI := Lib.hid hI
        have HR := Lib.hid hR
        have HB := Lib.hid hB
        have HX := Lib.hid (And.intro hsp (And.intro hnot (And.intro hno htk)))
        clear hsp hnot hno htk hLt hOb hbO hI hR hB
        by_cases hneg : nearD bs b < 0
        · obtain ⟨W1, hW1⟩ : ∃ W1, wr.setCell ⟨G1, b, none⟩ (.int .i64 0) = W1 := ⟨_, rfl⟩
          have R1 := HR.out.set1 b 0
          rw [hW1] at R1
          obtain ⟨W2, hW2⟩ : ∃ W2, W1.setCell ⟨GF, b, none⟩ (.int .i64 1) = W2 := ⟨_, rfl⟩
          have R2 := R1.setF b 1
          rw [hW2] at R2
          have c1 : W1.cell? ⟨G1, b, none⟩ = some (.int .i64 0) := by have h1 := R1.r1.cell hbn; simpa using h1
          have cF := R1.rF.cell hbn
          have fF := R1.rF.frozen b
          have hR1 := Lib.hid R1
          have hR2 := Lib.hid R2
          clear R1 R2
          go_wp2_with (first | rw [hW1] | rw [hW2])
          clear c1 cF fF c0 f1 cN cH cO
          have e1 : W2.cell? ⟨G1, b, none⟩ = some (.int .i64 0) := by have h1 := hR2.out.r1.cell hbn; simpa using h1
          have e2 := hR2.out.cM
          have e3 := hR2.out.rM.cell hbn
          obtain ⟨g', hg1', hg2', hg3', hg4'⟩ := hR2.out.r2 (by omega)
          obtain rfl : g = g' := by injection hg1' with h1; injection h1
          have e4 := hg4'.frozen b
          have e5 := hg4'.cell hbn
          clear hg1' hg2' hg3' hg4'
          have hS0 : W2.drew.cell? ⟨G1, b, none⟩ = some (.int .i64 0) ∧ W2.drew.cell? ⟨GM + 1, 0, none⟩ = some (.slice (some ⟨GM, 0, none⟩) n n) ∧ W2.drew.cell? ⟨GM, b, none⟩ = some (.int .i64 (M b : Int)) := ⟨e1, e2, e3⟩
          have hfq : W2.drew.frozen? ⟨g, b, none⟩ = false := e4
          have hcq : W2.drew.cell? ⟨g, b, none⟩ = _ := e5
          clear e1 e2 e3 e4 e5
          refine wp_onlyN ?_
          refine wp_region_last (L := 12) (S := fun w' : World => w'.cell? ⟨G1, b, none⟩ = some (.int .i64 0) ∧ w'.cell? ⟨GM + 1, 0, none⟩ = some (.slice (some ⟨GM, 0, none⟩) n n) ∧ w'.cell? ⟨GM, b, none⟩ = some (.int .i64 (M b : Int))) (by kernel_rfl) (by rfl) (by kernel_rfl) (by kernel_rfl) ?_
          change wpAnyH _ _ _ _ _ _ _ _ (World.drew _)
          refine takeH (i := 0) (some 93) (v := ?_) rfl (by kernel_rfl) (by kernel_rfl) (by kernel_rfl) (fun _ _ _ h => h) hS0 (fun o ho => ?_) ?_
          rotate_left
          · simp only [List.getElem?_toArray, List.getElem?_cons_zero, Option.some.injEq] at ho; subst ho; refine Or.inl ⟨by rfl, fun w' hSw => ?_⟩; (try dsimp only at hSw); go_simp; try with_reducible rfl
          simp only [Act.put, List.setIfInBounds_toArray, List.set_cons_zero, List.set_cons_succ]
          refine takeH (i := 1) (some 94) (v := ?_) rfl (by kernel_rfl) (by kernel_rfl) (by kernel_rfl) (fun _ _ _ h => h) hS0 (fun o ho => ?_) ?_
          rotate_left
          · simp only [List.getElem?_toArray, List.getElem?_cons_zero, List.getElem?_cons_succ, Option.some.injEq] at ho; subst ho; refine Or.inl ⟨by rfl, fun w' hSw => ?_⟩; (try dsimp only at hSw); go_simp; try with_reducible rfl
          simp only [Act.put, List.setIfInBounds_toArray, List.set_cons_zero, List.set_cons_succ]
          refine takeH (i := 2) (some 95) (v := ?_) rfl (by kernel_rfl) (by kernel_rfl) (by kernel_rfl) (fun _ _ _ h => h) hS0 (fun o ho => ?_) ?_
          rotate_left
          · simp only [List.getElem?_toArray, List.getElem?_cons_zero, List.getElem?_cons_succ, Option.some.injEq] at ho; subst ho; refine Or.inl ⟨by rfl, fun w' hSw => ?_⟩; (try dsimp only at hSw); go_simp; try with_reducible rfl
          simp only [Act.put, List.setIfInBounds_toArray, List.set_cons_zero, List.set_cons_succ]
          refine takeH (i := 3) (some 96) (v := ?_) rfl (by kernel_rfl) (by kernel_rfl) (by kernel_rfl) (fun _ _ _ h => h) hS0 (fun o ho => ?_) ?_
          rotate_left
          · simp only [List.getElem?_toArray, List.getElem?_cons_zero, List.getElem?_cons_succ, Option.some.injEq] at ho; subst ho; refine Or.inl ⟨by rfl, fun w' hSw => ?_⟩; (try dsimp only at hSw); go_simp; try with_reducible rfl
          simp only [Act.put, List.setIfInBounds_toArray, List.set_cons_zero, List.set_cons_succ]
          refine takeH (i := 4) (some 97) (v := ?_) rfl (by kernel_rfl) (by kernel_rfl) (by kernel_rfl) (fun _ _ _ h => h) hS0 (fun o ho => ?_) ?_
          rotate_left
          · simp only [List.getElem?_toArray, List.getElem?_cons_zero, List.getElem?_cons_succ, Option.some.injEq] at ho; subst ho; refine Or.inl ⟨by rfl, fun w' hSw => ?_⟩; (try dsimp only at hSw); go_simp; try with_reducible rfl
          simp only [Act.put, List.setIfInBounds_toArray, List.set_cons_zero, List.set_cons_succ]
          refine takeH (i := 5) (some 98) (v := ?_) rfl (by kernel_rfl) (by kernel_rfl) (by kernel_rfl) (fun _ _ _ h => h) hS0 (fun o ho => ?_) ?_
          rotate_left
          · simp only [List.getElem?_toArray, List.getElem?_cons_zero, List.getElem?_cons_succ, Option.some.injEq] at ho; subst ho; refine Or.inl ⟨by rfl, fun w' hSw => ?_⟩; (try dsimp only at hSw); go_simp; try with_reducible rfl
          simp only [Act.put, List.setIfInBounds_toArray, List.set_cons_zero, List.set_cons_succ]
          refine takeH (i := 6) (some 99) (v := ?_) rfl (by kernel_rfl) (by kernel_rfl) (by kernel_rfl) (fun _ _ _ h => h) hS0 (fun o ho => ?_) ?_
          rotate_left
          · simp only [List.getElem?_toArray, List.getElem?_cons_zero, List.getElem?_cons_succ, Option.some.injEq] at ho; subst ho; refine Or.inl ⟨by rfl, fun w' hSw => ?_⟩; (try dsimp only at hSw); go_simp; try with_reducible rfl
          simp only [Act.put, List.setIfInBounds_toArray, List.set_cons_zero, List.set_cons_succ]
          refine takeH (i := 7) (some 100) (v := ?_) rfl (by kernel_rfl) (by kernel_rfl) (by kernel_rfl) (fun _ _ _ h => h) hS0 (fun o ho => ?_) ?_
          rotate_left
          · simp only [List.getElem?_toArray, List.getElem?_cons_zero, List.getElem?_cons_succ, Option.some.injEq] at ho; subst ho; refine Or.inl ⟨by rfl, fun w' hSw => ?_⟩; (try dsimp only at hSw); go_simp; try with_reducible rfl
          simp only [Act.put, List.setIfInBounds_toArray, List.set_cons_zero, List.set_cons_succ]
          refine takeH (i := 8) (some 101) (v := ?_) rfl (by kernel_rfl) (by kernel_rfl) (by kernel_rfl) (fun _ _ _ h => h) hS0 (fun o ho => ?_) ?_
          rotate_left
          · simp only [List.getElem?_toArray, List.getElem?_cons_zero, List.getElem?_cons_succ, Option.some.injEq] at ho; subst ho; refine Or.inl ⟨by rfl, fun w' hSw => ?_⟩; (try dsimp only at hSw); go_simp; try with_reducible rfl
          simp only [Act.put, List.setIfInBounds_toArray, List.set_cons_zero, List.set_cons_succ]
          refine takeH (i := 9) (some 102) (v := ?_) rfl (by kernel_rfl) (by kernel_rfl) (by kernel_rfl) (fun _ _ _ h => h) hS0 (fun o ho => ?_) ?_
          rotate_left
          · simp only [List.getElem?_toArray, List.getElem?_cons_zero, List.getElem?_cons_succ, Option.some.injEq] at ho; subst ho; refine Or.inl ⟨by rfl, fun w' hSw => ?_⟩; (try dsimp only at hSw); go_simp; try with_reducible rfl
          simp only [Act.put, List.setIfInBounds_toArray, List.set_cons_zero, List.set_cons_succ]
          refine takeH (i := 10) (some 103) (v := ?_) rfl (by kernel_rfl) (by kernel_rfl) (by kernel_rfl) (fun _ _ _ h => h) hS0 (fun o ho => ?_) ?_
          rotate_left
          · simp only [List.getElem?_toArray, List.getElem?_cons_zero, List.getElem?_cons_succ, Option.some.injEq] at ho; subst ho; refine Or.inl ⟨by rfl, fun w' hSw => ?_⟩; (try dsimp only at hSw); go_simp; try with_reducible rfl
          simp only [Act.put, List.setIfInBounds_toArray, List.set_cons_zero, List.set_cons_succ]
          refine takeH (i := 11) (some 104) (v := ?_) rfl (by kernel_rfl) (by kernel_rfl) (by kernel_rfl) (fun _ _ _ h => h) hS0 (fun o ho => ?_) ?_
          rotate_left
          · simp only [List.getElem?_toArray, List.getElem?_cons_zero, List.getElem?_cons_succ, Option.some.injEq] at ho; subst ho; refine Or.inl ⟨by rfl, fun w' hSw => ?_⟩; (try dsimp only at hSw); go_simp; try with_reducible rfl
          simp only [Act.put, List.setIfInBounds_toArray, List.set_cons_zero, List.set_cons_succ]
          refine wpAnyH_done (by kernel_rfl) ?_ _
          refine lastH (by decide) (fun o ho K' hK => ?_)
          simp only [List.getElem?_toArray, List.getElem?_cons_zero, List.getElem?_cons_succ, Option.some.injEq] at ho; subst ho
          go_simp
          refine hK.out _ _ ?_
          simp only [onlyN]
          clear hK K'
          go_wp2_with fail
          go_roundw
          case rel =>
            obtain ⟨-, hnot, hno, htk⟩ := HX.out
            refine ⟨k + 1, _, _, _, by omega, by go_num, ?_, (hR2.out.set2 b (M b : Int) (by omega)).drew, ?_⟩
            · rw [htk]; exact HI.out.first hnot hneg hno (fun _ => rfl) (fun _ => rfl) (fun _ _ => rfl)
            · have h1 : Below w.heap.size w W1 := by rw [← hW1]; exact HB.out.setCell (p := ⟨G1, b, none⟩) (by have := HR.out.o2; show w.heap.size ≤ G1; omega) _
              have h2 : Below w.heap.size w W2 := by rw [← hW2]; exact h1.setCell (p := ⟨GF, b, none⟩) (by have := HR.out.o2; have := HR.out.o3; have := HR.out.o4; have := HR.out.o5; show w.heap.size ≤ GF; omega) _
              have hgr : w.heap.size ≤ g := by
                obtain ⟨g', h1, h2, -, -⟩ := HR.out.r2 (by omega)
                obtain rfl : g = g' := by injection h1 with h1; injection h1
                have := HR.out.o2; omega
              exact (h2.setCell (p := ⟨g, b, none⟩) hgr _).drew
          case measure => simp [intOf]; omega
        · obtain ⟨q, hq⟩ : ∃ q : Nat, nearD bs b = (q : Int) := ⟨(nearD bs b).toNat, by omega⟩
          have hx := NumI.next_le HN.out HX.out.1 (by have := HI.out; rw [← HMM.out] at this; exact this) hq
          rw [HMM.out, HNB.out] at hx
          obtain ⟨hqp, hf0, hf1⟩ := hx
          have hqn : q < n := by have := (near_of HN.out (b := b) (p := q) (by have := HNB.out; omega) hq).1; have := HNB.out; omega
          have hqb : q ≠ b := (near_of HN.out (b := b) (p := q) (by have := HNB.out; omega) hq).2.1
          obtain ⟨x, hx⟩ : ∃ x, fre q = x := ⟨_, rfl⟩
          rw [hx] at hf0 hf1
          obtain ⟨W1, hW1⟩ : ∃ W1, wr.setCell ⟨G1, b, none⟩ (.int .i64 x) = W1 := ⟨_, rfl⟩
          have R1 := HR.out.set1 b x
          rw [hW1] at R1
          obtain ⟨W2, hW2⟩ : ∃ W2, (W1.setCell ⟨GF, q, none⟩ (.int .i64 (x + (M b : Int)))).drew = W2 := ⟨_, rfl⟩
          have R2 := (R1.setF q (x + (M b : Int))).drew
          rw [hW2] at R2
          obtain ⟨W3, hW3⟩ : ∃ W3, W2.setCell ⟨GF, b, none⟩ (.int .i64 (x + 1)) = W3 := ⟨_, rfl⟩
          have R3 := R2.setF b (x + 1)
          rw [hW3] at R3
          have cFq := HR.out.rF.cell hqn
          rw [hx] at cFq
          have hqbb : ¬ q = b := hqb
          have c1 : W2.cell? ⟨G1, b, none⟩ = some (.int .i64 x) := by have h1 := R2.r1.cell hbn; simpa using h1
          have cF := R2.rF.cell hbn
          have fF := R2.rF.frozen b
          have d1 : W1.cell? ⟨GF, q, none⟩ = some (.int .i64 x) := by have h1 := R1.rF.cell hqn; rw [hx] at h1; exact h1
          have d2 := R1.cM
          have d3 := R1.rM.cell hbn
          have d4 := R1.rF.frozen q
          have hR1 := Lib.hid R1
          have hR2 := Lib.hid R2
          have hR3 := Lib.hid R3
          have HHX := Lib.hid hx
          clear R1 R2 R3 hx
          go_wp2_with (rw [hW1])
          have hS1 : W1.drew.cell? ⟨GF, q, none⟩ = some (.int .i64 x) ∧ W1.drew.cell? ⟨GM + 1, 0, none⟩ = some (.slice (some ⟨GM, 0, none⟩) n n) ∧ W1.drew.cell? ⟨GM, b, none⟩ = some (.int .i64 (M b : Int)) := ⟨d1, d2, d3⟩
          have hfq1 : W1.drew.frozen? ⟨GF, q, none⟩ = false := d4
          have hcq1 := hS1.1
          have ew : IntKind.i64.wrap (x + (M b : Int)) = x + (M b : Int) := Go.IntWalk.i64_in _ (by omega)
          clear d1 d2 d3 d4 cFq
          refine wp_onlyN ?_
          refine wp_region_last (L := 10) (S := fun w' : World => w'.cell? ⟨GF, q, none⟩ = some (.int .i64 x) ∧ w'.cell? ⟨GM + 1, 0, none⟩ = some (.slice (some ⟨GM, 0, none⟩) n n) ∧ w'.cell? ⟨GM, b, none⟩ = some (.int .i64 (M b : Int))) (by kernel_rfl) (by rfl) (by kernel_rfl) (by kernel_rfl) ?_
          change wpAnyH _ _ _ _ _ _ _ _ (World.drew _)
          refine takeH (i := 0) (some 72) (v := ?_) rfl (by kernel_rfl) (by kernel_rfl) (by kernel_rfl) (fun _ _ _ h => h) hS1 (fun o ho => ?_) ?_
          rotate_left
          · simp only [List.getElem?_toArray, List.getElem?_cons_zero, Option.some.injEq] at ho; subst ho; refine Or.inl ⟨by rfl, fun w' hSw => ?_⟩; (try dsimp only at hSw); go_simp; try with_reducible rfl
          simp only [Act.put, List.setIfInBounds_toArray, List.set_cons_zero, List.set_cons_succ]
          refine takeH (i := 1) (some 73) (v := ?_) rfl (by kernel_rfl) (by kernel_rfl) (by kernel_rfl) (fun _ _ _ h => h) hS1 (fun o ho => ?_) ?_
          rotate_left
          · simp only [List.getElem?_toArray, List.getElem?_cons_zero, List.getElem?_cons_succ, Option.some.injEq] at ho; subst ho; refine Or.inl ⟨by rfl, fun w' hSw => ?_⟩; (try dsimp only at hSw); go_simp; try with_reducible rfl
          simp only [Act.put, List.setIfInBounds_toArray, List.set_cons_zero, List.set_cons_succ]
          refine takeH (i := 2) (some 74) (v := ?_) rfl (by kernel_rfl) (by kernel_rfl) (by kernel_rfl) (fun _ _ _ h => h) hS1 (fun o ho => ?_) ?_
          rotate_left
          · simp only [List.getElem?_toArray, List.getElem?_cons_zero, List.getElem?_cons_succ, Option.some.injEq] at ho; subst ho; refine Or.inl ⟨by rfl, fun w' hSw => ?_⟩; (try dsimp only at hSw); go_simp; try with_reducible rfl
          simp only [Act.put, List.setIfInBounds_toArray, List.set_cons_zero, List.set_cons_succ]
          refine takeH (i := 3) (some 75) (v := ?_) rfl (by kernel_rfl) (by kernel_rfl) (by kernel_rfl) (fun _ _ _ h => h) hS1 (fun o ho => ?_) ?_
          rotate_left
          · simp only [List.getElem?_toArray, List.getElem?_cons_zero, List.getElem?_cons_succ, Option.some.injEq] at ho; subst ho; refine Or.inl ⟨by rfl, fun w' hSw => ?_⟩; (try dsimp only at hSw); go_simp; try with_reducible rfl
          simp only [Act.put, List.setIfInBounds_toArray, List.set_cons_zero, List.set_cons_succ]
          refine takeH (i := 4) (some 76) (v := ?_) rfl (by kernel_rfl) (by kernel_rfl) (by kernel_rfl) (fun _ _ _ h => h) hS1 (fun o ho => ?_) ?_
          rotate_left
          · simp only [List.getElem?_toArray, List.getElem?_cons_zero, List.getElem?_cons_succ, Option.some.injEq] at ho; subst ho; refine Or.inl ⟨by rfl, fun w' hSw => ?_⟩; (try dsimp only at hSw); go_simp; try with_reducible rfl
          simp only [Act.put, List.setIfInBounds_toArray, List.set_cons_zero, List.set_cons_succ]
          refine takeH (i := 5) (some 77) (v := ?_) rfl (by kernel_rfl) (by kernel_rfl) (by kernel_rfl) (fun _ _ _ h => h) hS1 (fun o ho => ?_) ?_
          rotate_left
          · simp only [List.getElem?_toArray, List.getElem?_cons_zero, List.getElem?_cons_succ, Option.some.injEq] at ho; subst ho; refine Or.inl ⟨by rfl, fun w' hSw => ?_⟩; (try dsimp only at hSw); go_simp; try with_reducible rfl
          simp only [Act.put, List.setIfInBounds_toArray, List.set_cons_zero, List.set_cons_succ]
          refine takeH (i := 6) (some 78) (v := ?_) rfl (by kernel_rfl) (by kernel_rfl) (by kernel_rfl) (fun _ _ _ h => h) hS1 (fun o ho => ?_) ?_
          rotate_left
          · simp only [List.getElem?_toArray, List.getElem?_cons_zero, List.getElem?_cons_succ, Option.some.injEq] at ho; subst ho; refine Or.inl ⟨by rfl, fun w' hSw => ?_⟩; (try dsimp only at hSw); go_simp; try with_reducible rfl
          simp only [Act.put, List.setIfInBounds_toArray, List.set_cons_zero, List.set_cons_succ]
          refine takeH (i := 7) (some 79) (v := ?_) rfl (by kernel_rfl) (by kernel_rfl) (by kernel_rfl) (fun _ _ _ h => h) hS1 (fun o ho => ?_) ?_
          rotate_left
          · simp only [List.getElem?_toArray, List.getElem?_cons_zero, List.getElem?_cons_succ, Option.some.injEq] at ho; subst ho; refine Or.inl ⟨by rfl, fun w' hSw => ?_⟩; (try dsimp only at hSw); go_simp; try with_reducible rfl
          simp only [Act.put, List.setIfInBounds_toArray, List.set_cons_zero, List.set_cons_succ]
          refine takeH (i := 8) (some 80) (v := ?_) rfl (by kernel_rfl) (by kernel_rfl) (by kernel_rfl) (fun _ _ _ h => h) hS1 (fun o ho => ?_) ?_
          rotate_left
          · simp only [List.getElem?_toArray, List.getElem?_cons_zero, List.getElem?_cons_succ, Option.some.injEq] at ho; subst ho; refine Or.inl ⟨by rfl, fun w' hSw => ?_⟩; (try dsimp only at hSw); go_simp; try with_reducible rfl
          simp only [Act.put, List.setIfInBounds_toArray, List.set_cons_zero, List.set_cons_succ]
          refine takeH (i := 9) (some 81) (v := ?_) rfl (by kernel_rfl) (by kernel_rfl) (by kernel_rfl) (fun _ _ _ h => h) hS1 (fun o ho => ?_) ?_
          rotate_left
          · simp only [List.getElem?_toArray, List.getElem?_cons_zero, List.getElem?_cons_succ, Option.some.injEq] at ho; subst ho; refine Or.inl ⟨by rfl, fun w' hSw => ?_⟩; (try dsimp only at hSw); go_simp; try with_reducible rfl
          simp only [Act.put, List.setIfInBounds_toArray, List.set_cons_zero, List.set_cons_succ]
          refine wpAnyH_done (by kernel_rfl) ?_ _
          refine lastH (by decide) (fun o ho K' hK => ?_)
          simp only [List.getElem?_toArray, List.getElem?_cons_zero, List.getElem?_cons_succ, Option.some.injEq] at ho; subst ho
          go_simp
          refine hK.out _ _ ?_
          simp only [onlyN]
          clear hK K' hS1 hfq1 hcq1
          go_wp2_with (first | rw [hW2] | rw [hW3])
          clear c1 cF fF c0 f1 cN cH cO
          have e1 : W3.cell? ⟨G1, b, none⟩ = some (.int .i64 x) := by have h1 := hR3.out.r1.cell hbn; simpa using h1
          have e2 := hR3.out.cM
          have e3 := hR3.out.rM.cell hbn
          obtain ⟨g', hg1', hg2', hg3', hg4'⟩ := hR3.out.r2 (by omega)
          obtain rfl : g = g' := by injection hg1' with h1; injection h1
          have e4 := hg4'.frozen b
          have e5 := hg4'.cell hbn
          clear hg1' hg2' hg3' hg4'
          have hS0 : W3.drew.cell? ⟨G1, b, none⟩ = some (.int .i64 x) ∧ W3.drew.cell? ⟨GM + 1, 0, none⟩ = some (.slice (some ⟨GM, 0, none⟩) n n) ∧ W3.drew.cell? ⟨GM, b, none⟩ = some (.int .i64 (M b : Int)) := ⟨e1, e2, e3⟩
          have hfq : W3.drew.frozen? ⟨g, b, none⟩ = false := e4
          have hcq : W3.drew.cell? ⟨g, b, none⟩ = _ := e5
          clear e1 e2 e3 e4 e5
          refine wp_onlyN ?_
          refine wp_region_last (L := 12) (S := fun w' : World => w'.cell? ⟨G1, b, none⟩ = some (.int .i64 x) ∧ w'.cell? ⟨GM + 1, 0, none⟩ = some (.slice (some ⟨GM, 0, none⟩) n n) ∧ w'.cell? ⟨GM, b, none⟩ = some (.int .i64 (M b : Int))) (by kernel_rfl) (by rfl) (by kernel_rfl) (by kernel_rfl) ?_
          change wpAnyH _ _ _ _ _ _ _ _ (World.drew _)
          refine takeH (i := 0) (some 93) (v := ?_) rfl (by kernel_rfl) (by kernel_rfl) (by kernel_rfl) (fun _ _ _ h => h) hS0 (fun o ho => ?_) ?_
          rotate_left
          · simp only [List.getElem?_toArray, List.getElem?_cons_zero, Option.some.injEq] at ho; subst ho; refine Or.inl ⟨by rfl, fun w' hSw => ?_⟩; (try dsimp only at hSw); go_simp; try with_reducible rfl
          simp only [Act.put, List.setIfInBounds_toArray, List.set_cons_zero, List.set_cons_succ]
          refine takeH (i := 1) (some 94) (v := ?_) rfl (by kernel_rfl) (by kernel_rfl) (by kernel_rfl) (fun _ _ _ h => h) hS0 (fun o ho => ?_) ?_
          rotate_left
          · simp only [List.getElem?_toArray, List.getElem?_cons_zero, List.getElem?_cons_succ, Option.some.injEq] at ho; subst ho; refine Or.inl ⟨by rfl, fun w' hSw => ?_⟩; (try dsimp only at hSw); go_simp; try with_reducible rfl
          simp only [Act.put, List.setIfInBounds_toArray, List.set_cons_zero, List.set_cons_succ]
          refine takeH (i := 2) (some 95) (v := ?_) rfl (by kernel_rfl) (by kernel_rfl) (by kernel_rfl) (fun _ _ _ h => h) hS0 (fun o ho => ?_) ?_
          rotate_left
          · simp only [List.getElem?_toArray, List.getElem?_cons_zero, List.getElem?_cons_succ, Option.some.injEq] at ho; subst ho; refine Or.inl ⟨by rfl, fun w' hSw => ?_⟩; (try dsimp only at hSw); go_simp; try with_reducible rfl
          simp only [Act.put, List.setIfInBounds_toArray, List.set_cons_zero, List.set_cons_succ]
          refine takeH (i := 3) (some 96) (v := ?_) rfl (by kernel_rfl) (by kernel_rfl) (by kernel_rfl) (fun _ _ _ h => h) hS0 (fun o ho => ?_) ?_
          rotate_left
          · simp only [List.getElem?_toArray, List.getElem?_cons_zero, List.getElem?_cons_succ, Option.some.injEq] at ho; subst ho; refine Or.inl ⟨by rfl, fun w' hSw => ?_⟩; (try dsimp only at hSw); go_simp; try with_reducible rfl
          simp only [Act.put, List.setIfInBounds_toArray, List.set_cons_zero, List.set_cons_succ]
          refine takeH (i := 4) (some 97) (v := ?_) rfl (by kernel_rfl) (by kernel_rfl) (by kernel_rfl) (fun _ _ _ h => h) hS0 (fun o ho => ?_) ?_
          rotate_left
          · simp only [List.getElem?_toArray, List.getElem?_cons_zero, List.getElem?_cons_succ, Option.some.injEq] at ho; subst ho; refine Or.inl ⟨by rfl, fun w' hSw => ?_⟩; (try dsimp only at hSw); go_simp; try with_reducible rfl
          simp only [Act.put, List.setIfInBounds_toArray, List.set_cons_zero, List.set_cons_succ]
          refine takeH (i := 5) (some 98) (v := ?_) rfl (by kernel_rfl) (by kernel_rfl) (by kernel_rfl) (fun _ _ _ h => h) hS0 (fun o ho => ?_) ?_
          rotate_left
          · simp only [List.getElem?_toArray, List.getElem?_cons_zero, List.getElem?_cons_succ, Option.some.injEq] at ho; subst ho; refine Or.inl ⟨by rfl, fun w' hSw => ?_⟩; (try dsimp only at hSw); go_simp; try with_reducible rfl
          simp only [Act.put, List.setIfInBounds_toArray, List.set_cons_zero, List.set_cons_succ]
          refine takeH (i := 6) (some 99) (v := ?_) rfl (by kernel_rfl) (by kernel_rfl) (by kernel_rfl) (fun _ _ _ h => h) hS0 (fun o ho => ?_) ?_
          rotate_left
          · simp only [List.getElem?_toArray, List.getElem?_cons_zero, List.getElem?_cons_succ, Option.some.injEq] at ho; subst ho; refine Or.inl ⟨by rfl, fun w' hSw => ?_⟩; (try dsimp only at hSw); go_simp; try with_reducible rfl
          simp only [Act.put, List.setIfInBounds_toArray, List.set_cons_zero, List.set_cons_succ]
          refine takeH (i := 7) (some 100) (v := ?_) rfl (by kernel_rfl) (by kernel_rfl) (by kernel_rfl) (fun _ _ _ h => h) hS0 (fun o ho => ?_) ?_
          rotate_left
          · simp only [List.getElem?_toArray, List.getElem?_cons_zero, List.getElem?_cons_succ, Option.some.injEq] at ho; subst ho; refine Or.inl ⟨by rfl, fun w' hSw => ?_⟩; (try dsimp only at hSw); go_simp; try with_reducible rfl
          simp only [Act.put, List.setIfInBounds_toArray, List.set_cons_zero, List.set_cons_succ]
          refine takeH (i := 8) (some 101) (v := ?_) rfl (by kernel_rfl) (by kernel_rfl) (by kernel_rfl) (fun _ _ _ h => h) hS0 (fun o ho => ?_) ?_
          rotate_left
          · simp only [List.getElem?_toArray, List.getElem?_cons_zero, List.getElem?_cons_succ, Option.some.injEq] at ho; subst ho; refine Or.inl ⟨by rfl, fun w' hSw => ?_⟩; (try dsimp only at hSw); go_simp; try with_reducible rfl
          simp only [Act.put, List.setIfInBounds_toArray, List.set_cons_zero, List.set_cons_succ]
          refine takeH (i := 9) (some 102) (v := ?_) rfl (by kernel_rfl) (by kernel_rfl) (by kernel_rfl) (fun _ _ _ h => h) hS0 (fun o ho => ?_) ?_
          rotate_left
          · simp only [List.getElem?_toArray, List.getElem?_cons_zero, List.getElem?_cons_succ, Option.some.injEq] at ho; subst ho; refine Or.inl ⟨by rfl, fun w' hSw => ?_⟩; (try dsimp only at hSw); go_simp; try with_reducible rfl
          simp only [Act.put, List.setIfInBounds_toArray, List.set_cons_zero, List.set_cons_succ]
          refine takeH (i := 10) (some 103) (v := ?_) rfl (by kernel_rfl) (by kernel_rfl) (by kernel_rfl) (fun _ _ _ h => h) hS0 (fun o ho => ?_) ?_
          rotate_left
          · simp only [List.getElem?_toArray, List.getElem?_cons_zero, List.getElem?_cons_succ, Option.some.injEq] at ho; subst ho; refine Or.inl ⟨by rfl, fun w' hSw => ?_⟩; (try dsimp only at hSw); go_simp; try with_reducible rfl
          simp only [Act.put, List.setIfInBounds_toArray, List.set_cons_zero, List.set_cons_succ]
          refine takeH (i := 11) (some 104) (v := ?_) rfl (by kernel_rfl) (by kernel_rfl) (by kernel_rfl) (fun _ _ _ h => h) hS0 (fun o ho => ?_) ?_
          rotate_left
          · simp only [List.getElem?_toArray, List.getElem?_cons_zero, List.getElem?_cons_succ, Option.some.injEq] at ho; subst ho; refine Or.inl ⟨by rfl, fun w' hSw => ?_⟩; (try dsimp only at hSw); go_simp; try with_reducible rfl
          simp only [Act.put, List.setIfInBounds_toArray, List.set_cons_zero, List.set_cons_succ]
          refine wpAnyH_done (by kernel_rfl) ?_ _
          refine lastH (by decide) (fun o ho K' hK => ?_)
          simp only [List.getElem?_toArray, List.getElem?_cons_zero, List.getElem?_cons_succ, Option.some.injEq] at ho; subst ho
          go_simp
          refine hK.out _ _ ?_
          simp only [onlyN]
          clear hK K'
          go_wp2_with fail
          go_roundw
          case rel =>
            obtain ⟨-, hnot, hno, htk⟩ := HX.out
            refine ⟨k + 1, _, _, _, by omega, by go_num, ?_, (hR3.out.set2 b (x + (M b : Int)) (by omega)).drew, ?_⟩
            · rw [htk]; exact HI.out.step hnot hq hqp hno (fun y => by rw [HHX.out]) (fun y => by rw [HHX.out]) (fun y _ => by rw [HHX.out])
            · have h1 : Below w.heap.size w W1 := by rw [← hW1]; exact HB.out.setCell (p := ⟨G1, b, none⟩) (by have := HR.out.o2; show w.heap.size ≤ G1; omega) _
              have hgf : w.heap.size ≤ GF := by have := HR.out.o2; have := HR.out.o3; have := HR.out.o4; have := HR.out.o5; omega
              have h2 : Below w.heap.size w W2 := by rw [← hW2]; exact (h1.setCell (p := ⟨GF, q, none⟩) hgf _).drew
              have h3 : Below w.heap.size w W3 := by rw [← hW3]; exact h2.setCell (p := ⟨GF, b, none⟩) hgf _
              have hgr : w.heap.size ≤ g := by
                obtain ⟨g', h1, h2, -, -⟩ := HR.out.r2 (by omega)
                obtain rfl : g = g' := by injection h1 with h1; injection h1
                have := HR.out.o2; omega
              exact (h3.setCell (p := ⟨g, b, none⟩) hgr _).drew
          case measure => simp [intOf]; omega
      · obtain rfl : k = ln := by omega
        have HI := Lib.hid hI
        have HR := Lib.hid hR
        have HB := Lib.hid hB
        clear hI hR hB
        go_wp2_with fail
        refine ⟨by simp, .inl ⟨_, _, rfl, run_takeDeferred HR.out.hD, ?_⟩⟩
        have hI : NumI (nearD bs) (manyL (nearD bs) (orderF bs)) (orderF bs) nm en fre := by
          have h1 := HI.out
          rw [← HLN.out, List.take_length, ← HMM.out] at h1; exact h1
        have hE := NumI.all HN.out hI
        have hkD : ∀ j, j ≠ D → (wr.putObj D (.deferred none)).heap[j]? = wr.heap[j]? := fun j hj => World.putObj_heap_other hj
        have hO1 := HR.out.o1; have hO2 := HR.out.o2; have hO3 := HR.out.o3; have hO4 := HR.out.o4; have hO5 := HR.out.o5
        refine ⟨_, results_tmp2 rfl _ _ _, ⟨G1, A2, c2, nm, en, ?_, by omega, ?_, fun hp => ?_, hE⟩, ?_⟩
        · rw [HNB.out]; rfl
        · rw [HNB.out]; exact HR.out.r1.of_block (hkD G1 (by omega))
        · rw [HNB.out] at hp ⊢
          obtain ⟨g, h1, h2, h3, h4⟩ := HR.out.r2 hp
          exact ⟨g, h1, by omega, h4.of_block (hkD g (by omega))⟩
        · exact HB.out.trans ⟨rfl, rfl, rfl, by simp, fun j hj => hkD j (by omega)⟩
end Go.Proofs.Ytflbooopgjgkbaa
