/- The walk of DomStays. -/
import Derived.Test.YtooblmiffgjmjaaDmY
import Derived.Test.YtooblmiffgjmjaaDmZ
import Derived.Test.YtooblmiffgjmjaaCopy
import Derived.Test.YtooblmiffgjmjaaSameF
namespace Go.Proofs.Ytooblmiffgjmjaa
open Go.ChangeShapes Go.WideShapes Go.RowKit Go.Deep
set_option linter.unusedVariables false

/-- Rows of numbers that may be written over, in blocks from lo on and below hi. -/
def URow (w : World) (U n lo hi : Nat) (L : Nat → Nat) : Prop := ∀ i, i < n → ∃ A c, w.cell? ⟨U, i, none⟩ = some (.slice A (L i) c) ∧ ∀ k, k < L i → ∃ b o y, A = some ⟨b, o, none⟩ ∧ lo ≤ b ∧ b < hi ∧ w.cell? ⟨b, o + k, none⟩ = some (.int .i64 (y : Int)) ∧ w.frozen? ⟨b, o + k, none⟩ = false
theorem URow.of_blocks {w w' : World} {U n lo hi : Nat} {L : Nat → Nat} (h : URow w U n lo hi L) (hU : lo ≤ U ∧ U < hi) (hb : ∀ b, lo ≤ b → b < hi → w'.heap[b]? = w.heap[b]?) : URow w' U n lo hi L := fun i hi => by
  obtain ⟨A, c, h1, h2⟩ := h i hi
  refine ⟨A, c, (World.cell?_of_block (a := ⟨U, i, none⟩) (hb U hU.1 hU.2)).trans h1, fun k hk => ?_⟩
  obtain ⟨b, o, y, e, h3, h4, h5, h6⟩ := h2 k hk
  exact ⟨b, o, y, e, h3, h4, (World.cell?_of_block (a := ⟨b, o + k, none⟩) (hb b h3 h4)).trans h5, (World.frozen?_of_block (a := ⟨b, o + k, none⟩) (hb b h3 h4)).trans h6⟩
theorem URow.set {w : World} {U n lo hi : Nat} {L : Nat → Nat} (h : URow w U n lo hi L) {a : Addr} {y : Int} (ha : w.cell? a = some (.int .i64 y)) (z : Int) : URow (w.setCell a (.int .i64 z)) U n lo hi L := fun i hi => by
  obtain ⟨A, c, h1, h2⟩ := h i hi
  refine ⟨A, c, ?_, fun k hk => ?_⟩
  · rw [World.cell?_setCell_other _ _ _ _ (fun e => by subst e; rw [h1] at ha; cases ha)]; exact h1
  · obtain ⟨b, o, y', e, h3, h4, h5, h6⟩ := h2 k hk
    by_cases e2 : a = ⟨b, o + k, none⟩
    · subst e2
      exact ⟨b, o, z, e, h3, h4, World.cell?_setCell_same _ _ _ ha, (World.frozen?_setCell _ _ _ _).trans h6⟩
    · exact ⟨b, o, y', e, h3, h4, (World.cell?_setCell_other _ _ _ _ e2).trans h5, (World.frozen?_setCell _ _ _ _).trans h6⟩
theorem URow.of {w : World} {U K n lo hi : Nat} {V : Nat → Value} {L : Nat → List Int} (h : Gri w U K n V L) (hlo : lo ≤ K) (hhi : w.heap.size ≤ hi) : URow w U n lo hi (fun i => (L i).length) := fun i hin => by
  obtain ⟨A, c, hv⟩ := own_slice (h.own i hin)
  refine ⟨A, c, by rw [← hv]; exact h.row.cell hin, fun k hk => ?_⟩
  obtain ⟨g, cap, u, e, hu, hc, hf, h3, h4⟩ := own_cellD (h.own i hin) hk
  rw [hv] at e
  obtain ⟨x, -, rfl⟩ := List.mem_map.1 (List.mem_of_getElem? hu)
  cases e
  exact ⟨g, 0, x, rfl, by omega, by omega, by rw [Nat.zero_add]; exact hc, by rw [Nat.zero_add]; exact hf⟩
/-- What was told, to be written over. -/
structure DSt (H G D0 U n lo5 lo8 lo9 : Nat) (L : Nat → Nat) (wa w : World) : Prop where
  row : ∃ F : Nat → Int, w.rowIs H 3 n (fun x => .int .i64 (F x))
  dom : ∃ M, BGr w G D0 n M
  und : URow w U n lo8 lo9 L
  fr : FrX (fun b => lo5 ≤ b ∧ b < lo9) wa w
structure DSk (H G D0 U n lo5 lo8 lo9 : Nat) : Prop where
  h5 : lo5 ≤ H
  hg : H < G
  gd : G < D0
  d8 : ∀ a, a < n → D0 + a < lo8
  h8 : H < lo8
  u8 : lo8 ≤ U
  u9 : U < lo9
section
variable {H G D0 U n lo5 lo8 lo9 : Nat} {L : Nat → Nat} {wa w : World}
theorem DSt.setH (h : DSt H G D0 U n lo5 lo8 lo9 L wa w) (k : DSk H G D0 U n lo5 lo8 lo9) (i : Nat) (y : Int) : DSt H G D0 U n lo5 lo8 lo9 L wa (w.setCell ⟨H, i, none⟩ (.int .i64 y)) := by
  obtain ⟨⟨F, h1⟩, ⟨M, h2⟩, h3, h4⟩ := h
  have := k.h5; have := k.hg; have := k.h8; have := k.u8; have := k.u9
  have hs : ∀ b, b ≠ H → (w.setCell ⟨H, i, none⟩ (.int .i64 y)).heap[b]? = w.heap[b]? := fun b hb => Below.heap_setCell _ _ _ _ hb
  refine ⟨⟨fun x => if x = i then y else F x, (h1.set i _).congr fun x _ => by by_cases e : x = i <;> simp [e]⟩, ⟨M, h2.of_blocks fun b h5 _ => hs b (by omega)⟩, h3.of_blocks ⟨k.u8, k.u9⟩ fun b h5 _ => hs b (by omega), h4.setCell (p := ⟨H, i, none⟩) (.inl ⟨k.h5, by show H < lo9; omega⟩) _⟩
theorem DSt.setD (h : DSt H G D0 U n lo5 lo8 lo9 L wa w) (k : DSk H G D0 U n lo5 lo8 lo9) {a : Nat} (ha : a < n) (b : Nat) (x : Bool) : DSt H G D0 U n lo5 lo8 lo9 L wa (w.setCell ⟨D0 + a, b, none⟩ (.bool x)) := by
  obtain ⟨⟨F, h1⟩, ⟨M, h2⟩, h3, h4⟩ := h
  have := k.h5; have := k.hg; have := k.gd; have := k.d8 a ha; have := k.u8; have := k.u9
  have hs : ∀ c, c ≠ D0 + a → (w.setCell ⟨D0 + a, b, none⟩ (.bool x)).heap[c]? = w.heap[c]? := fun c hc => Below.heap_setCell _ _ _ _ hc
  exact ⟨⟨F, h1.of_block (hs H (by omega))⟩, ⟨_, h2.set a b x⟩, h3.of_blocks ⟨k.u8, k.u9⟩ fun c h5 _ => hs c (by omega), h4.setCell (p := ⟨D0 + a, b, none⟩) (.inl ⟨by show lo5 ≤ D0 + a; omega, by show D0 + a < lo9; omega⟩) _⟩
theorem DSt.setU (h : DSt H G D0 U n lo5 lo8 lo9 L wa w) (k : DSk H G D0 U n lo5 lo8 lo9) (hn : 0 < n) {b o : Nat} {y : Int} (hb : lo8 ≤ b) (hb9 : b < lo9) (hc : w.cell? ⟨b, o, none⟩ = some (.int .i64 y)) (z : Int) : DSt H G D0 U n lo5 lo8 lo9 L wa (w.setCell ⟨b, o, none⟩ (.int .i64 z)) := by
  obtain ⟨⟨F, h1⟩, ⟨M, h2⟩, h3, h4⟩ := h
  have := k.h5; have := k.hg; have := k.gd; have := k.d8 (n - 1) (by omega); have := k.u8; have := k.u9; have := k.h8
  have hs : ∀ c, c ≠ b → (w.setCell ⟨b, o, none⟩ (.int .i64 z)).heap[c]? = w.heap[c]? := fun c hc => Below.heap_setCell _ _ _ _ hc
  exact ⟨⟨F, h1.of_block (hs H (by omega))⟩, ⟨M, h2.of_blocks fun c _ h5 => hs c (by omega)⟩, h3.set hc z, h4.setCell (p := ⟨b, o, none⟩) (.inl ⟨by show lo5 ≤ b; omega, hb9⟩) _⟩
theorem DSt.drew (h : DSt H G D0 U n lo5 lo8 lo9 L wa w) (k : DSk H G D0 U n lo5 lo8 lo9) : DSt H G D0 U n lo5 lo8 lo9 L wa w.drew := by
  obtain ⟨⟨F, h1⟩, ⟨M, h2⟩, h3, h4⟩ := h
  exact ⟨⟨F, h1.of_block rfl⟩, ⟨M, h2.of_blocks fun _ _ _ => rfl⟩, h3.of_blocks ⟨k.u8, k.u9⟩ fun _ _ _ => rfl, h4.drew⟩
end

set_option maxRecDepth 100000 in
set_option maxHeartbeats 16000000 in
theorem domStays_walk (f : FunD) (v : Value) (w : World) (hv : VFun w v f) :
    Calls Try.prog 7 #[v] w fun e w' => e = .returned (.bool true) ∧ Below w.heap.size w w' := by
  have hv0 := hv
  obtain ⟨Ar, cr, A, c, rfl, -, -, -, -⟩ := hv
  have HV := Lib.hid hv0
  clear hv0
  go_enter Try.func7, Try.ntmps7
  go_wp2_with fail
  obtain ⟨w1, hw1, hs1, hk1, hbel1, hc1, -⟩ := named w #[.int .i64 f.params, .int .i64 f.result, .slice Ar f.regs.length cr, .slice A f.blocks.length c] 25
  rw [← hw1]
  refine (up6_any w1).mono ?_
  rintro e w2 ⟨rfl, hb2⟩
  have hk2 := kept_of_below hb2
  have c0 := hk2 _ _ (hc1 0 _ rfl)
  have c1 := hk2 _ _ (hc1 1 _ rfl)
  have c2 := hk2 _ _ (hc1 2 _ rfl)
  have c3 := hk2 _ _ (hc1 3 _ rfl)
  have HB2 : Hid (Below w.heap.size w w2) := Lib.hid (hbel1.trans (hb2.mono (by omega)))
  obtain ⟨N, hN⟩ : ∃ N, N = w.heap.size := ⟨_, rfl⟩
  rw [← hN] at c0 c1 c2 c3 ⊢
  clear hw1 hs1 hbel1 hc1 hb2 hk1 hk2 hN
  go_wp2_with fail
  refine (small6_any f _ w2 (VFun.keep (kept_of_below HB2.out) HV.out)).mono ?_
  rintro e w3 ⟨⟨bs, rfl, hsm⟩, hb3⟩
  have hk3 := kept_of_below hb3
  have c0 := hk3 _ _ c0
  have c1 := hk3 _ _ c1
  have c2 := hk3 _ _ c2
  have c3 := hk3 _ _ c3
  have HB3 : Hid (Below w.heap.size w w3) := Lib.hid (HB2.out.trans (hb3.mono HB2.out.size))
  cases bs
  · clear hb3 hk3 hsm
    go_wp2_with fail
    go_ret
    exact ⟨rfl, HB3.out⟩
  · have HSM := Lib.hid (hsm rfl)
    have hn : f.blocks.length ≤ 70 := (hsm rfl).1
    clear hb3 hk3 hsm
    go_wp2_with fail
    refine (copyFunc_any f _ w3 (VFun.keep (kept_of_below HB3.out) HV.out) HSM.out).mono ?_
    rintro e w4 ⟨⟨r, rfl, d0, d1, d2, d3, rfl, Ac, cc, Bc, dc, hcs, hcr, hcb, hp64, hr64⟩, hb4⟩
    simp only [List.cons.injEq, and_true] at hcs
    obtain ⟨rfl, rfl, rfl, rfl⟩ := hcs
    have hk4 := kept_of_below hb4
    have c0 := hk4 _ _ c0
    have c1 := hk4 _ _ c1
    have c2 := hk4 _ _ c2
    have c3 := hk4 _ _ c3
    have HB4 : Hid (Below w.heap.size w w4) := Lib.hid (HB3.out.trans (hb4.mono HB3.out.size))
    have HVO4 : Hid (VFun w4 (.agg #[.int .i64 f.params, .int .i64 f.result, .slice Ac f.regs.length cc, .slice Bc f.blocks.length dc]) f) := Lib.hid ⟨Ac, cc, Bc, dc, rfl, SL.imp RIntB.plain hcr, SL.imp RBlkB.plain hcb, hp64, hr64⟩
    clear hb4 hk4 hcr hcb hp64 hr64
    go_upto_region 6 with fail
    obtain ⟨w5, hw5, hs5, hk5, hb5, hc5, -⟩ := named w4 #[.int .i64 f.params, .int .i64 f.result, .slice Ac f.regs.length cc, .slice Bc f.blocks.length dc] 25
    rw [← hw5]
    obtain ⟨O, hO⟩ : ∃ O, O = w4.heap.size := ⟨_, rfl⟩
    rw [← hO] at hc5 hs5 ⊢
    have o0 := hc5 0 _ rfl
    have o1 := hc5 1 _ rfl
    have o2 := hc5 2 _ rfl
    have o3 := hc5 3 _ rfl
    have c0 := hk5 _ _ c0
    have c1 := hk5 _ _ c1
    have c2 := hk5 _ _ c2
    have c3 := hk5 _ _ c3
    have HB5 : Hid (Below w.heap.size w w5) := Lib.hid (HB4.out.trans (hb5.mono HB4.out.size))
    have HVO5 := Lib.hid (VFun.keep hk5 HVO4.out)
    have HCC : Hid ((w5.cell? ⟨N, 0, none⟩ = some (.int .i64 f.params) ∧ w5.cell? ⟨N, 1, none⟩ = some (.int .i64 f.result) ∧ w5.cell? ⟨N, 2, none⟩ = some (.slice Ar f.regs.length cr) ∧ w5.cell? ⟨N, 3, none⟩ = some (.slice A f.blocks.length c))) := Lib.hid ⟨c0, c1, c2, c3⟩
    have HOO : Hid ((w5.cell? ⟨O, 0, none⟩ = some (.int .i64 f.params) ∧ w5.cell? ⟨O, 1, none⟩ = some (.int .i64 f.result) ∧ w5.cell? ⟨O, 2, none⟩ = some (.slice Ac f.regs.length cc) ∧ w5.cell? ⟨O, 3, none⟩ = some (.slice Bc f.blocks.length dc))) := Lib.hid ⟨o0, o1, o2, o3⟩
    clear hw5 hs5 hk5 hb5 hc5 hO HVO4
    go_wp2_with fail
    refine (nearest_any f _ w5 HVO5.out (by omega)).mono ?_
    rintro e w6 ⟨⟨H, rfl, hH, hnr, ord, hNB⟩, hb6⟩
    have hk6 := kept_of_below hb6
    have o0 := hk6 _ _ o0
    have o1 := hk6 _ _ o1
    have o2 := hk6 _ _ o2
    have o3 := hk6 _ _ o3
    have HB6 : Hid (Below w5.heap.size w5 w6) := Lib.hid hb6
    have HNR6 := Lib.hid hnr
    have HNX : Hid (∀ b, b < f.blocks.length → -1 ≤ nearD f.blocks b ∧ nearD f.blocks b < f.blocks.length) := Lib.hid (fun b hb => hNB.near_lt hb)
    have HH : Hid (w5.heap.size ≤ H ∧ H < w6.heap.size) := Lib.hid ⟨hH, hnr.lt⟩
    clear hb6 hk6 hnr hH hNB c0 c1 c2 c3
    go_wp2_with fail
    refine (dominates_any f _ w6 (VFun.keep (kept_of_below HB6.out) HVO5.out) (by omega)).mono ?_
    rintro e w7 ⟨⟨G, D0, rfl, hG, hg, -⟩, hb7⟩
    have hk7 := kept_of_below hb7
    have o0 := hk7 _ _ o0
    have o1 := hk7 _ _ o1
    have o2 := hk7 _ _ o2
    have o3 := hk7 _ _ o3
    have HB7 : Hid (Below w5.heap.size w5 w7) := Lib.hid (HB6.out.trans (hb7.mono HB6.out.size))
    have HNR7 := Lib.hid (HNR6.out.of_block (hb7.block H HH.out.2))
    have HG7 := Lib.hid hg
    have HH7 : Hid (H < G ∧ G < D0 ∧ (∀ a, a < f.blocks.length → D0 + a < w7.heap.size) ∧ H < w7.heap.size) := Lib.hid ⟨Nat.lt_of_lt_of_le HH.out.2 hG, hg.lt, fun a ha => (hg.cells a ha).lt, Nat.lt_of_lt_of_le HH.out.2 hb7.size⟩
    clear hb7 hk7 hg hG HNR6 HB6
    go_wp2_with fail
    refine (frontier_any f _ w7 (VFun.keep (kept_of_below HB7.out) HVO5.out) (by omega)).mono ?_
    rintro e w8 ⟨⟨Gf, Kf, Vf, rfl, -, -, -, -, -⟩, hb8⟩
    have hk8 := kept_of_below hb8
    have o0 := hk8 _ _ o0
    have o1 := hk8 _ _ o1
    have o2 := hk8 _ _ o2
    have o3 := hk8 _ _ o3
    have HB8 : Hid (Below w5.heap.size w5 w8) := Lib.hid (HB7.out.trans (hb8.mono HB7.out.size))
    have HNR8 := Lib.hid (HNR7.out.of_block (hb8.block H HNR7.out.lt))
    have HG8 := Lib.hid (HG7.out.below hb8)
    have HZ8 : Hid (w7.heap.size ≤ w8.heap.size) := Lib.hid hb8.size
    clear hb8 hk8 HNR7 HG7 HB7
    go_wp2_with fail
    refine (under_any f _ w8 (VFun.keep (kept_of_below HB8.out) HVO5.out) (by omega)).mono ?_
    rintro e w9 ⟨⟨U, KU, VU, rfl, hU, hKU, hu⟩, hb9⟩
    have hk9 := kept_of_below hb9
    have o0 := hk9 _ _ o0
    have o1 := hk9 _ _ o1
    have o2 := hk9 _ _ o2
    have o3 := hk9 _ _ o3
    have HB9 : Hid (Below w5.heap.size w5 w9) := Lib.hid (HB8.out.trans (hb9.mono HB8.out.size))
    have HNR9 := Lib.hid (HNR8.out.of_block (hb9.block H HNR8.out.lt))
    have HG9 := Lib.hid (HG8.out.below hb9)
    have HUR := Lib.hid (URow.of hu hKU (Nat.le_refl _))
    have HSK : Hid (DSk H G D0 U f.blocks.length w5.heap.size w8.heap.size w9.heap.size) := Lib.hid ⟨HH.out.1, HH7.out.1, HH7.out.2.1, fun a ha => by have := HH7.out.2.2.1 a ha; have := HZ8.out; omega, by have := HH7.out.2.2.2; have := HZ8.out; omega, hU, hu.row.lt⟩
    have HZ9 := Lib.hid hb9.size
    have HLU : Hid (∀ i, (zs (unL f.blocks f.blocks.length i)).length ≤ 70) := Lib.hid (fun i => by rw [zs_len]; have := unL_len f.blocks f.blocks.length i; omega)
    clear hb9 hk9 hu hU hKU HNR8 HG8 HB8 o0 o1 o2 o3
    have HSL : Hid (∀ W : World, W.heap[H]? = w9.heap[H]? → SL W 1 RInt (some ⟨H, 0, none⟩) f.blocks.length ((List.range f.blocks.length).map (nearD f.blocks))) := Lib.hid (fun W hW => sl_of_row (HNR9.out.of_block hW) (by omega) (fun b hb => by have := HNX.out b hb; unfold I64; omega))
    have hll : ((List.range f.blocks.length).map (nearD f.blocks)).length = f.blocks.length := by rw [List.length_map, List.length_range]
    obtain ⟨xs, hxs⟩ : ∃ xs, xs = (List.range f.blocks.length).map (nearD f.blocks) := ⟨_, rfl⟩
    rw [← hxs] at hll HSL
    have HXS := Lib.hid hxs.symm
    clear hxs
    go_wp2_with (at_builtin; refine wpList_append_copy rfl _ _ rfl _ _ _ _ xs rfl rfl (heap_alloc_new w9 _) (HSL.out _ (Below.heap_alloc _ _ _ (by have := HH7.out.2.2.2; have := HZ8.out; have := HZ9.out; omega))) hll.symm (by omega) ?_)
    intro A' c' w10 hsl hgrow hown hloc
    have hz10 := hgrow.size
    have HFR10 : Hid (FrX (fun _ => False) w9 w10) := Lib.hid (((FrX.refl (fun _ => False) w9).alloc _).grown hgrow (fun y hy => by cases hy; exact .inr (Nat.le_refl _)))
    have HB10 : Hid (Below w5.heap.size w5 w10) := Lib.hid (HB9.out.trans (HFR10.out.below HB9.out.size (fun _ h => h.elim)))
    have HW10 : Hid (SL w10 1 (RIntB (fun b => w9.heap.size ≤ b)) A' c' xs) := Lib.hid (SL.imp (fun b o x h => ⟨by have h1 := h.1; simp at h1; omega, h.2⟩) hsl)
    have hds : DSt H G D0 U f.blocks.length w5.heap.size w8.heap.size w9.heap.size (fun i => (zs (unL f.blocks f.blocks.length i)).length) w10 w10 :=
      ⟨⟨_, HNR9.out.of_block (HFR10.out.block H HNR9.out.lt id)⟩, ⟨_, HG9.out.below (HFR10.out.below (Nat.le_refl _) (fun _ h => h.elim))⟩, HUR.out.of_blocks ⟨HSK.out.u8, HSK.out.u9⟩ (fun b _ hb => HFR10.out.block b hb id), FrX.refl _ _⟩
    have HDS := Lib.hid hds
    clear hsl hgrow hown hloc hz10 hds HNR9 HG9 HUR HFR10
    go_wp2_with fail
    go_loopw [11] (fun s11 wq => ∃ i : Nat, i ≤ f.blocks.length ∧ s11 = .int .i64 (i : Int) ∧ DSt H G D0 U f.blocks.length w5.heap.size w8.heap.size w9.heap.size (fun i => (zs (unL f.blocks f.blocks.length i)).length) w10 wq) (fun s11 _ => f.blocks.length - (intOf s11).toNat)
    case atStart => exact ⟨0, Nat.zero_le _, rfl, HDS.out⟩
    case round =>
      obtain ⟨i, hi, rfl, hd⟩ := hrel
      have HD := Lib.hid hd
      by_cases hil : i < f.blocks.length
      · obtain ⟨F, hF⟩ := hd.row
        have xc := hF.cell hil
        have xf := hF.frozen i
        have hi0 : (0 : Int) ≤ i := by omega
        have hi1 : (i : Int) < f.blocks.length := by omega
        have HD2 := Lib.hid (HD.out.setH HSK.out i 9)
        clear hd hF
        go_wp2_with fail
        go_roundw
        case rel => exact ⟨i + 1, by omega, by go_num, HD2.out⟩
        case measure => simp [intOf]; omega
      · clear hd
        go_wp2_with fail
        go_loopw [12] (fun s12 wq => ∃ i : Nat, i ≤ f.blocks.length ∧ s12 = .int .i64 (i : Int) ∧ DSt H G D0 U f.blocks.length w5.heap.size w8.heap.size w9.heap.size (fun i => (zs (unL f.blocks f.blocks.length i)).length) w10 wq) (fun s12 _ => f.blocks.length - (intOf s12).toNat)
        case atStart => exact ⟨0, Nat.zero_le _, rfl, HD.out⟩
        case round =>
          obtain ⟨i, hi, rfl, hd⟩ := hrel
          have HD := Lib.hid hd
          obtain ⟨wo, rfl⟩ : ∃ wo, wo = wr := ⟨wr, rfl⟩
          by_cases hil : i < f.blocks.length
          · have hi0 : (0 : Int) ≤ i := by omega
            have hi1 : (i : Int) < f.blocks.length := by omega
            clear hd
            go_wp2_with fail
            go_loopw [13] (fun s13 wq => ∃ k : Nat, k ≤ f.blocks.length ∧ s13 = .int .i64 (k : Int) ∧ DSt H G D0 U f.blocks.length w5.heap.size w8.heap.size w9.heap.size (fun i => (zs (unL f.blocks f.blocks.length i)).length) w10 wq) (fun s13 _ => f.blocks.length - (intOf s13).toNat)
            case atStart => exact ⟨0, Nat.zero_le _, rfl, HD.out⟩
            case round =>
              obtain ⟨k, hk, rfl, hd⟩ := hrel
              have HDK := Lib.hid hd
              obtain ⟨M, hM⟩ := hd.dom
              have xg := hM.row.cell hil
              by_cases hkl : k < f.blocks.length
              · have xb := (hM.cells i hil).cell hkl
                have xf := (hM.cells i hil).frozen k
                have hk0 : (0 : Int) ≤ k := by omega
                have hk1 : (k : Int) < f.blocks.length := by omega
                have HD2 : Hid (∀ x, DSt H G D0 U f.blocks.length w5.heap.size w8.heap.size w9.heap.size (fun i => (zs (unL f.blocks f.blocks.length i)).length) w10 (wr.drew.setCell ⟨D0 + i, k, none⟩ (.bool x))) := Lib.hid (fun x => (HDK.out.drew HSK.out).setD HSK.out hil k x)
                clear hd hM
                go_upto_region 21 with fail
                refine wp_region_last (L := 14) (S := fun w' => w'.cell? ⟨G, i, none⟩ = some (.slice (some ⟨D0 + i, 0, none⟩) f.blocks.length f.blocks.length) ∧ w'.cell? ⟨D0 + i, k, none⟩ = some (.bool (M i k))) (by kernel_rfl) (by rfl) (by kernel_rfl) (by kernel_rfl) ?_
                change wpAnyH _ _ _ _ _ _ _ _ (World.drew _)
                have hS0 : wr.drew.cell? ⟨G, i, none⟩ = some (.slice (some ⟨D0 + i, 0, none⟩) f.blocks.length f.blocks.length) ∧ wr.drew.cell? ⟨D0 + i, k, none⟩ = some (.bool (M i k)) := ⟨xg, xb⟩
                clear xg xb
                refine takeH (i := 0) (some 59) (v := ?_) rfl (by kernel_rfl) (by kernel_rfl) (by kernel_rfl) (fun _ _ _ h => h) hS0 (fun o ho => ?_) ?_
                rotate_left
                · simp only [List.getElem?_toArray, List.getElem?_cons_zero, Option.some.injEq] at ho; subst ho; refine Or.inl ⟨by rfl, fun w' hSw => ?_⟩; (try dsimp only at hSw); go_simp; try with_reducible rfl
                simp only [Act.put, List.setIfInBounds_toArray, List.set_cons_zero, List.set_cons_succ]
                refine takeH (i := 1) (some 60) (v := ?_) rfl (by kernel_rfl) (by kernel_rfl) (by kernel_rfl) (fun _ _ _ h => h) hS0 (fun o ho => ?_) ?_
                rotate_left
                · simp only [List.getElem?_toArray, List.getElem?_cons_zero, List.getElem?_cons_succ, Option.some.injEq] at ho; subst ho; refine Or.inl ⟨by rfl, fun w' hSw => ?_⟩; (try dsimp only at hSw); go_simp; try with_reducible rfl
                simp only [Act.put, List.setIfInBounds_toArray, List.set_cons_zero, List.set_cons_succ]
                refine takeH (i := 2) (some 61) (v := ?_) rfl (by kernel_rfl) (by kernel_rfl) (by kernel_rfl) (fun _ _ _ h => h) hS0 (fun o ho => ?_) ?_
                rotate_left
                · simp only [List.getElem?_toArray, List.getElem?_cons_zero, List.getElem?_cons_succ, Option.some.injEq] at ho; subst ho; refine Or.inl ⟨by rfl, fun w' hSw => ?_⟩; (try dsimp only at hSw); go_simp; try with_reducible rfl
                simp only [Act.put, List.setIfInBounds_toArray, List.set_cons_zero, List.set_cons_succ]
                refine takeH (i := 3) (some 62) (v := ?_) rfl (by kernel_rfl) (by kernel_rfl) (by kernel_rfl) (fun _ _ _ h => h) hS0 (fun o ho => ?_) ?_
                rotate_left
                · simp only [List.getElem?_toArray, List.getElem?_cons_zero, List.getElem?_cons_succ, Option.some.injEq] at ho; subst ho; refine Or.inl ⟨by rfl, fun w' hSw => ?_⟩; (try dsimp only at hSw); go_simp; try with_reducible rfl
                simp only [Act.put, List.setIfInBounds_toArray, List.set_cons_zero, List.set_cons_succ]
                refine takeH (i := 4) (some 63) (v := ?_) rfl (by kernel_rfl) (by kernel_rfl) (by kernel_rfl) (fun _ _ _ h => h) hS0 (fun o ho => ?_) ?_
                rotate_left
                · simp only [List.getElem?_toArray, List.getElem?_cons_zero, List.getElem?_cons_succ, Option.some.injEq] at ho; subst ho; refine Or.inl ⟨by rfl, fun w' hSw => ?_⟩; (try dsimp only at hSw); go_simp; try with_reducible rfl
                simp only [Act.put, List.setIfInBounds_toArray, List.set_cons_zero, List.set_cons_succ]
                refine takeH (i := 5) (some 64) (v := ?_) rfl (by kernel_rfl) (by kernel_rfl) (by kernel_rfl) (fun _ _ _ h => h) hS0 (fun o ho => ?_) ?_
                rotate_left
                · simp only [List.getElem?_toArray, List.getElem?_cons_zero, List.getElem?_cons_succ, Option.some.injEq] at ho; subst ho; refine Or.inl ⟨by rfl, fun w' hSw => ?_⟩; (try dsimp only at hSw); go_simp; try with_reducible rfl
                simp only [Act.put, List.setIfInBounds_toArray, List.set_cons_zero, List.set_cons_succ]
                refine takeH (i := 6) (some 65) (v := ?_) rfl (by kernel_rfl) (by kernel_rfl) (by kernel_rfl) (fun _ _ _ h => h) hS0 (fun o ho => ?_) ?_
                rotate_left
                · simp only [List.getElem?_toArray, List.getElem?_cons_zero, List.getElem?_cons_succ, Option.some.injEq] at ho; subst ho; refine Or.inl ⟨by rfl, fun w' hSw => ?_⟩; (try dsimp only at hSw); go_simp; try with_reducible rfl
                simp only [Act.put, List.setIfInBounds_toArray, List.set_cons_zero, List.set_cons_succ]
                refine takeH (i := 7) (some 66) (v := ?_) rfl (by kernel_rfl) (by kernel_rfl) (by kernel_rfl) (fun _ _ _ h => h) hS0 (fun o ho => ?_) ?_
                rotate_left
                · simp only [List.getElem?_toArray, List.getElem?_cons_zero, List.getElem?_cons_succ, Option.some.injEq] at ho; subst ho; refine Or.inl ⟨by rfl, fun w' hSw => ?_⟩; (try dsimp only at hSw); go_simp; try with_reducible rfl
                simp only [Act.put, List.setIfInBounds_toArray, List.set_cons_zero, List.set_cons_succ]
                refine takeH (i := 8) (some 67) (v := ?_) rfl (by kernel_rfl) (by kernel_rfl) (by kernel_rfl) (fun _ _ _ h => h) hS0 (fun o ho => ?_) ?_
                rotate_left
                · simp only [List.getElem?_toArray, List.getElem?_cons_zero, List.getElem?_cons_succ, Option.some.injEq] at ho; subst ho; refine Or.inl ⟨by rfl, fun w' hSw => ?_⟩; (try dsimp only at hSw); go_simp; try with_reducible rfl
                simp only [Act.put, List.setIfInBounds_toArray, List.set_cons_zero, List.set_cons_succ]
                refine takeH (i := 9) (some 68) (v := ?_) rfl (by kernel_rfl) (by kernel_rfl) (by kernel_rfl) (fun _ _ _ h => h) hS0 (fun o ho => ?_) ?_
                rotate_left
                · simp only [List.getElem?_toArray, List.getElem?_cons_zero, List.getElem?_cons_succ, Option.some.injEq] at ho; subst ho; refine Or.inl ⟨by rfl, fun w' hSw => ?_⟩; (try dsimp only at hSw); go_simp; try with_reducible rfl
                simp only [Act.put, List.setIfInBounds_toArray, List.set_cons_zero, List.set_cons_succ]
                refine takeH (i := 10) (some 69) (v := ?_) rfl (by kernel_rfl) (by kernel_rfl) (by kernel_rfl) (fun _ _ _ h => h) hS0 (fun o ho => ?_) ?_
                rotate_left
                · simp only [List.getElem?_toArray, List.getElem?_cons_zero, List.getElem?_cons_succ, Option.some.injEq] at ho; subst ho; refine Or.inl ⟨by rfl, fun w' hSw => ?_⟩; (try dsimp only at hSw); go_simp; try with_reducible rfl
                simp only [Act.put, List.setIfInBounds_toArray, List.set_cons_zero, List.set_cons_succ]
                refine takeH (i := 11) (some 70) (v := ?_) rfl (by kernel_rfl) (by kernel_rfl) (by kernel_rfl) (fun _ _ _ h => h) hS0 (fun o ho => ?_) ?_
                rotate_left
                · simp only [List.getElem?_toArray, List.getElem?_cons_zero, List.getElem?_cons_succ, Option.some.injEq] at ho; subst ho; refine Or.inl ⟨by rfl, fun w' hSw => ?_⟩; (try dsimp only at hSw); go_simp; try with_reducible rfl
                simp only [Act.put, List.setIfInBounds_toArray, List.set_cons_zero, List.set_cons_succ]
                refine takeH (i := 12) (some 71) (v := ?_) rfl (by kernel_rfl) (by kernel_rfl) (by kernel_rfl) (fun _ _ _ h => h) hS0 (fun o ho => ?_) ?_
                rotate_left
                · simp only [List.getElem?_toArray, List.getElem?_cons_zero, List.getElem?_cons_succ, Option.some.injEq] at ho; subst ho; refine Or.inl ⟨by rfl, fun w' hSw => ?_⟩; (try dsimp only at hSw); go_simp; try with_reducible rfl
                simp only [Act.put, List.setIfInBounds_toArray, List.set_cons_zero, List.set_cons_succ]
                refine takeH (i := 13) (some 72) (v := ?_) rfl (by kernel_rfl) (by kernel_rfl) (by kernel_rfl) (fun _ _ _ h => h) hS0 (fun o ho => ?_) ?_
                rotate_left
                · simp only [List.getElem?_toArray, List.getElem?_cons_zero, List.getElem?_cons_succ, Option.some.injEq] at ho; subst ho; refine Or.inl ⟨by rfl, fun w' hSw => ?_⟩; (try dsimp only at hSw); go_simp; try with_reducible rfl
                simp only [Act.put, List.setIfInBounds_toArray, List.set_cons_zero, List.set_cons_succ]
                refine wpAnyH_done (by kernel_rfl) ?_ _
                refine lastH (by decide) (fun o ho K' hK => ?_)
                simp only [List.getElem?_toArray, List.getElem?_cons_zero, List.getElem?_cons_succ, Option.some.injEq] at ho; subst ho
                go_simp
                refine hK.out _ _ ?_
                clear hK K' hS0 xf
                go_wp2_with fail
                go_roundw
                case rel => exact ⟨k + 1, by omega, by go_num, HD2.out _⟩
                case measure => simp [intOf]; omega
              · clear hd hM
                go_wp2_with fail
                go_roundw
                case rel => exact ⟨i + 1, by omega, by go_num, HDK.out⟩
                case measure => simp [intOf]; omega
          · clear hd
            go_wp2_with fail
            go_loopw [14] (fun s14 wq => ∃ i : Nat, i ≤ f.blocks.length ∧ s14 = .int .i64 (i : Int) ∧ DSt H G D0 U f.blocks.length w5.heap.size w8.heap.size w9.heap.size (fun i => (zs (unL f.blocks f.blocks.length i)).length) w10 wq) (fun s14 _ => f.blocks.length - (intOf s14).toNat)
            case atStart => exact ⟨0, Nat.zero_le _, rfl, HD.out⟩
            case round =>
              obtain ⟨i, hi, rfl, hd⟩ := hrel
              have HD := Lib.hid hd
              obtain ⟨wo, rfl⟩ : ∃ wo, wo = wr := ⟨wr, rfl⟩
              by_cases hil : i < f.blocks.length
              · have hi0 : (0 : Int) ≤ i := by omega
                have hi1 : (i : Int) < f.blocks.length := by omega
                have hl70 := HLU.out i
                generalize hLz : (zs (unL f.blocks f.blocks.length i)).length = lz at *
                have HLz := Lib.hid hLz
                clear hd hLz
                go_wp2_with fail
                go_loopw [15] (fun s15 wq => ∃ k : Nat, k ≤ lz ∧ s15 = .int .i64 (k : Int) ∧ DSt H G D0 U f.blocks.length w5.heap.size w8.heap.size w9.heap.size (fun i => (zs (unL f.blocks f.blocks.length i)).length) w10 wq) (fun s15 _ => lz - (intOf s15).toNat)
                case atStart => exact ⟨0, Nat.zero_le _, rfl, HD.out⟩
                case round =>
                  obtain ⟨k, hk, rfl, hd⟩ := hrel
                  have HDK := Lib.hid hd
                  obtain ⟨Au, cu, xu, hu⟩ := hd.und i hil
                  simp only [HLz.out] at xu hu
                  by_cases hkl : k < lz
                  · obtain ⟨b, o, y, rfl, hb8, hb9, hc, hf⟩ := hu k hkl
                    have hk0 : (0 : Int) ≤ k := by omega
                    have hk1 : (k : Int) < lz := by omega
                    have HD2 := Lib.hid (HDK.out.setU HSK.out (by omega) hb8 hb9 hc 9)
                    clear hd hu
                    go_wp2_with fail
                    go_roundw
                    case rel => exact ⟨k + 1, by omega, by go_num, HD2.out⟩
                    case measure => simp [intOf]; omega
                  · clear hd hu
                    go_wp2_with fail
                    go_roundw
                    case rel => exact ⟨i + 1, by omega, by go_num, HDK.out⟩
                    case measure => simp [intOf]; omega
              · have hbz : Below w5.heap.size w5 wo := HB10.out.trans (hd.fr.below HB10.out.size (fun _ h => h.1))
                have HBZ := Lib.hid hbz
                have hkz := kept_of_below hbz
                have o0 := hkz _ _ HOO.out.1
                have o1 := hkz _ _ HOO.out.2.1
                have o2 := hkz _ _ HOO.out.2.2.1
                have o3 := hkz _ _ HOO.out.2.2.2
                have c0 := hkz _ _ HCC.out.1
                have c1 := hkz _ _ HCC.out.2.1
                have c2 := hkz _ _ HCC.out.2.2.1
                have c3 := hkz _ _ HCC.out.2.2.2
                have hww : SL wo 1 (RIntB (fun b => w9.heap.size ≤ b)) A' c' xs := SIntsB.go (fun a v hb ha => (World.cell?_of_block (hd.fr.block a.block (block_lt_of_cell ha) (fun e => by have := e.2; omega))).trans ha) (fun _ h => h) HW10.out
                have HWW := Lib.hid hww
                clear hd hbz hkz hww
                go_wp2_with fail
                refine (sameFunc_any f f _ _ wo (VFun.keep (kept_of_below HBZ.out) HVO5.out) (VFun.keep (kept_of_below (HB5.out.trans (HBZ.out.mono HB5.out.size))) HV.out)).mono ?_
                rintro e wa ⟨rfl, hba⟩
                have hse : same f f = true := same_yes rfl
                rw [hse]
                have hka := kept_of_below hba
                have o0 := hka _ _ o0
                have o1 := hka _ _ o1
                have o2 := hka _ _ o2
                have o3 := hka _ _ o3
                have HBA : Hid (Below w5.heap.size w5 wa) := Lib.hid (HBZ.out.trans (hba.mono HBZ.out.size))
                have HWA : Hid (SL wa 1 (RIntB (fun b => w9.heap.size ≤ b)) A' c' xs) := Lib.hid (SIntsB.go (fun a v hb ha => kept_of_below hba _ _ ha) (fun _ h => h) HWW.out)
                clear hba hka hse c0 c1 c2 c3 HWW
                go_wp2_with fail
                refine (nearest_any f _ wa (VFun.keep (kept_of_below HBA.out) HVO5.out) (by omega)).mono ?_
                rintro e wb ⟨⟨H2, rfl, hH2, hnr2, -⟩, hbb⟩
                have hkb := kept_of_below hbb
                have o0 := hkb _ _ o0
                have o1 := hkb _ _ o1
                have o2 := hkb _ _ o2
                have o3 := hkb _ _ o3
                have HBB : Hid (Below w5.heap.size w5 wb) := Lib.hid (HBA.out.trans (hbb.mono HBA.out.size))
                have HWB : Hid (SL wb 1 RInt A' c' xs) := Lib.hid (SL.imp RIntB.plain (SIntsB.go (fun a v hb ha => hkb _ _ ha) (fun _ h => h) HWA.out))
                have HNB2 : Hid (SL wb 1 RInt (some ⟨H2, 0, none⟩) f.blocks.length xs) := Lib.hid (by rw [← HXS.out]; exact sl_of_row hnr2 (by omega) (fun b hb => by have := HNX.out b hb; unfold I64; omega))
                clear hbb hkb hnr2 hH2 HWA
                go_wp2_with fail
                refine (sameInts_any xs xs _ _ wb ⟨_, _, by rw [hll], HNB2.out⟩ ⟨_, _, by rw [hll], HWB.out⟩).mono ?_
                rintro e wc ⟨rfl, q, rfl⟩
                rw [decide_eq_true (rfl : xs = xs)]
                have hkc : Kept wb (wb.drewN q) := kept_of_below (below_drewN (Below.refl _ _) q)
                have o0 := hkc _ _ o0
                have o1 := hkc _ _ o1
                have o2 := hkc _ _ o2
                have o3 := hkc _ _ o3
                have HBC : Hid (Below w5.heap.size w5 (wb.drewN q)) := Lib.hid (below_drewN HBB.out q)
                clear hkc
                generalize wb.drewN q = wc at *
                go_wp2_with fail
                refine (frontier_any f _ wc (VFun.keep (kept_of_below HBC.out) HVO5.out) (by omega)).mono ?_
                rintro e wd ⟨⟨G2, K2, V2, rfl, -, -, -, -, -⟩, hbd⟩
                have HBD : Hid (Below w.heap.size w wd) := Lib.hid (HB5.out.trans ((HBC.out.trans (hbd.mono HBC.out.size)).mono HB5.out.size))
                clear hbd
                go_wp2_with fail
                go_ret
                exact ⟨rfl, HBD.out⟩
end Go.Proofs.Ytooblmiffgjmjaa
