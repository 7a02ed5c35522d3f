/- What the copy of a module reads as, with one Ins more at one block. -/
import Derived.Test.YtcjmhdneelmbhaaCopyVJ
import Derived.Test.YtcjmhdneelmbhaaLfNJ
namespace Go.Proofs.Ytcjmhdneelmbhaa
open Go.ChangeShapes Go.WideShapes Go.RowKit Go.Deep
set_option linter.unusedVariables false

theorem Rows.readsW {α β : Type} {sz base : Nat} {F : α → List Value → Prop} {w w2 : World} {e : TypeId} {u : Value} {l : List α} {cs : List Value} {R : World → Nat → Nat → β → Prop} (h : Rows sz F l cs) (hown : w.ownsRow base e sz u l.length cs) {xs : List β} (hl : xs.length = l.length)
    (hR : ∀ g i x y c, u.ownBlock = some g → base ≤ g → l[i]? = some x → xs[i]? = some y → F x c → c.length = sz → (∀ j v, c[j]? = some v → w.cell? ⟨g, i * sz + j, none⟩ = some v) → R w2 g (i * sz) y) : VS w2 sz R u xs := by
  rcases hown.2 with ⟨rfl, h0⟩ | ⟨g, c, cur, rfl, hb, hh, hn, hc, hsz, ht⟩
  · exact ⟨none, 0, by rw [hl, h0], by omega, ⟨by unfold maxLen; omega, fun _ => rfl⟩, fun hp => by omega⟩
  · refine ⟨some ⟨g, 0, none⟩, c, by rw [hl], by omega, ⟨hc, fun e => by cases e⟩, fun _ => ⟨g, 0, rfl, fun i y hi => ?_⟩⟩
    have hil : i < l.length := by rw [← hl]; exact (List.getElem?_eq_some_iff.1 hi).1
    have hx : l[i]? = some l[i] := List.getElem?_eq_getElem hil
    obtain ⟨d, g1, g2, g3⟩ := h.at_ hx
    rw [Nat.zero_add]
    refine hR g i l[i] y d rfl hb hx hi g2 g1 (fun j v hj => ?_)
    have hjs : j < sz := by rw [← g1]; exact (List.getElem?_eq_some_iff.1 hj).1
    have hlt : i * sz + j < l.length * sz := by
      have h1 : (i + 1) * sz ≤ l.length * sz := Nat.mul_le_mul_right sz hil
      rw [Nat.succ_mul] at h1; omega
    rw [World.ownsRow.cellAt hown _ hlt]
    exact (g3 j hjs).trans hj
theorem vs_sl {α : Type} {w : World} {sz : Nat} {R : World → Nat → Nat → α → Prop} {A : Option Addr} {n c : Nat} {xs : List α} (h : VS w sz R (.slice A n c) xs) : SL w sz R A c xs := by
  obtain ⟨A', c', e, h1⟩ := h
  simp only [Value.slice.injEq] at e
  obtain ⟨rfl, -, rfl⟩ := e
  exact h1
theorem IR.sl {p hi : Nat} {w : World} {A : Option Addr} {c : Nat} {xs : List InsD} (h : IR p hi w A c xs) : SL w 5 RIns A c xs := by
  obtain ⟨cs, h1, -, h3⟩ := h
  exact vs_sl (h3.reads h1 (fun g o x c _ _ h5 _ h7 => RInsB.plain (B := fun _ => True) _ _ _ (CIns.reads trivial (CIns.go (KeptB.of (Kept.refl _)) (fun _ _ => trivial) h5) h7)))
theorem CBlkV.reads {w : World} {x : BlkU} {c : List Value} {g o : Nat} (h : CBlkV w x c) (hc : ∀ j v, c[j]? = some v → w.cell? ⟨g, o + j, none⟩ = some v) : RBlk w g o x.1 := by
  obtain ⟨p, Ap, cp, Ai, ci, At, ct, -, rfl, g1, g2, g3, g4, g5⟩ := h
  exact ⟨⟨Ap, cp, hc 0 _ rfl, SL.imp (fun b o x hv => ⟨hv.2.1, CSB.plain RIntB.plain hv.2.2⟩) g1⟩, ⟨Ai, ci, hc 1 _ rfl, g2.sl⟩, ⟨hc 2 _ rfl, g4⟩, ⟨hc 3 _ rfl, g5⟩, ⟨At, ct, hc 4 _ rfl, SL.imp RIntB.plain g3⟩⟩
theorem CFunV.reads {w : World} {x : FunU} {c : List Value} {g o : Nat} (h : CFunV w x c) (hc : ∀ j v, c[j]? = some v → w.cell? ⟨g, o + j, none⟩ = some v) : RFun w g o x.1 := by
  obtain ⟨Ar, cr, Ab, cb, Mid, l, cs2, rfl, -, hs, ⟨hl, -⟩, ⟨ho, -, hrw⟩, h1, h2⟩ := h
  have hll : x.1.blocks.length = l.length := by rw [← hl, List.length_map]
  refine ⟨⟨hc 0 _ rfl, h1⟩, ⟨hc 1 _ rfl, h2⟩, ⟨Ar, cr, hc 2 _ rfl, SL.imp RIntB.plain hs⟩, Ab, cb, hc 3 _ rfl, ?_⟩
  refine vs_sl (Rows.readsW (w2 := w) (xs := x.1.blocks) hrw (by rw [← hll]; exact ho) hll fun g i y z c _ _ hy hz hv hcl hcc => ?_)
  rw [← hl, List.getElem?_map, hy] at hz
  rw [← Option.some.inj hz]
  exact hv.2.2.reads hcc

theorem pw_apart {α : Type} {l : List (α × Nat × Nat)} (h : l.Pairwise (fun a b => a.2.2 ≤ b.2.1)) {i j : Nat} {x y : α × Nat × Nat} (hx : l[i]? = some x) (hy : l[j]? = some y) (hij : i ≠ j) : x.2.2 ≤ y.2.1 ∨ y.2.2 ≤ x.2.1 := by
  obtain ⟨hi, rfl⟩ := List.getElem?_eq_some_iff.1 hx
  obtain ⟨hj, rfl⟩ := List.getElem?_eq_some_iff.1 hy
  rw [List.pairwise_iff_getElem] at h
  rcases Nat.lt_or_ge i j with k | k
  · exact .inl (h i j hi hj k)
  · exact .inr (h j i hj hi (by omega))
theorem parts_put {K : Nat} {w : World} {u : Value} {m : List FunD} {cs : List Value} (ho : w.ownsRow K 43 4 u m.length cs) (h : RowsF K u w m cs) {n : Nat} {f : FunD} (hf : m[n]? = some f) {B : Nat} {kb : BlkD} (hk : f.blocks[B]? = some kb) :
    ∃ g cap Ar cr gb cb p hi Ap cp Ai ci At ct, u = .slice (some ⟨g, 0, none⟩) m.length cap ∧
      (w.cell? ⟨g, n * 4 + 2, none⟩ = some (.slice Ar f.regs.length cr) ∧ SL w 1 RInt Ar cr f.regs) ∧ w.cell? ⟨g, n * 4 + 3, none⟩ = some (.slice (some ⟨gb, 0, none⟩) f.blocks.length cb) ∧
      (w.cell? ⟨gb, B * 5, none⟩ = some (.slice Ap kb.phis.length cp) ∧ w.cell? ⟨gb, B * 5 + 1, none⟩ = some (.slice Ai kb.ins.length ci) ∧ w.cell? ⟨gb, B * 5 + 2, none⟩ = some (.int .i64 kb.term.kind) ∧ w.cell? ⟨gb, B * 5 + 3, none⟩ = some (.int .i64 kb.term.arg) ∧ w.cell? ⟨gb, B * 5 + 4, none⟩ = some (.slice At kb.term.to.length ct)) ∧
      (∀ j, w.frozen? ⟨gb, j, none⟩ = false) ∧ IR p hi w Ai ci kb.ins ∧ (K ≤ p ∧ p ≤ hi ∧ hi ≤ w.heap.size ∧ gb < w.heap.size ∧ K ≤ gb ∧ (gb < p ∨ hi ≤ gb) ∧ (g < p ∨ hi ≤ g) ∧ g < w.heap.size ∧ gb ≠ g) ∧
      ∀ w2 A2 c2 x, (∀ y, y < w.heap.size → y ≠ gb → (Value.slice Ai kb.ins.length ci).ownBlock ≠ some y → w2.heap[y]? = w.heap[y]?) → (∀ j v, j ≠ B * 5 + 1 → w.cell? ⟨gb, j, none⟩ = some v → w2.cell? ⟨gb, j, none⟩ = some v) →
        w2.cell? ⟨gb, B * 5 + 1, none⟩ = some (.slice A2 (kb.ins ++ [x]).length c2) → SL w2 5 RIns A2 c2 (kb.ins ++ [x]) → VMod w2 (.agg #[u]) (m.set n { f with blocks := f.blocks.set B { kb with ins := kb.ins ++ [x] } }) := by
  obtain ⟨l, hl, hiv, hrv⟩ := h
  have hll : m.length = l.length := by rw [← hl, List.length_map]
  have hn := (List.getElem?_eq_some_iff.1 hf).1
  obtain ⟨⟨f', lo, hi⟩, hx⟩ : ∃ x, l[n]? = some x := ⟨_, List.getElem?_eq_getElem (by omega)⟩
  obtain rfl : f' = f := by
    rw [← hl, List.getElem?_map, hx] at hf
    exact Option.some.inj hf
  obtain ⟨g, cap, rfl⟩ : ∃ g cap, u = .slice (some ⟨g, 0, none⟩) m.length cap := by
    rcases ho.2 with ⟨_, h0⟩ | ⟨g, c, cur, e, -⟩
    · omega
    · exact ⟨g, c, e⟩
  obtain ⟨c4, hc4, ⟨⟨hK, hhi⟩, hnu, hcv⟩, hcc⟩ := hrv.at_ hx
  have hcell : ∀ j v, c4[j]? = some v → w.cell? ⟨g, n * 4 + j, none⟩ = some v := fun j v hj => by
    have hj4 : j < 4 := by rw [← hc4]; exact (List.getElem?_eq_some_iff.1 hj).1
    rw [World.ownsRow.cellAt ho _ (by omega)]
    exact (hcc j hj4).trans hj
  have hcv0 := hcv
  obtain ⟨Ar, cr, Ab, cb, Mid, lb, cs2, rfl, ⟨hM1, hM2⟩, hs, ⟨hlb, hib⟩, ⟨hob, hgb, hrb⟩, h1, h2⟩ := hcv
  dsimp only at hK hhi hnu hM1 hM2 hs hlb hib hob hgb hrb h1 h2 hcell
  have hlbl : f'.blocks.length = lb.length := by rw [← hlb, List.length_map]
  have hB := (List.getElem?_eq_some_iff.1 hk).1
  obtain ⟨⟨kb', blo, bhi⟩, hxb⟩ : ∃ x, lb[B]? = some x := ⟨_, List.getElem?_eq_getElem (by omega)⟩
  obtain rfl : kb' = kb := by
    rw [← hlb, List.getElem?_map, hxb] at hk
    exact Option.some.inj hk
  obtain ⟨gb, hAb⟩ : ∃ gb, Ab = some ⟨gb, 0, none⟩ := by
    rcases hob.2 with ⟨_, h0⟩ | ⟨g, c, cur, e, -⟩
    · omega
    · simp only [Value.slice.injEq] at e
      exact ⟨g, e.1⟩
  subst hAb
  obtain ⟨c5, hc5, ⟨⟨hMb, hbhi⟩, hnub, hbv⟩, hcc5⟩ := hrb.at_ hxb
  have hcell5 : ∀ j v, c5[j]? = some v → w.cell? ⟨gb, B * 5 + j, none⟩ = some v := fun j v hj => by
    have hj4 : j < 5 := by rw [← hc5]; exact (List.getElem?_eq_some_iff.1 hj).1
    rw [World.ownsRow.cellAt hob _ (by omega)]
    exact (hcc5 j hj4).trans hj
  obtain ⟨p, Ap, cp, Ai, ci, At, ct, ⟨hp1, hp2⟩, rfl, g1, g2, g3, g4, g5⟩ := hbv
  dsimp only at hMb hbhi hnub hp1 hp2 g1 g2 g3 g4 g5 hcell5
  have hgblt := hob.lt gb rfl
  have hgbhi : gb < hi := hgb gb rfl
  have hgne : gb ≠ g := fun e => hnu gb (by omega) hgbhi (by rw [e]; rfl)
  have hgi : ∀ y, (Value.slice Ai kb'.ins.length ci).ownBlock = some y → p ≤ y ∧ y < bhi := fun y hy => by
    obtain ⟨_, q1, q2, -⟩ := g2
    exact ⟨(q1.lt y hy).1, q2 y hy⟩
  refine ⟨g, cap, Ar, cr, gb, cb, p, bhi, Ap, cp, Ai, ci, At, ct, rfl, ⟨hcell 2 _ rfl, SL.imp RIntB.plain hs⟩, hcell 3 _ rfl, ⟨hcell5 0 _ rfl, hcell5 1 _ rfl, hcell5 2 _ rfl, hcell5 3 _ rfl, hcell5 4 _ rfl⟩, fun j => (FzC.own hob rfl).free j, g2,
    ⟨by omega, by omega, by omega, hgblt.2, by omega, ?_, ?_, (ho.lt g rfl).2, hgne⟩, fun w2 A2 c2 x hw2 hgbc hgb1 hins => ?_⟩
  · rcases Nat.lt_or_ge gb p with h | h
    · exact .inl h
    · exact .inr (Nat.le_of_not_lt fun h' => hnub gb (by omega) h' rfl)
  · rcases Nat.lt_or_ge g p with h | h
    · exact .inl h
    · exact .inr (Nat.le_of_not_lt fun h' => hnu g (by omega) (by omega) rfl)
  · have hg2 : w2.heap[g]? = w.heap[g]? := hw2 g (ho.lt g rfl).2 (fun e => hgne e.symm) (fun e => by
      have h3 := hgi g e
      exact hnu g (by omega) (by omega) rfl)
    refine ⟨some ⟨g, 0, none⟩, cap, by rw [List.length_set], vs_sl (Rows.readsW (w2 := w2) (xs := m.set n { f' with blocks := f'.blocks.set B { kb' with ins := kb'.ins ++ [x] } }) hrv (by rw [← hll]; exact ho) (by rw [List.length_set, hll]) fun g' i z y c hg' _ hzi hyi hv hcl hcc' => ?_)⟩
    obtain rfl : g = g' := Option.some.inj hg'
    have hcc2 : ∀ j v, c[j]? = some v → w2.cell? ⟨g, i * 4 + j, none⟩ = some v := fun j v hj => (World.cell?_of_block (a := ⟨g, i * 4 + j, none⟩) hg2).trans (hcc' j v hj)
    by_cases e : i = n
    · subst e
      rw [List.getElem?_set_self hn] at hyi
      obtain rfl := Option.some.inj hyi
      have hc2 : ∀ j v, ([Value.int .i64 f'.params, .int .i64 f'.result, .slice Ar f'.regs.length cr, .slice (some ⟨gb, 0, none⟩) f'.blocks.length cb] : List Value)[j]? = some v → w2.cell? ⟨g, i * 4 + j, none⟩ = some v := fun j v hj => (World.cell?_of_block (a := ⟨g, i * 4 + j, none⟩) hg2).trans (hcell j v hj)
      refine ⟨⟨hc2 0 _ rfl, h1⟩, ⟨hc2 1 _ rfl, h2⟩, ⟨Ar, cr, hc2 2 _ rfl, SL.imp RIntB.plain (SIntsB.go (keptB_blocks (P := fun y => lo ≤ y ∧ y < Mid) fun y hy => hw2 y (by omega) (by omega) (fun e => by have := hgi y e; omega)) (fun _ q => q) hs)⟩, some ⟨gb, 0, none⟩, cb, ?_, ?_⟩
      · show w2.cell? ⟨g, i * 4 + 3, none⟩ = some (.slice _ (f'.blocks.set B _).length cb)
        rw [List.length_set]; exact hc2 3 _ rfl
      · refine vs_sl (Rows.readsW (w2 := w2) (xs := f'.blocks.set B { kb' with ins := kb'.ins ++ [x] }) hrb (by rw [← hlbl]; exact hob) (by rw [List.length_set, hlbl]) fun gq i' q y' c' hgq _ hqi hyi' hv' hcl' hccq => ?_)
        obtain rfl : gb = gq := Option.some.inj hgq
        by_cases e : i' = B
        · subst e
          rw [List.getElem?_set_self hB] at hyi'
          obtain rfl := Option.some.inj hyi'
          have hkp : KeptB (fun y => blo ≤ y ∧ y < p) w w2 := keptB_blocks fun y hy => hw2 y (by omega) (fun e => hnub y (by omega) (by omega) (by rw [e]; rfl)) (fun e => by have := hgi y e; omega)
          exact ⟨⟨Ap, cp, hgbc _ _ (by omega) (hcell5 0 _ rfl), SL.imp (fun b o x hv => ⟨hv.2.1, CSB.plain RIntB.plain hv.2.2⟩) (SPhisS.go hkp (fun _ q => q) g1)⟩, ⟨A2, c2, hgb1, hins⟩, ⟨hgbc _ _ (by omega) (hcell5 2 _ rfl), g4⟩, ⟨hgbc _ _ (by omega) (hcell5 3 _ rfl), g5⟩, ⟨At, ct, hgbc _ _ (by omega) (hcell5 4 _ rfl), SL.imp RIntB.plain (SIntsB.go hkp (fun _ q => q) g3)⟩⟩
        · rw [List.getElem?_set_ne (fun e' => e e'.symm), ← hlb, List.getElem?_map, hqi] at hyi'
          rw [← Option.some.inj hyi']
          have hap := pw_apart hib.2 hqi hxb e
          dsimp only at hap
          have hq2 : CBlkV w2 q c' := hv'.2.2.go fun y a b => hw2 y (by have := hv'.1.2; omega) (fun e => hv'.2.1 y a b (by rw [e]; rfl)) (fun e => by have := hgi y e; omega)
          exact hq2.reads fun j v hj => by
            have hj5 : j < 5 := by rw [← hcl']; exact (List.getElem?_eq_some_iff.1 hj).1
            exact hgbc _ _ (by omega) (hccq j v hj)
    · rw [List.getElem?_set_ne (fun e' => e e'.symm), ← hl, List.getElem?_map, hzi] at hyi
      rw [← Option.some.inj hyi]
      have hap := pw_apart hiv.2 hzi hx e
      dsimp only at hap
      have hq2 : CFunV w2 z c := hv.2.2.go fun y a b => hw2 y (by have := hv.1.2; omega) (fun e => by omega) (fun e => by have := hgi y e; omega)
      exact hq2.reads hcc2
end Go.Proofs.Ytcjmhdneelmbhaa

/- A row of Ins with one more, read in a later world. -/
namespace Go.Proofs.Ytcjmhdneelmbhaa
open Go.ChangeShapes Go.WideShapes Go.RowKit Go.Deep
set_option linter.unusedVariables false

theorem ins_more {p hi : Nat} {w w2 : World} {own : Option Nat} {xs : List InsD} {csi : List Value} (h : Rows 5 (CIns (fun x => (p ≤ x ∧ some x ≠ own) ∧ x < hi) w) xs csi) {g8 c2 : Nat} {r : Nat} {im : Int} (hr : I64 (r : Int)) (him : I64 im)
    (hown : w2.ownsRow p 46 5 (.slice (some ⟨g8, 0, none⟩) (xs.length + 1) c2) (xs.length + 1) (csi ++ [.int .i64 1, .int .i64 (r : Int), .slice none 0 0, .int .i64 im, .int .i64 0]))
    (hk : ∀ y, p ≤ y → y < hi → own ≠ some y → w2.heap[y]? = w.heap[y]?) : SL w2 5 RIns (some ⟨g8, 0, none⟩) c2 (xs ++ [⟨1, r, [], im, 0⟩]) := by
  have h2 : Rows 5 (CIns (fun _ => True) w2) xs csi := Rows.imp (fun x c hx => CIns.go (keptB_blocks fun y hy => hk y hy.1.1 hy.2 (fun e => hy.1.2 e.symm)) (fun _ _ => trivial) hx) h
  have h3 : Rows 5 (CIns (fun _ => True) w2) (xs ++ [⟨1, r, [], im, 0⟩]) (csi ++ [.int .i64 1, .int .i64 (r : Int), .slice none 0 0, .int .i64 im, .int .i64 0]) :=
    Rows.snoc (sz := 5) (F := CIns (fun _ => True) w2) ⟨none, 0, rfl, ⟨Nat.le_refl _, ⟨by unfold maxLen; omega, fun _ => rfl⟩, fun hp => absurd hp (by simp)⟩, by unfold I64; dsimp only; omega, hr, him, by unfold I64; dsimp only; omega⟩ rfl h2
  have hl : (xs ++ [(⟨1, r, [], im, 0⟩ : InsD)]).length = xs.length + 1 := by simp
  have h4 := Rows.reads (R := RIns) h3 (e := 46) (base := p) (u := .slice (some ⟨g8, 0, none⟩) (xs.length + 1) c2) (w := w2) (by rw [hl]; exact hown) (fun g o x c _ _ h5 _ h7 => RInsB.plain (B := fun _ => True) _ _ _ (CIns.reads trivial h5 h7))
  exact vs_sl h4
/-- Five cells are stored, of which one is another. -/
theorem five_cells {w : World} {gb o : Nat} {u0 u1 x u2 u3 u4 : Value} (h0 : w.cell? ⟨gb, o, none⟩ = some u0) (h1 : w.cell? ⟨gb, o + 1, none⟩ = some u1) (h2 : w.cell? ⟨gb, o + 2, none⟩ = some u2) (h3 : w.cell? ⟨gb, o + 3, none⟩ = some u3) (h4 : w.cell? ⟨gb, o + 4, none⟩ = some u4) {w' : World}
    (hw : w' = (((((w.setCell ⟨gb, o, none⟩ u0).setCell ⟨gb, o + 1, none⟩ x).setCell ⟨gb, o + 2, none⟩ u2).setCell ⟨gb, o + 3, none⟩ u3).setCell ⟨gb, o + 4, none⟩ u4).drew) :
    (∀ j, j ≠ o + 1 → w'.cell? ⟨gb, j, none⟩ = w.cell? ⟨gb, j, none⟩) ∧ w'.cell? ⟨gb, o + 1, none⟩ = some x ∧ (∀ y, y ≠ gb → w'.heap[y]? = w.heap[y]?) ∧ ∀ B a, B ≤ gb → Below B a w → Below B a w' := by
  have like : ∀ (v : World) (a : Addr) (u : Value), v.cell? a = some u → ∀ x, (v.setCell a u).cell? x = v.cell? x := fun v a u h x => by
    by_cases e : a = x
    · subst e; rw [World.cell?_setCell_same _ _ _ h, h]
    · exact World.cell?_setCell_other _ _ _ _ e
  obtain ⟨w1, hw1⟩ : ∃ w1, w1 = w.setCell ⟨gb, o, none⟩ u0 := ⟨_, rfl⟩
  obtain ⟨w2, hw2⟩ : ∃ w2, w2 = w1.setCell ⟨gb, o + 1, none⟩ x := ⟨_, rfl⟩
  obtain ⟨w3, hw3⟩ : ∃ w3, w3 = w2.setCell ⟨gb, o + 2, none⟩ u2 := ⟨_, rfl⟩
  obtain ⟨w4, hw4⟩ : ∃ w4, w4 = w3.setCell ⟨gb, o + 3, none⟩ u3 := ⟨_, rfl⟩
  obtain ⟨w5, hw5⟩ : ∃ w5, w5 = w4.setCell ⟨gb, o + 4, none⟩ u4 := ⟨_, rfl⟩
  rw [← hw1, ← hw2, ← hw3, ← hw4, ← hw5] at hw
  have k1 : ∀ a, w1.cell? a = w.cell? a := fun a => by rw [hw1]; exact like w _ _ h0 a
  have k2 : ∀ a : Addr, a.off ≠ o + 1 → w2.cell? a = w.cell? a := fun a h => by rw [hw2, World.cell?_setCell_other _ _ _ _ (fun e => h (by rw [← e])), k1]
  have k2' : w2.cell? ⟨gb, o + 1, none⟩ = some x := by rw [hw2]; exact World.cell?_setCell_same _ _ _ ((k1 _).trans h1)
  have k3 : ∀ a, w3.cell? a = w2.cell? a := fun a => by rw [hw3]; exact like w2 _ _ ((k2 _ (by show o + 2 ≠ o + 1; omega)).trans h2) a
  have k4 : ∀ a, w4.cell? a = w2.cell? a := fun a => by rw [hw4, ← k3 a]; exact like w3 _ _ ((k3 _).trans ((k2 _ (by show o + 3 ≠ o + 1; omega)).trans h3)) a
  have k5 : ∀ a, w5.cell? a = w2.cell? a := fun a => by rw [hw5, ← k4 a]; exact like w4 _ _ ((k4 _).trans ((k2 _ (by show o + 4 ≠ o + 1; omega)).trans h4)) a
  have hd : ∀ a, w'.cell? a = w5.cell? a := fun a => by rw [hw]; rfl
  refine ⟨fun j hj => (hd _).trans ((k5 _).trans (k2 _ hj)), (hd _).trans ((k5 _).trans k2'), fun y hy => ?_, fun B a hB hb => ?_⟩
  · have g1 : w1.heap[y]? = w.heap[y]? := by rw [hw1]; exact Below.heap_setCell _ _ _ _ hy
    have g2 : w2.heap[y]? = w1.heap[y]? := by rw [hw2]; exact Below.heap_setCell _ _ _ _ hy
    have g3 : w3.heap[y]? = w2.heap[y]? := by rw [hw3]; exact Below.heap_setCell _ _ _ _ hy
    have g4 : w4.heap[y]? = w3.heap[y]? := by rw [hw4]; exact Below.heap_setCell _ _ _ _ hy
    have g5 : w5.heap[y]? = w4.heap[y]? := by rw [hw5]; exact Below.heap_setCell _ _ _ _ hy
    have g6 : w'.heap[y]? = w5.heap[y]? := by rw [hw]; rfl
    rw [g6, g5, g4, g3, g2, g1]
  · have b1 : Below B a w1 := by rw [hw1]; exact hb.setCell hB _
    have b2 : Below B a w2 := by rw [hw2]; exact b1.setCell hB _
    have b3 : Below B a w3 := by rw [hw3]; exact b2.setCell hB _
    have b4 : Below B a w4 := by rw [hw4]; exact b3.setCell hB _
    have b5 : Below B a w5 := by rw [hw5]; exact b4.setCell hB _
    rw [hw]; exact b5.drew
end Go.Proofs.Ytcjmhdneelmbhaa

/- A step of the machine. (Written by gen/genmaco.py.) -/
namespace Go.Proofs.Ytcjmhdneelmbhaa
open Go.ChangeShapes Go.WideShapes Go.RowKit Go.Deep
set_option linter.unusedVariables false

theorem do_any (K P : Nat) (m : List FunD) (w : World) (s : St) (rd : List Int) (x : InsD) (Ax : Option Addr) (cx : Nat) (f : FunD) (h : Mac K P m w s rd) (hargs : SL w 1 (RIntB (Old K P)) Ax cx x.args)
    (hlen : x.args.length ≤ 1000) (hx64 : I64 x.op ∧ I64 x.dst ∧ I64 x.imm ∧ I64 x.fn) (hI : InsOk m f.regs.length x) (hall : ∀ g ∈ m, FunOk m g) (hf : m[s.cur.fn]? = some f) (hfz : ∀ i, f.regs.length ≤ i → s.cur.regs i = 0) (hsl : s.stack.length ≤ 1048576) (hol : s.out.length ≤ 1048576) :
    Calls Try.prog 62 #[.pointer (some ⟨P, 0, none⟩), .agg #[.int .i64 x.op, .int .i64 x.dst, .slice Ax x.args.length cx, .int .i64 x.imm, .int .i64 x.fn]] w (ToldM' K P m w (doS s x)) := by
  have hF := hall f (List.mem_of_getElem? hf)
  have hn := hF.nr
  have hin : ∀ r ∈ x.args, InR 256 r := fun r hr => ⟨(hI.1 r hr).1, by have := (hI.1 r hr).2; omega⟩
  have wide : ∀ {a : Int}, InR f.regs.length a → InR 256 a := fun h => ⟨h.1, by have := h.2; omega⟩
  rcases hI.2 with ⟨ho, hd⟩ | ⟨ho1, ho2, hl, hd⟩ | ⟨ho, hl, hd⟩ | ⟨ho, hl⟩ | ⟨ho, hl⟩ | ⟨ho, hfn, hl, hd⟩
  · exact do_const K P m w s rd x Ax cx h hargs hlen hin ho (wide hd)
  · exact do_rest K P m w s rd x Ax cx h hargs (by have : opArity x.op ≤ 2 := by { unfold opArity; split <;> first | omega | (split <;> omega) }; omega) hin ⟨ho1, ho2⟩ hl (wide hd) ⟨Ax, cx, rfl, SL.imp (fun b o y hy => hy.2) hargs, hx64⟩
  · exact do_load K P m w s rd x Ax cx h hargs (by omega) hin ho hl (wide hd)
  · exact do_store K P m w s rd x Ax cx h hargs (by omega) hin ho hl
  · exact do_out K P m w s rd x Ax cx h hargs (by omega) hin ho hl hol
  · have hG := hall _ (funAt_get hfn).2
    have h8 := hG.par.2.1
    exact do_call K P m w s rd x Ax cx h hargs (by omega) hin ho f hf hn hfz x.fn.toNat (by have := hfn.1; omega) (by omega) hsl

/-- The place moves on. -/
theorem mac_on {K P : Nat} {m : List FunD} {w : World} {s : St} {rd : List Int} (h : Mac K P m w s rd) : Mac K P m (w.setCell ⟨P, 2, none⟩ (.int .i64 ((s.cur.at_ : Int) + 1))) { s with cur := { s.cur with at_ := s.cur.at_ + 1 } } rd ∧ BB K P w (w.setCell ⟨P, 2, none⟩ (.int .i64 ((s.cur.at_ : Int) + 1))) := by
  obtain ⟨q, hb, he, hd, hP, hK⟩ := h
  have hb1 : MacB P (w.setCell ⟨P, 2, none⟩ (.int .i64 ((s.cur.at_ : Int) + 1))) { s with cur := { s.cur with at_ := s.cur.at_ + 1 } } q := hb.set (set_place (by omega) (by
      show Value.int .i64 ((s.cur.at_ + 1 : Nat) : Int) = _
      rw [Int.natCast_add]; rfl) (fun j hj hne => by
      unfold placeC
      by_cases h : j = 0
      · rw [if_pos h, if_pos h]
      · rw [if_neg h, if_neg h, if_pos (by omega), if_pos (by omega)]) rfl rfl (fun _ => rfl))
  exact ⟨mac_of hb1 he hd hP hK (by simp [World.setCell]) (fun k hk hne => set_others k hk hne) rfl rfl rfl, (BB.refl K P w).setCell (p := ⟨P, 2, none⟩) (.inl rfl) _⟩

set_option maxRecDepth 100000 in
set_option maxHeartbeats 8000000 in
theorem step_any (K P : Nat) (m : List FunD) (w : World) (s : St) (rd : List Int) (h : Mac K P m w s rd) (hall : ∀ g ∈ m, FunOk m g) (hsm : ∀ g ∈ m, ∀ b ∈ g.blocks, ∀ x ∈ b.ins, x.args.length ≤ 1000) (hok : OkS m s) (hsl : s.stack.length ≤ 1048576) (hol : s.out.length ≤ 1048576) :
    Calls Try.prog 44 #[.pointer (some ⟨P, 0, none⟩)] w (ToldM' K P m w (stepS m s)) := by
  obtain ⟨⟨f, kb, hoc⟩, hst⟩ := hok
  have hF := hall f (List.mem_of_getElem? hoc.hf)
  have H0 := Lib.hid h
  obtain ⟨q, hb, he, hd, hP, hK⟩ := h
  obtain ⟨b, o, c, f', hvf, hf', ⟨-, -, -, -, ⟨Ab, cb, hblkc, hbs⟩⟩⟩ := he.fun_ (List.getElem?_eq_some_iff.1 hoc.hf).1
  obtain rfl : f = f' := Option.some.inj (hoc.hf.symm.trans hf'.out)
  obtain ⟨b2, o2, kb', rfl, hkb, ⟨-, ⟨Ap, cp, x0, -⟩, ⟨Ai, ci, x1, hins⟩, ⟨x2, y2⟩, ⟨x3, y3⟩, ⟨At, ct, x4, htos⟩⟩⟩ := hbs.at_ (List.getElem?_eq_some_iff.1 hoc.hb).1
  obtain rfl : kb = kb' := Option.some.inj (hoc.hb.symm.trans hkb.out)
  have cf : w.cell? ⟨P, 260, none⟩ = some (.slice (some ⟨b, o, none⟩) m.length c) := (hb.cell (by omega)).trans (congrArg some hvf)
  have c0 : w.cell? ⟨P, 0, none⟩ = some (.int .i64 s.cur.fn) := hb.cell (by omega)
  have c1 : w.cell? ⟨P, 1, none⟩ = some (.int .i64 s.cur.blk) := hb.cell (by omega)
  have cat : w.cell? ⟨P, 2, none⟩ = some (.int .i64 s.cur.at_) := hb.cell (by omega)
  have k1 : (0 : Int) ≤ s.cur.fn := by omega
  have k2 : (s.cur.fn : Int) < m.length := by have := (List.getElem?_eq_some_iff.1 hoc.hf).1; omega
  have k3 : (0 : Int) ≤ s.cur.blk := by omega
  have k4 : (s.cur.blk : Int) < f.blocks.length := by have := (List.getElem?_eq_some_iff.1 hoc.hb).1; omega
  have hi256 : kb.ins.length ≤ 256 := by have := hF.items kb (List.mem_of_getElem? hoc.hb); omega
  have HKB : Hid (blkOf m s.cur = kb) := Lib.hid (by unfold blkOf blkAt; rw [getD_of hoc.hf, getD_of hoc.hb])
  have HTO := Lib.hid htos
  have HINS := Lib.hid hins
  have HALL := Lib.hid hall
  have HSM := Lib.hid (fun x hx => hsm f (List.mem_of_getElem? hoc.hf) kb (List.mem_of_getElem? hoc.hb) x hx)
  have HOC := Lib.hid hoc
  have HST := Lib.hid hst
  have HFK := Lib.hid hF
  have H64 := Lib.hid (And.intro y2 y3)
  have HIL := Lib.hid hi256
  clear hb he hd hvf hf' hbs hkb hins htos hall hst hF y2 y3 hsm
  go_enter Try.func44, Try.ntmps44
  go_wp2_with fail
  refine wp_region_last (L := 20) (S := fun w' => w'.cell? ⟨P, 260, none⟩ = some (.slice (some ⟨b, o, none⟩) m.length c) ∧ w'.cell? ⟨P, 0, none⟩ = some (.int .i64 s.cur.fn) ∧ w'.cell? ⟨P, 1, none⟩ = some (.int .i64 s.cur.blk) ∧ w'.cell? ⟨b, o + s.cur.fn * 4 + 3, none⟩ = some (.slice (some ⟨b2, o2, none⟩) f.blocks.length cb) ∧ w'.cell? ⟨b2, o2 + s.cur.blk * 5, none⟩ = some (.slice Ap kb.phis.length cp) ∧ w'.cell? ⟨b2, o2 + s.cur.blk * 5 + 1, none⟩ = some (.slice Ai kb.ins.length ci) ∧ w'.cell? ⟨b2, o2 + s.cur.blk * 5 + 2, none⟩ = some (.int .i64 kb.term.kind) ∧ w'.cell? ⟨b2, o2 + s.cur.blk * 5 + 3, none⟩ = some (.int .i64 kb.term.arg) ∧ w'.cell? ⟨b2, o2 + s.cur.blk * 5 + 4, none⟩ = some (.slice At kb.term.to.length ct)) (by kernel_rfl) (by rfl) (by kernel_rfl) (by kernel_rfl) ?_
  change wpAnyH _ _ _ _ _ _ _ _ (World.drew _)
  have hS : ∀ w', Below w.heap.size w w' → w'.cell? ⟨P, 260, none⟩ = some (.slice (some ⟨b, o, none⟩) m.length c) ∧ w'.cell? ⟨P, 0, none⟩ = some (.int .i64 s.cur.fn) ∧ w'.cell? ⟨P, 1, none⟩ = some (.int .i64 s.cur.blk) ∧ w'.cell? ⟨b, o + s.cur.fn * 4 + 3, none⟩ = some (.slice (some ⟨b2, o2, none⟩) f.blocks.length cb) ∧ w'.cell? ⟨b2, o2 + s.cur.blk * 5, none⟩ = some (.slice Ap kb.phis.length cp) ∧ w'.cell? ⟨b2, o2 + s.cur.blk * 5 + 1, none⟩ = some (.slice Ai kb.ins.length ci) ∧ w'.cell? ⟨b2, o2 + s.cur.blk * 5 + 2, none⟩ = some (.int .i64 kb.term.kind) ∧ w'.cell? ⟨b2, o2 + s.cur.blk * 5 + 3, none⟩ = some (.int .i64 kb.term.arg) ∧ w'.cell? ⟨b2, o2 + s.cur.blk * 5 + 4, none⟩ = some (.slice At kb.term.to.length ct) := fun w' h => ⟨kept_of_below h _ _ cf, kept_of_below h _ _ c0, kept_of_below h _ _ c1, kept_of_below h _ _ hblkc, kept_of_below h _ _ x0, kept_of_below h _ _ x1, kept_of_below h _ _ x2, kept_of_below h _ _ x3, kept_of_below h _ _ x4⟩
  have hS0 := hS w.drew (Below.refl _ _).drew
  clear cf c0 c1 hblkc x0 x1 x2 x3 x4
  refine takeH (i := 0) (some 3) (v := ?_) rfl (by kernel_rfl) (by kernel_rfl) (by kernel_rfl) (fun _ _ _ h => h) hS0 (fun o ho => ?_) ?_
  rotate_left
  · simp only [List.getElem?_toArray, List.getElem?_cons_zero, Option.some.injEq] at ho; subst ho; refine Or.inl ⟨by rfl, fun w' hSw => ?_⟩; (try dsimp only at hSw); go_simp; try with_reducible rfl
  simp only [Act.put, List.setIfInBounds_toArray, List.set_cons_zero, List.set_cons_succ]
  refine takeH (i := 1) (some 4) (v := ?_) rfl (by kernel_rfl) (by kernel_rfl) (by kernel_rfl) (fun _ _ _ h => h) hS0 (fun o ho => ?_) ?_
  rotate_left
  · simp only [List.getElem?_toArray, List.getElem?_cons_zero, List.getElem?_cons_succ, Option.some.injEq] at ho; subst ho; refine Or.inl ⟨by rfl, fun w' hSw => ?_⟩; (try dsimp only at hSw); go_simp; try with_reducible rfl
  simp only [Act.put, List.setIfInBounds_toArray, List.set_cons_zero, List.set_cons_succ]
  refine takeH (i := 2) (some 5) (v := ?_) rfl (by kernel_rfl) (by kernel_rfl) (by kernel_rfl) (fun _ _ _ h => h) hS0 (fun o ho => ?_) ?_
  rotate_left
  · simp only [List.getElem?_toArray, List.getElem?_cons_zero, List.getElem?_cons_succ, Option.some.injEq] at ho; subst ho; refine Or.inl ⟨by rfl, fun w' hSw => ?_⟩; (try dsimp only at hSw); go_simp; try with_reducible rfl
  simp only [Act.put, List.setIfInBounds_toArray, List.set_cons_zero, List.set_cons_succ]
  refine takeH (i := 3) (some 6) (v := ?_) rfl (by kernel_rfl) (by kernel_rfl) (by kernel_rfl) (fun _ _ _ h => h) hS0 (fun o ho => ?_) ?_
  rotate_left
  · simp only [List.getElem?_toArray, List.getElem?_cons_zero, List.getElem?_cons_succ, Option.some.injEq] at ho; subst ho; refine Or.inl ⟨by rfl, fun w' hSw => ?_⟩; (try dsimp only at hSw); go_simp; try with_reducible rfl
  simp only [Act.put, List.setIfInBounds_toArray, List.set_cons_zero, List.set_cons_succ]
  refine takeH (i := 4) (some 7) (v := ?_) rfl (by kernel_rfl) (by kernel_rfl) (by kernel_rfl) (fun _ _ _ h => h) hS0 (fun o ho => ?_) ?_
  rotate_left
  · simp only [List.getElem?_toArray, List.getElem?_cons_zero, List.getElem?_cons_succ, Option.some.injEq] at ho; subst ho; refine Or.inl ⟨by rfl, fun w' hSw => ?_⟩; (try dsimp only at hSw); go_simp; try with_reducible rfl
  simp only [Act.put, List.setIfInBounds_toArray, List.set_cons_zero, List.set_cons_succ]
  refine takeH (i := 5) (some 8) (v := ?_) rfl (by kernel_rfl) (by kernel_rfl) (by kernel_rfl) (fun _ _ _ h => h) hS0 (fun o ho => ?_) ?_
  rotate_left
  · simp only [List.getElem?_toArray, List.getElem?_cons_zero, List.getElem?_cons_succ, Option.some.injEq] at ho; subst ho; refine Or.inl ⟨by rfl, fun w' hSw => ?_⟩; (try dsimp only at hSw); go_simp; try with_reducible rfl
  simp only [Act.put, List.setIfInBounds_toArray, List.set_cons_zero, List.set_cons_succ]
  refine takeH (i := 6) (some 9) (v := ?_) rfl (by kernel_rfl) (by kernel_rfl) (by kernel_rfl) (fun _ _ _ h => h) hS0 (fun o ho => ?_) ?_
  rotate_left
  · simp only [List.getElem?_toArray, List.getElem?_cons_zero, List.getElem?_cons_succ, Option.some.injEq] at ho; subst ho; refine Or.inl ⟨by rfl, fun w' hSw => ?_⟩; (try dsimp only at hSw); go_simp; try with_reducible rfl
  simp only [Act.put, List.setIfInBounds_toArray, List.set_cons_zero, List.set_cons_succ]
  refine takeH (i := 7) (some 10) (v := ?_) rfl (by kernel_rfl) (by kernel_rfl) (by kernel_rfl) (fun _ _ _ h => h) hS0 (fun o ho => ?_) ?_
  rotate_left
  · simp only [List.getElem?_toArray, List.getElem?_cons_zero, List.getElem?_cons_succ, Option.some.injEq] at ho; subst ho; refine Or.inl ⟨by rfl, fun w' hSw => ?_⟩; (try dsimp only at hSw); go_simp; try with_reducible rfl
  simp only [Act.put, List.setIfInBounds_toArray, List.set_cons_zero, List.set_cons_succ]
  refine takeH (i := 8) (some 11) (v := ?_) rfl (by kernel_rfl) (by kernel_rfl) (by kernel_rfl) (fun _ _ _ h => h) hS0 (fun o ho => ?_) ?_
  rotate_left
  · simp only [List.getElem?_toArray, List.getElem?_cons_zero, List.getElem?_cons_succ, Option.some.injEq] at ho; subst ho; refine Or.inl ⟨by rfl, fun w' hSw => ?_⟩; (try dsimp only at hSw); go_simp; try with_reducible rfl
  simp only [Act.put, List.setIfInBounds_toArray, List.set_cons_zero, List.set_cons_succ]
  refine takeH (i := 9) (some 12) (v := ?_) rfl (by kernel_rfl) (by kernel_rfl) (by kernel_rfl) (fun _ _ _ h => h) hS0 (fun o ho => ?_) ?_
  rotate_left
  · simp only [List.getElem?_toArray, List.getElem?_cons_zero, List.getElem?_cons_succ, Option.some.injEq] at ho; subst ho; refine Or.inl ⟨by rfl, fun w' hSw => ?_⟩; (try dsimp only at hSw); go_simp; try with_reducible rfl
  simp only [Act.put, List.setIfInBounds_toArray, List.set_cons_zero, List.set_cons_succ]
  refine takeH (i := 10) (some 13) (v := ?_) rfl (by kernel_rfl) (by kernel_rfl) (by kernel_rfl) (fun _ _ _ h => h) hS0 (fun o ho => ?_) ?_
  rotate_left
  · simp only [List.getElem?_toArray, List.getElem?_cons_zero, List.getElem?_cons_succ, Option.some.injEq] at ho; subst ho; refine Or.inl ⟨by rfl, fun w' hSw => ?_⟩; (try dsimp only at hSw); go_simp; try with_reducible rfl
  simp only [Act.put, List.setIfInBounds_toArray, List.set_cons_zero, List.set_cons_succ]
  refine takeH (i := 11) (some 14) (v := ?_) rfl (by kernel_rfl) (by kernel_rfl) (by kernel_rfl) (fun _ _ _ h => h) hS0 (fun o ho => ?_) ?_
  rotate_left
  · simp only [List.getElem?_toArray, List.getElem?_cons_zero, List.getElem?_cons_succ, Option.some.injEq] at ho; subst ho; refine Or.inl ⟨by rfl, fun w' hSw => ?_⟩; (try dsimp only at hSw); go_simp; try with_reducible rfl
  simp only [Act.put, List.setIfInBounds_toArray, List.set_cons_zero, List.set_cons_succ]
  refine takeH (i := 12) (some 15) (v := ?_) rfl (by kernel_rfl) (by kernel_rfl) (by kernel_rfl) (fun _ _ _ h => h) hS0 (fun o ho => ?_) ?_
  rotate_left
  · simp only [List.getElem?_toArray, List.getElem?_cons_zero, List.getElem?_cons_succ, Option.some.injEq] at ho; subst ho; refine Or.inl ⟨by rfl, fun w' hSw => ?_⟩; (try dsimp only at hSw); go_simp; try with_reducible rfl
  simp only [Act.put, List.setIfInBounds_toArray, List.set_cons_zero, List.set_cons_succ]
  refine takeH (i := 13) (some 16) (v := ?_) rfl (by kernel_rfl) (by kernel_rfl) (by kernel_rfl) (fun _ _ _ h => h) hS0 (fun o ho => ?_) ?_
  rotate_left
  · simp only [List.getElem?_toArray, List.getElem?_cons_zero, List.getElem?_cons_succ, Option.some.injEq] at ho; subst ho; refine Or.inl ⟨by rfl, fun w' hSw => ?_⟩; (try dsimp only at hSw); go_simp; try with_reducible rfl
  simp only [Act.put, List.setIfInBounds_toArray, List.set_cons_zero, List.set_cons_succ]
  refine takeH (i := 14) (some 17) (v := ?_) rfl (by kernel_rfl) (by kernel_rfl) (by kernel_rfl) (fun _ _ _ h => h) hS0 (fun o ho => ?_) ?_
  rotate_left
  · simp only [List.getElem?_toArray, List.getElem?_cons_zero, List.getElem?_cons_succ, Option.some.injEq] at ho; subst ho; refine Or.inl ⟨by rfl, fun w' hSw => ?_⟩; (try dsimp only at hSw); go_simp; try with_reducible rfl
  simp only [Act.put, List.setIfInBounds_toArray, List.set_cons_zero, List.set_cons_succ]
  refine takeH (i := 15) (some 18) (v := ?_) rfl (by kernel_rfl) (by kernel_rfl) (by kernel_rfl) (fun _ _ _ h => h) hS0 (fun o ho => ?_) ?_
  rotate_left
  · simp only [List.getElem?_toArray, List.getElem?_cons_zero, List.getElem?_cons_succ, Option.some.injEq] at ho; subst ho; refine Or.inl ⟨by rfl, fun w' hSw => ?_⟩; (try dsimp only at hSw); go_simp; try with_reducible rfl
  simp only [Act.put, List.setIfInBounds_toArray, List.set_cons_zero, List.set_cons_succ]
  refine takeH (i := 16) (some 19) (v := ?_) rfl (by kernel_rfl) (by kernel_rfl) (by kernel_rfl) (fun _ _ _ h => h) hS0 (fun o ho => ?_) ?_
  rotate_left
  · simp only [List.getElem?_toArray, List.getElem?_cons_zero, List.getElem?_cons_succ, Option.some.injEq] at ho; subst ho; refine Or.inl ⟨by rfl, fun w' hSw => ?_⟩; (try dsimp only at hSw); go_simp; try with_reducible rfl
  simp only [Act.put, List.setIfInBounds_toArray, List.set_cons_zero, List.set_cons_succ]
  refine takeH (i := 17) (some 20) (v := ?_) rfl (by kernel_rfl) (by kernel_rfl) (by kernel_rfl) (fun _ _ _ h => h) hS0 (fun o ho => ?_) ?_
  rotate_left
  · simp only [List.getElem?_toArray, List.getElem?_cons_zero, List.getElem?_cons_succ, Option.some.injEq] at ho; subst ho; refine Or.inl ⟨by rfl, fun w' hSw => ?_⟩; (try dsimp only at hSw); go_simp; try with_reducible rfl
  simp only [Act.put, List.setIfInBounds_toArray, List.set_cons_zero, List.set_cons_succ]
  refine takeH (i := 18) (some 21) (v := ?_) rfl (by kernel_rfl) (by kernel_rfl) (by kernel_rfl) (fun _ _ _ h => h) hS0 (fun o ho => ?_) ?_
  rotate_left
  · simp only [List.getElem?_toArray, List.getElem?_cons_zero, List.getElem?_cons_succ, Option.some.injEq] at ho; subst ho; refine Or.inl ⟨by rfl, fun w' hSw => ?_⟩; (try dsimp only at hSw); go_simp; try with_reducible rfl
  simp only [Act.put, List.setIfInBounds_toArray, List.set_cons_zero, List.set_cons_succ]
  refine oneH (i := 19) (by kernel_rfl) (fun o ho K' hK => ?_)
  simp only [List.getElem?_toArray, List.getElem?_cons_zero, List.getElem?_cons_succ, Option.some.injEq] at ho; subst ho
  go_simp
  have hb8 : Below w.heap.size w (w.alloc (.cells #[.slice none 0 0, .slice none 0 0, .int .i64 0, .int .i64 0, .slice none 0 0] 40)).drew := ((Below.refl _ w).alloc (Nat.le_refl _) _).drew
  refine hK.out _ _ (hS _ hb8) ?_
  clear hK K'
  refine wpAnyH_done (by kernel_rfl) ?_ _
  refine lastH (by decide) (fun o ho K' hK => ?_)
  simp only [List.getElem?_toArray, List.getElem?_cons_zero, List.getElem?_cons_succ, Option.some.injEq] at ho; subst ho
  go_simp
  refine hK.out _ _ ?_
  clear hK K'
  obtain ⟨w5, hw5, hs5, hk5, hB5, hc5, hf5⟩ := named w #[.slice Ap kb.phis.length cp, .slice Ai kb.ins.length ci, .int .i64 kb.term.kind, .int .i64 kb.term.arg, .slice At kb.term.to.length ct] 40
  have HM5 : Hid (Mac K P m w5.drew s rd) := Lib.hid ((H0.out.below hB5).drewN 1)
  have HBB5 : Hid (BB K P w w5.drew) := Lib.hid ((box_bb H0.out hB5).drewN 1)
  have d1 : w5.drew.cell? ⟨w.heap.size, 1, none⟩ = some (.slice Ai kb.ins.length ci) := hc5 1 _ rfl
  have d2 : w5.drew.cell? ⟨w.heap.size, 2, none⟩ = some (.int .i64 kb.term.kind) := hc5 2 _ rfl
  have d3 : w5.drew.cell? ⟨w.heap.size, 3, none⟩ = some (.int .i64 kb.term.arg) := hc5 3 _ rfl
  have d4 : w5.drew.cell? ⟨w.heap.size, 4, none⟩ = some (.slice At kb.term.to.length ct) := hc5 4 _ rfl
  have cat5 : w5.drew.cell? ⟨P, 2, none⟩ = some (.int .i64 s.cur.at_) := hk5 _ _ cat
  have fat5 : w5.drew.frozen? ⟨P, 2, none⟩ = false := by obtain ⟨q, hb, _⟩ := HM5.out; exact hb.free 2
  have HVT : Hid (SL w5.drew 1 RInt At ct kb.term.to) := Lib.hid (SL.imp (w' := w5.drew) (fun b o y hy => ⟨hk5 _ _ hy.2.1, hy.2.2⟩) HTO.out)
  have HIN5 : Hid (SL w5.drew 5 (RInsB (Old K P)) Ai ci kb.ins) := Lib.hid (SInssB.go (w' := w5.drew) (KeptB.of hk5) (fun _ h => h) HINS.out)
  have hPB : P < w.heap.size := H0.out.lt
  have hBS : w.heap.size < w5.drew.heap.size := by show _ < w5.heap.size; omega
  rw [← hw5]
  clear hw5 hs5 hk5 hB5 hc5 hf5 hS hS0 hb8 H0 HTO HINS cat
  generalize w5.drew = w6 at *
  by_cases hat : s.cur.at_ = kb.ins.length
  · have hab : ((s.cur.at_ : Int) == (kb.ins.length : Int)) = true := by rw [hat]; simp
    have HE : Hid (stepS m s = endS m s kb.term) := Lib.hid (by unfold stepS; rw [HKB.out, if_pos hat])
    have HEN := Lib.hid (fun n => end_any K P m (w6.drewN n) s rd f kb (.agg #[.int .i64 kb.term.kind, .int .i64 kb.term.arg, .slice At kb.term.to.length ct]) (HM5.out.drewN n) HFK.out HOC.out HST.out hsl ⟨At, ct, rfl, SL.imp (w' := w6.drewN n) (fun b o y hy => hy) HVT.out, H64.out⟩)
    clear hat k1 k2 k3 k4 hi256 hoc hP hK hsl hol
    go_wp2_with fail
    go_quiet (fail)
    go_wp2_with fail
    refine (HEN.out nq).mono ?_
    rintro e w7 ⟨rfl, z1, z2⟩
    go_wp2_with fail
    go_end0
    exact ⟨rfl, by rw [HE.out]; exact z1, (HBB5.out.drewN nq).trans z2⟩
  · have hab : ((s.cur.at_ : Int) == (kb.ins.length : Int)) = false := by rw [beq_eq_false_iff_ne]; omega
    have hlt : s.cur.at_ < kb.ins.length := by have := hoc.hat; omega
    obtain ⟨b3, o3, x, rfl, hx, ⟨hbo, ⟨i1, j1⟩, ⟨i2, j2⟩, ⟨Ax, cx, i3, hax⟩, ⟨i4, j4⟩, ⟨i5, j5⟩⟩⟩ := HIN5.out.at_ hlt
    have HE : Hid (stepS m s = doS { s with cur := { s.cur with at_ := s.cur.at_ + 1 } } x) := Lib.hid (by unfold stepS; rw [HKB.out, if_neg hat, getD_of hx.out])
    have HIO := Lib.hid (HFK.out.ins kb (List.mem_of_getElem? hoc.hb) x (List.mem_of_getElem? hx.out))
    have l0 : (0 : Int) ≤ s.cur.at_ := by omega
    have l1 : (s.cur.at_ : Int) < kb.ins.length := by omega
    have l2 : (kb.ins.length : Int) ≤ 256 := by omega
    have HX64 := Lib.hid (And.intro j1 (And.intro j2 (And.intro j4 j5)))
    have HAX := Lib.hid hax
    have HON := Lib.hid (mac_on HM5.out)
    have HLX := Lib.hid (HSM.out x (List.mem_of_getElem? hx.out))
    have HOCF := Lib.hid hoc.hf
    have HOCZ := Lib.hid hoc.zero
    have HSL := Lib.hid hsl
    have HOL := Lib.hid hol
    have hbk : b3 ≠ P := by have := hbo.2; exact this
    clear hat k1 k2 k3 k4 hi256 hP hK hlt hx j1 j2 j4 j5 hax hbo hoc hsl hol
    go_wp2_with fail
    go_quiet (fail)
    have cat6 : (w6.drewN nq).cell? ⟨P, 2, none⟩ = some (.int .i64 s.cur.at_) := cat5
    have fat6 : (w6.drewN nq).frozen? ⟨P, 2, none⟩ = false := fat5
    have HON6 := Lib.hid (mac_on (HM5.out.drewN nq))
    have HBB6 := Lib.hid (HBB5.out.drewN nq)
    have HD6 : Hid ((w6.drewN nq).cell? ⟨w.heap.size, 1, none⟩ = some (.slice (some ⟨b3, o3, none⟩) kb.ins.length ci)) := Lib.hid d1
    have HI6 : Hid ((w6.drewN nq).cell? ⟨b3, o3 + s.cur.at_ * 5, none⟩ = some (.int .i64 x.op) ∧ (w6.drewN nq).cell? ⟨b3, o3 + s.cur.at_ * 5 + 1, none⟩ = some (.int .i64 x.dst) ∧ (w6.drewN nq).cell? ⟨b3, o3 + s.cur.at_ * 5 + 2, none⟩ = some (.slice Ax x.args.length cx) ∧ (w6.drewN nq).cell? ⟨b3, o3 + s.cur.at_ * 5 + 3, none⟩ = some (.int .i64 x.imm) ∧ (w6.drewN nq).cell? ⟨b3, o3 + s.cur.at_ * 5 + 4, none⟩ = some (.int .i64 x.fn)) := Lib.hid ⟨i1, i2, i3, i4, i5⟩
    have HAX6 : Hid (SL (w6.drewN nq) 1 (RIntB (Old K P)) Ax cx x.args) := Lib.hid (SL.imp (w' := w6.drewN nq) (fun b o y hy => hy) HAX.out)
    have hBS6 : w.heap.size < (w6.drewN nq).heap.size := hBS
    clear d1 d2 d3 d4 cat5 fat5 i1 i2 i3 i4 i5 HAX HON HBB5 HM5 HIN5 HVT hBS
    generalize w6.drewN nq = w7 at *
    go_wp2_with fail
    have e8 : ∀ (bb oo : Nat) (u : Value), bb ≠ P → w7.cell? ⟨bb, oo, none⟩ = some u → (w7.setCell ⟨P, 2, none⟩ (.int .i64 ((s.cur.at_ : Int) + 1))).cell? ⟨bb, oo, none⟩ = some u := fun bb oo u hne hu => by
      rw [World.cell?_setCell_other _ _ _ _ (fun e => hne (by injection e.symm))]; exact hu
    have d1 := e8 _ _ _ (by omega) HD6.out
    have i1 := e8 _ _ _ hbk HI6.out.1
    have i2 := e8 _ _ _ hbk HI6.out.2.1
    have i3 := e8 _ _ _ hbk HI6.out.2.2.1
    have i4 := e8 _ _ _ hbk HI6.out.2.2.2.1
    have i5 := e8 _ _ _ hbk HI6.out.2.2.2.2
    have HM8 := Lib.hid HON6.out.1
    have HBB8 := Lib.hid (HBB6.out.trans HON6.out.2)
    have HAX8 := Lib.hid (SIntsB.go HON6.out.2.kept (fun _ h => h) HAX6.out)
    have cat8 : (w7.setCell ⟨P, 2, none⟩ (.int .i64 ((s.cur.at_ : Int) + 1))).cell? ⟨P, 2, none⟩ = some (.int .i64 ((s.cur.at_ : Int) + 1)) := by
      obtain ⟨q, hb, _⟩ := HM8.out
      exact (hb.cell (by omega)).trans (by show some (Value.int .i64 ((s.cur.at_ + 1 : Nat) : Int)) = _; rw [Int.natCast_add]; rfl)
    clear e8 cat6 fat6 HON6 HBB6 HD6 HI6 HAX6
    generalize w7.setCell ⟨P, 2, none⟩ (.int .i64 ((s.cur.at_ : Int) + 1)) = w8 at *
    have kw : IntKind.i64.wrap (s.cur.at_ : Int) = (s.cur.at_ : Int) := IntWalk.i64_in _ (by omega)
    go_still_tail 11, (by kernel_rfl)
    change wpList _ _ _ _ _ w8.drew
    have HDO := Lib.hid (do_any K P m w8.drew { s with cur := { s.cur with at_ := s.cur.at_ + 1 } } rd x Ax cx f (HM8.out.drewN 1) (SL.imp (w' := w8.drew) (fun b o y hy => hy) HAX8.out) HLX.out HX64.out HIO.out HALL.out HOCF.out HOCZ.out HSL.out HOL.out)
    have HBB9 : Hid (BB K P w w8.drew) := Lib.hid (HBB8.out.drewN 1)
    clear d1 i1 i2 i3 i4 i5 cat8 kw HM8 HBB8 HAX8 l0 l1 l2 hab
    generalize w8.drew = w9 at *
    go_wp2_with fail
    refine HDO.out.mono ?_
    rintro e w10 ⟨rfl, z1, z2⟩
    go_wp2_with fail
    go_end0
    exact ⟨rfl, by rw [HE.out]; exact z1, HBB9.out.trans z2⟩
end Go.Proofs.Ytcjmhdneelmbhaa
