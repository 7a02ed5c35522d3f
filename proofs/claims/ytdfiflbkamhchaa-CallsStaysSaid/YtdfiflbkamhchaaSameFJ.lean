/- The reference's Copy: a module in new memory. -/
import Derived.Test.YtdfiflbkamhchaaCopyJ
import Derived.Test.YtdfiflbkamhchaaAheadLJ
import Derived.Deep.QuietTactic
import Derived.BigQuiet
import Derived.StillTailTactics
namespace Go.Proofs.Ytdfiflbkamhchaa
open Go.ChangeShapes Go.WideShapes Go.RowKit Go.Deep
set_option linter.unusedVariables false

set_option maxRecDepth 100000 in
set_option maxHeartbeats 8000000 in
theorem copy_any (m : List FunD) (v : Value) (w : World) (hv : VMod w v m) (hsm : SmallM m) :
    Calls Try.prog 10 #[v] w fun e w' => (∃ r, e = .returned r ∧ ∃ A c, r = .agg #[.slice A m.length c] ∧ SL w' 4 (RFunB (fun b => w.heap.size ≤ b)) A c m) ∧ Below w.heap.size w w' := by
  obtain ⟨A, c, rfl, hm⟩ := hv
  have hml := hm.len
  obtain ⟨i25, p1, p2, p3, p4⟩ := info_parts Try.info43
  have HI25 := Lib.hid (And.intro p1 (And.intro p2 (And.intro p3 p4)))
  clear p1 p2 p3 p4
  go_enter Try.func10, Try.ntmps10
  go_wp2_with fail
  obtain ⟨w1, hw1, hs1, hk1, hb1, hc1, -⟩ := named w #[.slice A m.length c] 24
  obtain ⟨w2, hw2, hs2, hk2, hb2, -, -⟩ := named w1 #[.slice none 0 0] 24
  obtain ⟨w3, hw3, hs3, hk3, hb3, -, -⟩ := named w2 #[.slice none 0 0] 24
  have hbk2 : w2.heap[w1.heap.size]? = some (.cells #[.slice none 0 0] 24 (0, 0)) := by rw [hw2]; exact heap_alloc_new _ _
  have hbk3 : w3.heap[w2.heap.size]? = some (.cells #[.slice none 0 0] 24 (0, 0)) := by rw [hw3]; exact heap_alloc_new _ _
  have hbr3 : w3.heap[w1.heap.size]? = some (.cells #[.slice none 0 0] 24 (0, 0)) := (hb3.block _ (by omega)).trans hbk2
  have q0 : w3.cell? ⟨w.heap.size, 0, none⟩ = some (.slice A m.length c) := hk3 _ _ (hk2 _ _ (hc1 0 _ rfl))
  have hK := (hk1.trans hk2).trans hk3
  have hB3 : Below w.heap.size w w3 := (hb1.trans (hb2.mono (by omega))).trans (hb3.mono (by omega))
  rw [← hw1, ← hw2, ← hw3]
  rw [hs2, hs1] at hbk3 hs3
  rw [hs1] at hbr3
  have HBK := Lib.hid hbk3
  have HBR := Lib.hid hbr3
  have hlw : w.heap.size < w3.heap.size := by omega
  have hlr : w.heap.size + 1 < w3.heap.size := by omega
  have hlo : w.heap.size + 1 + 1 < w3.heap.size := by omega
  clear hw1 hw2 hw3 hs1 hs2 hs3 hc1 hk1 hk2 hk3 hb1 hb2 hb3 hbk2 hbk3 hbr3
  go_loopw [4] (fun i wr => ∃ (k : Nat) (u : Value) (cs : List Value), k ≤ m.length ∧ i = .int .i64 k ∧ BB w3.heap.size (w.heap.size + 1 + 1) w3 wr ∧
    wr.heap[w.heap.size + 1 + 1]? = some (.cells #[u] 24 (0, 0)) ∧
    wr.ownsRow w3.heap.size 43 4 u k cs ∧ Rows 4 (CFun (fun b => w3.heap.size ≤ b ∧ some b ≠ u.ownBlock) wr) (m.take k) cs) (fun i _ => m.length - (intOf i).toNat)
  case atStart => exact ⟨0, .slice none 0 0, [], Nat.zero_le _, rfl, BB.refl _ _ _, HBK.out, World.ownsRow_nil _ _ _ _, rfl⟩
  case round =>
    obtain ⟨k, u, cs, hk, rfl, hbb, hgo, hown, hrows⟩ := hrel
    have hsz := hbb.size
    have hkb := hbb.kept
    have y0 := hkb _ _ ⟨by show w.heap.size < w3.heap.size; omega, by show w.heap.size ≠ w.heap.size + 1 + 1; omega⟩ q0
    have hkW : Kept w wr := fun a v h => by
      have hlt := block_lt_of_cell h
      exact hkb a v ⟨by omega, by omega⟩ (hK _ _ h)
    have z0 : wr.cell? ⟨w.heap.size + 1 + 1, 0, none⟩ = some u := cell_of_block hgo 0
    by_cases hlt : k < m.length
    · obtain ⟨bf, of, f, rfl, hf, ⟨h0, h064⟩, ⟨h1, h164⟩, ⟨Ar, cr, h2, hregs⟩, Ab, cb, h3, hblks⟩ := (SFuns.keep hkW hm).at_ hlt
      have hbf : bf < w3.heap.size := by
        obtain ⟨b', o', f', e', _, ⟨h', _⟩, _⟩ := hm.at_ hlt
        simp only [Option.some.injEq, Addr.mk.injEq] at e'
        obtain ⟨rfl, rfl, -⟩ := e'
        have := block_lt_of_cell h'
        dsimp only at this; omega
      have hsf : SmallF f := hsm.2 f (List.mem_of_getElem? hf.out)
      have HSF := Lib.hid hsf
      clear hsf
      have hj0 : (0 : Int) ≤ k := by omega
      have hj1 : (k : Int) < m.length := by omega
      have hm40 : m.length ≤ 40 := hsm.1
      have hS : ∀ w', Below w3.heap.size wr w' → w'.cell? ⟨w.heap.size + 1 + 1, 0, none⟩ = some u ∧ w'.cell? ⟨w.heap.size, 0, none⟩ = some (.slice (some ⟨bf, of, none⟩) m.length c) ∧
          w'.cell? ⟨bf, of + k * 4, none⟩ = some (.int .i64 f.params) ∧ w'.cell? ⟨bf, of + k * 4 + 1, none⟩ = some (.int .i64 f.result) ∧ w'.cell? ⟨bf, of + k * 4 + 2, none⟩ = some (.slice Ar f.regs.length cr) ∧ w'.cell? ⟨bf, of + k * 4 + 3, none⟩ = some (.slice Ab f.blocks.length cb) := fun w' h =>
        ⟨(h.cell (p := ⟨w.heap.size + 1 + 1, 0, none⟩) hlo).trans z0, (h.cell (p := ⟨w.heap.size, 0, none⟩) (by show w.heap.size < w3.heap.size; omega)).trans y0,
          (h.cell (p := ⟨bf, of + k * 4, none⟩) hbf).trans h0, (h.cell (p := ⟨bf, of + k * 4 + 1, none⟩) hbf).trans h1, (h.cell (p := ⟨bf, of + k * 4 + 2, none⟩) hbf).trans h2, (h.cell (p := ⟨bf, of + k * 4 + 3, none⟩) hbf).trans h3⟩
      go_wp2_with fail
      refine wp_region_last (L := 11) (S := fun w' => w'.cell? ⟨w.heap.size + 1 + 1, 0, none⟩ = some u ∧ w'.cell? ⟨w.heap.size, 0, none⟩ = some (.slice (some ⟨bf, of, none⟩) m.length c) ∧
          w'.cell? ⟨bf, of + k * 4, none⟩ = some (.int .i64 f.params) ∧ w'.cell? ⟨bf, of + k * 4 + 1, none⟩ = some (.int .i64 f.result) ∧ w'.cell? ⟨bf, of + k * 4 + 2, none⟩ = some (.slice Ar f.regs.length cr) ∧ w'.cell? ⟨bf, of + k * 4 + 3, none⟩ = some (.slice Ab f.blocks.length cb)) (by kernel_rfl) (by rfl) (by kernel_rfl) (by kernel_rfl) ?_
      change wpAnyH _ _ _ _ _ _ _ _ (World.drew _)
      have hS0 := hS wr.drew (Below.refl _ _).drew
      refine takeH (i := 0) (some 12) (v := ?_) rfl (by kernel_rfl) (by kernel_rfl) (by kernel_rfl) (fun _ _ _ h => h) hS0 (fun o ho => ?_) ?_
      rotate_left
      · simp only [List.getElem?_toArray, List.getElem?_cons_zero, Option.some.injEq] at ho; subst ho; refine Or.inl ⟨by rfl, fun w' hSw => ?_⟩; (try dsimp only at hSw); go_simp; try with_reducible rfl
      simp only [Act.put, List.setIfInBounds_toArray, List.set_cons_zero, List.set_cons_succ]
      refine takeH (i := 1) (some 13) (v := ?_) rfl (by kernel_rfl) (by kernel_rfl) (by kernel_rfl) (fun _ _ _ h => h) hS0 (fun o ho => ?_) ?_
      rotate_left
      · simp only [List.getElem?_toArray, List.getElem?_cons_zero, List.getElem?_cons_succ, Option.some.injEq] at ho; subst ho; refine Or.inl ⟨by rfl, fun w' hSw => ?_⟩; (try dsimp only at hSw); go_simp; try with_reducible rfl
      simp only [Act.put, List.setIfInBounds_toArray, List.set_cons_zero, List.set_cons_succ]
      refine takeH (i := 2) (some 14) (v := ?_) rfl (by kernel_rfl) (by kernel_rfl) (by kernel_rfl) (fun _ _ _ h => h) hS0 (fun o ho => ?_) ?_
      rotate_left
      · simp only [List.getElem?_toArray, List.getElem?_cons_zero, List.getElem?_cons_succ, Option.some.injEq] at ho; subst ho; refine Or.inl ⟨by rfl, fun w' hSw => ?_⟩; (try dsimp only at hSw); go_simp; try with_reducible rfl
      simp only [Act.put, List.setIfInBounds_toArray, List.set_cons_zero, List.set_cons_succ]
      refine takeH (i := 3) (some 15) (v := ?_) rfl (by kernel_rfl) (by kernel_rfl) (by kernel_rfl) (fun _ _ _ h => h) hS0 (fun o ho => ?_) ?_
      rotate_left
      · simp only [List.getElem?_toArray, List.getElem?_cons_zero, List.getElem?_cons_succ, Option.some.injEq] at ho; subst ho; refine Or.inl ⟨by rfl, fun w' hSw => ?_⟩; (try dsimp only at hSw); go_simp; try with_reducible rfl
      simp only [Act.put, List.setIfInBounds_toArray, List.set_cons_zero, List.set_cons_succ]
      refine takeH (i := 4) (some 16) (v := ?_) rfl (by kernel_rfl) (by kernel_rfl) (by kernel_rfl) (fun _ _ _ h => h) hS0 (fun o ho => ?_) ?_
      rotate_left
      · simp only [List.getElem?_toArray, List.getElem?_cons_zero, List.getElem?_cons_succ, Option.some.injEq] at ho; subst ho; refine Or.inl ⟨by rfl, fun w' hSw => ?_⟩; (try dsimp only at hSw); go_simp; try with_reducible rfl
      simp only [Act.put, List.setIfInBounds_toArray, List.set_cons_zero, List.set_cons_succ]
      refine takeH (i := 5) (some 17) (v := ?_) rfl (by kernel_rfl) (by kernel_rfl) (by kernel_rfl) (fun _ _ _ h => h) hS0 (fun o ho => ?_) ?_
      rotate_left
      · simp only [List.getElem?_toArray, List.getElem?_cons_zero, List.getElem?_cons_succ, Option.some.injEq] at ho; subst ho; refine Or.inl ⟨by rfl, fun w' hSw => ?_⟩; (try dsimp only at hSw); go_simp; try with_reducible rfl
      simp only [Act.put, List.setIfInBounds_toArray, List.set_cons_zero, List.set_cons_succ]
      refine oneH (i := 6) (by kernel_rfl) (fun o ho K hK => ?_)
      simp only [List.getElem?_toArray, List.getElem?_cons_zero, List.getElem?_cons_succ, Option.some.injEq] at ho; subst ho
      go_simp
      refine hK.out _ _ hS0 ?_
      clear hK K
      refine oneH (i := 7) (by kernel_rfl) (fun o ho K hK => ?_)
      simp only [List.getElem?_toArray, List.getElem?_cons_zero, List.getElem?_cons_succ, Option.some.injEq] at ho; subst ho
      go_simp
      refine (copyFunc_any f _ wr.drew ⟨Ar, cr, Ab, cb, rfl, hregs, hblks, h064, h164⟩ HSF.out).mono ?_
      rintro e wA ⟨⟨r, rfl, c0, c1, c2, c3, rfl, hcf⟩, hbA0⟩
      have hbA0 : Below wr.heap.size wr wA := (Below.refl wr.heap.size wr).drew.trans hbA0
      have hcf : CFun (fun b => wr.heap.size ≤ b) wA f [c0, c1, c2, c3] := hcf
      obtain ⟨A1, d1, A2, d2, e, hr1, hb1, -, -⟩ := hcf
      simp only [List.cons.injEq, and_true] at e
      obtain ⟨rfl, rfl, rfl, rfl⟩ := e
      have hsA := hbA0.size
      have hbA : Below w3.heap.size wr wA := hbA0.mono hsz
      go_wp2_with fail
      refine hK.out _ _ (hS _ hbA) ?_
      clear hK K
      refine oneH (i := 8) (by kernel_rfl) (fun o ho K hK => ?_)
      simp only [List.getElem?_toArray, List.getElem?_cons_zero, List.getElem?_cons_succ, Option.some.injEq] at ho; subst ho
      go_simp
      have hbB : Below w3.heap.size wr (wA.alloc (.cells #[.int .i64 f.params, .int .i64 f.result, .slice A1 f.regs.length d1, .slice A2 f.blocks.length d2] 43)) := hbA.alloc (by omega) _
      refine hK.out _ _ (hS _ hbB) ?_
      clear hK K
      refine oneH (i := 9) (by kernel_rfl) (fun o ho K hK => ?_)
      simp only [List.getElem?_toArray, List.getElem?_cons_zero, List.getElem?_cons_succ, Option.some.injEq] at ho; subst ho
      have hgr0 : wr.grownBy wA (some wr.heap.size) := ⟨hbA0.os, hbA0.tape, hbA0.output, hbA0.size, fun k hk _ => hbA0.block k hk⟩
      have hownA : wA.ownsRow w3.heap.size 43 4 u k cs := World.ownsRow.kept hown hgr0 (own_ne hown (Nat.le_refl _))
      refine step_append_lies _ (by rfl) _ _ _ (by rfl) w3.heap.size 43 i25 (.agg #[.int .i64 0, .int .i64 0, .slice none 0 0, .slice none 0 0]) 4 64 Try.underlying22 HI25.out.1 HI25.out.2.1 HI25.out.2.2.1 HI25.out.2.2.2 rfl (by decide) u k cs (by rfl) (hownA.alloc _)
        ⟨wA.heap.size, 0, none⟩ 1 1 [.int .i64 f.params, .int .i64 f.result, .slice A1 f.regs.length d1, .slice A2 f.blocks.length d2] (by rfl) (by rfl) (news_cells wA #[.int .i64 f.params, .int .i64 f.result, .slice A1 f.regs.length d1, .slice A2 f.blocks.length d2] _ rfl) (by simp [Value.oneCell']) (by decide) (by unfold maxLen; omega) (by omega) (by simp; omega) (wA.heap.size + 1) (by simp) ?_
      intro g cap wC hownC hgrowC hlocC hltC
      have hsC := hgrowC.size
      simp at hsC
      have hgl : ∀ x, u.ownBlock = some x → x < wr.heap.size := fun x hx => (hown.lt x hx).2
      have hbC : Below w3.heap.size wr wC := hbB.grown hgrowC (by simp; omega) (fun k hk => (hown.lt k hk).1)
      have hSC := hS _ hbC
      refine hK.out _ _ hSC ?_
      clear hK K
      simp only [Act.put, List.setIfInBounds_toArray, List.set_cons_zero, List.set_cons_succ]
      refine takeH (i := 10) (some 22) (v := ?_) rfl (by kernel_rfl) (by kernel_rfl) (by kernel_rfl) (fun _ _ _ h => h) hSC (fun o ho => ?_) ?_
      rotate_left
      · simp only [List.getElem?_toArray, List.getElem?_cons_zero, List.getElem?_cons_succ, Option.some.injEq] at ho; subst ho; refine Or.inl ⟨by rfl, fun w' hSw => ?_⟩; (try dsimp only at hSw); go_simp; try with_reducible rfl
      simp only [Act.put, List.setIfInBounds_toArray, List.set_cons_zero, List.set_cons_succ]
      refine wpAnyH_done (by kernel_rfl) ?_ _
      refine lastH (by decide) (fun o ho K hK => ?_)
      simp only [List.getElem?_toArray, List.getElem?_cons_zero, List.getElem?_cons_succ, Option.some.injEq] at ho; subst ho
      have hgoC : wC.heap[w.heap.size + 1 + 1]? = some (.cells #[u] 24 (0, 0)) := (hbC.block _ hlo).trans hgo
      have x0 : wC.cell? ⟨w.heap.size + 1 + 1, 0, none⟩ = some u := cell_of_block hgoC 0
      have xf : wC.frozen? ⟨w.heap.size + 1 + 1, 0, none⟩ = false := free_of_block hgoC 0
      go_simp
      refine hK.out _ _ ?_
      clear hK K
      obtain ⟨wF, hwF⟩ : ∃ wF, wF = wC.setCell ⟨w.heap.size + 1 + 1, 0, none⟩ (.slice (some ⟨g, 0, none⟩) (k + 1) cap) := ⟨_, rfl⟩
      have hkC : KeptB (fun y => y ≠ w.heap.size + 1 + 1) wC wF := by rw [hwF]; exact keptB_set wC ⟨w.heap.size + 1 + 1, 0, none⟩ _
      have hkR : KeptB (fun y => wr.heap.size ≤ y ∧ y < wA.heap.size) wA wF :=
        ((KeptB.of (kept_alloc wA _)).trans ((keptB_grown hgrowC).mono (fun y hy e => by have := hgl y e.symm; omega))).trans (hkC.mono (fun y hy => by omega))
      have hBg : ∀ y, wr.heap.size ≤ y → y < wA.heap.size → w3.heap.size ≤ y ∧ some y ≠ (Value.slice (some ⟨g, 0, none⟩) (k + 1) cap).ownBlock := fun y h1 h2 => ⟨by omega, fun e => by
        have hyg : y = g := Option.some.inj e
        rcases hlocC with h | h
        · have := hgl g h; omega
        · omega⟩
      have hrF := SIntsB.go (B' := fun y => w3.heap.size ≤ y ∧ some y ≠ (Value.slice (some ⟨g, 0, none⟩) (k + 1) cap).ownBlock) (w' := wF) hkR (fun y hy => hBg y hy.1 hy.2) (SIntsB.lt hr1)
      have hbF := SBlksB.go (B' := fun y => w3.heap.size ≤ y ∧ some y ≠ (Value.slice (some ⟨g, 0, none⟩) (k + 1) cap).ownBlock) (w' := wF) hkR (fun y hy => hBg y hy.1 hy.2) (SBlksB.lt hb1)
      have hnew : CFun (fun y => w3.heap.size ≤ y ∧ some y ≠ (Value.slice (some ⟨g, 0, none⟩) (k + 1) cap).ownBlock) wF f [.int .i64 f.params, .int .i64 f.result, .slice A1 f.regs.length d1, .slice A2 f.blocks.length d2] := ⟨A1, d1, A2, d2, rfl, hrF, hbF, h064, h164⟩
      have hkF : KeptB (fun y => (w3.heap.size ≤ y ∧ some y ≠ u.ownBlock) ∧ y < wr.heap.size) wr wF :=
        ((((BB.of_below (g := w.heap.size + 1 + 1) hbA0 (Nat.le_refl _)).kept.mono (fun y hy => ⟨hy.2, by omega⟩)).trans (KeptB.of (kept_alloc wA _))).trans ((keptB_grown hgrowC).mono (fun y hy => hy.1.2))).trans (hkC.mono (fun y hy => by omega))
      have hrowsF := Rows.push (F := CFun) (fun _ _ _ _ _ _ h1 h2 h3 => CFun.go h1 h2 h3) (fun _ _ _ _ h => CFun.lt h) hrows hkF (u' := .slice (some ⟨g, 0, none⟩) (k + 1) cap) (fun y h1 h2 h3 e => by
          have hyg : y = g := Option.some.inj e
          rcases hlocC with h | h
          · subst hyg; exact h2 h.symm
          · omega) rfl hnew
      have hbbF : BB w3.heap.size (w.heap.size + 1 + 1) w3 wF := by rw [hwF]; exact (hbb.trans (BB.of_below hbC (Nat.le_refl _))).setCell (.inl rfl) _
      have hgoF : wF.heap[w.heap.size + 1 + 1]? = some (.cells #[.slice (some ⟨g, 0, none⟩) (k + 1) cap] 24 (0, 0)) := by
        rw [hwF]; exact set_of_block (i := 0) (.slice (some ⟨g, 0, none⟩) (k + 1) cap) hgoC
      have hownF : wF.ownsRow w3.heap.size 43 4 (.slice (some ⟨g, 0, none⟩) (k + 1) cap) (k + 1) (cs ++ [.int .i64 f.params, .int .i64 f.result, .slice A1 f.regs.length d1, .slice A2 f.blocks.length d2]) := by rw [hwF]; exact ownsRow_setCell_below hownC hlo _
      rw [← take_succ_of hf.out] at hrowsF
      have HR := Lib.hid hrowsF
      have HO := Lib.hid hownF
      have HG := Lib.hid hgoF
      have HB := Lib.hid hbbF
      rw [← hwF]
      clear hrowsF hownF hgoF hkF hkR hnew hbbF hkC hwF x0 xf hgoC hrF hbF hBg
      go_wp2_with fail
      go_roundw
      case rel => exact ⟨k + 1, _, _, by omega, by go_num, HB.out, HG.out, HO.out, HR.out⟩
      case measure => simp [intOf]; omega
    · obtain rfl : k = m.length := by omega
      rw [List.take_of_length_le (Nat.le_refl _)] at hrows
      have hblv : VS wr 4 (RFunB (fun x => w3.heap.size ≤ x)) u m := hrows.reads hown (fun g o x c h1 h2 h3 _ h4 => CFun.reads (B := fun x => w3.heap.size ≤ x) h2 (CFun.go (KeptB.of (Kept.refl _)) (fun _ h => h.1) h3) h4)
      obtain ⟨A3, d3, rfl, hbl3⟩ := hblv
      clear hrows hown
      have hbr := (hbb.block _ hlr (by omega)).trans HBR.out
      have r0 : wr.cell? ⟨w.heap.size + 1, 0, none⟩ = some (.slice none 0 0) := cell_of_block hbr 0
      have r1 : wr.frozen? ⟨w.heap.size + 1, 0, none⟩ = false := free_of_block hbr 0
      go_wp2_with fail
      have hbkF : (wr.setCell ⟨w.heap.size + 1, 0, none⟩ (.slice A3 m.length d3)).heap[w.heap.size + 1]? = some (.cells #[.slice A3 m.length d3] 24 (0, 0)) := set_of_block (i := 0) _ hbr
      refine bodyPost_ret (results_cell_row rfl _ _ (w.heap.size + 1) 24 #[.slice A3 m.length d3] (0, 0) _ (by rfl) hbkF Try.underlying24 (by rfl) (by kernel_rfl)) rfl ?_
      refine ⟨⟨_, rfl, A3, d3, rfl, ?_⟩, ((hB3.trans ((hbb.below (m := w.heap.size) (by omega) (by omega)))).setCell (by show _ ≤ w.heap.size + 1; omega) _)⟩
      exact SL.imp (RFunB.go (B := fun x => w3.heap.size ≤ x) ((keptB_set wr ⟨w.heap.size + 1, 0, none⟩ _).mono (fun y hy => by show y ≠ w.heap.size + 1; omega)) (fun y hy => by omega)) hbl3
end Go.Proofs.Ytdfiflbkamhchaa

/- The reference's Same: two modules are the same. -/
namespace Go.Proofs.Ytdfiflbkamhchaa
open Go.ChangeShapes Go.WideShapes Go.RowKit Go.Deep
set_option linter.unusedVariables false

theorem take_len_eq {α : Type} {a b : List α} {k : Nat} (h : a.take k = b.take k) (ha : a.length ≤ k) (hb : b.length ≤ k) : a = b := by
  rwa [List.take_of_length_le ha, List.take_of_length_le hb] at h
theorem take_snoc_eq {α : Type} {a b : List α} {k : Nat} {x y : α} (h : a.take k = b.take k) (hx : a[k]? = some x) (hy : b[k]? = some y) (e : x = y) : a.take (k + 1) = b.take (k + 1) := by
  rw [take_succ_of hx, take_succ_of hy, h, e]
theorem ne_at {α : Type} {a b : List α} {k : Nat} {x y : α} (hx : a[k]? = some x) (hy : b[k]? = some y) (e : x ≠ y) : a ≠ b := fun h => by
  subst h; exact e (Option.some.inj (hx.symm.trans hy))

open Classical in
noncomputable def same {α : Type} (a b : α) : Bool := decide (a = b)
open Classical in
theorem same_yes {α : Type} {a b : α} (h : a = b) : same a b = true := decide_eq_true h
open Classical in
theorem same_no {α : Type} {a b : α} (h : a ≠ b) : same a b = false := decide_eq_false h
open Classical in
theorem same_iff {α : Type} {a b : α} : same a b = true ↔ a = b := decide_eq_true_iff

set_option maxRecDepth 100000 in
set_option maxHeartbeats 4000000 in
theorem ints_any (a b : List Int) (v u : Value) (w : World) (hv : VS w 1 RInt v a) (hu : VS w 1 RInt u b) :
    Calls Try.prog 55 #[v, u] w fun e w' => e = .returned (.bool (same a b)) ∧ ∃ n, w' = w.drewN n := by
  obtain ⟨A, c, rfl, ha⟩ := hv
  obtain ⟨B, d, rfl, hb⟩ := hu
  have hal := ha.len
  have hbl := hb.len
  by_cases hl : a.length = b.length
  · have hl' : ((a.length : Int) != b.length) = false := by simp [hl]
    have HL := Lib.hid hl
    clear hl
    go_enter Try.func55, Try.ntmps55
    go_wp2_with fail
    go_loopw [5] (fun i wr => ∃ k n : Nat, k ≤ a.length ∧ i = .int .i64 k ∧ wr = w.drewN n ∧ Hid (a.take k = b.take k)) (fun i _ => a.length - (intOf i).toNat)
    case atStart => exact ⟨0, 0, Nat.zero_le _, rfl, rfl, Lib.hid rfl⟩
    case round =>
      obtain ⟨k, n, hk, rfl, rfl, hi⟩ := hrel
      by_cases hlt : k < a.length
      · have hlt2 : k < b.length := by have := HL.out; omega
        obtain ⟨b1, o1, x, rfl, hx, hxc, -⟩ := ha.int hlt
        obtain ⟨b2, o2, y, rfl, hy, hyc, -⟩ := hb.int hlt2
        have hk0 : (0 : Int) ≤ k := by omega
        have hk1 : (k : Int) < a.length := by omega
        have hk2 : (k : Int) < b.length := by omega
        by_cases hxy : x = y
        · have hxy' : (x != y) = false := by simp [hxy]
          have HXY := Lib.hid hxy
          clear hxy
          go_wp2_with fail
          go_quiet (fail)
          go_wp2_with fail
          go_roundw
          case rel => exact ⟨k + 1, _, by omega, by go_num, rfl, Lib.hid (take_snoc_eq hi.out hx.out hy.out HXY.out)⟩
          case measure => simp [intOf]; omega
        · have hxy' : (x != y) = true := by rw [bne_iff_ne]; exact hxy
          have HXY := Lib.hid hxy
          clear hxy
          go_wp2_with fail
          go_quiet (fail)
          go_wp2_with fail
          go_ret
          exact ⟨by rw [same_no (ne_at hx.out hy.out HXY.out)]; rfl, _, World.drewN_drewN _ _ _⟩
      · have HE := Lib.hid (take_len_eq hi.out (Nat.le_of_not_lt hlt) (by have := HL.out; omega))
        go_wp2_with fail
        go_ret
        exact ⟨by rw [same_yes HE.out]; rfl, _, rfl⟩
  · have hl' : ((a.length : Int) != b.length) = true := by rw [bne_iff_ne]; omega
    have HL : Hid (same a b = false) := Lib.hid (same_no (fun e => hl (by rw [e])))
    clear hl
    go_enter Try.func55, Try.ntmps55
    go_wp2_with fail
    go_ret
    exact ⟨by rw [HL.out]; rfl, 0, rfl⟩

theorem kept_drewN (w : World) (n : Nat) : Kept w (w.drewN n) := fun _ _ h => h
theorem phi_ext {p q : PhiD} (h1 : p.dst = q.dst) (h2 : p.args = q.args) : p = q := by cases p; cases q; simp_all
theorem ins_ext {p q : InsD} (h1 : p.op = q.op) (h2 : p.dst = q.dst) (h3 : p.args = q.args) (h4 : p.imm = q.imm) (h5 : p.fn = q.fn) : p = q := by cases p; cases q; simp_all
theorem blk_ext {p q : BlkD} (h1 : p.phis = q.phis) (h2 : p.ins = q.ins) (h3 : p.term.kind = q.term.kind) (h4 : p.term.arg = q.term.arg) (h5 : p.term.to = q.term.to) : p = q := by
  obtain ⟨a, b, c, d, e⟩ := p; obtain ⟨a', b', c', d', e'⟩ := q; simp_all
theorem fun_ext {p q : FunD} (h1 : p.params = q.params) (h2 : p.result = q.result) (h3 : p.regs = q.regs) (h4 : p.blocks = q.blocks) : p = q := by cases p; cases q; simp_all

set_option maxRecDepth 100000 in
set_option maxHeartbeats 8000000 in
theorem sameBlock_any (x y : BlkD) (v u : Value) (w : World) (hv : VBlk w v x) (hu : VBlk w u y) :
    Calls Try.prog 56 #[v, u] w fun e w' => e = .returned (.bool (same x y)) ∧ Below w.heap.size w w' := by
  obtain ⟨Ap, cp, Ai, ci, At, ct, rfl, hp, hi, ht, hk64, ha64⟩ := hv
  obtain ⟨Bp, dp, Bi, di, Bt, dt, rfl, kp, ki, kt, kk64, ka64⟩ := hu
  have hpl := hp.len
  have hil := hi.len
  have htl := ht.len
  have kpl := kp.len
  have kil := ki.len
  have ktl := kt.len
  have hB : Below w.heap.size w ((w.alloc (.cells #[.slice Ap x.phis.length cp, .slice Ai x.ins.length ci, .int .i64 x.term.kind, .int .i64 x.term.arg, .slice At x.term.to.length ct] 40)).alloc
      (.cells #[.slice Bp y.phis.length dp, .slice Bi y.ins.length di, .int .i64 y.term.kind, .int .i64 y.term.arg, .slice Bt y.term.to.length dt] 40)) := ((Below.refl _ _).alloc (Nat.le_refl _) _).alloc (by simp) _
  have hK := kept_of_below hB
  by_cases e1 : x.phis.length = y.phis.length
  · have e1' : ((x.phis.length : Int) != y.phis.length) = false := by simp [e1]
    by_cases e2 : x.ins.length = y.ins.length
    · have e2' : ((x.ins.length : Int) != y.ins.length) = false := by simp [e2]
      by_cases e3 : x.term.kind = y.term.kind
      · have e3' : (x.term.kind != y.term.kind) = false := by simp [e3]
        by_cases e4 : x.term.arg = y.term.arg
        · have e4' : (x.term.arg != y.term.arg) = false := by simp [e4]
          have E := Lib.hid (And.intro e1 (And.intro e2 (And.intro e3 e4)))
          clear e1 e2 e3 e4
          go_enter Try.func56, Try.ntmps56
          go_wp2_with fail
          obtain ⟨w1, hw1⟩ : ∃ w1, w1 = (w.alloc (.cells #[.slice Ap x.phis.length cp, .slice Ai x.ins.length ci, .int .i64 x.term.kind, .int .i64 x.term.arg, .slice At x.term.to.length ct] 40)).alloc
            (.cells #[.slice Bp y.phis.length dp, .slice Bi y.ins.length di, .int .i64 y.term.kind, .int .i64 y.term.arg, .slice Bt y.term.to.length dt] 40) := ⟨_, rfl⟩
          have gx0 : w1.cell? ⟨w.heap.size, 0, none⟩ = some (.slice Ap x.phis.length cp) := by rw [hw1]; simp
          have gx1 : w1.cell? ⟨w.heap.size, 1, none⟩ = some (.slice Ai x.ins.length ci) := by rw [hw1]; simp
          have gy0 : w1.cell? ⟨w.heap.size + 1, 0, none⟩ = some (.slice Bp y.phis.length dp) := by rw [hw1]; simp
          have gy1 : w1.cell? ⟨w.heap.size + 1, 1, none⟩ = some (.slice Bi y.ins.length di) := by rw [hw1]; simp
          have hs1 : w.heap.size + 1 < w1.heap.size := by rw [hw1]; simp
          rw [← hw1] at hB hK ⊢
          clear hw1
          refine (ints_any x.term.to y.term.to _ _ _ ⟨At, ct, rfl, SInts.keep hK ht⟩ ⟨Bt, dt, rfl, SInts.keep hK kt⟩).mono ?_
          rintro e w' ⟨rfl, n0, rfl⟩
          cases hto : same x.term.to y.term.to
          · have E2 : Hid (same x y = false) := Lib.hid (same_no (fun e => by have := same_yes (show x.term.to = y.term.to by rw [e]); rw [hto] at this; cases this))
            clear hto
            go_wp2_with fail
            go_ret
            exact ⟨by rw [E2.out]; rfl, below_drewN hB _⟩
          · have HTO := Lib.hid (same_iff.1 hto)
            clear hto
            go_wp2_with fail
            have hb0 : Below w1.heap.size w1 (w1.drewN n0) := below_drewN (Below.refl _ _) _
            go_loopw [5] (fun i wr => ∃ k : Nat, k ≤ x.phis.length ∧ i = .int .i64 k ∧ Below w1.heap.size w1 wr ∧ Hid (x.phis.take k = y.phis.take k)) (fun i _ => x.phis.length - (intOf i).toNat)
            case atStart => exact ⟨0, Nat.zero_le _, rfl, hb0, Lib.hid rfl⟩
            case round =>
              obtain ⟨k, hk, rfl, hbel, hi2⟩ := hrel
              have hkr : Kept w1 wr := kept_of_below hbel
              have hx0 := hkr _ _ gx0
              have hx1 := hkr _ _ gx1
              have hy0 := hkr _ _ gy0
              have hy1 := hkr _ _ gy1
              have hBr : Below w.heap.size w wr := hB.trans (hbel.mono hB.size)
              by_cases hlt : k < x.phis.length
              · have hlt2 : k < y.phis.length := by have := E.out.1; omega
                obtain ⟨b1, o1, p, rfl, hp1, ⟨hpd, -⟩, Aa, ca, hpa, hpas⟩ := (SPhis.keep (hK.trans hkr) hp).at_ hlt
                obtain ⟨b2, o2, q, rfl, hq1, ⟨hqd, -⟩, Ba, da, hqa, hqas⟩ := (SPhis.keep (hK.trans hkr) kp).at_ hlt2
                have hk0 : (0 : Int) ≤ k := by omega
                have hk1 : (k : Int) < x.phis.length := by omega
                have hk2 : (k : Int) < y.phis.length := by omega
                by_cases hd : p.dst = q.dst
                · have hd' : (p.dst != q.dst) = false := by simp [hd]
                  have HD := Lib.hid hd
                  clear hd
                  have hcall : ∀ j, Calls Try.prog 55 #[.slice Aa p.args.length ca, .slice Ba q.args.length da] (wr.drewN j) fun e w' => e = .returned (.bool (same p.args q.args)) ∧ ∃ m, w' = (wr.drewN j).drewN m := fun j =>
                    ints_any _ _ _ _ _ ⟨Aa, ca, rfl, SInts.keep (kept_drewN _ _) hpas⟩ ⟨Ba, da, rfl, SInts.keep (kept_drewN _ _) hqas⟩
                  cases hs : same p.args q.args
                  · rw [hs] at hcall
                    have E2 : Hid (same x y = false) := Lib.hid (same_no (fun e => ne_at hp1.out hq1.out (fun e2 => by have := same_yes (show p.args = q.args by rw [e2]); rw [hs] at this; cases this) (by rw [e])))
                    have HC := Lib.hid hcall
                    clear hs hcall
                    go_wp2_with fail
                    go_quiet ((go_at_call 55; exact Calls.quiet_of (HC.out _)))
                    go_wp2_with fail
                    go_ret
                    exact ⟨by rw [E2.out]; rfl, below_drewN hBr _⟩
                  · rw [hs] at hcall
                    have HS := Lib.hid (same_iff.1 hs)
                    have HC := Lib.hid hcall
                    clear hs hcall
                    go_wp2_with fail
                    go_quiet ((go_at_call 55; exact Calls.quiet_of (HC.out _)))
                    go_wp2_with fail
                    go_roundw
                    case rel => exact ⟨k + 1, by omega, by go_num, below_drewN hbel _, Lib.hid (take_snoc_eq hi2.out hp1.out hq1.out (phi_ext HD.out HS.out))⟩
                    case measure => simp [intOf]; omega
                · have hd' : (p.dst != q.dst) = true := by rw [bne_iff_ne]; exact hd
                  have E2 : Hid (same x y = false) := Lib.hid (same_no (fun e => ne_at hp1.out hq1.out (fun e2 => hd (by rw [e2])) (by rw [e])))
                  clear hd
                  go_wp2_with fail
                  go_quiet (fail)
                  go_wp2_with fail
                  go_ret
                  exact ⟨by rw [E2.out]; rfl, below_drewN hBr _⟩
              · have HP := Lib.hid (take_len_eq hi2.out (Nat.le_of_not_lt hlt) (by have := E.out.1; omega))
                clear hi2
                have hb1 := hbel
                go_wp2_with fail
                go_loopw [6] (fun i wr => ∃ k : Nat, k ≤ x.ins.length ∧ i = .int .i64 k ∧ Below w1.heap.size w1 wr ∧ Hid (x.ins.take k = y.ins.take k)) (fun i _ => x.ins.length - (intOf i).toNat)
                case atStart => exact ⟨0, Nat.zero_le _, rfl, hb1, Lib.hid rfl⟩
                case round =>
                  obtain ⟨k, hk, rfl, hbel, hi3⟩ := hrel
                  have hkr : Kept w1 wr := kept_of_below hbel
                  have hx0 := hkr _ _ gx0
                  have hx1 := hkr _ _ gx1
                  have hy0 := hkr _ _ gy0
                  have hy1 := hkr _ _ gy1
                  have hBr : Below w.heap.size w wr := hB.trans (hbel.mono hB.size)
                  by_cases hlt : k < x.ins.length
                  · have hlt2 : k < y.ins.length := by have := E.out.2.1; omega
                    obtain ⟨b1, o1, p, rfl, hp1, ⟨hp0, -⟩, ⟨hpd, -⟩, ⟨Aa, ca, hpa, hpas⟩, ⟨hpi, -⟩, ⟨hpf, -⟩⟩ := (SInss.keep (hK.trans hkr) hi).at_ hlt
                    obtain ⟨b2, o2, q, rfl, hq1, ⟨hq0, -⟩, ⟨hqd, -⟩, ⟨Ba, da, hqa, hqas⟩, ⟨hqi, -⟩, ⟨hqf, -⟩⟩ := (SInss.keep (hK.trans hkr) ki).at_ hlt2
                    have hbk1 := block_lt_of_cell hx1
                    have hbk2 := block_lt_of_cell hy1
                    have hbk3 := block_lt_of_cell hqd
                    dsimp only at hbk1 hbk2 hbk3
                    have hn1 : w.heap.size + 1 ≠ wr.heap.size := by omega
                    have hn2 : b2 ≠ wr.heap.size := by omega
                    by_cases f1 : p.op = q.op
                    · have f1' : (p.op != q.op) = false := by simp [f1]
                      by_cases f2 : p.dst = q.dst
                      · have f2' : (p.dst != q.dst) = false := by simp [f2]
                        have F := Lib.hid (And.intro f1 f2)
                        clear f1 f2
                        go_wp2_with fail
                        obtain ⟨w3, hw3⟩ : ∃ w3, w3 = (wr.alloc (.cells #[.int .i64 p.op, .int .i64 p.dst, .slice Aa p.args.length ca, .int .i64 p.imm, .int .i64 p.fn] 46)).alloc (.cells #[.int .i64 q.op, .int .i64 q.dst, .slice Ba q.args.length da, .int .i64 q.imm, .int .i64 q.fn] 46) := ⟨_, rfl⟩
                        have hb3 : Below wr.heap.size wr w3 := by rw [hw3]; exact ((Below.refl _ _).alloc (Nat.le_refl _) _).alloc (by simp) _
                        have ji : w3.cell? ⟨wr.heap.size, 3, none⟩ = some (.int .i64 p.imm) := by rw [hw3]; simp
                        have jf : w3.cell? ⟨wr.heap.size, 4, none⟩ = some (.int .i64 p.fn) := by rw [hw3]; simp
                        have li : w3.cell? ⟨wr.heap.size + 1, 3, none⟩ = some (.int .i64 q.imm) := by rw [hw3]; simp
                        have lf : w3.cell? ⟨wr.heap.size + 1, 4, none⟩ = some (.int .i64 q.fn) := by rw [hw3]; simp
                        have hk3 := kept_of_below hb3
                        have hB3 : Below w.heap.size w w3 := hBr.trans (hb3.mono hBr.size)
                        have hb3' : Below w1.heap.size w1 w3 := hbel.trans (hb3.mono hbel.size)
                        rw [← hw3]
                        clear hw3
                        refine (ints_any p.args q.args _ _ _ ⟨Aa, ca, rfl, SInts.keep hk3 hpas⟩ ⟨Ba, da, rfl, SInts.keep hk3 hqas⟩).mono ?_
                        rintro e w' ⟨rfl, n1, rfl⟩
                        cases hs : same p.args q.args
                        · have E2 : Hid (same x y = false) := Lib.hid (same_no (fun e => ne_at hp1.out hq1.out (fun e2 => by have := same_yes (show p.args = q.args by rw [e2]); rw [hs] at this; cases this) (by rw [e])))
                          clear hs
                          go_wp2_with fail
                          go_ret
                          exact ⟨by rw [E2.out]; rfl, below_drewN hB3 _⟩
                        · have HS := Lib.hid (same_iff.1 hs)
                          clear hs
                          by_cases f3 : p.imm = q.imm
                          · have f3' : (p.imm != q.imm) = false := by simp [f3]
                            by_cases f4 : p.fn = q.fn
                            · have f4' : (p.fn != q.fn) = false := by simp [f4]
                              have F2 := Lib.hid (And.intro f3 f4)
                              clear f3 f4
                              go_wp2_with fail
                              go_roundw
                              case rel => exact ⟨k + 1, by omega, by go_num, below_drewN hb3' _, Lib.hid (take_snoc_eq hi3.out hp1.out hq1.out (ins_ext F.out.1 F.out.2 HS.out F2.out.1 F2.out.2))⟩
                              case measure => simp [intOf]; omega
                            · have f4' : (p.fn != q.fn) = true := by rw [bne_iff_ne]; exact f4
                              have E2 : Hid (same x y = false) := Lib.hid (same_no (fun e => ne_at hp1.out hq1.out (fun e2 => f4 (by rw [e2])) (by rw [e])))
                              clear f3 f4
                              go_wp2_with fail
                              go_ret
                              exact ⟨by rw [E2.out]; rfl, below_drewN hB3 _⟩
                          · have f3' : (p.imm != q.imm) = true := by rw [bne_iff_ne]; exact f3
                            have E2 : Hid (same x y = false) := Lib.hid (same_no (fun e => ne_at hp1.out hq1.out (fun e2 => f3 (by rw [e2])) (by rw [e])))
                            clear f3
                            go_wp2_with fail
                            go_ret
                            exact ⟨by rw [E2.out]; rfl, below_drewN hB3 _⟩
                      · have f2' : (p.dst != q.dst) = true := by rw [bne_iff_ne]; exact f2
                        have E2 : Hid (same x y = false) := Lib.hid (same_no (fun e => ne_at hp1.out hq1.out (fun e2 => f2 (by rw [e2])) (by rw [e])))
                        clear f1 f2
                        go_wp2_with fail
                        go_ret
                        exact ⟨by rw [E2.out]; rfl, (hBr.alloc (by have := hBr.size; omega) _).alloc (by have := hBr.size; simp; omega) _⟩
                    · have f1' : (p.op != q.op) = true := by rw [bne_iff_ne]; exact f1
                      have E2 : Hid (same x y = false) := Lib.hid (same_no (fun e => ne_at hp1.out hq1.out (fun e2 => f1 (by rw [e2])) (by rw [e])))
                      clear f1
                      go_wp2_with fail
                      go_ret
                      exact ⟨by rw [E2.out]; rfl, (hBr.alloc (by have := hBr.size; omega) _).alloc (by have := hBr.size; simp; omega) _⟩
                  · have HI := Lib.hid (take_len_eq hi3.out (Nat.le_of_not_lt hlt) (by have := E.out.2.1; omega))
                    go_wp2_with fail
                    go_ret
                    exact ⟨by rw [same_yes (blk_ext HP.out HI.out E.out.2.2.1 E.out.2.2.2 HTO.out)]; rfl, hBr⟩
        · have e4' : (x.term.arg != y.term.arg) = true := by rw [bne_iff_ne]; exact e4
          have E : Hid (same x y = false) := Lib.hid (same_no (fun e => e4 (by rw [e])))
          clear e1 e2 e3 e4
          go_enter Try.func56, Try.ntmps56
          go_wp2_with fail
          go_ret
          exact ⟨by rw [E.out]; rfl, hB⟩
      · have e3' : (x.term.kind != y.term.kind) = true := by rw [bne_iff_ne]; exact e3
        have E : Hid (same x y = false) := Lib.hid (same_no (fun e => e3 (by rw [e])))
        clear e1 e2 e3
        go_enter Try.func56, Try.ntmps56
        go_wp2_with fail
        go_ret
        exact ⟨by rw [E.out]; rfl, hB⟩
    · have e2' : ((x.ins.length : Int) != y.ins.length) = true := by rw [bne_iff_ne]; omega
      have E : Hid (same x y = false) := Lib.hid (same_no (fun e => e2 (by rw [e])))
      clear e1 e2
      go_enter Try.func56, Try.ntmps56
      go_wp2_with fail
      go_ret
      exact ⟨by rw [E.out]; rfl, hB⟩
  · have e1' : ((x.phis.length : Int) != y.phis.length) = true := by rw [bne_iff_ne]; omega
    have E : Hid (same x y = false) := Lib.hid (same_no (fun e => e1 (by rw [e])))
    clear e1
    go_enter Try.func56, Try.ntmps56
    go_wp2_with fail
    go_ret
    exact ⟨by rw [E.out]; rfl, hB⟩

end Go.Proofs.Ytdfiflbkamhchaa

/- The reference's SameFunc. -/
namespace Go.Proofs.Ytdfiflbkamhchaa
open Go.ChangeShapes Go.WideShapes Go.RowKit Go.Deep
set_option linter.unusedVariables false

set_option maxRecDepth 100000 in
set_option maxHeartbeats 8000000 in
theorem sameFunc_any (x y : FunD) (v u : Value) (w : World) (hv : VFun w v x) (hu : VFun w u y) :
    Calls Try.prog 37 #[v, u] w fun e w' => e = .returned (.bool (same x y)) ∧ Below w.heap.size w w' := by
  obtain ⟨Ar, cr, Ab, cb, rfl, hr, hb, -, -⟩ := hv
  obtain ⟨Br, dr, Bb, db, rfl, kr, kb, -, -⟩ := hu
  have hrl := hr.len
  have hbl := hb.len
  have krl := kr.len
  have kbl := kb.len
  have hB : Below w.heap.size w ((w.alloc (.cells #[.int .i64 x.params, .int .i64 x.result, .slice Ar x.regs.length cr, .slice Ab x.blocks.length cb] 43)).alloc
      (.cells #[.int .i64 y.params, .int .i64 y.result, .slice Br y.regs.length dr, .slice Bb y.blocks.length db] 43)) := ((Below.refl _ _).alloc (Nat.le_refl _) _).alloc (by simp) _
  have hK := kept_of_below hB
  by_cases e1 : x.params = y.params
  · have e1' : (x.params != y.params) = false := by simp [e1]
    by_cases e2 : x.result = y.result
    · have e2' : (x.result != y.result) = false := by simp [e2]
      have E := Lib.hid (And.intro e1 e2)
      clear e1 e2
      go_enter Try.func37, Try.ntmps37
      go_wp2_with fail
      obtain ⟨w1, hw1⟩ : ∃ w1, w1 = (w.alloc (.cells #[.int .i64 x.params, .int .i64 x.result, .slice Ar x.regs.length cr, .slice Ab x.blocks.length cb] 43)).alloc
        (.cells #[.int .i64 y.params, .int .i64 y.result, .slice Br y.regs.length dr, .slice Bb y.blocks.length db] 43) := ⟨_, rfl⟩
      have gx3 : w1.cell? ⟨w.heap.size, 3, none⟩ = some (.slice Ab x.blocks.length cb) := by rw [hw1]; simp
      have gy3 : w1.cell? ⟨w.heap.size + 1, 3, none⟩ = some (.slice Bb y.blocks.length db) := by rw [hw1]; simp
      rw [← hw1] at hB hK ⊢
      clear hw1
      refine (ints_any x.regs y.regs _ _ _ ⟨Ar, cr, rfl, SInts.keep hK hr⟩ ⟨Br, dr, rfl, SInts.keep hK kr⟩).mono ?_
      rintro e w' ⟨rfl, n0, rfl⟩
      cases hrg : same x.regs y.regs
      · have E2 : Hid (same x y = false) := Lib.hid (same_no (fun e => by have := same_yes (show x.regs = y.regs by rw [e]); rw [hrg] at this; cases this))
        clear hrg
        go_wp2_with fail
        go_ret
        exact ⟨by rw [E2.out]; rfl, below_drewN hB _⟩
      · have HRG := Lib.hid (same_iff.1 hrg)
        clear hrg
        by_cases e3 : x.blocks.length = y.blocks.length
        · have e3' : ((x.blocks.length : Int) != y.blocks.length) = false := by simp [e3]
          have E3 := Lib.hid e3
          clear e3
          go_wp2_with fail
          have hb0 : Below w1.heap.size w1 (w1.drewN n0) := below_drewN (Below.refl _ _) _
          go_loopw [5] (fun i wr => ∃ k : Nat, k ≤ x.blocks.length ∧ i = .int .i64 k ∧ Below w1.heap.size w1 wr ∧ Hid (x.blocks.take k = y.blocks.take k)) (fun i _ => x.blocks.length - (intOf i).toNat)
          case atStart => exact ⟨0, Nat.zero_le _, rfl, hb0, Lib.hid rfl⟩
          case round =>
            obtain ⟨k, hk, rfl, hbel, hi2⟩ := hrel
            have hkr : Kept w1 wr := kept_of_below hbel
            have hx3 := hkr _ _ gx3
            have hy3 := hkr _ _ gy3
            have hBr : Below w.heap.size w wr := hB.trans (hbel.mono hB.size)
            by_cases hlt : k < x.blocks.length
            · have hlt2 : k < y.blocks.length := by have := E3.out; omega
              obtain ⟨b1, o1, p, rfl, hp1, ⟨A1, c1, h1, g1⟩, ⟨A2, c2, h2, g2⟩, ⟨h3, i3⟩, ⟨h4, i4⟩, A5, c5, h5, g5⟩ := (SBlks.keep (hK.trans hkr) hb).at_ hlt
              obtain ⟨b2, o2, q, rfl, hq1, ⟨B1, d1, k1, j1⟩, ⟨B2, d2, k2, j2⟩, ⟨k3, l3⟩, ⟨k4, l4⟩, B5, d5, k5, j5⟩ := (SBlks.keep (hK.trans hkr) kb).at_ hlt2
              have hk0 : (0 : Int) ≤ k := by omega
              have hk1 : (k : Int) < x.blocks.length := by omega
              have hk2 : (k : Int) < y.blocks.length := by omega
              go_wp2_with fail
              go_still_tail 10, (by kernel_rfl)
              change wpList _ _ _ _ _ wr.drew
              have hvp : VBlk wr.drew (.agg #[.slice A1 p.phis.length c1, .slice A2 p.ins.length c2, .int .i64 p.term.kind, .int .i64 p.term.arg, .slice A5 p.term.to.length c5]) p := ⟨A1, c1, A2, c2, A5, c5, rfl, g1, g2, g5, i3, i4⟩
              have hvq : VBlk wr.drew (.agg #[.slice B1 q.phis.length d1, .slice B2 q.ins.length d2, .int .i64 q.term.kind, .int .i64 q.term.arg, .slice B5 q.term.to.length d5]) q := ⟨B1, d1, B2, d2, B5, d5, rfl, j1, j2, j5, l3, l4⟩
              have hbd : Below w1.heap.size w1 wr.drew := hbel.drew
              have hBd : Below w.heap.size w wr.drew := hBr.drew
              generalize wr.drew = w2 at *
              go_wp2_with fail
              refine (sameBlock_any p q _ _ _ hvp hvq).mono ?_
              rintro e w3 ⟨rfl, hb3⟩
              have hb3' : Below w1.heap.size w1 w3 := hbd.trans (hb3.mono hbd.size)
              have hB3 : Below w.heap.size w w3 := hBd.trans (hb3.mono hBd.size)
              cases hs : same p q
              · have E2 : Hid (same x y = false) := Lib.hid (same_no (fun e => ne_at hp1.out hq1.out (fun e2 => by have := same_yes e2; rw [hs] at this; cases this) (by rw [e])))
                clear hs
                go_wp2_with fail
                go_ret
                exact ⟨by rw [E2.out]; rfl, hB3⟩
              · have HS := Lib.hid (same_iff.1 hs)
                clear hs
                go_wp2_with fail
                go_roundw
                case rel => exact ⟨k + 1, by omega, by go_num, hb3', Lib.hid (take_snoc_eq hi2.out hp1.out hq1.out HS.out)⟩
                case measure => simp [intOf]; omega
            · have HP := Lib.hid (take_len_eq hi2.out (Nat.le_of_not_lt hlt) (by have := E3.out; omega))
              go_wp2_with fail
              go_ret
              exact ⟨by rw [same_yes (fun_ext E.out.1 E.out.2 HRG.out HP.out)]; rfl, hBr⟩
        · have e3' : ((x.blocks.length : Int) != y.blocks.length) = true := by rw [bne_iff_ne]; omega
          have E2 : Hid (same x y = false) := Lib.hid (same_no (fun e => e3 (by rw [e])))
          clear e3
          go_wp2_with fail
          go_ret
          exact ⟨by rw [E2.out]; rfl, below_drewN hB _⟩
    · have e2' : (x.result != y.result) = true := by rw [bne_iff_ne]; exact e2
      have E : Hid (same x y = false) := Lib.hid (same_no (fun e => e2 (by rw [e])))
      clear e1 e2
      go_enter Try.func37, Try.ntmps37
      go_wp2_with fail
      go_ret
      exact ⟨by rw [E.out]; rfl, hB⟩
  · have e1' : (x.params != y.params) = true := by rw [bne_iff_ne]; exact e1
    have E : Hid (same x y = false) := Lib.hid (same_no (fun e => e1 (by rw [e])))
    clear e1
    go_enter Try.func37, Try.ntmps37
    go_wp2_with fail
    go_ret
    exact ⟨by rw [E.out]; rfl, hB⟩

end Go.Proofs.Ytdfiflbkamhchaa
