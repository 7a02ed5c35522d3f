/- The reference's Copy: a module in new memory. -/
import Derived.Test.YtcjmhdneelmbhaaCopyJ
import Derived.Test.YtcjmhdneelmbhaaCopyTJ
namespace Go.Proofs.Ytcjmhdneelmbhaa
open Go.ChangeShapes Go.WideShapes Go.RowKit Go.Deep
set_option linter.unusedVariables false

theorem cp_owns {w w' : World} {base base' n size : Nat} {e : TypeId} {v : Value} {xs : List Value} (h : w.ownsRow base e size v n xs) (hb : ∀ g, v.ownBlock = some g → w'.heap[g]? = w.heap[g]?) (hk : base' ≤ base) : w'.ownsRow base' e size v n xs := by
  obtain ⟨h1, h2⟩ := h
  refine ⟨h1, ?_⟩
  rcases h2 with h2 | ⟨g, cap, cur, hv, hb1, hh, rest⟩
  · exact .inl h2
  · exact .inr ⟨g, cap, cur, hv, Nat.le_trans hk hb1, (hb g (by rw [hv]; rfl)).trans hh, rest⟩
set_option maxRecDepth 100000 in
set_option maxHeartbeats 8000000 in
theorem copy_row (m : List FunD) (v : Value) (w : World) (hv : VMod w v m) (hsm : SmallM m) :
    Calls Try.prog 11 #[v] w fun e w' => (∃ u cs, e = .returned (.agg #[u]) ∧ w'.ownsRow w.heap.size 43 4 u m.length cs ∧ Rows 4 (CFun (fun b => w.heap.size ≤ b ∧ some b ≠ u.ownBlock) w') m cs) ∧ Below w.heap.size w w' := by
  obtain ⟨A, c, rfl, hm⟩ := hv
  have hml := hm.len
  obtain ⟨i25, p1, p2, p3, p4⟩ := info_parts Try.info43
  have HI25 := Lib.hid (And.intro p1 (And.intro p2 (And.intro p3 p4)))
  clear p1 p2 p3 p4
  go_enter Try.func11, Try.ntmps11
  go_wp2_with fail
  obtain ⟨w1, hw1, hs1, hk1, hb1, hc1, -⟩ := named w #[.slice A m.length c] 24
  obtain ⟨w2, hw2, hs2, hk2, hb2, -, -⟩ := named w1 #[.slice none 0 0] 24
  obtain ⟨w3, hw3, hs3, hk3, hb3, -, -⟩ := named w2 #[.slice none 0 0] 24
  have hbk2 : w2.heap[w1.heap.size]? = some (.cells #[.slice none 0 0] 24 (0, 0)) := by rw [hw2]; exact heap_alloc_new _ _
  have hbk3 : w3.heap[w2.heap.size]? = some (.cells #[.slice none 0 0] 24 (0, 0)) := by rw [hw3]; exact heap_alloc_new _ _
  have hbr3 : w3.heap[w1.heap.size]? = some (.cells #[.slice none 0 0] 24 (0, 0)) := (hb3.block _ (by omega)).trans hbk2
  have q0 : w3.cell? ⟨w.heap.size, 0, none⟩ = some (.slice A m.length c) := hk3 _ _ (hk2 _ _ (hc1 0 _ rfl))
  have hK := (hk1.trans hk2).trans hk3
  have hB3 : Below w.heap.size w w3 := (hb1.trans (hb2.mono (by omega))).trans (hb3.mono (by omega))
  rw [← hw1, ← hw2, ← hw3]
  rw [hs2, hs1] at hbk3 hs3
  rw [hs1] at hbr3
  have HBK := Lib.hid hbk3
  have HBR := Lib.hid hbr3
  have hlw : w.heap.size < w3.heap.size := by omega
  have hlr : w.heap.size + 1 < w3.heap.size := by omega
  have hlo : w.heap.size + 1 + 1 < w3.heap.size := by omega
  clear hw1 hw2 hw3 hs1 hs2 hs3 hc1 hk1 hk2 hk3 hb1 hb2 hb3 hbk2 hbk3 hbr3
  go_loopw [4] (fun i wr => ∃ (k : Nat) (u : Value) (cs : List Value), k ≤ m.length ∧ i = .int .i64 k ∧ BB w3.heap.size (w.heap.size + 1 + 1) w3 wr ∧
    wr.heap[w.heap.size + 1 + 1]? = some (.cells #[u] 24 (0, 0)) ∧
    wr.ownsRow w3.heap.size 43 4 u k cs ∧ Rows 4 (CFun (fun b => w3.heap.size ≤ b ∧ some b ≠ u.ownBlock) wr) (m.take k) cs) (fun i _ => m.length - (intOf i).toNat)
  case atStart => exact ⟨0, .slice none 0 0, [], Nat.zero_le _, rfl, BB.refl _ _ _, HBK.out, World.ownsRow_nil _ _ _ _, rfl⟩
  case round =>
    obtain ⟨k, u, cs, hk, rfl, hbb, hgo, hown, hrows⟩ := hrel
    have hsz := hbb.size
    have hkb := hbb.kept
    have y0 := hkb _ _ ⟨by show w.heap.size < w3.heap.size; omega, by show w.heap.size ≠ w.heap.size + 1 + 1; omega⟩ q0
    have hkW : Kept w wr := fun a v h => by
      have hlt := block_lt_of_cell h
      exact hkb a v ⟨by omega, by omega⟩ (hK _ _ h)
    have z0 : wr.cell? ⟨w.heap.size + 1 + 1, 0, none⟩ = some u := cell_of_block hgo 0
    by_cases hlt : k < m.length
    · obtain ⟨bf, of, f, rfl, hf, ⟨h0, h064⟩, ⟨h1, h164⟩, ⟨Ar, cr, h2, hregs⟩, Ab, cb, h3, hblks⟩ := (SFuns.keep hkW hm).at_ hlt
      have hbf : bf < w3.heap.size := by
        obtain ⟨b', o', f', e', _, ⟨h', _⟩, _⟩ := hm.at_ hlt
        simp only [Option.some.injEq, Addr.mk.injEq] at e'
        obtain ⟨rfl, rfl, -⟩ := e'
        have := block_lt_of_cell h'
        dsimp only at this; omega
      have hsf : SmallF f := hsm.2 f (List.mem_of_getElem? hf.out)
      have HSF := Lib.hid hsf
      clear hsf
      have hj0 : (0 : Int) ≤ k := by omega
      have hj1 : (k : Int) < m.length := by omega
      have hm40 : m.length ≤ 40 := hsm.1
      have hS : ∀ w', Below w3.heap.size wr w' → w'.cell? ⟨w.heap.size + 1 + 1, 0, none⟩ = some u ∧ w'.cell? ⟨w.heap.size, 0, none⟩ = some (.slice (some ⟨bf, of, none⟩) m.length c) ∧
          w'.cell? ⟨bf, of + k * 4, none⟩ = some (.int .i64 f.params) ∧ w'.cell? ⟨bf, of + k * 4 + 1, none⟩ = some (.int .i64 f.result) ∧ w'.cell? ⟨bf, of + k * 4 + 2, none⟩ = some (.slice Ar f.regs.length cr) ∧ w'.cell? ⟨bf, of + k * 4 + 3, none⟩ = some (.slice Ab f.blocks.length cb) := fun w' h =>
        ⟨(h.cell (p := ⟨w.heap.size + 1 + 1, 0, none⟩) hlo).trans z0, (h.cell (p := ⟨w.heap.size, 0, none⟩) (by show w.heap.size < w3.heap.size; omega)).trans y0,
          (h.cell (p := ⟨bf, of + k * 4, none⟩) hbf).trans h0, (h.cell (p := ⟨bf, of + k * 4 + 1, none⟩) hbf).trans h1, (h.cell (p := ⟨bf, of + k * 4 + 2, none⟩) hbf).trans h2, (h.cell (p := ⟨bf, of + k * 4 + 3, none⟩) hbf).trans h3⟩
      go_wp2_with fail
      refine wp_region_last (L := 11) (S := fun w' => w'.cell? ⟨w.heap.size + 1 + 1, 0, none⟩ = some u ∧ w'.cell? ⟨w.heap.size, 0, none⟩ = some (.slice (some ⟨bf, of, none⟩) m.length c) ∧
          w'.cell? ⟨bf, of + k * 4, none⟩ = some (.int .i64 f.params) ∧ w'.cell? ⟨bf, of + k * 4 + 1, none⟩ = some (.int .i64 f.result) ∧ w'.cell? ⟨bf, of + k * 4 + 2, none⟩ = some (.slice Ar f.regs.length cr) ∧ w'.cell? ⟨bf, of + k * 4 + 3, none⟩ = some (.slice Ab f.blocks.length cb)) (by kernel_rfl) (by rfl) (by kernel_rfl) (by kernel_rfl) ?_
      change wpAnyH _ _ _ _ _ _ _ _ (World.drew _)
      have hS0 := hS wr.drew (Below.refl _ _).drew
      refine takeH (i := 0) (some 12) (v := ?_) rfl (by kernel_rfl) (by kernel_rfl) (by kernel_rfl) (fun _ _ _ h => h) hS0 (fun o ho => ?_) ?_
      rotate_left
      · simp only [List.getElem?_toArray, List.getElem?_cons_zero, Option.some.injEq] at ho; subst ho; refine Or.inl ⟨by rfl, fun w' hSw => ?_⟩; (try dsimp only at hSw); go_simp; try with_reducible rfl
      simp only [Act.put, List.setIfInBounds_toArray, List.set_cons_zero, List.set_cons_succ]
      refine takeH (i := 1) (some 13) (v := ?_) rfl (by kernel_rfl) (by kernel_rfl) (by kernel_rfl) (fun _ _ _ h => h) hS0 (fun o ho => ?_) ?_
      rotate_left
      · simp only [List.getElem?_toArray, List.getElem?_cons_zero, List.getElem?_cons_succ, Option.some.injEq] at ho; subst ho; refine Or.inl ⟨by rfl, fun w' hSw => ?_⟩; (try dsimp only at hSw); go_simp; try with_reducible rfl
      simp only [Act.put, List.setIfInBounds_toArray, List.set_cons_zero, List.set_cons_succ]
      refine takeH (i := 2) (some 14) (v := ?_) rfl (by kernel_rfl) (by kernel_rfl) (by kernel_rfl) (fun _ _ _ h => h) hS0 (fun o ho => ?_) ?_
      rotate_left
      · simp only [List.getElem?_toArray, List.getElem?_cons_zero, List.getElem?_cons_succ, Option.some.injEq] at ho; subst ho; refine Or.inl ⟨by rfl, fun w' hSw => ?_⟩; (try dsimp only at hSw); go_simp; try with_reducible rfl
      simp only [Act.put, List.setIfInBounds_toArray, List.set_cons_zero, List.set_cons_succ]
      refine takeH (i := 3) (some 15) (v := ?_) rfl (by kernel_rfl) (by kernel_rfl) (by kernel_rfl) (fun _ _ _ h => h) hS0 (fun o ho => ?_) ?_
      rotate_left
      · simp only [List.getElem?_toArray, List.getElem?_cons_zero, List.getElem?_cons_succ, Option.some.injEq] at ho; subst ho; refine Or.inl ⟨by rfl, fun w' hSw => ?_⟩; (try dsimp only at hSw); go_simp; try with_reducible rfl
      simp only [Act.put, List.setIfInBounds_toArray, List.set_cons_zero, List.set_cons_succ]
      refine takeH (i := 4) (some 16) (v := ?_) rfl (by kernel_rfl) (by kernel_rfl) (by kernel_rfl) (fun _ _ _ h => h) hS0 (fun o ho => ?_) ?_
      rotate_left
      · simp only [List.getElem?_toArray, List.getElem?_cons_zero, List.getElem?_cons_succ, Option.some.injEq] at ho; subst ho; refine Or.inl ⟨by rfl, fun w' hSw => ?_⟩; (try dsimp only at hSw); go_simp; try with_reducible rfl
      simp only [Act.put, List.setIfInBounds_toArray, List.set_cons_zero, List.set_cons_succ]
      refine takeH (i := 5) (some 17) (v := ?_) rfl (by kernel_rfl) (by kernel_rfl) (by kernel_rfl) (fun _ _ _ h => h) hS0 (fun o ho => ?_) ?_
      rotate_left
      · simp only [List.getElem?_toArray, List.getElem?_cons_zero, List.getElem?_cons_succ, Option.some.injEq] at ho; subst ho; refine Or.inl ⟨by rfl, fun w' hSw => ?_⟩; (try dsimp only at hSw); go_simp; try with_reducible rfl
      simp only [Act.put, List.setIfInBounds_toArray, List.set_cons_zero, List.set_cons_succ]
      refine oneH (i := 6) (by kernel_rfl) (fun o ho K hK => ?_)
      simp only [List.getElem?_toArray, List.getElem?_cons_zero, List.getElem?_cons_succ, Option.some.injEq] at ho; subst ho
      go_simp
      refine hK.out _ _ hS0 ?_
      clear hK K
      refine oneH (i := 7) (by kernel_rfl) (fun o ho K hK => ?_)
      simp only [List.getElem?_toArray, List.getElem?_cons_zero, List.getElem?_cons_succ, Option.some.injEq] at ho; subst ho
      go_simp
      refine (copyFunc_any f _ wr.drew ⟨Ar, cr, Ab, cb, rfl, hregs, hblks, h064, h164⟩ HSF.out).mono ?_
      rintro e wA ⟨⟨r, rfl, c0, c1, c2, c3, rfl, hcf⟩, hbA0⟩
      have hbA0 : Below wr.heap.size wr wA := (Below.refl wr.heap.size wr).drew.trans hbA0
      have hcf : CFun (fun b => wr.heap.size ≤ b) wA f [c0, c1, c2, c3] := hcf
      obtain ⟨A1, d1, A2, d2, e, hr1, hb1, -, -⟩ := hcf
      simp only [List.cons.injEq, and_true] at e
      obtain ⟨rfl, rfl, rfl, rfl⟩ := e
      have hsA := hbA0.size
      have hbA : Below w3.heap.size wr wA := hbA0.mono hsz
      go_wp2_with fail
      refine hK.out _ _ (hS _ hbA) ?_
      clear hK K
      refine oneH (i := 8) (by kernel_rfl) (fun o ho K hK => ?_)
      simp only [List.getElem?_toArray, List.getElem?_cons_zero, List.getElem?_cons_succ, Option.some.injEq] at ho; subst ho
      go_simp
      have hbB : Below w3.heap.size wr (wA.alloc (.cells #[.int .i64 f.params, .int .i64 f.result, .slice A1 f.regs.length d1, .slice A2 f.blocks.length d2] 43)) := hbA.alloc (by omega) _
      refine hK.out _ _ (hS _ hbB) ?_
      clear hK K
      refine oneH (i := 9) (by kernel_rfl) (fun o ho K hK => ?_)
      simp only [List.getElem?_toArray, List.getElem?_cons_zero, List.getElem?_cons_succ, Option.some.injEq] at ho; subst ho
      have hgr0 : wr.grownBy wA (some wr.heap.size) := ⟨hbA0.os, hbA0.tape, hbA0.output, hbA0.size, fun k hk _ => hbA0.block k hk⟩
      have hownA : wA.ownsRow w3.heap.size 43 4 u k cs := World.ownsRow.kept hown hgr0 (own_ne hown (Nat.le_refl _))
      refine step_append_lies _ (by rfl) _ _ _ (by rfl) w3.heap.size 43 i25 (.agg #[.int .i64 0, .int .i64 0, .slice none 0 0, .slice none 0 0]) 4 64 Try.underlying22 HI25.out.1 HI25.out.2.1 HI25.out.2.2.1 HI25.out.2.2.2 rfl (by decide) u k cs (by rfl) (hownA.alloc _)
        ⟨wA.heap.size, 0, none⟩ 1 1 [.int .i64 f.params, .int .i64 f.result, .slice A1 f.regs.length d1, .slice A2 f.blocks.length d2] (by rfl) (by rfl) (news_cells wA #[.int .i64 f.params, .int .i64 f.result, .slice A1 f.regs.length d1, .slice A2 f.blocks.length d2] _ rfl) (by simp [Value.oneCell']) (by decide) (by unfold maxLen; omega) (by omega) (by simp; omega) (wA.heap.size + 1) (by simp) ?_
      intro g cap wC hownC hgrowC hlocC hltC
      have hsC := hgrowC.size
      simp at hsC
      have hgl : ∀ x, u.ownBlock = some x → x < wr.heap.size := fun x hx => (hown.lt x hx).2
      have hbC : Below w3.heap.size wr wC := hbB.grown hgrowC (by simp; omega) (fun k hk => (hown.lt k hk).1)
      have hSC := hS _ hbC
      refine hK.out _ _ hSC ?_
      clear hK K
      simp only [Act.put, List.setIfInBounds_toArray, List.set_cons_zero, List.set_cons_succ]
      refine takeH (i := 10) (some 22) (v := ?_) rfl (by kernel_rfl) (by kernel_rfl) (by kernel_rfl) (fun _ _ _ h => h) hSC (fun o ho => ?_) ?_
      rotate_left
      · simp only [List.getElem?_toArray, List.getElem?_cons_zero, List.getElem?_cons_succ, Option.some.injEq] at ho; subst ho; refine Or.inl ⟨by rfl, fun w' hSw => ?_⟩; (try dsimp only at hSw); go_simp; try with_reducible rfl
      simp only [Act.put, List.setIfInBounds_toArray, List.set_cons_zero, List.set_cons_succ]
      refine wpAnyH_done (by kernel_rfl) ?_ _
      refine lastH (by decide) (fun o ho K hK => ?_)
      simp only [List.getElem?_toArray, List.getElem?_cons_zero, List.getElem?_cons_succ, Option.some.injEq] at ho; subst ho
      have hgoC : wC.heap[w.heap.size + 1 + 1]? = some (.cells #[u] 24 (0, 0)) := (hbC.block _ hlo).trans hgo
      have x0 : wC.cell? ⟨w.heap.size + 1 + 1, 0, none⟩ = some u := cell_of_block hgoC 0
      have xf : wC.frozen? ⟨w.heap.size + 1 + 1, 0, none⟩ = false := free_of_block hgoC 0
      go_simp
      refine hK.out _ _ ?_
      clear hK K
      obtain ⟨wF, hwF⟩ : ∃ wF, wF = wC.setCell ⟨w.heap.size + 1 + 1, 0, none⟩ (.slice (some ⟨g, 0, none⟩) (k + 1) cap) := ⟨_, rfl⟩
      have hkC : KeptB (fun y => y ≠ w.heap.size + 1 + 1) wC wF := by rw [hwF]; exact keptB_set wC ⟨w.heap.size + 1 + 1, 0, none⟩ _
      have hkR : KeptB (fun y => wr.heap.size ≤ y ∧ y < wA.heap.size) wA wF :=
        ((KeptB.of (kept_alloc wA _)).trans ((keptB_grown hgrowC).mono (fun y hy e => by have := hgl y e.symm; omega))).trans (hkC.mono (fun y hy => by omega))
      have hBg : ∀ y, wr.heap.size ≤ y → y < wA.heap.size → w3.heap.size ≤ y ∧ some y ≠ (Value.slice (some ⟨g, 0, none⟩) (k + 1) cap).ownBlock := fun y h1 h2 => ⟨by omega, fun e => by
        have hyg : y = g := Option.some.inj e
        rcases hlocC with h | h
        · have := hgl g h; omega
        · omega⟩
      have hrF := SIntsB.go (B' := fun y => w3.heap.size ≤ y ∧ some y ≠ (Value.slice (some ⟨g, 0, none⟩) (k + 1) cap).ownBlock) (w' := wF) hkR (fun y hy => hBg y hy.1 hy.2) (SIntsB.lt hr1)
      have hbF := SBlksB.go (B' := fun y => w3.heap.size ≤ y ∧ some y ≠ (Value.slice (some ⟨g, 0, none⟩) (k + 1) cap).ownBlock) (w' := wF) hkR (fun y hy => hBg y hy.1 hy.2) (SBlksB.lt hb1)
      have hnew : CFun (fun y => w3.heap.size ≤ y ∧ some y ≠ (Value.slice (some ⟨g, 0, none⟩) (k + 1) cap).ownBlock) wF f [.int .i64 f.params, .int .i64 f.result, .slice A1 f.regs.length d1, .slice A2 f.blocks.length d2] := ⟨A1, d1, A2, d2, rfl, hrF, hbF, h064, h164⟩
      have hkF : KeptB (fun y => (w3.heap.size ≤ y ∧ some y ≠ u.ownBlock) ∧ y < wr.heap.size) wr wF :=
        ((((BB.of_below (g := w.heap.size + 1 + 1) hbA0 (Nat.le_refl _)).kept.mono (fun y hy => ⟨hy.2, by omega⟩)).trans (KeptB.of (kept_alloc wA _))).trans ((keptB_grown hgrowC).mono (fun y hy => hy.1.2))).trans (hkC.mono (fun y hy => by omega))
      have hrowsF := Rows.push (F := CFun) (fun _ _ _ _ _ _ h1 h2 h3 => CFun.go h1 h2 h3) (fun _ _ _ _ h => CFun.lt h) hrows hkF (u' := .slice (some ⟨g, 0, none⟩) (k + 1) cap) (fun y h1 h2 h3 e => by
          have hyg : y = g := Option.some.inj e
          rcases hlocC with h | h
          · subst hyg; exact h2 h.symm
          · omega) rfl hnew
      have hbbF : BB w3.heap.size (w.heap.size + 1 + 1) w3 wF := by rw [hwF]; exact (hbb.trans (BB.of_below hbC (Nat.le_refl _))).setCell (.inl rfl) _
      have hgoF : wF.heap[w.heap.size + 1 + 1]? = some (.cells #[.slice (some ⟨g, 0, none⟩) (k + 1) cap] 24 (0, 0)) := by
        rw [hwF]; exact set_of_block (i := 0) (.slice (some ⟨g, 0, none⟩) (k + 1) cap) hgoC
      have hownF : wF.ownsRow w3.heap.size 43 4 (.slice (some ⟨g, 0, none⟩) (k + 1) cap) (k + 1) (cs ++ [.int .i64 f.params, .int .i64 f.result, .slice A1 f.regs.length d1, .slice A2 f.blocks.length d2]) := by rw [hwF]; exact ownsRow_setCell_below hownC hlo _
      rw [← take_succ_of hf.out] at hrowsF
      have HR := Lib.hid hrowsF
      have HO := Lib.hid hownF
      have HG := Lib.hid hgoF
      have HB := Lib.hid hbbF
      rw [← hwF]
      clear hrowsF hownF hgoF hkF hkR hnew hbbF hkC hwF x0 xf hgoC hrF hbF hBg
      go_wp2_with fail
      go_roundw
      case rel => exact ⟨k + 1, _, _, by omega, by go_num, HB.out, HG.out, HO.out, HR.out⟩
      case measure => simp [intOf]; omega
    · obtain rfl : k = m.length := by omega
      rw [List.take_of_length_le (Nat.le_refl _)] at hrows
      have hbr := (hbb.block _ hlr (by omega)).trans HBR.out
      have r0 : wr.cell? ⟨w.heap.size + 1, 0, none⟩ = some (.slice none 0 0) := cell_of_block hbr 0
      have r1 : wr.frozen? ⟨w.heap.size + 1, 0, none⟩ = false := free_of_block hbr 0
      have hN1 : w.heap.size + 1 < w3.heap.size := by omega
      rcases hown.2 with ⟨hv, hn⟩ | ⟨g, cap, cur, hv, -⟩
      · subst hv
        have hm0 : m = [] := List.length_eq_zero_iff.1 hn
        subst hm0
        clear hrows hown
        go_wp2_with fail
        have hbkF : (wr.setCell ⟨w.heap.size + 1, 0, none⟩ (.slice none 0 0)).heap[w.heap.size + 1]? = some (.cells #[.slice none 0 0] 24 (0, 0)) := set_of_block (i := 0) _ hbr
        refine bodyPost_ret (results_cell_row rfl _ _ (w.heap.size + 1) 24 #[.slice none 0 0] (0, 0) _ (by rfl) hbkF Try.underlying24 (by rfl) (by kernel_rfl)) rfl ?_
        exact ⟨⟨_, [], rfl, World.ownsRow_nil _ _ _ _, rfl⟩, ((hB3.trans ((hbb.below (m := w.heap.size) (by omega) (by omega)))).setCell (by show _ ≤ w.heap.size + 1; omega) _)⟩
      · subst hv
        have HOW := Lib.hid hown
        have HRW := Lib.hid hrows
        clear hrows hown
        go_wp2_with fail
        have hbkF : (wr.setCell ⟨w.heap.size + 1, 0, none⟩ (.slice (some ⟨g, 0, none⟩) m.length cap)).heap[w.heap.size + 1]? = some (.cells #[.slice (some ⟨g, 0, none⟩) m.length cap] 24 (0, 0)) := set_of_block (i := 0) _ hbr
        refine bodyPost_ret (results_cell_row rfl _ _ (w.heap.size + 1) 24 #[.slice (some ⟨g, 0, none⟩) m.length cap] (0, 0) _ (by rfl) hbkF Try.underlying24 (by rfl) (by kernel_rfl)) rfl ?_
        refine ⟨⟨_, cs, rfl, ?_, ?_⟩, ((hB3.trans ((hbb.below (m := w.heap.size) (by omega) (by omega)))).setCell (by show _ ≤ w.heap.size + 1; omega) _)⟩
        · exact cp_owns HOW.out (fun x hx => Below.heap_setCell _ _ _ _ (by have := (HOW.out.lt x hx).1; show x ≠ w.heap.size + 1; omega)) (by omega)
        · exact Rows.imp (fun x c hx => CFun.go ((keptB_set wr ⟨w.heap.size + 1, 0, none⟩ _).mono (fun y hy => by show y ≠ w.heap.size + 1; have := hy.1; omega)) (fun y hy => ⟨by have := hy.1; omega, hy.2⟩) hx) HRW.out
end Go.Proofs.Ytcjmhdneelmbhaa

/- The reference's Copy: each copied function's parts in an interval of its own. -/
namespace Go.Proofs.Ytcjmhdneelmbhaa
open Go.ChangeShapes Go.WideShapes Go.RowKit Go.Deep
set_option linter.unusedVariables false

def VBh (M hi : Nat) (w : World) (u : Value) (x : BlkU) (cs : List Value) : Prop := (M ≤ x.2.1 ∧ x.2.2 ≤ hi) ∧ (∀ y, x.2.1 ≤ y → y < x.2.2 → some y ≠ u.ownBlock) ∧ CBlkV w x cs
theorem VBh.go {M hi : Nat} {w w' : World} {u : Value} {x : BlkU} {cs : List Value} (h : VBh M hi w u x cs) (hb : ∀ y, M ≤ y → y < hi → w'.heap[y]? = w.heap[y]?) : VBh M hi w' u x cs :=
  ⟨h.1, h.2.1, h.2.2.go fun y a b => hb y (by have := h.1.1; omega) (by have := h.1.2; omega)⟩
abbrev FunU := FunD × Nat × Nat
/-- A copied function: its parts in an interval. -/
def CFunV (w : World) (x : FunU) (cs : List Value) : Prop :=
  ∃ Ar cr Ab cb Mid l cs2, cs = [.int .i64 x.1.params, .int .i64 x.1.result, .slice Ar x.1.regs.length cr, .slice Ab x.1.blocks.length cb] ∧ (x.2.1 ≤ Mid ∧ Mid ≤ x.2.2) ∧ SL w 1 (RIntB (fun b => x.2.1 ≤ b ∧ b < Mid)) Ar cr x.1.regs ∧ (l.map Prod.fst = x.1.blocks ∧ Ivs Mid x.2.2 l) ∧
    (w.ownsRow Mid 40 5 (.slice Ab x.1.blocks.length cb) x.1.blocks.length cs2 ∧ (∀ g, (Value.slice Ab x.1.blocks.length cb).ownBlock = some g → g < x.2.2) ∧ Rows 5 (VBh Mid x.2.2 w (.slice Ab x.1.blocks.length cb)) l cs2) ∧ I64 x.1.params ∧ I64 x.1.result
theorem CFunV.of {n : Nat} {w : World} {f : FunD} {r : Value} (h : FCopyT n w f r) : ∃ A1 d1 A2 d2, r = .agg #[.int .i64 f.params, .int .i64 f.result, .slice A1 f.regs.length d1, .slice A2 f.blocks.length d2] ∧
    CFunV w (f, n, w.heap.size) [.int .i64 f.params, .int .i64 f.result, .slice A1 f.regs.length d1, .slice A2 f.blocks.length d2] := by
  obtain ⟨ur, Ab, cb, Mid, l, cs, rfl, hM, hreg, -, hl, ⟨ho, hrw⟩, ⟨Ar, cr, rfl, hs⟩, h1, h2⟩ := h
  exact ⟨Ar, cr, Ab, cb, rfl, Ar, cr, Ab, cb, Mid, l, cs, rfl, hM, hs, hl, ⟨ho, fun g hg => (ho.lt g hg).2, Rows.imp (fun _ _ h => h) hrw⟩, h1, h2⟩
theorem CFunV.go {w w' : World} {x : FunU} {cs : List Value} (h : CFunV w x cs) (hb : ∀ y, x.2.1 ≤ y → y < x.2.2 → w'.heap[y]? = w.heap[y]?) : CFunV w' x cs := by
  obtain ⟨Ar, cr, Ab, cb, Mid, l, cs2, e, hM, hs, hl, ⟨ho, hg, hrw⟩, h1, h2⟩ := h
  exact ⟨Ar, cr, Ab, cb, Mid, l, cs2, e, hM, SIntsB.go (keptB_blocks (P := fun y => x.2.1 ≤ y ∧ y < Mid) fun y hy => hb y hy.1 (by omega)) (fun _ q => q) hs, hl, ⟨ownsRow_block ho fun g q => hb g (by have := (ho.lt g q).1; omega) (hg g q), hg, Rows.imp (fun _ _ h => h.go fun y a b => hb y (by omega) b) hrw⟩, h1, h2⟩
def VF (K : Nat) (w : World) (u : Value) (x : FunU) (cs : List Value) : Prop := (K ≤ x.2.1 ∧ x.2.2 ≤ w.heap.size) ∧ (∀ y, x.2.1 ≤ y → y < x.2.2 → some y ≠ u.ownBlock) ∧ CFunV w x cs
theorem VF.go {M M' : Nat} {w w' : World} {u u' : Value} {x : FunU} {cs : List Value} (h : VF M w u x cs) (hM : M' ≤ M) (hs : w.heap.size ≤ w'.heap.size) (hb : ∀ y, M ≤ y → some y ≠ u.ownBlock → y < w.heap.size → w'.heap[y]? = w.heap[y]?) (hu : ∀ y, M ≤ y → some y ≠ u.ownBlock → y < w.heap.size → some y ≠ u'.ownBlock) : VF M' w' u' x cs := by
  obtain ⟨⟨h1, h2⟩, h3, h4⟩ := h
  exact ⟨⟨by omega, by omega⟩, fun y a b => hu y (by omega) (h3 y a b) (by omega), h4.go fun y a b => hb y (by omega) (h3 y a b) (by omega)⟩
def IvF (lo hi : Nat) (l : List FunU) : Prop := (∀ x ∈ l, lo ≤ x.2.1 ∧ x.2.2 ≤ hi) ∧ l.Pairwise (fun a b => a.2.2 ≤ b.2.1)
theorem IvF.snoc {lo hi hi' : Nat} {l : List FunU} {x : FunU} (h : IvF lo hi l) (h1 : hi ≤ x.2.1) (h2 : lo ≤ x.2.1) (h3 : x.2.2 ≤ hi') (h4 : hi ≤ hi') : IvF lo hi' (l ++ [x]) := by
  refine ⟨fun y hy => ?_, List.pairwise_append.2 ⟨h.2, List.pairwise_singleton _ _, fun a ha b hb => ?_⟩⟩
  · rcases List.mem_append.1 hy with hy | hy
    · have := h.1 y hy; omega
    · obtain rfl := List.mem_singleton.1 hy; exact ⟨h2, h3⟩
  · obtain rfl := List.mem_singleton.1 hb
    have := (h.1 a ha).2; omega
def RowsF (K : Nat) (u : Value) (w : World) (m : List FunD) (cs : List Value) : Prop := ∃ l : List FunU, l.map Prod.fst = m ∧ IvF K w.heap.size l ∧ Rows 4 (VF K w u) l cs

set_option maxRecDepth 100000 in
set_option maxHeartbeats 8000000 in
theorem copy_parts (m : List FunD) (v : Value) (w : World) (hv : VMod w v m) (hsm : SmallM m) :
    Calls Try.prog 11 #[v] w fun e w' => (∃ u cs, e = .returned (.agg #[u]) ∧ w'.ownsRow w.heap.size 43 4 u m.length cs ∧ RowsF w.heap.size u w' m cs) ∧ Below w.heap.size w w' := by
  obtain ⟨A, c, rfl, hm⟩ := hv
  have hml := hm.len
  obtain ⟨i25, p1, p2, p3, p4⟩ := info_parts Try.info43
  have HI25 := Lib.hid (And.intro p1 (And.intro p2 (And.intro p3 p4)))
  clear p1 p2 p3 p4
  go_enter Try.func11, Try.ntmps11
  go_wp2_with fail
  obtain ⟨w1, hw1, hs1, hk1, hb1, hc1, -⟩ := named w #[.slice A m.length c] 24
  obtain ⟨w2, hw2, hs2, hk2, hb2, -, -⟩ := named w1 #[.slice none 0 0] 24
  obtain ⟨w3, hw3, hs3, hk3, hb3, -, -⟩ := named w2 #[.slice none 0 0] 24
  have hbk2 : w2.heap[w1.heap.size]? = some (.cells #[.slice none 0 0] 24 (0, 0)) := by rw [hw2]; exact heap_alloc_new _ _
  have hbk3 : w3.heap[w2.heap.size]? = some (.cells #[.slice none 0 0] 24 (0, 0)) := by rw [hw3]; exact heap_alloc_new _ _
  have hbr3 : w3.heap[w1.heap.size]? = some (.cells #[.slice none 0 0] 24 (0, 0)) := (hb3.block _ (by omega)).trans hbk2
  have q0 : w3.cell? ⟨w.heap.size, 0, none⟩ = some (.slice A m.length c) := hk3 _ _ (hk2 _ _ (hc1 0 _ rfl))
  have hK := (hk1.trans hk2).trans hk3
  have hB3 : Below w.heap.size w w3 := (hb1.trans (hb2.mono (by omega))).trans (hb3.mono (by omega))
  rw [← hw1, ← hw2, ← hw3]
  rw [hs2, hs1] at hbk3 hs3
  rw [hs1] at hbr3
  have HBK := Lib.hid hbk3
  have HBR := Lib.hid hbr3
  have hlw : w.heap.size < w3.heap.size := by omega
  have hlr : w.heap.size + 1 < w3.heap.size := by omega
  have hlo : w.heap.size + 1 + 1 < w3.heap.size := by omega
  clear hw1 hw2 hw3 hs1 hs2 hs3 hc1 hk1 hk2 hk3 hb1 hb2 hb3 hbk2 hbk3 hbr3
  go_loopw [4] (fun i wr => ∃ (k : Nat) (u : Value) (cs : List Value), k ≤ m.length ∧ i = .int .i64 k ∧ BB w3.heap.size (w.heap.size + 1 + 1) w3 wr ∧
    wr.heap[w.heap.size + 1 + 1]? = some (.cells #[u] 24 (0, 0)) ∧
    wr.ownsRow w3.heap.size 43 4 u k cs ∧ RowsF w3.heap.size u wr (m.take k) cs) (fun i _ => m.length - (intOf i).toNat)
  case atStart => exact ⟨0, .slice none 0 0, [], Nat.zero_le _, rfl, BB.refl _ _ _, HBK.out, World.ownsRow_nil _ _ _ _, ⟨[], rfl, ⟨fun x hx => by simp at hx, List.Pairwise.nil⟩, rfl⟩⟩
  case round =>
    obtain ⟨k, u, cs, hk, rfl, hbb, hgo, hown, hrows⟩ := hrel
    have hsz := hbb.size
    have hkb := hbb.kept
    have y0 := hkb _ _ ⟨by show w.heap.size < w3.heap.size; omega, by show w.heap.size ≠ w.heap.size + 1 + 1; omega⟩ q0
    have hkW : Kept w wr := fun a v h => by
      have hlt := block_lt_of_cell h
      exact hkb a v ⟨by omega, by omega⟩ (hK _ _ h)
    have z0 : wr.cell? ⟨w.heap.size + 1 + 1, 0, none⟩ = some u := cell_of_block hgo 0
    by_cases hlt : k < m.length
    · obtain ⟨bf, of, f, rfl, hf, ⟨h0, h064⟩, ⟨h1, h164⟩, ⟨Ar, cr, h2, hregs⟩, Ab, cb, h3, hblks⟩ := (SFuns.keep hkW hm).at_ hlt
      have hbf : bf < w3.heap.size := by
        obtain ⟨b', o', f', e', _, ⟨h', _⟩, _⟩ := hm.at_ hlt
        simp only [Option.some.injEq, Addr.mk.injEq] at e'
        obtain ⟨rfl, rfl, -⟩ := e'
        have := block_lt_of_cell h'
        dsimp only at this; omega
      have hsf : SmallF f := hsm.2 f (List.mem_of_getElem? hf.out)
      have HSF := Lib.hid hsf
      clear hsf
      have hj0 : (0 : Int) ≤ k := by omega
      have hj1 : (k : Int) < m.length := by omega
      have hm40 : m.length ≤ 40 := hsm.1
      have hS : ∀ w', Below w3.heap.size wr w' → w'.cell? ⟨w.heap.size + 1 + 1, 0, none⟩ = some u ∧ w'.cell? ⟨w.heap.size, 0, none⟩ = some (.slice (some ⟨bf, of, none⟩) m.length c) ∧
          w'.cell? ⟨bf, of + k * 4, none⟩ = some (.int .i64 f.params) ∧ w'.cell? ⟨bf, of + k * 4 + 1, none⟩ = some (.int .i64 f.result) ∧ w'.cell? ⟨bf, of + k * 4 + 2, none⟩ = some (.slice Ar f.regs.length cr) ∧ w'.cell? ⟨bf, of + k * 4 + 3, none⟩ = some (.slice Ab f.blocks.length cb) := fun w' h =>
        ⟨(h.cell (p := ⟨w.heap.size + 1 + 1, 0, none⟩) hlo).trans z0, (h.cell (p := ⟨w.heap.size, 0, none⟩) (by show w.heap.size < w3.heap.size; omega)).trans y0,
          (h.cell (p := ⟨bf, of + k * 4, none⟩) hbf).trans h0, (h.cell (p := ⟨bf, of + k * 4 + 1, none⟩) hbf).trans h1, (h.cell (p := ⟨bf, of + k * 4 + 2, none⟩) hbf).trans h2, (h.cell (p := ⟨bf, of + k * 4 + 3, none⟩) hbf).trans h3⟩
      go_wp2_with fail
      refine wp_region_last (L := 11) (S := fun w' => w'.cell? ⟨w.heap.size + 1 + 1, 0, none⟩ = some u ∧ w'.cell? ⟨w.heap.size, 0, none⟩ = some (.slice (some ⟨bf, of, none⟩) m.length c) ∧
          w'.cell? ⟨bf, of + k * 4, none⟩ = some (.int .i64 f.params) ∧ w'.cell? ⟨bf, of + k * 4 + 1, none⟩ = some (.int .i64 f.result) ∧ w'.cell? ⟨bf, of + k * 4 + 2, none⟩ = some (.slice Ar f.regs.length cr) ∧ w'.cell? ⟨bf, of + k * 4 + 3, none⟩ = some (.slice Ab f.blocks.length cb)) (by kernel_rfl) (by rfl) (by kernel_rfl) (by kernel_rfl) ?_
      change wpAnyH _ _ _ _ _ _ _ _ (World.drew _)
      have hS0 := hS wr.drew (Below.refl _ _).drew
      refine takeH (i := 0) (some 12) (v := ?_) rfl (by kernel_rfl) (by kernel_rfl) (by kernel_rfl) (fun _ _ _ h => h) hS0 (fun o ho => ?_) ?_
      rotate_left
      · simp only [List.getElem?_toArray, List.getElem?_cons_zero, Option.some.injEq] at ho; subst ho; refine Or.inl ⟨by rfl, fun w' hSw => ?_⟩; (try dsimp only at hSw); go_simp; try with_reducible rfl
      simp only [Act.put, List.setIfInBounds_toArray, List.set_cons_zero, List.set_cons_succ]
      refine takeH (i := 1) (some 13) (v := ?_) rfl (by kernel_rfl) (by kernel_rfl) (by kernel_rfl) (fun _ _ _ h => h) hS0 (fun o ho => ?_) ?_
      rotate_left
      · simp only [List.getElem?_toArray, List.getElem?_cons_zero, List.getElem?_cons_succ, Option.some.injEq] at ho; subst ho; refine Or.inl ⟨by rfl, fun w' hSw => ?_⟩; (try dsimp only at hSw); go_simp; try with_reducible rfl
      simp only [Act.put, List.setIfInBounds_toArray, List.set_cons_zero, List.set_cons_succ]
      refine takeH (i := 2) (some 14) (v := ?_) rfl (by kernel_rfl) (by kernel_rfl) (by kernel_rfl) (fun _ _ _ h => h) hS0 (fun o ho => ?_) ?_
      rotate_left
      · simp only [List.getElem?_toArray, List.getElem?_cons_zero, List.getElem?_cons_succ, Option.some.injEq] at ho; subst ho; refine Or.inl ⟨by rfl, fun w' hSw => ?_⟩; (try dsimp only at hSw); go_simp; try with_reducible rfl
      simp only [Act.put, List.setIfInBounds_toArray, List.set_cons_zero, List.set_cons_succ]
      refine takeH (i := 3) (some 15) (v := ?_) rfl (by kernel_rfl) (by kernel_rfl) (by kernel_rfl) (fun _ _ _ h => h) hS0 (fun o ho => ?_) ?_
      rotate_left
      · simp only [List.getElem?_toArray, List.getElem?_cons_zero, List.getElem?_cons_succ, Option.some.injEq] at ho; subst ho; refine Or.inl ⟨by rfl, fun w' hSw => ?_⟩; (try dsimp only at hSw); go_simp; try with_reducible rfl
      simp only [Act.put, List.setIfInBounds_toArray, List.set_cons_zero, List.set_cons_succ]
      refine takeH (i := 4) (some 16) (v := ?_) rfl (by kernel_rfl) (by kernel_rfl) (by kernel_rfl) (fun _ _ _ h => h) hS0 (fun o ho => ?_) ?_
      rotate_left
      · simp only [List.getElem?_toArray, List.getElem?_cons_zero, List.getElem?_cons_succ, Option.some.injEq] at ho; subst ho; refine Or.inl ⟨by rfl, fun w' hSw => ?_⟩; (try dsimp only at hSw); go_simp; try with_reducible rfl
      simp only [Act.put, List.setIfInBounds_toArray, List.set_cons_zero, List.set_cons_succ]
      refine takeH (i := 5) (some 17) (v := ?_) rfl (by kernel_rfl) (by kernel_rfl) (by kernel_rfl) (fun _ _ _ h => h) hS0 (fun o ho => ?_) ?_
      rotate_left
      · simp only [List.getElem?_toArray, List.getElem?_cons_zero, List.getElem?_cons_succ, Option.some.injEq] at ho; subst ho; refine Or.inl ⟨by rfl, fun w' hSw => ?_⟩; (try dsimp only at hSw); go_simp; try with_reducible rfl
      simp only [Act.put, List.setIfInBounds_toArray, List.set_cons_zero, List.set_cons_succ]
      refine oneH (i := 6) (by kernel_rfl) (fun o ho K hK => ?_)
      simp only [List.getElem?_toArray, List.getElem?_cons_zero, List.getElem?_cons_succ, Option.some.injEq] at ho; subst ho
      go_simp
      refine hK.out _ _ hS0 ?_
      clear hK K
      refine oneH (i := 7) (by kernel_rfl) (fun o ho K hK => ?_)
      simp only [List.getElem?_toArray, List.getElem?_cons_zero, List.getElem?_cons_succ, Option.some.injEq] at ho; subst ho
      go_simp
      refine (copyFunc_parts f _ wr.drew ⟨Ar, cr, Ab, cb, rfl, hregs, hblks, h064, h164⟩ HSF.out).mono ?_
      rintro e wA ⟨⟨r, rfl, hcf⟩, hbA0⟩
      have hbA0 : Below wr.heap.size wr wA := (Below.refl wr.heap.size wr).drew.trans hbA0
      have hcf : FCopyT wr.heap.size wA f r := hcf
      obtain ⟨A1, d1, A2, d2, rfl, hcv⟩ := CFunV.of hcf
      have HCV := Lib.hid hcv
      clear hcf hcv
      have hsA := hbA0.size
      have hbA : Below w3.heap.size wr wA := hbA0.mono hsz
      go_wp2_with fail
      refine hK.out _ _ (hS _ hbA) ?_
      clear hK K
      refine oneH (i := 8) (by kernel_rfl) (fun o ho K hK => ?_)
      simp only [List.getElem?_toArray, List.getElem?_cons_zero, List.getElem?_cons_succ, Option.some.injEq] at ho; subst ho
      go_simp
      have hbB : Below w3.heap.size wr (wA.alloc (.cells #[.int .i64 f.params, .int .i64 f.result, .slice A1 f.regs.length d1, .slice A2 f.blocks.length d2] 43)) := hbA.alloc (by omega) _
      refine hK.out _ _ (hS _ hbB) ?_
      clear hK K
      refine oneH (i := 9) (by kernel_rfl) (fun o ho K hK => ?_)
      simp only [List.getElem?_toArray, List.getElem?_cons_zero, List.getElem?_cons_succ, Option.some.injEq] at ho; subst ho
      have hgr0 : wr.grownBy wA (some wr.heap.size) := ⟨hbA0.os, hbA0.tape, hbA0.output, hbA0.size, fun k hk _ => hbA0.block k hk⟩
      have hownA : wA.ownsRow w3.heap.size 43 4 u k cs := World.ownsRow.kept hown hgr0 (own_ne hown (Nat.le_refl _))
      refine step_append_lies _ (by rfl) _ _ _ (by rfl) w3.heap.size 43 i25 (.agg #[.int .i64 0, .int .i64 0, .slice none 0 0, .slice none 0 0]) 4 64 Try.underlying22 HI25.out.1 HI25.out.2.1 HI25.out.2.2.1 HI25.out.2.2.2 rfl (by decide) u k cs (by rfl) (hownA.alloc _)
        ⟨wA.heap.size, 0, none⟩ 1 1 [.int .i64 f.params, .int .i64 f.result, .slice A1 f.regs.length d1, .slice A2 f.blocks.length d2] (by rfl) (by rfl) (news_cells wA #[.int .i64 f.params, .int .i64 f.result, .slice A1 f.regs.length d1, .slice A2 f.blocks.length d2] _ rfl) (by simp [Value.oneCell']) (by decide) (by unfold maxLen; omega) (by omega) (by simp; omega) (wA.heap.size + 1) (by simp) ?_
      intro g cap wC hownC hgrowC hlocC hltC
      have hsC := hgrowC.size
      simp at hsC
      have hgl : ∀ x, u.ownBlock = some x → x < wr.heap.size := fun x hx => (hown.lt x hx).2
      have hbC : Below w3.heap.size wr wC := hbB.grown hgrowC (by simp; omega) (fun k hk => (hown.lt k hk).1)
      have hSC := hS _ hbC
      refine hK.out _ _ hSC ?_
      clear hK K
      simp only [Act.put, List.setIfInBounds_toArray, List.set_cons_zero, List.set_cons_succ]
      refine takeH (i := 10) (some 22) (v := ?_) rfl (by kernel_rfl) (by kernel_rfl) (by kernel_rfl) (fun _ _ _ h => h) hSC (fun o ho => ?_) ?_
      rotate_left
      · simp only [List.getElem?_toArray, List.getElem?_cons_zero, List.getElem?_cons_succ, Option.some.injEq] at ho; subst ho; refine Or.inl ⟨by rfl, fun w' hSw => ?_⟩; (try dsimp only at hSw); go_simp; try with_reducible rfl
      simp only [Act.put, List.setIfInBounds_toArray, List.set_cons_zero, List.set_cons_succ]
      refine wpAnyH_done (by kernel_rfl) ?_ _
      refine lastH (by decide) (fun o ho K hK => ?_)
      simp only [List.getElem?_toArray, List.getElem?_cons_zero, List.getElem?_cons_succ, Option.some.injEq] at ho; subst ho
      have hgoC : wC.heap[w.heap.size + 1 + 1]? = some (.cells #[u] 24 (0, 0)) := (hbC.block _ hlo).trans hgo
      have x0 : wC.cell? ⟨w.heap.size + 1 + 1, 0, none⟩ = some u := cell_of_block hgoC 0
      have xf : wC.frozen? ⟨w.heap.size + 1 + 1, 0, none⟩ = false := free_of_block hgoC 0
      go_simp
      refine hK.out _ _ ?_
      clear hK K
      obtain ⟨wF, hwF⟩ : ∃ wF, wF = wC.setCell ⟨w.heap.size + 1 + 1, 0, none⟩ (.slice (some ⟨g, 0, none⟩) (k + 1) cap) := ⟨_, rfl⟩
      have hsF : wF.heap.size = wC.heap.size := by rw [hwF]; simp [World.setCell]
      have hblk : ∀ y, w3.heap.size ≤ y → some y ≠ u.ownBlock → y < wA.heap.size → wF.heap[y]? = wA.heap[y]? := fun y h1 h2 h3 => by
        rw [hwF]
        exact (Below.heap_setCell _ _ _ _ (show y ≠ w.heap.size + 1 + 1 by omega)).trans ((hgrowC.block y (by simp; omega) h2).trans (Below.heap_alloc _ _ _ h3))
      have hnu : ∀ y, y < wA.heap.size → some y ≠ u.ownBlock → some y ≠ (Value.slice (some ⟨g, 0, none⟩) (k + 1) cap).ownBlock := fun y h1 h2 e => by
        have hyg : y = g := Option.some.inj e
        rcases hlocC with h | h
        · subst hyg; exact h2 h.symm
        · omega
      have hnou : ∀ y, wr.heap.size ≤ y → some y ≠ u.ownBlock := fun y h1 e => by have := hgl y e.symm; omega
      have hrowsF : RowsF w3.heap.size (.slice (some ⟨g, 0, none⟩) (k + 1) cap) wF (m.take (k + 1)) (cs ++ [.int .i64 f.params, .int .i64 f.result, .slice A1 f.regs.length d1, .slice A2 f.blocks.length d2]) := by
        obtain ⟨l, hl, hiv, hrv⟩ := hrows
        have hrv2 := Rows.imp (fun x c h => VF.go (w' := wF) (u' := .slice (some ⟨g, 0, none⟩) (k + 1) cap) h (Nat.le_refl _) (by omega) (fun y h1 h2 h3 => (hblk y h1 h2 (by omega)).trans (hbA0.block y h3)) (fun y h1 h2 h3 => hnu y (by omega) h2)) hrv
        refine ⟨l ++ [(f, wr.heap.size, wA.heap.size)], by rw [List.map_append, hl, take_succ_of hf.out]; rfl, hiv.snoc (Nat.le_refl _) hsz (by show wA.heap.size ≤ _; omega) (by omega), Rows.snoc (sz := 4) (c := [.int .i64 f.params, .int .i64 f.result, .slice A1 f.regs.length d1, .slice A2 f.blocks.length d2]) ?_ (by rfl) hrv2⟩
        exact ⟨⟨hsz, by show wA.heap.size ≤ _; omega⟩, fun y h1 h2 => hnu y h2 (hnou y h1), HCV.out.go fun y h1 h2 => hblk y (by have h1' : wr.heap.size ≤ y := h1; omega) (hnou y h1) h2⟩
      have hbbF : BB w3.heap.size (w.heap.size + 1 + 1) w3 wF := by rw [hwF]; exact (hbb.trans (BB.of_below hbC (Nat.le_refl _))).setCell (.inl rfl) _
      have hgoF : wF.heap[w.heap.size + 1 + 1]? = some (.cells #[.slice (some ⟨g, 0, none⟩) (k + 1) cap] 24 (0, 0)) := by
        rw [hwF]; exact set_of_block (i := 0) (.slice (some ⟨g, 0, none⟩) (k + 1) cap) hgoC
      have hownF : wF.ownsRow w3.heap.size 43 4 (.slice (some ⟨g, 0, none⟩) (k + 1) cap) (k + 1) (cs ++ [.int .i64 f.params, .int .i64 f.result, .slice A1 f.regs.length d1, .slice A2 f.blocks.length d2]) := by rw [hwF]; exact ownsRow_setCell_below hownC hlo _
      have HR := Lib.hid hrowsF
      have HO := Lib.hid hownF
      have HG := Lib.hid hgoF
      have HB := Lib.hid hbbF
      rw [← hwF]
      clear hrowsF hownF hgoF hbbF hwF x0 xf hgoC hblk hnu hnou HCV
      go_wp2_with fail
      go_roundw
      case rel => exact ⟨k + 1, _, _, by omega, by go_num, HB.out, HG.out, HO.out, HR.out⟩
      case measure => simp [intOf]; omega
    · obtain rfl : k = m.length := by omega
      rw [List.take_of_length_le (Nat.le_refl _)] at hrows
      have hbr := (hbb.block _ hlr (by omega)).trans HBR.out
      have r0 : wr.cell? ⟨w.heap.size + 1, 0, none⟩ = some (.slice none 0 0) := cell_of_block hbr 0
      have r1 : wr.frozen? ⟨w.heap.size + 1, 0, none⟩ = false := free_of_block hbr 0
      have hN1 : w.heap.size + 1 < w3.heap.size := by omega
      rcases hown.2 with ⟨hv, hn⟩ | ⟨g, cap, cur, hv, -⟩
      · subst hv
        have hm0 : m = [] := List.length_eq_zero_iff.1 hn
        subst hm0
        clear hrows hown
        go_wp2_with fail
        have hbkF : (wr.setCell ⟨w.heap.size + 1, 0, none⟩ (.slice none 0 0)).heap[w.heap.size + 1]? = some (.cells #[.slice none 0 0] 24 (0, 0)) := set_of_block (i := 0) _ hbr
        refine bodyPost_ret (results_cell_row rfl _ _ (w.heap.size + 1) 24 #[.slice none 0 0] (0, 0) _ (by rfl) hbkF Try.underlying24 (by rfl) (by kernel_rfl)) rfl ?_
        exact ⟨⟨_, [], rfl, World.ownsRow_nil _ _ _ _, ⟨[], rfl, ⟨fun x hx => by simp at hx, List.Pairwise.nil⟩, rfl⟩⟩, ((hB3.trans ((hbb.below (m := w.heap.size) (by omega) (by omega)))).setCell (by show _ ≤ w.heap.size + 1; omega) _)⟩
      · subst hv
        have HOW := Lib.hid hown
        have HRW := Lib.hid hrows
        clear hrows hown
        go_wp2_with fail
        have hbkF : (wr.setCell ⟨w.heap.size + 1, 0, none⟩ (.slice (some ⟨g, 0, none⟩) m.length cap)).heap[w.heap.size + 1]? = some (.cells #[.slice (some ⟨g, 0, none⟩) m.length cap] 24 (0, 0)) := set_of_block (i := 0) _ hbr
        refine bodyPost_ret (results_cell_row rfl _ _ (w.heap.size + 1) 24 #[.slice (some ⟨g, 0, none⟩) m.length cap] (0, 0) _ (by rfl) hbkF Try.underlying24 (by rfl) (by kernel_rfl)) rfl ?_
        refine ⟨⟨_, cs, rfl, ?_, ?_⟩, ((hB3.trans ((hbb.below (m := w.heap.size) (by omega) (by omega)))).setCell (by show _ ≤ w.heap.size + 1; omega) _)⟩
        · exact cp_owns HOW.out (fun x hx => Below.heap_setCell _ _ _ _ (by have := (HOW.out.lt x hx).1; show x ≠ w.heap.size + 1; omega)) (by omega)
        · obtain ⟨l, hl, hiv, hrv⟩ := HRW.out
          have hsz9 : (wr.setCell ⟨w.heap.size + 1, 0, none⟩ (.slice (some ⟨g, 0, none⟩) m.length cap)).heap.size = wr.heap.size := by simp [World.setCell]
          exact ⟨l, hl, ⟨fun x hx => ⟨by have := (hiv.1 x hx).1; omega, by have := (hiv.1 x hx).2; omega⟩, hiv.2⟩, Rows.imp (fun x c h => VF.go h (by omega) (by omega) (fun y h1 _ _ => Below.heap_setCell _ _ _ _ (show y ≠ w.heap.size + 1 by omega)) (fun _ _ h2 _ => h2)) hrv⟩
end Go.Proofs.Ytcjmhdneelmbhaa
