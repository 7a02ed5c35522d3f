/- The program's goBack. -/
import Derived.Test.YtcjmhdneelmbhaaLvCJ
import Derived.BigQuiet
import Derived.Test.YtcjmhdneelmbhaaAheadGJ
import Derived.Deep.OwnRows
import Derived.Deep.AppendLies
namespace Go.Proofs.Ytcjmhdneelmbhaa
open Go.ChangeShapes Go.WideShapes Go.RowKit Go.Deep
set_option linter.unusedVariables false

theorem size_place (w : World) : (sizeOf (Try.prog.elem 81)).run Try.prog w = .ok 2 w := by kernel_rfl
theorem elem_places : Try.prog.underlying 81 = some (.slice (Try.prog.elem 81)) := by kernel_rfl
theorem own_popP {w : World} {K : Nat} {v : Value} {op : List (Nat × Nat)} {e : Nat × Nat} (h : w.ownsRow K 128 2 v (op ++ [e]).length (opF (op ++ [e]))) :
    ∃ g cap, v = .slice (some ⟨g, 0, none⟩) (op.length + 1) cap ∧ w.cell? ⟨g, op.length * 2, none⟩ = some (.int .i64 (e.1 : Int)) ∧ w.cell? ⟨g, op.length * 2 + 1, none⟩ = some (.int .i64 (e.2 : Int)) ∧ op.length + 1 ≤ cap ∧ cap ≤ maxLen ∧
      (∀ W, (Instr.slice 81 (.slice (some ⟨g, 0, none⟩) (op.length + 1) cap) none (some (.int .i64 op.length)) none).run Try.prog W = .ok (.slice (some ⟨g, 0, none⟩) op.length cap) W) ∧
      w.ownsRow K 128 2 (.slice (some ⟨g, 0, none⟩) op.length cap) op.length (opF op) := by
  have hl : (op ++ [e]).length = op.length + 1 := by simp
  rw [hl] at h
  have h0 := h
  obtain ⟨h1, ⟨-, h2⟩ | ⟨g, cap, cur, rfl, hb, hh, hn, hc, hsz, ht⟩⟩ := h
  · omega
  · have hf : (opF op).length = op.length * 2 := by rw [opF_len]; omega
    have hs : opF (op ++ [e]) = opF op ++ [.int .i64 (e.1 : Int), .int .i64 (e.2 : Int)] := opF_snoc op e.1 e.2
    refine ⟨g, cap, rfl, ?_, ?_, hn, hc, fun W => ?_, ownsRow_pop hf (by rw [← hs]; exact h0)⟩
    · rw [h0.cellAt _ (by omega), hs, List.getElem?_append_right (by omega)]; simp [hf]
    · rw [h0.cellAt _ (by omega), hs, List.getElem?_append_right (by omega)]; simp [hf]
    · rw [run_slice_h W 81 (some ⟨g, 0, none⟩) (op.length + 1) cap elem_places .i64 op.length (by omega) (by omega), size_place]
      have hc0 : cap ≠ 0 := by omega
      simp [Result.andThen, sliced, hc0, Addr.add]

set_option maxRecDepth 100000 in
set_option maxHeartbeats 8000000 in
theorem goBack_any (bs : List BlkD) (Wa : World) (H Ga R K : Nat) (W : World) (vo : Value) (s : LvS) (h : WsM Wa H Ga bs.length R K W vo (mkB bs) (phB bs) s) (hf : FewS bs.length R s) (hn : bs.length ≤ 64) (hR : R ≤ 256)
    (hah : SL Wa 1 RRow (some ⟨Ga, 0, none⟩) bs.length (rows bs)) (hgot : GotS bs s) (htold : ToldS bs s) :
    Calls Try.prog 41 #[.pointer (some ⟨H + 4 * (bs.length + 1), 0, none⟩)] W fun e W' => e = .returned (.tuple #[]) ∧ ∃ vo' s', WsM Wa H Ga bs.length R K W' vo' (mkB bs) (phB bs) s' ∧ GroS H (H + 4 * (bs.length + 1)) W W' vo vo' ∧ GotS bs s' ∧ ToldS bs s' ∧ s'.op = [] := by
  obtain ⟨P, hP⟩ : ∃ P, H + 4 * (bs.length + 1) = P := ⟨_, rfl⟩
  have HP := Lib.hid hP
  have HM := Lib.hid h
  have HF := Lib.hid hf
  have HAH := Lib.hid hah
  have HGT := Lib.hid (And.intro hgot htold)
  have HZ : Hid (Wa.heap.size = H ∧ H ≤ P) := Lib.hid ⟨h.hz, by omega⟩
  have hnR : bs.length * R ≤ 16384 := by have := Nat.mul_le_mul hn hR; omega
  have HNR := Lib.hid hnR
  rw [hP]
  clear h hf hah hgot htold hP hnR
  go_enter Try.func41, Try.ntmps41
  go_wp2_with fail
  go_loopg [] (msS bs.length R s) (fun gk wq => ∃ (v' : Value) (s' : LvS), gk = msS bs.length R s' ∧ WsM Wa H Ga bs.length R K wq v' (mkB bs) (phB bs) s' ∧ FewS bs.length R s' ∧ GotS bs s' ∧ ToldS bs s' ∧ GroS H P W wq vo v')
  case atStart => exact ⟨vo, s, rfl, HM.out, HF.out, HGT.out.1, HGT.out.2, GroS.refl _ _ _ _⟩
  case round =>
    obtain ⟨v', s', hgk, hM, hF, hgot, htold, hG⟩ := hrel
    obtain ⟨wL, rfl⟩ : ∃ wL, wL = wr := ⟨_, rfl⟩
    obtain ⟨p0, -, -, -, -, p5, p6⟩ := hM.cells HP.out
    have HMK := Lib.hid hM
    have HFK := Lib.hid hF
    have HGK := Lib.hid hG
    have HGO := Lib.hid hgot
    have HTO := Lib.hid htold
    have HK := Lib.hid hgk
    rcases List.eq_nil_or_concat s'.op with he | ⟨op, ⟨b, r⟩, he⟩
    · have ho := hM.op
      rw [he] at ho
      obtain ⟨Av, cv, hv⟩ := own_sliceL ho
      rw [hv] at p5
      have HE := Lib.hid he
      clear hM hF hgot htold hG he ho hv p0 p6 hgk
      go_wp2_with fail
      go_end0
      exact ⟨rfl, v', s', HMK.out, HGK.out, HGO.out, HTO.out, HE.out⟩
    · rw [List.concat_eq_append] at he
      have ho := hM.op
      rw [he] at ho
      obtain ⟨g, cap, hv, he1, he2, hcap, hcm, hrun, hpop⟩ := own_popP ho
      have HE := Lib.hid he
      have hol : op.length ≤ 16384 := by
        have h1 := hF.le
        have := HNR.out
        rw [he] at h1; simp at h1; omega
      have hbr : b < bs.length ∧ r < R := hF.2 (b, r) (by rw [he]; simp)
      rw [hv] at p5
      have HV := Lib.hid hv
      have HPOP := Lib.hid hpop
      have HBR := Lib.hid hbr
      have HRUN := Lib.hid hrun
      have hgP : P < g := by have h1 := (ho.lt g (by rw [hv]; rfl)).1; have := hM.hk; have := HP.out; omega
      have hgS : g < wL.heap.size := (ho.lt g (by rw [hv]; rfl)).2
      clear hM hF hgot htold hG he ho hv hpop hbr hrun hgk
      obtain ⟨lo, hlo⟩ : ∃ lo, op.length = lo := ⟨_, rfl⟩
      have HLO := Lib.hid hlo
      rw [hlo] at p5 he1 he2 hcap hol
      rw [hlo] at HRUN HV
      have ew : IntKind.i64.wrap (lo : Int) = (lo : Int) := Go.IntWalk.i64_in _ (by omega)
      have hl0 : (0 : Int) ≤ lo := by omega
      have hl1 : (lo : Int) < (lo : Int) + 1 := by omega
      clear hlo
      go_upto_region 1 with fail
      refine wp_region_last (L := 13) (S := fun w' : World => w'.cell? ⟨P, 5, none⟩ = some (.slice (some ⟨g, 0, none⟩) (lo + 1) cap) ∧ w'.cell? ⟨g, lo * 2, none⟩ = some (.int .i64 (b : Int)) ∧ w'.cell? ⟨g, lo * 2 + 1, none⟩ = some (.int .i64 (r : Int))) (by kernel_rfl) (by rfl) (by kernel_rfl) (by kernel_rfl) ?_
      change wpAnyH _ _ _ _ _ _ _ _ (World.drew _)
      have hS0 : wL.drew.cell? ⟨P, 5, none⟩ = some (.slice (some ⟨g, 0, none⟩) (lo + 1) cap) ∧ wL.drew.cell? ⟨g, lo * 2, none⟩ = some (.int .i64 (b : Int)) ∧ wL.drew.cell? ⟨g, lo * 2 + 1, none⟩ = some (.int .i64 (r : Int)) := ⟨p5, he1, he2⟩
      refine takeH (i := 0) (some 11) (v := ?_) rfl (by kernel_rfl) (by kernel_rfl) (by kernel_rfl) (fun _ _ _ h => h) hS0 (fun o ho => ?_) ?_
      rotate_left
      · simp only [List.getElem?_toArray, List.getElem?_cons_zero, Option.some.injEq] at ho; subst ho; refine Or.inl ⟨by rfl, fun w' hSw => ?_⟩; (try dsimp only at hSw); go_simp; try with_reducible rfl
      simp only [Act.put, List.setIfInBounds_toArray, List.set_cons_zero, List.set_cons_succ]
      refine takeH (i := 1) (some 12) (v := ?_) rfl (by kernel_rfl) (by kernel_rfl) (by kernel_rfl) (fun _ _ _ h => h) hS0 (fun o ho => ?_) ?_
      rotate_left
      · simp only [List.getElem?_toArray, List.getElem?_cons_zero, List.getElem?_cons_succ, Option.some.injEq] at ho; subst ho; refine Or.inl ⟨by rfl, fun w' hSw => ?_⟩; (try dsimp only at hSw); go_simp; try with_reducible rfl
      simp only [Act.put, List.setIfInBounds_toArray, List.set_cons_zero, List.set_cons_succ]
      refine takeH (i := 2) (some 13) (v := ?_) rfl (by kernel_rfl) (by kernel_rfl) (by kernel_rfl) (fun _ _ _ h => h) hS0 (fun o ho => ?_) ?_
      rotate_left
      · simp only [List.getElem?_toArray, List.getElem?_cons_zero, List.getElem?_cons_succ, Option.some.injEq] at ho; subst ho; refine Or.inl ⟨by rfl, fun w' hSw => ?_⟩; (try dsimp only at hSw); go_simp; try with_reducible rfl
      simp only [Act.put, List.setIfInBounds_toArray, List.set_cons_zero, List.set_cons_succ]
      refine takeH (i := 3) (some 14) (v := ?_) rfl (by kernel_rfl) (by kernel_rfl) (by kernel_rfl) (fun _ _ _ h => h) hS0 (fun o ho => ?_) ?_
      rotate_left
      · simp only [List.getElem?_toArray, List.getElem?_cons_zero, List.getElem?_cons_succ, Option.some.injEq] at ho; subst ho; refine Or.inl ⟨by rfl, fun w' hSw => ?_⟩; (try dsimp only at hSw); go_simp; try with_reducible rfl
      simp only [Act.put, List.setIfInBounds_toArray, List.set_cons_zero, List.set_cons_succ]
      refine takeH (i := 4) (some 15) (v := ?_) rfl (by kernel_rfl) (by kernel_rfl) (by kernel_rfl) (fun _ _ _ h => h) hS0 (fun o ho => ?_) ?_
      rotate_left
      · simp only [List.getElem?_toArray, List.getElem?_cons_zero, List.getElem?_cons_succ, Option.some.injEq] at ho; subst ho; refine Or.inl ⟨by rfl, fun w' hSw => ?_⟩; (try dsimp only at hSw); go_simp; try with_reducible rfl
      simp only [Act.put, List.setIfInBounds_toArray, List.set_cons_zero, List.set_cons_succ]
      refine takeH (i := 5) (some 16) (v := ?_) rfl (by kernel_rfl) (by kernel_rfl) (by kernel_rfl) (fun _ _ _ h => h) hS0 (fun o ho => ?_) ?_
      rotate_left
      · simp only [List.getElem?_toArray, List.getElem?_cons_zero, List.getElem?_cons_succ, Option.some.injEq] at ho; subst ho; refine Or.inl ⟨by rfl, fun w' hSw => ?_⟩; (try dsimp only at hSw); go_simp; try with_reducible rfl
      simp only [Act.put, List.setIfInBounds_toArray, List.set_cons_zero, List.set_cons_succ]
      refine takeH (i := 6) (some 17) (v := ?_) rfl (by kernel_rfl) (by kernel_rfl) (by kernel_rfl) (fun _ _ _ h => h) hS0 (fun o ho => ?_) ?_
      rotate_left
      · simp only [List.getElem?_toArray, List.getElem?_cons_zero, List.getElem?_cons_succ, Option.some.injEq] at ho; subst ho; refine Or.inl ⟨by rfl, fun w' hSw => ?_⟩; (try dsimp only at hSw); go_simp; try with_reducible rfl
      simp only [Act.put, List.setIfInBounds_toArray, List.set_cons_zero, List.set_cons_succ]
      refine takeH (i := 7) (some 18) (v := ?_) rfl (by kernel_rfl) (by kernel_rfl) (by kernel_rfl) (fun _ _ _ h => h) hS0 (fun o ho => ?_) ?_
      rotate_left
      · simp only [List.getElem?_toArray, List.getElem?_cons_zero, List.getElem?_cons_succ, Option.some.injEq] at ho; subst ho; refine Or.inl ⟨by rfl, fun w' hSw => ?_⟩; (try dsimp only at hSw); go_simp; try with_reducible rfl
      simp only [Act.put, List.setIfInBounds_toArray, List.set_cons_zero, List.set_cons_succ]
      refine takeH (i := 8) (some 19) (v := ?_) rfl (by kernel_rfl) (by kernel_rfl) (by kernel_rfl) (fun _ _ _ h => h) hS0 (fun o ho => ?_) ?_
      rotate_left
      · simp only [List.getElem?_toArray, List.getElem?_cons_zero, List.getElem?_cons_succ, Option.some.injEq] at ho; subst ho; refine Or.inl ⟨by rfl, fun w' hSw => ?_⟩; (try dsimp only at hSw); go_simp; try with_reducible rfl
      simp only [Act.put, List.setIfInBounds_toArray, List.set_cons_zero, List.set_cons_succ]
      refine takeH (i := 9) (some 20) (v := ?_) rfl (by kernel_rfl) (by kernel_rfl) (by kernel_rfl) (fun _ _ _ h => h) hS0 (fun o ho => ?_) ?_
      rotate_left
      · simp only [List.getElem?_toArray, List.getElem?_cons_zero, List.getElem?_cons_succ, Option.some.injEq] at ho; subst ho; refine Or.inl ⟨by rfl, fun w' hSw => ?_⟩; (try dsimp only at hSw); go_simp; try with_reducible rfl
      simp only [Act.put, List.setIfInBounds_toArray, List.set_cons_zero, List.set_cons_succ]
      refine takeH (i := 10) (some 21) (v := ?_) rfl (by kernel_rfl) (by kernel_rfl) (by kernel_rfl) (fun _ _ _ h => h) hS0 (fun o ho => ?_) ?_
      rotate_left
      · simp only [List.getElem?_toArray, List.getElem?_cons_zero, List.getElem?_cons_succ, Option.some.injEq] at ho; subst ho; refine Or.inl ⟨by rfl, fun w' hSw => ?_⟩; (try dsimp only at hSw); go_simp; try with_reducible rfl
      simp only [Act.put, List.setIfInBounds_toArray, List.set_cons_zero, List.set_cons_succ]
      refine takeH (i := 11) (some 22) (v := ?_) rfl (by kernel_rfl) (by kernel_rfl) (by kernel_rfl) (fun _ _ _ h => h) hS0 (fun o ho => ?_) ?_
      rotate_left
      · simp only [List.getElem?_toArray, List.getElem?_cons_zero, List.getElem?_cons_succ, Option.some.injEq] at ho; subst ho; refine Or.inl ⟨by rfl, fun w' hSw => ?_⟩; (try dsimp only at hSw); go_simp; try with_reducible rfl
      simp only [Act.put, List.setIfInBounds_toArray, List.set_cons_zero, List.set_cons_succ]
      refine oneH (i := 12) (by kernel_rfl) (fun o ho K' hK => ?_)
      simp only [List.getElem?_toArray, List.getElem?_cons_zero, List.getElem?_cons_succ, Option.some.injEq] at ho; subst ho
      go_simp
      have hbal : Below wL.heap.size wL (wL.alloc (.cells #[.int .i64 0, .int .i64 0] 128)).drew := ((Below.refl _ wL).alloc (Nat.le_refl _) _).drew
      have hPW : P < wL.heap.size := by omega
      have hS1 : (wL.alloc (.cells #[.int .i64 0, .int .i64 0] 128)).drew.cell? ⟨P, 5, none⟩ = some (.slice (some ⟨g, 0, none⟩) (lo + 1) cap) ∧ (wL.alloc (.cells #[.int .i64 0, .int .i64 0] 128)).drew.cell? ⟨g, lo * 2, none⟩ = some (.int .i64 (b : Int)) ∧ (wL.alloc (.cells #[.int .i64 0, .int .i64 0] 128)).drew.cell? ⟨g, lo * 2 + 1, none⟩ = some (.int .i64 (r : Int)) :=
        ⟨(hbal.cell (p := ⟨P, 5, none⟩) hPW).trans p5, (hbal.cell (p := ⟨g, lo * 2, none⟩) hgS).trans he1, (hbal.cell (p := ⟨g, lo * 2 + 1, none⟩) hgS).trans he2⟩
      refine hK.out _ _ hS1 ?_
      clear hK K'
      refine wpAnyH_done (by kernel_rfl) ?_ _
      refine lastH (by decide) (fun o ho K' hK => ?_)
      simp only [List.getElem?_toArray, List.getElem?_cons_zero, List.getElem?_cons_succ, Option.some.injEq] at ho; subst ho
      go_simp
      refine hK.out _ _ ?_
      clear hK K'
      obtain ⟨Q, hQ⟩ : ∃ Q, Q = wL.heap.size := ⟨_, rfl⟩
      obtain ⟨wA, hwA⟩ : ∃ wA, wA = (wL.alloc (.cells #[.int .i64 (b : Int), .int .i64 (r : Int)] 128)).drew := ⟨_, rfl⟩
      have hbQ : wA.heap[Q]? = some (.cells #[.int .i64 (b : Int), .int .i64 (r : Int)] 128) := by rw [hwA, hQ]; exact heap_alloc_new _ _
      have hbelA : Below wL.heap.size wL wA := by rw [hwA]; exact ((Below.refl _ _).alloc (Nat.le_refl _) _).drew
      have hMA := HMK.out.below hbelA
      have hzA : wA.heap.size = Q + 1 := by rw [hwA, hQ]; show (wL.alloc _).heap.size = _; simp
      have HQ : Hid (Q = wL.heap.size ∧ wA.heap.size = Q + 1 ∧ P < Q) := Lib.hid ⟨hQ, hzA, by omega⟩
      have HBQ := Lib.hid hbQ
      have HBELA := Lib.hid hbelA
      have HMA := Lib.hid hMA
      have HPOPA : Hid (wA.ownsRow K 128 2 (.slice (some ⟨g, 0, none⟩) lo cap) op.length (opF op)) := Lib.hid (by have h1 := HPOP.out; rw [HLO.out] at h1 ⊢; exact ownsRow_block h1 (fun x hx => hbelA.block x (h1.lt x hx).2))
      obtain ⟨-, -, -, -, -, r5, r6⟩ := hMA.cells HP.out
      rw [HV.out] at r5
      rw [← hwA, ← hQ]
      have hrun := HRUN.out
      clear hwA hQ hbQ hbelA hMA hS0 hS1 hbal p5 p6 he1 he2 hzA p0
      go_wp2_with fail
      refine wp_region_last (L := 14) (S := fun w' : World => w'.cell? ⟨P, 5, none⟩ = some (.slice (some ⟨g, 0, none⟩) (lo + 1) cap)) (by kernel_rfl) (by rfl) (by kernel_rfl) (by kernel_rfl) ?_
      change wpAnyH _ _ _ _ _ _ _ _ (World.drew _)
      have hS2 : wA.drew.cell? ⟨P, 5, none⟩ = some (.slice (some ⟨g, 0, none⟩) (lo + 1) cap) := r5
      have hf2 : wA.drew.frozen? ⟨P, 5, none⟩ = false := r6
      refine takeH (i := 0) (some 23) (v := ?_) rfl (by kernel_rfl) (by kernel_rfl) (by kernel_rfl) (fun _ _ _ h => h) hS2 (fun o ho => ?_) ?_
      rotate_left
      · simp only [List.getElem?_toArray, List.getElem?_cons_zero, Option.some.injEq] at ho; subst ho; refine Or.inl ⟨by rfl, fun w' hSw => ?_⟩; (try dsimp only at hSw); go_simp; try with_reducible rfl
      simp only [Act.put, List.setIfInBounds_toArray, List.set_cons_zero, List.set_cons_succ]
      refine takeH (i := 1) (some 24) (v := ?_) rfl (by kernel_rfl) (by kernel_rfl) (by kernel_rfl) (fun _ _ _ h => h) hS2 (fun o ho => ?_) ?_
      rotate_left
      · simp only [List.getElem?_toArray, List.getElem?_cons_zero, List.getElem?_cons_succ, Option.some.injEq] at ho; subst ho; refine Or.inl ⟨by rfl, fun w' hSw => ?_⟩; (try dsimp only at hSw); go_simp; try with_reducible rfl
      simp only [Act.put, List.setIfInBounds_toArray, List.set_cons_zero, List.set_cons_succ]
      refine takeH (i := 2) (some 25) (v := ?_) rfl (by kernel_rfl) (by kernel_rfl) (by kernel_rfl) (fun _ _ _ h => h) hS2 (fun o ho => ?_) ?_
      rotate_left
      · simp only [List.getElem?_toArray, List.getElem?_cons_zero, List.getElem?_cons_succ, Option.some.injEq] at ho; subst ho; refine Or.inl ⟨by rfl, fun w' hSw => ?_⟩; (try dsimp only at hSw); go_simp; try with_reducible rfl
      simp only [Act.put, List.setIfInBounds_toArray, List.set_cons_zero, List.set_cons_succ]
      refine takeH (i := 3) (some 26) (v := ?_) rfl (by kernel_rfl) (by kernel_rfl) (by kernel_rfl) (fun _ _ _ h => h) hS2 (fun o ho => ?_) ?_
      rotate_left
      · simp only [List.getElem?_toArray, List.getElem?_cons_zero, List.getElem?_cons_succ, Option.some.injEq] at ho; subst ho; refine Or.inl ⟨by rfl, fun w' hSw => ?_⟩; (try dsimp only at hSw); go_simp; try with_reducible rfl
      simp only [Act.put, List.setIfInBounds_toArray, List.set_cons_zero, List.set_cons_succ]
      refine takeH (i := 4) (some 27) (v := ?_) rfl (by kernel_rfl) (by kernel_rfl) (by kernel_rfl) (fun _ _ _ h => h) hS2 (fun o ho => ?_) ?_
      rotate_left
      · simp only [List.getElem?_toArray, List.getElem?_cons_zero, List.getElem?_cons_succ, Option.some.injEq] at ho; subst ho; refine Or.inl ⟨by rfl, fun w' hSw => ?_⟩; (try dsimp only at hSw); go_simp; try with_reducible rfl
      simp only [Act.put, List.setIfInBounds_toArray, List.set_cons_zero, List.set_cons_succ]
      refine takeH (i := 5) (some 28) (v := ?_) rfl (by kernel_rfl) (by kernel_rfl) (by kernel_rfl) (fun _ _ _ h => h) hS2 (fun o ho => ?_) ?_
      rotate_left
      · simp only [List.getElem?_toArray, List.getElem?_cons_zero, List.getElem?_cons_succ, Option.some.injEq] at ho; subst ho; refine Or.inl ⟨by rfl, fun w' hSw => ?_⟩; (try dsimp only at hSw); go_simp; try with_reducible rfl
      simp only [Act.put, List.setIfInBounds_toArray, List.set_cons_zero, List.set_cons_succ]
      refine takeH (i := 6) (some 29) (v := ?_) rfl (by kernel_rfl) (by kernel_rfl) (by kernel_rfl) (fun _ _ _ h => h) hS2 (fun o ho => ?_) ?_
      rotate_left
      · simp only [List.getElem?_toArray, List.getElem?_cons_zero, List.getElem?_cons_succ, Option.some.injEq] at ho; subst ho; refine Or.inl ⟨by rfl, fun w' hSw => ?_⟩; (try dsimp only at hSw); go_simp; try with_reducible rfl
      simp only [Act.put, List.setIfInBounds_toArray, List.set_cons_zero, List.set_cons_succ]
      refine takeH (i := 7) (some 30) (v := ?_) rfl (by kernel_rfl) (by kernel_rfl) (by kernel_rfl) (fun _ _ _ h => h) hS2 (fun o ho => ?_) ?_
      rotate_left
      · simp only [List.getElem?_toArray, List.getElem?_cons_zero, List.getElem?_cons_succ, Option.some.injEq] at ho; subst ho; refine Or.inl ⟨by rfl, fun w' hSw => ?_⟩; (try dsimp only at hSw); go_simp; try with_reducible rfl
      simp only [Act.put, List.setIfInBounds_toArray, List.set_cons_zero, List.set_cons_succ]
      refine takeH (i := 8) (some 31) (v := ?_) rfl (by kernel_rfl) (by kernel_rfl) (by kernel_rfl) (fun _ _ _ h => h) hS2 (fun o ho => ?_) ?_
      rotate_left
      · simp only [List.getElem?_toArray, List.getElem?_cons_zero, List.getElem?_cons_succ, Option.some.injEq] at ho; subst ho; refine Or.inl ⟨by rfl, fun w' hSw => ?_⟩; (try dsimp only at hSw); go_simp; try with_reducible rfl
      simp only [Act.put, List.setIfInBounds_toArray, List.set_cons_zero, List.set_cons_succ]
      refine takeH (i := 9) (some 32) (v := ?_) rfl (by kernel_rfl) (by kernel_rfl) (by kernel_rfl) (fun _ _ _ h => h) hS2 (fun o ho => ?_) ?_
      rotate_left
      · simp only [List.getElem?_toArray, List.getElem?_cons_zero, List.getElem?_cons_succ, Option.some.injEq] at ho; subst ho; refine Or.inl ⟨by rfl, fun w' hSw => ?_⟩; (try dsimp only at hSw); go_simp; try with_reducible rfl
      simp only [Act.put, List.setIfInBounds_toArray, List.set_cons_zero, List.set_cons_succ]
      refine takeH (i := 10) (some 33) (v := ?_) rfl (by kernel_rfl) (by kernel_rfl) (by kernel_rfl) (fun _ _ _ h => h) hS2 (fun o ho => ?_) ?_
      rotate_left
      · simp only [List.getElem?_toArray, List.getElem?_cons_zero, List.getElem?_cons_succ, Option.some.injEq] at ho; subst ho; refine Or.inl ⟨by rfl, fun w' hSw => ?_⟩; (try dsimp only at hSw); go_simp; try with_reducible rfl
      simp only [Act.put, List.setIfInBounds_toArray, List.set_cons_zero, List.set_cons_succ]
      refine takeH (i := 11) (some 34) (v := ?_) rfl (by kernel_rfl) (by kernel_rfl) (by kernel_rfl) (fun _ _ _ h => h) hS2 (fun o ho => ?_) ?_
      rotate_left
      · simp only [List.getElem?_toArray, List.getElem?_cons_zero, List.getElem?_cons_succ, Option.some.injEq] at ho; subst ho; refine Or.inl ⟨by rfl, fun w' hSw => ?_⟩; (try dsimp only at hSw); go_simp; try with_reducible rfl
      simp only [Act.put, List.setIfInBounds_toArray, List.set_cons_zero, List.set_cons_succ]
      refine takeH (i := 12) (some 35) (v := ?_) rfl (by kernel_rfl) (by kernel_rfl) (by kernel_rfl) (fun _ _ _ h => h) hS2 (fun o ho => ?_) ?_
      rotate_left
      · simp only [List.getElem?_toArray, List.getElem?_cons_zero, List.getElem?_cons_succ, Option.some.injEq] at ho; subst ho; refine Or.inl ⟨by rfl, fun w' hSw => ?_⟩; (try dsimp only at hSw); go_simp; try with_reducible rfl
      simp only [Act.put, List.setIfInBounds_toArray, List.set_cons_zero, List.set_cons_succ]
      refine takeH (i := 13) (some 36) (v := ?_) rfl (by kernel_rfl) (by kernel_rfl) (by kernel_rfl) (fun _ _ _ h => h) hS2 (fun o ho => ?_) ?_
      rotate_left
      · simp only [List.getElem?_toArray, List.getElem?_cons_zero, List.getElem?_cons_succ, Option.some.injEq] at ho; subst ho; refine Or.inl ⟨by rfl, fun w' hSw => ?_⟩; (try dsimp only at hSw); go_simp; try with_reducible rfl
      simp only [Act.put, List.setIfInBounds_toArray, List.set_cons_zero, List.set_cons_succ]
      refine wpAnyH_done (by kernel_rfl) ?_ _
      refine lastH (by decide) (fun o ho K' hK => ?_)
      simp only [List.getElem?_toArray, List.getElem?_cons_zero, List.getElem?_cons_succ, Option.some.injEq] at ho; subst ho
      go_simp
      refine hK.out _ _ ?_
      clear hK K'
      obtain ⟨wP, hwP⟩ : ∃ wP, wP = (wA.setCell ⟨P, 5, none⟩ (.slice (some ⟨g, 0, none⟩) lo cap)).drew := ⟨_, rfl⟩
      have hMP : WsM Wa H Ga bs.length R K wP (.slice (some ⟨g, 0, none⟩) lo cap) (mkB bs) (phB bs) ⟨s'.A, s'.E, op⟩ := by
        have h1 := WsM.setOp HMA.out (W7 := wA) (v' := .slice (some ⟨g, 0, none⟩) lo cap) (l := op) ⟨rfl, rfl, rfl, Nat.le_refl _, fun _ _ _ => rfl, fun x h => .inl (by rw [HV.out]; exact h)⟩ HPOPA.out
        rw [HP.out] at h1
        rw [hwP]; exact h1.below (Below.refl _ _).drew
      have hbQ : wP.heap[Q]? = some (.cells #[.int .i64 (b : Int), .int .i64 (r : Int)] 128) := by
        rw [hwP]
        have h1 : (wA.setCell ⟨P, 5, none⟩ (.slice (some ⟨g, 0, none⟩) lo cap)).heap[Q]? = wA.heap[Q]? := Below.heap_setCell _ _ _ _ (by have := HQ.out; show Q ≠ P; omega)
        exact h1.trans HBQ.out
      have hGP : GroS H P W wP vo (.slice (some ⟨g, 0, none⟩) lo cap) := by
        rw [hwP]
        refine (HGK.out.mono HBELA.out).trans (GroS.trans (b := wA) (v := .slice (some ⟨g, 0, none⟩) lo cap) ⟨rfl, rfl, rfl, Nat.le_refl _, fun _ _ _ _ => rfl, fun x h => .inl (by rw [HV.out]; exact h)⟩ ?_)
        exact (GroS.store wA (.slice (some ⟨g, 0, none⟩) lo cap) (p := ⟨P, 5, none⟩) (by have := HZ.out; show H ≤ P ∧ P ≤ P; omega) _).mono (Below.refl _ _).drew
      have hfew : FewS bs.length R ⟨s'.A, s'.E, op⟩ := by
        have h1 := HFK.out
        unfold FewS at h1 ⊢
        rw [HE.out] at h1
        exact ⟨by have := h1.1; simp at this; show op.length ≤ cntA bs.length R s'.A; omega, fun x hx => h1.2 x (by have hx : x ∈ op := hx; simp [hx])⟩
      have hms : msS bs.length R s' = msS bs.length R ⟨s'.A, s'.E, op⟩ + 1 := by unfold msS; rw [HE.out]; simp; omega
      have hmid := MidS.start HGO.out HTO.out HE.out
      have HMS := Lib.hid hms
      have HMID := Lib.hid hmid
      have HFEW := Lib.hid hfew
      have HGP := Lib.hid hGP
      have HMP := Lib.hid hMP
      have HBQP := Lib.hid hbQ
      obtain ⟨t0, -⟩ := hMP.cells HP.out
      have d0 := cell_of_block hbQ 0
      obtain ⟨A3, c3, hr0, hr2⟩ := ahead_row HAH.out HBR.out.1 (Below.refl Wa.heap.size Wa)
      obtain ⟨m, hm⟩ : ∃ m, (aheadL bs b).length = m := ⟨_, rfl⟩
      have hm64 : m ≤ 64 := by rw [← hm]; have := aheadK_len bs 0 b; unfold aheadL; omega
      have HMM := Lib.hid hm
      rw [hm] at hr0
      have hr1 := kept_of_below (show Below Wa.heap.size Wa wP by rw [HZ.out.1]; exact hMP.bel) _ _ hr0
      have HR2 := Lib.hid hr2
      have hb0 : (0 : Int) ≤ b := by omega
      have hb1 : (b : Int) < bs.length := by have := HBR.out.1; omega
      rw [← hwP]
      clear hwP hMP hbQ hGP hfew hms hmid hr2 hr0 hm hS2 hf2 r5 r6 hrun
      go_wp2_with fail
      go_quiet (fail)
      have hbd : Below wP.heap.size wP (wP.drewN nq) := below_drewN (Below.refl _ _) nq
      have HMC := Lib.hid (HMP.out.below hbd)
      have HBQC : Hid ((wP.drewN nq).heap[Q]? = some (.cells #[.int .i64 (b : Int), .int .i64 (r : Int)] 128)) := Lib.hid ((hbd.block Q (Array.getElem?_eq_some_iff.1 HBQP.out).1).trans HBQP.out)
      have HGC := Lib.hid (HGP.out.mono hbd)
      have HQN : Hid ((Value.slice (some ⟨g, 0, none⟩) lo cap).ownBlock ≠ some Q) := Lib.hid (fun e => by
        have e : g = Q := by injection e
        have := HQ.out; omega)
      clear hbd t0 d0 hr1 HMP HBQP HGP
      generalize wP.drewN nq = wC at *
      go_wp2_with fail
      go_loopw [46] (fun s46 wq => ∃ (j : Nat) (v2 : Value) (s2 : LvS), j ≤ m ∧ s46 = .int .i64 (j : Int) ∧ WsM Wa H Ga bs.length R K wq v2 (mkB bs) (phB bs) s2 ∧ FewS bs.length R s2 ∧ MidS bs (b, r) j s2 ∧ msS bs.length R s2 = msS bs.length R ⟨s'.A, s'.E, op⟩ ∧ GroS H P wC wq (.slice (some ⟨g, 0, none⟩) lo cap) v2) (fun s46 _ => m - (intOf s46).toNat)
      case atStart => exact ⟨0, _, _, Nat.zero_le _, rfl, HMC.out, HFEW.out, HMID.out, rfl, GroS.refl _ _ _ _⟩
      case round =>
        obtain ⟨j, v2, s2, hj, rfl, hM, hF, hmid, hms, hG⟩ := hrel
        have HMJ := Lib.hid hM
        have HFJ := Lib.hid hF
        have HGJ := Lib.hid hG
        have HDJ := Lib.hid hmid
        have HSJ := Lib.hid hms
        by_cases hjm : j < m
        · have hbw : Below Wa.heap.size Wa wr := by rw [HZ.out.1]; exact hM.bel
          obtain ⟨bt, ot, x, rfl, hx, hxc, -⟩ := (SInts.keep (kept_of_below hbw) HR2.out).int (k := j) (by rw [HMM.out]; exact hjm)
          obtain ⟨q, rfl, hq⟩ := ah_lt hx.out
          have hbQ2 : wr.heap[Q]? = some (.cells #[.int .i64 (b : Int), .int .i64 (r : Int)] 128) := (hG.block Q (Array.getElem?_eq_some_iff.1 HBQC.out).1 (by have := HQ.out; omega) HQN.out).trans HBQC.out
          have d1 := cell_of_block hbQ2 1
          have hcl := atEnd_any Wa H Ga bs.length R K wr v2 (mkB bs) (phB bs) s2 hM hF hn hR q r hq HBR.out.2
          rw [HP.out] at hcl
          have HCL := Lib.hid hcl
          have HFS := Lib.hid (hF.atE (mkB bs) (phB bs) hq HBR.out.2)
          have HDS := Lib.hid (hmid.step HBR.out.1 hx.out)
          have HMSS := Lib.hid ((msS_atE (mkB bs) (phB bs) (s := s2) hq HBR.out.2).trans hms)
          have hj0 : (0 : Int) ≤ j := by omega
          have hj1 : (j : Int) < m := by omega
          clear hM hF hG hbw hx hbQ2 hcl hmid hms
          go_wp2_with (go_at_call 54; refine HCL.out.mono ?_; rintro e w5 ⟨rfl, v3, hM5, hG5⟩)
          rw [HP.out] at hG5
          go_roundw
          case rel => exact ⟨j + 1, v3, _, by omega, by go_num, hM5, HFS.out, by simpa using HDS.out, HMSS.out, HGJ.out.trans hG5⟩
          case measure => simp [intOf]; omega
        · obtain rfl : j = m := by omega
          have HDN := Lib.hid (hmid.done (by rw [show ((b, r) : Nat × Nat).1 = b from rfl, HMM.out]; exact Nat.le_refl _))
          have hlt : msS bs.length R s2 < gk := by rw [HK.out, HMS.out, HSJ.out]; omega
          have HLT := Lib.hid hlt
          clear hM hF hG hmid hms hlt
          go_wp2_with fail
          go_roundg (msS bs.length R s2)
          case measure => exact HLT.out
          case rel => exact ⟨v2, s2, rfl, HMJ.out, HFJ.out, HDN.out.1, HDN.out.2, HGC.out.trans HGJ.out⟩
end Go.Proofs.Ytcjmhdneelmbhaa

/- The program's Ahead: a row of rows, row i the blocks ahead of i. -/
namespace Go.Proofs.Ytcjmhdneelmbhaa
open Go.ChangeShapes Go.WideShapes Go.RowKit Go.Deep
set_option linter.unusedVariables false

theorem isAt_yes (a b : Int) (w : World) (h0 : 0 ≤ a) (h1 : a < b) : Calls Try.prog 51 #[.int .i64 a, .int .i64 b] w fun e w' => e = .returned (.bool true) ∧ w = w' := by
  go_enter Try.func51, Try.ntmps51
  go_wp2_with fail
  go_ret
  exact ⟨rfl, rfl⟩
theorem isAt_no (a b : Int) (w : World) (h : ¬ (0 ≤ a ∧ a < b)) : Calls Try.prog 51 #[.int .i64 a, .int .i64 b] w fun e w' => e = .returned (.bool false) ∧ w = w' := by
  by_cases h0 : 0 ≤ a
  · have h1 : b ≤ a := by omega
    clear h
    go_enter Try.func51, Try.ntmps51
    go_wp2_with fail
    go_ret
    exact ⟨by simp [h1], rfl⟩
  · clear h
    go_enter Try.func51, Try.ntmps51
    go_wp2_with fail
    go_ret
    exact ⟨rfl, rfl⟩
theorem isAt_any (a b : Int) (w : World) : Calls Try.prog 51 #[.int .i64 a, .int .i64 b] w fun e w' => e = .returned (.bool (isAtB a b)) ∧ w = w' := by
  by_cases h : 0 ≤ a ∧ a < b
  · exact (isAt_yes a b w h.1 h.2).mono fun e w' h' => ⟨by rw [h'.1, isAtB, decide_eq_true h], h'.2⟩
  · exact (isAt_no a b w h).mono fun e w' h' => ⟨by rw [h'.1, isAtB, decide_eq_false h], h'.2⟩

theorem endsWith_any (l : List Int) (v : Value) (n : Int) (w : World) (hv : VS w 1 RInt v l) :
    Calls Try.prog 52 #[v, .int .i64 n] w fun e w' => e = .returned (.bool (endsB l n)) ∧ w = w' := by
  obtain ⟨A, c, rfl, hl⟩ := hv
  have hlen := hl.len
  by_cases h0 : l.length = 0
  · have he : endsB l n = false := by
      rw [List.length_eq_zero_iff.1 h0]; rfl
    rw [he]
    clear he
    have h00 : ¬ (0 < l.length) := by omega
    have H0 := Lib.hid h0
    clear h0
    go_enter Try.func52, Try.ntmps52
    go_wp2_with fail
    go_ret
    exact ⟨rfl, rfl⟩
  · have h1 : 0 < l.length := by omega
    clear h0
    obtain ⟨b, o, x, rfl, hx, hc, -⟩ := hl.int (k := l.length - 1) (by omega)
    have he : endsB l n = (x == n) := by
      rw [endsB, List.getLast?_eq_getElem?, hx.out]; rfl
    rw [he]
    have hc' : w.cell? ⟨b, o + (l.length - 1), none⟩ = some (.int .i64 x) := hc
    clear he hx
    go_enter Try.func52, Try.ntmps52
    go_wp2_with fail
    go_ret
    exact ⟨rfl, rfl⟩

set_option maxRecDepth 100000 in
set_option maxHeartbeats 4000000 in
theorem ahead_any (f : FunD) (v : Value) (w : World) (hv : VFun w v f) (hn : f.blocks.length ≤ 1000000) :
    Calls Try.prog 36 #[v] w fun e w' => (∃ V G, e = .returned (.slice (some ⟨G, 0, none⟩) f.blocks.length f.blocks.length) ∧ w.heap.size ≤ G ∧ Grid w' G f.blocks.length V (fun i => aheadL f.blocks i)) ∧ Below w.heap.size w w' := by
  obtain ⟨Ar, cr, A, c, rfl, hr, hb, -, -⟩ := hv
  have hbl := hb.len
  obtain ⟨i0, hi, hz0, hz1, hz2⟩ := info_parts Try.info3
  have HI := Lib.hid (And.intro hi (And.intro hz0 (And.intro hz1 hz2)))
  clear hi hz0 hz1 hz2
  have hmk := run_make_row' (P := Try.prog) 80 34 (.slice none 0 0) 24 Try.underlying80 Try.info34 rfl .i64 .i64 f.blocks.length (by omega) (by omega)
  go_enter Try.func36, Try.ntmps36
  go_wp2_with fail
  clear hmk
  obtain ⟨w1, hw1, hs1, hk1, hbel1, hc1, -⟩ := named w #[.int .i64 f.params, .int .i64 f.result, .slice Ar f.regs.length cr, .slice A f.blocks.length c] 43
  have hc1 := hc1 3 _ rfl
  rw [← hw1]
  clear hw1
  have hgr := Grid.made w1 (w.heap.size + 1) f.blocks.length hs1.symm
  have hbel1' : Below (w.heap.size + 1) w1 (w1.alloc (.cells (madeCells #[.slice none 0 0] f.blocks.length) 34)) := (Below.refl _ _).alloc (by omega) _
  have hs2 : w.heap.size + 1 < (w1.alloc (.cells (madeCells #[.slice none 0 0] f.blocks.length) 34)).heap.size := by simp; omega
  generalize w1.alloc (.cells (madeCells #[.slice none 0 0] f.blocks.length) 34) = w2 at *
  have HS1 := Lib.hid hs1
  clear hs1
  go_loopw [15] (fun i wr => ∃ (k : Nat) (V : Nat → Value), k ≤ f.blocks.length ∧ i = .int .i64 k ∧ Below (w.heap.size + 1) w1 wr ∧ w.heap.size + 1 < wr.heap.size ∧ Grid wr (w.heap.size + 1) f.blocks.length V (fun i => aheadL (f.blocks.take k) i)) (fun i _ => f.blocks.length - (intOf i).toNat)
  case atStart => exact ⟨0, _, Nat.zero_le _, rfl, hbel1', hs2, hgr⟩
  case round =>
    obtain ⟨k, V, hk, rfl, hbel, hs, hg⟩ := hrel
    obtain ⟨wo, rfl⟩ : ∃ wo, wo = wr := ⟨wr, rfl⟩
    have hkw : Kept w1 wo := kept_below hbel (by have := HS1.out; omega)
    have hbox := hkw _ _ hc1
    by_cases hlt : k < f.blocks.length
    · obtain ⟨b, o, kb, rfl, hkb, ⟨Ap, cp, hphi, -⟩, ⟨Ai, ci, hins, -⟩, ⟨hkd, -⟩, ⟨har, -⟩, ⟨At, ct, hto, htos⟩⟩ := (SBlks.keep hk1 hb).at_ hlt
      have hphi := hkw _ _ hphi
      have hins := hkw _ _ hins
      have hkd := hkw _ _ hkd
      have har := hkw _ _ har
      have hto := hkw _ _ hto
      have htl := htos.len
      go_wp2_with fail
      clear hphi hins hkd har hto
      obtain ⟨w3, hw3, hs3, hk3, hbel3, -, -⟩ := named wo #[.slice Ap kb.phis.length cp, .slice Ai kb.ins.length ci, .int .i64 kb.term.kind, .int .i64 kb.term.arg, .slice At kb.term.to.length ct] 40
      have hg3 : Grid w3 (w.heap.size + 1) f.blocks.length V (LJ f.blocks k []) := by
        rw [hw3]; exact (hg.alloc _).congr (fun i _ => (LJ_nil _ _ _).symm)
      have hb3 : Below (w.heap.size + 1) w1 w3 := hbel.trans (hbel3.mono (by omega))
      have hs3 : w.heap.size + 1 < w3.heap.size := by omega
      rw [← hw3]
      clear hw3
      go_loopw [24] (fun i wr => ∃ (j : Nat) (V : Nat → Value), j ≤ kb.term.to.length ∧ i = .int .i64 j ∧ Below (w.heap.size + 1) w1 wr ∧ w.heap.size + 1 < wr.heap.size ∧ Grid wr (w.heap.size + 1) f.blocks.length V (LJ f.blocks k (kb.term.to.take j))) (fun i _ => kb.term.to.length - (intOf i).toNat)
      case atStart => exact ⟨0, V, Nat.zero_le _, rfl, hb3, hs3, hg3⟩
      case round =>
        obtain ⟨j, V', hj, rfl, hbelr, hsr, hgr'⟩ := hrel
        have hkr : Kept w1 wr := kept_below hbelr (by have := HS1.out; omega)
        have hboxr := hkr _ _ hc1
        by_cases hjt : j < kb.term.to.length
        · obtain ⟨b', o', x, rfl, hx, hxc, -⟩ := htos.int hjt
          have hxc := hkr _ _ hxc
          by_cases hin : 0 ≤ x ∧ x < f.blocks.length
          · obtain ⟨q, rfl⟩ : ∃ q : Nat, x = q := ⟨x.toNat, by omega⟩
            have hq : q < f.blocks.length := by omega
            have hq1 : (q : Int) < f.blocks.length := by omega
            have hq0 : (0 : Int) ≤ q := by omega
            clear hin
            have hrow := hgr'.row.cell hq
            have hvs : VS wr 1 RInt (V' q) (LJ f.blocks k (kb.term.to.take j) q) := vs_of_own (hgr'.own q hq) (LJ_i64 _ _ _ _ (by omega) hn)
            have he := LJ_ends f.blocks k (kb.term.to.take j) q
            have HE := Lib.hid he
            clear he
            go_wp2_with fail
            refine (isAt_yes _ _ _ hq0 hq1).mono ?_
            rintro e w' ⟨rfl, rfl⟩
            go_wp2_with fail
            refine (endsWith_any _ _ _ _ hvs).mono ?_
            rintro e w' ⟨rfl, rfl⟩
            rw [HE.out]
            cases hh : hasTo q (kb.term.to.take j)
            · have HH := Lib.hid hh
              clear hh
              have hll := LJ_len f.blocks k (kb.term.to.take j) q
              go_wp2_with (at_builtin; refine wpList_append_lies _ rfl (.tmp 47) (.tmp 49) 34 rfl (w.heap.size + 1 + 1) 3 i0 (.int .i64 0) 1 8 Try.underlying34 HI.out.1 HI.out.2.1 HI.out.2.2.1 HI.out.2.2.2 rfl (by decide) (V' q) _ _ rfl ((hgr'.own q hq).alloc _) ⟨wr.heap.size, 0, none⟩ 1 1 [.int .i64 k] rfl rfl ?c1 ?c2 ?c0 ?c3 ?c4 ?c5 (wr.heap.size + 1) ?c6 ?_)
              case c1 => exact news_one_add wr _ _ rfl
              case c2 => exact ints_oneCell .i64 [(k : Int)]
              case c0 => omega
              case c3 => unfold maxLen; omega
              case c4 => omega
              case c5 => simp; omega
              case c6 => simp
              intro g cap w4 hown4 hgrow4 hloc4 hlt4
              have hgp := Grid.push (hgr'.alloc _) hq hown4 hgrow4 (by simpa using hloc4)
              have hgp' := hgp.congr (fun i _ => LJ_new hx.out i HH.out)
              have hb4 : Below (w.heap.size + 1) w1 w4 := (hbelr.alloc (by omega) _).grown hgrow4 (by simp; omega) (fun g hg => by have := ((hgr'.own q hq).lt g hg).1; omega)
              have hG4 : w4.heap[w.heap.size + 1]? = (wr.alloc (.cells #[.int .i64 k] 3)).heap[w.heap.size + 1]? := hgrow4.block _ (by simp; omega) (fun e => by have := ((hgr'.own q hq).lt _ e.symm).1; omega)
              have hrow4 := (World.cell?_of_block (a := ⟨w.heap.size + 1, q, none⟩) hG4).trans ((hgr'.row.alloc _).cell hq)
              have hfr4 := (World.frozen?_of_block (a := ⟨w.heap.size + 1, q, none⟩) hG4).trans ((hgr'.row.alloc _).frozen q)
              have hs4 : w.heap.size + 1 < w4.heap.size := by have := hgrow4.size; simp at this; omega
              have HP := Lib.hid hgp'
              clear hgp hgp' hown4 hgrow4 hloc4 hG4 hgr' hrow hvs
              go_wp2_with fail
              go_roundw
              case rel => exact ⟨j + 1, _, by omega, by go_num, hb4.setCell (by show _ ≤ w.heap.size + 1; omega) _, by simpa using hs4, HP.out⟩
              case measure => simp [intOf]; omega
            · have HH := Lib.hid hh
              clear hh
              go_wp2_with fail
              go_roundw
              case rel => exact ⟨j + 1, V', by omega, by go_num, hbelr, hsr, hgr'.congr (fun i _ => LJ_again hx.out i HH.out)⟩
              case measure => simp [intOf]; omega
          · go_wp2_with fail
            refine (isAt_no _ _ _ hin).mono ?_
            rintro e w' ⟨rfl, rfl⟩
            go_wp2_with fail
            go_roundw
            case rel => exact ⟨j + 1, V', by omega, by go_num, hbelr, hsr, hgr'.congr (fun i hi => LJ_out hx.out i (fun e => hin (by omega)))⟩
            case measure => simp [intOf]; omega
        · have hjj : kb.term.to.take j = kb.term.to := List.take_of_length_le (by omega)
          rw [hjj] at hgr'
          clear hjj
          go_wp2_with fail
          go_roundw
          case rel => exact ⟨k + 1, V', by omega, by go_num, hbelr, hsr, hgr'.congr (fun i _ => LJ_all i hkb.out)⟩
          case measure => simp [intOf]; omega
    · have hkk : f.blocks.take k = f.blocks := List.take_of_length_le (by omega)
      rw [hkk] at hg
      clear hkk
      go_wp2_with fail
      go_ret
      exact ⟨⟨V, _, rfl, by omega, hg⟩, hbel1.trans (hbel.mono (by omega))⟩
end Go.Proofs.Ytcjmhdneelmbhaa
