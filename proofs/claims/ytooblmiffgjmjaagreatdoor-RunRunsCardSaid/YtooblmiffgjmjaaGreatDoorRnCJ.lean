/- The document's machine: a call. (Written by gen/genrnc.py.) -/
import Derived.Test.YtooblmiffgjmjaaGreatDoorRnQJ
namespace Go.Proofs.YtooblmiffgjmjaaGreatDoor
open Go.ChangeShapes Go.WideShapes Go.RowKit Go.Deep
set_option linter.unusedVariables false

/-- Where a call stands: the run behind it, and what memory holds. -/
structure CInv (K P R n most : Nat) (m : List FunD) (f : Nat) (s : St) (vf vo : Value) (w3 wq : World) (g : St) (vo2 : Value) : Prop where
  run : ∃ j, g = loopS m j s ∧ g.steps = s.steps + j
  dn : g.done = false
  st : g.stack = s.stack
  le : g.steps ≤ most
  fn : g.cur.fn = f
  ol : g.out.length ≤ g.steps
  mem : RfM K P m most wq g vf vo2
  fr : FrR K P R n wq vo2 g.cur.regs
  mv : Mv (fun b => b = R) P w3 wq vo vo2
section
variable {K P R n most : Nat} {m : List FunD} {f : Nat} {s : St} {vf vo : Value} {w3 wq wq' : World} {g : St} {vo2 : Value}
theorem CInv.below (h : CInv K P R n most m f s vf vo w3 wq g vo2) (hb : Below wq.heap.size wq wq') : CInv K P R n most m f s vf vo w3 wq' g vo2 :=
  ⟨h.run, h.dn, h.st, h.le, h.fn, h.ol, h.mem.below hb, h.fr.go (Mv.of_below NoX P vo2 hb) h.mem.pk (fun e => e), h.mv.trans (Mv.of_below _ P vo2 hb)⟩
theorem CInv.stop (h : CInv K P R n most m f s vf vo w3 wq g vo2) (hz : most ≤ g.steps) : g = loopS m (most - s.steps) s := by
  obtain ⟨j, h1, h2⟩ := h.run
  have := h.le
  rw [show most - s.steps = j by omega]; exact h1
theorem Mv.newX {w w' : World} {vo' : Value} (hb : Below w.heap.size w w3) (h : Mv (fun b => b = R) P w3 w' vo vo') (hR : w.heap.size ≤ R) : Mv NoX P w w' vo vo' :=
  ((Mv.of_below (fun b => b = R) P vo hb).trans h).mono fun k hk e => by have e : k = R := e; omega
theorem Mv.keptOld {X : Nat → Prop} {w w' : World} {vo vo' : Value} (h : Mv X P w w' vo vo') (hX : ∀ k, X k → K ≤ k) (ho : ∀ g, vo.ownBlock = some g → K ≤ g) : KeptB (Old K P) w w' := fun a v hB ha =>
  (World.cell?_of_block (h.block a.block (block_lt_of_cell ha) hB.2 (fun e => by have := hX _ e; have := hB.1; omega) (fun e => by have := ho _ e; have := hB.1; omega))).trans ha
end
theorem slw_of_row {w : World} {H n : Nat} {F : Nat → Int} (h : w.rowIs H 2 n (fun b => .int .i64 (F b))) : ∀ (j : Nat) (x : Int), ((List.range n).map F)[j]? = some x → w.cell? ⟨H, j, none⟩ = some (.int .i64 x) := fun j x hx => by
  rw [List.getElem?_map] at hx
  obtain ⟨q, hq, rfl⟩ := Option.map_eq_some_iff.1 hx
  obtain ⟨hl, rfl⟩ := List.getElem?_eq_some_iff.1 hq
  simp at hl ⊢
  exact h.cell hl
/-- append([]int64{}, xs...), of a row. -/
theorem rapp_row (ty : TypeId) {w : World} {R n : Nat} {F : Nat → Int} (h : w.rowIs R 2 n (fun b => .int .i64 (F b))) (hn : n ≤ 256) (cap : Nat) :
    ∃ v' w', (Builtin.append_ #[25, 25] ty #[.slice (some ⟨w.heap.size, 0, none⟩) 0 0, .slice (some ⟨R, 0, none⟩) n cap]).run Tryz.prog (w.alloc (.cells #[] 2)) = .ok v' w' ∧ w'.ownsRow w.heap.size 2 1 v' n (((List.range n).map F).map (Value.int .i64)) ∧ Below w.heap.size w w' := by
  obtain ⟨i64, p1, p2, p3, p4⟩ := info_parts Tryz.info2
  have hown : (w.alloc (.cells #[] 2)).ownsRow w.heap.size 2 1 (.slice (some ⟨w.heap.size, 0, none⟩) 0 0) 0 [] :=
    ⟨rfl, .inr ⟨w.heap.size, 0, #[], rfl, Nat.le_refl _, heap_alloc_new w _, Nat.le_refl _, Nat.zero_le _, rfl, rfl⟩⟩
  obtain ⟨v', w', hr, h2, h3, _, h5⟩ := run_append_own_at (P := Tryz.prog) (w.alloc (.cells #[] 2)) w.heap.size 25 ty 2 i64 (.int .i64 0) 1 8 Tryz.underlying25 p1 p2 p3 p4 rfl (by decide) _ 0 [] hown ⟨R, 0, none⟩ n cap
    (((List.range n).map F).map (Value.int .i64)) (by simp) (fun j u hu => by
      rw [List.getElem?_map] at hu
      obtain ⟨x, hx1, rfl⟩ := Option.map_eq_some_iff.1 hu
      rw [add_plain', Nat.zero_add]
      exact kept_alloc w _ _ _ (slw_of_row h j x hx1)) (ones _) (by unfold maxLen; omega) (by omega) (by simp)
  rw [Nat.zero_add, List.nil_append] at h2
  refine ⟨v', w', hr, h2, ?_⟩
  have h6 : Below w.heap.size w (w.alloc (.cells #[] 2)) := (Below.refl _ _).alloc (Nat.le_refl _) _
  exact h6.grown h3 (by simp) (fun k hk => by have := Option.some.inj (show some w.heap.size = some k from hk); omega)

set_option maxRecDepth 100000 in
set_option maxHeartbeats 32000000 in
theorem rcall_any (K P most : Nat) (m : List FunD) (hall : ∀ g ∈ m, FunOk m g) (hsmF : ∀ g ∈ m, ∀ b ∈ g.blocks, ∀ x ∈ b.ins, x.args.length ≤ 1000) (hmost : most ≤ 1048576) (L : Nat) (ih : ∀ L', L' < L → CallP K P m most L') : CallP K P m most L := by
  intro f F l vl w s vf vo hf hl hvs hM hcur hdn hsm hL hol
  have hF := hall F (List.mem_of_getElem? hf)
  have hfl := (List.getElem?_eq_some_iff.1 hf).1
  obtain ⟨Al, cl, rfl, hls⟩ := hvs
  have hM0 := hM
  obtain ⟨Af, cf, rfl, hfs⟩ := hM.funs
  obtain ⟨bf, of_, F', rfl, hF', -, ⟨f0, f0'⟩, ⟨f1, f1'⟩, ⟨Ar, cr, f2, hreg⟩, ⟨Ab, cb, f3, hblk⟩⟩ := hfs.at_ hfl
  obtain rfl : F = F' := Option.some.inj (hf.symm.trans hF'.out)
  have c0 : w.cell? ⟨P, 0, none⟩ = some (.slice (some ⟨bf, of_, none⟩) m.length cf) := hM.fun_
  have k1 : (0 : Int) ≤ f := by omega
  have k2 : (f : Int) < m.length := by omega
  have hn256 := hF.nr
  have hln : l.length ≤ F.regs.length := by have := hF.par; omega
  have hl64 : ∀ x ∈ l, I64 x := fun x hx => by
    obtain ⟨i, hi, rfl⟩ := List.getElem_of_mem hx
    obtain ⟨b, o, y, -, hy, -, hy64⟩ := hls.int hi
    rw [List.getElem?_eq_getElem hi] at hy
    obtain rfl := Option.some.inj hy.out
    exact hy64
  have HM := Lib.hid hM0
  have HLS := Lib.hid hls
  have HF := Lib.hid hF
  have HFM := Lib.hid hf
  have HALL := Lib.hid hall
  have HSMF := Lib.hid (hsmF F (List.mem_of_getElem? hf))
  have HIH := Lib.hid ih
  have HL64 := Lib.hid hl64
  have HREG := Lib.hid hreg
  have HBLK := Lib.hid hblk
  have HCUR := Lib.hid hcur
  have HPR := Lib.hid (And.intro hdn (And.intro hsm (And.intro hL hol)))
  have HFP := Lib.hid (And.intro f0' f1')
  have hmk := run_make_row' (P := Tryz.prog) 25 2 (.int .i64 0) 8 Tryz.underlying25 Tryz.info2 rfl .i64 .i64 F.regs.length (by omega) (by omega)
  clear hM0 hls hF hf hall hsmF ih hl64 hreg hblk hcur hdn hsm hL hol f0' f1' hM hfs hF' hl
  go_enter Tryz.func21, Tryz.ntmps21
  go_upto_region 2 with fail
  obtain ⟨w1, hw1, hs1, hk1, hbel1, hc1, -⟩ := named w #[.int .i64 F.params, .int .i64 F.result, .slice Ar F.regs.length cr, .slice Ab F.blocks.length cb] 52
  rw [← hw1]
  have b2 : w1.cell? ⟨w.heap.size, 2, none⟩ = some (.slice Ar F.regs.length cr) := hc1 2 _ rfl
  have HS1 := Lib.hid hs1
  clear hs1 hw1
  go_upto_region 3 with fail
  clear hmk b2 c0 f0 f1 f2 f3
  obtain ⟨R, hR⟩ : ∃ R, R = w1.heap.size := ⟨_, rfl⟩
  obtain ⟨N, hN⟩ : ∃ N, N = w.heap.size := ⟨_, rfl⟩
  obtain ⟨w2, hw2⟩ : ∃ w2, w2 = w1.alloc (.cells (madeCells #[.int .i64 0] F.regs.length) 2) := ⟨_, rfl⟩
  have hb12 : Below w1.heap.size w1 w2 := by rw [hw2]; exact (Below.refl _ _).alloc (Nat.le_refl _) _
  have hb2 : Below w.heap.size w w2 := hbel1.trans (hb12.mono hbel1.size)
  have hrow2 : w2.rowIs R 2 F.regs.length (fun i => .int .i64 (if i < 0 then firstR l i else 0)) := by
    rw [hw2, hR]; exact (World.rowIs_made w1 (.int .i64 0) F.regs.length 2).congr fun i _ => by simp
  have hsz2 : w2.heap.size = R + 1 := by rw [hw2, hR]; simp
  rw [← hw2, ← hR, ← hN]
  have HNB : Hid (w2.cell? ⟨N, 0, none⟩ = some (.int .i64 F.params) ∧ w2.cell? ⟨N, 1, none⟩ = some (.int .i64 F.result) ∧ w2.cell? ⟨N, 2, none⟩ = some (.slice Ar F.regs.length cr) ∧ w2.cell? ⟨N, 3, none⟩ = some (.slice Ab F.blocks.length cb)) := Lib.hid (by
    have hk := kept_of_below hb12
    rw [hN]
    exact ⟨hk _ _ (hc1 0 _ rfl), hk _ _ (hc1 1 _ rfl), hk _ _ (hc1 2 _ rfl), hk _ _ (hc1 3 _ rfl)⟩)
  have HB2 := Lib.hid hb2
  have HROW2 := Lib.hid hrow2
  have HNR : Hid (N = w.heap.size ∧ N < R ∧ w2.heap.size = R + 1 ∧ K ≤ N ∧ P < K ∧ P < N) := Lib.hid ⟨hN, by have := HS1.out; omega, hsz2, by rw [hN]; exact HM.out.kw, HM.out.pk, by rw [hN]; exact HM.out.lt⟩
  clear hk1 hbel1 hc1 hR hN hw2 hb12 hb2 hrow2 hsz2
  go_wp2_with fail
  go_loopw [10] (fun s10 wq => ∃ k : Nat, k ≤ l.length ∧ s10 = .int .i64 (k : Int) ∧ wq.rowIs R 2 F.regs.length (fun i => .int .i64 (if i < k then firstR l i else 0)) ∧ BB w2.heap.size R w2 wq) (fun s10 _ => l.length - (intOf s10).toNat)
  case atStart => exact ⟨0, Nat.zero_le _, rfl, HROW2.out, BB.refl _ _ _⟩
  case round =>
    obtain ⟨k, hk, rfl, hrw, hbb⟩ := hrel
    have HRW := Lib.hid hrw
    have HBB := Lib.hid hbb
    by_cases hkl : k < l.length
    · have hls2 : SL wr 1 RInt Al cl l := SL.imp (fun b o x hx => ⟨(World.cell?_of_block (a := ⟨b, o, none⟩) ((hbb.block b (by have h1 : b < w.heap.size := block_lt_of_cell hx.1; have := HB2.out.size; omega) (by have h1 : b < w.heap.size := block_lt_of_cell hx.1; have := HNR.out; omega)).trans (HB2.out.block b (block_lt_of_cell hx.1)))).trans hx.1, hx.2⟩) HLS.out
      obtain ⟨bl, ol, y, rfl, hy, hyc, hy64⟩ := hls2.int hkl
      have hkn : k < F.regs.length := by omega
      have xc := hrw.cell hkn
      have xf := hrw.frozen k
      have hk0 : (0 : Int) ≤ k := by omega
      have hk1 : (k : Int) < l.length := by omega
      have hk2 : (k : Int) < F.regs.length := by omega
      have HR2 := Lib.hid ((hrw.set k (.int .i64 y)).congr (g := fun i => .int .i64 (if i < k + 1 then firstR l i else 0)) fun i _ => by
        by_cases e : i = k
        · subst e
          rw [if_pos rfl, if_pos (by omega)]
          unfold firstR
          rw [List.getD_eq_getElem?_getD, hy.out]; rfl
        · rw [if_neg e]
          by_cases e2 : i < k
          · rw [if_pos e2, if_pos (by omega)]
          · rw [if_neg e2, if_neg (by omega)])
      have HB3 := Lib.hid (hbb.setCell (p := ⟨R, k, none⟩) (.inl rfl) (.int .i64 y))
      clear hrw hbb hls2 hy
      go_wp2_with fail
      go_roundw
      case rel => exact ⟨k + 1, by omega, by go_num, HR2.out, HB3.out⟩
      case measure => simp [intOf]; omega
    · obtain rfl : k = l.length := by omega
      have hw0 := hrw
      obtain ⟨w3, rfl⟩ : ∃ w3, w3 = wr := ⟨wr, rfl⟩
      have HB3 : Hid (Below w.heap.size w w3) := Lib.hid (HB2.out.trans (hbb.below (by have := HNR.out; have := HB2.out.size; omega) (by have := HNR.out; omega)))
      have hM3 : RfM K P m most w3 s (.slice (some ⟨bf, of_, none⟩) m.length cf) vo := HM.out.below HB3.out
      have hR3 : FrR K P R F.regs.length w3 vo s.cur.regs := ⟨hrw.congr fun i hi => by
          rw [HCUR.out]
          show Value.int .i64 (if i < l.length then firstR l i else 0) = .int .i64 (firstR l i)
          by_cases e : i < l.length
          · rw [if_pos e]
          · rw [if_neg e]; unfold firstR; rw [List.getD_eq_getElem?_getD, List.getElem?_eq_none (by omega)]; rfl,
        fun e => by have := (HM.out.out.lt R e).2; have := HNR.out; omega, by have := HNR.out; omega, by rw [HCUR.out]; exact firstR_i64 HL64.out⟩
      have HIN := Lib.hid (show CInv K P R F.regs.length most m f s (.slice (some ⟨bf, of_, none⟩) m.length cf) vo w3 w3 s vo from ⟨⟨0, rfl, rfl⟩, HPR.out.1, rfl, HPR.out.2.1, by rw [HCUR.out], HPR.out.2.2.2, hM3, hR3, Mv.refl _ _ _ _⟩)
      have HN3 : Hid (w3.cell? ⟨N, 0, none⟩ = some (.int .i64 F.params) ∧ w3.cell? ⟨N, 1, none⟩ = some (.int .i64 F.result) ∧ w3.cell? ⟨N, 2, none⟩ = some (.slice Ar F.regs.length cr) ∧ w3.cell? ⟨N, 3, none⟩ = some (.slice Ab F.blocks.length cb)) := Lib.hid (by
        have hk : ∀ i v, w2.cell? ⟨N, i, none⟩ = some v → w3.cell? ⟨N, i, none⟩ = some v := fun i v hv => (World.cell?_of_block (a := ⟨N, i, none⟩) (hbb.block N (by have := HNR.out; omega) (by have := HNR.out; omega))).trans hv
        exact ⟨hk _ _ HNB.out.1, hk _ _ HNB.out.2.1, hk _ _ HNB.out.2.2.1, hk _ _ HNB.out.2.2.2⟩)
      have HNX : Hid (N < w3.heap.size ∧ N ≠ P ∧ N ≠ R ∧ vo.ownBlock ≠ some N ∧ w.heap.size ≤ R) := Lib.hid ⟨by have := HNR.out; have := hbb.size; omega, by have := HNR.out; omega, by have := HNR.out; omega, fun e => by have := (HM.out.out.lt N e).2; have := HNR.out; omega, by have := HNR.out; omega⟩
      have HKN : Hid (∀ (wq : World) (vo2 : Value), Mv (fun b => b = R) P w3 wq vo vo2 → ∀ i v, w3.cell? ⟨N, i, none⟩ = some v → wq.cell? ⟨N, i, none⟩ = some v) := Lib.hid (fun wq vo2 hm i v hv => (World.cell?_of_block (a := ⟨N, i, none⟩) (hm.block N HNX.out.1 HNX.out.2.1 HNX.out.2.2.1 HNX.out.2.2.2.1)).trans hv)
      have HKO : Hid (∀ (wq : World) (vo2 : Value), Mv (fun b => b = R) P w3 wq vo vo2 → KeptB (Old K P) w wq) := Lib.hid (fun wq vo2 hm => (KeptB.of (kept_of_below HB3.out)).trans (hm.keptOld (fun k e => by have := hR3.ge; have e : k = R := e; omega) (fun g hg => (HM.out.out.lt g hg).1)))
      clear hrw hbb hw0 hM3 hR3 HROW2 HB2 HNB HRW HBB HLS
      go_wp2_with fail
      go_loopg [11] (most - s.steps + 1) (fun gk s11 wq => ∃ (g : St) (vo2 : Value), gk = most - g.steps + 1 ∧ s11 = .int .i64 (g.cur.blk : Int) ∧ g.cur.blk < F.blocks.length ∧ g.cur.at_ = 0 ∧ CInv K P R F.regs.length most m f s (.slice (some ⟨bf, of_, none⟩) m.length cf) vo w3 wq g vo2)
      case atStart => exact ⟨s, vo, rfl, by rw [HCUR.out]; rfl, by rw [HCUR.out]; exact HF.out.nb.1, by rw [HCUR.out], HIN.out⟩
      case round =>
        obtain ⟨g, vo2, rfl, rfl, hbl, hat, hinv⟩ := hrel
        have c6 := hinv.mem.steps
        have c1 := hinv.mem.mst
        have hle : ((g.steps : Int) ≤ (most : Int)) := by have := hinv.le; omega
        have HI := Lib.hid hinv
        have HAT := Lib.hid hat
        clear hinv hat
        go_wp2_with fail
        go_quiet (fail)
        have HIA := Lib.hid (HI.out.below (below_drewN (Below.refl _ _) nq))
        clear c6 c1 hle
        generalize wr.drewN nq = wa at *
        have hb3 := HKN.out wa vo2 HIA.out.mv 3 _ HN3.out.2.2.2
        have hblk := SBlksB.go (HKO.out wa vo2 HIA.out.mv) (fun _ h => h) HBLK.out
        obtain ⟨bb, ob, kb, rfl, hkb, -, ⟨Ap, cp, x0, hph⟩, ⟨Ai, ci, x1, hins⟩, ⟨x2, x2'⟩, ⟨x3, x3'⟩, ⟨At, ct, x4, htos⟩⟩ := hblk.at_ hbl
        have hbl0 : (0 : Int) ≤ g.cur.blk := by omega
        have hbl1 : (g.cur.blk : Int) < F.blocks.length := by omega
        have HKB := Lib.hid hkb.out
        have HINS := Lib.hid hins
        have HTOS := Lib.hid htos
        have H64 := Lib.hid (And.intro x2' x3')
        have hi256 : kb.ins.length ≤ 256 := by have := HF.out.items kb (List.mem_of_getElem? hkb.out); omega
        clear hblk hkb hph hins htos x2' x3'
        go_upto_region 10 with fail
        obtain ⟨wb, hwb, hsb, hkkb, hbelb, hcb, -⟩ := named wa #[.slice Ap kb.phis.length cp, .slice Ai kb.ins.length ci, .int .i64 kb.term.kind, .int .i64 kb.term.arg, .slice At kb.term.to.length ct] 49
        rw [← hwb]
        obtain ⟨NB, hNB⟩ : ∃ NB, NB = wa.heap.size := ⟨_, rfl⟩
        rw [← hNB] at hcb hsb ⊢
        have HYB : Hid (wb.cell? ⟨NB, 1, none⟩ = some (.slice Ai kb.ins.length ci) ∧ wb.cell? ⟨NB, 2, none⟩ = some (.int .i64 kb.term.kind) ∧ wb.cell? ⟨NB, 3, none⟩ = some (.int .i64 kb.term.arg) ∧ wb.cell? ⟨NB, 4, none⟩ = some (.slice At kb.term.to.length ct)) := Lib.hid ⟨hcb 1 _ rfl, hcb 2 _ rfl, hcb 3 _ rfl, hcb 4 _ rfl⟩
        have HIB := Lib.hid (HIA.out.below hbelb)
        have HNBX : Hid (NB < wb.heap.size ∧ NB ≠ P ∧ NB ≠ R ∧ vo2.ownBlock ≠ some NB) := Lib.hid ⟨by omega, by have := HIA.out.mem.lt; omega, by have := HIA.out.fr.row.lt; omega, fun e => by have := (HIA.out.mem.out.lt NB e).2; omega⟩
        have HKNB : Hid (∀ (wq : World) (vo3 : Value), Mv (fun b => b = R) P wb wq vo2 vo3 → ∀ i v, wb.cell? ⟨NB, i, none⟩ = some v → wq.cell? ⟨NB, i, none⟩ = some v) := Lib.hid (fun wq vo3 hm i v hv => (World.cell?_of_block (a := ⟨NB, i, none⟩) (hm.block NB HNBX.out.1 HNBX.out.2.1 HNBX.out.2.2.1 HNBX.out.2.2.2)).trans hv)
        have HINB : Hid (SL wb 5 (RInsB (Old K P)) Ai ci kb.ins) := Lib.hid (SInssB.go (KeptB.of hkkb) (fun _ h => h) HINS.out)
        have HTOB : Hid (SL wb 1 (RIntB (Old K P)) At ct kb.term.to) := Lib.hid (SIntsB.go (KeptB.of hkkb) (fun _ h => h) HTOS.out)
        have HKOB : Hid (∀ (wq : World) (vo3 : Value), Mv (fun b => b = R) P wb wq vo2 vo3 → KeptB (Old K P) wb wq) := Lib.hid (fun wq vo3 hm => hm.keptOld (fun k e => by have := HIB.out.fr.ge; have e : k = R := e; omega) (fun g hg => (HIB.out.mem.out.lt g hg).1))
        clear hwb hsb hkkb hbelb hcb hNB HINS HTOS hb3 x0 x1 x2 x3 x4 HI HIA
        go_wp2_with fail
        go_loopw [13] (fun s13 wq => ∃ (i : Nat) (g2 : St) (vo3 : Value), i ≤ kb.ins.length ∧ s13 = .int .i64 (i : Int) ∧ g2.cur.at_ = i ∧ g2.cur.blk = g.cur.blk ∧ g.steps ≤ g2.steps ∧ CInv K P R F.regs.length most m f s (.slice (some ⟨bf, of_, none⟩) m.length cf) vo w3 wq g2 vo3 ∧ Mv (fun b => b = R) P wb wq vo2 vo3) (fun s13 _ => kb.ins.length - (intOf s13).toNat)
        case atStart => exact ⟨0, g, vo2, Nat.zero_le _, rfl, HAT.out, rfl, Nat.le_refl _, HIB.out, Mv.refl _ _ _ _⟩
        case round =>
          obtain ⟨i, g2, vo3, hi, rfl, hat2, hblk2, hge2, hinv2, hmv2⟩ := hrel
          have hk := HKNB.out _ _ hmv2
          have y1 := hk 1 _ HYB.out.1
          have y2 := hk 2 _ HYB.out.2.1
          have y3 := hk 3 _ HYB.out.2.2.1
          have y4 := hk 4 _ HYB.out.2.2.2
          have HI2 := Lib.hid hinv2
          have HMV2 := Lib.hid hmv2
          have HAT2 := Lib.hid hat2
          have HBK2 := Lib.hid hblk2
          have HKB2 : Hid (F.blocks[g2.cur.blk]? = some kb) := Lib.hid (by rw [hblk2]; exact HKB.out)
          have HF2 : Hid (m[g2.cur.fn]? = some F) := Lib.hid (by rw [hinv2.fn]; exact HFM.out)
          have HGE := Lib.hid hge2
          by_cases hil : i < kb.ins.length
          · have hins2 := SInssB.go (HKOB.out _ _ hmv2) (fun _ h => h) HINB.out
            obtain ⟨bi, oi, x, rfl, hx, -, ⟨z0, z0'⟩, ⟨z1, z1'⟩, ⟨Ax, cx, z2, hax⟩, ⟨z3, z3'⟩, ⟨z4, z4'⟩⟩ := hins2.at_ hil
            have hi0 : (0 : Int) ≤ i := by omega
            have hi1 : (i : Int) < kb.ins.length := by omega
            have hbi : Old K P bi := by
              have hins3 := hins2
              obtain ⟨b3, o3, x3, e3, -, h3, -⟩ := hins3.at_ hil
              cases e3; exact h3
            have HX := Lib.hid hx.out
            have HAX := Lib.hid hax
            have HX64 := Lib.hid z3'
            have HBI := Lib.hid hbi
            by_cases hst : g2.steps < most
            · have HSY := Lib.hid (rstep_yes K P m most wr g2 _ vo3 hinv2.mem (by omega) (by omega))
              clear hk hins2 hax hx hinv2 hmv2 hat2 hblk2 hge2 hbi z0' z1' z3' z4'
              go_wp2_with fail
              refine HSY.out.mono ?_
              rintro e wc ⟨rfl, hMc, hvc⟩
              have hkc : KeptB (Old K P) wr wc := hvc.keptOld (fun _ e => e.elim) (fun g hg => (HI2.out.mem.out.lt g hg).1)
              have hvc2 : Mv (fun b => b = R) P wr wc vo3 vo3 := hvc.mono fun _ _ h => h.elim
              have y1 := HKNB.out _ _ (HMV2.out.trans hvc2) 1 _ HYB.out.1
              have z0 := hkc _ _ HBI.out z0
              have z1 := hkc _ _ HBI.out z1
              have z2 := hkc _ _ HBI.out z2
              have z3 := hkc _ _ HBI.out z3
              have z4 := hkc _ _ HBI.out z4
              have HMC := Lib.hid (hMc.ghost (s' := { tickS g2 with cur := { g2.cur with at_ := g2.cur.at_ + 1 } }) ⟨rfl, rfl, rfl, rfl, rfl, rfl⟩)
              have HRC := Lib.hid (HI2.out.fr.go hvc HI2.out.mem.pk (fun e => e))
              have HVC := Lib.hid hvc2
              have HAC := Lib.hid (SIntsB.go hkc (fun _ h => h) HAX.out)
              have HXI : Hid (kb.ins[g2.cur.at_]? = some x) := Lib.hid (by rw [HAT2.out]; exact HX.out)
              have HCI := Lib.hid (rinstr_any K P R F.regs.length most m wc { tickS g2 with cur := { g2.cur with at_ := g2.cur.at_ + 1 } } _ vo3 x Ax cx HMC.out HRC.out HI2.out.dn (by show g2.steps + 1 ≤ most; omega) HAC.out (HSMF.out kb (List.mem_of_getElem? HKB.out) x (List.mem_of_getElem? HX.out)) hn256 HX64.out (HF.out.ins kb (List.mem_of_getElem? HKB.out) x (List.mem_of_getElem? HX.out)) HALL.out (call_at HF2.out HKB2.out HXI.out) (by show g2.out.length ≤ g2.steps + 1; have := HI2.out.ol; omega) hmost
                (HIH.out _ (by show most - (g2.steps + 1) < L; have h1 := HPR.out.2.2.1; obtain ⟨j, -, h2⟩ := HI2.out.run; omega)))
              have HST := Lib.hid (step_ins HF2.out HKB2.out HXI.out)
              clear hkc hvc hvc2 hMc HSY
              go_wp2_with fail
              refine HCI.out.mono ?_
              rintro e wd (⟨vo4, j, g', rfl, hg', hd', hst', hsp', hle', hfn', hbk', hat', hMd, hRd, hvd⟩ | ⟨vo4, rfl, hMd, hvd⟩)
              · have HR1 : Hid (∃ j, g' = loopS m j s ∧ g'.steps = s.steps + j) := Lib.hid (by
                  obtain ⟨j0, h1, h2⟩ := HI2.out.run
                  refine ⟨j0 + 1 + j, ?_, ?_⟩
                  · rw [loopS_add, loop_next h1 HI2.out.dn, HST.out]; exact hg'
                  · rw [hsp']; show g2.steps + 1 + j = _; omega)
                have HC2 := Lib.hid (show CInv K P R F.regs.length most m f s (.slice (some ⟨bf, of_, none⟩) m.length cf) vo w3 wd g' vo4 from ⟨HR1.out, hd', hst'.trans HI2.out.st, hle', hfn'.trans HI2.out.fn, by
                  obtain ⟨j0, h1, h2⟩ := HR1.out
                  rw [h1] at h2 ⊢
                  have := loop_len m j0 s
                  have := HPR.out.2.2.2
                  omega, hMd, hRd, (HI2.out.mv.trans HVC.out).trans hvd⟩)
                have HAT3 : Hid (g'.cur.at_ = i + 1) := Lib.hid (by rw [hat']; show g2.cur.at_ + 1 = _; rw [HAT2.out])
                have HBK3 : Hid (g'.cur.blk = g.cur.blk) := Lib.hid (by rw [hbk']; exact HBK2.out)
                have HGE3 : Hid (g.steps ≤ g'.steps) := Lib.hid (by rw [hsp']; show g.steps ≤ g2.steps + 1 + j; have := HGE.out; omega)
                have HMV3 := Lib.hid ((HMV2.out.trans HVC.out).trans hvd)
                clear hg' hd' hst' hsp' hle' hfn' hbk' hat' hMd hRd hvd y1 y2 y3 y4 z0 z1 z2 z3 z4
                go_wp2_with fail
                go_roundw
                case rel => exact ⟨i + 1, g', vo4, by omega, by go_num, HAT3.out, HBK3.out, HGE3.out, HC2.out, HMV3.out⟩
                case measure => simp [intOf]; omega
              · have HEN : Hid (loopS m (most - (g2.steps + 1)) (doS { tickS g2 with cur := { g2.cur with at_ := g2.cur.at_ + 1 } } x) = loopS m (most - s.steps) s) := Lib.hid (by
                  obtain ⟨j0, h1, h2⟩ := HI2.out.run
                  rw [← HST.out, ← loop_next h1 HI2.out.dn, ← loopS_add]
                  congr 1; omega)
                have HMD : Hid (RfM K P m most wd (loopS m (most - s.steps) s) (.slice (some ⟨bf, of_, none⟩) m.length cf) vo4) := Lib.hid (by rw [← HEN.out]; exact hMd)
                have HVD := Lib.hid ((HI2.out.mv.trans HVC.out).trans hvd)
                clear hMd hvd y1 y2 y3 y4 z0 z1 z2 z3 z4
                go_wp2_with fail
                go_ret2
                exact .inr ⟨vo4, rfl, HMD.out, Mv.newX HB3.out HVD.out HNX.out.2.2.2.2⟩
            · have HSN := Lib.hid (rstep_no K P m most wr g2 _ vo3 hinv2.mem (by omega))
              have HSTP := Lib.hid (hinv2.stop (by omega))
              clear hk hins2 hax hx hinv2 hmv2 hat2 hblk2 hge2 hbi z0' z1' z3' z4' z0 z1 z2 z3 z4
              go_wp2_with fail
              refine HSN.out.mono ?_
              rintro e wc ⟨rfl, hMc, hvc⟩
              have HMD : Hid (RfM K P m most wc (loopS m (most - s.steps) s) (.slice (some ⟨bf, of_, none⟩) m.length cf) vo3) := Lib.hid (by rw [← HSTP.out]; exact hMc)
              have HVD := Lib.hid (HI2.out.mv.trans (hvc.mono (Y := fun b => b = R) fun _ _ h => h.elim))
              clear hMc hvc y1 y2 y3 y4
              go_wp2_with fail
              go_ret2
              exact .inr ⟨vo3, rfl, HMD.out, Mv.newX HB3.out HVD.out HNX.out.2.2.2.2⟩
          · obtain rfl : i = kb.ins.length := by omega
            by_cases hst : g2.steps < most
            · have HSY := Lib.hid (rstep_yes K P m most wr g2 _ vo3 hinv2.mem (by omega) (by omega))
              clear hk hinv2 hmv2 hat2 hblk2 hge2
              go_wp2_with fail
              refine HSY.out.mono ?_
              rintro e wc ⟨rfl, hMc, hvc⟩
              have hvc2 : Mv (fun b => b = R) P wr wc vo3 vo3 := hvc.mono fun _ _ h => h.elim
              have hkc : KeptB (Old K P) wr wc := hvc.keptOld (fun _ e => e.elim) (fun g hg => (HI2.out.mem.out.lt g hg).1)
              have y2 := HKNB.out _ _ (HMV2.out.trans hvc2) 2 _ HYB.out.2.1
              have y3 := HKNB.out _ _ (HMV2.out.trans hvc2) 3 _ HYB.out.2.2.1
              have y4 := HKNB.out _ _ (HMV2.out.trans hvc2) 4 _ HYB.out.2.2.2
              have HMC := Lib.hid hMc
              have HRC := Lib.hid (HI2.out.fr.go hvc HI2.out.mem.pk (fun e => e))
              have HVC := Lib.hid hvc2
              have HVT := Lib.hid (HMV2.out.trans hvc2)
              have HTC := Lib.hid (SIntsB.go (HKOB.out _ _ (HMV2.out.trans hvc2)) (fun _ h => h) HTOB.out)
              have HST := Lib.hid (step_end HF2.out HKB2.out HAT2.out)
              clear hvc2 hvc hkc hMc HSY y1
              go_upto_region 19 with fail
              obtain ⟨wt, hwt, hst2, hkt2, hbelt, hct, -⟩ := named wc #[.int .i64 kb.term.kind, .int .i64 kb.term.arg, .slice At kb.term.to.length ct] 45
              rw [← hwt]
              obtain ⟨NT, hNT⟩ : ∃ NT, NT = wc.heap.size := ⟨_, rfl⟩
              rw [← hNT] at hct hst2 ⊢
              have t0 : wt.cell? ⟨NT, 0, none⟩ = some (.int .i64 kb.term.kind) := hct 0 _ rfl
              have t1 : wt.cell? ⟨NT, 1, none⟩ = some (.int .i64 kb.term.arg) := hct 1 _ rfl
              have t2 : wt.cell? ⟨NT, 2, none⟩ = some (.slice At kb.term.to.length ct) := hct 2 _ rfl
              have HMT := Lib.hid (HMC.out.below hbelt)
              have HRT := Lib.hid (HRC.out.go (Mv.of_below NoX P vo3 hbelt) HMC.out.pk (fun e => e))
              have HVW := Lib.hid ((HI2.out.mv.trans HVC.out).trans (Mv.of_below (fun b => b = R) P vo3 hbelt))
              have HTT := Lib.hid (SIntsB.go (KeptB.of hkt2) (fun _ h => h) HTC.out)
              clear hwt hst2 hkt2 hbelt hct hNT y2 y3 y4
              rcases HF.out.kind kb (List.mem_of_getElem? HKB.out) with ⟨hkd, hln1⟩ | ⟨hkd, hln2, harg⟩ | ⟨hkd, hln0, harg⟩
              · -- a jump
                obtain ⟨xt, hto⟩ := len_one hln1
                have hxm : xt ∈ kb.term.to := by rw [hto]; simp
                obtain ⟨hxt1, hxt2⟩ := HF.out.to kb (List.mem_of_getElem? HKB.out) xt hxm
                obtain ⟨tt, rfl⟩ : ∃ tt : Nat, xt = tt := ⟨xt.toNat, by omega⟩
                have hkt : F.blocks[tt]? = some (F.blocks[tt]'(by omega)) := List.getElem?_eq_getElem _
                generalize F.blocks[tt]'(by omega) = kt at hkt
                have hprd : (g2.cur.blk : Int) ∈ aheadL F.blocks tt := ahead_has HKB2.out hxm
                have heq : endS m (tickS g2) kb.term = { tickS g2 with cur := goToF F g2.cur tt } := by
                  unfold endS
                  rw [if_neg (by omega), if_neg (by omega)]
                  show { tickS g2 with cur := goToF (m.getD g2.cur.fn default) g2.cur (kb.term.to.getD 0 0).toNat } = _
                  rw [getD_of HF2.out, hto]; rfl
                have h0l : 0 < kb.term.to.length := by rw [hto]; simp
                obtain ⟨bt, ot, y, rfl, hy, -, hyc, -⟩ := HTT.out.at_ h0l
                obtain rfl : (tt : Int) = y := by have := hy.out; rw [hto] at this; simpa using this
                rw [Nat.mul_one, Nat.add_zero] at hyc
                have hl0 : (0 : Int) < kb.term.to.length := by omega
                rw [hkd] at t0
                clear hy hxm hto
                go_upto_region 26 with fail
                clear hyc hl0 h0l
                have HKT := Lib.hid hkt
                have HPRD := Lib.hid hprd
                have HEQ := Lib.hid heq
                clear hkt hprd heq t0 t1 t2
                have b0 := HKN.out wt vo3 HVW.out 0 _ HN3.out.1
                have b1 := HKN.out wt vo3 HVW.out 1 _ HN3.out.2.1
                have b2 := HKN.out wt vo3 HVW.out 2 _ HN3.out.2.2.1
                have b3 := HKN.out wt vo3 HVW.out 3 _ HN3.out.2.2.2
                have HAHC := Lib.hid (refAhead_any F (tt : Int) _ wt ⟨Ar, cr, some ⟨bb, ob, none⟩, cb, rfl, SL.imp RIntB.plain (SIntsB.go (HKO.out wt vo3 HVW.out) (fun _ h => h) HREG.out), SL.imp RBlkB.plain (SBlksB.go (HKO.out wt vo3 HVW.out) (fun _ h => h) HBLK.out), HFP.out.1, HFP.out.2⟩ (by have := HF.out.nb; omega))
                have HND : Hid ((aheadL F.blocks tt).Nodup) := Lib.hid (aheadK_nodup _ _ _)
                have HPHI := Lib.hid (HF.out.phis tt kt HKT.out)
                generalize hahd : aheadL F.blocks tt = ah at *
                go_wp2_with fail
                refine HAHC.out.mono ?_
                rintro e wu ⟨⟨ra, rfl, Aa, caa, rfl, has⟩, hbu⟩
                have HAS := Lib.hid has
                have HBU := Lib.hid hbu
                have hahl := has.len
                clear has hbu HAHC b0 b1 b2 b3
                go_wp2_with fail
                go_loopw [18, 19] (fun s18 s19 wq => ∃ i : Nat, i ≤ ah.length ∧ s18 = .int .i64 ((atI ah (g2.cur.blk : Int) i : Nat) : Int) ∧ s19 = .int .i64 (i : Int) ∧ Below wu.heap.size wu wq) (fun s18 s19 _ => ah.length - (intOf s19).toNat)
                case atStart => exact ⟨0, Nat.zero_le _, by rw [atI_zero]; rfl, rfl, Below.refl _ _⟩
                case round =>
                  obtain ⟨i, hia, rfl, rfl, hbq⟩ := hrel
                  have HBQ := Lib.hid hbq
                  by_cases hial : i < ah.length
                  · obtain ⟨by2, oy2, y, rfl, hy, hyc, -⟩ := (SInts.keep (kept_of_below hbq) HAS.out).int hial
                    have hi0 : (0 : Int) ≤ i := by omega
                    have hi1 : (i : Int) < ah.length := by omega
                    have HY := Lib.hid hy.out
                    by_cases hyx : y = (g2.cur.blk : Int)
                    · have hE : (y == (g.cur.blk : Int)) = true := by rw [beq_iff_eq, hyx, HBK2.out]
                      have HA2 : Hid (atI ah (g2.cur.blk : Int) (i + 1) = i) := Lib.hid (atI_yes HND.out (by rw [HY.out, hyx]))
                      clear hbq hy hyx
                      go_wp2_with fail
                      go_roundw
                      case rel => exact ⟨i + 1, by omega, by rw [HA2.out], by go_num, HBQ.out⟩
                      case measure => simp [intOf]; omega
                    · have hE : (y == (g.cur.blk : Int)) = false := by rw [beq_eq_false_iff_ne, ← HBK2.out]; exact hyx
                      have HA2 : Hid (atI ah (g2.cur.blk : Int) (i + 1) = atI ah (g2.cur.blk : Int) i) := Lib.hid (atI_no HY.out hyx)
                      clear hbq hy hyx
                      go_wp2_with fail
                      go_roundw
                      case rel => exact ⟨i + 1, by omega, by rw [HA2.out], by go_num, HBQ.out⟩
                      case measure => simp [intOf]; omega
                  · obtain rfl : i = ah.length := by omega
                    obtain ⟨wz, rfl⟩ : ∃ wz, wz = wr := ⟨wr, rfl⟩
                    have hix := atI_all HPRD.out (Nat.le_refl _)
                    obtain ⟨ix, hixd⟩ : ∃ ix, ix = ah.idxOf (g2.cur.blk : Int) := ⟨_, rfl⟩
                    rw [← hixd] at hix
                    rw [hix]
                    have HIX : Hid (ix < ah.length) := Lib.hid (by rw [hixd]; exact List.idxOf_lt_length_iff.2 HPRD.out)
                    have HIXD := Lib.hid hixd
                    have hbz : Below wt.heap.size wt wz := HBU.out.trans (hbq.mono HBU.out.size)
                    have HMZ := Lib.hid (HMT.out.below hbz)
                    have HRZ := Lib.hid (HRT.out.go (Mv.of_below NoX P vo3 hbz) HMT.out.pk (fun e => e))
                    have HVZ := Lib.hid (HVW.out.trans (Mv.of_below (fun b => b = R) P vo3 hbz))
                    obtain ⟨vw, ww, hrw, hown, hbw⟩ := rapp_row 25 HRZ.out.row hn256 F.regs.length
                    have HOW := Lib.hid hown
                    have HMW := Lib.hid (HMZ.out.below hbw)
                    have HRW2 := Lib.hid (HRZ.out.go (Mv.of_below NoX P vo3 hbw) HMZ.out.pk (fun e => e))
                    have HVV := Lib.hid (HVZ.out.trans (Mv.of_below (fun b => b = R) P vo3 hbw))
                    have HWZ : Hid (R < wz.heap.size ∧ P < wz.heap.size ∧ ∀ g, vo3.ownBlock = some g → g < wz.heap.size) := Lib.hid ⟨HRZ.out.row.lt, HMZ.out.lt, fun g hg => (HMZ.out.out.lt g hg).2⟩
                    have b3 := HKN.out ww vo3 HVV.out 3 _ HN3.out.2.2.2
                    have hblk2 := SBlksB.go (HKO.out ww vo3 HVV.out) (fun _ h => h) HBLK.out
                    obtain ⟨bb2, ob2, kt2, ebb, hkt2, hbbo, ⟨Ap2, cp2, q0, hph⟩, -⟩ := hblk2.at_ (List.getElem?_eq_some_iff.1 HKT.out).1
                    obtain ⟨rfl, rfl⟩ : bb = bb2 ∧ ob = ob2 := by cases ebb; exact ⟨rfl, rfl⟩
                    obtain rfl : kt = kt2 := Option.some.inj (HKT.out.symm.trans hkt2.out)
                    have HPH := Lib.hid hph
                    have htt0 : (0 : Int) ≤ tt := by omega
                    have htt1 : (tt : Int) < F.blocks.length := by have := (List.getElem?_eq_some_iff.1 HKT.out).1; omega
                    have hpl256 : kt.phis.length ≤ 256 := by have := HF.out.items kt (List.mem_of_getElem? HKT.out); omega
                    clear hbq hbz hown hbw hblk2 hkt2 hph hix hixd ebb hbbo
                    go_wp2_with (at_builtin; refine wpList_append_run _ rfl (.tmp 136) (.tmp 137) 25 25 rfl _ _ rfl rfl hrw ?_)
                    clear hrw b3 q0
                    go_loopw [22] (fun s22 wq => ∃ i : Nat, i ≤ kt.phis.length ∧ s22 = .int .i64 (i : Int) ∧ RfM K P m most wq (tickS g2) (.slice (some ⟨bf, of_, none⟩) m.length cf) vo3 ∧ FrR K P R F.regs.length wq vo3 (setAll g2.cur.regs ((kt.phis.map (phiP g2.cur.regs ix)).take i)) ∧ Mv (fun b => b = R) P ww wq vo3 vo3) (fun s22 _ => kt.phis.length - (intOf s22).toNat)
                    case atStart => exact ⟨0, Nat.zero_le _, rfl, HMW.out, by simpa [setAll] using HRW2.out, Mv.refl _ _ _ _⟩
                    case round =>
                      obtain ⟨i, hip, rfl, hMq, hRq, hvq⟩ := hrel
                      have HMQ := Lib.hid hMq
                      have HRQ := Lib.hid hRq
                      have HVQ := Lib.hid hvq
                      by_cases hipl : i < kt.phis.length
                      · have hko : KeptB (Old K P) ww wr := hvq.keptOld (fun k e => by have := hRq.ge; have e : k = R := e; omega) (fun g hg => (HMW.out.out.lt g hg).1)
                        obtain ⟨bp, op, p, rfl, hp, -, ⟨p0, p0'⟩, ⟨Apa, ca2, p1, hpa⟩⟩ := (SPhisB.go hko (fun _ h => h) HPH.out).at_ hipl
                        obtain ⟨hpl, hpd, hpi⟩ := HPHI.out p (List.mem_of_getElem? hp.out)
                        obtain ⟨d, hd⟩ : ∃ d : Nat, p.dst = d := ⟨p.dst.toNat, by have := hpd.1; omega⟩
                        have hdn1 : d < F.regs.length := by have := hpd.2; omega
                        have hixl : ix < p.args.length := by rw [hpl]; exact HIX.out
                        obtain ⟨ba, oa, a0, rfl, ha0, -, p2, -⟩ := hpa.at_ hixl
                        have hai := hpi a0 (List.mem_of_getElem? ha0.out)
                        obtain ⟨a, rfl⟩ : ∃ a : Nat, a0 = a := ⟨a0.toNat, by have := hai.1; omega⟩
                        have han : a < F.regs.length := by have := hai.2; omega
                        rw [Nat.mul_one] at p2
                        rw [hd] at p0
                        obtain ⟨gw, cw, rfl, hgc, hgk⟩ := own_cells HOW.out (by omega)
                        have p3 : wr.cell? ⟨gw, a, none⟩ = some (.int .i64 (g2.cur.regs a)) := (World.cell?_of_block (a := ⟨gw, a, none⟩) (hvq.block gw (HOW.out.lt gw rfl).2 (by have := HWZ.out.2.1; omega) (by have := HWZ.out.1; show ¬ gw = R; omega) (fun e => by have := HWZ.out.2.2 _ e; omega))).trans (hgc a _ (by simp [han]))
                        have xd := hRq.row.cell hdn1
                        have fd := hRq.row.frozen d
                        have hi0 : (0 : Int) ≤ i := by omega
                        have hi1 : (i : Int) < kt.phis.length := by omega
                        have hd0 : (0 : Int) ≤ d := by omega
                        have hd1 : (d : Int) < F.regs.length := by omega
                        have ha0' : (0 : Int) ≤ a := by omega
                        have ha1' : (a : Int) < F.regs.length := by omega
                        have hx0 : (0 : Int) ≤ ix := by omega
                        have hx1 : (ix : Int) < p.args.length := by omega
                        have HSA : Hid (setAll g2.cur.regs ((kt.phis.map (phiP g2.cur.regs ix)).take (i + 1)) = upd (setAll g2.cur.regs ((kt.phis.map (phiP g2.cur.regs ix)).take i)) d (g2.cur.regs a)) := Lib.hid (by
                          have h1 : (kt.phis.map (phiP g2.cur.regs ix))[i]? = some ((d : Int), g2.cur.regs a) := by
                            rw [List.getElem?_map, hp.out]
                            show some (p.dst, g2.cur.regs (p.args.getD ix 0).toNat) = _
                            rw [List.getD_eq_getElem?_getD, ha0.out, hd]; rfl
                          rw [setAll_next h1]; rfl)
                        have HRN : Hid (FrR K P R F.regs.length (wr.drew.setCell ⟨R, d, none⟩ (.int .i64 (g2.cur.regs a))) vo3 (setAll g2.cur.regs ((kt.phis.map (phiP g2.cur.regs ix)).take (i + 1)))) := Lib.hid (by
                          rw [HSA.out]
                          exact (hRq.go (Mv.of_below NoX P vo3 (Below.refl _ _).drew) hMq.pk (fun e => e)).set d (HRZ.out.r64 a))
                        have HMN : Hid (RfM K P m most (wr.drew.setCell ⟨R, d, none⟩ (.int .i64 (g2.cur.regs a))) (tickS g2) (.slice (some ⟨bf, of_, none⟩) m.length cf) vo3) := Lib.hid ((hMq.below (Below.refl _ _).drew).off hRq.ge hRq.ap d _)
                        have HVN : Hid (Mv (fun b => b = R) P ww (wr.drew.setCell ⟨R, d, none⟩ (.int .i64 (g2.cur.regs a))) vo3 vo3) := Lib.hid (hvq.trans ((Mv.of_below (fun b => b = R) P vo3 (Below.refl wr.heap.size wr).drew).trans (Mv.set (fun b => b = R) P vo3 wr.drew (p := ⟨R, d, none⟩) (.inr rfl) _)))
                        clear hMq hRq hvq hko hpa hp ha0 hpd hpi hai hgc hgk hd p0' hpl
                        go_upto_region 38 with fail
                        refine wp_region_last (L := 18) (S := fun w' => w'.cell? ⟨bp, op + i * 2, none⟩ = some (.int .i64 (d : Int)) ∧ w'.cell? ⟨bp, op + i * 2 + 1, none⟩ = some (.slice (some ⟨ba, oa, none⟩) p.args.length ca2) ∧ w'.cell? ⟨ba, oa + ix, none⟩ = some (.int .i64 (a : Int)) ∧ w'.cell? ⟨gw, a, none⟩ = some (.int .i64 (g2.cur.regs a))) (by kernel_rfl) (by rfl) (by kernel_rfl) (by kernel_rfl) ?_
                        change wpAnyH _ _ _ _ _ _ _ _ (World.drew _)
                        have hS0 : wr.drew.cell? ⟨bp, op + i * 2, none⟩ = some (.int .i64 (d : Int)) ∧ wr.drew.cell? ⟨bp, op + i * 2 + 1, none⟩ = some (.slice (some ⟨ba, oa, none⟩) p.args.length ca2) ∧ wr.drew.cell? ⟨ba, oa + ix, none⟩ = some (.int .i64 (a : Int)) ∧ wr.drew.cell? ⟨gw, a, none⟩ = some (.int .i64 (g2.cur.regs a)) := ⟨p0, p1, p2, p3⟩
                        clear p0 p1 p2 p3
                        refine takeH (i := 0) (some 151) (v := ?_) rfl (by kernel_rfl) (by kernel_rfl) (by kernel_rfl) (fun _ _ _ h => h) hS0 (fun o ho => ?_) ?_
                        rotate_left
                        · simp only [List.getElem?_toArray, List.getElem?_cons_zero, Option.some.injEq] at ho; subst ho; refine Or.inl ⟨by rfl, fun w' hSw => ?_⟩; (try dsimp only at hSw); go_simp; try with_reducible rfl
                        simp only [Act.put, List.setIfInBounds_toArray, List.set_cons_zero, List.set_cons_succ]
                        refine takeH (i := 1) (some 152) (v := ?_) rfl (by kernel_rfl) (by kernel_rfl) (by kernel_rfl) (fun _ _ _ h => h) hS0 (fun o ho => ?_) ?_
                        rotate_left
                        · simp only [List.getElem?_toArray, List.getElem?_cons_zero, List.getElem?_cons_succ, Option.some.injEq] at ho; subst ho; refine Or.inl ⟨by rfl, fun w' hSw => ?_⟩; (try dsimp only at hSw); go_simp; try with_reducible rfl
                        simp only [Act.put, List.setIfInBounds_toArray, List.set_cons_zero, List.set_cons_succ]
                        refine takeH (i := 2) (some 153) (v := ?_) rfl (by kernel_rfl) (by kernel_rfl) (by kernel_rfl) (fun _ _ _ h => h) hS0 (fun o ho => ?_) ?_
                        rotate_left
                        · simp only [List.getElem?_toArray, List.getElem?_cons_zero, List.getElem?_cons_succ, Option.some.injEq] at ho; subst ho; refine Or.inl ⟨by rfl, fun w' hSw => ?_⟩; (try dsimp only at hSw); go_simp; try with_reducible rfl
                        simp only [Act.put, List.setIfInBounds_toArray, List.set_cons_zero, List.set_cons_succ]
                        refine takeH (i := 3) (some 154) (v := ?_) rfl (by kernel_rfl) (by kernel_rfl) (by kernel_rfl) (fun _ _ _ h => h) hS0 (fun o ho => ?_) ?_
                        rotate_left
                        · simp only [List.getElem?_toArray, List.getElem?_cons_zero, List.getElem?_cons_succ, Option.some.injEq] at ho; subst ho; refine Or.inl ⟨by rfl, fun w' hSw => ?_⟩; (try dsimp only at hSw); go_simp; try with_reducible rfl
                        simp only [Act.put, List.setIfInBounds_toArray, List.set_cons_zero, List.set_cons_succ]
                        refine takeH (i := 4) (some 155) (v := ?_) rfl (by kernel_rfl) (by kernel_rfl) (by kernel_rfl) (fun _ _ _ h => h) hS0 (fun o ho => ?_) ?_
                        rotate_left
                        · simp only [List.getElem?_toArray, List.getElem?_cons_zero, List.getElem?_cons_succ, Option.some.injEq] at ho; subst ho; refine Or.inl ⟨by rfl, fun w' hSw => ?_⟩; (try dsimp only at hSw); go_simp; try with_reducible rfl
                        simp only [Act.put, List.setIfInBounds_toArray, List.set_cons_zero, List.set_cons_succ]
                        refine takeH (i := 5) (some 156) (v := ?_) rfl (by kernel_rfl) (by kernel_rfl) (by kernel_rfl) (fun _ _ _ h => h) hS0 (fun o ho => ?_) ?_
                        rotate_left
                        · simp only [List.getElem?_toArray, List.getElem?_cons_zero, List.getElem?_cons_succ, Option.some.injEq] at ho; subst ho; refine Or.inl ⟨by rfl, fun w' hSw => ?_⟩; (try dsimp only at hSw); go_simp; try with_reducible rfl
                        simp only [Act.put, List.setIfInBounds_toArray, List.set_cons_zero, List.set_cons_succ]
                        refine takeH (i := 6) (some 157) (v := ?_) rfl (by kernel_rfl) (by kernel_rfl) (by kernel_rfl) (fun _ _ _ h => h) hS0 (fun o ho => ?_) ?_
                        rotate_left
                        · simp only [List.getElem?_toArray, List.getElem?_cons_zero, List.getElem?_cons_succ, Option.some.injEq] at ho; subst ho; refine Or.inl ⟨by rfl, fun w' hSw => ?_⟩; (try dsimp only at hSw); go_simp; try with_reducible rfl
                        simp only [Act.put, List.setIfInBounds_toArray, List.set_cons_zero, List.set_cons_succ]
                        refine takeH (i := 7) (some 158) (v := ?_) rfl (by kernel_rfl) (by kernel_rfl) (by kernel_rfl) (fun _ _ _ h => h) hS0 (fun o ho => ?_) ?_
                        rotate_left
                        · simp only [List.getElem?_toArray, List.getElem?_cons_zero, List.getElem?_cons_succ, Option.some.injEq] at ho; subst ho; refine Or.inl ⟨by rfl, fun w' hSw => ?_⟩; (try dsimp only at hSw); go_simp; try with_reducible rfl
                        simp only [Act.put, List.setIfInBounds_toArray, List.set_cons_zero, List.set_cons_succ]
                        refine takeH (i := 8) (some 159) (v := ?_) rfl (by kernel_rfl) (by kernel_rfl) (by kernel_rfl) (fun _ _ _ h => h) hS0 (fun o ho => ?_) ?_
                        rotate_left
                        · simp only [List.getElem?_toArray, List.getElem?_cons_zero, List.getElem?_cons_succ, Option.some.injEq] at ho; subst ho; refine Or.inl ⟨by rfl, fun w' hSw => ?_⟩; (try dsimp only at hSw); go_simp; try with_reducible rfl
                        simp only [Act.put, List.setIfInBounds_toArray, List.set_cons_zero, List.set_cons_succ]
                        refine takeH (i := 9) (some 160) (v := ?_) rfl (by kernel_rfl) (by kernel_rfl) (by kernel_rfl) (fun _ _ _ h => h) hS0 (fun o ho => ?_) ?_
                        rotate_left
                        · simp only [List.getElem?_toArray, List.getElem?_cons_zero, List.getElem?_cons_succ, Option.some.injEq] at ho; subst ho; refine Or.inl ⟨by rfl, fun w' hSw => ?_⟩; (try dsimp only at hSw); go_simp; try with_reducible rfl
                        simp only [Act.put, List.setIfInBounds_toArray, List.set_cons_zero, List.set_cons_succ]
                        refine takeH (i := 10) (some 161) (v := ?_) rfl (by kernel_rfl) (by kernel_rfl) (by kernel_rfl) (fun _ _ _ h => h) hS0 (fun o ho => ?_) ?_
                        rotate_left
                        · simp only [List.getElem?_toArray, List.getElem?_cons_zero, List.getElem?_cons_succ, Option.some.injEq] at ho; subst ho; refine Or.inl ⟨by rfl, fun w' hSw => ?_⟩; (try dsimp only at hSw); go_simp; try with_reducible rfl
                        simp only [Act.put, List.setIfInBounds_toArray, List.set_cons_zero, List.set_cons_succ]
                        refine takeH (i := 11) (some 162) (v := ?_) rfl (by kernel_rfl) (by kernel_rfl) (by kernel_rfl) (fun _ _ _ h => h) hS0 (fun o ho => ?_) ?_
                        rotate_left
                        · simp only [List.getElem?_toArray, List.getElem?_cons_zero, List.getElem?_cons_succ, Option.some.injEq] at ho; subst ho; refine Or.inl ⟨by rfl, fun w' hSw => ?_⟩; (try dsimp only at hSw); go_simp; try with_reducible rfl
                        simp only [Act.put, List.setIfInBounds_toArray, List.set_cons_zero, List.set_cons_succ]
                        refine takeH (i := 12) (some 163) (v := ?_) rfl (by kernel_rfl) (by kernel_rfl) (by kernel_rfl) (fun _ _ _ h => h) hS0 (fun o ho => ?_) ?_
                        rotate_left
                        · simp only [List.getElem?_toArray, List.getElem?_cons_zero, List.getElem?_cons_succ, Option.some.injEq] at ho; subst ho; refine Or.inl ⟨by rfl, fun w' hSw => ?_⟩; (try dsimp only at hSw); go_simp; try with_reducible rfl
                        simp only [Act.put, List.setIfInBounds_toArray, List.set_cons_zero, List.set_cons_succ]
                        refine takeH (i := 13) (some 164) (v := ?_) rfl (by kernel_rfl) (by kernel_rfl) (by kernel_rfl) (fun _ _ _ h => h) hS0 (fun o ho => ?_) ?_
                        rotate_left
                        · simp only [List.getElem?_toArray, List.getElem?_cons_zero, List.getElem?_cons_succ, Option.some.injEq] at ho; subst ho; refine Or.inl ⟨by rfl, fun w' hSw => ?_⟩; (try dsimp only at hSw); go_simp; try with_reducible rfl
                        simp only [Act.put, List.setIfInBounds_toArray, List.set_cons_zero, List.set_cons_succ]
                        refine takeH (i := 14) (some 165) (v := ?_) rfl (by kernel_rfl) (by kernel_rfl) (by kernel_rfl) (fun _ _ _ h => h) hS0 (fun o ho => ?_) ?_
                        rotate_left
                        · simp only [List.getElem?_toArray, List.getElem?_cons_zero, List.getElem?_cons_succ, Option.some.injEq] at ho; subst ho; refine Or.inl ⟨by rfl, fun w' hSw => ?_⟩; (try dsimp only at hSw); go_simp; try with_reducible rfl
                        simp only [Act.put, List.setIfInBounds_toArray, List.set_cons_zero, List.set_cons_succ]
                        refine takeH (i := 15) (some 166) (v := ?_) rfl (by kernel_rfl) (by kernel_rfl) (by kernel_rfl) (fun _ _ _ h => h) hS0 (fun o ho => ?_) ?_
                        rotate_left
                        · simp only [List.getElem?_toArray, List.getElem?_cons_zero, List.getElem?_cons_succ, Option.some.injEq] at ho; subst ho; refine Or.inl ⟨by rfl, fun w' hSw => ?_⟩; (try dsimp only at hSw); go_simp; try with_reducible rfl
                        simp only [Act.put, List.setIfInBounds_toArray, List.set_cons_zero, List.set_cons_succ]
                        refine takeH (i := 16) (some 167) (v := ?_) rfl (by kernel_rfl) (by kernel_rfl) (by kernel_rfl) (fun _ _ _ h => h) hS0 (fun o ho => ?_) ?_
                        rotate_left
                        · simp only [List.getElem?_toArray, List.getElem?_cons_zero, List.getElem?_cons_succ, Option.some.injEq] at ho; subst ho; refine Or.inl ⟨by rfl, fun w' hSw => ?_⟩; (try dsimp only at hSw); go_simp; try with_reducible rfl
                        simp only [Act.put, List.setIfInBounds_toArray, List.set_cons_zero, List.set_cons_succ]
                        refine takeH (i := 17) (some 168) (v := ?_) rfl (by kernel_rfl) (by kernel_rfl) (by kernel_rfl) (fun _ _ _ h => h) hS0 (fun o ho => ?_) ?_
                        rotate_left
                        · simp only [List.getElem?_toArray, List.getElem?_cons_zero, List.getElem?_cons_succ, Option.some.injEq] at ho; subst ho; refine Or.inl ⟨by rfl, fun w' hSw => ?_⟩; (try dsimp only at hSw); go_simp; try with_reducible rfl
                        simp only [Act.put, List.setIfInBounds_toArray, List.set_cons_zero, List.set_cons_succ]
                        refine wpAnyH_done (by kernel_rfl) ?_ _
                        refine lastH (by decide) (fun o ho K' hK => ?_)
                        simp only [List.getElem?_toArray, List.getElem?_cons_zero, List.getElem?_cons_succ, Option.some.injEq] at ho; subst ho
                        go_simp
                        refine hK.out _ _ ?_
                        clear hK K' hS0 xd fd
                        go_wp2_with fail
                        go_roundw
                        case rel => exact ⟨i + 1, by omega, by go_num, HMN.out, HRN.out, HVN.out⟩
                        case measure => simp [intOf]; omega
                      · obtain rfl : i = kt.phis.length := by omega
                        have HCUR2 : Hid (stepS m (tickS g2) = { tickS g2 with cur := ⟨g2.cur.fn, tt, 0, setAll g2.cur.regs (kt.phis.map (phiP g2.cur.regs ix))⟩ }) := Lib.hid (by
                          rw [HST.out, HEQ.out, goTo_at HKT.out, hahd, ← HIXD.out] <;> rfl)
                        have HRF : Hid (FrR K P R F.regs.length wr vo3 (setAll g2.cur.regs (kt.phis.map (phiP g2.cur.regs ix)))) := Lib.hid (by rw [List.take_of_length_le (by simp)] at hRq; exact hRq)
                        have HCF := Lib.hid (show CInv K P R F.regs.length most m f s (.slice (some ⟨bf, of_, none⟩) m.length cf) vo w3 wr { tickS g2 with cur := ⟨g2.cur.fn, tt, 0, setAll g2.cur.regs (kt.phis.map (phiP g2.cur.regs ix))⟩ } vo3 from
                          ⟨by
                            obtain ⟨j0, h1, h2⟩ := HI2.out.run
                            exact ⟨j0 + 1, by rw [loop_next h1 HI2.out.dn, HCUR2.out], by show g2.steps + 1 = _; omega⟩,
                           HI2.out.dn, HI2.out.st, hst, HI2.out.fn, by show g2.out.length ≤ g2.steps + 1; have := HI2.out.ol; omega, HMQ.out.ghost ⟨rfl, rfl, rfl, rfl, rfl, rfl⟩, HRF.out, HVV.out.trans HVQ.out⟩)
                        clear hMq hRq hvq
                        go_wp2_with fail
                        go_roundg (most - (g2.steps + 1) + 1)
                        case measure => have := HGE.out; omega
                        case rel => exact ⟨_, vo3, rfl, rfl, (List.getElem?_eq_some_iff.1 HKT.out).1, rfl, HCF.out⟩
              · -- a branch
                obtain ⟨xa, xb, hto⟩ := len_two hln2
                obtain ⟨q, hq⟩ : ∃ q : Nat, kb.term.arg = q := ⟨kb.term.arg.toNat, by have := harg.1; omega⟩
                have hqn : q < F.regs.length := by have := harg.2; omega
                have xq := HRT.out.row.cell hqn
                have hq0 : (0 : Int) ≤ q := by omega
                have hq1 : (q : Int) < F.regs.length := by omega
                rw [hq] at t1
                rw [hkd] at t0
                have h2l : kb.term.to.length = 2 := by rw [hto]; rfl
                have h0l : 0 < kb.term.to.length := by omega
                have h1l : 1 < kb.term.to.length := by omega
                obtain ⟨bt, ot, ya, rfl, hya, -, hyc, -⟩ := HTT.out.at_ h0l
                obtain ⟨bt2, ot2, yb, ebt, hyb, -, hyd, -⟩ := HTT.out.at_ h1l
                obtain ⟨rfl, rfl⟩ : bt = bt2 ∧ ot = ot2 := by cases ebt; exact ⟨rfl, rfl⟩
                obtain rfl : xa = ya := by have := hya.out; rw [hto] at this; simpa using this
                obtain rfl : xb = yb := by have := hyb.out; rw [hto] at this; simpa using this
                rw [Nat.mul_one, Nat.add_zero] at hyc
                rw [Nat.mul_one] at hyd
                have hl0 : (0 : Int) < kb.term.to.length := by omega
                have hl1 : (1 : Int) < kb.term.to.length := by omega
                by_cases hz : g2.cur.regs q = 0
                · obtain ⟨xt, rfl⟩ : ∃ xt, xt = xb := ⟨xb, rfl⟩
                  have hxm : xt ∈ kb.term.to := by rw [hto]; simp
                  obtain ⟨hxt1, hxt2⟩ := HF.out.to kb (List.mem_of_getElem? HKB.out) xt hxm
                  obtain ⟨tt, rfl⟩ : ∃ tt : Nat, xt = tt := ⟨xt.toNat, by omega⟩
                  have hkt : F.blocks[tt]? = some (F.blocks[tt]'(by omega)) := List.getElem?_eq_getElem _
                  generalize F.blocks[tt]'(by omega) = kt at hkt
                  have hprd : (g2.cur.blk : Int) ∈ aheadL F.blocks tt := ahead_has HKB2.out hxm
                  have heq : endS m (tickS g2) kb.term = { tickS g2 with cur := goToF F g2.cur tt } := by
                    unfold endS
                    rw [if_neg (by omega), if_pos ⟨hkd, by rw [hq]; exact hz⟩]
                    show { tickS g2 with cur := goToF (m.getD g2.cur.fn default) g2.cur (kb.term.to.getD 1 0).toNat } = _
                    rw [getD_of HF2.out, hto]; rfl
                  rw [hz] at xq
                  clear hya hyb hxm hto ebt hz
                  go_upto_region 26 with fail
                  clear hyc hyd hl0 hl1 h0l h1l xq
                  have HKT := Lib.hid hkt
                  have HPRD := Lib.hid hprd
                  have HEQ := Lib.hid heq
                  clear hkt hprd heq t0 t1 t2
                  have b0 := HKN.out wt vo3 HVW.out 0 _ HN3.out.1
                  have b1 := HKN.out wt vo3 HVW.out 1 _ HN3.out.2.1
                  have b2 := HKN.out wt vo3 HVW.out 2 _ HN3.out.2.2.1
                  have b3 := HKN.out wt vo3 HVW.out 3 _ HN3.out.2.2.2
                  have HAHC := Lib.hid (refAhead_any F (tt : Int) _ wt ⟨Ar, cr, some ⟨bb, ob, none⟩, cb, rfl, SL.imp RIntB.plain (SIntsB.go (HKO.out wt vo3 HVW.out) (fun _ h => h) HREG.out), SL.imp RBlkB.plain (SBlksB.go (HKO.out wt vo3 HVW.out) (fun _ h => h) HBLK.out), HFP.out.1, HFP.out.2⟩ (by have := HF.out.nb; omega))
                  have HND : Hid ((aheadL F.blocks tt).Nodup) := Lib.hid (aheadK_nodup _ _ _)
                  have HPHI := Lib.hid (HF.out.phis tt kt HKT.out)
                  generalize hahd : aheadL F.blocks tt = ah at *
                  go_wp2_with fail
                  refine HAHC.out.mono ?_
                  rintro e wu ⟨⟨ra, rfl, Aa, caa, rfl, has⟩, hbu⟩
                  have HAS := Lib.hid has
                  have HBU := Lib.hid hbu
                  have hahl := has.len
                  clear has hbu HAHC b0 b1 b2 b3
                  go_wp2_with fail
                  go_loopw [18, 19] (fun s18 s19 wq => ∃ i : Nat, i ≤ ah.length ∧ s18 = .int .i64 ((atI ah (g2.cur.blk : Int) i : Nat) : Int) ∧ s19 = .int .i64 (i : Int) ∧ Below wu.heap.size wu wq) (fun s18 s19 _ => ah.length - (intOf s19).toNat)
                  case atStart => exact ⟨0, Nat.zero_le _, by rw [atI_zero]; rfl, rfl, Below.refl _ _⟩
                  case round =>
                    obtain ⟨i, hia, rfl, rfl, hbq⟩ := hrel
                    have HBQ := Lib.hid hbq
                    by_cases hial : i < ah.length
                    · obtain ⟨by2, oy2, y, rfl, hy, hyc, -⟩ := (SInts.keep (kept_of_below hbq) HAS.out).int hial
                      have hi0 : (0 : Int) ≤ i := by omega
                      have hi1 : (i : Int) < ah.length := by omega
                      have HY := Lib.hid hy.out
                      by_cases hyx : y = (g2.cur.blk : Int)
                      · have hE : (y == (g.cur.blk : Int)) = true := by rw [beq_iff_eq, hyx, HBK2.out]
                        have HA2 : Hid (atI ah (g2.cur.blk : Int) (i + 1) = i) := Lib.hid (atI_yes HND.out (by rw [HY.out, hyx]))
                        clear hbq hy hyx
                        go_wp2_with fail
                        go_roundw
                        case rel => exact ⟨i + 1, by omega, by rw [HA2.out], by go_num, HBQ.out⟩
                        case measure => simp [intOf]; omega
                      · have hE : (y == (g.cur.blk : Int)) = false := by rw [beq_eq_false_iff_ne, ← HBK2.out]; exact hyx
                        have HA2 : Hid (atI ah (g2.cur.blk : Int) (i + 1) = atI ah (g2.cur.blk : Int) i) := Lib.hid (atI_no HY.out hyx)
                        clear hbq hy hyx
                        go_wp2_with fail
                        go_roundw
                        case rel => exact ⟨i + 1, by omega, by rw [HA2.out], by go_num, HBQ.out⟩
                        case measure => simp [intOf]; omega
                    · obtain rfl : i = ah.length := by omega
                      obtain ⟨wz, rfl⟩ : ∃ wz, wz = wr := ⟨wr, rfl⟩
                      have hix := atI_all HPRD.out (Nat.le_refl _)
                      obtain ⟨ix, hixd⟩ : ∃ ix, ix = ah.idxOf (g2.cur.blk : Int) := ⟨_, rfl⟩
                      rw [← hixd] at hix
                      rw [hix]
                      have HIX : Hid (ix < ah.length) := Lib.hid (by rw [hixd]; exact List.idxOf_lt_length_iff.2 HPRD.out)
                      have HIXD := Lib.hid hixd
                      have hbz : Below wt.heap.size wt wz := HBU.out.trans (hbq.mono HBU.out.size)
                      have HMZ := Lib.hid (HMT.out.below hbz)
                      have HRZ := Lib.hid (HRT.out.go (Mv.of_below NoX P vo3 hbz) HMT.out.pk (fun e => e))
                      have HVZ := Lib.hid (HVW.out.trans (Mv.of_below (fun b => b = R) P vo3 hbz))
                      obtain ⟨vw, ww, hrw, hown, hbw⟩ := rapp_row 25 HRZ.out.row hn256 F.regs.length
                      have HOW := Lib.hid hown
                      have HMW := Lib.hid (HMZ.out.below hbw)
                      have HRW2 := Lib.hid (HRZ.out.go (Mv.of_below NoX P vo3 hbw) HMZ.out.pk (fun e => e))
                      have HVV := Lib.hid (HVZ.out.trans (Mv.of_below (fun b => b = R) P vo3 hbw))
                      have HWZ : Hid (R < wz.heap.size ∧ P < wz.heap.size ∧ ∀ g, vo3.ownBlock = some g → g < wz.heap.size) := Lib.hid ⟨HRZ.out.row.lt, HMZ.out.lt, fun g hg => (HMZ.out.out.lt g hg).2⟩
                      have b3 := HKN.out ww vo3 HVV.out 3 _ HN3.out.2.2.2
                      have hblk2 := SBlksB.go (HKO.out ww vo3 HVV.out) (fun _ h => h) HBLK.out
                      obtain ⟨bb2, ob2, kt2, ebb, hkt2, hbbo, ⟨Ap2, cp2, q0, hph⟩, -⟩ := hblk2.at_ (List.getElem?_eq_some_iff.1 HKT.out).1
                      obtain ⟨rfl, rfl⟩ : bb = bb2 ∧ ob = ob2 := by cases ebb; exact ⟨rfl, rfl⟩
                      obtain rfl : kt = kt2 := Option.some.inj (HKT.out.symm.trans hkt2.out)
                      have HPH := Lib.hid hph
                      have htt0 : (0 : Int) ≤ tt := by omega
                      have htt1 : (tt : Int) < F.blocks.length := by have := (List.getElem?_eq_some_iff.1 HKT.out).1; omega
                      have hpl256 : kt.phis.length ≤ 256 := by have := HF.out.items kt (List.mem_of_getElem? HKT.out); omega
                      clear hbq hbz hown hbw hblk2 hkt2 hph hix hixd ebb hbbo
                      go_wp2_with (at_builtin; refine wpList_append_run _ rfl (.tmp 136) (.tmp 137) 25 25 rfl _ _ rfl rfl hrw ?_)
                      clear hrw b3 q0
                      go_loopw [22] (fun s22 wq => ∃ i : Nat, i ≤ kt.phis.length ∧ s22 = .int .i64 (i : Int) ∧ RfM K P m most wq (tickS g2) (.slice (some ⟨bf, of_, none⟩) m.length cf) vo3 ∧ FrR K P R F.regs.length wq vo3 (setAll g2.cur.regs ((kt.phis.map (phiP g2.cur.regs ix)).take i)) ∧ Mv (fun b => b = R) P ww wq vo3 vo3) (fun s22 _ => kt.phis.length - (intOf s22).toNat)
                      case atStart => exact ⟨0, Nat.zero_le _, rfl, HMW.out, by simpa [setAll] using HRW2.out, Mv.refl _ _ _ _⟩
                      case round =>
                        obtain ⟨i, hip, rfl, hMq, hRq, hvq⟩ := hrel
                        have HMQ := Lib.hid hMq
                        have HRQ := Lib.hid hRq
                        have HVQ := Lib.hid hvq
                        by_cases hipl : i < kt.phis.length
                        · have hko : KeptB (Old K P) ww wr := hvq.keptOld (fun k e => by have := hRq.ge; have e : k = R := e; omega) (fun g hg => (HMW.out.out.lt g hg).1)
                          obtain ⟨bp, op, p, rfl, hp, -, ⟨p0, p0'⟩, ⟨Apa, ca2, p1, hpa⟩⟩ := (SPhisB.go hko (fun _ h => h) HPH.out).at_ hipl
                          obtain ⟨hpl, hpd, hpi⟩ := HPHI.out p (List.mem_of_getElem? hp.out)
                          obtain ⟨d, hd⟩ : ∃ d : Nat, p.dst = d := ⟨p.dst.toNat, by have := hpd.1; omega⟩
                          have hdn1 : d < F.regs.length := by have := hpd.2; omega
                          have hixl : ix < p.args.length := by rw [hpl]; exact HIX.out
                          obtain ⟨ba, oa, a0, rfl, ha0, -, p2, -⟩ := hpa.at_ hixl
                          have hai := hpi a0 (List.mem_of_getElem? ha0.out)
                          obtain ⟨a, rfl⟩ : ∃ a : Nat, a0 = a := ⟨a0.toNat, by have := hai.1; omega⟩
                          have han : a < F.regs.length := by have := hai.2; omega
                          rw [Nat.mul_one] at p2
                          rw [hd] at p0
                          obtain ⟨gw, cw, rfl, hgc, hgk⟩ := own_cells HOW.out (by omega)
                          have p3 : wr.cell? ⟨gw, a, none⟩ = some (.int .i64 (g2.cur.regs a)) := (World.cell?_of_block (a := ⟨gw, a, none⟩) (hvq.block gw (HOW.out.lt gw rfl).2 (by have := HWZ.out.2.1; omega) (by have := HWZ.out.1; show ¬ gw = R; omega) (fun e => by have := HWZ.out.2.2 _ e; omega))).trans (hgc a _ (by simp [han]))
                          have xd := hRq.row.cell hdn1
                          have fd := hRq.row.frozen d
                          have hi0 : (0 : Int) ≤ i := by omega
                          have hi1 : (i : Int) < kt.phis.length := by omega
                          have hd0 : (0 : Int) ≤ d := by omega
                          have hd1 : (d : Int) < F.regs.length := by omega
                          have ha0' : (0 : Int) ≤ a := by omega
                          have ha1' : (a : Int) < F.regs.length := by omega
                          have hx0 : (0 : Int) ≤ ix := by omega
                          have hx1 : (ix : Int) < p.args.length := by omega
                          have HSA : Hid (setAll g2.cur.regs ((kt.phis.map (phiP g2.cur.regs ix)).take (i + 1)) = upd (setAll g2.cur.regs ((kt.phis.map (phiP g2.cur.regs ix)).take i)) d (g2.cur.regs a)) := Lib.hid (by
                            have h1 : (kt.phis.map (phiP g2.cur.regs ix))[i]? = some ((d : Int), g2.cur.regs a) := by
                              rw [List.getElem?_map, hp.out]
                              show some (p.dst, g2.cur.regs (p.args.getD ix 0).toNat) = _
                              rw [List.getD_eq_getElem?_getD, ha0.out, hd]; rfl
                            rw [setAll_next h1]; rfl)
                          have HRN : Hid (FrR K P R F.regs.length (wr.drew.setCell ⟨R, d, none⟩ (.int .i64 (g2.cur.regs a))) vo3 (setAll g2.cur.regs ((kt.phis.map (phiP g2.cur.regs ix)).take (i + 1)))) := Lib.hid (by
                            rw [HSA.out]
                            exact (hRq.go (Mv.of_below NoX P vo3 (Below.refl _ _).drew) hMq.pk (fun e => e)).set d (HRZ.out.r64 a))
                          have HMN : Hid (RfM K P m most (wr.drew.setCell ⟨R, d, none⟩ (.int .i64 (g2.cur.regs a))) (tickS g2) (.slice (some ⟨bf, of_, none⟩) m.length cf) vo3) := Lib.hid ((hMq.below (Below.refl _ _).drew).off hRq.ge hRq.ap d _)
                          have HVN : Hid (Mv (fun b => b = R) P ww (wr.drew.setCell ⟨R, d, none⟩ (.int .i64 (g2.cur.regs a))) vo3 vo3) := Lib.hid (hvq.trans ((Mv.of_below (fun b => b = R) P vo3 (Below.refl wr.heap.size wr).drew).trans (Mv.set (fun b => b = R) P vo3 wr.drew (p := ⟨R, d, none⟩) (.inr rfl) _)))
                          clear hMq hRq hvq hko hpa hp ha0 hpd hpi hai hgc hgk hd p0' hpl
                          go_upto_region 38 with fail
                          refine wp_region_last (L := 18) (S := fun w' => w'.cell? ⟨bp, op + i * 2, none⟩ = some (.int .i64 (d : Int)) ∧ w'.cell? ⟨bp, op + i * 2 + 1, none⟩ = some (.slice (some ⟨ba, oa, none⟩) p.args.length ca2) ∧ w'.cell? ⟨ba, oa + ix, none⟩ = some (.int .i64 (a : Int)) ∧ w'.cell? ⟨gw, a, none⟩ = some (.int .i64 (g2.cur.regs a))) (by kernel_rfl) (by rfl) (by kernel_rfl) (by kernel_rfl) ?_
                          change wpAnyH _ _ _ _ _ _ _ _ (World.drew _)
                          have hS0 : wr.drew.cell? ⟨bp, op + i * 2, none⟩ = some (.int .i64 (d : Int)) ∧ wr.drew.cell? ⟨bp, op + i * 2 + 1, none⟩ = some (.slice (some ⟨ba, oa, none⟩) p.args.length ca2) ∧ wr.drew.cell? ⟨ba, oa + ix, none⟩ = some (.int .i64 (a : Int)) ∧ wr.drew.cell? ⟨gw, a, none⟩ = some (.int .i64 (g2.cur.regs a)) := ⟨p0, p1, p2, p3⟩
                          clear p0 p1 p2 p3
                          refine takeH (i := 0) (some 151) (v := ?_) rfl (by kernel_rfl) (by kernel_rfl) (by kernel_rfl) (fun _ _ _ h => h) hS0 (fun o ho => ?_) ?_
                          rotate_left
                          · simp only [List.getElem?_toArray, List.getElem?_cons_zero, Option.some.injEq] at ho; subst ho; refine Or.inl ⟨by rfl, fun w' hSw => ?_⟩; (try dsimp only at hSw); go_simp; try with_reducible rfl
                          simp only [Act.put, List.setIfInBounds_toArray, List.set_cons_zero, List.set_cons_succ]
                          refine takeH (i := 1) (some 152) (v := ?_) rfl (by kernel_rfl) (by kernel_rfl) (by kernel_rfl) (fun _ _ _ h => h) hS0 (fun o ho => ?_) ?_
                          rotate_left
                          · simp only [List.getElem?_toArray, List.getElem?_cons_zero, List.getElem?_cons_succ, Option.some.injEq] at ho; subst ho; refine Or.inl ⟨by rfl, fun w' hSw => ?_⟩; (try dsimp only at hSw); go_simp; try with_reducible rfl
                          simp only [Act.put, List.setIfInBounds_toArray, List.set_cons_zero, List.set_cons_succ]
                          refine takeH (i := 2) (some 153) (v := ?_) rfl (by kernel_rfl) (by kernel_rfl) (by kernel_rfl) (fun _ _ _ h => h) hS0 (fun o ho => ?_) ?_
                          rotate_left
                          · simp only [List.getElem?_toArray, List.getElem?_cons_zero, List.getElem?_cons_succ, Option.some.injEq] at ho; subst ho; refine Or.inl ⟨by rfl, fun w' hSw => ?_⟩; (try dsimp only at hSw); go_simp; try with_reducible rfl
                          simp only [Act.put, List.setIfInBounds_toArray, List.set_cons_zero, List.set_cons_succ]
                          refine takeH (i := 3) (some 154) (v := ?_) rfl (by kernel_rfl) (by kernel_rfl) (by kernel_rfl) (fun _ _ _ h => h) hS0 (fun o ho => ?_) ?_
                          rotate_left
                          · simp only [List.getElem?_toArray, List.getElem?_cons_zero, List.getElem?_cons_succ, Option.some.injEq] at ho; subst ho; refine Or.inl ⟨by rfl, fun w' hSw => ?_⟩; (try dsimp only at hSw); go_simp; try with_reducible rfl
                          simp only [Act.put, List.setIfInBounds_toArray, List.set_cons_zero, List.set_cons_succ]
                          refine takeH (i := 4) (some 155) (v := ?_) rfl (by kernel_rfl) (by kernel_rfl) (by kernel_rfl) (fun _ _ _ h => h) hS0 (fun o ho => ?_) ?_
                          rotate_left
                          · simp only [List.getElem?_toArray, List.getElem?_cons_zero, List.getElem?_cons_succ, Option.some.injEq] at ho; subst ho; refine Or.inl ⟨by rfl, fun w' hSw => ?_⟩; (try dsimp only at hSw); go_simp; try with_reducible rfl
                          simp only [Act.put, List.setIfInBounds_toArray, List.set_cons_zero, List.set_cons_succ]
                          refine takeH (i := 5) (some 156) (v := ?_) rfl (by kernel_rfl) (by kernel_rfl) (by kernel_rfl) (fun _ _ _ h => h) hS0 (fun o ho => ?_) ?_
                          rotate_left
                          · simp only [List.getElem?_toArray, List.getElem?_cons_zero, List.getElem?_cons_succ, Option.some.injEq] at ho; subst ho; refine Or.inl ⟨by rfl, fun w' hSw => ?_⟩; (try dsimp only at hSw); go_simp; try with_reducible rfl
                          simp only [Act.put, List.setIfInBounds_toArray, List.set_cons_zero, List.set_cons_succ]
                          refine takeH (i := 6) (some 157) (v := ?_) rfl (by kernel_rfl) (by kernel_rfl) (by kernel_rfl) (fun _ _ _ h => h) hS0 (fun o ho => ?_) ?_
                          rotate_left
                          · simp only [List.getElem?_toArray, List.getElem?_cons_zero, List.getElem?_cons_succ, Option.some.injEq] at ho; subst ho; refine Or.inl ⟨by rfl, fun w' hSw => ?_⟩; (try dsimp only at hSw); go_simp; try with_reducible rfl
                          simp only [Act.put, List.setIfInBounds_toArray, List.set_cons_zero, List.set_cons_succ]
                          refine takeH (i := 7) (some 158) (v := ?_) rfl (by kernel_rfl) (by kernel_rfl) (by kernel_rfl) (fun _ _ _ h => h) hS0 (fun o ho => ?_) ?_
                          rotate_left
                          · simp only [List.getElem?_toArray, List.getElem?_cons_zero, List.getElem?_cons_succ, Option.some.injEq] at ho; subst ho; refine Or.inl ⟨by rfl, fun w' hSw => ?_⟩; (try dsimp only at hSw); go_simp; try with_reducible rfl
                          simp only [Act.put, List.setIfInBounds_toArray, List.set_cons_zero, List.set_cons_succ]
                          refine takeH (i := 8) (some 159) (v := ?_) rfl (by kernel_rfl) (by kernel_rfl) (by kernel_rfl) (fun _ _ _ h => h) hS0 (fun o ho => ?_) ?_
                          rotate_left
                          · simp only [List.getElem?_toArray, List.getElem?_cons_zero, List.getElem?_cons_succ, Option.some.injEq] at ho; subst ho; refine Or.inl ⟨by rfl, fun w' hSw => ?_⟩; (try dsimp only at hSw); go_simp; try with_reducible rfl
                          simp only [Act.put, List.setIfInBounds_toArray, List.set_cons_zero, List.set_cons_succ]
                          refine takeH (i := 9) (some 160) (v := ?_) rfl (by kernel_rfl) (by kernel_rfl) (by kernel_rfl) (fun _ _ _ h => h) hS0 (fun o ho => ?_) ?_
                          rotate_left
                          · simp only [List.getElem?_toArray, List.getElem?_cons_zero, List.getElem?_cons_succ, Option.some.injEq] at ho; subst ho; refine Or.inl ⟨by rfl, fun w' hSw => ?_⟩; (try dsimp only at hSw); go_simp; try with_reducible rfl
                          simp only [Act.put, List.setIfInBounds_toArray, List.set_cons_zero, List.set_cons_succ]
                          refine takeH (i := 10) (some 161) (v := ?_) rfl (by kernel_rfl) (by kernel_rfl) (by kernel_rfl) (fun _ _ _ h => h) hS0 (fun o ho => ?_) ?_
                          rotate_left
                          · simp only [List.getElem?_toArray, List.getElem?_cons_zero, List.getElem?_cons_succ, Option.some.injEq] at ho; subst ho; refine Or.inl ⟨by rfl, fun w' hSw => ?_⟩; (try dsimp only at hSw); go_simp; try with_reducible rfl
                          simp only [Act.put, List.setIfInBounds_toArray, List.set_cons_zero, List.set_cons_succ]
                          refine takeH (i := 11) (some 162) (v := ?_) rfl (by kernel_rfl) (by kernel_rfl) (by kernel_rfl) (fun _ _ _ h => h) hS0 (fun o ho => ?_) ?_
                          rotate_left
                          · simp only [List.getElem?_toArray, List.getElem?_cons_zero, List.getElem?_cons_succ, Option.some.injEq] at ho; subst ho; refine Or.inl ⟨by rfl, fun w' hSw => ?_⟩; (try dsimp only at hSw); go_simp; try with_reducible rfl
                          simp only [Act.put, List.setIfInBounds_toArray, List.set_cons_zero, List.set_cons_succ]
                          refine takeH (i := 12) (some 163) (v := ?_) rfl (by kernel_rfl) (by kernel_rfl) (by kernel_rfl) (fun _ _ _ h => h) hS0 (fun o ho => ?_) ?_
                          rotate_left
                          · simp only [List.getElem?_toArray, List.getElem?_cons_zero, List.getElem?_cons_succ, Option.some.injEq] at ho; subst ho; refine Or.inl ⟨by rfl, fun w' hSw => ?_⟩; (try dsimp only at hSw); go_simp; try with_reducible rfl
                          simp only [Act.put, List.setIfInBounds_toArray, List.set_cons_zero, List.set_cons_succ]
                          refine takeH (i := 13) (some 164) (v := ?_) rfl (by kernel_rfl) (by kernel_rfl) (by kernel_rfl) (fun _ _ _ h => h) hS0 (fun o ho => ?_) ?_
                          rotate_left
                          · simp only [List.getElem?_toArray, List.getElem?_cons_zero, List.getElem?_cons_succ, Option.some.injEq] at ho; subst ho; refine Or.inl ⟨by rfl, fun w' hSw => ?_⟩; (try dsimp only at hSw); go_simp; try with_reducible rfl
                          simp only [Act.put, List.setIfInBounds_toArray, List.set_cons_zero, List.set_cons_succ]
                          refine takeH (i := 14) (some 165) (v := ?_) rfl (by kernel_rfl) (by kernel_rfl) (by kernel_rfl) (fun _ _ _ h => h) hS0 (fun o ho => ?_) ?_
                          rotate_left
                          · simp only [List.getElem?_toArray, List.getElem?_cons_zero, List.getElem?_cons_succ, Option.some.injEq] at ho; subst ho; refine Or.inl ⟨by rfl, fun w' hSw => ?_⟩; (try dsimp only at hSw); go_simp; try with_reducible rfl
                          simp only [Act.put, List.setIfInBounds_toArray, List.set_cons_zero, List.set_cons_succ]
                          refine takeH (i := 15) (some 166) (v := ?_) rfl (by kernel_rfl) (by kernel_rfl) (by kernel_rfl) (fun _ _ _ h => h) hS0 (fun o ho => ?_) ?_
                          rotate_left
                          · simp only [List.getElem?_toArray, List.getElem?_cons_zero, List.getElem?_cons_succ, Option.some.injEq] at ho; subst ho; refine Or.inl ⟨by rfl, fun w' hSw => ?_⟩; (try dsimp only at hSw); go_simp; try with_reducible rfl
                          simp only [Act.put, List.setIfInBounds_toArray, List.set_cons_zero, List.set_cons_succ]
                          refine takeH (i := 16) (some 167) (v := ?_) rfl (by kernel_rfl) (by kernel_rfl) (by kernel_rfl) (fun _ _ _ h => h) hS0 (fun o ho => ?_) ?_
                          rotate_left
                          · simp only [List.getElem?_toArray, List.getElem?_cons_zero, List.getElem?_cons_succ, Option.some.injEq] at ho; subst ho; refine Or.inl ⟨by rfl, fun w' hSw => ?_⟩; (try dsimp only at hSw); go_simp; try with_reducible rfl
                          simp only [Act.put, List.setIfInBounds_toArray, List.set_cons_zero, List.set_cons_succ]
                          refine takeH (i := 17) (some 168) (v := ?_) rfl (by kernel_rfl) (by kernel_rfl) (by kernel_rfl) (fun _ _ _ h => h) hS0 (fun o ho => ?_) ?_
                          rotate_left
                          · simp only [List.getElem?_toArray, List.getElem?_cons_zero, List.getElem?_cons_succ, Option.some.injEq] at ho; subst ho; refine Or.inl ⟨by rfl, fun w' hSw => ?_⟩; (try dsimp only at hSw); go_simp; try with_reducible rfl
                          simp only [Act.put, List.setIfInBounds_toArray, List.set_cons_zero, List.set_cons_succ]
                          refine wpAnyH_done (by kernel_rfl) ?_ _
                          refine lastH (by decide) (fun o ho K' hK => ?_)
                          simp only [List.getElem?_toArray, List.getElem?_cons_zero, List.getElem?_cons_succ, Option.some.injEq] at ho; subst ho
                          go_simp
                          refine hK.out _ _ ?_
                          clear hK K' hS0 xd fd
                          go_wp2_with fail
                          go_roundw
                          case rel => exact ⟨i + 1, by omega, by go_num, HMN.out, HRN.out, HVN.out⟩
                          case measure => simp [intOf]; omega
                        · obtain rfl : i = kt.phis.length := by omega
                          have HCUR2 : Hid (stepS m (tickS g2) = { tickS g2 with cur := ⟨g2.cur.fn, tt, 0, setAll g2.cur.regs (kt.phis.map (phiP g2.cur.regs ix))⟩ }) := Lib.hid (by
                            rw [HST.out, HEQ.out, goTo_at HKT.out, hahd, ← HIXD.out] <;> rfl)
                          have HRF : Hid (FrR K P R F.regs.length wr vo3 (setAll g2.cur.regs (kt.phis.map (phiP g2.cur.regs ix)))) := Lib.hid (by rw [List.take_of_length_le (by simp)] at hRq; exact hRq)
                          have HCF := Lib.hid (show CInv K P R F.regs.length most m f s (.slice (some ⟨bf, of_, none⟩) m.length cf) vo w3 wr { tickS g2 with cur := ⟨g2.cur.fn, tt, 0, setAll g2.cur.regs (kt.phis.map (phiP g2.cur.regs ix))⟩ } vo3 from
                            ⟨by
                              obtain ⟨j0, h1, h2⟩ := HI2.out.run
                              exact ⟨j0 + 1, by rw [loop_next h1 HI2.out.dn, HCUR2.out], by show g2.steps + 1 = _; omega⟩,
                             HI2.out.dn, HI2.out.st, hst, HI2.out.fn, by show g2.out.length ≤ g2.steps + 1; have := HI2.out.ol; omega, HMQ.out.ghost ⟨rfl, rfl, rfl, rfl, rfl, rfl⟩, HRF.out, HVV.out.trans HVQ.out⟩)
                          clear hMq hRq hvq
                          go_wp2_with fail
                          go_roundg (most - (g2.steps + 1) + 1)
                          case measure => have := HGE.out; omega
                          case rel => exact ⟨_, vo3, rfl, rfl, (List.getElem?_eq_some_iff.1 HKT.out).1, rfl, HCF.out⟩
                · obtain ⟨xt, rfl⟩ : ∃ xt, xt = xa := ⟨xa, rfl⟩
                  have hxm : xt ∈ kb.term.to := by rw [hto]; simp
                  obtain ⟨hxt1, hxt2⟩ := HF.out.to kb (List.mem_of_getElem? HKB.out) xt hxm
                  obtain ⟨tt, rfl⟩ : ∃ tt : Nat, xt = tt := ⟨xt.toNat, by omega⟩
                  have hkt : F.blocks[tt]? = some (F.blocks[tt]'(by omega)) := List.getElem?_eq_getElem _
                  generalize F.blocks[tt]'(by omega) = kt at hkt
                  have hprd : (g2.cur.blk : Int) ∈ aheadL F.blocks tt := ahead_has HKB2.out hxm
                  have heq : endS m (tickS g2) kb.term = { tickS g2 with cur := goToF F g2.cur tt } := by
                    unfold endS
                    rw [if_neg (by omega), if_neg (fun h => hz (by have := h.2; rw [hq] at this; exact this))]
                    show { tickS g2 with cur := goToF (m.getD g2.cur.fn default) g2.cur (kb.term.to.getD 0 0).toNat } = _
                    rw [getD_of HF2.out, hto]; rfl
                  have hzb : (g2.cur.regs q == 0) = false := by rw [beq_eq_false_iff_ne]; exact hz
                  clear hya hyb hxm hto ebt hz
                  go_upto_region 26 with fail
                  clear hyc hyd hl0 hl1 h0l h1l xq hzb
                  have HKT := Lib.hid hkt
                  have HPRD := Lib.hid hprd
                  have HEQ := Lib.hid heq
                  clear hkt hprd heq t0 t1 t2
                  have b0 := HKN.out wt vo3 HVW.out 0 _ HN3.out.1
                  have b1 := HKN.out wt vo3 HVW.out 1 _ HN3.out.2.1
                  have b2 := HKN.out wt vo3 HVW.out 2 _ HN3.out.2.2.1
                  have b3 := HKN.out wt vo3 HVW.out 3 _ HN3.out.2.2.2
                  have HAHC := Lib.hid (refAhead_any F (tt : Int) _ wt ⟨Ar, cr, some ⟨bb, ob, none⟩, cb, rfl, SL.imp RIntB.plain (SIntsB.go (HKO.out wt vo3 HVW.out) (fun _ h => h) HREG.out), SL.imp RBlkB.plain (SBlksB.go (HKO.out wt vo3 HVW.out) (fun _ h => h) HBLK.out), HFP.out.1, HFP.out.2⟩ (by have := HF.out.nb; omega))
                  have HND : Hid ((aheadL F.blocks tt).Nodup) := Lib.hid (aheadK_nodup _ _ _)
                  have HPHI := Lib.hid (HF.out.phis tt kt HKT.out)
                  generalize hahd : aheadL F.blocks tt = ah at *
                  go_wp2_with fail
                  refine HAHC.out.mono ?_
                  rintro e wu ⟨⟨ra, rfl, Aa, caa, rfl, has⟩, hbu⟩
                  have HAS := Lib.hid has
                  have HBU := Lib.hid hbu
                  have hahl := has.len
                  clear has hbu HAHC b0 b1 b2 b3
                  go_wp2_with fail
                  go_loopw [18, 19] (fun s18 s19 wq => ∃ i : Nat, i ≤ ah.length ∧ s18 = .int .i64 ((atI ah (g2.cur.blk : Int) i : Nat) : Int) ∧ s19 = .int .i64 (i : Int) ∧ Below wu.heap.size wu wq) (fun s18 s19 _ => ah.length - (intOf s19).toNat)
                  case atStart => exact ⟨0, Nat.zero_le _, by rw [atI_zero]; rfl, rfl, Below.refl _ _⟩
                  case round =>
                    obtain ⟨i, hia, rfl, rfl, hbq⟩ := hrel
                    have HBQ := Lib.hid hbq
                    by_cases hial : i < ah.length
                    · obtain ⟨by2, oy2, y, rfl, hy, hyc, -⟩ := (SInts.keep (kept_of_below hbq) HAS.out).int hial
                      have hi0 : (0 : Int) ≤ i := by omega
                      have hi1 : (i : Int) < ah.length := by omega
                      have HY := Lib.hid hy.out
                      by_cases hyx : y = (g2.cur.blk : Int)
                      · have hE : (y == (g.cur.blk : Int)) = true := by rw [beq_iff_eq, hyx, HBK2.out]
                        have HA2 : Hid (atI ah (g2.cur.blk : Int) (i + 1) = i) := Lib.hid (atI_yes HND.out (by rw [HY.out, hyx]))
                        clear hbq hy hyx
                        go_wp2_with fail
                        go_roundw
                        case rel => exact ⟨i + 1, by omega, by rw [HA2.out], by go_num, HBQ.out⟩
                        case measure => simp [intOf]; omega
                      · have hE : (y == (g.cur.blk : Int)) = false := by rw [beq_eq_false_iff_ne, ← HBK2.out]; exact hyx
                        have HA2 : Hid (atI ah (g2.cur.blk : Int) (i + 1) = atI ah (g2.cur.blk : Int) i) := Lib.hid (atI_no HY.out hyx)
                        clear hbq hy hyx
                        go_wp2_with fail
                        go_roundw
                        case rel => exact ⟨i + 1, by omega, by rw [HA2.out], by go_num, HBQ.out⟩
                        case measure => simp [intOf]; omega
                    · obtain rfl : i = ah.length := by omega
                      obtain ⟨wz, rfl⟩ : ∃ wz, wz = wr := ⟨wr, rfl⟩
                      have hix := atI_all HPRD.out (Nat.le_refl _)
                      obtain ⟨ix, hixd⟩ : ∃ ix, ix = ah.idxOf (g2.cur.blk : Int) := ⟨_, rfl⟩
                      rw [← hixd] at hix
                      rw [hix]
                      have HIX : Hid (ix < ah.length) := Lib.hid (by rw [hixd]; exact List.idxOf_lt_length_iff.2 HPRD.out)
                      have HIXD := Lib.hid hixd
                      have hbz : Below wt.heap.size wt wz := HBU.out.trans (hbq.mono HBU.out.size)
                      have HMZ := Lib.hid (HMT.out.below hbz)
                      have HRZ := Lib.hid (HRT.out.go (Mv.of_below NoX P vo3 hbz) HMT.out.pk (fun e => e))
                      have HVZ := Lib.hid (HVW.out.trans (Mv.of_below (fun b => b = R) P vo3 hbz))
                      obtain ⟨vw, ww, hrw, hown, hbw⟩ := rapp_row 25 HRZ.out.row hn256 F.regs.length
                      have HOW := Lib.hid hown
                      have HMW := Lib.hid (HMZ.out.below hbw)
                      have HRW2 := Lib.hid (HRZ.out.go (Mv.of_below NoX P vo3 hbw) HMZ.out.pk (fun e => e))
                      have HVV := Lib.hid (HVZ.out.trans (Mv.of_below (fun b => b = R) P vo3 hbw))
                      have HWZ : Hid (R < wz.heap.size ∧ P < wz.heap.size ∧ ∀ g, vo3.ownBlock = some g → g < wz.heap.size) := Lib.hid ⟨HRZ.out.row.lt, HMZ.out.lt, fun g hg => (HMZ.out.out.lt g hg).2⟩
                      have b3 := HKN.out ww vo3 HVV.out 3 _ HN3.out.2.2.2
                      have hblk2 := SBlksB.go (HKO.out ww vo3 HVV.out) (fun _ h => h) HBLK.out
                      obtain ⟨bb2, ob2, kt2, ebb, hkt2, hbbo, ⟨Ap2, cp2, q0, hph⟩, -⟩ := hblk2.at_ (List.getElem?_eq_some_iff.1 HKT.out).1
                      obtain ⟨rfl, rfl⟩ : bb = bb2 ∧ ob = ob2 := by cases ebb; exact ⟨rfl, rfl⟩
                      obtain rfl : kt = kt2 := Option.some.inj (HKT.out.symm.trans hkt2.out)
                      have HPH := Lib.hid hph
                      have htt0 : (0 : Int) ≤ tt := by omega
                      have htt1 : (tt : Int) < F.blocks.length := by have := (List.getElem?_eq_some_iff.1 HKT.out).1; omega
                      have hpl256 : kt.phis.length ≤ 256 := by have := HF.out.items kt (List.mem_of_getElem? HKT.out); omega
                      clear hbq hbz hown hbw hblk2 hkt2 hph hix hixd ebb hbbo
                      go_wp2_with (at_builtin; refine wpList_append_run _ rfl (.tmp 136) (.tmp 137) 25 25 rfl _ _ rfl rfl hrw ?_)
                      clear hrw b3 q0
                      go_loopw [22] (fun s22 wq => ∃ i : Nat, i ≤ kt.phis.length ∧ s22 = .int .i64 (i : Int) ∧ RfM K P m most wq (tickS g2) (.slice (some ⟨bf, of_, none⟩) m.length cf) vo3 ∧ FrR K P R F.regs.length wq vo3 (setAll g2.cur.regs ((kt.phis.map (phiP g2.cur.regs ix)).take i)) ∧ Mv (fun b => b = R) P ww wq vo3 vo3) (fun s22 _ => kt.phis.length - (intOf s22).toNat)
                      case atStart => exact ⟨0, Nat.zero_le _, rfl, HMW.out, by simpa [setAll] using HRW2.out, Mv.refl _ _ _ _⟩
                      case round =>
                        obtain ⟨i, hip, rfl, hMq, hRq, hvq⟩ := hrel
                        have HMQ := Lib.hid hMq
                        have HRQ := Lib.hid hRq
                        have HVQ := Lib.hid hvq
                        by_cases hipl : i < kt.phis.length
                        · have hko : KeptB (Old K P) ww wr := hvq.keptOld (fun k e => by have := hRq.ge; have e : k = R := e; omega) (fun g hg => (HMW.out.out.lt g hg).1)
                          obtain ⟨bp, op, p, rfl, hp, -, ⟨p0, p0'⟩, ⟨Apa, ca2, p1, hpa⟩⟩ := (SPhisB.go hko (fun _ h => h) HPH.out).at_ hipl
                          obtain ⟨hpl, hpd, hpi⟩ := HPHI.out p (List.mem_of_getElem? hp.out)
                          obtain ⟨d, hd⟩ : ∃ d : Nat, p.dst = d := ⟨p.dst.toNat, by have := hpd.1; omega⟩
                          have hdn1 : d < F.regs.length := by have := hpd.2; omega
                          have hixl : ix < p.args.length := by rw [hpl]; exact HIX.out
                          obtain ⟨ba, oa, a0, rfl, ha0, -, p2, -⟩ := hpa.at_ hixl
                          have hai := hpi a0 (List.mem_of_getElem? ha0.out)
                          obtain ⟨a, rfl⟩ : ∃ a : Nat, a0 = a := ⟨a0.toNat, by have := hai.1; omega⟩
                          have han : a < F.regs.length := by have := hai.2; omega
                          rw [Nat.mul_one] at p2
                          rw [hd] at p0
                          obtain ⟨gw, cw, rfl, hgc, hgk⟩ := own_cells HOW.out (by omega)
                          have p3 : wr.cell? ⟨gw, a, none⟩ = some (.int .i64 (g2.cur.regs a)) := (World.cell?_of_block (a := ⟨gw, a, none⟩) (hvq.block gw (HOW.out.lt gw rfl).2 (by have := HWZ.out.2.1; omega) (by have := HWZ.out.1; show ¬ gw = R; omega) (fun e => by have := HWZ.out.2.2 _ e; omega))).trans (hgc a _ (by simp [han]))
                          have xd := hRq.row.cell hdn1
                          have fd := hRq.row.frozen d
                          have hi0 : (0 : Int) ≤ i := by omega
                          have hi1 : (i : Int) < kt.phis.length := by omega
                          have hd0 : (0 : Int) ≤ d := by omega
                          have hd1 : (d : Int) < F.regs.length := by omega
                          have ha0' : (0 : Int) ≤ a := by omega
                          have ha1' : (a : Int) < F.regs.length := by omega
                          have hx0 : (0 : Int) ≤ ix := by omega
                          have hx1 : (ix : Int) < p.args.length := by omega
                          have HSA : Hid (setAll g2.cur.regs ((kt.phis.map (phiP g2.cur.regs ix)).take (i + 1)) = upd (setAll g2.cur.regs ((kt.phis.map (phiP g2.cur.regs ix)).take i)) d (g2.cur.regs a)) := Lib.hid (by
                            have h1 : (kt.phis.map (phiP g2.cur.regs ix))[i]? = some ((d : Int), g2.cur.regs a) := by
                              rw [List.getElem?_map, hp.out]
                              show some (p.dst, g2.cur.regs (p.args.getD ix 0).toNat) = _
                              rw [List.getD_eq_getElem?_getD, ha0.out, hd]; rfl
                            rw [setAll_next h1]; rfl)
                          have HRN : Hid (FrR K P R F.regs.length (wr.drew.setCell ⟨R, d, none⟩ (.int .i64 (g2.cur.regs a))) vo3 (setAll g2.cur.regs ((kt.phis.map (phiP g2.cur.regs ix)).take (i + 1)))) := Lib.hid (by
                            rw [HSA.out]
                            exact (hRq.go (Mv.of_below NoX P vo3 (Below.refl _ _).drew) hMq.pk (fun e => e)).set d (HRZ.out.r64 a))
                          have HMN : Hid (RfM K P m most (wr.drew.setCell ⟨R, d, none⟩ (.int .i64 (g2.cur.regs a))) (tickS g2) (.slice (some ⟨bf, of_, none⟩) m.length cf) vo3) := Lib.hid ((hMq.below (Below.refl _ _).drew).off hRq.ge hRq.ap d _)
                          have HVN : Hid (Mv (fun b => b = R) P ww (wr.drew.setCell ⟨R, d, none⟩ (.int .i64 (g2.cur.regs a))) vo3 vo3) := Lib.hid (hvq.trans ((Mv.of_below (fun b => b = R) P vo3 (Below.refl wr.heap.size wr).drew).trans (Mv.set (fun b => b = R) P vo3 wr.drew (p := ⟨R, d, none⟩) (.inr rfl) _)))
                          clear hMq hRq hvq hko hpa hp ha0 hpd hpi hai hgc hgk hd p0' hpl
                          go_upto_region 38 with fail
                          refine wp_region_last (L := 18) (S := fun w' => w'.cell? ⟨bp, op + i * 2, none⟩ = some (.int .i64 (d : Int)) ∧ w'.cell? ⟨bp, op + i * 2 + 1, none⟩ = some (.slice (some ⟨ba, oa, none⟩) p.args.length ca2) ∧ w'.cell? ⟨ba, oa + ix, none⟩ = some (.int .i64 (a : Int)) ∧ w'.cell? ⟨gw, a, none⟩ = some (.int .i64 (g2.cur.regs a))) (by kernel_rfl) (by rfl) (by kernel_rfl) (by kernel_rfl) ?_
                          change wpAnyH _ _ _ _ _ _ _ _ (World.drew _)
                          have hS0 : wr.drew.cell? ⟨bp, op + i * 2, none⟩ = some (.int .i64 (d : Int)) ∧ wr.drew.cell? ⟨bp, op + i * 2 + 1, none⟩ = some (.slice (some ⟨ba, oa, none⟩) p.args.length ca2) ∧ wr.drew.cell? ⟨ba, oa + ix, none⟩ = some (.int .i64 (a : Int)) ∧ wr.drew.cell? ⟨gw, a, none⟩ = some (.int .i64 (g2.cur.regs a)) := ⟨p0, p1, p2, p3⟩
                          clear p0 p1 p2 p3
                          refine takeH (i := 0) (some 151) (v := ?_) rfl (by kernel_rfl) (by kernel_rfl) (by kernel_rfl) (fun _ _ _ h => h) hS0 (fun o ho => ?_) ?_
                          rotate_left
                          · simp only [List.getElem?_toArray, List.getElem?_cons_zero, Option.some.injEq] at ho; subst ho; refine Or.inl ⟨by rfl, fun w' hSw => ?_⟩; (try dsimp only at hSw); go_simp; try with_reducible rfl
                          simp only [Act.put, List.setIfInBounds_toArray, List.set_cons_zero, List.set_cons_succ]
                          refine takeH (i := 1) (some 152) (v := ?_) rfl (by kernel_rfl) (by kernel_rfl) (by kernel_rfl) (fun _ _ _ h => h) hS0 (fun o ho => ?_) ?_
                          rotate_left
                          · simp only [List.getElem?_toArray, List.getElem?_cons_zero, List.getElem?_cons_succ, Option.some.injEq] at ho; subst ho; refine Or.inl ⟨by rfl, fun w' hSw => ?_⟩; (try dsimp only at hSw); go_simp; try with_reducible rfl
                          simp only [Act.put, List.setIfInBounds_toArray, List.set_cons_zero, List.set_cons_succ]
                          refine takeH (i := 2) (some 153) (v := ?_) rfl (by kernel_rfl) (by kernel_rfl) (by kernel_rfl) (fun _ _ _ h => h) hS0 (fun o ho => ?_) ?_
                          rotate_left
                          · simp only [List.getElem?_toArray, List.getElem?_cons_zero, List.getElem?_cons_succ, Option.some.injEq] at ho; subst ho; refine Or.inl ⟨by rfl, fun w' hSw => ?_⟩; (try dsimp only at hSw); go_simp; try with_reducible rfl
                          simp only [Act.put, List.setIfInBounds_toArray, List.set_cons_zero, List.set_cons_succ]
                          refine takeH (i := 3) (some 154) (v := ?_) rfl (by kernel_rfl) (by kernel_rfl) (by kernel_rfl) (fun _ _ _ h => h) hS0 (fun o ho => ?_) ?_
                          rotate_left
                          · simp only [List.getElem?_toArray, List.getElem?_cons_zero, List.getElem?_cons_succ, Option.some.injEq] at ho; subst ho; refine Or.inl ⟨by rfl, fun w' hSw => ?_⟩; (try dsimp only at hSw); go_simp; try with_reducible rfl
                          simp only [Act.put, List.setIfInBounds_toArray, List.set_cons_zero, List.set_cons_succ]
                          refine takeH (i := 4) (some 155) (v := ?_) rfl (by kernel_rfl) (by kernel_rfl) (by kernel_rfl) (fun _ _ _ h => h) hS0 (fun o ho => ?_) ?_
                          rotate_left
                          · simp only [List.getElem?_toArray, List.getElem?_cons_zero, List.getElem?_cons_succ, Option.some.injEq] at ho; subst ho; refine Or.inl ⟨by rfl, fun w' hSw => ?_⟩; (try dsimp only at hSw); go_simp; try with_reducible rfl
                          simp only [Act.put, List.setIfInBounds_toArray, List.set_cons_zero, List.set_cons_succ]
                          refine takeH (i := 5) (some 156) (v := ?_) rfl (by kernel_rfl) (by kernel_rfl) (by kernel_rfl) (fun _ _ _ h => h) hS0 (fun o ho => ?_) ?_
                          rotate_left
                          · simp only [List.getElem?_toArray, List.getElem?_cons_zero, List.getElem?_cons_succ, Option.some.injEq] at ho; subst ho; refine Or.inl ⟨by rfl, fun w' hSw => ?_⟩; (try dsimp only at hSw); go_simp; try with_reducible rfl
                          simp only [Act.put, List.setIfInBounds_toArray, List.set_cons_zero, List.set_cons_succ]
                          refine takeH (i := 6) (some 157) (v := ?_) rfl (by kernel_rfl) (by kernel_rfl) (by kernel_rfl) (fun _ _ _ h => h) hS0 (fun o ho => ?_) ?_
                          rotate_left
                          · simp only [List.getElem?_toArray, List.getElem?_cons_zero, List.getElem?_cons_succ, Option.some.injEq] at ho; subst ho; refine Or.inl ⟨by rfl, fun w' hSw => ?_⟩; (try dsimp only at hSw); go_simp; try with_reducible rfl
                          simp only [Act.put, List.setIfInBounds_toArray, List.set_cons_zero, List.set_cons_succ]
                          refine takeH (i := 7) (some 158) (v := ?_) rfl (by kernel_rfl) (by kernel_rfl) (by kernel_rfl) (fun _ _ _ h => h) hS0 (fun o ho => ?_) ?_
                          rotate_left
                          · simp only [List.getElem?_toArray, List.getElem?_cons_zero, List.getElem?_cons_succ, Option.some.injEq] at ho; subst ho; refine Or.inl ⟨by rfl, fun w' hSw => ?_⟩; (try dsimp only at hSw); go_simp; try with_reducible rfl
                          simp only [Act.put, List.setIfInBounds_toArray, List.set_cons_zero, List.set_cons_succ]
                          refine takeH (i := 8) (some 159) (v := ?_) rfl (by kernel_rfl) (by kernel_rfl) (by kernel_rfl) (fun _ _ _ h => h) hS0 (fun o ho => ?_) ?_
                          rotate_left
                          · simp only [List.getElem?_toArray, List.getElem?_cons_zero, List.getElem?_cons_succ, Option.some.injEq] at ho; subst ho; refine Or.inl ⟨by rfl, fun w' hSw => ?_⟩; (try dsimp only at hSw); go_simp; try with_reducible rfl
                          simp only [Act.put, List.setIfInBounds_toArray, List.set_cons_zero, List.set_cons_succ]
                          refine takeH (i := 9) (some 160) (v := ?_) rfl (by kernel_rfl) (by kernel_rfl) (by kernel_rfl) (fun _ _ _ h => h) hS0 (fun o ho => ?_) ?_
                          rotate_left
                          · simp only [List.getElem?_toArray, List.getElem?_cons_zero, List.getElem?_cons_succ, Option.some.injEq] at ho; subst ho; refine Or.inl ⟨by rfl, fun w' hSw => ?_⟩; (try dsimp only at hSw); go_simp; try with_reducible rfl
                          simp only [Act.put, List.setIfInBounds_toArray, List.set_cons_zero, List.set_cons_succ]
                          refine takeH (i := 10) (some 161) (v := ?_) rfl (by kernel_rfl) (by kernel_rfl) (by kernel_rfl) (fun _ _ _ h => h) hS0 (fun o ho => ?_) ?_
                          rotate_left
                          · simp only [List.getElem?_toArray, List.getElem?_cons_zero, List.getElem?_cons_succ, Option.some.injEq] at ho; subst ho; refine Or.inl ⟨by rfl, fun w' hSw => ?_⟩; (try dsimp only at hSw); go_simp; try with_reducible rfl
                          simp only [Act.put, List.setIfInBounds_toArray, List.set_cons_zero, List.set_cons_succ]
                          refine takeH (i := 11) (some 162) (v := ?_) rfl (by kernel_rfl) (by kernel_rfl) (by kernel_rfl) (fun _ _ _ h => h) hS0 (fun o ho => ?_) ?_
                          rotate_left
                          · simp only [List.getElem?_toArray, List.getElem?_cons_zero, List.getElem?_cons_succ, Option.some.injEq] at ho; subst ho; refine Or.inl ⟨by rfl, fun w' hSw => ?_⟩; (try dsimp only at hSw); go_simp; try with_reducible rfl
                          simp only [Act.put, List.setIfInBounds_toArray, List.set_cons_zero, List.set_cons_succ]
                          refine takeH (i := 12) (some 163) (v := ?_) rfl (by kernel_rfl) (by kernel_rfl) (by kernel_rfl) (fun _ _ _ h => h) hS0 (fun o ho => ?_) ?_
                          rotate_left
                          · simp only [List.getElem?_toArray, List.getElem?_cons_zero, List.getElem?_cons_succ, Option.some.injEq] at ho; subst ho; refine Or.inl ⟨by rfl, fun w' hSw => ?_⟩; (try dsimp only at hSw); go_simp; try with_reducible rfl
                          simp only [Act.put, List.setIfInBounds_toArray, List.set_cons_zero, List.set_cons_succ]
                          refine takeH (i := 13) (some 164) (v := ?_) rfl (by kernel_rfl) (by kernel_rfl) (by kernel_rfl) (fun _ _ _ h => h) hS0 (fun o ho => ?_) ?_
                          rotate_left
                          · simp only [List.getElem?_toArray, List.getElem?_cons_zero, List.getElem?_cons_succ, Option.some.injEq] at ho; subst ho; refine Or.inl ⟨by rfl, fun w' hSw => ?_⟩; (try dsimp only at hSw); go_simp; try with_reducible rfl
                          simp only [Act.put, List.setIfInBounds_toArray, List.set_cons_zero, List.set_cons_succ]
                          refine takeH (i := 14) (some 165) (v := ?_) rfl (by kernel_rfl) (by kernel_rfl) (by kernel_rfl) (fun _ _ _ h => h) hS0 (fun o ho => ?_) ?_
                          rotate_left
                          · simp only [List.getElem?_toArray, List.getElem?_cons_zero, List.getElem?_cons_succ, Option.some.injEq] at ho; subst ho; refine Or.inl ⟨by rfl, fun w' hSw => ?_⟩; (try dsimp only at hSw); go_simp; try with_reducible rfl
                          simp only [Act.put, List.setIfInBounds_toArray, List.set_cons_zero, List.set_cons_succ]
                          refine takeH (i := 15) (some 166) (v := ?_) rfl (by kernel_rfl) (by kernel_rfl) (by kernel_rfl) (fun _ _ _ h => h) hS0 (fun o ho => ?_) ?_
                          rotate_left
                          · simp only [List.getElem?_toArray, List.getElem?_cons_zero, List.getElem?_cons_succ, Option.some.injEq] at ho; subst ho; refine Or.inl ⟨by rfl, fun w' hSw => ?_⟩; (try dsimp only at hSw); go_simp; try with_reducible rfl
                          simp only [Act.put, List.setIfInBounds_toArray, List.set_cons_zero, List.set_cons_succ]
                          refine takeH (i := 16) (some 167) (v := ?_) rfl (by kernel_rfl) (by kernel_rfl) (by kernel_rfl) (fun _ _ _ h => h) hS0 (fun o ho => ?_) ?_
                          rotate_left
                          · simp only [List.getElem?_toArray, List.getElem?_cons_zero, List.getElem?_cons_succ, Option.some.injEq] at ho; subst ho; refine Or.inl ⟨by rfl, fun w' hSw => ?_⟩; (try dsimp only at hSw); go_simp; try with_reducible rfl
                          simp only [Act.put, List.setIfInBounds_toArray, List.set_cons_zero, List.set_cons_succ]
                          refine takeH (i := 17) (some 168) (v := ?_) rfl (by kernel_rfl) (by kernel_rfl) (by kernel_rfl) (fun _ _ _ h => h) hS0 (fun o ho => ?_) ?_
                          rotate_left
                          · simp only [List.getElem?_toArray, List.getElem?_cons_zero, List.getElem?_cons_succ, Option.some.injEq] at ho; subst ho; refine Or.inl ⟨by rfl, fun w' hSw => ?_⟩; (try dsimp only at hSw); go_simp; try with_reducible rfl
                          simp only [Act.put, List.setIfInBounds_toArray, List.set_cons_zero, List.set_cons_succ]
                          refine wpAnyH_done (by kernel_rfl) ?_ _
                          refine lastH (by decide) (fun o ho K' hK => ?_)
                          simp only [List.getElem?_toArray, List.getElem?_cons_zero, List.getElem?_cons_succ, Option.some.injEq] at ho; subst ho
                          go_simp
                          refine hK.out _ _ ?_
                          clear hK K' hS0 xd fd
                          go_wp2_with fail
                          go_roundw
                          case rel => exact ⟨i + 1, by omega, by go_num, HMN.out, HRN.out, HVN.out⟩
                          case measure => simp [intOf]; omega
                        · obtain rfl : i = kt.phis.length := by omega
                          have HCUR2 : Hid (stepS m (tickS g2) = { tickS g2 with cur := ⟨g2.cur.fn, tt, 0, setAll g2.cur.regs (kt.phis.map (phiP g2.cur.regs ix))⟩ }) := Lib.hid (by
                            rw [HST.out, HEQ.out, goTo_at HKT.out, hahd, ← HIXD.out] <;> rfl)
                          have HRF : Hid (FrR K P R F.regs.length wr vo3 (setAll g2.cur.regs (kt.phis.map (phiP g2.cur.regs ix)))) := Lib.hid (by rw [List.take_of_length_le (by simp)] at hRq; exact hRq)
                          have HCF := Lib.hid (show CInv K P R F.regs.length most m f s (.slice (some ⟨bf, of_, none⟩) m.length cf) vo w3 wr { tickS g2 with cur := ⟨g2.cur.fn, tt, 0, setAll g2.cur.regs (kt.phis.map (phiP g2.cur.regs ix))⟩ } vo3 from
                            ⟨by
                              obtain ⟨j0, h1, h2⟩ := HI2.out.run
                              exact ⟨j0 + 1, by rw [loop_next h1 HI2.out.dn, HCUR2.out], by show g2.steps + 1 = _; omega⟩,
                             HI2.out.dn, HI2.out.st, hst, HI2.out.fn, by show g2.out.length ≤ g2.steps + 1; have := HI2.out.ol; omega, HMQ.out.ghost ⟨rfl, rfl, rfl, rfl, rfl, rfl⟩, HRF.out, HVV.out.trans HVQ.out⟩)
                          clear hMq hRq hvq
                          go_wp2_with fail
                          go_roundg (most - (g2.steps + 1) + 1)
                          case measure => have := HGE.out; omega
                          case rel => exact ⟨_, vo3, rfl, rfl, (List.getElem?_eq_some_iff.1 HKT.out).1, rfl, HCF.out⟩
              · -- the end of the function
                rcases harg with hm1 | hri
                · have hlt : kb.term.arg < 0 := by omega
                  have HG : Hid (∃ j, loopS m (j + 1) s = giveS m (tickS g2) 0 ∧ (tickS g2).steps = s.steps + (j + 1)) := Lib.hid (by
                    obtain ⟨j0, h1, h2⟩ := HI2.out.run
                    refine ⟨j0, ?_, by show g2.steps + 1 = _; omega⟩
                    rw [loop_next h1 HI2.out.dn, HST.out]
                    unfold endS
                    rw [if_pos hkd, if_neg (by omega)] <;> rfl)
                  rw [hkd] at t0
                  rw [hm1] at t1
                  clear hm1 hlt
                  go_wp2_with fail
                  go_ret2
                  obtain ⟨j, hj1, hj2⟩ := HG.out
                  exact .inl ⟨vo3, _, j, tickS g2, rfl, hj1, HI2.out.dn, HI2.out.st, hj2, hst, (by unfold I64; decide), HMT.out, Mv.newX HB3.out HVW.out HNX.out.2.2.2.2⟩
                · obtain ⟨q, hq⟩ : ∃ q : Nat, kb.term.arg = q := ⟨kb.term.arg.toNat, by have := hri.1; omega⟩
                  have hqn : q < F.regs.length := by have := hri.2; omega
                  have xq := HRT.out.row.cell hqn
                  have hq0 : (0 : Int) ≤ q := by omega
                  have hq1 : (q : Int) < F.regs.length := by omega
                  have hqg : ¬ ((q : Int) < 0) := by omega
                  have hqb : decide ((q : Int) < 0) = false := decide_eq_false hqg
                  have HG : Hid (∃ j, loopS m (j + 1) s = giveS m (tickS g2) (g2.cur.regs q) ∧ (tickS g2).steps = s.steps + (j + 1)) := Lib.hid (by
                    obtain ⟨j0, h1, h2⟩ := HI2.out.run
                    refine ⟨j0, ?_, by show g2.steps + 1 = _; omega⟩
                    rw [loop_next h1 HI2.out.dn, HST.out]
                    unfold endS
                    rw [if_pos hkd, hq, if_pos (by omega)] <;> rfl)
                  rw [hkd] at t0
                  rw [hq] at t1
                  clear hq hri
                  go_wp2_with fail
                  go_ret2
                  obtain ⟨j, hj1, hj2⟩ := HG.out
                  exact .inl ⟨vo3, _, j, tickS g2, rfl, hj1, HI2.out.dn, HI2.out.st, hj2, hst, (HRT.out.r64 q), HMT.out, Mv.newX HB3.out HVW.out HNX.out.2.2.2.2⟩
            · have HSN := Lib.hid (rstep_no K P m most wr g2 _ vo3 hinv2.mem (by omega))
              have HSTP := Lib.hid (hinv2.stop (by omega))
              clear hk hinv2 hmv2 hat2 hblk2 hge2
              go_wp2_with fail
              refine HSN.out.mono ?_
              rintro e wc ⟨rfl, hMc, hvc⟩
              have HMD : Hid (RfM K P m most wc (loopS m (most - s.steps) s) (.slice (some ⟨bf, of_, none⟩) m.length cf) vo3) := Lib.hid (by rw [← HSTP.out]; exact hMc)
              have HVD := Lib.hid (HI2.out.mv.trans (hvc.mono (Y := fun b => b = R) fun _ _ h => h.elim))
              clear hMc hvc y1 y2 y3 y4
              go_wp2_with fail
              go_ret2
              exact .inr ⟨vo3, rfl, HMD.out, Mv.newX HB3.out HVD.out HNX.out.2.2.2.2⟩
end Go.Proofs.YtooblmiffgjmjaaGreatDoor
