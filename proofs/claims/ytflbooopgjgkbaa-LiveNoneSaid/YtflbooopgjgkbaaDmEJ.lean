/- The program's Nearest. -/
import Derived.Test.YtflbooopgjgkbaaDmNJ
import Derived.Test.YtflbooopgjgkbaaDmRaJ
import Derived.Test.YtflbooopgjgkbaaGrEJ
namespace Go.Proofs.Ytflbooopgjgkbaa
open Go.ChangeShapes Go.WideShapes Go.RowKit Go.Deep
set_option linter.unusedVariables false

set_option maxRecDepth 100000 in
set_option maxHeartbeats 4000000 in
theorem travel_nil (G : Nat) (w : World) : Calls Try.prog 67 #[.slice (some ⟨G, 0, none⟩) 0 0] w fun e w' => e = .returned (.agg #[.slice none 0 0, .slice none 0 0, .slice none 0 0]) ∧ Below w.heap.size w w' := by
  go_enter Try.func67, Try.ntmps67
  go_upto_region 2 with fail
  obtain ⟨M, hM⟩ : ∃ M, M = w.heap.size := ⟨_, rfl⟩
  obtain ⟨W, hW⟩ : ∃ W, W = (w.alloc (.cells #[.slice none 0 0, .slice none 0 0, .slice none 0 0] 128)).alloc (.cells #[.slice none 0 0, .slice none 0 0, .slice none 0 0] 128) := ⟨_, rfl⟩
  rw [← hW]
  obtain ⟨b0, b1, hbel⟩ : W.heap[M]? = some (.cells #[.slice none 0 0, .slice none 0 0, .slice none 0 0] 128) ∧ W.heap[M + 1]? = some (.cells #[.slice none 0 0, .slice none 0 0, .slice none 0 0] 128) ∧ Below M w W := by
    subst hM hW
    have h1 := heap_alloc_new w (.cells #[.slice none 0 0, .slice none 0 0, .slice none 0 0] 128)
    have h2 := heap_alloc_new (w.alloc (.cells #[.slice none 0 0, .slice none 0 0, .slice none 0 0] 128)) (.cells #[.slice none 0 0, .slice none 0 0, .slice none 0 0] 128)
    refine ⟨(Below.heap_alloc _ _ _ (by simp)).trans h1, by simpa using h2, ((Below.refl _ w).alloc (Nat.le_refl _) _).alloc (by simp) _⟩
  have d0 : W.cell? ⟨M + 1, 0, none⟩ = some (.slice none 0 0) := cell_of_block b1 0
  have d1 : W.cell? ⟨M + 1, 1, none⟩ = some (.slice none 0 0) := cell_of_block b1 1
  have d2 : W.cell? ⟨M + 1, 2, none⟩ = some (.slice none 0 0) := cell_of_block b1 2
  have m0 := cell_of_block b0 0
  have m1 := cell_of_block b0 1
  have m2 := cell_of_block b0 2
  have hf0 : W.frozen? ⟨M, 0, none⟩ = false := by unfold World.frozen?; simp [b0]
  have hf1 : W.frozen? ⟨M, 1, none⟩ = false := by unfold World.frozen?; simp [b0]
  have hf2 : W.frozen? ⟨M, 2, none⟩ = false := by unfold World.frozen?; simp [b0]
  have hfin : (((W.setCell ⟨M, 0, none⟩ (.slice none 0 0)).setCell ⟨M, 1, none⟩ (.slice none 0 0)).setCell ⟨M, 2, none⟩ (.slice none 0 0)).heap[M]? = some (.cells #[.slice none 0 0, .slice none 0 0, .slice none 0 0] 128) := set_of_block _ (set_of_block _ (set_of_block _ b0))
  have HFIN := Lib.hid hfin
  have HBF := Lib.hid (((hbel.setCell (p := ⟨M, 0, none⟩) (Nat.le_refl _) (.slice none 0 0)).setCell (p := ⟨M, 1, none⟩) (Nat.le_refl _) (.slice none 0 0)).setCell (p := ⟨M, 2, none⟩) (Nat.le_refl _) (.slice none 0 0))
  have HM := Lib.hid hM
  rw [← hM]
  clear hW b0 b1 hbel hfin hM
  go_wp2_with fail
  refine bodyPost_ret (results_cell_row rfl _ _ M 128 #[.slice none 0 0, .slice none 0 0, .slice none 0 0] (0, 0) _ (by rfl) HFIN.out Try.underlying128 (by rfl) (by kernel_rfl)) rfl ?_
  exact ⟨rfl, by rw [← HM.out]; exact HBF.out⟩

set_option maxRecDepth 100000 in
set_option maxHeartbeats 4000000 in
theorem tnear_nil (w : World) : Calls Try.prog 68 #[.agg #[.slice none 0 0, .slice none 0 0, .slice none 0 0]] w fun e w' => (∃ H, e = .returned (.slice (some ⟨H, 0, none⟩) 0 0)) ∧ Below w.heap.size w w' := by
  go_enter Try.func68, Try.ntmps68
  go_upto_region 1 with fail
  obtain ⟨w1, hw1, hs1, hk1, hbel1, hc1, -⟩ := named w #[.slice none 0 0, .slice none 0 0, .slice none 0 0] 128
  rw [← hw1]
  have c0 : w1.cell? ⟨w.heap.size, 0, none⟩ = some (.slice none 0 0) := hc1 0 _ rfl
  have HNG := Lib.hid (newGrove_any 0 w1 (by omega))
  have HB1 := Lib.hid hbel1
  have HS1 := Lib.hid hs1
  clear hw1 hs1 hk1 hbel1 hc1
  go_wp2_with fail
  refine HNG.out.mono ?_
  rintro e w2 ⟨⟨He, Ha, Hl, rfl, h1, h2, h3, hgv⟩, hb2⟩
  have hmk : ∀ w : World, (Instr.makeSlice 22 (.int .i64 0) (.int .i64 0)).run Try.prog w = .ok (.slice (some ⟨w.heap.size, 0, none⟩) 0 0) (w.alloc (.cells (madeCells #[.int .i64 0] 0) 3)) := run_make_row' (P := Try.prog) 22 3 (.int .i64 0) 8 Try.underlying22 Try.info3 rfl .i64 .i64 0 (by omega) (by omega)
  have hmk2 : ∀ w : World, (Instr.makeSlice 68 (.int .i64 0) (.int .i64 0)).run Try.prog w = .ok (.slice (some ⟨w.heap.size, 0, none⟩) 0 0) (w.alloc (.cells (madeCells #[.slice none 0 0] 0) 22)) := run_make_row' (P := Try.prog) 68 22 (.slice none 0 0) 24 Try.underlying68 Try.info22 rfl .i64 .i64 0 (by omega) (by omega)
  have hc0 : w2.cell? ⟨w.heap.size, 0, none⟩ = some (.slice none 0 0) := (hb2.cell (p := ⟨w.heap.size, 0, none⟩) (by have := HS1.out; show w.heap.size < _; omega)).trans c0
  have hN2 : w.heap.size < w2.heap.size := by have := hb2.size; have := HS1.out; omega
  have HB2 : Hid (Below w.heap.size w w2) := Lib.hid (HB1.out.trans (hb2.mono (by have := HS1.out; omega)))
  have HW := Lib.hid hN2
  clear c0 HNG h1 h2 h3 hgv hb2
  go_upto_region 4 with fail
  obtain ⟨w5, hw5⟩ : ∃ w5, w5 = ((w2.alloc (.cells #[.slice (some ⟨He, 0, none⟩) 0 0, .slice (some ⟨Ha, 0, none⟩) 0 0, .slice (some ⟨Hl, 0, none⟩) 0 0] 147)).alloc (.cells (madeCells #[.int .i64 0] 0) 3)).alloc (.cells (madeCells #[.slice none 0 0] 0) 22) := ⟨_, rfl⟩
  obtain ⟨-, -, -, -, hbel⟩ := boxes3t w2 w2.heap.size rfl _ _ _ w5 hw5
  have HB5 : Hid (Below w.heap.size w w5) := Lib.hid (HB2.out.trans (hbel.mono (by have := HW.out; omega)))
  have hc5 : w5.cell? ⟨w.heap.size, 0, none⟩ = some (.slice none 0 0) := (hbel.cell (p := ⟨w.heap.size, 0, none⟩) HW.out).trans hc0
  rw [← hw5]
  clear hmk hmk2 hw5 hbel hc0
  go_wp2_with fail
  go_loopw [6] (fun s6 wq => s6 = .int .i64 (-1) ∧ Below w.heap.size w wq) (fun _ _ => 0)
  case atStart => exact ⟨rfl, HB5.out⟩
  case round =>
    obtain ⟨rfl, hb⟩ := hrel
    have HR := Lib.hid hb
    clear hb
    have h1 : ¬ ((-1 : Int) > 0) := by decide
    go_wp2_with fail
    go_loopw [124] (fun s124 wq => s124 = .int .i64 0 ∧ Below w.heap.size w wq) (fun _ _ => 0)
    case atStart => exact ⟨rfl, HR.out⟩
    case round =>
      obtain ⟨rfl, hb⟩ := hrel
      have HR2 := Lib.hid hb
      clear hb
      go_wp2_with fail
      go_ret
      exact ⟨⟨_, rfl⟩, HR2.out⟩

/-- What Nearest tells. -/
def ToldNe (bs : List BlkD) (w : World) (e : Ending) (w' : World) : Prop :=
  (∃ H, e = .returned (.slice (some ⟨H, 0, none⟩) bs.length bs.length) ∧ w.heap.size ≤ H ∧ w'.rowIs H 3 bs.length (fun b => .int .i64 (nearD bs b)) ∧ ∃ ord, NearB bs (nearD bs) ord) ∧ Below w.heap.size w w'
def NJ (bl D : Nat → Nat) (pl : Nat → Int) (j b : Nat) : Int := if 0 ≤ pl b ∧ pl b < (j : Int) then nearI bl D pl b else -1
theorem NJ_zero (bl D : Nat → Nat) (pl : Nat → Int) (b : Nat) : NJ bl D pl 0 b = -1 := by unfold NJ; rw [if_neg (by omega)]
theorem NJ_step {nx : Nat → List Nat} {n k : Nat} {bl par D : Nat → Nat} {ah : Nat → List Nat} {pl : Nat → Int} (T : TvE nx n k bl par ah pl) {j b : Nat} (hj : j < k) (hb : b < n) : NJ bl D pl (j + 1) b = if j = 0 then -1 else if b = bl j then (bl (D j) : Int) else NJ bl D pl j b := by
  by_cases hj0 : j = 0
  · subst hj0
    rw [if_pos rfl]
    unfold NJ nearI
    by_cases h : 0 ≤ pl b ∧ pl b < ((0 + 1 : Nat) : Int)
    · rw [if_pos h, if_pos (by have := h.2; omega)]
    · rw [if_neg h]
  · rw [if_neg hj0]
    by_cases e : b = bl j
    · subst e
      have h1 := (T.blk j hj).2
      rw [if_pos rfl]
      unfold NJ nearI
      rw [if_pos (by omega), if_neg (by omega), h1]; rfl
    · rw [if_neg e]
      have hne : pl b ≠ (j : Int) := fun h => by
        rcases T.plc b hb with h1 | ⟨p, h1, h2, h3⟩
        · omega
        · obtain rfl : p = j := by omega
          exact e h3.symm
      unfold NJ
      by_cases h : 0 ≤ pl b ∧ pl b < (j : Int)
      · rw [if_pos (by omega), if_pos h]
      · rw [if_neg (by omega), if_neg h]
theorem NJ_all {nx : Nat → List Nat} {n k : Nat} {bl par D : Nat → Nat} {ah : Nat → List Nat} {pl : Nat → Int} (T : TvE nx n k bl par ah pl) {b : Nat} (hb : b < n) : NJ bl D pl k b = nearI bl D pl b := by
  unfold NJ nearI
  rcases T.plc b hb with h | ⟨p, h1, h2, h3⟩
  · rw [if_neg (by omega), if_pos (by omega)]
  · rw [if_pos (by omega)]

set_option maxRecDepth 100000 in
set_option maxHeartbeats 8000000 in
theorem nearest_some (f : FunD) (v : Value) (w : World) (hv : VFun w v f) (hn : f.blocks.length ≤ 1000) (h0 : 0 < f.blocks.length) : Calls Try.prog 48 #[v] w (ToldNe f.blocks w) := by
  have hv0 := hv
  obtain ⟨Ar, cr, A, c, rfl, -, -, -, -⟩ := hv
  go_enter Try.func48, Try.ntmps48
  go_upto_region 1 with fail
  obtain ⟨w1, hw1, hs1, hk1, hbel1, hc1, -⟩ := named w #[.int .i64 f.params, .int .i64 f.result, .slice Ar f.regs.length cr, .slice A f.blocks.length c] 25
  rw [← hw1]
  have c0 := hc1 0 _ rfl
  have c1 := hc1 1 _ rfl
  have c2 := hc1 2 _ rfl
  have c3 := hc1 3 _ rfl
  have HC3 := Lib.hid c3
  have HB1 := Lib.hid hbel1
  have HS1 := Lib.hid hs1
  have HN := Lib.hid (next_any f _ w1 (VFun.keep hk1 hv0) (by omega))
  clear hw1 hs1 hbel1 hc1 hv0 hk1
  go_wp2_with fail
  refine HN.out.mono ?_
  rintro e w2 ⟨⟨V, G, rfl, hG, hg⟩, hb2⟩
  have HB2 : Hid (Below w1.heap.size w1 w2) := Lib.hid hb2
  have HTV := Lib.hid (travel_any (nxF f.blocks) f.blocks.length G w2 (hg.reads (by omega) (fun i hi x hx => by obtain ⟨q, hq, rfl⟩ := zs_mem hx; have := nxF_lt f.blocks i q hq; unfold I64; omega)) h0 hn (nxF_lt f.blocks) (fun x => by unfold nxF; split; exact nextN_few _ _; simp))
  clear c0 c1 c2 c3 hG hg hb2 HN
  go_wp2_with fail
  refine HTV.out.mono ?_
  rintro e w3 ⟨⟨k, bl, par, ah, pl, vb, vf, va, V0, rfl, hTE, hTR⟩, hb3⟩
  have HTE := Lib.hid hTE
  have hkn := hTE.kn
  obtain ⟨A1, k1, rfl⟩ := own_slice hTR.rb
  obtain ⟨A2, k2, rfl⟩ := own_slice hTR.rf
  obtain ⟨A3, k3, rfl⟩ := own_slice hTR.ra
  have HTR := Lib.hid hTR
  have HB3 : Hid (Below w1.heap.size w1 w3) := Lib.hid (HB2.out.trans (hb3.mono HB2.out.size))
  have hmk := run_make_row' (P := Try.prog) 22 3 (.int .i64 0) 8 Try.underlying22 Try.info3 rfl .i64 .i64 f.blocks.length (by omega) (by omega)
  have c3 : w3.cell? ⟨w.heap.size, 3, none⟩ = some (.slice A f.blocks.length c) := (HB3.out.cell (p := ⟨w.heap.size, 3, none⟩) (by have := HS1.out; show w.heap.size < _; omega)).trans HC3.out
  have hN3 : w.heap.size < w3.heap.size := by have := HB3.out.size; have := HS1.out; omega
  clear hTE hTR hb3 HTV
  go_upto_region 3 with fail
  clear hmk
  obtain ⟨T, hT⟩ : ∃ T, T = w3.heap.size := ⟨_, rfl⟩
  obtain ⟨w5, hw5⟩ : ∃ w5, w5 = (w3.alloc (.cells #[.slice A1 k k1, .slice A2 k k2, .slice A3 k k3] 128)).alloc (.cells (madeCells #[.int .i64 0] f.blocks.length) 3) := ⟨_, rfl⟩
  obtain ⟨b0, b1, hbel⟩ : w5.heap[T]? = some (.cells #[.slice A1 k k1, .slice A2 k k2, .slice A3 k k3] 128) ∧ w5.heap[T + 1]? = some (.cells (madeCells #[.int .i64 0] f.blocks.length) 3) ∧ Below T w3 w5 := by
    subst hw5 hT
    have h1 := heap_alloc_new w3 (.cells #[.slice A1 k k1, .slice A2 k k2, .slice A3 k k3] 128)
    have h2 := heap_alloc_new (w3.alloc (.cells #[.slice A1 k k1, .slice A2 k k2, .slice A3 k k3] 128)) (.cells (madeCells #[.int .i64 0] f.blocks.length) 3)
    exact ⟨(Below.heap_alloc _ _ _ (by simp)).trans h1, by simpa using h2, ((Below.refl _ w3).alloc (Nat.le_refl _) _).alloc (by simp) _⟩
  have HTB := Lib.hid b0
  have hrow := row_made b1
  have HB5 : Hid (Below w1.heap.size w1 w5) := Lib.hid (HB3.out.trans (hbel.mono (by have := HB3.out.size; omega)))
  have HT5 : Hid (w1.heap.size ≤ T ∧ T + 1 < w5.heap.size) := Lib.hid ⟨by have := HB3.out.size; omega, (Array.getElem?_eq_some_iff.1 b1).1⟩
  have HTR5 : Hid (∀ (w' : World), Below T w5 w' → TvR w' w2.heap.size k (.slice A1 k k1) (.slice A2 k k2) (.slice A3 k k3) V0 bl par ah) := Lib.hid (fun w' hb => by
    have hbb : Below w3.heap.size w3 w' := by rw [← hT]; exact hbel.trans hb
    have ho : ∀ {sz n : Nat} {e : TypeId} {u : Value} {xs : List Value}, w3.ownsRow w2.heap.size e sz u n xs → w'.ownsRow w2.heap.size e sz u n xs := fun h => ownsRow_block h fun g hg => hbb.block g (h.lt g hg).2
    exact ⟨ho HTR.out.rb, ho HTR.out.rf, ho HTR.out.ra, fun v hv => ho (HTR.out.rV v hv)⟩)
  rw [← hw5, ← hT]
  clear hw5 hT hbel b0 b1 c3 hN3
  go_wp2_with fail
  go_loopw [17] (fun s17 wq => ∃ j : Nat, j ≤ f.blocks.length ∧ s17 = .int .i64 (j : Int) ∧ wq.rowIs (T + 1) 3 f.blocks.length (fun b => .int .i64 (if b < j then -1 else 0)) ∧ FrX (fun b => b = T + 1) w5 wq) (fun s17 _ => f.blocks.length - (intOf s17).toNat)
  case atStart => exact ⟨0, Nat.zero_le _, rfl, hrow.congr fun _ _ => rfl, FrX.refl _ _⟩
  case round =>
    obtain ⟨j, hj, rfl, hr, hfr⟩ := hrel
    have HFR := Lib.hid hfr
    by_cases hjn : j < f.blocks.length
    · have e1 : wr.cell? ⟨T + 1, j, none⟩ = some (.int .i64 0) := by have := hr.cell hjn; simpa using this
      have f1 := hr.frozen j
      have hj0 : (0 : Int) ≤ j := by omega
      have hj1 : (j : Int) < f.blocks.length := by omega
      have HR := Lib.hid ((hr.set j (.int .i64 (-1))).congr (g := fun b => .int .i64 (if b < j + 1 then -1 else 0)) fun v _ => by
        by_cases e : v = j
        · simp [e]
        · simp only [if_neg e]; by_cases e2 : v < j
          · rw [if_pos e2, if_pos (by omega)]
          · rw [if_neg e2, if_neg (by omega)])
      clear hr hfr hrow
      go_wp2_with fail
      go_roundw
      case rel => exact ⟨j + 1, by omega, by go_num, HR.out, HFR.out.setCell (.inl rfl) _⟩
      case measure => simp [intOf]; omega
    · have hjj : j = f.blocks.length := by omega
      subst hjj
      have HPR := Lib.hid (hr.congr (g := fun b => .int .i64 (NJ bl (fun v => v) pl 0 b)) fun v hv => by rw [NJ_zero, if_pos hv])
      have hbx := HFR.out.box HTB.out (by omega)
      have t0 : wr.cell? ⟨T, 0, none⟩ = some (.slice A1 k k1) := cell_of_block hbx 0
      have t1 : wr.cell? ⟨T, 1, none⟩ = some (.slice A2 k k2) := cell_of_block hbx 1
      have t2 : wr.cell? ⟨T, 2, none⟩ = some (.slice A3 k k3) := cell_of_block hbx 2
      have hbT : Below T w5 wr := HFR.out.below (by have := HT5.out; omega) (fun b hb => by omega)
      have HTN := Lib.hid (tnear_any (nxF f.blocks) f.blocks.length k bl par ah pl _ _ _ V0 w2.heap.size wr HTE.out (HTR5.out wr hbT) hn)
      have HBX := Lib.hid hbx
      clear hr hfr hrow hbx hbT
      go_wp2_with fail
      refine HTN.out.mono ?_
      rintro e w6 ⟨⟨Hn, s, near, rfl, hHn, hS, hNP, hnr⟩, hb6⟩
      have hNB := HTE.out.near h0 hS hNP
      have HNE : Hid (∃ ord, NearB f.blocks (nearD f.blocks) ord) := Lib.hid ⟨_, ⟨fun b hb h => by rw [← hNB.is_near hb]; exact hNB.none b hb h, fun b hb h1 h2 => by rw [← hNB.is_near hb]; exact hNB.some b hb h1 h2, hNB.ord, hNB.self, hNB.trans, hNB.first, hNB.reach⟩⟩
      have HIS : Hid (∀ b, b < f.blocks.length → NJ bl near pl k b = nearD f.blocks b) := Lib.hid (fun b hb => (NJ_all HTE.out hb).trans (hNB.is_near hb))
      have hT1 : T + 1 < wr.heap.size := HPR.out.lt
      have HP6 := Lib.hid ((HPR.out.of_block (hb6.block (T + 1) hT1)).congr (g := fun b => .int .i64 (NJ bl near pl 0 b)) fun v _ => by rw [NJ_zero, NJ_zero])
      have HX6 : Hid (w6.heap[T]? = some (.cells #[.slice A1 k k1, .slice A2 k k2, .slice A3 k k3] 128)) := Lib.hid ((hb6.block T (by omega)).trans HBX.out)
      have HF6 : Hid (FrX (fun b => b = T + 1) w5 w6) := Lib.hid (HFR.out.trans (FrX.of_below hb6))
      have HNR := Lib.hid hnr
      have HHN : Hid (T + 1 < Hn) := Lib.hid (by omega)
      have HSN : Hid (∀ v, 0 < v → v < k → near v < k) := Lib.hid (fun v h1 h2 => by have := near_le HTE.out.tree hS hNP v h1 h2; have := hS.lt HTE.out.tree h1 h2; omega)
      clear hS hNP hnr hb6 hHn hNB t0 t1 t2 HTN hT1
      go_wp2_with fail
      go_loopw [27] (fun s27 wq => ∃ j : Nat, j ≤ k ∧ s27 = .int .i64 (j : Int) ∧ wq.rowIs (T + 1) 3 f.blocks.length (fun b => .int .i64 (NJ bl near pl j b)) ∧ FrX (fun b => b = T + 1) w6 wq) (fun s27 _ => k - (intOf s27).toNat)
      case atStart => exact ⟨0, Nat.zero_le _, rfl, HP6.out, FrX.refl _ _⟩
      case round =>
        obtain ⟨j, hj, rfl, hr, hfr⟩ := hrel
        have HFR2 := Lib.hid hfr
        have HRR := Lib.hid hr
        by_cases hjk : j < k
        · have xn := (HNR.out.of_block (hfr.block Hn (HNR.out.lt) (by have := HHN.out; omega))).cell hjk
          have hj0 : (0 : Int) ≤ j := by omega
          have hj1 : (j : Int) < k := by omega
          by_cases hz : j = 0
          · have HR := Lib.hid (hr.congr (g := fun b => .int .i64 (NJ bl near pl (j + 1) b)) fun v hv => by rw [NJ_step HTE.out hjk hv, if_pos hz, hz, NJ_zero])
            rw [if_pos hz] at xn
            have h1 : ¬ ((-1 : Int) ≥ 0) := by decide
            clear hr hfr hz
            go_wp2_with fail
            go_roundw
            case rel => exact ⟨j + 1, by omega, by go_num, HR.out, HFR2.out⟩
            case measure => simp [intOf]; omega
          · rw [if_neg hz] at xn
            have hnk := HSN.out j (by omega) hjk
            have hbx := (HF6.out.trans hfr).box HTB.out (by omega)
            have t0 : wr.cell? ⟨T, 0, none⟩ = some (.slice A1 k k1) := cell_of_block hbx 0
            have hTR := HTR5.out wr ((HF6.out.trans hfr).below (by have := HT5.out; omega) (fun b hb => by omega))
            obtain ⟨g1, cap1, u1, hv1, hu1, x1, -⟩ := own_cellD hTR.rb hjk
            obtain ⟨rfl, -⟩ := map_range_at _ hu1
            simp only [Value.slice.injEq] at hv1
            obtain ⟨rfl, -, rfl⟩ := hv1
            obtain ⟨g2, cap2, u2, hv2, hu2, x2, -⟩ := own_cellD hTR.rb hnk
            obtain ⟨rfl, -⟩ := map_range_at _ hu2
            simp only [Value.slice.injEq, Option.some.injEq, Addr.mk.injEq, and_true, true_and] at hv2
            obtain ⟨rfl, rfl⟩ := hv2
            have hbj := (HTE.out.blk j hjk).1
            have xc := hr.cell hbj
            have xf := hr.frozen (bl j)
            have HR := Lib.hid ((hr.set (bl j) (.int .i64 (bl (near j) : Int))).congr (g := fun b => .int .i64 (NJ bl near pl (j + 1) b)) fun v hv => by rw [NJ_step HTE.out hjk hv, if_neg hz]; by_cases e : v = bl j <;> simp [e])
            have hb0 : (0 : Int) ≤ (bl j : Int) := by omega
            have hb1 : (bl j : Int) < f.blocks.length := by omega
            have hn0 : (0 : Int) ≤ (near j : Int) := by omega
            have hn1 : (near j : Int) < k := by omega
            clear hr hfr hz hbx hTR hu1 hu2
            go_upto_region 12 with fail
            go_region
            go_wp2_with fail
            go_roundw
            case rel => exact ⟨j + 1, by omega, by go_num, HR.out, (HFR2.out.setCell (.inl rfl) _).drew⟩
            case measure => simp [intOf]; omega
        · have hjj : j = k := by omega
          subst hjj
          have HRES := Lib.hid (hr.congr (g := fun b => .int .i64 (nearD f.blocks b)) fun v hv => by rw [HIS.out v hv])
          have HBF : Hid (Below w.heap.size w wr) := Lib.hid (HB1.out.trans ((HB5.out.mono (by have := HS1.out; omega)).trans ((HF6.out.trans hfr).below (by have := HT5.out; have := HS1.out; omega) (fun b hb => by have := HT5.out; have := HS1.out; omega))))
          have HTT : Hid (w.heap.size ≤ T + 1) := Lib.hid (by have := HT5.out; have := HS1.out; omega)
          clear hr hfr
          go_wp2_with fail
          go_ret
          exact ⟨⟨T + 1, rfl, HTT.out, HRES.out, HNE.out⟩, HBF.out⟩

set_option maxRecDepth 100000 in
set_option maxHeartbeats 8000000 in
theorem nearest_none (f : FunD) (v : Value) (w : World) (hv : VFun w v f) (h0 : f.blocks.length = 0) : Calls Try.prog 48 #[v] w (ToldNe f.blocks w) := by
  have hv0 := hv
  obtain ⟨Ar, cr, A, c, rfl, -, -, -, -⟩ := hv
  have HNX := Lib.hid (fun w1 (hk1 : Kept w w1) => next_any f _ w1 (VFun.keep hk1 hv0) (by omega))
  have H0 := Lib.hid h0
  rw [h0]
  clear h0
  go_enter Try.func48, Try.ntmps48
  go_upto_region 1 with fail
  obtain ⟨w1, hw1, hs1, hk1, hbel1, hc1, -⟩ := named w #[.int .i64 f.params, .int .i64 f.result, .slice Ar f.regs.length cr, .slice A 0 c] 25
  rw [← hw1]
  have c0 := hc1 0 _ rfl
  have c1 := hc1 1 _ rfl
  have c2 := hc1 2 _ rfl
  have c3 := hc1 3 _ rfl
  have HC3 := Lib.hid c3
  have HB1 := Lib.hid hbel1
  have HS1 := Lib.hid hs1
  have HN := Lib.hid (HNX.out w1 hk1)
  rw [H0.out] at HN
  clear hw1 hs1 hbel1 hc1 hv0 hk1
  go_wp2_with fail
  refine HN.out.mono ?_
  rintro e w2 ⟨⟨V, G, rfl, hG, hg⟩, hb2⟩
  have HB2 : Hid (Below w1.heap.size w1 w2) := Lib.hid hb2
  have HTV := Lib.hid (travel_nil G w2)
  clear c0 c1 c2 c3 hG hg hb2 HN
  go_wp2_with fail
  refine HTV.out.mono ?_
  rintro e w3 ⟨rfl, hb3⟩
  have HB3 : Hid (Below w1.heap.size w1 w3) := Lib.hid (HB2.out.trans (hb3.mono HB2.out.size))
  have hmk : ∀ w : World, (Instr.makeSlice 22 (.int .i64 0) (.int .i64 0)).run Try.prog w = .ok (.slice (some ⟨w.heap.size, 0, none⟩) 0 0) (w.alloc (.cells (madeCells #[.int .i64 0] 0) 3)) := run_make_row' (P := Try.prog) 22 3 (.int .i64 0) 8 Try.underlying22 Try.info3 rfl .i64 .i64 0 (by omega) (by omega)
  have c3 : w3.cell? ⟨w.heap.size, 3, none⟩ = some (.slice A 0 c) := (HB3.out.cell (p := ⟨w.heap.size, 3, none⟩) (by have := HS1.out; show w.heap.size < _; omega)).trans HC3.out
  have hN3 : w.heap.size < w3.heap.size := by have := HB3.out.size; have := HS1.out; omega
  clear hb3 HTV
  go_upto_region 3 with fail
  clear hmk
  obtain ⟨T, hT⟩ : ∃ T, T = w3.heap.size := ⟨_, rfl⟩
  obtain ⟨w5, hw5⟩ : ∃ w5, w5 = (w3.alloc (.cells #[.slice none 0 0, .slice none 0 0, .slice none 0 0] 128)).alloc (.cells (madeCells #[.int .i64 0] 0) 3) := ⟨_, rfl⟩
  obtain ⟨b0, b1, hbel⟩ : w5.heap[T]? = some (.cells #[.slice none 0 0, .slice none 0 0, .slice none 0 0] 128) ∧ w5.heap[T + 1]? = some (.cells (madeCells #[.int .i64 0] 0) 3) ∧ Below T w3 w5 := by
    subst hw5 hT
    have h1 := heap_alloc_new w3 (.cells #[.slice none 0 0, .slice none 0 0, .slice none 0 0] 128)
    have h2 := heap_alloc_new (w3.alloc (.cells #[.slice none 0 0, .slice none 0 0, .slice none 0 0] 128)) (.cells (madeCells #[.int .i64 0] 0) 3)
    exact ⟨(Below.heap_alloc _ _ _ (by simp)).trans h1, by simpa using h2, ((Below.refl _ w3).alloc (Nat.le_refl _) _).alloc (by simp) _⟩
  have HTB := Lib.hid b0
  have HRW := Lib.hid (row_made b1)
  have HB5 : Hid (Below w.heap.size w w5) := Lib.hid (HB1.out.trans ((HB3.out.mono (by have := HS1.out; omega)).trans (hbel.mono (by omega))))
  have HTT : Hid (w.heap.size ≤ T ∧ T < w5.heap.size) := Lib.hid ⟨by omega, (Array.getElem?_eq_some_iff.1 b0).1⟩
  rw [← hw5, ← hT]
  clear hw5 hT hbel b0 b1 c3 hN3
  go_wp2_with fail
  go_loopw [17] (fun s17 wq => s17 = .int .i64 0 ∧ wq = w5) (fun _ _ => 0)
  case atStart => exact ⟨rfl, rfl⟩
  case round =>
    obtain ⟨rfl, hwq⟩ := hrel
    have t0 : wr.cell? ⟨T, 0, none⟩ = some (.slice none 0 0) := by rw [hwq]; exact cell_of_block HTB.out 0
    have t1 : wr.cell? ⟨T, 1, none⟩ = some (.slice none 0 0) := by rw [hwq]; exact cell_of_block HTB.out 1
    have t2 : wr.cell? ⟨T, 2, none⟩ = some (.slice none 0 0) := by rw [hwq]; exact cell_of_block HTB.out 2
    have HTN := Lib.hid (tnear_nil wr)
    have HWQ := Lib.hid hwq
    clear hwq
    go_wp2_with fail
    refine HTN.out.mono ?_
    rintro e w6 ⟨⟨Hn, rfl⟩, hb6⟩
    have HB6 : Hid (Below T w5 w6) := Lib.hid (by rw [← HWQ.out]; exact hb6.mono (by rw [HWQ.out]; exact Nat.le_of_lt HTT.out.2))
    have HR6 := Lib.hid (HRW.out.of_block (w' := w6) (by rw [← HWQ.out]; exact hb6.block (T + 1) (by rw [HWQ.out]; exact HRW.out.lt)))
    clear hb6 t0 t1 t2 HTN
    go_wp2_with fail
    go_loopw [27] (fun s27 wq => s27 = .int .i64 0 ∧ wq = w6) (fun _ _ => 0)
    case atStart => exact ⟨rfl, rfl⟩
    case round =>
      obtain ⟨rfl, hwq⟩ := hrel
      have HW2 := Lib.hid hwq
      clear hwq
      go_wp2_with fail
      go_ret
      refine ⟨⟨T + 1, by rw [H0.out]; rfl, by have := HTT.out; omega, ?_, fun _ => 0, ?_⟩, ?_⟩
      · rw [HW2.out, H0.out]; exact HR6.out.congr fun v hv => by omega
      · have hno : ∀ a b, dmB f.blocks a b = false := fun a b => by unfold dmB fromB; rw [if_neg (by rw [H0.out]; omega)]; rfl
        refine ⟨fun b hb => ?_, fun b hb => ?_, fun a b ha => ?_, fun a ha => ?_, fun a b c h => ?_, fun b hb => ?_, fun a b ha => ?_⟩
        · rw [H0.out] at hb; omega
        · rw [H0.out] at hb; omega
        · rw [H0.out] at ha; omega
        · rw [H0.out] at ha; omega
        · rw [hno] at h; cases h
        · rw [H0.out] at hb; omega
        · rw [H0.out] at ha; omega
      · rw [HW2.out]; exact HB5.out.trans (HB6.out.mono HTT.out.1)
theorem nearest_any (f : FunD) (v : Value) (w : World) (hv : VFun w v f) (hn : f.blocks.length ≤ 1000) : Calls Try.prog 48 #[v] w (ToldNe f.blocks w) := by
  by_cases h0 : f.blocks.length = 0
  · exact nearest_none f v w hv h0
  · exact nearest_some f v w hv hn (by omega)
end Go.Proofs.Ytflbooopgjgkbaa
