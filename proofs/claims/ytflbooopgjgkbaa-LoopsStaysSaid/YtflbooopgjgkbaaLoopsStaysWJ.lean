/- The walk of LoopsStays. -/
import Derived.Test.YtflbooopgjgkbaaLpDJ
import Derived.Test.YtflbooopgjgkbaaCopyJ
import Derived.Test.YtflbooopgjgkbaaOpenMJ
import Derived.BigQuiet
namespace Go.Proofs.Ytflbooopgjgkbaa
open Go.ChangeShapes Go.WideShapes Go.RowKit Go.Deep
set_option linter.unusedVariables false

/-- Loops that may be written over, in blocks from lo on and below hi. -/
def ULs (w : World) (g m lo hi : Nat) (L : Nat → Nat) : Prop := ∀ i, i < m → (∃ y : Int, w.cell? ⟨g, i * 3, none⟩ = some (.int .i64 y) ∧ w.frozen? ⟨g, i * 3, none⟩ = false) ∧
  ∃ A c, w.cell? ⟨g, i * 3 + 1, none⟩ = some (.slice A (L i) c) ∧ ∀ k, k < L i → ∃ b o y, A = some ⟨b, o, none⟩ ∧ lo ≤ b ∧ b < hi ∧ w.cell? ⟨b, o + k, none⟩ = some (.int .i64 (y : Int)) ∧ w.frozen? ⟨b, o + k, none⟩ = false
theorem ULs.of_blocks {w w' : World} {g m lo hi : Nat} {L : Nat → Nat} (h : ULs w g m lo hi L) (hg : lo ≤ g ∧ g < hi) (hb : ∀ b, lo ≤ b → b < hi → w'.heap[b]? = w.heap[b]?) : ULs w' g m lo hi L := fun i hi => by
  obtain ⟨⟨y, a1, a2⟩, A, c, h1, h2⟩ := h i hi
  refine ⟨⟨y, (World.cell?_of_block (a := ⟨g, i * 3, none⟩) (hb g hg.1 hg.2)).trans a1, (World.frozen?_of_block (a := ⟨g, i * 3, none⟩) (hb g hg.1 hg.2)).trans a2⟩, A, c, (World.cell?_of_block (a := ⟨g, i * 3 + 1, none⟩) (hb g hg.1 hg.2)).trans h1, fun k hk => ?_⟩
  obtain ⟨b, o, y, e, h3, h4, h5, h6⟩ := h2 k hk
  exact ⟨b, o, y, e, h3, h4, (World.cell?_of_block (a := ⟨b, o + k, none⟩) (hb b h3 h4)).trans h5, (World.frozen?_of_block (a := ⟨b, o + k, none⟩) (hb b h3 h4)).trans h6⟩
theorem ULs.set {w : World} {g m lo hi : Nat} {L : Nat → Nat} (h : ULs w g m lo hi L) {a : Addr} {y : Int} (ha : w.cell? a = some (.int .i64 y)) (z : Int) : ULs (w.setCell a (.int .i64 z)) g m lo hi L := fun i hi => by
  obtain ⟨⟨y0, a1, a2⟩, A, c, h1, h2⟩ := h i hi
  refine ⟨?_, A, c, ?_, fun k hk => ?_⟩
  · by_cases e2 : a = ⟨g, i * 3, none⟩
    · subst e2; exact ⟨z, World.cell?_setCell_same _ _ _ ha, (World.frozen?_setCell _ _ _ _).trans a2⟩
    · exact ⟨y0, (World.cell?_setCell_other _ _ _ _ e2).trans a1, (World.frozen?_setCell _ _ _ _).trans a2⟩
  · rw [World.cell?_setCell_other _ _ _ _ (fun e => by subst e; rw [h1] at ha; cases ha)]; exact h1
  · obtain ⟨b, o, y', e, h3, h4, h5, h6⟩ := h2 k hk
    by_cases e2 : a = ⟨b, o + k, none⟩
    · subst e2
      exact ⟨b, o, z, e, h3, h4, World.cell?_setCell_same _ _ _ ha, (World.frozen?_setCell _ _ _ _).trans h6⟩
    · exact ⟨b, o, y', e, h3, h4, (World.cell?_setCell_other _ _ _ _ e2).trans h5, (World.frozen?_setCell _ _ _ _).trans h6⟩
theorem ULs.drew {w : World} {g m lo hi : Nat} {L : Nat → Nat} (h : ULs w g m lo hi L) (hg : lo ≤ g ∧ g < hi) : ULs w.drew g m lo hi L := h.of_blocks hg fun _ _ _ => rfl
theorem ULs.of {bs : List BlkD} {w : World} {K m lo hi g cap : Nat} {U : Nat → Value} {hs : Nat → Nat} {BL : Nat → List Nat} (h : LsM bs w K m U hs BL) (hU : U 0 = .slice (some ⟨g, 0, none⟩) m cap) (hlo : lo ≤ K) (hhi : w.heap.size ≤ hi) : ULs w g m lo hi (fun i => (BL i).length) := fun i him => by
  obtain ⟨g', cap', hv, h1, h2, q0, q1, q2⟩ := h.at_ him
  rw [hU] at hv
  injection hv with e1 _ _
  injection e1 with e2
  injection e2 with e3
  subst e3
  have ho := h.own 0 (by omega)
  rw [lsT_zero, hU] at ho
  have ho : w.ownsRow K 31 3 (.slice (some ⟨g, 0, none⟩) m cap) m ((List.range (3 * m)).map (flF hs U)) := ho
  refine ⟨⟨_, q0, ho.frozenAt _⟩, ?_⟩
  have hi1 := h.own (2 * i + 1) (by omega)
  rw [lsT_odd] at hi1
  have hi1 : w.ownsRow K 3 1 (U (2 * i + 1)) (BL i).length ((BL i).map fun y : Nat => Value.int .i64 (y : Int)) := hi1
  obtain ⟨A, c, hA⟩ := own_sliceL hi1
  refine ⟨A, c, by rw [q1, hA], fun k hk => ?_⟩
  have hk : k < (BL i).length := hk
  rcases hi1.2 with ⟨h0, _⟩ | ⟨g2, c2, cur, hv2, -⟩
  · omega
  · rw [hv2] at hA
    cases hA
    rw [hv2] at hi1
    have := hi1.lt g2 rfl
    refine ⟨g2, 0, (((BL i)[k] : Nat) : Int), rfl, by omega, by omega, ?_, by rw [Nat.zero_add]; exact hi1.frozenAt _⟩
    rw [Nat.zero_add, hi1.cellAt k (by omega), List.getElem?_map, List.getElem?_eq_getElem hk]; rfl

set_option maxRecDepth 100000 in
set_option maxHeartbeats 16000000 in
theorem loopsStays_walk (f : FunD) (v : Value) (w : World) (hv : VFun w v f) :
    Calls Try.prog 4 #[v] w fun e w' => e = .returned (.bool true) ∧ Below w.heap.size w w' := by
  have hv0 := hv
  obtain ⟨Ar, cr, A, c, rfl, -, -, -, -⟩ := hv
  have HV := Lib.hid hv0
  clear hv0
  go_enter Try.func4, Try.ntmps4
  go_wp2_with fail
  obtain ⟨w1, hw1, hs1, hk1, hbel1, hc1, -⟩ := named w #[.int .i64 f.params, .int .i64 f.result, .slice Ar f.regs.length cr, .slice A f.blocks.length c] 25
  rw [← hw1]
  refine (up7_any w1).mono ?_
  rintro e w2 ⟨rfl, hb2⟩
  have hk2 := kept_of_below hb2
  have c0 := hk2 _ _ (hc1 0 _ rfl)
  have c1 := hk2 _ _ (hc1 1 _ rfl)
  have c2 := hk2 _ _ (hc1 2 _ rfl)
  have c3 := hk2 _ _ (hc1 3 _ rfl)
  have HB2 : Hid (Below w.heap.size w w2) := Lib.hid (hbel1.trans (hb2.mono (by omega)))
  obtain ⟨N, hN⟩ : ∃ N, N = w.heap.size := ⟨_, rfl⟩
  rw [← hN] at c0 c1 c2 c3 ⊢
  clear hw1 hs1 hbel1 hc1 hb2 hk1 hk2 hN
  go_wp2_with fail
  refine (small7_any f _ w2 (VFun.keep (kept_of_below HB2.out) HV.out)).mono ?_
  rintro e w3 ⟨⟨bs, rfl, hsm⟩, hb3⟩
  have hk3 := kept_of_below hb3
  have c0 := hk3 _ _ c0
  have c1 := hk3 _ _ c1
  have c2 := hk3 _ _ c2
  have c3 := hk3 _ _ c3
  have HB3 : Hid (Below w.heap.size w w3) := Lib.hid (HB2.out.trans (hb3.mono HB2.out.size))
  cases bs
  · clear hb3 hk3 hsm
    go_wp2_with fail
    go_ret
    exact ⟨rfl, HB3.out⟩
  · have HSM := Lib.hid (hsm rfl)
    have hn : f.blocks.length ≤ 70 := (hsm rfl).1
    clear hb3 hk3 hsm
    go_wp2_with fail
    refine (copyFunc_any f _ w3 (VFun.keep (kept_of_below HB3.out) HV.out) HSM.out).mono ?_
    rintro e w4 ⟨⟨r, rfl, d0, d1, d2, d3, rfl, Ac, cc, Bc, dc, hcs, hcr, hcb, hp64, hr64⟩, hb4⟩
    simp only [List.cons.injEq, and_true] at hcs
    obtain ⟨rfl, rfl, rfl, rfl⟩ := hcs
    have hk4 := kept_of_below hb4
    have c0 := hk4 _ _ c0
    have c1 := hk4 _ _ c1
    have c2 := hk4 _ _ c2
    have c3 := hk4 _ _ c3
    have HB4 : Hid (Below w.heap.size w w4) := Lib.hid (HB3.out.trans (hb4.mono HB3.out.size))
    have HVO4 : Hid (VFun w4 (.agg #[.int .i64 f.params, .int .i64 f.result, .slice Ac f.regs.length cc, .slice Bc f.blocks.length dc]) f) := Lib.hid ⟨Ac, cc, Bc, dc, rfl, SL.imp RIntB.plain hcr, SL.imp RBlkB.plain hcb, hp64, hr64⟩
    clear hb4 hk4 hcr hcb hp64 hr64
    go_upto_region 6 with fail
    obtain ⟨w5, hw5, hs5, hk5, hb5, hc5, -⟩ := named w4 #[.int .i64 f.params, .int .i64 f.result, .slice Ac f.regs.length cc, .slice Bc f.blocks.length dc] 25
    rw [← hw5]
    obtain ⟨O, hO⟩ : ∃ O, O = w4.heap.size := ⟨_, rfl⟩
    rw [← hO] at hc5 hs5 ⊢
    have o0 := hc5 0 _ rfl
    have o1 := hc5 1 _ rfl
    have o2 := hc5 2 _ rfl
    have o3 := hc5 3 _ rfl
    have c0 := hk5 _ _ c0
    have c1 := hk5 _ _ c1
    have c2 := hk5 _ _ c2
    have c3 := hk5 _ _ c3
    have HB5 : Hid (Below w.heap.size w w5) := Lib.hid (HB4.out.trans (hb5.mono HB4.out.size))
    have HVO5 := Lib.hid (VFun.keep hk5 HVO4.out)
    have HCC : Hid ((w5.cell? ⟨N, 0, none⟩ = some (.int .i64 f.params) ∧ w5.cell? ⟨N, 1, none⟩ = some (.int .i64 f.result) ∧ w5.cell? ⟨N, 2, none⟩ = some (.slice Ar f.regs.length cr) ∧ w5.cell? ⟨N, 3, none⟩ = some (.slice A f.blocks.length c))) := Lib.hid ⟨c0, c1, c2, c3⟩
    have HOO : Hid ((w5.cell? ⟨O, 0, none⟩ = some (.int .i64 f.params) ∧ w5.cell? ⟨O, 1, none⟩ = some (.int .i64 f.result) ∧ w5.cell? ⟨O, 2, none⟩ = some (.slice Ac f.regs.length cc) ∧ w5.cell? ⟨O, 3, none⟩ = some (.slice Bc f.blocks.length dc))) := Lib.hid ⟨o0, o1, o2, o3⟩
    clear hw5 hs5 hk5 hb5 hc5 hO HVO4
    go_wp2_with fail
    refine (loops_any f _ w5 HVO5.out (by omega)).mono ?_
    rintro e w6 ⟨⟨U, hs, rfl, hH, hM, ord, hNB⟩, hb6⟩
    have hk6 := kept_of_below hb6
    have o0 := hk6 _ _ o0
    have o1 := hk6 _ _ o1
    have o2 := hk6 _ _ o2
    have o3 := hk6 _ _ o3
    obtain ⟨m, hm⟩ : ∃ m, (hdL f.blocks f.blocks.length).length = m := ⟨_, rfl⟩
    have hm70 : m ≤ 70 := by rw [← hm]; have := hdL_len f.blocks f.blocks.length; omega
    rw [hm] at hH hM
    have HMM := Lib.hid hm
    obtain ⟨Al, cl, hU0⟩ := own_sliceL (show w6.ownsRow w5.heap.size 31 3 (U 0) m _ from hM.own 0 (by omega))
    rw [hU0]
    have HB6 : Hid (Below w5.heap.size w5 w6) := Lib.hid hb6
    have HU0 := Lib.hid hU0
    have HM6 := Lib.hid hM
    have HLB : Hid (∀ i, (lbL f.blocks (hs i) f.blocks.length).length ≤ 70) := Lib.hid (fun i => by have := lbL_len f.blocks (hs i) f.blocks.length; omega)
    clear hb6 hk6 c0 c1 c2 c3 hm hU0 hH hM hNB
    go_wp2_with fail
    refine (depth_any f _ w6 (VFun.keep (kept_of_below HB6.out) HVO5.out) (by omega)).mono ?_
    rintro e w7 ⟨⟨G, rfl, hG, hg, -⟩, hb7⟩
    have HB7 : Hid (Below w5.heap.size w5 w7) := Lib.hid (HB6.out.trans (hb7.mono HB6.out.size))
    have HG7 := Lib.hid hg
    have HGG : Hid (w6.heap.size ≤ G ∧ G < w7.heap.size) := Lib.hid ⟨hG, hg.lt⟩
    have hM7 := HM6.out.below hb7
    have HM7 := Lib.hid hM7
    have HZ : Hid (w5.heap.size ≤ w6.heap.size ∧ w6.heap.size ≤ w7.heap.size) := Lib.hid ⟨HB6.out.size, hb7.size⟩
    have HULS : Hid (∃ g, (0 < m → Al = some ⟨g, 0, none⟩ ∧ w5.heap.size ≤ g ∧ g < w6.heap.size) ∧ ULs w7 g m w5.heap.size w6.heap.size (fun i => (lbL f.blocks (hs i) f.blocks.length).length)) := Lib.hid (by
      by_cases h0 : 0 < m
      · obtain ⟨g, cap, hU, h1, h2, -⟩ := HM6.out.at_ h0
        have hU2 := hU
        rw [HU0.out] at hU2
        injection hU2 with e1 _ _
        exact ⟨g, fun _ => ⟨e1, h1, h2⟩, (ULs.of HM6.out hU (Nat.le_refl _) (Nat.le_refl _)).of_blocks ⟨h1, h2⟩ fun b _ hb => hb7.block b hb⟩
      · exact ⟨0, fun h => absurd h h0, fun i hi => by omega⟩)
    clear hb7 hg hG hM7 o0 o1 o2 o3
    obtain ⟨g, hg, hU⟩ := HULS.out
    have HGM := Lib.hid hg
    have HUL := Lib.hid hU
    clear hg hU HULS
    go_wp2_with fail
    go_loopw [8] (fun s8 wq => ∃ i : Nat, i ≤ m ∧ s8 = .int .i64 (i : Int) ∧ ULs wq g m w5.heap.size w6.heap.size (fun i => (lbL f.blocks (hs i) f.blocks.length).length) ∧ FrX (fun b => w5.heap.size ≤ b ∧ b < w6.heap.size) w7 wq) (fun s8 _ => m - (intOf s8).toNat)
    case atStart => exact ⟨0, Nat.zero_le _, rfl, HUL.out, FrX.refl _ _⟩
    case round =>
      obtain ⟨i, hi, rfl, hu, hfr⟩ := hrel
      obtain ⟨wL, rfl⟩ : ∃ wL, wL = wr := ⟨_, rfl⟩
      have HU := Lib.hid hu
      have HFR := Lib.hid hfr
      by_cases hil : i < m
      · obtain ⟨⟨y0, a1, a2⟩, A1, cA, b1, b2⟩ := hu i hil
        obtain ⟨rfl, hg1, hg2⟩ := HGM.out (by omega)
        have hi0 : (0 : Int) ≤ i := by omega
        have hi1 : (i : Int) < m := by omega
        obtain ⟨lz, hlz⟩ : ∃ lz, (lbL f.blocks (hs i) f.blocks.length).length = lz := ⟨_, rfl⟩
        have hl70 : lz ≤ 70 := by rw [← hlz]; exact HLB.out i
        have HLZ := Lib.hid hlz
        have HGB : Hid (w5.heap.size ≤ g ∧ g < w6.heap.size) := Lib.hid ⟨hg1, hg2⟩
        have HU1 := Lib.hid (HU.out.set a1 (-1))
        have HF1 : Hid (FrX (fun b => w5.heap.size ≤ b ∧ b < w6.heap.size) w7 (wL.setCell ⟨g, i * 3, none⟩ (.int .i64 (-1)))) := Lib.hid (HFR.out.setCell (p := ⟨g, i * 3, none⟩) (.inl HGB.out) _)
        clear hu hfr b2 hlz b1 hg1 hg2
        go_wp2_with fail
        clear a1 a2
        go_loopw [9] (fun s9 wq => ∃ k : Nat, k ≤ lz ∧ s9 = .int .i64 (k : Int) ∧ ULs wq g m w5.heap.size w6.heap.size (fun i => (lbL f.blocks (hs i) f.blocks.length).length) ∧ FrX (fun b => w5.heap.size ≤ b ∧ b < w6.heap.size) w7 wq) (fun s9 _ => lz - (intOf s9).toNat)
        case atStart => exact ⟨0, Nat.zero_le _, rfl, HU1.out, HF1.out⟩
        case round =>
          obtain ⟨k, hk, rfl, hu, hfr⟩ := hrel
          have HUK := Lib.hid hu
          have HFK := Lib.hid hfr
          obtain ⟨-, A2, cA2, c1, c2⟩ := hu i hil
          simp only [HLZ.out] at c1 c2
          by_cases hkl : k < lz
          · obtain ⟨bb, ob, y2, rfl, d1, d2, d3, d4⟩ := c2 k hkl
            have hk0 : (0 : Int) ≤ k := by omega
            have hk1 : (k : Int) < lz := by omega
            have HU2 := Lib.hid (HUK.out.set d3 (-1))
            have HF2 : Hid (FrX (fun b => w5.heap.size ≤ b ∧ b < w6.heap.size) w7 (wr.setCell ⟨bb, ob + k, none⟩ (.int .i64 (-1)))) := Lib.hid (HFK.out.setCell (p := ⟨bb, ob + k, none⟩) (.inl ⟨d1, d2⟩) _)
            clear hu hfr c2 d1 d2
            go_wp2_with fail
            go_roundw
            case rel => exact ⟨k + 1, by omega, by go_num, HU2.out, HF2.out⟩
            case measure => simp [intOf]; omega
          · clear hu hfr c2
            go_wp2_with fail
            go_roundw
            case rel => exact ⟨i + 1, by omega, by go_num, HUK.out, HFK.out⟩
            case measure => simp [intOf]; omega
      · have hbz : Below w5.heap.size w5 wL := HB7.out.trans (hfr.below (by have := HZ.out; omega) (fun _ h => h.1))
        have HBZ := Lib.hid hbz
        have hkz := kept_of_below hbz
        have o0 := hkz _ _ HOO.out.1
        have o1 := hkz _ _ HOO.out.2.1
        have o2 := hkz _ _ HOO.out.2.2.1
        have o3 := hkz _ _ HOO.out.2.2.2
        have HG8 : Hid (wL.rowIs G 3 f.blocks.length (fun b => .int .i64 (dpN f.blocks b : Int))) := Lib.hid (HG7.out.of_block (hfr.block G HGG.out.2 (fun e => by have := HGG.out; omega)))
        clear hu hfr hbz hkz
        go_wp2_with fail
        refine (loops_any f _ wL (VFun.keep (kept_of_below HBZ.out) HVO5.out) (by omega)).mono ?_
        rintro e w8 ⟨⟨U2, hs2, rfl, hH2, hM2, -⟩, hb8⟩
        rw [HMM.out] at hM2
        have hk8 := kept_of_below hb8
        have o0 := hk8 _ _ o0
        have o1 := hk8 _ _ o1
        have o2 := hk8 _ _ o2
        have o3 := hk8 _ _ o3
        have HB8 : Hid (Below w5.heap.size w5 w8) := Lib.hid (HBZ.out.trans (hb8.mono HBZ.out.size))
        have HG9 : Hid (w8.rowIs G 3 f.blocks.length (fun b => .int .i64 (dpN f.blocks b : Int))) := Lib.hid (HG8.out.of_block (hb8.block G HG8.out.lt))
        obtain ⟨A8, c8, hU8⟩ := own_sliceL (show w8.ownsRow wL.heap.size 31 3 (U2 0) m _ from hM2.own 0 (by omega))
        rw [hU8]
        have HU8 := Lib.hid hU8
        have HM8 := Lib.hid hM2
        clear hb8 hk8 hU8 hM2 hH2 HG8 HG7
        go_wp2_with fail
        go_loopw [11] (fun s11 wq => ∃ i : Nat, i ≤ m ∧ s11 = .int .i64 (i : Int) ∧ wq = w8) (fun s11 _ => m - (intOf s11).toNat)
        case atStart => exact ⟨0, Nat.zero_le _, rfl, rfl⟩
        case round =>
          obtain ⟨i2, hi2, rfl, hww⟩ := hrel
          subst hww
          by_cases hil2 : i2 < m
          · obtain ⟨g8, cap8, hUg, -, -, q0, -⟩ := HM8.out.at_ hil2
            rw [HU8.out] at hUg
            injection hUg with e1 _ _
            subst e1
            have hi0 : (0 : Int) ≤ i2 := by omega
            have hi1 : (i2 : Int) < m := by omega
            have hnn : ¬ (hs2 i2 : Int) < 0 := by omega
            go_wp2_with fail
            go_roundw
            case rel => exact ⟨i2 + 1, by omega, by go_num, trivial⟩
            case measure => simp [intOf]; omega
          · obtain rfl : i2 = m := by omega
            clear hi2 hil2
            have c0 := (kept_of_below HB8.out) _ _ HCC.out.1
            have c1 := (kept_of_below HB8.out) _ _ HCC.out.2.1
            have c2 := (kept_of_below HB8.out) _ _ HCC.out.2.2.1
            have c3 := (kept_of_below HB8.out) _ _ HCC.out.2.2.2
            go_wp2_with fail
            refine (sameFunc_any f f _ _ wr (VFun.keep (kept_of_below HB8.out) HVO5.out) (VFun.keep (kept_of_below (HB5.out.trans (HB8.out.mono HB5.out.size))) HV.out)).mono ?_
            rintro e wa ⟨rfl, hba⟩
            have hse : same f f = true := same_yes rfl
            rw [hse]
            have hka := kept_of_below hba
            have o0 := hka _ _ o0
            have o1 := hka _ _ o1
            have o2 := hka _ _ o2
            have o3 := hka _ _ o3
            have HBA : Hid (Below w5.heap.size w5 wa) := Lib.hid (HB8.out.trans (hba.mono HB8.out.size))
            have HGA := Lib.hid (HG9.out.of_block (hba.block G HG9.out.lt))
            clear hba hka hse c0 c1 c2 c3
            go_wp2_with fail
            refine (depth_any f _ wa (VFun.keep (kept_of_below HBA.out) HVO5.out) (by omega)).mono ?_
            rintro e wb ⟨⟨G2, rfl, hG2, hg2, -⟩, hbb⟩
            have hdl : ∀ b, b < f.blocks.length → dpN f.blocks b ≤ 70 := fun b _ => by have := dpN_le f.blocks b; omega
            have hI : ∀ b, b < f.blocks.length → I64 (dpN f.blocks b : Int) := fun b hb => by have := hdl b hb; unfold I64; omega
            have HS2 : Hid (SL wb 1 RInt (some ⟨G2, 0, none⟩) f.blocks.length ((List.range f.blocks.length).map fun b => (dpN f.blocks b : Int))) := Lib.hid (sl_of_row hg2 (by omega) hI)
            have HS1 : Hid (SL wb 1 RInt (some ⟨G, 0, none⟩) f.blocks.length ((List.range f.blocks.length).map fun b => (dpN f.blocks b : Int))) := Lib.hid (sl_of_row (HGA.out.of_block (hbb.block G HGA.out.lt)) (by omega) hI)
            have HBB : Hid (Below w.heap.size w wb) := Lib.hid (HB5.out.trans ((HBA.out.trans (hbb.mono HBA.out.size)).mono HB5.out.size))
            have hll : ((List.range f.blocks.length).map fun b => (dpN f.blocks b : Int)).length = f.blocks.length := by rw [List.length_map, List.length_range]
            obtain ⟨xs, hxs⟩ : ∃ xs, xs = (List.range f.blocks.length).map fun b => (dpN f.blocks b : Int) := ⟨_, rfl⟩
            rw [← hxs] at hll HS1 HS2
            clear hbb hg2 hG2 hdl hI hxs
            have HLL := Lib.hid hll
            clear hll
            go_wp2_with fail
            refine (sameInts_any xs xs _ _ wb ⟨_, _, by rw [HLL.out], HS2.out⟩ ⟨_, _, by rw [HLL.out], HS1.out⟩).mono ?_
            rintro e wc ⟨rfl, q, rfl⟩
            rw [decide_eq_true (rfl : xs = xs)]
            go_wp2_with fail
            go_ret
            exact ⟨rfl, below_drewN HBB.out q⟩
end Go.Proofs.Ytflbooopgjgkbaa
