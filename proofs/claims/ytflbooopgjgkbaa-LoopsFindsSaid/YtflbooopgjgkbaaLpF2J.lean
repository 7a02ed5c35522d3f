/- The document's Loops: its walk. -/
import Derived.Test.YtflbooopgjgkbaaLpFJ
namespace Go.Proofs.Ytflbooopgjgkbaa
open Go.ChangeShapes Go.WideShapes Go.RowKit Go.Deep
set_option linter.unusedVariables false

def ToldRL (bs : List BlkD) (w : World) (e : Ending) (w' : World) : Prop :=
  (∃ v U hs, e = .returned v ∧ (∀ i, i < (hdL bs bs.length).length → (hdL bs bs.length)[i]? = some (hs i)) ∧ RLs w' w.heap.size (hdL bs bs.length).length v U hs (fun i => lbL bs (hs i) bs.length) (fun i => enR bs (hs i) bs.length)) ∧ Below w.heap.size w w'
theorem RLs.congr {w : World} {K m : Nat} {v : Value} {U : Nat → Value} {hs hs' : Nat → Nat} {BL EL BL' EL' : Nat → List Nat} (h : RLs w K m v U hs BL EL) (h1 : ∀ i, i < m → hs i = hs' i) (h2 : ∀ i, i < m → BL i = BL' i) (h3 : ∀ i, i < m → EL i = EL' i) : RLs w K m v U hs' BL' EL' := by
  refine ⟨?_, fun i hi => by rw [← h2 i hi]; exact h.bl i hi, fun i hi => by rw [← h3 i hi]; exact h.el i hi, h.ap⟩
  have e : (List.range (3 * m)).map (flF hs' U) = (List.range (3 * m)).map (flF hs U) := List.map_congr_left fun j hj => by
    have hj := List.mem_range.1 hj
    unfold flF
    rw [h1 (j / 3) (by omega)]
  rw [e]; exact h.own
theorem RLs.mono {w : World} {K K' m : Nat} {v : Value} {U : Nat → Value} {hs : Nat → Nat} {BL EL : Nat → List Nat} (h : RLs w K m v U hs BL EL) (hk : K' ≤ K) : RLs w K' m v U hs BL EL :=
  ⟨owns_mono_ h.own hk, fun i hi => owns_mono_ (h.bl i hi) hk, fun i hi => owns_mono_ (h.el i hi) hk, h.ap⟩

theorem lp_cells {w : World} {L : Nat} {a0 a1 a2 : Value} (h : w.heap[L]? = some (.cells #[a0, a1, a2] 31)) :
    w.cell? ⟨L, 0, none⟩ = some a0 ∧ w.cell? ⟨L, 1, none⟩ = some a1 ∧ w.cell? ⟨L, 2, none⟩ = some a2 ∧ w.frozen? ⟨L, 0, none⟩ = false ∧ w.frozen? ⟨L, 1, none⟩ = false ∧ w.frozen? ⟨L, 2, none⟩ = false := by
  simp [World.cell?, World.frozen?, h]
theorem lp_set1 {w : World} {L : Nat} {a0 a1 a2 : Value} (h : w.heap[L]? = some (.cells #[a0, a1, a2] 31)) (u : Value) : (w.setCell ⟨L, 1, none⟩ u).heap[L]? = some (.cells #[a0, u, a2] 31) := by
  simp [World.setCell, Array.getElem?_modify, h]
theorem lp_set2 {w : World} {L : Nat} {a0 a1 a2 : Value} (h : w.heap[L]? = some (.cells #[a0, a1, a2] 31)) (u : Value) : (w.setCell ⟨L, 2, none⟩ u).heap[L]? = some (.cells #[a0, a1, u] 31) := by
  simp [World.setCell, Array.getElem?_modify, h]
/-- One block more in one of the two rows. -/
theorem pool2_step {w w7 : World} {L i b : Nat} {U2 : Nat → Value} {T : Nat → RowD} {l : List Nat} {v' : Value} (hP : PoolD w (L + 1) 2 U2 T) (hi : i < 2) (hT : T i = intR l) (hg : GroD w w7 (U2 i) v') (ho : w7.ownsRow (L + 1) 3 1 v' (l.length + 1) ((l.map fun y : Nat => Value.int .i64 (y : Int)) ++ [.int .i64 (b : Int)])) (u : Value) (j : Nat) :
    PoolD (w7.setCell ⟨L, j, none⟩ u) (L + 1) 2 (updF U2 i v') (updF T i (intR (l ++ [b]))) := by
  have hoD : OwnD w7 (L + 1) v' (intR (l ++ [b])) := by
    unfold OwnD intR
    rw [List.length_append, List.map_append]; exact ho
  exact PoolD.go (PoolD.gro hP hi hg hoD) fun k hk _ => Below.heap_setCell _ _ _ _ (by show k ≠ L; omega)

set_option maxRecDepth 100000 in
set_option maxHeartbeats 16000000 in
theorem refLoops_any (f : FunD) (v : Value) (w : World) (hv : VFun w v f) (hn : f.blocks.length ≤ 1000) : Calls Try.prog 11 #[v] w (ToldRL f.blocks w) := by
  have hv0 := hv
  obtain ⟨i0, hi, hz0, hz1, hz2⟩ := info_parts Try.info3
  have HI := Lib.hid (And.intro hi (And.intro hz0 (And.intro hz1 hz2)))
  clear hi hz0 hz1 hz2
  obtain ⟨i1, hi, hz0, hz1, hz2⟩ := info_parts Try.info31
  have HI1 := Lib.hid (And.intro hi (And.intro hz0 (And.intro hz1 hz2)))
  clear hi hz0 hz1 hz2
  obtain ⟨Ar, cr, A, c, rfl, -, -, -, -⟩ := hv
  go_enter Try.func11, Try.ntmps11
  go_upto_region 1 with fail
  obtain ⟨w1, hw1, hs1, hk1, hbel1, hc1, -⟩ := named w #[.int .i64 f.params, .int .i64 f.result, .slice Ar f.regs.length cr, .slice A f.blocks.length c] 25
  rw [← hw1]
  have c0 : w1.cell? ⟨w.heap.size, 0, none⟩ = some (.int .i64 f.params) := hc1 0 _ rfl
  have c1 : w1.cell? ⟨w.heap.size, 1, none⟩ = some (.int .i64 f.result) := hc1 1 _ rfl
  have c2 : w1.cell? ⟨w.heap.size, 2, none⟩ = some (.slice Ar f.regs.length cr) := hc1 2 _ rfl
  have c3 : w1.cell? ⟨w.heap.size, 3, none⟩ = some (.slice A f.blocks.length c) := hc1 3 _ rfl
  have HC := Lib.hid (And.intro c0 (And.intro c1 (And.intro c2 c3)))
  have HB1 := Lib.hid hbel1
  have HS1 : Hid (w1.heap.size = w.heap.size + 1) := Lib.hid hs1
  have hV1 := VFun.keep hk1 hv0
  have HV1 := Lib.hid hV1
  obtain ⟨N, hN⟩ : ∃ N, N = w.heap.size := ⟨_, rfl⟩
  have HNN := Lib.hid hN
  rw [← hN] at c0 c1 c2 c3 ⊢
  clear hw1 hs1 hk1 hc1 hbel1 hv0 hN
  go_wp2_with fail
  refine (refDom_any f _ w1 hV1 hn).mono ?_
  rintro e w2 ⟨⟨vd, D, rfl, ht⟩, hb2⟩
  have hk2 := kept_of_below hb2
  have c0 := hk2 _ _ c0
  have c1 := hk2 _ _ c1
  have c2 := hk2 _ _ c2
  have c3 := hk2 _ _ c3
  have HB2 := Lib.hid hb2
  have HT2 := Lib.hid ht
  clear hk2 hb2 ht hV1
  go_wp2_with fail
  refine (from_any f 0 (-1) _ w2 (VFun.keep (kept_of_below HB2.out) HV1.out) hn).mono ?_
  rintro e w3 ⟨⟨Hr, rfl, hHr, hr⟩, hb3⟩
  have HB3 : Hid (Below w1.heap.size w1 w3) := Lib.hid (HB2.out.trans (hb3.mono HB2.out.size))
  have HT3 := Lib.hid (HT2.out.below hb3)
  have HRC : Hid (∀ W : World, Below w3.heap.size w3 W → ∀ x, x < f.blocks.length → W.cell? ⟨Hr, x, none⟩ = some (.bool (reachF f.blocks x))) := Lib.hid (fun W hW x hx => by
    have h1 := (hr.of_block (hW.block Hr hr.lt)).cell hx
    rw [from_reachD] at h1; exact h1)
  clear hb3 hr hHr c0 c1 c2 c3
  have HTC : Hid (∀ W : World, Below w3.heap.size w3 W → ∀ a, a < f.blocks.length → ∃ g cg, vd = .slice (some ⟨g, 0, none⟩) f.blocks.length cg ∧ W.cell? ⟨g, a, none⟩ = some (.slice (some ⟨D a, 0, none⟩) f.blocks.length f.blocks.length) ∧ ∀ x, x < f.blocks.length → W.cell? ⟨D a, x, none⟩ = some (.bool (dmB f.blocks a x))) := Lib.hid (fun W hW a ha => by
    have h2 := HT3.out.below hW
    obtain ⟨g', cg', hg', hc'⟩ := h2.at_ ha
    exact ⟨g', cg', hg', hc', fun x hx => (h2.cells a ha).cell hx⟩)
  have HCC : Hid (∀ W : World, Below w3.heap.size w3 W → W.cell? ⟨N, 0, none⟩ = some (.int .i64 f.params) ∧ W.cell? ⟨N, 1, none⟩ = some (.int .i64 f.result) ∧ W.cell? ⟨N, 2, none⟩ = some (.slice Ar f.regs.length cr) ∧ W.cell? ⟨N, 3, none⟩ = some (.slice A f.blocks.length c)) := Lib.hid (fun W hW => by
    have hkc : ∀ q, W.cell? ⟨N, q, none⟩ = w1.cell? ⟨N, q, none⟩ := fun q => ((HB3.out.trans (hW.mono HB3.out.size)).cell (p := ⟨N, q, none⟩) (by have := HS1.out; have := HNN.out; show N < _; omega))
    refine ⟨(hkc 0).trans ?_, (hkc 1).trans ?_, (hkc 2).trans ?_, (hkc 3).trans ?_⟩ <;> rw [HNN.out]
    · exact HC.out.1
    · exact HC.out.2.1
    · exact HC.out.2.2.1
    · exact HC.out.2.2.2)
  have HVW : Hid (∀ W : World, Below w3.heap.size w3 W → VFun W (.agg #[.int .i64 f.params, .int .i64 f.result, .slice Ar f.regs.length cr, .slice A f.blocks.length c]) f) := Lib.hid (fun W hW => VFun.keep (kept_of_below (HB3.out.trans (hW.mono HB3.out.size))) HV1.out)
  have HVD : Hid (∃ A c, vd = .slice A f.blocks.length c) := Lib.hid (own_sliceL (show w3.ownsRow w1.heap.size 46 1 vd f.blocks.length _ from HT3.out.own))
  obtain ⟨Ad, cd, hvd⟩ := HVD.out
  subst hvd
  clear HVD
  go_wp2_with fail
  go_loopw [5, 6] (fun s5 s6 wq => ∃ (h m : Nat) (U : Nat → Value) (hs : Nat → Nat), h ≤ f.blocks.length ∧ s6 = .int .i64 (h : Int) ∧ Hid ((hdL f.blocks h).length = m) ∧ (∀ i, i < m → (hdL f.blocks h)[i]? = some (hs i)) ∧ RLs wq w3.heap.size m s5 U hs (fun i => lbL f.blocks (hs i) f.blocks.length) (fun i => enR f.blocks (hs i) f.blocks.length) ∧ Below w3.heap.size w3 wq) (fun _ s6 _ => f.blocks.length - (intOf s6).toNat)
  case atStart => exact ⟨0, 0, fun _ => .slice none 0 0, fun _ => 0, Nat.zero_le _, rfl, Lib.hid rfl, fun i hi => by omega, RLs.start _ _ _ _ _ _, Below.refl _ _⟩
  case round =>
    obtain ⟨h, m, U, hs, hh, rfl, hm, hH, hR, hb⟩ := hrel
    obtain ⟨wL, rfl⟩ : ∃ wL, wL = wr := ⟨_, rfl⟩
    have HB := Lib.hid hb
    have HR := Lib.hid hR
    have HH := Lib.hid hH
    obtain ⟨Av, cv, hv5⟩ := own_sliceL hR.own
    subst hv5
    have hmn : m ≤ 1000 := by rw [← hm.out]; have := hdL_len f.blocks h; omega
    by_cases hhl : h < f.blocks.length
    · have hh0 : (0 : Int) ≤ h := by omega
      have hh1 : (h : Int) < f.blocks.length := by omega
      clear hR hH hb
      go_wp2_with fail
      go_loopw [7, 8] (fun s7 s8 wq => ∃ b : Nat, b ≤ f.blocks.length ∧ s8 = .int .i64 (b : Int) ∧ wq.ownsRow wL.heap.size 3 1 s7 (bkL f.blocks h b).length ((bkL f.blocks h b).map fun y : Nat => Value.int .i64 (y : Int)) ∧ Below wL.heap.size wL wq) (fun _ s8 _ => f.blocks.length - (intOf s8).toNat)
      case atStart => exact ⟨0, Nat.zero_le _, rfl, World.ownsRow_nil _ _ _ _, Below.refl _ _⟩
      case round =>
        obtain ⟨b, hbn, rfl, ho, hb⟩ := hrel
        have HO := Lib.hid ho
        have HBB := Lib.hid hb
        obtain ⟨wk, rfl⟩ : ∃ wk, wk = wr := ⟨_, rfl⟩
        obtain ⟨Ab, cb, hv7⟩ := own_sliceL ho
        subst hv7
        have hbq : Below w3.heap.size w3 wk := HB.out.trans (hb.mono HB.out.size)
        have HBQ := Lib.hid hbq
        have hll : (bkL f.blocks h b).length ≤ 1000 := by have := bkL_len f.blocks h b; omega
        by_cases hbl : b < f.blocks.length
        · obtain ⟨c0, c1, c2, c3⟩ := HCC.out wk hbq
          obtain ⟨kb, hkb, hto⟩ := ld_get hbl
          have hld := leads_any f b kb (h : Int) _ wk (HVW.out wk hbq) hkb
          rw [hto] at hld
          have HLD := Lib.hid hld
          have hb0 : (0 : Int) ≤ b := by omega
          have hb1 : (b : Int) < f.blocks.length := by omega
          obtain ⟨lb, hlb⟩ : ∃ lb, (bkL f.blocks h b).length = lb := ⟨_, rfl⟩
          rw [hlb] at hll ⊢
          have HLB := Lib.hid hlb
          clear ho hb hbq hkb hto hld hlb
          go_wp2_with fail
          refine HLD.out.mono ?_
          rintro e w5 ⟨rfl, hb5⟩
          have hb35 : Below w3.heap.size w3 w5 := HBQ.out.trans (hb5.mono HBQ.out.size)
          have HB5 : Hid (Below wL.heap.size wL w5) := Lib.hid (HBB.out.trans (hb5.mono HBB.out.size))
          have HO5 : Hid (w5.ownsRow wL.heap.size 3 1 (.slice Ab lb cb) lb ((bkL f.blocks h b).map fun y : Nat => Value.int .i64 (y : Int))) := Lib.hid (by have h1 := HO.out; rw [HLB.out] at h1; exact ownsRow_block h1 (fun g hg => hb5.block g (h1.lt g hg).2))
          obtain ⟨gd, cgd, hvd, td1, td2⟩ := HTC.out w5 hb35 h hhl
          injection hvd with e1 _ e3
          subst e1 e3
          have td3 := td2 b hbl
          have HSC := Lib.hid (bkL_succ f.blocks h b)
          have hz5 := HB5.out.size
          clear hb5 hb35 td2 HLD c0 c1 c2 c3
          cases hl : hasTo (h : Int) (tosOf f.blocks b)
          · have HS2 : Hid (bkL f.blocks h (b + 1) = bkL f.blocks h b) := Lib.hid (by rw [HSC.out]; unfold ldB; rw [hl]; simp)
            clear hl
            go_wp2_with fail
            go_roundw
            case rel => exact ⟨b + 1, by omega, by go_num, by rw [HS2.out, HLB.out]; exact HO5.out, HB5.out⟩
            case measure => simp [intOf]; omega
          · cases hd : dmB f.blocks h b
            · rw [hd] at td3
              have HS2 : Hid (bkL f.blocks h (b + 1) = bkL f.blocks h b) := Lib.hid (by rw [HSC.out, hd]; simp)
              clear hl hd
              go_wp2_with fail
              go_roundw
              case rel => exact ⟨b + 1, by omega, by go_num, by rw [HS2.out, HLB.out]; exact HO5.out, HB5.out⟩
              case measure => simp [intOf]; omega
            · rw [hd] at td3
              have HS2 : Hid (bkL f.blocks h (b + 1) = bkL f.blocks h b ++ [b]) := Lib.hid (by rw [HSC.out, hd]; unfold ldB; rw [hl]; simp)
              clear hl hd
              go_wp2_with (at_builtin; refine wpList_append_lies _ rfl (.tmp 46) (.tmp 48) 22 rfl wL.heap.size 3 i0 (.int .i64 0) 1 8 Try.underlying22 HI.out.1 HI.out.2.1 HI.out.2.2.1 HI.out.2.2.2 rfl (by decide) _ lb _ rfl (HO5.out.alloc _) ⟨w5.heap.size, 0, none⟩ 1 1 [.int .i64 (b : Int)] rfl rfl ?e1 ?e2 (by decide) ?e3 ?e4 ?e5 (w5.heap.size + 1) ?e6 ?_)
              case e1 => exact news_one_add w5 _ _ rfl
              case e2 => exact ints_oneCell .i64 [(b : Int)]
              case e3 => unfold maxLen; omega
              case e4 => omega
              case e5 => simp; omega
              case e6 => simp
              intro g7 cap w7 hown7 hgrow7 hloc7 hlt7
              have hgr : GroD w5 w7 (.slice Ab lb cb) (.slice (some ⟨g7, 0, none⟩) (lb + 1) cap) := groD_append hgrow7 hloc7
              have HB7 : Hid (Below wL.heap.size wL w7) := Lib.hid (HB5.out.trans ((hgr.fr (X := fun y => (Value.slice Ab lb cb).ownBlock = some y) (FrX.refl _ _) (fun g hg => .inl hg)).below HB5.out.size (fun k hk => (HO5.out.lt k hk).1)))
              have HO7 : Hid (w7.ownsRow wL.heap.size 3 1 (.slice (some ⟨g7, 0, none⟩) (lb + 1) cap) (bkL f.blocks h (b + 1)).length ((bkL f.blocks h (b + 1)).map fun y : Nat => Value.int .i64 (y : Int))) := Lib.hid (by rw [HS2.out, List.length_append, List.map_append, HLB.out]; simpa using hown7)
              clear hown7 hgrow7 hloc7 hlt7 hgr
              go_wp2_with fail
              go_roundw
              case rel => exact ⟨b + 1, by omega, by go_num, HO7.out, HB7.out⟩
              case measure => simp [intOf]; omega
        · obtain rfl : b = f.blocks.length := by omega
          have hRk := HR.out.below hb
          have HRK := Lib.hid hRk
          by_cases hz : (bkL f.blocks h f.blocks.length).length = 0
          · have hdk : hdB f.blocks h = false := bk_none hhl hz
            have HS2 : Hid (hdL f.blocks (h + 1) = hdL f.blocks h) := Lib.hid (by rw [hdL_succ, hdk]; simp)
            rw [hz]
            clear ho hb hbq hRk hdk hz hll hbn hbl
            go_wp2_with fail
            go_roundw
            case rel => exact ⟨h + 1, m, U, hs, by omega, by go_num, Lib.hid (by rw [HS2.out]; exact hm.out), by rw [HS2.out]; exact HH.out, HRK.out, HBQ.out⟩
            case measure => simp [intOf]; omega
          · have hdk : hdB f.blocks h = true := bk_some hhl hz
            have HDK := Lib.hid hdk
            obtain ⟨lb, hlb⟩ : ∃ lb, (bkL f.blocks h f.blocks.length).length = lb := ⟨_, rfl⟩
            rw [hlb] at hll hz ⊢
            have HLB := Lib.hid hlb
            have hz0 : (0 : Int) < lb := by omega
            have hzz : ((lb : Int) == 0) = false := by rw [beq_eq_false_iff_ne]; omega
            have hwk3 := hbq.size
            have HWK3 := Lib.hid hwk3
            clear ho hb hbq hRk hdk hlb hz hbn hbl
            go_wp2_with fail
            obtain ⟨L, hL⟩ : ∃ L, L = wk.heap.size := ⟨_, rfl⟩
            obtain ⟨wA, hwA⟩ : ∃ wA, wA = wk.alloc (.cells #[.int .i64 (h : Int), .slice none 0 0, .slice none 0 0] 31) := ⟨_, rfl⟩
            have hbA : wA.heap[L]? = some (.cells #[.int .i64 (h : Int), .slice none 0 0, .slice none 0 0] 31) := by rw [hwA, hL]; exact heap_alloc_new _ _
            have hbelA : Below wk.heap.size wk wA := by rw [hwA]; exact (Below.refl _ _).alloc (Nat.le_refl _) _
            have hszA : wA.heap.size = L + 1 := by rw [hwA, hL]; simp
            have HLL : Hid (wk.heap.size = L ∧ wA.heap.size = L + 1) := Lib.hid ⟨hL.symm, hszA⟩
            have HBA := Lib.hid hbA
            have HBELA := Lib.hid hbelA
            have HOB : Hid (∀ W, Below L wk W → ∀ k, k < lb → ∃ g y, Ab = some ⟨g, 0, none⟩ ∧ (bkL f.blocks h f.blocks.length)[k]? = some y ∧ y < f.blocks.length ∧ W.cell? ⟨g, k, none⟩ = some (.int .i64 (y : Int))) := Lib.hid (fun W hW k hk => by
              have h1 := HO.out
              rw [HLB.out] at h1
              have hx : (bkL f.blocks h f.blocks.length)[k]? = some _ := List.getElem?_eq_getElem (by rw [HLB.out]; exact hk)
              rcases h1.2 with ⟨h0, _⟩ | ⟨g, cap, cur, hv2, -⟩
              · omega
              · cases hv2
                refine ⟨g, _, rfl, hx, bkL_lt (List.mem_of_getElem? hx), ?_⟩
                refine (hW.cell (p := ⟨g, k, none⟩) (by have := (h1.lt g rfl).2; have := HLL.out; show g < L; omega)).trans ?_
                rw [h1.cellAt k (by omega), List.getElem?_map, hx]; rfl)
            rw [← hwA, ← hL]
            clear hwA hL hbA hbelA hszA
            go_wp2_with fail
            go_loopw [11] (fun s11 wq => ∃ (b : Nat) (U2 : Nat → Value), b ≤ f.blocks.length ∧ s11 = .int .i64 (b : Int) ∧ wq.heap[L]? = some (.cells #[.int .i64 (h : Int), U2 0, U2 1] 31) ∧ PoolD wq (L + 1) 2 U2 (fun t => if t = 0 then intR (lbL f.blocks h b) else intR (enR f.blocks h b)) ∧ Below L wk wq ∧ L + 1 ≤ wq.heap.size) (fun s11 _ => f.blocks.length - (intOf s11).toNat)
            case atStart => exact ⟨0, fun _ => .slice none 0 0, Nat.zero_le _, rfl, HBA.out, ⟨fun i hi => by
              by_cases e : i = 0
              · rw [if_pos e]; exact World.ownsRow_nil _ _ _ _
              · rw [if_neg e]; exact World.ownsRow_nil _ _ _ _, fun i j hi hj hij => .inl rfl⟩, by have h1 := HBELA.out; rw [HLL.out.1] at h1; exact h1, by have := HLL.out; omega⟩
            case round =>
              obtain ⟨b, U2, hbn, rfl, hbx, hP, hb, hsz⟩ := hrel
              obtain ⟨wb, rfl⟩ : ∃ wb, wb = wr := ⟨_, rfl⟩
              have HBX := Lib.hid hbx
              have HP := Lib.hid hP
              have HBL := Lib.hid hb
              have HSZ := Lib.hid hsz
              have hb3 : Below w3.heap.size w3 wb := HBQ.out.trans (hb.mono (by have := HLL.out; have := HWK3.out; omega))
              have HB3b := Lib.hid hb3
              by_cases hbl : b < f.blocks.length
              · obtain ⟨c0, c1, c2, c3⟩ := HCC.out wb hb3
                have hfr := from_any f (b : Int) (h : Int) _ wb (HVW.out wb hb3) hn
                have HFRM := Lib.hid hfr
                have hE : (((b : Nat) : Int) == ((h : Nat) : Int)) = decide (b = h) := by rw [Bool.eq_iff_iff, beq_iff_eq, decide_eq_true_iff]; omega
                have hb0 : (0 : Int) ≤ b := by omega
                have hb1 : (b : Int) < f.blocks.length := by omega
                clear hbx hP hb hsz hb3 hfr
                go_wp2_with fail
                refine HFRM.out.mono ?_
                rintro e w5 ⟨⟨Hf, rfl, hHf, hrf⟩, hb5⟩
                have HB5 := Lib.hid hb5
                have HRF := Lib.hid hrf
                have HHF := Lib.hid hHf
                clear hb5 hrf hHf c0 c1 c2 c3
                clear hE
                go_wp2_with fail
                go_loopw [12, 14] (fun s12 s14 wq => ∃ k : Nat, k ≤ lb ∧ s14 = .int .i64 (k : Int) ∧ s12 = .bool (inB f.blocks h b k) ∧ wq = w5) (fun _ s14 _ => lb - (intOf s14).toNat)
                case atStart => exact ⟨0, Nat.zero_le _, rfl, by rw [inB_zero], rfl⟩
                case round =>
                  obtain ⟨k, hk, rfl, rfl, hww⟩ := hrel
                  subst hww
                  have hb35 : Below w3.heap.size w3 wr := HB3b.out.trans (HB5.out.mono HB3b.out.size)
                  have hbL5 : Below L wk wr := HBL.out.trans (HB5.out.mono (by have := HSZ.out; omega))
                  by_cases hkl : k < lb
                  · obtain ⟨g, y, rfl, hy, hyn, cy⟩ := HOB.out wr hbL5 k hkl
                    have cr := HRC.out wr hb35 b hbl
                    have cf := HRF.out.cell hyn
                    have HS := Lib.hid (inB_succ (b := b) hy)
                    have hy0 : (0 : Int) ≤ y := by omega
                    have hy1 : (y : Int) < f.blocks.length := by omega
                    have hk0 : (0 : Int) ≤ k := by omega
                    have hk1 : (k : Int) < lb := by omega
                    clear hy hb35 hbL5
                    generalize inB f.blocks h b k = y1 at *
                    generalize reachF f.blocks b = y2 at *
                    generalize fromB f.blocks (b : Int) (h : Int) y = y3 at *
                    cases y1 <;> cases y2 <;> cases y3
                    all_goals (
                      go_wp2_with fail
                      go_roundw
                      case rel => exact ⟨k + 1, by omega, by go_num, by rw [HS.out]; rfl, trivial⟩
                      case measure => simp [intOf]; omega)
                  · obtain rfl : k = lb := by omega
                    have hin : inB f.blocks h b k = lpB f.blocks h b := inB_all hhl HDK.out (by rw [HLB.out]; exact Nat.le_refl _)
                    rw [hin]
                    obtain ⟨c0, c1, c2, c3⟩ := HCC.out wr hb35
                    obtain ⟨kb, hkb, hto⟩ := ld_get hbl
                    have hld := leads_any f b kb (h : Int) _ wr (HVW.out wr hb35) hkb
                    rw [hto] at hld
                    have HLD := Lib.hid hld
                    have HB35 := Lib.hid hb35
                    have HBL5 := Lib.hid hbL5
                    have hbx5 : wr.heap[L]? = some (.cells #[.int .i64 (h : Int), U2 0, U2 1] 31) := (HB5.out.block L (by have := HSZ.out; omega)).trans HBX.out
                    have HP5 := Lib.hid (PoolD.go HP.out (fun k _ hk => HB5.out.block k hk))
                    have HBX5 := Lib.hid hbx5
                    have hz5 := HB5.out.size
                    clear hin hkb hto hld hb35 hbL5 hbx5
                    go_wp2_with fail
                    refine HLD.out.mono ?_
                    rintro e w6 ⟨rfl, hb6⟩
                    have hsz6 : L + 1 ≤ w6.heap.size := by have := HSZ.out; have := hb6.size; omega
                    have hbx6 : w6.heap[L]? = some (.cells #[.int .i64 (h : Int), U2 0, U2 1] 31) := (hb6.block L (by have := HSZ.out; omega)).trans HBX5.out
                    have HBX6 := Lib.hid hbx6
                    have HP6 := Lib.hid (PoolD.go HP5.out (fun k _ hk => hb6.block k hk))
                    have HB36 : Hid (Below w3.heap.size w3 w6) := Lib.hid (HB35.out.trans (hb6.mono HB35.out.size))
                    have HBL6 : Hid (Below L wk w6) := Lib.hid (HBL5.out.trans (hb6.mono (by have := HSZ.out; omega)))
                    have HLS := Lib.hid (lbL_succ f.blocks h b)
                    have HES := Lib.hid (enR_succ f.blocks h b)
                    obtain ⟨t0, t1, t2, z0, z1, z2⟩ := lp_cells hbx6
                    clear hb6 hbx6 HLD c0 c1 c2 c3
                    cases hl : lpB f.blocks h b
                    · have cr := HRC.out w6 HB36.out b hbl
                      have HLS2 : Hid (lbL f.blocks h (b + 1) = lbL f.blocks h b) := Lib.hid (by rw [HLS.out, hl]; simp)
                      have HEB : Hid (enB f.blocks h b = (hasTo (h : Int) (tosOf f.blocks b) && reachF f.blocks b)) := Lib.hid (by unfold enB ldB; rw [hl]; simp)
                      clear hl
                      obtain ⟨y0, hy0⟩ : ∃ y0, (hasTo (h : Int) (tosOf f.blocks b) && reachF f.blocks b) = y0 := ⟨_, rfl⟩
                      generalize hasTo (h : Int) (tosOf f.blocks b) = y1 at *
                      generalize reachF f.blocks b = y2 at *
                      cases y0
                      · have HES2 : Hid (enR f.blocks h (b + 1) = enR f.blocks h b) := Lib.hid (by rw [HES.out, HEB.out, hy0]; simp)
                        clear z0 z1 z2 t0 t1 t2
                        cases y1 <;> cases y2
                        · go_wp2_with fail
                          go_roundw
                          case rel => exact ⟨b + 1, U2, by omega, by go_num, HBX6.out, by rw [HLS2.out, HES2.out]; exact HP6.out, HBL6.out, hsz6⟩
                          case measure => simp [intOf]; omega
                        · go_wp2_with fail
                          go_roundw
                          case rel => exact ⟨b + 1, U2, by omega, by go_num, HBX6.out, by rw [HLS2.out, HES2.out]; exact HP6.out, HBL6.out, hsz6⟩
                          case measure => simp [intOf]; omega
                        · go_wp2_with fail
                          go_roundw
                          case rel => exact ⟨b + 1, U2, by omega, by go_num, HBX6.out, by rw [HLS2.out, HES2.out]; exact HP6.out, HBL6.out, hsz6⟩
                          case measure => simp [intOf]; omega
                        · cases hy0
                      · have HES2 : Hid (enR f.blocks h (b + 1) = enR f.blocks h b ++ [b]) := Lib.hid (by rw [HES.out, HEB.out, hy0]; simp)
                        obtain ⟨rfl, rfl⟩ : y1 = true ∧ y2 = true := by cases y1 <;> cases y2 <;> simp at hy0 ⊢
                        obtain ⟨AI, cI, hUI⟩ := own_sliceL (show w6.ownsRow (L + 1) 3 1 (U2 1) (enR f.blocks h b).length _ from HP6.out.own 1 (by omega))
                        obtain ⟨lI, hlI⟩ : ∃ lI, (enR f.blocks h b).length = lI := ⟨_, rfl⟩
                        have hlI2 : lI ≤ 1000 := by rw [← hlI]; have := enR_len f.blocks h b; omega
                        have hown : w6.ownsRow (L + 1) 3 1 (U2 1) (enR f.blocks h b).length ((enR f.blocks h b).map fun y : Nat => Value.int .i64 (y : Int)) := HP6.out.own 1 (by omega)
                        have HOI : Hid (w6.ownsRow (L + 1) 3 1 (.slice AI lI cI) lI ((enR f.blocks h b).map fun y : Nat => Value.int .i64 (y : Int))) := Lib.hid (by rw [hUI, hlI] at hown; exact hown)
                        have HLI := Lib.hid hlI
                        have HUI := Lib.hid hUI
                        rw [hUI, hlI] at t2
                        clear hy0 hown hUI hlI t0 t1 z0 z1
                        go_wp2_with (at_builtin; refine wpList_append_lies _ rfl (.tmp 109) (.tmp 111) 22 rfl (L + 1) 3 i0 (.int .i64 0) 1 8 Try.underlying22 HI.out.1 HI.out.2.1 HI.out.2.2.1 HI.out.2.2.2 rfl (by decide) _ lI ((enR f.blocks h b).map fun y : Nat => Value.int .i64 (y : Int)) rfl (HOI.out.alloc _) ⟨w6.heap.size, 0, none⟩ 1 1 [.int .i64 (b : Int)] rfl rfl ?e1 ?e2 ?e0 ?e3 ?e4 ?e5 (w6.heap.size + 1) ?e6 ?_)
                        case e1 => exact news_one_add w6 _ _ rfl
                        case e2 => exact ints_oneCell .i64 [(b : Int)]
                        case e0 => omega
                        case e3 => unfold maxLen; omega
                        case e4 => omega
                        case e5 => simp; omega
                        case e6 => simp
                        intro g2 cap2 wC hownC hgrowC hlocC hltC
                        have hgr : GroD w6 wC (U2 1) (.slice (some ⟨g2, 0, none⟩) (lI + 1) cap2) := by rw [HUI.out, HLI.out]; exact groD_append hgrowC hlocC
                        have hbxC : wC.heap[L]? = some (.cells #[.int .i64 (h : Int), U2 0, U2 1] 31) := (hgr.block L (by omega) (fun e => by have := ((HP6.out.own 1 (by omega)).lt L e).1; omega)).trans HBX6.out
                        have hbxN := lp_set2 hbxC (.slice (some ⟨g2, 0, none⟩) (lI + 1) cap2)
                        have hPN := pool2_step (b := b) HP6.out (i := 1) (by omega) rfl hgr (by rw [HLI.out]; simpa using hownC) (.slice (some ⟨g2, 0, none⟩) (lI + 1) cap2) 2
                        have hBN : Below L wk (wC.setCell ⟨L, 2, none⟩ (.slice (some ⟨g2, 0, none⟩) (lI + 1) cap2)) := by
                          have h1 : FrX (fun b => (U2 1).ownBlock = some b) w6 wC := hgr.fr (FrX.refl _ _) (fun g' hg' => .inl hg')
                          have h2 : Below L w6 wC := h1.below (by omega) (fun b hb => by have := ((HP6.out.own 1 (by omega)).lt b hb).1; omega)
                          exact (HBL6.out.trans h2).setCell (by show L ≤ L; omega) _
                        have hzN : L + 1 ≤ (wC.setCell ⟨L, 2, none⟩ (.slice (some ⟨g2, 0, none⟩) (lI + 1) cap2)).heap.size := by have := hgr.size; simp; omega
                        obtain ⟨q0, q1, q2, r0, r1, r2⟩ := lp_cells hbxC
                        have HBXN := Lib.hid hbxN
                        have HPN := Lib.hid hPN
                        have HBN := Lib.hid hBN
                        have HZN := Lib.hid hzN
                        clear hownC hgrowC hlocC hltC hgr hbxC hbxN hPN hBN hzN
                        rw [HUI.out, HLI.out] at q2
                        clear q0 q1 r0 r1
                        go_wp2_with fail
                        go_roundw
                        case rel =>
                          refine ⟨b + 1, updF U2 1 (.slice (some ⟨g2, 0, none⟩) (lI + 1) cap2), by omega, by go_num, ?_, ?_, HBN.out, HZN.out⟩
                          · rw [updF_here, updF_else _ _ (by omega)]; exact HBXN.out
                          · refine PoolD.congr HPN.out (fun _ _ => rfl) fun t ht => ?_
                            by_cases e : t = 1
                            · subst e
                              rw [updF_here]
                              rw [if_neg (by omega), HES2.out]
                            · obtain rfl : t = 0 := by omega
                              rw [updF_else _ _ (by omega)]
                              rw [if_pos rfl, if_pos rfl, HLS2.out]
                        case measure => simp [intOf]; omega
                    · have HLS2 : Hid (lbL f.blocks h (b + 1) = lbL f.blocks h b ++ [b]) := Lib.hid (by rw [HLS.out, hl]; simp)
                      have HES2 : Hid (enR f.blocks h (b + 1) = enR f.blocks h b) := Lib.hid (by rw [HES.out]; unfold enB; rw [hl]; simp)
                      obtain ⟨AI, cI, hUI⟩ := own_sliceL (show w6.ownsRow (L + 1) 3 1 (U2 0) (lbL f.blocks h b).length _ from HP6.out.own 0 (by omega))
                      obtain ⟨lI, hlI⟩ : ∃ lI, (lbL f.blocks h b).length = lI := ⟨_, rfl⟩
                      have hlI2 : lI ≤ 1000 := by rw [← hlI]; have := lbL_len f.blocks h b; omega
                      have hown : w6.ownsRow (L + 1) 3 1 (U2 0) (lbL f.blocks h b).length ((lbL f.blocks h b).map fun y : Nat => Value.int .i64 (y : Int)) := HP6.out.own 0 (by omega)
                      have HOI : Hid (w6.ownsRow (L + 1) 3 1 (.slice AI lI cI) lI ((lbL f.blocks h b).map fun y : Nat => Value.int .i64 (y : Int))) := Lib.hid (by rw [hUI, hlI] at hown; exact hown)
                      have HLI := Lib.hid hlI
                      have HUI := Lib.hid hUI
                      rw [hUI, hlI] at t1
                      clear hown hUI hlI t0 t2 z0 z2 hl
                      go_wp2_with (at_builtin; refine wpList_append_lies _ rfl (.tmp 96) (.tmp 98) 22 rfl (L + 1) 3 i0 (.int .i64 0) 1 8 Try.underlying22 HI.out.1 HI.out.2.1 HI.out.2.2.1 HI.out.2.2.2 rfl (by decide) _ lI ((lbL f.blocks h b).map fun y : Nat => Value.int .i64 (y : Int)) rfl (HOI.out.alloc _) ⟨w6.heap.size, 0, none⟩ 1 1 [.int .i64 (b : Int)] rfl rfl ?e1 ?e2 ?e0 ?e3 ?e4 ?e5 (w6.heap.size + 1) ?e6 ?_)
                      case e1 => exact news_one_add w6 _ _ rfl
                      case e2 => exact ints_oneCell .i64 [(b : Int)]
                      case e0 => omega
                      case e3 => unfold maxLen; omega
                      case e4 => omega
                      case e5 => simp; omega
                      case e6 => simp
                      intro g2 cap2 wC hownC hgrowC hlocC hltC
                      have hgr : GroD w6 wC (U2 0) (.slice (some ⟨g2, 0, none⟩) (lI + 1) cap2) := by rw [HUI.out, HLI.out]; exact groD_append hgrowC hlocC
                      have hbxC : wC.heap[L]? = some (.cells #[.int .i64 (h : Int), U2 0, U2 1] 31) := (hgr.block L (by omega) (fun e => by have := ((HP6.out.own 0 (by omega)).lt L e).1; omega)).trans HBX6.out
                      have hbxN := lp_set1 hbxC (.slice (some ⟨g2, 0, none⟩) (lI + 1) cap2)
                      have hPN := pool2_step (b := b) HP6.out (i := 0) (by omega) rfl hgr (by rw [HLI.out]; simpa using hownC) (.slice (some ⟨g2, 0, none⟩) (lI + 1) cap2) 1
                      have hBN : Below L wk (wC.setCell ⟨L, 1, none⟩ (.slice (some ⟨g2, 0, none⟩) (lI + 1) cap2)) := by
                        have h1 : FrX (fun b => (U2 0).ownBlock = some b) w6 wC := hgr.fr (FrX.refl _ _) (fun g' hg' => .inl hg')
                        have h2 : Below L w6 wC := h1.below (by omega) (fun b hb => by have := ((HP6.out.own 0 (by omega)).lt b hb).1; omega)
                        exact (HBL6.out.trans h2).setCell (by show L ≤ L; omega) _
                      have hzN : L + 1 ≤ (wC.setCell ⟨L, 1, none⟩ (.slice (some ⟨g2, 0, none⟩) (lI + 1) cap2)).heap.size := by have := hgr.size; simp; omega
                      obtain ⟨q0, q1, q2, r0, r1, r2⟩ := lp_cells hbxC
                      have HBXN := Lib.hid hbxN
                      have HPN := Lib.hid hPN
                      have HBN := Lib.hid hBN
                      have HZN := Lib.hid hzN
                      clear hownC hgrowC hlocC hltC hgr hbxC hbxN hPN hBN hzN
                      rw [HUI.out, HLI.out] at q1
                      clear q0 q2 r0 r2
                      go_wp2_with fail
                      go_roundw
                      case rel =>
                        refine ⟨b + 1, updF U2 0 (.slice (some ⟨g2, 0, none⟩) (lI + 1) cap2), by omega, by go_num, ?_, ?_, HBN.out, HZN.out⟩
                        · rw [updF_here, updF_else _ _ (by omega)]; exact HBXN.out
                        · refine PoolD.congr HPN.out (fun _ _ => rfl) fun t ht => ?_
                          by_cases e : t = 0
                          · subst e
                            rw [updF_here]
                            rw [if_pos rfl, HLS2.out]
                          · obtain rfl : t = 1 := by omega
                            rw [updF_else _ _ (by omega)]
                            rw [if_neg (by omega), if_neg (by omega), HES2.out]
                      case measure => simp [intOf]; omega
              · obtain rfl : b = f.blocks.length := by omega
                obtain ⟨t0, t1, t2, -⟩ := lp_cells hbx
                have hRb : RLs wb w3.heap.size m (.slice Av m cv) U hs (fun i => lbL f.blocks (hs i) f.blocks.length) (fun i => enR f.blocks (hs i) f.blocks.length) := HRK.out.below (by rw [HLL.out.1]; exact hb)
                have HRB := Lib.hid hRb
                have HOV : Hid (wb.ownsRow w3.heap.size 31 3 (.slice Av m cv) m ((List.range (3 * m)).map (flF hs U))) := Lib.hid hRb.own
                obtain ⟨AB, cB, hUB⟩ := own_sliceL (show wb.ownsRow (L + 1) 3 1 (U2 0) (lbL f.blocks h f.blocks.length).length _ from HP.out.own 0 (by omega))
                obtain ⟨AE, cE, hUE⟩ := own_sliceL (show wb.ownsRow (L + 1) 3 1 (U2 1) (enR f.blocks h f.blocks.length).length _ from HP.out.own 1 (by omega))
                obtain ⟨lB, hlB⟩ : ∃ lB, (lbL f.blocks h f.blocks.length).length = lB := ⟨_, rfl⟩
                obtain ⟨lE, hlE⟩ : ∃ lE, (enR f.blocks h f.blocks.length).length = lE := ⟨_, rfl⟩
                rw [hUB, hlB] at t1
                rw [hUE, hlE] at t2
                have HUB := Lib.hid hUB
                have HUE := Lib.hid hUE
                have HLB2 := Lib.hid hlB
                have HLE2 := Lib.hid hlE
                have HS2 : Hid (hdL f.blocks (h + 1) = hdL f.blocks h ++ [h]) := Lib.hid (by rw [hdL_succ, HDK.out]; simp)
                clear hbx hP hb hb3 hRb hUB hUE hlB hlE hbn hbl
                go_wp2_with (at_builtin; refine wpList_append_lies _ rfl (.tmp 114) (.tmp 116) 28 rfl w3.heap.size 31 i1 (.agg #[.int .i64 0, .slice none 0 0, .slice none 0 0]) 3 56 Try.underlying28 HI1.out.1 HI1.out.2.1 HI1.out.2.2.1 HI1.out.2.2.2 rfl (by decide) _ m ((List.range (3 * m)).map (flF hs U)) rfl (HOV.out.alloc _) ⟨wb.heap.size, 0, none⟩ 1 1 [.int .i64 (h : Int), .slice AB lB cB, .slice AE lE cE] rfl rfl (news_cells wb #[.int .i64 (h : Int), .slice AB lB cB, .slice AE lE cE] _ rfl) (by simp [Value.oneCell']) (by decide) ?e3 ?e4 ?e5 (wb.heap.size + 1) ?e6 ?_)
                case e3 => unfold maxLen; omega
                case e4 => omega
                case e5 => have := HWK3.out; have := HLL.out; simp; omega
                case e6 => simp
                intro g cap w6 hown6 hgrow6 hloc6 hlt6
                have hgr : GroD wb w6 (.slice Av m cv) (.slice (some ⟨g, 0, none⟩) (m + 1) cap) := groD_append hgrow6 hloc6
                have hRK2 : RLs wk w3.heap.size m (.slice Av m cv) U hs (fun i => lbL f.blocks (updF hs m h i) f.blocks.length) (fun i => enR f.blocks (updF hs m h i) f.blocks.length) := HRK.out.congr (fun _ _ => rfl) (fun i hi => by rw [updF_else _ _ (by omega)]) (fun i hi => by rw [updF_else _ _ (by omega)])
                have hRN := RLs.push (b := h) hRK2 (K := w3.heap.size) (w5 := wb) (w7 := w6) (vB := U2 0) (vE := U2 1) (v' := .slice (some ⟨g, 0, none⟩) (m + 1) cap)
                  HWK3.out (by rw [HLL.out.1]; exact HBL.out)
                  (by rw [updF_here]; exact owns_mono_ (show wb.ownsRow (L + 1) 3 1 (U2 0) _ _ from HP.out.own 0 (by omega)) (by have := HLL.out; omega))
                  (by rw [updF_here]; exact owns_mono_ (show wb.ownsRow (L + 1) 3 1 (U2 1) _ _ from HP.out.own 1 (by omega)) (by have := HLL.out; omega))
                  hgr (by rw [HUB.out, HUE.out, HLB2.out, HLE2.out]; simpa using hown6)
                have hB6 : Below w3.heap.size w3 w6 := HB3b.out.trans ((hgr.fr (X := fun y => (Value.slice Av m cv).ownBlock = some y) (FrX.refl _ _) (fun g hg => .inl hg)).below HB3b.out.size (fun k hk => (HOV.out.lt k hk).1))
                have hHN : ∀ i, i < m + 1 → (hdL f.blocks (h + 1))[i]? = some (updF hs m h i) := fun i hi => by
                  rw [HS2.out]
                  by_cases e : i = m
                  · subst e; rw [updF_here, List.getElem?_append_right (by rw [hm.out]; omega), hm.out]; simp
                  · rw [updF_else _ _ e, List.getElem?_append_left (by rw [hm.out]; omega)]; exact HH.out i (by omega)
                have HRN := Lib.hid hRN
                have HB6 := Lib.hid hB6
                have HHN := Lib.hid hHN
                clear hown6 hgrow6 hloc6 hlt6 hgr hRK2 hRN hB6 hHN t0 t1 t2
                go_wp2_with fail
                go_roundw
                case rel => exact ⟨h + 1, m + 1, _, updF hs m h, by omega, by go_num, Lib.hid (by rw [HS2.out, List.length_append, hm.out]; rfl), HHN.out, HRN.out, HB6.out⟩
                case measure => simp [intOf]; omega
    · obtain rfl : h = f.blocks.length := by omega
      clear hR hH hb
      go_wp2_with fail
      go_ret
      exact ⟨⟨_, U, hs, rfl, by rw [hm.out]; exact HH.out, by rw [hm.out]; exact HR.out.mono (by have := HB3.out.size; have := HS1.out; omega)⟩, HB1.out.trans ((HB3.out.trans (HB.out.mono HB3.out.size)).mono (by have := HS1.out; omega))⟩
end Go.Proofs.Ytflbooopgjgkbaa
