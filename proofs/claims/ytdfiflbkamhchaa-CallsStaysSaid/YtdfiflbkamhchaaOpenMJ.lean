/- The reference's Same of two modules. -/
import Derived.Test.YtdfiflbkamhchaaSameFJ
import Derived.Test.YtdfiflbkamhchaaCaZJ
import Derived.Test.YtdfiflbkamhchaaAheadLJ
import Derived.ProofKit
namespace Go.Proofs.Ytdfiflbkamhchaa
open Go.ChangeShapes Go.WideShapes Go.RowKit Go.Deep
set_option linter.unusedVariables false

set_option maxRecDepth 100000 in
set_option maxHeartbeats 8000000 in
theorem same_any (x y : List FunD) (v u : Value) (w : World) (hv : VMod w v x) (hu : VMod w u y) :
    Calls Try.prog 23 #[v, u] w fun e w' => e = .returned (.bool (same x y)) ∧ Below w.heap.size w w' := by
  obtain ⟨Ab, cb, rfl, hb⟩ := hv
  obtain ⟨Bb, db, rfl, kb⟩ := hu
  have hbl := hb.len
  have kbl := kb.len
  have hB : Below w.heap.size w ((w.alloc (.cells #[.slice Ab x.length cb] 24)).alloc (.cells #[.slice Bb y.length db] 24)) := ((Below.refl _ _).alloc (Nat.le_refl _) _).alloc (by simp) _
  have hK := kept_of_below hB
  by_cases e3 : x.length = y.length
  · have e3' : ((x.length : Int) != y.length) = false := by simp [e3]
    have E3 := Lib.hid e3
    clear e3
    go_enter Try.func23, Try.ntmps23
    go_wp2_with fail
    obtain ⟨w1, hw1⟩ : ∃ w1, w1 = (w.alloc (.cells #[.slice Ab x.length cb] 24)).alloc (.cells #[.slice Bb y.length db] 24) := ⟨_, rfl⟩
    have gx3 : w1.cell? ⟨w.heap.size, 0, none⟩ = some (.slice Ab x.length cb) := by rw [hw1]; simp
    have gy3 : w1.cell? ⟨w.heap.size + 1, 0, none⟩ = some (.slice Bb y.length db) := by rw [hw1]; simp
    rw [← hw1] at hB hK ⊢
    clear hw1
    have hb0 : Below w1.heap.size w1 w1 := Below.refl _ _
    go_loopw [5] (fun i wr => ∃ k : Nat, k ≤ x.length ∧ i = .int .i64 k ∧ Below w1.heap.size w1 wr ∧ Hid (x.take k = y.take k)) (fun i _ => x.length - (intOf i).toNat)
    case atStart => exact ⟨0, Nat.zero_le _, rfl, hb0, Lib.hid rfl⟩
    case round =>
      obtain ⟨k, hk, rfl, hbel, hi2⟩ := hrel
      have hkr : Kept w1 wr := kept_of_below hbel
      have hx3 := hkr _ _ gx3
      have hy3 := hkr _ _ gy3
      have hBr : Below w.heap.size w wr := hB.trans (hbel.mono hB.size)
      by_cases hlt : k < x.length
      · have hlt2 : k < y.length := by have := E3.out; omega
        obtain ⟨b1, o1, p, rfl, hp1, ⟨h1, i1⟩, ⟨h2, i2⟩, ⟨A3, c3, h3, g3⟩, A4, c4, h4, g4⟩ := (SFuns.keep (hK.trans hkr) hb).at_ hlt
        obtain ⟨b2, o2, q, rfl, hq1, ⟨k1, l1⟩, ⟨k2, l2⟩, ⟨B3, d3, k3, j3⟩, B4, d4, k4, j4⟩ := (SFuns.keep (hK.trans hkr) kb).at_ hlt2
        have hk0 : (0 : Int) ≤ k := by omega
        have hk1 : (k : Int) < x.length := by omega
        have hk2 : (k : Int) < y.length := by omega
        go_wp2_with fail
        go_still_tail 10, (by kernel_rfl)
        change wpList _ _ _ _ _ wr.drew
        have hvp : VFun wr.drew (.agg #[.int .i64 p.params, .int .i64 p.result, .slice A3 p.regs.length c3, .slice A4 p.blocks.length c4]) p := ⟨A3, c3, A4, c4, rfl, g3, g4, i1, i2⟩
        have hvq : VFun wr.drew (.agg #[.int .i64 q.params, .int .i64 q.result, .slice B3 q.regs.length d3, .slice B4 q.blocks.length d4]) q := ⟨B3, d3, B4, d4, rfl, j3, j4, l1, l2⟩
        have hbd : Below w1.heap.size w1 wr.drew := hbel.drew
        have hBd : Below w.heap.size w wr.drew := hBr.drew
        generalize wr.drew = w2 at *
        go_wp2_with fail
        refine (sameFunc_any p q _ _ _ hvp hvq).mono ?_
        rintro e w3 ⟨rfl, hb3⟩
        have hb3' : Below w1.heap.size w1 w3 := hbd.trans (hb3.mono hbd.size)
        have hB3 : Below w.heap.size w w3 := hBd.trans (hb3.mono hBd.size)
        cases hs : same p q
        · have E2 : Hid (same x y = false) := Lib.hid (same_no (fun e => ne_at hp1.out hq1.out (fun e2 => by have := same_yes e2; rw [hs] at this; cases this) (by rw [e])))
          clear hs
          go_wp2_with fail
          go_ret
          exact ⟨by rw [E2.out]; rfl, hB3⟩
        · have HS := Lib.hid (same_iff.1 hs)
          clear hs
          go_wp2_with fail
          go_roundw
          case rel => exact ⟨k + 1, by omega, by go_num, hb3', Lib.hid (take_snoc_eq hi2.out hp1.out hq1.out HS.out)⟩
          case measure => simp [intOf]; omega
      · have HP := Lib.hid (take_len_eq hi2.out (Nat.le_of_not_lt hlt) (by have := E3.out; omega))
        go_wp2_with fail
        go_ret
        exact ⟨by rw [same_yes HP.out]; rfl, hBr⟩
  · have e3' : ((x.length : Int) != y.length) = true := by rw [bne_iff_ne]; omega
    have E2 : Hid (same x y = false) := Lib.hid (same_no (fun e => e3 (by rw [e])))
    clear e3
    go_enter Try.func23, Try.ntmps23
    go_wp2_with fail
    go_ret
    exact ⟨by rw [E2.out]; rfl, hB⟩
end Go.Proofs.Ytdfiflbkamhchaa

/- The walk of CallsStays. -/
namespace Go.Proofs.Ytdfiflbkamhchaa
open Go.ChangeShapes Go.WideShapes Go.RowKit Go.Deep
set_option linter.unusedVariables false

/-- What was told of waves, while it is written over. -/
structure StW (w7 : World) (K K2 : Nat) (U Vr : Nat → Value) (rs lx : List (List Nat)) (W : World) : Prop where
  b : Below K w7 W
  pool : PoolD W K2 (1 + lx.length) U (wvT Vr lx U)
  ring : ∀ (j : Nat) (r : List Nat), rs[j]? = some r → ∃ g cap, Vr j = .slice (some ⟨g, 0, none⟩) r.length cap ∧ K ≤ g ∧ g < K2 ∧ ∀ k, k < r.length → (∃ u, W.cell? ⟨g, k, none⟩ = some u) ∧ W.frozen? ⟨g, k, none⟩ = false
theorem StW.put {w7 W : World} {K K2 : Nat} {U Vr : Nat → Value} {rs lx : List (List Nat)} (h : StW w7 K K2 U Vr rs lx W) {g k : Nat} (h1 : K ≤ g) (h2 : g < K2) (v : Value) : StW w7 K K2 U Vr rs lx (W.setCell ⟨g, k, none⟩ v) := by
  refine ⟨h.b.setCell (by exact h1) _, h.pool.go fun y hy _ => Below.heap_setCell _ _ _ _ (by show y ≠ g; omega), fun j r hj => ?_⟩
  obtain ⟨g', cap, e1, e2, e3, e4⟩ := h.ring j r hj
  refine ⟨g', cap, e1, e2, e3, fun q hq => ⟨?_, by rw [World.frozen?_setCell]; exact (e4 q hq).2⟩⟩
  obtain ⟨u, hu⟩ := (e4 q hq).1
  by_cases e : (⟨g, k, none⟩ : Addr) = ⟨g', q, none⟩
  · rw [← e] at hu ⊢
    exact ⟨v, World.cell?_setCell_same _ _ _ hu⟩
  · exact ⟨u, (World.cell?_setCell_other _ _ _ _ e).trans hu⟩
theorem StW.of {w5 w6 w7 : World} {K2 : Nat} {U Vr : Nat → Value} {rs lx : List (List Nat)} (hP : PoolD w6 K2 (1 + lx.length) U (wvT Vr lx U)) (hne : ∀ r ∈ rs, r ≠ [])
    (hr : ∀ (i : Nat) (r : List Nat), rs[i]? = some r → w6.ownsRow w5.heap.size 3 1 (Vr i) r.length (natV r) ∧ ∀ g, (Vr i).ownBlock = some g → g < K2) (h7 : Below w6.heap.size w6 w7) : StW w7 w5.heap.size K2 U Vr rs lx w7 := by
  refine ⟨Below.refl _ _, hP.go fun k _ hk => h7.block k hk, fun j r hj => ?_⟩
  obtain ⟨h1, h2⟩ := hr j r hj
  have h0 : 0 < r.length := by cases hq : r with | nil => exact absurd hq (hne _ (List.mem_of_getElem? hj)) | cons a l => simp
  obtain ⟨g, cap, hv⟩ : ∃ g cap, Vr j = .slice (some ⟨g, 0, none⟩) r.length cap := by
    rcases h1.2 with ⟨_, hz⟩ | ⟨g, c, cur, e, -⟩
    · omega
    · exact ⟨g, c, e⟩
  rw [hv] at h1 h2
  have hlt := h1.lt g rfl
  refine ⟨g, cap, hv, hlt.1, h2 g rfl, fun k hk => ⟨⟨_, (h7.cell (p := ⟨g, k, none⟩) hlt.2).trans ((h1.cellAt k (by omega)).trans (List.getElem?_eq_getElem (by rw [natV_len]; exact hk)))⟩, ?_⟩⟩
  rw [World.frozen?_of_block (h7.block g hlt.2)]
  exact h1.frozenAt k

theorem StW.row0 {w7 W : World} {K K2 : Nat} {U Vr : Nat → Value} {rs lx : List (List Nat)} (h : StW w7 K K2 U Vr rs lx W) {i : Nat} (hi : i < lx.length) {A0 : Option Addr} {n c0 : Nat} (hU : U 0 = .slice A0 n c0) : ∃ g0, A0 = some ⟨g0, 0, none⟩ ∧ W.cell? ⟨g0, i, none⟩ = some (U (1 + i)) := by
  have h0 : W.ownsRow K2 54 1 (U 0) lx.length ((List.range lx.length).map fun j => U (1 + j)) := h.pool.own 0 (by omega)
  obtain ⟨g0, cap0, u0, hV0, hu0, hc, -⟩ := own_cellD h0 hi
  rw [hU] at hV0
  simp only [Value.slice.injEq] at hV0
  rw [List.getElem?_map, List.getElem?_range hi] at hu0
  exact ⟨g0, hV0.1, by rw [hc, ← Option.some.inj hu0]⟩
theorem StW.row1 {w7 W : World} {K K2 : Nat} {U Vr : Nat → Value} {rs lx : List (List Nat)} (h : StW w7 K K2 U Vr rs lx W) {i k j : Nat} {l : List Nat} (hl : lx[i]? = some l) (hj : l[k]? = some j) {A : Option Addr} {n c : Nat} (hU : U (1 + i) = .slice A n c) : ∃ g, A = some ⟨g, 0, none⟩ ∧ W.cell? ⟨g, k, none⟩ = some (Vr j) := by
  have hi := (List.getElem?_eq_some_iff.1 hl).1
  have h0 : W.ownsRow K2 34 1 (U (1 + i)) l.length (l.map Vr) := by
    have h1 := h.pool.own (1 + i) (by omega)
    have e : wvT Vr lx U (1 + i) = ⟨34, 1, l.length, l.map Vr⟩ := by
      unfold wvT
      rw [if_neg (by omega), show 1 + i - 1 = i by omega, List.getD_eq_getElem?_getD, hl]; rfl
    rw [e] at h1
    exact h1
  obtain ⟨g0, cap0, u0, hV0, hu0, hc, -⟩ := own_cellD h0 (List.getElem?_eq_some_iff.1 hj).1
  rw [hU] at hV0
  simp only [Value.slice.injEq] at hV0
  rw [List.getElem?_map, hj] at hu0
  exact ⟨g0, hV0.1, by rw [hc, ← Option.some.inj hu0]⟩
theorem StW.len1 {w7 W : World} {K K2 : Nat} {U Vr : Nat → Value} {rs lx : List (List Nat)} (h : StW w7 K K2 U Vr rs lx W) {i : Nat} {l : List Nat} (hl : lx[i]? = some l) : ∃ A c, U (1 + i) = .slice A l.length c := by
  have hi := (List.getElem?_eq_some_iff.1 hl).1
  have h1 := h.pool.own (1 + i) (by omega)
  have e : wvT Vr lx U (1 + i) = ⟨34, 1, l.length, l.map Vr⟩ := by
    unfold wvT
    rw [if_neg (by omega), show 1 + i - 1 = i by omega, List.getD_eq_getElem?_getD, hl]; rfl
  rw [e] at h1
  exact own_sliceL h1

set_option maxRecDepth 100000 in
set_option maxHeartbeats 16000000 in
theorem callsStays_walk (m : List FunD) (v : Value) (w : World) (hv : VMod w v m) :
    Calls Try.prog 6 #[v] w fun e w' => e = .returned (.bool true) ∧ Below w.heap.size w w' := by
  have hv0 := hv
  obtain ⟨Am, cm, rfl, hm⟩ := hv
  have HV := Lib.hid hv0
  clear hm hv0
  go_enter Try.func6, Try.ntmps6
  go_upto_region 1 with fail
  obtain ⟨w1, hw1, hs1, hk1, hbel1, hc1, -⟩ := named w #[.slice Am m.length cm] 24
  rw [← hw1]
  have c0 : w1.cell? ⟨w.heap.size, 0, none⟩ = some (.slice Am m.length cm) := hc1 0 _ rfl
  have HB1 := Lib.hid hbel1
  obtain ⟨N, hN⟩ : ∃ N, N = w.heap.size := ⟨_, rfl⟩
  rw [← hN] at c0 ⊢
  clear hw1 hs1 hk1 hc1 hbel1 hN
  go_wp2_with fail
  refine (up9_any w1).mono ?_
  rintro e w2 ⟨rfl, hb2⟩
  have c0 := kept_of_below hb2 _ _ c0
  have HB2 : Hid (Below w.heap.size w w2) := Lib.hid (HB1.out.trans (hb2.mono HB1.out.size))
  clear hb2
  go_wp2_with fail
  refine (small_any m _ w2 (VMod.keep (kept_of_below HB2.out) HV.out)).mono ?_
  rintro e w3 ⟨⟨bs, rfl, hsm⟩, hb3⟩
  have c0 := kept_of_below hb3 _ _ c0
  have HB3 : Hid (Below w.heap.size w w3) := Lib.hid (HB2.out.trans (hb3.mono HB2.out.size))
  cases bs
  · clear hb3 hsm
    go_wp2_with fail
    go_ret
    exact ⟨rfl, HB3.out⟩
  · have HSM := Lib.hid (hsm rfl)
    clear hb3 hsm
    go_wp2_with fail
    refine (copy_any m _ w3 (VMod.keep (kept_of_below HB3.out) HV.out) HSM.out).mono ?_
    rintro e w4 ⟨⟨r, rfl, A1, c1, rfl, hcp⟩, hb4⟩
    have c0 := kept_of_below hb4 _ _ c0
    have HB4 : Hid (Below w.heap.size w w4) := Lib.hid (HB3.out.trans (hb4.mono HB3.out.size))
    have HCP : Hid (SL w4 4 RFun A1 c1 m) := Lib.hid (SL.imp RFunB.plain hcp)
    clear hb4 hcp
    go_upto_region 6 with fail
    obtain ⟨w5, hw5, hs5, hk5, hb5, hc5, -⟩ := named w4 #[.slice A1 m.length c1] 24
    rw [← hw5]
    obtain ⟨O, hO⟩ : ∃ O, O = w4.heap.size := ⟨_, rfl⟩
    have o0 : w5.cell? ⟨w4.heap.size, 0, none⟩ = some (.slice A1 m.length c1) := hc5 0 _ rfl
    rw [← hO] at o0 ⊢
    have c0 := hk5 _ _ c0
    have HB5 : Hid (Below w.heap.size w w5) := Lib.hid (HB4.out.trans (hb5.mono HB4.out.size))
    have HVO : Hid (VMod w5 (.agg #[.slice A1 m.length c1]) m) := Lib.hid ⟨A1, c1, rfl, SFuns.keep hk5 HCP.out⟩
    have HCC : Hid (w5.cell? ⟨N, 0, none⟩ = some (.slice Am m.length cm) ∧ w5.cell? ⟨O, 0, none⟩ = some (.slice A1 m.length c1)) := Lib.hid ⟨c0, o0⟩
    have hSAME : ∀ W, Below w5.heap.size w5 W → Calls Try.prog 23 #[.agg #[.slice A1 m.length c1], .agg #[.slice Am m.length cm]] W fun e w' => e = .returned (.bool true) ∧ Below W.heap.size W w' := fun W hW => by
      have h := same_any m m (.agg #[.slice A1 m.length c1]) (.agg #[.slice Am m.length cm]) W (VMod.keep (kept_of_below hW) HVO.out) (VMod.keep (kept_of_below (HB5.out.trans (hW.mono HB5.out.size))) HV.out)
      rw [show same m m = true from same_yes rfl] at h
      exact h
    have HSAME := Lib.hid hSAME
    clear hw5 hs5 hk5 hb5 hc5 hO hSAME HCP
    go_wp2_with fail
    refine (waves_any m _ w5 HVO.out HSM.out).mono ?_
    rintro e w6 ⟨K2, U, Vr, rs, wv, ix, lx, rfl, hK2, hK3, hRA, hOO, hX, hll, hlx, hP, hrg, hb6⟩
    have HF := Lib.hid (WvF.of hRA hOO hX hll hlx)
    have HP6 := Lib.hid (And.intro hP (And.intro hrg (And.intro hRA.o.ne (And.intro hK2 hb6))))
    have c0 := kept_of_below hb6 _ _ c0
    have o0 := kept_of_below hb6 _ _ o0
    clear hK2 hK3 hRA hOO hX hll hlx hP hrg hb6
    go_wp2_with fail
    refine (rings_any m _ w6 (VMod.keep (kept_of_below HP6.out.2.2.2.2) HVO.out) HSM.out).mono ?_
    rintro e w7 ⟨v7, V7, rs7, l7, rfl, hR7, hK7, hM7, hb7⟩
    have HST := Lib.hid (StW.of HP6.out.1 HP6.out.2.2.1 HP6.out.2.1 hb7)
    have HB7 : Hid (Below w5.heap.size w5 w7) := Lib.hid (HP6.out.2.2.2.2.trans (hb7.mono HP6.out.2.2.2.2.size))
    have HR7 := Lib.hid (And.intro hR7 hK7)
    obtain ⟨A7, c7, rfl⟩ := own_sliceL hM7.row
    obtain ⟨A0, c0', hU0⟩ := own_sliceL (show w7.ownsRow K2 54 1 (U 0) lx.length ((List.range lx.length).map fun j => U (1 + j)) from HST.out.pool.own 0 (by omega))
    have c0 := kept_of_below hb7 _ _ c0
    have o0 := kept_of_below hb7 _ _ o0
    obtain ⟨lw, hlw⟩ : ∃ lw, lw = lx.length := ⟨_, rfl⟩
    have HLW := Lib.hid hlw
    rw [← hlw] at hU0
    have HU0 := Lib.hid hU0
    have hlw40 : lw ≤ 40 := by
      obtain ⟨ws, h1, h2⟩ := HF.out.wo
      have h3 := h1.few
      have h4 := HF.out.ra.few
      have h5 := HSM.out.1
      omega
    rw [hU0]
    clear hR7 hK7 hM7 hb7 hlw hU0
    go_upto_region 10 with fail
    go_loopw [9] (fun s9 wq => ∃ i : Nat, i ≤ lw ∧ s9 = .int .i64 (i : Int) ∧ StW w7 w5.heap.size K2 U Vr rs lx wq) (fun s9 _ => lw - (intOf s9).toNat)
    case atStart => exact ⟨0, Nat.zero_le _, rfl, HST.out⟩
    case round =>
      obtain ⟨i, hi, rfl, hS⟩ := hrel
      obtain ⟨wa, rfl⟩ : ∃ wa, wa = wr := ⟨_, rfl⟩
      have HSa := Lib.hid hS
      by_cases hil : i < lw
      · obtain ⟨l, hl⟩ : ∃ l, lx[i]? = some l := ⟨_, List.getElem?_eq_getElem (by rw [← HLW.out]; exact hil)⟩
        obtain ⟨g0, rfl, d0⟩ := hS.row0 (i := i) (by rw [← HLW.out]; exact hil) HU0.out
        obtain ⟨Ai, ci, hUi⟩ := hS.len1 hl
        obtain ⟨ll, hll⟩ : ∃ ll, ll = l.length := ⟨_, rfl⟩
        rw [← hll] at hUi
        rw [hUi] at d0
        have HUI := Lib.hid hUi
        have HL := Lib.hid (And.intro hl hll)
        have hll40 : ll ≤ 40 := by
          have h1 := nodup_lt (HF.out.nd l (List.mem_of_getElem? hl)) (HF.out.lt l (List.mem_of_getElem? hl))
          have h2 := HF.out.ra.few
          have h3 := HSM.out.1
          omega
        have hi0 : (0 : Int) ≤ i := by omega
        have hi1 : (i : Int) < lw := by omega
        clear hS hl hll hUi
        go_upto_region 13 with fail
        clear d0
        go_loopw [10] (fun s10 wq => ∃ k : Nat, k ≤ ll ∧ s10 = .int .i64 (k : Int) ∧ StW w7 w5.heap.size K2 U Vr rs lx wq) (fun s10 _ => ll - (intOf s10).toNat)
        case atStart => exact ⟨0, Nat.zero_le _, rfl, HSa.out⟩
        case round =>
          obtain ⟨k, hk, rfl, hS⟩ := hrel
          obtain ⟨wb, rfl⟩ : ∃ wb, wb = wr := ⟨_, rfl⟩
          have HSb := Lib.hid hS
          obtain ⟨g0', e0, d0⟩ := hS.row0 (i := i) (by rw [← HLW.out]; exact hil) HU0.out
          simp only [Option.some.injEq, Addr.mk.injEq, and_true] at e0
          subst e0
          rw [HUI.out] at d0
          by_cases hkl : k < ll
          · obtain ⟨j, hj⟩ : ∃ j, l[k]? = some j := ⟨_, List.getElem?_eq_getElem (by rw [← HL.out.2]; exact hkl)⟩
            obtain ⟨gi, rfl, d1⟩ := hS.row1 HL.out.1 hj HUI.out
            have hjr := HF.out.lt l (List.mem_of_getElem? HL.out.1) j (List.mem_of_getElem? hj)
            obtain ⟨g, cap, hVj, hg1, hg2, -⟩ := hS.ring j _ (getD_at [] hjr)
            obtain ⟨lr, hlr⟩ : ∃ lr, lr = (rs.getD j []).length := ⟨_, rfl⟩
            rw [hVj, ← hlr] at d1
            have HJ := Lib.hid (And.intro hj (And.intro hjr (And.intro hVj (And.intro hlr (And.intro hg1 hg2)))))
            have hlr40 : lr ≤ 40 := by
              have h1 := HF.out.ra.len (HF.out.ring hjr)
              have h3 := HSM.out.1
              omega
            have hk0 : (0 : Int) ≤ k := by omega
            have hk1 : (k : Int) < ll := by omega
            clear hS hj hVj hlr hg1 hg2 hjr
            go_upto_region 16 with fail
            clear d0 d1
            go_loopw [11] (fun s11 wq => ∃ q : Nat, q ≤ lr ∧ s11 = .int .i64 (q : Int) ∧ StW w7 w5.heap.size K2 U Vr rs lx wq) (fun s11 _ => lr - (intOf s11).toNat)
            case atStart => exact ⟨0, Nat.zero_le _, rfl, HSb.out⟩
            case round =>
              obtain ⟨q, hq, rfl, hS⟩ := hrel
              obtain ⟨wc, rfl⟩ : ∃ wc, wc = wr := ⟨_, rfl⟩
              have HSc := Lib.hid hS
              obtain ⟨g0', e0, d0⟩ := hS.row0 (i := i) (by rw [← HLW.out]; exact hil) HU0.out
              simp only [Option.some.injEq, Addr.mk.injEq, and_true] at e0
              subst e0
              rw [HUI.out] at d0
              obtain ⟨gi', e1, d1⟩ := hS.row1 HL.out.1 HJ.out.1 HUI.out
              simp only [Option.some.injEq, Addr.mk.injEq, and_true] at e1
              subst e1
              obtain ⟨g', cap', hVj, -, -, hcc⟩ := hS.ring j _ (getD_at [] HJ.out.2.1)
              rw [HJ.out.2.2.1] at hVj d1
              simp only [Value.slice.injEq, Option.some.injEq, Addr.mk.injEq, and_true, true_and] at hVj
              obtain ⟨rfl, rfl⟩ := hVj
              rw [← HJ.out.2.2.2.1] at d1
              by_cases hql : q < lr
              · obtain ⟨⟨u, hu⟩, hfz⟩ := hcc q (by rw [← HJ.out.2.2.2.1]; exact hql)
                have HN := Lib.hid (hS.put (k := q) HJ.out.2.2.2.2.1 HJ.out.2.2.2.2.2 (.int .i64 (-1)))
                have hq0 : (0 : Int) ≤ q := by omega
                have hq1 : (q : Int) < lr := by omega
                clear hS hcc
                go_wp2_with fail
                go_roundw
                case rel => exact ⟨q + 1, by omega, by go_num, HN.out⟩
                case measure => simp [intOf]; omega
              · obtain rfl : lr = q := by omega
                clear hS hcc
                go_wp2_with fail
                go_roundw
                case rel => exact ⟨k + 1, by omega, by go_num, HSc.out⟩
                case measure => simp [intOf]; omega
          · obtain rfl : ll = k := by omega
            clear hS
            go_wp2_with fail
            go_roundw
            case rel => exact ⟨i + 1, by omega, by go_num, HSb.out⟩
            case measure => simp [intOf]; omega
      · obtain rfl : lw = i := by omega
        have hwa : Below w5.heap.size w5 wa := HB7.out.trans HSa.out.b
        have c0 := kept_of_below hwa _ _ HCC.out.1
        have o0 := kept_of_below hwa _ _ HCC.out.2
        have HWA := Lib.hid hwa
        clear hS hwa HP6 HST HSa HU0
        go_wp2_with fail
        refine (waves_told m _ wa (VMod.keep (kept_of_below HWA.out) HVO.out) HSM.out).mono ?_
        rintro e w8 ⟨vx, rs2, lx2, wv2, rfl, hF2, ⟨Ax, cx, rfl, hSX⟩, hb8⟩
        have HB8 : Hid (Below w5.heap.size w5 w8) := Lib.hid (HWA.out.trans (hb8.mono HWA.out.size))
        have c0 := kept_of_below hb8 _ _ c0
        have o0 := kept_of_below hb8 _ _ o0
        have hleq : (wz rs2 lx2).length = lw := by
          have h1 : (wz rs2 lx2).length = lx2.length := by unfold wz; simp
          rw [h1, HLW.out]; exact WvF.len_eq (fun f g h => cF_lt f g h) hF2 HF.out
        have hleq2 : lx2.length = lw := by
          rw [HLW.out]; exact WvF.len_eq (fun f g h => cF_lt f g h) hF2 HF.out
        have HF2 := Lib.hid (And.intro hF2 (And.intro hSX hleq2))
        rw [hleq]
        clear hF2 hSX hb8 hleq hleq2
        go_upto_region 21 with fail
        go_loopw [13] (fun s13 wq => ∃ i : Nat, i ≤ lw ∧ s13 = .int .i64 (i : Int) ∧ wq = w8) (fun s13 _ => lw - (intOf s13).toNat)
        case atStart => exact ⟨0, Nat.zero_le _, rfl, rfl⟩
        case round =>
          obtain ⟨i, hi, rfl, rfl⟩ := hrel
          by_cases hil : i < lw
          · obtain ⟨l, hl⟩ : ∃ l, lx2[i]? = some l := ⟨_, List.getElem?_eq_getElem (by rw [HF2.out.2.2]; exact hil)⟩
            obtain ⟨b1, o1, x1, rfl, hx1, A1', c1', y1, z1⟩ := HF2.out.2.1.at_ (k := i) (by unfold wz; rw [List.length_map, HF2.out.2.2]; exact hil)
            have hx1l : x1 = wzL rs2 l := by
              have h1 := hx1.out
              unfold wz at h1
              rw [List.getElem?_map, hl] at h1
              exact (Option.some.inj h1).symm
            subst hx1l
            obtain ⟨j, t, rfl, hjr⟩ := HF2.out.1.full hl
            obtain ⟨b2, o2, x2, rfl, hx2, A2', c2', y2, z2⟩ := z1.at_ (k := 0) (by unfold wzL; simp)
            have hx2l : x2 = natI (rs2.getD j []) := by
              have h1 := hx2.out
              unfold wzL at h1
              rw [List.getElem?_map] at h1
              exact (Option.some.inj h1).symm
            subst hx2l
            obtain ⟨f, r', hr'⟩ : ∃ f r', rs2.getD j [] = f :: r' := by
              cases hq : rs2.getD j [] with
              | nil => exact absurd hq hjr
              | cons a q => exact ⟨a, q, rfl⟩
            rw [hr'] at z2 y2
            obtain ⟨b3, o3, x3, rfl, hx3, y3, -⟩ := z2.int (k := 0) (by rw [natI_len]; simp)
            have hx3l : x3 = (f : Int) := by
              have h1 := hx3.out
              unfold natI at h1
              exact (Option.some.inj h1).symm
            subst hx3l
            have hl1 : (wzL rs2 (j :: t)).length = t.length + 1 := by unfold wzL; simp
            have hl2 : (natI (f :: r')).length = r'.length + 1 := by unfold natI; simp
            rw [hl1, Nat.mul_one] at y1
            rw [hl2, Nat.zero_mul, Nat.add_zero] at y2
            rw [Nat.add_zero] at y3
            have hn1 : ((t.length + 1 : Nat) : Int) ≠ 0 := by omega
            have hn2 : ((r'.length + 1 : Nat) : Int) ≠ 0 := by omega
            obtain ⟨t1, ht1⟩ : ∃ q, q = t.length + 1 := ⟨_, rfl⟩
            obtain ⟨t2, ht2⟩ : ∃ q, q = r'.length + 1 := ⟨_, rfl⟩
            rw [← ht1] at hn1 y1
            rw [← ht2] at hn2 y2
            have hf1 : ¬ ((f : Int) < 0) := by omega
            have hb1 : ((t1 : Int) == 0) = false := by simpa using hn1
            have hb2 : ((t2 : Int) == 0) = false := by simpa using hn2
            have hb3 : decide ((f : Int) < 0) = false := decide_eq_false hf1
            have ht1p : (0 : Int) < t1 := by omega
            have ht2p : (0 : Int) < t2 := by omega
            have hi0 : (0 : Int) ≤ i := by omega
            have hi1 : (i : Int) < lw := by omega
            clear hl hx1 hx2 hx3 z1 z2 hr' hjr hl1 hl2 ht1 ht2
            go_wp2_with fail
            go_roundw
            case rel => exact ⟨i + 1, by omega, by go_num, trivial⟩
            case measure => simp [intOf]; omega
          · obtain rfl : lw = i := by omega
            have HSA8 := Lib.hid (HSAME.out _ HB8.out)
            clear HSAME
            go_upto_region 25 with fail
            go_wp2_with fail
            refine HSA8.out.mono ?_
            rintro e w9 ⟨rfl, hb9⟩
            have HB9 : Hid (Below w5.heap.size w5 w9) := Lib.hid (HB8.out.trans (hb9.mono HB8.out.size))
            have o0 := kept_of_below hb9 _ _ o0
            clear hb9
            go_wp2_with fail
            refine (rings_any m _ w9 (VMod.keep (kept_of_below HB9.out) HVO.out) HSM.out).mono ?_
            rintro e w10 ⟨v10, V10, rs10, l10, rfl, hR10, hK10, hM10, hb10⟩
            obtain ⟨A10, c10, rfl⟩ := own_sliceL hM10.row
            have HB10 : Hid (Below w5.heap.size w5 w10) := Lib.hid (HB9.out.trans (hb10.mono HB9.out.size))
            have hleq : l10.length = l7.length := ByKey.len_eq hR10 HR7.out.1 hK10 HR7.out.2
            rw [hleq]
            clear hR10 hK10 hM10 hb10 hleq
            go_wp2_with fail
            go_ret
            exact ⟨rfl, HB5.out.trans (HB10.out.mono HB5.out.size)⟩
end Go.Proofs.Ytdfiflbkamhchaa

/- Functions and modules that came in as arguments: what they read as. -/
namespace Go.Proofs.Ytdfiflbkamhchaa
open Go.ChangeShapes Go.WideShapes Go.RowKit Go.Deep
set_option linter.unusedVariables false

section
variable {H : Type} {enc : TypeId × Value → H} {P : Program} {w : World} {base : Nat} {spare : Nat → Bool} {held : Bool}

theorem struct_field {t : TypeId} {fs : Array Field} {fuel : Nat} {cs : List Value} {y : DataW H × List MemPlace} (ht : P.underlying t = some (.struct fs)) (h : DataW.trod enc P w base spare held fuel t cs = some y)
    (i : Nat) (f : Field) (hf : fs[i]? = some f) : ∃ n z, DataW.trod enc P w base spare held n f.type ((cs.drop f.offset).take (P.cellsOf f.type)) = some z := by
  obtain ⟨xs, n, _, _, _, hlen, hx⟩ := DataW.trod_struct ht h
  have hi : i < xs.length := by rw [hlen]; exact (Array.getElem?_eq_some_iff.1 hf).1
  exact ⟨n, xs[i], (hx i f hf).trans (List.getElem?_eq_getElem hi)⟩
theorem field_of {t : TypeId} {fs : Array Field} {fuel : Nat} {cs : List Value} {y : DataW H × List MemPlace} (ht : P.underlying t = some (.struct fs)) (h : DataW.trod enc P w base spare held fuel t cs = some y)
    (i : Nat) {f : Field} (hf : fs[i]? = some f) {t' : TypeId} {c k : Nat} (hft : f.type = t') (hk : f.offset = k) (hc : P.cellsOf t' = c) : ∃ n z, DataW.trod enc P w base spare held n t' ((cs.drop k).take c) = some z := by
  subst hft hk hc
  exact struct_field ht h i f hf
theorem drop_take_one {cs : List Value} {k : Nat} (hk : k < cs.length) : (cs.drop k).take 1 = [cs[k]] := by
  rw [List.drop_eq_getElem_cons hk]; rfl
theorem int_field {t : TypeId} {n k : Nat} {cs : List Value} {z : DataW H × List MemPlace} (ht : P.underlying t = some (.int .i64)) (hk : k < cs.length) (h : DataW.trod enc P w base spare held n t ((cs.drop k).take 1) = some z) :
    ∃ x, cs[k]? = some (.int .i64 x) ∧ I64 x := by
  rw [drop_take_one hk] at h
  obtain ⟨x, hx, _, hw⟩ := DataW.trod_int ht h
  exact ⟨x, by rw [List.getElem?_eq_getElem hk]; exact congrArg some (List.cons.inj hx).1, wf_i64 hw⟩
theorem slice_field {α : Type} [Inhabited α] {t e : TypeId} {sz : Nat} {R : World → Nat → Nat → α → Prop} {n k : Nat} {cs : List Value} {z : DataW H × List MemPlace} (ht : P.underlying t = some (.slice e)) (hsz : P.cellsOf e = sz) (hpos : 0 < sz)
    (hR : Opens enc P w base spare held e sz R) (hk : k < cs.length) (h : DataW.trod enc P w base spare held n t ((cs.drop k).take 1) = some z) : ∃ A c xs, cs[k]? = some (.slice A xs.length c) ∧ SL w sz R A c xs := by
  rw [drop_take_one hk] at h
  obtain ⟨xs, A, c, e, hs⟩ := open_vs ht hsz hpos hR h
  exact ⟨A, c, xs, by rw [List.getElem?_eq_getElem hk, e], hs⟩
end

theorem Try.cells3 : Try.prog.cellsOf 3 = 1 := by kernel_rfl
theorem Try.cells2 : Try.prog.cellsOf 2 = 1 := by kernel_rfl
theorem Try.cells34 : Try.prog.cellsOf 34 = 1 := by kernel_rfl
theorem Try.cells37 : Try.prog.cellsOf 37 = 1 := by kernel_rfl
theorem Try.cells38 : Try.prog.cellsOf 38 = 1 := by kernel_rfl
theorem Try.cells41 : Try.prog.cellsOf 41 = 1 := by kernel_rfl
theorem Try.cells22 : Try.prog.cellsOf 22 = 1 := by kernel_rfl
theorem Try.cells65 : Try.prog.cellsOf 65 = 2 := by kernel_rfl
theorem Try.cells46 : Try.prog.cellsOf 46 = 5 := by kernel_rfl
theorem Try.cells36 : Try.prog.cellsOf 36 = 3 := by kernel_rfl
theorem Try.cells40 : Try.prog.cellsOf 40 = 5 := by kernel_rfl
theorem Try.cells43 : Try.prog.cellsOf 43 = 4 := by kernel_rfl
theorem Try.cells24 : Try.prog.cellsOf 24 = 1 := by kernel_rfl

section
variable {H : Type} {enc : TypeId × Value → H} {w : World} {base : Nat} {spare : Nat → Bool} {held : Bool}

theorem opens_int : Opens enc Try.prog w base spare held 3 1 RInt := fun n b o cs y hlen hat h => by
  obtain ⟨x, rfl, _, hw⟩ := DataW.trod_int Try.underlying3 h
  exact ⟨x, (hat 0 (by omega)).trans rfl, wf_i64 hw⟩
theorem field_int {fs : Array Field} {t : TypeId} {fuel : Nat} {cs : List Value} {y : DataW H × List MemPlace} (ht : Try.prog.underlying t = some (.struct fs)) (h : DataW.trod enc Try.prog w base spare held fuel t cs = some y)
    (i : Nat) (f : Field) (hf : fs[i]? = some f) (hft : f.type = 3) (hk : f.offset < cs.length) : ∃ x, cs[f.offset]? = some (.int .i64 x) ∧ I64 x := by
  obtain ⟨n, z, hz⟩ := struct_field ht h i f hf
  rw [hft, Try.cells3] at hz
  exact int_field Try.underlying3 hk hz
theorem field_int64 {fs : Array Field} {t : TypeId} {fuel : Nat} {cs : List Value} {y : DataW H × List MemPlace} (ht : Try.prog.underlying t = some (.struct fs)) (h : DataW.trod enc Try.prog w base spare held fuel t cs = some y)
    (i : Nat) (f : Field) (hf : fs[i]? = some f) (hft : f.type = 2) (hk : f.offset < cs.length) : ∃ x, cs[f.offset]? = some (.int .i64 x) ∧ I64 x := by
  obtain ⟨n, z, hz⟩ := struct_field ht h i f hf
  rw [hft, Try.cells2] at hz
  exact int_field Try.underlying2 hk hz
theorem field_ints {fs : Array Field} {t : TypeId} {fuel : Nat} {cs : List Value} {y : DataW H × List MemPlace} (ht : Try.prog.underlying t = some (.struct fs)) (h : DataW.trod enc Try.prog w base spare held fuel t cs = some y)
    (i : Nat) (f : Field) (hf : fs[i]? = some f) (hft : f.type = 34) (hk : f.offset < cs.length) : ∃ A c, ∃ xs : List Int, cs[f.offset]? = some (.slice A xs.length c) ∧ SL w 1 RInt A c xs := by
  obtain ⟨n, z, hz⟩ := struct_field ht h i f hf
  rw [hft, Try.cells34] at hz
  exact slice_field Try.underlying34 Try.cells3 (by omega) opens_int hk hz
theorem opens_phi : Opens enc Try.prog w base spare held 65 2 RPhi := fun n b o cs y hlen hat h => by
  obtain ⟨x, h0, w0⟩ := field_int Try.underlying65 h 0 _ rfl rfl (by simp; omega)
  obtain ⟨A, c, xs, h1, w1⟩ := field_ints Try.underlying65 h 1 _ rfl rfl (by simp; omega)
  exact ⟨⟨x, xs⟩, ⟨(hat 0 (by omega)).trans h0, w0⟩, A, c, (hat 1 (by omega)).trans h1, w1⟩
theorem opens_ins : Opens enc Try.prog w base spare held 46 5 RIns := fun n b o cs y hlen hat h => by
  obtain ⟨x0, h0, w0⟩ := field_int Try.underlying46 h 0 _ rfl rfl (by simp; omega)
  obtain ⟨x1, h1, w1⟩ := field_int Try.underlying46 h 1 _ rfl rfl (by simp; omega)
  obtain ⟨A, c, xs, h2, w2⟩ := field_ints Try.underlying46 h 2 _ rfl rfl (by simp; omega)
  obtain ⟨x3, h3, w3⟩ := field_int64 Try.underlying46 h 3 _ rfl rfl (by simp; omega)
  obtain ⟨x4, h4, w4⟩ := field_int Try.underlying46 h 4 _ rfl rfl (by simp; omega)
  exact ⟨⟨x0, x1, xs, x3, x4⟩, ⟨(hat 0 (by omega)).trans h0, w0⟩, ⟨(hat 1 (by omega)).trans h1, w1⟩, ⟨A, c, (hat 2 (by omega)).trans h2, w2⟩, ⟨(hat 3 (by omega)).trans h3, w3⟩, ⟨(hat 4 (by omega)).trans h4, w4⟩⟩
theorem opens_blk : Opens enc Try.prog w base spare held 40 5 RBlk := fun n b o cs y hlen hat h => by
  obtain ⟨n0, z0, hz0⟩ := field_of Try.underlying40 h 0 rfl rfl rfl Try.cells37
  obtain ⟨A0, c0, ps, h0, w0⟩ := slice_field Try.underlying37 Try.cells65 (by omega) opens_phi (by simp; omega) hz0
  obtain ⟨n1, z1, hz1⟩ := field_of Try.underlying40 h 1 rfl rfl rfl Try.cells38
  obtain ⟨A1, c1, is, h1, w1⟩ := slice_field Try.underlying38 Try.cells46 (by omega) opens_ins (by simp; omega) hz1
  obtain ⟨n2, z2, hz2⟩ := field_of Try.underlying40 h 2 rfl rfl rfl Try.cells36
  have hl2 : ((cs.drop 2).take 3).length = 3 := by simp; omega
  obtain ⟨x2, h2, w2⟩ := field_int Try.underlying36 hz2 0 _ rfl rfl (by simp; omega)
  obtain ⟨x3, h3, w3⟩ := field_int Try.underlying36 hz2 1 _ rfl rfl (by simp; omega)
  obtain ⟨A4, c4, xs, h4, w4⟩ := field_ints Try.underlying36 hz2 2 _ rfl rfl (by simp; omega)
  have g (i : Nat) (hi : i < 3) : ((cs.drop 2).take 3)[i]? = cs[2 + i]? := by rw [List.getElem?_take_of_lt hi, List.getElem?_drop]
  exact ⟨⟨ps, is, ⟨x2, x3, xs⟩⟩, ⟨A0, c0, (hat 0 (by omega)).trans h0, w0⟩, ⟨A1, c1, (hat 1 (by omega)).trans h1, w1⟩, ⟨(hat 2 (by omega)).trans ((g 0 (by omega)).symm.trans h2), w2⟩, ⟨(hat 3 (by omega)).trans ((g 1 (by omega)).symm.trans h3), w3⟩, ⟨A4, c4, (hat 4 (by omega)).trans ((g 2 (by omega)).symm.trans h4), w4⟩⟩
theorem opens_fun : Opens enc Try.prog w base spare held 43 4 RFun := fun n b o cs y hlen hat h => by
  obtain ⟨x0, h0, w0⟩ := field_int Try.underlying43 h 0 _ rfl rfl (by simp; omega)
  obtain ⟨x1, h1, w1⟩ := field_int Try.underlying43 h 1 _ rfl rfl (by simp; omega)
  obtain ⟨A2, c2, xs, h2, w2⟩ := field_ints Try.underlying43 h 2 _ rfl rfl (by simp; omega)
  obtain ⟨n3, z3, hz3⟩ := field_of Try.underlying43 h 3 rfl rfl rfl Try.cells41
  obtain ⟨A3, c3, bs, h3, w3⟩ := slice_field Try.underlying41 Try.cells40 (by omega) opens_blk (by simp; omega) hz3
  exact ⟨⟨x0, x1, xs, bs⟩, ⟨(hat 0 (by omega)).trans h0, w0⟩, ⟨(hat 1 (by omega)).trans h1, w1⟩, ⟨A2, c2, (hat 2 (by omega)).trans h2, w2⟩, ⟨A3, c3, (hat 3 (by omega)).trans h3, w3⟩⟩

set_option maxRecDepth 100000 in
/-- A function by value. -/
theorem open_fun {r : Go.Reach} {b0 : Nat} {v : Value} {d : DataW H} {p : List MemPlace} (hv : Value.okWide Try.prog w r b0 43 v) (h : DataW.Trod enc Try.prog w base spare held 43 v d p) : ∃ f, VFun w v f := by
  obtain ⟨cs, rfl, hsz⟩ := okWide_struct Try.underlying43 hv
  rw [Try.cells43] at hsz
  obtain ⟨l⟩ := cs
  match l, hsz with
  | [a, b, c, d], _ =>
    obtain ⟨fuel, hf⟩ := h
    have hf : DataW.trod enc Try.prog w base spare held fuel 43 [a, b, c, d] = some (_, p) := hf
    obtain ⟨x0, h0, w0⟩ := field_int Try.underlying43 hf 0 _ rfl rfl (by simp)
    obtain ⟨x1, h1, w1⟩ := field_int Try.underlying43 hf 1 _ rfl rfl (by simp)
    obtain ⟨A2, c2, xs, h2, w2⟩ := field_ints Try.underlying43 hf 2 _ rfl rfl (by simp)
    obtain ⟨n3, z3, hz3⟩ := field_of Try.underlying43 hf 3 rfl rfl rfl Try.cells41
    obtain ⟨A3, c3, bs, h3, w3⟩ := slice_field Try.underlying41 Try.cells40 (by omega) opens_blk (by simp) hz3
    obtain rfl := Option.some.inj h0
    obtain rfl := Option.some.inj h1
    obtain rfl := Option.some.inj h2
    obtain rfl := Option.some.inj h3
    exact ⟨⟨x0, x1, xs, bs⟩, A2, c2, A3, c3, rfl, w2, w3, w0, w1⟩
set_option maxRecDepth 100000 in
/-- A module by value. -/
theorem open_mod {r : Go.Reach} {b0 : Nat} {v : Value} {d : DataW H} {p : List MemPlace} (hv : Value.okWide Try.prog w r b0 24 v) (h : DataW.Trod enc Try.prog w base spare held 24 v d p) : ∃ m, VMod w v m := by
  obtain ⟨cs, rfl, hsz⟩ := okWide_struct Try.underlying24 hv
  rw [Try.cells24] at hsz
  obtain ⟨l⟩ := cs
  match l, hsz with
  | [a], _ =>
    obtain ⟨fuel, hf⟩ := h
    have hf : DataW.trod enc Try.prog w base spare held fuel 24 [a] = some (_, p) := hf
    obtain ⟨n3, z3, hz3⟩ := field_of Try.underlying24 hf 0 rfl rfl rfl Try.cells22
    obtain ⟨A3, c3, bs, h3, w3⟩ := slice_field Try.underlying22 Try.cells43 (by omega) opens_fun (by simp) hz3
    obtain rfl := Option.some.inj h3
    exact ⟨bs, A3, c3, rfl, w3⟩
end
end Go.Proofs.Ytdfiflbkamhchaa
