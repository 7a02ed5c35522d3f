/- The program's Waves. -/
import Derived.Test.YtdfiflbkamhchaaCaVJ
import Derived.Test.YtdfiflbkamhchaaAheadLJ
import Derived.Deep.QuietTactic
import Derived.BigQuiet
namespace Go.Proofs.Ytdfiflbkamhchaa
open Go.ChangeShapes Go.WideShapes Go.RowKit Go.Deep
set_option linter.unusedVariables false

theorem Try.underlyingC56 : Try.prog.underlying 56 = some (.slice 54) := by kernel_rfl
theorem Try.infoC54 : (Try.prog.info? 54).map (fun i => (i.zero, i.size, i.bytes)) = some (some (.slice none 0 0), 1, 24) := by kernel_rfl
theorem getD_at {α : Type} {l : List α} {i : Nat} (d : α) (h : i < l.length) : l[i]? = some (l.getD i d) := by rw [List.getD_eq_getElem?_getD, List.getElem?_eq_getElem h]; rfl
/-- What is told of waves. -/
def ToldWv (m : List FunD) (w : World) (e : Ending) (w' : World) : Prop :=
  ∃ (K2 : Nat) (U : Nat → Value) (Vr : Nat → Value) (rs : List (List Nat)) (wv : Nat → Nat) (ix lx : List (List Nat)), e = .returned (U 0) ∧ w.heap.size ≤ K2 ∧ K2 ≤ w'.heap.size ∧ RgA m.length (cF m) rs ∧ WvO (cF m) rs wv (ofIx rs ix) ∧ IxOk ix rs.length ∧ lx.length = ix.length ∧
    (∀ (W : Nat) (l k : List Nat), ix[W]? = some l → lx[W]? = some k → k.Perm l ∧ ByKey (l.map fun i => rs.getD i []) (k.map fun i => rs.getD i [])) ∧
    PoolD w' K2 (1 + lx.length) U (wvT Vr lx U) ∧ (∀ i r, rs[i]? = some r → w'.ownsRow w.heap.size 3 1 (Vr i) r.length (natV r) ∧ ∀ g, (Vr i).ownBlock = some g → g < K2) ∧ Below w.heap.size w w'
set_option maxRecDepth 100000 in
set_option maxHeartbeats 16000000 in
theorem waves_any (m : List FunD) (v : Value) (w : World) (hv : VMod w v m) (hsm : SmallM m) : Calls Try.prog 17 #[v] w (ToldWv m w) := by
  have hv0 := hv
  obtain ⟨Am, cm, rfl, hm⟩ := hv
  have hnl := hsm.1
  have HSM := Lib.hid hsm
  obtain ⟨n, hn⟩ : ∃ n, n = m.length := ⟨_, rfl⟩
  have hnl2 : n ≤ 40 := by omega
  have HN := Lib.hid hn
  obtain ⟨w1, hw1, hs1, hk1, hbel1, hc1, -⟩ := named w #[.slice Am m.length cm] 24
  have c0 : w1.cell? ⟨w.heap.size, 0, none⟩ = some (.slice Am m.length cm) := hc1 0 _ rfl
  have HV1 := Lib.hid (VMod.keep hk1 hv0)
  have HB1 := Lib.hid hbel1
  obtain ⟨N, hN⟩ : ∃ N, N = w.heap.size := ⟨_, rfl⟩
  have hmk := run_make_row' (P := Try.prog) 34 3 (.int .i64 0) 8 Try.underlying34 Try.info3 rfl .i64 .i64 n (by omega) (by omega)
  obtain ⟨i1, hi1, hy0, hy1, hy2⟩ := info_parts Try.info34
  have HI1 := Lib.hid (And.intro hi1 (And.intro hy0 (And.intro hy1 hy2)))
  obtain ⟨i2, hi2, hx0, hx1, hx2⟩ := info_parts Try.infoC54
  have HI2 := Lib.hid (And.intro hi2 (And.intro hx0 (And.intro hx1 hx2)))
  clear hm hsm hs1 hk1 hc1 hbel1 hv0 hi1 hy0 hy1 hy2 hi2 hx0 hx1 hx2
  go_enter Try.func17, Try.ntmps17
  go_upto_region 1 with fail
  rw [← hw1, ← hN]
  rw [← hN] at c0
  clear hw1 hN
  go_upto_region 2 with (go_at_call 15; refine (callsOf_any m _ _ HV1.out HSM.out).mono ?_; rintro e w2 ⟨G, V, rfl, hG, hCM, hB2⟩)
  rw [← hn] at hCM ⊢
  clear hn hnl c0
  have HB2 : Hid (Below w.heap.size w w2) := Lib.hid (HB1.out.trans (hB2.mono HB1.out.size))
  have hGlt := hCM.row.lt
  clear hB2 hG
  go_upto_region 4 with fail
  obtain ⟨w3, hw3⟩ : ∃ w3, w3 = w2.alloc (.cells (madeCells #[.int .i64 0] n) 3) := ⟨_, rfl⟩
  obtain ⟨Q, hQ⟩ : ∃ Q, Q = w2.heap.size := ⟨_, rfl⟩
  have hb3 : Below w2.heap.size w2 w3 := by rw [hw3]; exact (Below.refl _ _).alloc (Nat.le_refl _) _
  have hrQ : w3.rowIs Q 3 n (fun _ => .int .i64 0) := row_madeQ (by rw [hw3, hQ]; exact heap_alloc_new _ _)
  have hCM3 : CallsM w3 n G V (cF m) := ⟨hCM.row.of_block (hb3.block G hGlt), fun i hi => by
    obtain ⟨A, c, e, h⟩ := hCM.vs i hi
    exact ⟨A, c, e, SInts.keep (kept_of_below hb3) h⟩⟩
  have hQ3 : Q < w3.heap.size := hrQ.lt
  have hGQ : G < Q := by rw [hQ]; exact hGlt
  have HC2 := Lib.hid (And.intro hCM (And.intro hb3 hQ))
  have HB3 : Hid (Below w.heap.size w w3 ∧ w.heap.size ≤ Q) := Lib.hid ⟨HB2.out.trans (hb3.mono HB2.out.size), by rw [hQ]; exact HB2.out.size⟩
  have HCM3 := Lib.hid hCM3
  have HRQ := Lib.hid hrQ
  rw [← hw3, ← hQ]
  clear hw3 hQ hb3 hrQ hCM hCM3 hmk hGlt HB2
  go_upto_region 5 with (go_at_call 34; refine (ringsOf_any HCM3.out (fun f g h => by rw [HN.out]; exact cF_lt f g h) (by omega)).mono ?_; rintro e wA ⟨vr, Vr, rs, rfl, hRA, hBA, hRM⟩; obtain ⟨Ar, cr, rfl⟩ := own_sliceL hRM.row)
  have hfew := hRA.few
  have HRM := Lib.hid hRM
  have HRA := Lib.hid hRA
  have HBA := Lib.hid hBA
  have HCA : Hid (∀ W, FrX (fun b => b = Q) wA W → CallsM W n G V (cF m)) := Lib.hid (fun W hW => by
    obtain ⟨q1, q2, q3⟩ := HC2.out
    have hb2 : Below w2.heap.size w2 wA := q2.trans (hBA.mono q2.size)
    have hblk : ∀ k, k < w2.heap.size → W.heap[k]? = w2.heap[k]? := fun k hk => (hW.block k (by have := hb2.size; omega) (by omega)).trans (hb2.block k hk)
    have hkp : Kept w2 W := fun a x ha => (World.cell?_of_block (hblk a.block (block_lt_of_cell ha))).trans ha
    exact ⟨q1.row.of_block (hblk G q1.row.lt), fun i hi => by
      obtain ⟨A, c, e, h⟩ := q1.vs i hi
      exact ⟨A, c, e, SInts.keep hkp h⟩⟩)
  have hGl : G < wA.heap.size := by have := hBA.size; have := HCM3.out.row.lt; omega
  have hQl : Q < wA.heap.size := by have := hBA.size; omega
  have hM0 : WvM wA Q n Vr (fun _ => 0) (fun _ => .slice none 0 0) [] wA := by
    refine ⟨FrX.refl _ _, hQl, HRQ.out.of_block (hBA.block Q hQ3), ⟨fun i hi => ?_, fun _ _ _ _ _ => .inl rfl⟩⟩
    have : i = 0 := by simp at hi; omega
    subst this
    exact World.ownsRow_nil _ _ _ _
  have HM0 := Lib.hid hM0
  have hrl : rs.length ≤ 40 := by omega
  clear hM0 hRM hRA hBA HCM3 HRQ hfew
  go_loopw [4, 25] (fun s4 s25 wq => ∃ (i : Nat) (wv : Nat → Nat) (U : Nat → Value) (ix : List (List Nat)), i ≤ rs.length ∧ s25 = .int .i64 (i : Int) ∧ s4 = U 0 ∧ WvM wA Q n Vr wv U ix wq ∧ WvO (cF m) (rs.take i) wv (ofIx rs ix) ∧ IxOk ix i) (fun _ s25 _ => rs.length - (intOf s25).toNat)
  case atStart => exact ⟨0, fun _ => 0, fun _ => .slice none 0 0, [], Nat.zero_le _, rfl, rfl, HM0.out, WvO.nil _, ⟨by simp, by simp⟩⟩
  case round =>
    obtain ⟨i, wv, U, ix, hi, rfl, rfl, hM, hO, hX⟩ := hrel
    obtain ⟨wL, rfl⟩ : ∃ wL, wL = wr := ⟨_, rfl⟩
    have HM := Lib.hid hM
    have HO := Lib.hid hO
    have HX := Lib.hid hX
    by_cases hil : i < rs.length
    · obtain ⟨r, hr⟩ : ∃ r, rs[i]? = some r := ⟨_, List.getElem?_eq_getElem hil⟩
      obtain ⟨gr, capr, ur, hvr, hur, hcr, -, hgr1, hgr2⟩ := own_cellD HRM.out.row hil
      have hgrQ : gr ≠ Q := by omega
      have hcr2 : wL.cell? ⟨gr, i, none⟩ = some (Vr i) := by
        rw [List.getElem?_map, List.getElem?_range hil] at hur
        have e : ur = Vr i := (Option.some.inj hur).symm
        rw [← e, ← hcr]
        exact World.cell?_of_block (hM.fr.block gr hgr2 hgrQ)
      simp only [Value.slice.injEq] at hvr
      obtain ⟨rfl, -, rfl⟩ := hvr
      have hrm := List.mem_of_getElem? hr
      have hrl2 := HRA.out.len hrm
      have hor := HRM.out.own i r hr
      obtain ⟨gb, capb, hvb⟩ : ∃ gb capb, Vr i = .slice (some ⟨gb, 0, none⟩) r.length capb := by
        rcases hor.2 with ⟨_, h0⟩ | ⟨g, c, cur, e, -⟩
        · exact absurd (List.length_eq_zero_iff.1 h0) (HRA.out.o.ne r hrm)
        · exact ⟨g, c, e⟩
      rw [hvb] at hor hcr2
      have hgb := hor.lt gb rfl
      have hgbQ : gb ≠ Q := by omega
      obtain ⟨lr, hlr⟩ : ∃ lr, lr = r.length := ⟨_, rfl⟩
      have HLR := Lib.hid hlr
      have HRI := Lib.hid hr
      have HVB := Lib.hid hvb
      have HRC : Hid (∀ W, FrX (fun b => b = Q) wA W → ∀ (k x : Nat), r[k]? = some x → W.cell? ⟨gb, k, none⟩ = some (.int .i64 (x : Int))) := Lib.hid (fun W hW k x hx => by
        have hk := (List.getElem?_eq_some_iff.1 hx).1
        refine (World.cell?_of_block (a := ⟨gb, k, none⟩) (hW.block gb hgb.2 hgbQ)).trans ?_
        rw [hor.cellAt k (by omega)]
        exact natV_at hx)
      have hlr40 : lr ≤ 40 := by omega
      rw [← hlr] at hcr2
      have hi0 : (0 : Int) ≤ i := by omega
      have hi1 : (i : Int) < rs.length := by omega
      clear hM hO hX hur hcr hr hrm hrl2 hor hvb hlr
      go_upto_region 9 with fail
      go_loopw [8, 31] (fun s8 s31 wq => ∃ (k a : Nat), k ≤ lr ∧ s31 = .int .i64 (k : Int) ∧ s8 = .int .i64 (a : Int) ∧ a = maxL wv ((r.take k).flatMap (cF m)) 0 ∧ wq = wL) (fun _ s31 _ => lr - (intOf s31).toNat)
      case atStart => exact ⟨0, 0, Nat.zero_le _, rfl, rfl, rfl, rfl⟩
      case round =>
        obtain ⟨k, a, hk, rfl, rfl, ha, rfl⟩ := hrel
        obtain ⟨wL, rfl⟩ : ∃ wL, wL = wr := ⟨_, rfl⟩
        have HA := Lib.hid ha
        by_cases hkl : k < lr
        · obtain ⟨f, hf⟩ : ∃ f, r[k]? = some f := ⟨_, List.getElem?_eq_getElem (by rw [← HLR.out]; exact hkl)⟩
          have d0 := HRC.out wL HM.out.fr k f hf
          have hfn : f < n := HRA.out.lt (List.mem_of_getElem? HRI.out) (List.mem_of_getElem? hf)
          have hcw := HCA.out wL HM.out.fr
          have d1 := hcw.row.cell hfn
          obtain ⟨Af, cf, hVf, hsf⟩ := hcw.vs f hfn
          rw [hVf] at d1
          obtain ⟨lc, hlc⟩ : ∃ lc, lc = (cF m f).length := ⟨_, rfl⟩
          rw [natI_len, ← hlc] at d1
          have HSF := Lib.hid hsf
          have HLC := Lib.hid hlc
          have HFK := Lib.hid hf
          have hlc40 : lc ≤ 40 := by rw [hlc]; have := cF_len m f; have := HN.out; omega
          have hk0 : (0 : Int) ≤ k := by omega
          have hk1 : (k : Int) < lr := by omega
          have hf0 : (0 : Int) ≤ f := by omega
          have hf1 : (f : Int) < n := by omega
          clear ha hf hcw hVf hsf hlc
          go_upto_region 12 with fail
          clear d0 d1
          go_loopw [8, 40] (fun s8 s40 wq => ∃ (j b : Nat), j ≤ lc ∧ s40 = .int .i64 (j : Int) ∧ s8 = .int .i64 (b : Int) ∧ b = maxL wv ((cF m f).take j) a ∧ wq = wL) (fun _ s40 _ => lc - (intOf s40).toNat)
          case atStart => exact ⟨0, a, Nat.zero_le _, rfl, rfl, rfl, rfl⟩
          case round =>
            obtain ⟨j, b, hj, rfl, rfl, hb, rfl⟩ := hrel
            obtain ⟨wL, rfl⟩ : ∃ wL, wL = wr := ⟨_, rfl⟩
            have HBB := Lib.hid hb
            by_cases hjl : j < lc
            · obtain ⟨bt, ot, x, rfl, hx, hxc, -⟩ := HSF.out.int (k := j) (by rw [natI_len, ← HLC.out]; exact hjl)
              have hx2 := hx.out
              unfold natI at hx2
              rw [List.getElem?_map] at hx2
              obtain ⟨y, hy, rfl⟩ := Option.map_eq_some_iff.1 hx2
              have hyn : y < n := by rw [HN.out]; exact cF_lt f y (List.mem_of_getElem? hy)
              have d2 := HM.out.wv.cell hyn
              obtain ⟨wy, hwy⟩ : ∃ wy, wy = wv y := ⟨_, rfl⟩
              rw [← hwy] at d2
              have HY := Lib.hid (And.intro hy hwy)
              have hj0 : (0 : Int) ≤ j := by omega
              have hj1 : (j : Int) < lc := by omega
              have hy0 : (0 : Int) ≤ y := by omega
              have hy1 : (y : Int) < n := by omega
              clear hb hx hx2 hy hwy
              go_wp2_with fail
              go_roundw
              case rel => exact ⟨j + 1, max b wy, by omega, by go_num, by
                have : max (b : Int) (wy : Int) = ((max b wy : Nat) : Int) := by omega
                rw [← this], by rw [take_succ_of HY.out.1, maxL_snoc, ← HY.out.2, ← HBB.out], trivial⟩
              case measure => simp [intOf]; omega
            · obtain rfl : j = lc := by omega
              have HB9 : Hid (b = maxL wv ((r.take (k + 1)).flatMap (cF m)) 0) := Lib.hid (by
                rw [hb, HLC.out, List.take_length, take_succ_of HFK.out, List.flatMap_append, maxL_append, ← HA.out]
                simp)
              clear hb
              go_wp2_with fail
              go_roundw
              case rel => exact ⟨k + 1, b, by omega, by go_num, rfl, HB9.out, trivial⟩
              case measure => simp [intOf]; omega
        · obtain rfl : lr = k := by omega
          have HRW : Hid (a = ringW (cF m) wv r) := Lib.hid (by rw [ha, HLR.out, List.take_length]; rfl)
          have hale : a ≤ ix.length := by rw [HRW.out]; have := HO.out.ring_le r; rw [ofIx_len] at this; exact this
          have hixl : ix.length ≤ 40 := by have := HO.out.few; rw [ofIx_len, List.length_take] at this; omega
          clear ha
          go_upto_region 18 with fail
          go_loopw [54] (fun s54 wq => ∃ (k : Nat), k ≤ lr ∧ s54 = .int .i64 (k : Int) ∧ WvM wA Q n Vr (fun x => if x ∈ r.take k then a + 1 else wv x) U ix wq) (fun s54 _ => lr - (intOf s54).toNat)
          case atStart => exact ⟨0, Nat.zero_le _, rfl, by simpa using HM.out⟩
          case round =>
            obtain ⟨k, hk, rfl, hM4⟩ := hrel
            obtain ⟨w4, rfl⟩ : ∃ w4, w4 = wr := ⟨_, rfl⟩
            have HM4 := Lib.hid hM4
            by_cases hkl : k < lr
            · obtain ⟨f, hf⟩ : ∃ f, r[k]? = some f := ⟨_, List.getElem?_eq_getElem (by rw [← HLR.out]; exact hkl)⟩
              have d0 := HRC.out w4 hM4.fr k f hf
              have hfn : f < n := HRA.out.lt (List.mem_of_getElem? HRI.out) (List.mem_of_getElem? hf)
              have d1 := hM4.wv.frozen f
              have d2 := hM4.wv.cell hfn
              have hk0 : (0 : Int) ≤ k := by omega
              have hk1 : (k : Int) < lr := by omega
              have hf0 : (0 : Int) ≤ f := by omega
              have hf1 : (f : Int) < n := by omega
              have hN4 : WvM wA Q n Vr (fun x => if x ∈ r.take (k + 1) then a + 1 else wv x) U ix (w4.setCell ⟨Q, f, none⟩ (.int .i64 ((a : Int) + 1))) := by
                have h1 := hM4.setWave f (a + 1)
                have e1 : (fun x => if x ∈ r.take (k + 1) then a + 1 else wv x) = updN (fun x => if x ∈ r.take k then a + 1 else wv x) f (a + 1) := by
                  funext x
                  rw [take_succ_of hf]
                  unfold updN
                  by_cases e : x = f
                  · subst e; simp
                  · simp [e]
                rw [e1, show ((a : Int) + 1) = ((a + 1 : Nat) : Int) by omega]
                exact h1
              have HN4 := Lib.hid hN4
              clear hM4 hf hN4
              go_wp2_with fail
              go_roundw
              case rel => exact ⟨k + 1, by omega, by go_num, HN4.out⟩
              case measure => simp [intOf]; omega
            · obtain rfl : lr = k := by omega
              have hM5 : WvM wA Q n Vr (wvS (cF m) wv r) U ix w4 := by
                have e1 : (fun x => if x ∈ r.take lr then a + 1 else wv x) = wvS (cF m) wv r := by
                  rw [HLR.out, List.take_length, HRW.out]; rfl
                rw [e1] at hM4
                exact hM4
              have hrg : RgO (cF m) (rs.take i ++ [r]) := by
                have h1 := HRA.out.o.take (i + 1)
                rw [take_succ_of HRI.out] at h1
                exact h1
              have hst : WvO (cF m) (rs.take (i + 1)) (wvS (cF m) wv r) (ofIx rs (ixS ix a i)) := by
                rw [take_succ_of HRI.out, ofIx_step HRI.out, HRW.out]
                exact HO.out.step hrg
              have hxn := HX.out.step a
              obtain ⟨ixN, hixN⟩ : ∃ ixN, ixN = ixS ix a i := ⟨_, rfl⟩
              rw [← hixN] at hst hxn
              have HST := Lib.hid hst
              have HXN := Lib.hid hxn
              have HIXN := Lib.hid hixN
              clear hxn hixN
              have HM5 := Lib.hid hM5
              obtain ⟨A0, c0, hU0⟩ := own_sliceL hM5.row0
              have HU0 := Lib.hid hU0
              clear hM4 hM5 hrg hst HM4
              by_cases hal : a = ix.length
              · have hab : ((a : Int) == (ix.length : Int)) = true := by rw [hal]; simp
                have HAL := Lib.hid hal
                clear hal
                have HO0 : Hid (w4.ownsRow wA.heap.size 54 1 (U 0) ix.length ((List.range ix.length).map fun j => U (1 + j))) := Lib.hid HM5.out.row0
                have hs4 := HM5.out.fr.size
                go_upto_region 24 with (at_builtin; refine wpList_append_lies _ rfl (.tmp 68) (.tmp 69) 56 rfl wA.heap.size 54 i2 (.slice none 0 0) 1 24 Try.underlyingC56 HI2.out.1 HI2.out.2.1 HI2.out.2.2.1 HI2.out.2.2.2 rfl (by decide) _ _ _ rfl (HO0.out.alloc _) ⟨w4.heap.size, 0, none⟩ 1 1 [.slice none 0 0] rfl rfl ?y1 ?y2 ?y0 ?y3 ?y4 ?y5 (w4.heap.size + 1) ?y6 ?_)
                case y1 => exact news_one_add w4 _ _ rfl
                case y2 => (intro u hu; rw [List.mem_singleton.1 hu]; rfl)
                case y0 => omega
                case y3 => unfold maxLen; omega
                case y4 => omega
                case y5 => simp; omega
                case y6 => simp
                intro g6 cap6 w5 hown6 hgrow6 hloc6 hlt6
                have hgd6 : GroD w4 w5 (U 0) (.slice (some ⟨g6, 0, none⟩) (ix.length + 1) cap6) := by rw [hU0]; exact groD_append hgrow6 hloc6
                have hM6 := HM5.out.more hgd6 hown6
                obtain ⟨U1, hU1⟩ : ∃ U1, U1 = updF (updF U 0 (.slice (some ⟨g6, 0, none⟩) (ix.length + 1) cap6)) (1 + ix.length) (.slice none 0 0) := ⟨_, rfl⟩
                have hU10 : U1 0 = .slice (some ⟨g6, 0, none⟩) (ix.length + 1) cap6 := by rw [hU1, updF_else _ _ (by omega), updF_here]
                obtain ⟨ix1, hix1⟩ : ∃ ix1, ix1 = ix ++ [[]] := ⟨_, rfl⟩
                have hix1l' : ix1.length = ix.length + 1 := by rw [hix1]; simp
                have HM6 : Hid (WvM wA Q n Vr (wvS (cF m) wv r) U1 ix1 w5) := Lib.hid (by rw [hix1, hU1]; exact hM6)
                have HX1 : Hid (IxOk ix1 i) := Lib.hid (by
                  rw [hix1]
                  exact ⟨fun l hl => by
                    rcases List.mem_append.1 hl with k | k
                    · exact HX.out.lt l k
                    · rw [List.mem_singleton.1 k]; simp, fun l hl => by
                    rcases List.mem_append.1 hl with k | k
                    · exact HX.out.nd l k
                    · rw [List.mem_singleton.1 k]; simp⟩)
                have hal1 : a < ix1.length := by rw [hix1l', HAL.out]; omega
                obtain ⟨l1, hl1⟩ : ∃ l1 : List Nat, ix1[a]? = some l1 := ⟨_, List.getElem?_eq_getElem hal1⟩
                have HIX : Hid (ixN = ix1.set a (l1 ++ [i])) := Lib.hid (by
                  rw [HIXN.out]
                  have h1 : l1 = [] := by
                    rw [hix1, HAL.out, List.getElem?_append_right (Nat.le_refl _)] at hl1
                    simpa using hl1.symm
                  unfold ixS
                  rw [if_pos HAL.out, h1, hix1, HAL.out]
                  simp)
                have hix1l : ix1.length ≤ 41 := by omega
                rw [← hU10]
                clear HM5 hM6 hgd6 hown6 hgrow6 hloc6 hlt6 hU1 hU10 hix1 hix1l' hab hU0 HU0 HO0 HAL
                go_upto_region 24 with fail
                obtain ⟨g0, cap0, u0, hV0, hu0, hcell0, hfz0, -, hg0lt⟩ := own_cellD HM6.out.row0 hal1
                have hu0' : u0 = U1 (1 + a) := by
                  rw [List.getElem?_map, List.getElem?_range hal1] at hu0
                  exact (Option.some.inj hu0).symm
                obtain ⟨A1, c1, hU1a⟩ := own_sliceL (HM6.out.row1 hl1)
                rw [hu0', hU1a] at hcell0
                have hl1len : l1.length ≤ 40 := by
                  have h1 := List.mem_of_getElem? hl1
                  have h2 := nodup_lt (HX1.out.nd l1 h1) (HX1.out.lt l1 h1)
                  omega
                obtain ⟨ll, hll⟩ : ∃ ll, ll = l1.length := ⟨_, rfl⟩
                have HLL := Lib.hid hll
                rw [← hll] at hcell0 hl1len hU1a
                have HU1A := Lib.hid hU1a
                have HV0 := Lib.hid hV0
                have HOW : Hid (w5.ownsRow wA.heap.size 34 1 (.slice A1 ll c1) ll (l1.map Vr)) := Lib.hid (by
                  have h1 := HM6.out.row1 hl1
                  rw [hU1a, ← hll] at h1
                  exact h1)
                have HL1 := Lib.hid hl1
                obtain ⟨lx1, hlx1⟩ : ∃ lx1, lx1 = ix1.length := ⟨_, rfl⟩
                have HLX1 := Lib.hid hlx1
                rw [← hlx1] at hal1 hV0
                have hlx40 : lx1 ≤ 41 := by omega
                have ha0 : (0 : Int) ≤ a := by omega
                have ha1 : (a : Int) < lx1 := by omega
                have hsz5 := HM6.out.fr.size
                clear hu0 hu0' hU1a hll hl1 hlx1
                go_wp2_with (at_builtin; refine wpList_append_lies _ rfl (.tmp 76) (.tmp 78) 54 rfl wA.heap.size 34 i1 (.slice none 0 0) 1 24 Try.underlyingC54 HI1.out.1 HI1.out.2.1 HI1.out.2.2.1 HI1.out.2.2.2 rfl (by decide) _ _ _ rfl (HOW.out.alloc _) ⟨w5.heap.size, 0, none⟩ 1 1 [.slice (some ⟨gb, 0, none⟩) lr capb] rfl rfl ?x1 ?x2 ?x0 ?x3 ?x4 ?x5 (w5.heap.size + 1) ?x6 ?_)
                case x1 => exact news_one_add w5 _ _ rfl
                case x2 => (intro u hu; rw [List.mem_singleton.1 hu]; rfl)
                case x0 => omega
                case x3 => unfold maxLen; omega
                case x4 => omega
                case x5 => simp; omega
                case x6 => simp
                intro g7 cap7 w7 hown7 hgrow7 hloc7 hlt7
                have hgd : GroD w5 w7 (U1 (1 + a)) (.slice (some ⟨g7, 0, none⟩) (ll + 1) cap7) := by rw [HU1A.out]; exact groD_append hgrow7 hloc7
                have hM7 := HM6.out.turn (l := l1 ++ [i]) (by rw [← HLX1.out]; exact hal1) hgd (by
                  show w7.ownsRow wA.heap.size 34 1 _ (l1 ++ [i]).length ((l1 ++ [i]).map Vr)
                  rw [List.map_append, List.length_append, ← HLL.out]
                  have h1 := hown7
                  rw [show [Value.slice (some ⟨gb, 0, none⟩) lr capb] = [i].map Vr by simp only [List.map_cons, List.map_nil]; rw [HVB.out, HLR.out]] at h1
                  exact h1) HV0.out
                have hb7 : w7.heap[g0]? = w5.heap[g0]? := hgd.block g0 hg0lt (fun e => by
                  have h1 := HM6.out.pool.ap 0 (1 + a) (by omega) (by rw [← HLX1.out]; omega) (by omega)
                  rw [HV0.out] at h1
                  rcases h1 with h1 | h1
                  · cases h1
                  · exact h1 e.symm)
                have hc7 := (World.cell?_of_block (a := ⟨g0, a, none⟩) hb7).trans hcell0
                have hf7 := (World.frozen?_of_block (a := ⟨g0, a, none⟩) hb7).trans hfz0
                have HM7 := Lib.hid hM7
                clear hM7 hown7 hgrow7 hloc7 hlt7 hgd hb7 hcell0 hfz0 HOW
                go_wp2_with fail
                go_roundw
                case rel => exact ⟨i + 1, wvS (cF m) wv r, updF U1 (1 + a) (.slice (some ⟨g7, 0, none⟩) (ll + 1) cap7), ixN, by omega, by go_num, by rw [updF_else _ _ (by omega), HV0.out, ← HLX1.out], by rw [HIX.out]; exact HM7.out, HST.out, HXN.out⟩
                case measure => simp [intOf]; omega
              · have hab : ((a : Int) == (ix.length : Int)) = false := by simp; omega
                have hab2 : ¬ ((a : Int) = (ix.length : Int)) := by omega
                have hal1 : a < ix.length := by omega
                obtain ⟨l1, hl1⟩ : ∃ l1, ix[a]? = some l1 := ⟨_, List.getElem?_eq_getElem hal1⟩
                have HIX : Hid (ixN = ix.set a (l1 ++ [i])) := Lib.hid (by rw [HIXN.out]; unfold ixS; rw [if_neg hal, hl1]; rfl)
                go_upto_region 24 with fail
                clear hab hab2 HU0 HIXN hal hU0
                obtain ⟨ix1, rfl⟩ : ∃ ix1, ix1 = ix := ⟨_, rfl⟩
                obtain ⟨U1, rfl⟩ : ∃ U1, U1 = U := ⟨_, rfl⟩
                obtain ⟨w5, rfl⟩ : ∃ w5, w5 = w4 := ⟨_, rfl⟩
                have HX1 := HX
                have HM6 := HM5
                have hix1l : ix1.length ≤ 40 := hixl
                obtain ⟨g0, cap0, u0, hV0, hu0, hcell0, hfz0, -, hg0lt⟩ := own_cellD HM6.out.row0 hal1
                have hu0' : u0 = U1 (1 + a) := by
                  rw [List.getElem?_map, List.getElem?_range hal1] at hu0
                  exact (Option.some.inj hu0).symm
                obtain ⟨A1, c1, hU1a⟩ := own_sliceL (HM6.out.row1 hl1)
                rw [hu0', hU1a] at hcell0
                have hl1len : l1.length ≤ 40 := by
                  have h1 := List.mem_of_getElem? hl1
                  have h2 := nodup_lt (HX1.out.nd l1 h1) (HX1.out.lt l1 h1)
                  omega
                obtain ⟨ll, hll⟩ : ∃ ll, ll = l1.length := ⟨_, rfl⟩
                have HLL := Lib.hid hll
                rw [← hll] at hcell0 hl1len hU1a
                have HU1A := Lib.hid hU1a
                have HV0 := Lib.hid hV0
                have HOW : Hid (w5.ownsRow wA.heap.size 34 1 (.slice A1 ll c1) ll (l1.map Vr)) := Lib.hid (by
                  have h1 := HM6.out.row1 hl1
                  rw [hU1a, ← hll] at h1
                  exact h1)
                have HL1 := Lib.hid hl1
                obtain ⟨lx1, hlx1⟩ : ∃ lx1, lx1 = ix1.length := ⟨_, rfl⟩
                have HLX1 := Lib.hid hlx1
                rw [← hlx1] at hal1 hV0
                have hlx40 : lx1 ≤ 41 := by omega
                have ha0 : (0 : Int) ≤ a := by omega
                have ha1 : (a : Int) < lx1 := by omega
                have hsz5 := HM6.out.fr.size
                clear hu0 hu0' hU1a hll hl1 hlx1
                go_wp2_with (at_builtin; refine wpList_append_lies _ rfl (.tmp 76) (.tmp 78) 54 rfl wA.heap.size 34 i1 (.slice none 0 0) 1 24 Try.underlyingC54 HI1.out.1 HI1.out.2.1 HI1.out.2.2.1 HI1.out.2.2.2 rfl (by decide) _ _ _ rfl (HOW.out.alloc _) ⟨w5.heap.size, 0, none⟩ 1 1 [.slice (some ⟨gb, 0, none⟩) lr capb] rfl rfl ?z1 ?z2 ?z0 ?z3 ?z4 ?z5 (w5.heap.size + 1) ?z6 ?_)
                case z1 => exact news_one_add w5 _ _ rfl
                case z2 => (intro u hu; rw [List.mem_singleton.1 hu]; rfl)
                case z0 => omega
                case z3 => unfold maxLen; omega
                case z4 => omega
                case z5 => simp; omega
                case z6 => simp
                intro g7 cap7 w7 hown7 hgrow7 hloc7 hlt7
                have hgd : GroD w5 w7 (U1 (1 + a)) (.slice (some ⟨g7, 0, none⟩) (ll + 1) cap7) := by rw [HU1A.out]; exact groD_append hgrow7 hloc7
                have hM7 := HM6.out.turn (l := l1 ++ [i]) (by rw [← HLX1.out]; exact hal1) hgd (by
                  show w7.ownsRow wA.heap.size 34 1 _ (l1 ++ [i]).length ((l1 ++ [i]).map Vr)
                  rw [List.map_append, List.length_append, ← HLL.out]
                  have h1 := hown7
                  rw [show [Value.slice (some ⟨gb, 0, none⟩) lr capb] = [i].map Vr by simp only [List.map_cons, List.map_nil]; rw [HVB.out, HLR.out]] at h1
                  exact h1) HV0.out
                have hb7 : w7.heap[g0]? = w5.heap[g0]? := hgd.block g0 hg0lt (fun e => by
                  have h1 := HM6.out.pool.ap 0 (1 + a) (by omega) (by rw [← HLX1.out]; omega) (by omega)
                  rw [HV0.out] at h1
                  rcases h1 with h1 | h1
                  · cases h1
                  · exact h1 e.symm)
                have hc7 := (World.cell?_of_block (a := ⟨g0, a, none⟩) hb7).trans hcell0
                have hf7 := (World.frozen?_of_block (a := ⟨g0, a, none⟩) hb7).trans hfz0
                have HM7 := Lib.hid hM7
                clear hM7 hown7 hgrow7 hloc7 hlt7 hgd hb7 hcell0 hfz0 HOW
                go_wp2_with fail
                go_roundw
                case rel => exact ⟨i + 1, wvS (cF m) wv r, updF U1 (1 + a) (.slice (some ⟨g7, 0, none⟩) (ll + 1) cap7), ixN, by omega, by go_num, by rw [updF_else _ _ (by omega), HV0.out, ← HLX1.out], by rw [HIX.out]; exact HM7.out, HST.out, HXN.out⟩
                case measure => simp [intOf]; omega
    · obtain rfl : i = rs.length := by omega
      have hO2 : WvO (cF m) rs wv (ofIx rs ix) := by rw [List.take_length] at hO; exact hO
      have hixl : ix.length ≤ 40 := by have := hO2.few; rw [ofIx_len] at this; omega
      have HO2 := Lib.hid hO2
      obtain ⟨A0, c0, hU0⟩ := own_sliceL hM.row0
      have HU0 := Lib.hid hU0
      have hrb : ∀ W : World, FrX (fun b => b = Q) wA W → ∀ (j : Nat) (r : List Nat), rs[j]? = some r → W.ownsRow w3.heap.size 3 1 (Vr j) r.length (natV r) ∧ ∀ g, (Vr j).ownBlock = some g → g < wA.heap.size := fun W hW j r hj => by
        have h1 := HRM.out.own j r hj
        refine ⟨ownsRow_block h1 fun g hg => hW.block g (h1.lt g hg).2 (by have := (h1.lt g hg).1; omega), fun g hg => (h1.lt g hg).2⟩
      have HRB := Lib.hid hrb
      obtain ⟨lx0, hlx0⟩ : ∃ lx0, lx0 = ix.length := ⟨_, rfl⟩
      have HLX := Lib.hid hlx0
      rw [← hlx0] at hU0 hixl
      clear hM hO hX hO2 hrb hlx0
      go_upto_region 27 with fail
      rw [hU0]
      clear hU0
      go_loopw [84] (fun s84 wq => ∃ (p : Nat) (lx : List (List Nat)), p ≤ lx0 ∧ s84 = .int .i64 (p : Int) ∧ WvM wA Q n Vr wv U lx wq ∧ lx.length = lx0 ∧
        (∀ (W : Nat) (l k : List Nat), ix[W]? = some l → lx[W]? = some k → (W < p → k.Perm l ∧ ByKey (l.map fun i => rs.getD i []) (k.map fun i => rs.getD i [])) ∧ (p ≤ W → k = l))) (fun s84 _ => lx0 - (intOf s84).toNat)
      case atStart => exact ⟨0, ix, Nat.zero_le _, rfl, HM.out, HLX.out.symm, fun W l k h1 h2 => ⟨fun h => by omega, fun _ => by rw [h1] at h2; exact (Option.some.inj h2).symm⟩⟩
      case round =>
        obtain ⟨p, lx, hp, rfl, hM, hlxl, hlx⟩ := hrel
        obtain ⟨wq, rfl⟩ : ∃ wq, wq = wr := ⟨_, rfl⟩
        have HM2 := Lib.hid hM
        have HLXS := Lib.hid hlx
        by_cases hpl : p < lx0
        · obtain ⟨l, hl⟩ : ∃ l, ix[p]? = some l := ⟨_, List.getElem?_eq_getElem (by rw [← HLX.out]; exact hpl)⟩
          obtain ⟨k0, hk0⟩ : ∃ k, lx[p]? = some k := ⟨_, List.getElem?_eq_getElem (by omega)⟩
          obtain rfl : l = k0 := ((hlx p l k0 hl hk0).2 (Nat.le_refl _)).symm
          obtain ⟨g0, cap0, u0, hV0, hu0, hcell0, -, -, -⟩ := own_cellD hM.row0 (i := p) (by omega)
          have hu0' : u0 = U (1 + p) := by
            rw [List.getElem?_map, List.getElem?_range (by omega)] at hu0
            exact (Option.some.inj hu0).symm
          rw [hu0'] at hcell0
          rw [hlxl, HU0.out, ← HLX.out] at hV0
          simp only [Value.slice.injEq, true_and] at hV0
          obtain ⟨rfl, rfl⟩ := hV0
          have hrow := hM.row1 hk0
          have hlm := List.mem_of_getElem? hl
          have hllt : ∀ j ∈ l, j < rs.length := HX.out.lt l hlm
          have hlen : l.length ≤ rs.length := nodup_lt (HX.out.nd l hlm) hllt
          have hmap : l.map Vr = (List.range l.length).map (fun j => Vr (l.getD j 0)) := by
            have h1 := range_map_getD l 0
            calc l.map Vr = ((List.range l.length).map (fun j => l.getD j 0)).map Vr := by rw [h1]
              _ = _ := by rw [List.map_map]; rfl
          rw [hmap] at hrow
          have hget : ∀ j, j < l.length → l.getD j 0 ∈ l := fun j hj => by
            rw [List.getD_eq_getElem?_getD, List.getElem?_eq_getElem hj]; exact List.getElem_mem hj
          have hat : RingsAt wq (U (1 + p)) l.length (fun j => Vr (l.getD j 0)) (fun j => (kyR (rs.getD (l.getD j 0) []) : Nat)) := by
            intro j hj
            have hjl := hllt _ (hget j hj)
            have hr : rs[l.getD j 0]? = some (rs.getD (l.getD j 0) []) := getD_at [] hjl
            obtain ⟨ho, hb⟩ := HRB.out wq hM.fr _ _ hr
            have hm := List.mem_of_getElem? hr
            have hne := HRA.out.o.ne _ hm
            have h0 : 0 < (rs.getD (l.getD j 0) []).length := by
              cases hq : rs.getD (l.getD j 0) [] with
              | nil => exact absurd hq hne
              | cons a l => simp
            have hrl2 := HRA.out.len hm
            obtain ⟨g, cap, hv⟩ : ∃ g cap, Vr (l.getD j 0) = .slice (some ⟨g, 0, none⟩) (rs.getD (l.getD j 0) []).length cap := by
              rcases ho.2 with ⟨_, hz⟩ | ⟨g, c, cur, e, -⟩
              · omega
              · exact ⟨g, c, e⟩
            rw [hv] at ho hb
            refine ⟨g, _, cap, hv, h0, by unfold maxLen; omega, (ho.lt g rfl).2, fun e => ?_, ?_⟩
            · have h1 := (hrow.lt g e).1
              have h2 := hb g rfl
              omega
            · rw [ho.cellAt 0 (by omega)]
              refine natV_at ?_
              cases hq : rs.getD (l.getD j 0) [] with
              | nil => exact absurd hq hne
              | cons a l => rfl
          have hso := sortRings_any hrow (by omega) hat
          have HSO := Lib.hid hso
          have HLK := Lib.hid (And.intro hl (And.intro hk0 hlxl))
          have HLM := Lib.hid (And.intro hlm hget)
          have hp0 : (0 : Int) ≤ p := by omega
          have hp1 : (p : Int) < lx0 := by omega
          clear hM hlx hl hk0 hu0 hu0' hrow hmap hat hso hlm hllt hget hlxl
          go_wp2_with (go_at_call 35; refine HSO.out.mono ?_; rintro e w5 ⟨rfl, hgd5, lp, hlp, hls, ho5⟩)
          have hpm : (lp.map fun j => l.getD j 0).Perm l := by
            have h1 := hlp.map (fun j => l.getD j 0)
            rw [range_map_getD] at h1
            exact h1
          have hbk : ByKey (l.map fun i => rs.getD i []) ((lp.map fun j => l.getD j 0).map fun i => rs.getD i []) := byKey_of HRA.out.o (HX.out.lt l HLM.out.1) (HX.out.nd l HLM.out.1) hpm (by rw [List.pairwise_map]; exact hls)
          have hM5 := HM2.out.sorted (W := p) (l := lp.map fun j => l.getD j 0) (by rw [HLK.out.2.2]; exact hpl) hgd5 (by
            have h1 := ho5
            have e1 : lp.map (fun j => Vr (l.getD j 0)) = (lp.map fun j => l.getD j 0).map Vr := by rw [List.map_map]; rfl
            rw [e1] at h1
            have e2 : (lp.map fun j => l.getD j 0).length = l.length := hpm.length_eq
            rw [e2]
            exact h1)
          have HRES := Lib.hid (And.intro hM5 (And.intro hpm hbk))
          clear hM5 hpm hbk hgd5 hlp hls ho5 hcell0
          go_roundw
          case rel => exact ⟨p + 1, lx.set p (lp.map fun j => l.getD j 0), by omega, by go_num, HRES.out.1, by rw [List.length_set]; exact HLK.out.2.2, fun W l' k' h1 h2 => by
            by_cases e : W = p
            · subst e
              rw [List.getElem?_set_self (by rw [HLK.out.2.2]; exact hpl)] at h2
              rw [HLK.out.1] at h1
              obtain rfl := Option.some.inj h1
              obtain rfl := Option.some.inj h2
              exact ⟨fun _ => HRES.out.2, fun h => by omega⟩
            · rw [List.getElem?_set_ne (Ne.symm e)] at h2
              have h3 := HLXS.out W l' k' h1 h2
              exact ⟨fun h => h3.1 (by omega), fun h => h3.2 (by omega)⟩⟩
          case measure => simp [intOf]; omega
        · obtain rfl : lx0 = p := by omega
          have hKw : w.heap.size ≤ w3.heap.size := HB3.out.1.size
          have HFIN : Hid (ToldWv m w (.returned (U 0)) wq) := Lib.hid ⟨wA.heap.size, U, Vr, rs, wv, ix, lx, rfl, by have := HBA.out.size; omega, hM.fr.size, by rw [← HN.out]; exact HRA.out, HO2.out, HX.out, by rw [← HLX.out]; exact hlxl,
            fun W l k h1 h2 => (hlx W l k h1 h2).1 (by have := (List.getElem?_eq_some_iff.1 h1).1; rw [HLX.out]; exact this), hM.pool,
            fun j r hj => ⟨owns_mono_ (HRB.out wq hM.fr j r hj).1 hKw, (HRB.out wq hM.fr j r hj).2⟩,
            (HB3.out.1.trans (HBA.out.mono hKw)).trans (hM.fr.below (by have := HBA.out.size; omega) (fun k hk => by have hk : k = Q := hk; have := HB3.out.2; omega))⟩
          have hU0F := HU0.out
          rw [← HLX.out] at hU0F
          rw [hU0F] at HFIN
          clear hM hlx hU0F
          go_wp2_with fail
          go_ret
          exact HFIN.out
end Go.Proofs.Ytdfiflbkamhchaa

/- Ints of the statements: whether two lists of numbers are the same. -/
namespace Go.Proofs.Ytdfiflbkamhchaa
open Go.ChangeShapes Go.WideShapes Go.RowKit Go.Deep
set_option linter.unusedVariables false

theorem intsS_any (a b : List Int) (v u : Value) (w : World) (hv : VS w 1 RInt v a) (hu : VS w 1 RInt u b) :
    Calls Try.prog 22 #[v, u] w fun e w' => e = .returned (.bool (decide (a = b))) ∧ ∃ n, w' = w.drewN n := by
  obtain ⟨A, c, rfl, ha⟩ := hv
  obtain ⟨B, d, rfl, hb⟩ := hu
  have hal := ha.len
  have hbl := hb.len
  by_cases hl : a.length = b.length
  · have hne : ((a.length : Int) != b.length) = false := by simp [hl]
    have HL := Lib.hid hl
    clear hl
    go_enter Try.func22, Try.ntmps22
    go_wp2_with fail
    go_loopw [5] (fun i wr => ∃ k q : Nat, k ≤ a.length ∧ i = .int .i64 k ∧ wr = w.drewN q ∧ a.take k = b.take k) (fun i _ => a.length - (intOf i).toNat)
    case atStart => exact ⟨0, 0, Nat.zero_le _, rfl, rfl, by simp⟩
    case round =>
      obtain ⟨k, q, hk, rfl, rfl, hsame⟩ := hrel
      have HS := Lib.hid hsame
      clear hsame
      by_cases hlt : k < a.length
      · obtain ⟨b1, o1, x, rfl, hx, hxc, -⟩ := ha.int hlt
        have hkb : k < b.length := by have := HL.out; omega
        obtain ⟨b2, o2, y, rfl, hy, hyc, -⟩ := hb.int hkb
        have hk0 : (0 : Int) ≤ k := by omega
        have hk1 : (k : Int) < a.length := by omega
        have hk2 : (k : Int) < b.length := by omega
        by_cases hxy : x = y
        · have hb1 : (x != y) = false := by simp [hxy]
          have hsn : Hid (a.take (k + 1) = b.take (k + 1)) := Lib.hid (by rw [take_succ_of hx.out, take_succ_of hy.out, HS.out, hxy])
          clear hxy
          go_wp2_with fail
          go_quiet (fail)
          go_wp2_with fail
          go_roundw
          case rel => exact ⟨k + 1, _, by omega, by go_num, rfl, hsn.out⟩
          case measure => simp [intOf]; omega
        · have hb1 : (x != y) = true := by simpa using hxy
          have hne2 : Hid (decide (a = b) = false) := Lib.hid (decide_eq_false (fun e => hxy (by have h1 := hx.out; rw [e, hy.out] at h1; exact (Option.some.inj h1).symm)))
          clear hxy
          go_wp2_with fail
          go_quiet (fail)
          go_wp2_with fail
          go_ret
          exact ⟨(show Ending.returned (.bool false) = .returned (.bool (decide (a = b))) by rw [hne2.out]), _, World.drewN_drewN _ _ _⟩
      · have hyes : Hid (decide (a = b) = true) := Lib.hid (decide_eq_true (by
          have h1 := HS.out
          rwa [List.take_of_length_le (by omega), List.take_of_length_le (by have := HL.out; omega)] at h1))
        go_wp2_with fail
        go_ret
        exact ⟨(show Ending.returned (.bool true) = .returned (.bool (decide (a = b))) by rw [hyes.out]), _, rfl⟩
  · have hne : ((a.length : Int) != b.length) = true := by simp; omega
    have hno : decide (a = b) = false := decide_eq_false (fun e => hl (by rw [e]))
    rw [hno]
    clear hl hno
    go_enter Try.func22, Try.ntmps22
    go_wp2_with fail
    go_ret
    exact ⟨rfl, 0, rfl⟩
end Go.Proofs.Ytdfiflbkamhchaa
