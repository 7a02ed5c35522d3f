/- The walk of DequeOnce. -/
import Derived.Test.YtacadgocoleaoaaOnTJ
import Derived.Deep.DeepCutAuto
namespace Go.Proofs.Ytacadgocoleaoaa
open Go.ChangeShapes Go.WideShapes Go.RowKit Go.Deep
set_option linter.unusedVariables false

theorem infoUnder : (Try.prog.info? 54).map (fun i => (i.zero, i.size, i.bytes)) = some (some (.agg #[.pointer none, .int .i64 0]), 2, 16) := by kernel_rfl
set_option maxRecDepth 100000 in
set_option maxHeartbeats 8000000 in
theorem dequeOnce_walk (m0 : List DeedD) (v0 : Value) (W : World) (hm : VS W 3 RDeed v0 m0) : Calls Try.prog 4 #[v0] W fun e w' => e = .returned (.bool true) ∧ Below W.heap.size W w' := by
  obtain ⟨A, c, rfl, hsl⟩ := hm
  have hlen := hsl.len
  obtain ⟨iU, hu, hz0, hz1, hz2⟩ := info_parts infoUnder
  have HU := Lib.hid (And.intro hu (And.intro hz0 (And.intro hz1 hz2)))
  clear hu hz0 hz1 hz2
  obtain ⟨i0, hi, hz0, hz1, hz2⟩ := info_parts Try.info3
  have HI := Lib.hid (And.intro hi (And.intro hz0 (And.intro hz1 hz2)))
  clear hi hz0 hz1 hz2
  have HM := Lib.hid hsl
  have hmc : m0.length ≤ c := hsl.1
  have HMC := Lib.hid hmc
  obtain ⟨k0, hk0⟩ : ∃ k0, m0.length = k0 := ⟨_, rfl⟩
  rw [hk0] at hlen hmc ⊢
  have HK0 := Lib.hid hk0
  clear hsl hk0
  go_enter Try.func4, Try.ntmps4
  go_wp2_with fail
  refine (up11_any W).mono ?_
  rintro e w1 ⟨rfl, hb1⟩
  have HB1 := Lib.hid hb1
  clear hb1
  go_wp2_with fail
  refine (new_any w1).mono ?_
  rintro e w2 ⟨rfl, hD2, hb2⟩
  have HB2 : Hid (Below W.heap.size W w2) := Lib.hid (HB1.out.trans (hb2.mono HB1.out.size))
  have HWD : Hid (W.heap.size ≤ w1.heap.size) := Lib.hid HB1.out.size
  generalize w1.heap.size = D at *
  have HD2 := Lib.hid hD2
  clear hD2 hb2
  go_upto_if 25 with fail
  go_cut [0] from 23 to 27 (fun s0 wc => ∃ (n : Nat) (m : List DeedD), s0 = .slice A n c ∧ wc = w2 ∧ Hid (m.length = n) ∧ n ≤ 400 ∧ Hid (SL W 3 RDeed A c m))
  case first =>
    by_cases hk : 400 < k0
    · have hkk : (400 : Int) < (k0 : Int) := by omega
      have hcc : 400 ≤ c := by omega
      go_wp2_with fail
      go_meet
      case rel => exact ⟨400, m0.take 400, rfl, rfl, Lib.hid (by rw [List.length_take]; have := HK0.out; omega), Nat.le_refl _, Lib.hid (HM.out.takeD 400)⟩
    · have hkk : ¬ (400 : Int) < (k0 : Int) := by omega
      go_wp2_with fail
      go_meet
      case rel => exact ⟨k0, m0, rfl, rfl, HK0, by omega, HM⟩
  case rest =>
    obtain ⟨n, m, rfl, rfl, HL, hn400, HS⟩ := hcut
    clear hmc hlen HK0 HMC HM
    have hn4 : (n : Int) ≤ 400 := by omega
    have H0 : Hid (OnT W D n 0 [] [] (.slice none 0 0) (.slice none 0 0) wc) := Lib.hid (OnT.start HD2.out HB2.out HWD.out)
    go_wp2_with fail
    go_loopw [5, 6, 7] (fun s5 s6 s7 wr => ∃ (i : Nat) (l : List (Nat × OpS)) (inn : List Int) (vl vi : Value), vl = s5 ∧ vi = s6 ∧ s7 = .int .i64 (i : Int) ∧ Hid (OnT W D n i l inn vl vi wr)) (fun _ _ s7 _ => n + 31 - (intOf s7).toNat)
    case atStart => exact ⟨0, [], [], _, _, rfl, rfl, rfl, H0⟩
    case round =>
      obtain ⟨i, l, inn, vl, vi, rfl, rfl, rfl, HT⟩ := hrel
      obtain ⟨A1, c1, hA1⟩ := own_sliceL HT.out.rl
      obtain ⟨A2, c2, hA2⟩ := own_sliceL HT.out.ri
      subst hA1 hA2
      have hi430 : i ≤ 430 := by have := HT.out.ile; omega
      have hiI : (i : Int) ≤ 430 := by omega
      obtain ⟨ll, hll⟩ : ∃ ll, l.length = ll := ⟨_, rfl⟩
      obtain ⟨il, hil⟩ : ∃ il, inn.length = il := ⟨_, rfl⟩
      rw [hll, hil] at HT ⊢
      have hl6 : ll ≤ 6 := by rw [← hll]; exact HT.out.few
      have HLL := Lib.hid hll
      have HIL := Lib.hid hil
      clear hll hil
      by_cases hend : ¬ i < n ∧ ll = 0
      · obtain ⟨he1, rfl⟩ := hend
        have hin : ¬ (i : Int) < n := by omega
        clear he1
        have hl0 : l = [] := List.eq_nil_of_length_eq_zero HLL.out
        subst hl0
        obtain ⟨sR, hR⟩ := HT.out.rst
        have HLEFT := Lib.hid (left_any hR (by omega) HT.out.ri (by omega))
        clear hR
        go_wp2_with fail
        refine HLEFT.out.mono ?_
        rintro e wz ⟨rfl, hfz⟩
        have HZ := Lib.hid hfz
        clear hfz HLEFT
        go_wp2_with fail
        go_ret
        exact ⟨rfl, HT.out.bel.trans (HZ.out.below HT.out.bel.size (fun y hy => by have := HT.out.wd; omega))⟩
      · have HEND := Lib.hid hend
        clear hend
        have hin0 : i < n ∨ (¬ i < n ∧ 0 < ll) := by have := HEND.out; omega
        rcases hin0 with hin | ⟨hin, hl0⟩
        · have hiI2 : (i : Int) < n := by omega
          obtain ⟨b0, o0, d, hA, hd, hd1, hd2, hd3⟩ := HS.out.at_ (k := i) (by have := HL.out; omega)
          subst hA
          obtain ⟨y1, z1⟩ := hd1
          obtain ⟨y2, z2⟩ := hd2
          obtain ⟨y3, z3⟩ := hd3
          have hb0 : b0 < W.heap.size := block_lt_of_cell y1
          have x1 : wr.cell? ⟨b0, o0 + i * 3, none⟩ = some (.int .i64 d.what) := (World.cell?_of_block (HT.out.bel.block b0 hb0)).trans y1
          have x2 : wr.cell? ⟨b0, o0 + i * 3 + 1, none⟩ = some (.int .i64 d.v) := (World.cell?_of_block (HT.out.bel.block b0 hb0)).trans y2
          have x3 : wr.cell? ⟨b0, o0 + i * 3 + 2, none⟩ = some (.int .i64 d.n) := (World.cell?_of_block (HT.out.bel.block b0 hb0)).trans y3
          clear y1 y2 y3
          go_upto_region 13 with fail
          obtain ⟨wA, hwA⟩ : ∃ wA, wA = wr.alloc (Obj.cells #[.int .i64 9, .int .i64 0, .int .i64 0] 30) := ⟨_, rfl⟩
          rw [← hwA]
          have hXA : wA.heap[wr.heap.size]? = some (.cells #[.int .i64 9, .int .i64 0, .int .i64 0] 30 (0, 0)) := by rw [hwA]; exact heap_alloc_new _ _
          have hBA : Below wr.heap.size wr wA := by rw [hwA]; exact (Below.refl _ _).alloc (Nat.le_refl _) _
          have hb0r : b0 < wr.heap.size := Nat.lt_of_lt_of_le hb0 HT.out.bel.size
          have u1 : wA.cell? ⟨b0, o0 + i * 3, none⟩ = some (.int .i64 d.what) := (World.cell?_of_block (hBA.block b0 hb0r)).trans x1
          have u2 : wA.cell? ⟨b0, o0 + i * 3 + 1, none⟩ = some (.int .i64 d.v) := (World.cell?_of_block (hBA.block b0 hb0r)).trans x2
          have u3 : wA.cell? ⟨b0, o0 + i * 3 + 2, none⟩ = some (.int .i64 d.n) := (World.cell?_of_block (hBA.block b0 hb0r)).trans x3
          generalize hXX : wr.heap.size = X at *
          have e1 : wA.cell? ⟨X, 0, none⟩ = some (.int .i64 9) := cell_of_block hXA 0
          have e2 : wA.cell? ⟨X, 1, none⟩ = some (.int .i64 0) := cell_of_block hXA 1
          have e3 : wA.cell? ⟨X, 2, none⟩ = some (.int .i64 0) := cell_of_block hXA 2
          have f1 : wA.frozen? ⟨X, 0, none⟩ = false := free_of_block hXA 0
          have f2 : wA.frozen? ⟨X, 1, none⟩ = false := free_of_block hXA 1
          have f3 : wA.frozen? ⟨X, 2, none⟩ = false := free_of_block hXA 2
          have HXA := Lib.hid hXA
          have HBA := Lib.hid hBA
          have HXX := Lib.hid hXX
          clear hwA hXA hBA hb0r x1 x2 x3 hb0 hXX
          go_upto_region 15 with fail
          obtain ⟨wX, hwX⟩ : ∃ wX, wX = ((wA.setCell ⟨X, 0, none⟩ (.int .i64 d.what)).setCell ⟨X, 1, none⟩ (.int .i64 d.v)).setCell ⟨X, 2, none⟩ (.int .i64 d.n) := ⟨_, rfl⟩
          rw [← hwX]
          have HX : Hid (wX.heap[X]? = some (.cells #[.int .i64 d.what, .int .i64 d.v, .int .i64 d.n] 30 (0, 0))) := Lib.hid (by rw [hwX]; exact set_of_block _ (set_of_block _ (set_of_block _ HXA.out)))
          have HBX : Hid (Below X wr wX) := Lib.hid (by rw [hwX]; exact ((HBA.out.setCell (p := ⟨X, 0, none⟩) (Nat.le_refl _) _).setCell (p := ⟨X, 1, none⟩) (Nat.le_refl _) _).setCell (p := ⟨X, 2, none⟩) (Nat.le_refl _) _)
          clear u1 u2 u3 e1 e2 e3 f1 f2 f3 hwX
          have HTX : Hid (OnT W D n i l inn (.slice A1 ll c1) (.slice A2 il c2) wX) := Lib.hid (HT.out.bw (by rw [HXX.out]; exact HBX.out))
          have x0 : wX.cell? ⟨X, 0, none⟩ = some (.int .i64 d.what) := cell_of_block HX.out 0
          have x2 : wX.cell? ⟨X, 2, none⟩ = some (.int .i64 d.n) := cell_of_block HX.out 2
          go_wp2_with fail
          refine (pick11 d.what z1 6 (by omega) (by omega) wX).mono ?_
          rintro e w5 ⟨rfl, hw5⟩
          obtain rfl := hw5.symm
          clear hw5
          obtain ⟨κ, hκ⟩ : ∃ κ, pickQ d.what 6 = κ := ⟨_, rfl⟩
          have hκ6 : κ < 6 := by rw [← hκ]; exact pickQ_lt _ (by omega)
          rw [hκ]
          have HKA := Lib.hid hκ
          clear hκ
          go_wp2_with fail
          refine (free_any HTX.out.rl (by have := HTX.out.few; omega)).mono ?_
          rintro e w5 ⟨rfl, hw5⟩
          obtain rfl := hw5.symm
          clear hw5
          obtain ⟨fb, hfb⟩ : ∃ fb, FreeB l = fb := ⟨_, rfl⟩
          rw [hfb]
          have HFB := Lib.hid hfb
          clear hfb
          go_upto_region 17 with fail
          go_cut [66] from 28 to 148 (fun s66 wc => ∃ bq : Bool, s66 = .bool bq ∧ wc = wX ∧ Hid (bq = decide (κ < 3 ∧ ll < 6 ∧ (κ = 2 ∨ fb = true))))
          case first =>
            by_cases k1 : κ < 3
            · have k1' : (κ : Int) < 3 := by omega
              by_cases k2 : ll < 6
              · have k2' : (ll : Int) < 6 := by omega
                by_cases k3 : κ = 2
                · have k3' : ((κ : Int) == 2) = true := by rw [k3]; rfl
                  go_wp2_with fail
                  go_meet
                  case rel => exact ⟨true, rfl, rfl, Lib.hid (by simp [k1, k2, k3])⟩
                · have k3' : ((κ : Int) == 2) = false := by simp; omega
                  go_wp2_with fail
                  go_meet
                  case rel => exact ⟨fb, rfl, rfl, Lib.hid (by cases fb <;> simp [k1, k2, k3])⟩
              · have k2' : ¬ (ll : Int) < 6 := by omega
                go_wp2_with fail
                go_meet
                case rel => exact ⟨false, rfl, rfl, Lib.hid (by simp [k2])⟩
            · have k1' : ¬ (κ : Int) < 3 := by omega
              go_wp2_with fail
              go_meet
              case rel => exact ⟨false, rfl, rfl, Lib.hid (by simp [k1])⟩
          case rest =>
            obtain ⟨bq, rfl, hwc, HBQ⟩ := hcut
            obtain rfl := hwc.symm
            clear hwc
            cases bq
            · by_cases hl0 : ll = 0
              · have hle : ((ll : Int) == 0) = true := by rw [hl0]; rfl
                have HT6 := Lib.hid (HTX.out.skip hin)
                clear hl0
                go_wp2_with fail
                go_roundw
                case rel => exact ⟨i + 1, l, inn, _, _, rfl, rfl, by go_num, HT6⟩
                case measure => have := HTX.out.ile; simp [intOf]; omega
              · have hlne : ((ll : Int) == 0) = false := by simp; omega
                have hi3 : ¬ (3000 : Int) < (i : Int) := by omega
                have HL0 := Lib.hid hl0
                clear hl0
                go_upto_region 25 with fail
                go_wp2_with fail
                refine (pick11 d.n z3 ll (by have := HL0.out; omega) (by omega) wX).mono ?_
                rintro e w5 ⟨rfl, hw5⟩
                obtain rfl := hw5.symm
                clear hw5
                obtain ⟨idx, hix⟩ : ∃ idx, pickQ d.n ll = idx := ⟨_, rfl⟩
                have hidx : idx < ll := by rw [← hix]; exact pickQ_lt _ (by have := HL0.out; omega)
                rw [hix]
                clear hix
                obtain ⟨⟨p, o⟩, hpo⟩ : ∃ x, l[idx]? = some x := ⟨l[idx]'(by have := HLL.out; omega), List.getElem?_eq_getElem _⟩
                obtain ⟨gl, cap, hA, hcs⟩ := own_elem HTX.out.rl (by omega) (i := idx) (by have := HLL.out; omega)
                injection hA with hA1 hA2 hA3
                subst hA1 hA3
                have y0 := hcs 0 (by omega)
                have y1 := hcs 1 (by omega)
                rw [Nat.add_zero, (cellsU_at hpo).1] at y0
                rw [(cellsU_at hpo).2] at y1
                have hidI : (idx : Int) < ll := by omega
                have hnc1 : ll ≤ c1 := by
                  have h1 := HTX.out.rl
                  rcases h1.2 with ⟨e, e2⟩ | ⟨g', cap', cur', e, -, -, h3, -⟩
                  · cases e
                  · injection e with _ _ e3
                    have := HLL.out
                    omega
                have hjc : idx ≤ c1 := by omega
                have HN := Lib.hid hpo
                obtain ⟨s0, ow0, hOn, hDQ⟩ := HTX.out.on
                have HOn := Lib.hid hOn
                have HDQ := Lib.hid hDQ
                have hops := hOn.ops _ (List.mem_of_getElem? hpo)
                have hal := hDQ.al (o := o) (List.mem_map.2 ⟨_, List.mem_of_getElem? hpo, rfl⟩)
                have HST := Lib.hid (step_any (i : Int) (by omega) hOn.bd hops.2 hal.safe hops.1 hOn.deq (hOn.ne _ (List.mem_of_getElem? hpo)) hOn.how)
                have HAL := Lib.hid hal
                clear hcs hA2 hpo hOn hDQ hops hal
                go_wp2_with fail
                refine HST.out.mono ?_
                rintro e w6 ⟨rfl, hR⟩
                have HR := Lib.hid hR
                clear hR HST
                by_cases hg : (stepD s0 o).2.got = 0
                · rw [decide_eq_false (show ¬ (stepD s0 o).2.got ≠ 0 from fun q => q hg)]
                  have HT6 : Hid (OnT W D n (i + 1) (l.set idx (p, (stepD s0 o).2)) inn (.slice (some ⟨gl, 0, none⟩) ll c1) (.slice A2 il c2) w6) := Lib.hid (HTX.out.on_ HOn.out HDQ.out HN.out HR.out hg)
                  clear hg y0 y1
                  go_wp2_with fail
                  go_roundw
                  case rel => exact ⟨i + 1, _, inn, _, _, rfl, rfl, by go_num, HT6⟩
                  case measure => have := HTX.out.ile; simp [intOf]; omega
                · rw [decide_eq_true hg]
                  have HG := Lib.hid hg
                  have hgI : (((stepD s0 o).2.got : Int) == 0) = false := by simp; omega
                  clear y0 y1
                  have HRI := Lib.hid (HTX.out.inRow HN.out HR.out)
                  have hpo := HTX.out.rows HN.out HR.out (w3 := w6) ⟨rfl, rfl, rfl, Nat.le_refl _, fun _ _ _ => rfl⟩
                  obtain ⟨gl2, cap2, hA, hcs⟩ := own_elem hpo (by omega) (i := idx) (by have := HLL.out; omega)
                  injection hA with hA1 hA2 hA3
                  subst hA3
                  injection hA1 with hA1
                  injection hA1 with hA1
                  subst hA1
                  have y0 := hcs 0 (by omega)
                  have y1 := hcs 1 (by omega)
                  rw [Nat.add_zero, (cellsU_at HN.out).1] at y0
                  rw [(cellsU_at HN.out).2] at y1
                  have HRES := Lib.hid (result_any HR.out.op)
                  clear hpo hcs hA2
                  go_wp2_with fail
                  refine HRES.out.mono ?_
                  rintro e w7 ⟨rfl, n7, hw7⟩
                  clear y0 y1
                  have hb7 : Below w6.heap.size w6 w7 := by rw [hw7]; exact below_drewN (Below.refl _ _) n7
                  have HR7 := Lib.hid (HR.out.below hb7)
                  have HRI7 := Lib.hid (ownsRow_block HRI.out fun g hg => hb7.block g (HRI.out.lt g hg).2)
                  have hro7 := HTX.out.rows HN.out HR7.out (w3 := w7) ⟨rfl, rfl, rfl, Nat.le_refl _, fun _ _ _ => rfl⟩
                  obtain ⟨gl2, cap2, hA, hcs⟩ := own_elem hro7 (by omega) (i := idx) (by have := HLL.out; omega)
                  injection hA with hA1 hA2 hA3
                  subst hA3
                  injection hA1 with hA1
                  injection hA1 with hA1
                  subst hA1
                  have y1 := hcs 1 (by omega)
                  rw [(cellsU_at HN.out).2] at y1
                  have HINL : inn.length ≤ i := HTX.out.cnt
                  have HINN := Lib.hid HINL
                  obtain ⟨xv, hxv⟩ : ∃ xv, (stepD s0 o).2.x = xv := ⟨_, rfl⟩
                  have HXV := Lib.hid hxv
                  have HKD : Hid ((stepD s0 o).2.kind = o.kind) := Lib.hid (step_next s0 HAL.out.in_).2
                  have HMEM := Lib.hid (((HDQ.out.step (n := idx) (o := o) (by rw [List.getElem?_map, HN.out]; rfl)).2 HG.out).2)
                  have hlt7 := HR7.out.deq.lt
                  have HLT7 := Lib.hid hlt7
                  clear hw7 hb7 hro7 hcs hA2 hxv HINL HR HRI HRES hlt7
                  by_cases hg1 : (stepD s0 o).2.got = 1
                  · have hres : resI (stepD s0 o).2 = xv := by unfold resI; rw [if_pos hg1]; exact HXV.out
                    have HG1 := Lib.hid hg1
                    rw [hres, hg1]
                    clear hres hgI hg1
                    by_cases hk : o.kind = 1
                    · have hk0 : (((o.kind : Int) - 1) == 0) = true := by rw [hk]; rfl
                      have HK := Lib.hid hk
                      clear hk
                      have HRI9 : Hid (w7.ownsRow (D + 1) 3 1 (.slice A2 il c2) il (intsQ inn)) := Lib.hid (by have h1 := HRI7.out; rw [HIL.out] at h1; exact h1)
                      have hili : il ≤ i := by rw [← HIL.out]; exact HINN.out
                      go_wp2_with (at_builtin; refine wpList_append_lies _ rfl (.tmp 124) (.tmp 126) 46 rfl (D + 1) 3 i0 (.int .i64 0) 1 8 Try.underlying46 HI.out.1 HI.out.2.1 HI.out.2.2.1 HI.out.2.2.2 rfl (by decide) _ _ _ rfl (HRI9.out.alloc _) ⟨w7.heap.size, 0, none⟩ 1 1 [.int .i64 xv] rfl rfl ?e1 ?e2 (by decide) ?e3 ?e4 ?e5 (w7.heap.size + 1) ?e6 ?_)
                      case e1 => exact news_one_add w7 _ _ rfl
                      case e2 => exact ints_oneCell .i64 [xv]
                      case e3 => unfold maxLen; omega
                      case e4 => omega
                      case e5 => have := HLT7.out; simp; omega
                      case e6 => simp
                      intro g cap w8 hown8 hgrow8 hloc8 hlt8
                      have HRS := Lib.hid (HR7.out.below ((Below.refl _ _).alloc (Nat.le_refl _) (Obj.cells #[.int .i64 xv] 3)))
                      have HG8 := Lib.hid hgrow8
                      have HINE : Hid (inn ++ [xv] = innE (stepD s0 o).2 inn) := Lib.hid (by unfold innE; rw [if_pos HG1.out, if_pos (by rw [HKD.out]; exact HK.out), HXV.out])
                      have HINL : Hid ((inn ++ [xv]).length ≤ i + 1) := Lib.hid (by rw [List.length_append]; have := HINN.out; simp; omega)
                      have HRI8 : Hid (w8.ownsRow (D + 1) 3 1 (.slice (some ⟨g, 0, none⟩) (il + 1) cap) (inn ++ [xv]).length (intsQ (inn ++ [xv]))) := Lib.hid (by
                        have h1 := hown8
                        rw [List.length_append]
                        unfold intsQ
                        rw [List.map_append, HIL.out]
                        exact h1)
                      have HVI8 : Hid (∀ g', (Value.slice (some ⟨g, 0, none⟩) (il + 1) cap).ownBlock = some g' → (Value.slice A2 il c2).ownBlock = some g' ∨ (w7.alloc (Obj.cells #[.int .i64 xv] 3)).heap.size ≤ g') := Lib.hid (fun g' hg' => by
                        have hg' : some g = some g' := hg'
                        injection hg' with hg'
                        subst hg'
                        rcases hloc8 with h1 | h1
                        · exact .inl h1
                        · exact .inr (by rw [h1]; simp))
                      clear hown8 hgrow8 hloc8 hlt8
                      have hwr : IntKind.i64.wrap ((idx : Int) + 1) = (idx : Int) + 1 := by rw [IntWalk.i64_left]; exact IntWalk.wrap64_in _ (by omega)
                      have hwn : 0 ≤ (idx : Int) + 1 ∧ (idx : Int) + 1 ≤ (ll : Int) := by omega
                      have hwt : ((idx : Int) + 1).toNat = idx + 1 := by omega
                      have HR8 := Lib.hid (HTX.out.rows HN.out HRS.out HG8.out)
                      have hro := HR8.out
                      rw [HLL.out] at hro
                      obtain ⟨v2, w9, v3, wE, HC1, HC2, HO9, HB9⟩ := cut_runs (w := w8.drew) (ty1 := 50) (ty2 := 50) Try.underlying50 HU.out.1 HU.out.2.1 HU.out.2.2.1 HU.out.2.2.2 rfl (by decide) hro (by rw [cellsU_len, HLL.out]) (fun u hu => cellsU_one hu) hidx (by omega) (by decide) (A2 := if c1 = idx + 1 then some ⟨gl, 0, none⟩ else some ⟨gl, (idx + 1) * 2, none⟩) (fun h => by rw [if_neg (by omega)]) (c1 - (idx + 1))
                      have HC1 := Lib.hid HC1
                      have HC2 := Lib.hid HC2
                      have HTE : Hid (OnT W D n (i + 1) (l.eraseIdx idx) (inn ++ [xv]) v3 (.slice (some ⟨g, 0, none⟩) (il + 1) cap) wE) := Lib.hid (by
                        refine OnT.off HTX.out HOn.out HDQ.out HN.out HRS.out HG.out HINE.out HINL.out HG8.out HRI8.out HVI8.out ((Below.refl _ w8).drew.trans HB9) ?_
                        rw [HLL.out, cellsU_erase]
                        exact HO9)
                      clear hro HO9 HB9
                      go_upto_region 40 with fail
                      refine wp_region_last (L := 10) (S := fun _ => True) (by kernel_rfl) (by kernel_rfl) (by kernel_rfl) (by kernel_rfl) ?_
                      change wpAnyH _ _ _ _ _ _ _ _ (World.drew _)
                      refine takeH (i := 1) (some 140) (v := ?_) rfl (by kernel_rfl) (by kernel_rfl) (by kernel_rfl) (fun _ _ _ h => h) trivial (fun o ho => ?_) ?_
                      rotate_left
                      · simp only [List.getElem?_toArray, List.getElem?_cons_zero, List.getElem?_cons_succ, Option.some.injEq] at ho; subst ho; refine Or.inl ⟨by rfl, fun w' hSw => ?_⟩; go_simp; try with_reducible rfl
                      simp only [Act.put, List.setIfInBounds_toArray, List.set_cons_zero, List.set_cons_succ]
                      refine takeH (i := 2) (some 141) (v := ?_) rfl (by kernel_rfl) (by kernel_rfl) (by kernel_rfl) (fun _ _ _ h => h) trivial (fun o ho => ?_) ?_
                      rotate_left
                      · simp only [List.getElem?_toArray, List.getElem?_cons_zero, List.getElem?_cons_succ, Option.some.injEq] at ho; subst ho; refine Or.inl ⟨by rfl, fun w' hSw => ?_⟩; go_simp; try with_reducible rfl
                      simp only [Act.put, List.setIfInBounds_toArray, List.set_cons_zero, List.set_cons_succ]
                      refine takeH (i := 3) (some 142) (v := ?_) rfl (by kernel_rfl) (by kernel_rfl) (by kernel_rfl) (fun _ _ _ h => h) trivial (fun o ho => ?_) ?_
                      rotate_left
                      · simp only [List.getElem?_toArray, List.getElem?_cons_zero, List.getElem?_cons_succ, Option.some.injEq] at ho; subst ho; refine Or.inl ⟨by rfl, fun w' hSw => ?_⟩; go_simp; try with_reducible rfl
                      simp only [Act.put, List.setIfInBounds_toArray, List.set_cons_zero, List.set_cons_succ]
                      refine takeH (i := 5) (some 144) (v := ?_) rfl (by kernel_rfl) (by kernel_rfl) (by kernel_rfl) (fun _ _ _ h => h) trivial (fun o ho => ?_) ?_
                      rotate_left
                      · simp only [List.getElem?_toArray, List.getElem?_cons_zero, List.getElem?_cons_succ, Option.some.injEq] at ho; subst ho; refine Or.inl ⟨by rfl, fun w' hSw => ?_⟩; go_simp; try with_reducible rfl
                      simp only [Act.put, List.setIfInBounds_toArray, List.set_cons_zero, List.set_cons_succ]
                      refine takeH (i := 6) (some 145) (v := ?_) rfl (by kernel_rfl) (by kernel_rfl) (by kernel_rfl) (fun _ _ _ h => h) trivial (fun o ho => ?_) ?_
                      rotate_left
                      · simp only [List.getElem?_toArray, List.getElem?_cons_zero, List.getElem?_cons_succ, Option.some.injEq] at ho; subst ho; refine Or.inl ⟨by rfl, fun w' hSw => ?_⟩; go_simp; try with_reducible rfl
                      simp only [Act.put, List.setIfInBounds_toArray, List.set_cons_zero, List.set_cons_succ]
                      refine takeH (i := 7) (some 146) (v := ?_) rfl (by kernel_rfl) (by kernel_rfl) (by kernel_rfl) (fun _ _ _ h => h) trivial (fun o ho => ?_) ?_
                      rotate_left
                      · simp only [List.getElem?_toArray, List.getElem?_cons_zero, List.getElem?_cons_succ, Option.some.injEq] at ho; subst ho; refine Or.inl ⟨by rfl, fun w' hSw => ?_⟩; go_simp; try with_reducible rfl
                      simp only [Act.put, List.setIfInBounds_toArray, List.set_cons_zero, List.set_cons_succ]
                      refine takeH (i := 8) (some 147) (v := ?_) rfl (by kernel_rfl) (by kernel_rfl) (by kernel_rfl) (fun _ _ _ h => h) trivial (fun o ho => ?_) ?_
                      rotate_left
                      · simp only [List.getElem?_toArray, List.getElem?_cons_zero, List.getElem?_cons_succ, Option.some.injEq] at ho; subst ho; refine Or.inl ⟨by rfl, fun w' hSw => ?_⟩; go_simp; try with_reducible rfl
                      simp only [Act.put, List.setIfInBounds_toArray, List.set_cons_zero, List.set_cons_succ]
                      refine oneH (i := 0) (by kernel_rfl) (fun o ho K hK => ?_)
                      simp only [List.getElem?_toArray, List.getElem?_cons_zero, Option.some.injEq] at ho; subst ho
                      go_simp
                      refine hK.out _ _ trivial ?_
                      clear hK K
                      refine oneH (i := 4) (by kernel_rfl) (fun o ho K hK => ?_)
                      simp only [List.getElem?_toArray, List.getElem?_cons_zero, List.getElem?_cons_succ, Option.some.injEq] at ho; subst ho
                      refine step_append_runQ rfl _ _ _ _ rfl _ _ rfl rfl HC1.out ?_
                      refine hK.out _ _ trivial ?_
                      clear hK K
                      simp only [Act.put, List.setIfInBounds_toArray, List.set_cons_zero, List.set_cons_succ]
                      refine oneH (i := 9) (by kernel_rfl) (fun o ho K hK => ?_)
                      simp only [List.getElem?_toArray, List.getElem?_cons_zero, List.getElem?_cons_succ, Option.some.injEq] at ho; subst ho
                      refine step_append_runQ rfl _ _ _ _ rfl _ _ rfl rfl HC2.out ?_
                      refine hK.out _ _ trivial ?_
                      clear hK K
                      simp only [Act.put, List.setIfInBounds_toArray, List.set_cons_zero, List.set_cons_succ]
                      refine wpAnyH_done (by kernel_rfl) ?_ _
                      refine lastH (by decide) (fun o ho K hK => ?_)
                      simp only [List.getElem?_toArray, List.getElem?_cons_zero, List.getElem?_cons_succ, Option.some.injEq] at ho; subst ho
                      go_simp
                      refine hK.out _ _ ?_
                      clear hK K
                      go_wp2_with fail
                      go_roundw
                      case rel => exact ⟨i + 1, _, (inn ++ [xv]), _, _, rfl, rfl, by go_num, HTE⟩
                      case measure => have := HTX.out.ile; simp [intOf]; omega

                    · have hk0 : (((o.kind : Int) - 1) == 0) = false := by simp; omega
                      have HK := Lib.hid hk
                      have HWO := Lib.hid (without_any HRI7.out (by have := HINN.out; omega) (x := xv) (by
                        have := HMEM.out HG1.out (by rw [HKD.out]; exact HK.out)
                        rw [HXV.out] at this
                        exact this))
                      clear hk
                      go_wp2_with fail
                      refine HWO.out.mono ?_
                      rintro e w8 ⟨v8, rfl, ho8, hb8⟩
                      have HRS := HR7
                      have HG8 := Lib.hid (grown_of_below hb8 (Value.slice A2 il c2).ownBlock)
                      have HINE : Hid (inn.erase xv = innE (stepD s0 o).2 inn) := Lib.hid (by unfold innE; rw [if_pos HG1.out, if_neg (by rw [HKD.out]; exact HK.out), HXV.out])
                      have HINL : Hid ((inn.erase xv).length ≤ i + 1) := Lib.hid (by have := List.length_erase_le (a := xv) (l := inn); have := HINN.out; omega)
                      have HRI8 : Hid (w8.ownsRow (D + 1) 3 1 v8 (inn.erase xv).length (intsQ (inn.erase xv))) := Lib.hid (owns_mono_ ho8 HLT7.out)
                      have HVI8 : Hid (∀ g', v8.ownBlock = some g' → (Value.slice A2 il c2).ownBlock = some g' ∨ w7.heap.size ≤ g') := Lib.hid (fun g' hg' => .inr (ho8.lt g' hg').1)
                      clear ho8 hb8 HWO
                      have hwr : IntKind.i64.wrap ((idx : Int) + 1) = (idx : Int) + 1 := by rw [IntWalk.i64_left]; exact IntWalk.wrap64_in _ (by omega)
                      have hwn : 0 ≤ (idx : Int) + 1 ∧ (idx : Int) + 1 ≤ (ll : Int) := by omega
                      have hwt : ((idx : Int) + 1).toNat = idx + 1 := by omega
                      have HR8 := Lib.hid (HTX.out.rows HN.out HRS.out HG8.out)
                      have hro := HR8.out
                      rw [HLL.out] at hro
                      obtain ⟨v2, w9, v3, wE, HC1, HC2, HO9, HB9⟩ := cut_runs (w := w8.drew) (ty1 := 50) (ty2 := 50) Try.underlying50 HU.out.1 HU.out.2.1 HU.out.2.2.1 HU.out.2.2.2 rfl (by decide) hro (by rw [cellsU_len, HLL.out]) (fun u hu => cellsU_one hu) hidx (by omega) (by decide) (A2 := if c1 = idx + 1 then some ⟨gl, 0, none⟩ else some ⟨gl, (idx + 1) * 2, none⟩) (fun h => by rw [if_neg (by omega)]) (c1 - (idx + 1))
                      have HC1 := Lib.hid HC1
                      have HC2 := Lib.hid HC2
                      have HTE : Hid (OnT W D n (i + 1) (l.eraseIdx idx) (inn.erase xv) v3 v8 wE) := Lib.hid (by
                        refine OnT.off HTX.out HOn.out HDQ.out HN.out HRS.out HG.out HINE.out HINL.out HG8.out HRI8.out HVI8.out ((Below.refl _ w8).drew.trans HB9) ?_
                        rw [HLL.out, cellsU_erase]
                        exact HO9)
                      clear hro HO9 HB9
                      go_upto_region 40 with fail
                      refine wp_region_last (L := 10) (S := fun _ => True) (by kernel_rfl) (by kernel_rfl) (by kernel_rfl) (by kernel_rfl) ?_
                      change wpAnyH _ _ _ _ _ _ _ _ (World.drew _)
                      refine takeH (i := 1) (some 140) (v := ?_) rfl (by kernel_rfl) (by kernel_rfl) (by kernel_rfl) (fun _ _ _ h => h) trivial (fun o ho => ?_) ?_
                      rotate_left
                      · simp only [List.getElem?_toArray, List.getElem?_cons_zero, List.getElem?_cons_succ, Option.some.injEq] at ho; subst ho; refine Or.inl ⟨by rfl, fun w' hSw => ?_⟩; go_simp; try with_reducible rfl
                      simp only [Act.put, List.setIfInBounds_toArray, List.set_cons_zero, List.set_cons_succ]
                      refine takeH (i := 2) (some 141) (v := ?_) rfl (by kernel_rfl) (by kernel_rfl) (by kernel_rfl) (fun _ _ _ h => h) trivial (fun o ho => ?_) ?_
                      rotate_left
                      · simp only [List.getElem?_toArray, List.getElem?_cons_zero, List.getElem?_cons_succ, Option.some.injEq] at ho; subst ho; refine Or.inl ⟨by rfl, fun w' hSw => ?_⟩; go_simp; try with_reducible rfl
                      simp only [Act.put, List.setIfInBounds_toArray, List.set_cons_zero, List.set_cons_succ]
                      refine takeH (i := 3) (some 142) (v := ?_) rfl (by kernel_rfl) (by kernel_rfl) (by kernel_rfl) (fun _ _ _ h => h) trivial (fun o ho => ?_) ?_
                      rotate_left
                      · simp only [List.getElem?_toArray, List.getElem?_cons_zero, List.getElem?_cons_succ, Option.some.injEq] at ho; subst ho; refine Or.inl ⟨by rfl, fun w' hSw => ?_⟩; go_simp; try with_reducible rfl
                      simp only [Act.put, List.setIfInBounds_toArray, List.set_cons_zero, List.set_cons_succ]
                      refine takeH (i := 5) (some 144) (v := ?_) rfl (by kernel_rfl) (by kernel_rfl) (by kernel_rfl) (fun _ _ _ h => h) trivial (fun o ho => ?_) ?_
                      rotate_left
                      · simp only [List.getElem?_toArray, List.getElem?_cons_zero, List.getElem?_cons_succ, Option.some.injEq] at ho; subst ho; refine Or.inl ⟨by rfl, fun w' hSw => ?_⟩; go_simp; try with_reducible rfl
                      simp only [Act.put, List.setIfInBounds_toArray, List.set_cons_zero, List.set_cons_succ]
                      refine takeH (i := 6) (some 145) (v := ?_) rfl (by kernel_rfl) (by kernel_rfl) (by kernel_rfl) (fun _ _ _ h => h) trivial (fun o ho => ?_) ?_
                      rotate_left
                      · simp only [List.getElem?_toArray, List.getElem?_cons_zero, List.getElem?_cons_succ, Option.some.injEq] at ho; subst ho; refine Or.inl ⟨by rfl, fun w' hSw => ?_⟩; go_simp; try with_reducible rfl
                      simp only [Act.put, List.setIfInBounds_toArray, List.set_cons_zero, List.set_cons_succ]
                      refine takeH (i := 7) (some 146) (v := ?_) rfl (by kernel_rfl) (by kernel_rfl) (by kernel_rfl) (fun _ _ _ h => h) trivial (fun o ho => ?_) ?_
                      rotate_left
                      · simp only [List.getElem?_toArray, List.getElem?_cons_zero, List.getElem?_cons_succ, Option.some.injEq] at ho; subst ho; refine Or.inl ⟨by rfl, fun w' hSw => ?_⟩; go_simp; try with_reducible rfl
                      simp only [Act.put, List.setIfInBounds_toArray, List.set_cons_zero, List.set_cons_succ]
                      refine takeH (i := 8) (some 147) (v := ?_) rfl (by kernel_rfl) (by kernel_rfl) (by kernel_rfl) (fun _ _ _ h => h) trivial (fun o ho => ?_) ?_
                      rotate_left
                      · simp only [List.getElem?_toArray, List.getElem?_cons_zero, List.getElem?_cons_succ, Option.some.injEq] at ho; subst ho; refine Or.inl ⟨by rfl, fun w' hSw => ?_⟩; go_simp; try with_reducible rfl
                      simp only [Act.put, List.setIfInBounds_toArray, List.set_cons_zero, List.set_cons_succ]
                      refine oneH (i := 0) (by kernel_rfl) (fun o ho K hK => ?_)
                      simp only [List.getElem?_toArray, List.getElem?_cons_zero, Option.some.injEq] at ho; subst ho
                      go_simp
                      refine hK.out _ _ trivial ?_
                      clear hK K
                      refine oneH (i := 4) (by kernel_rfl) (fun o ho K hK => ?_)
                      simp only [List.getElem?_toArray, List.getElem?_cons_zero, List.getElem?_cons_succ, Option.some.injEq] at ho; subst ho
                      refine step_append_runQ rfl _ _ _ _ rfl _ _ rfl rfl HC1.out ?_
                      refine hK.out _ _ trivial ?_
                      clear hK K
                      simp only [Act.put, List.setIfInBounds_toArray, List.set_cons_zero, List.set_cons_succ]
                      refine oneH (i := 9) (by kernel_rfl) (fun o ho K hK => ?_)
                      simp only [List.getElem?_toArray, List.getElem?_cons_zero, List.getElem?_cons_succ, Option.some.injEq] at ho; subst ho
                      refine step_append_runQ rfl _ _ _ _ rfl _ _ rfl rfl HC2.out ?_
                      refine hK.out _ _ trivial ?_
                      clear hK K
                      simp only [Act.put, List.setIfInBounds_toArray, List.set_cons_zero, List.set_cons_succ]
                      refine wpAnyH_done (by kernel_rfl) ?_ _
                      refine lastH (by decide) (fun o ho K hK => ?_)
                      simp only [List.getElem?_toArray, List.getElem?_cons_zero, List.getElem?_cons_succ, Option.some.injEq] at ho; subst ho
                      go_simp
                      refine hK.out _ _ ?_
                      clear hK K
                      go_wp2_with fail
                      go_roundw
                      case rel => exact ⟨i + 1, _, (inn.erase xv), _, _, rfl, rfl, by go_num, HTE⟩
                      case measure => have := HTX.out.ile; simp [intOf]; omega

                  · have hres : resI (stepD s0 o).2 = 0 := by unfold resI; rw [if_neg hg1]
                    have hg1I : (((stepD s0 o).2.got : Int) == 1) = false := by simp; omega
                    rw [hres]
                    have HRS := HR7
                    have HG8 : Hid (w7.grownBy w7 (Value.slice A2 il c2).ownBlock) := Lib.hid ⟨rfl, rfl, rfl, Nat.le_refl _, fun _ _ _ => rfl⟩
                    have HINE : Hid (inn = innE (stepD s0 o).2 inn) := Lib.hid (by unfold innE; rw [if_neg hg1])
                    have HINL : Hid (inn.length ≤ i + 1) := Lib.hid (by have := HINN.out; omega)
                    have HRI8 : Hid (w7.ownsRow (D + 1) 3 1 (.slice A2 il c2) inn.length (intsQ inn)) := HRI7
                    have HVI8 : Hid (∀ g', (Value.slice A2 il c2).ownBlock = some g' → (Value.slice A2 il c2).ownBlock = some g' ∨ w7.heap.size ≤ g') := Lib.hid (fun g' hg' => .inl hg')
                    clear hres hg1
                    have hwr : IntKind.i64.wrap ((idx : Int) + 1) = (idx : Int) + 1 := by rw [IntWalk.i64_left]; exact IntWalk.wrap64_in _ (by omega)
                    have hwn : 0 ≤ (idx : Int) + 1 ∧ (idx : Int) + 1 ≤ (ll : Int) := by omega
                    have hwt : ((idx : Int) + 1).toNat = idx + 1 := by omega
                    have HR8 := Lib.hid (HTX.out.rows HN.out HRS.out HG8.out)
                    have hro := HR8.out
                    rw [HLL.out] at hro
                    obtain ⟨v2, w9, v3, wE, HC1, HC2, HO9, HB9⟩ := cut_runs (w := w7.drew) (ty1 := 50) (ty2 := 50) Try.underlying50 HU.out.1 HU.out.2.1 HU.out.2.2.1 HU.out.2.2.2 rfl (by decide) hro (by rw [cellsU_len, HLL.out]) (fun u hu => cellsU_one hu) hidx (by omega) (by decide) (A2 := if c1 = idx + 1 then some ⟨gl, 0, none⟩ else some ⟨gl, (idx + 1) * 2, none⟩) (fun h => by rw [if_neg (by omega)]) (c1 - (idx + 1))
                    have HC1 := Lib.hid HC1
                    have HC2 := Lib.hid HC2
                    have HTE : Hid (OnT W D n (i + 1) (l.eraseIdx idx) inn v3 (.slice A2 il c2) wE) := Lib.hid (by
                      refine OnT.off HTX.out HOn.out HDQ.out HN.out HRS.out HG.out HINE.out HINL.out HG8.out HRI8.out HVI8.out ((Below.refl _ w7).drew.trans HB9) ?_
                      rw [HLL.out, cellsU_erase]
                      exact HO9)
                    clear hro HO9 HB9
                    go_upto_region 40 with fail
                    refine wp_region_last (L := 10) (S := fun _ => True) (by kernel_rfl) (by kernel_rfl) (by kernel_rfl) (by kernel_rfl) ?_
                    change wpAnyH _ _ _ _ _ _ _ _ (World.drew _)
                    refine takeH (i := 1) (some 140) (v := ?_) rfl (by kernel_rfl) (by kernel_rfl) (by kernel_rfl) (fun _ _ _ h => h) trivial (fun o ho => ?_) ?_
                    rotate_left
                    · simp only [List.getElem?_toArray, List.getElem?_cons_zero, List.getElem?_cons_succ, Option.some.injEq] at ho; subst ho; refine Or.inl ⟨by rfl, fun w' hSw => ?_⟩; go_simp; try with_reducible rfl
                    simp only [Act.put, List.setIfInBounds_toArray, List.set_cons_zero, List.set_cons_succ]
                    refine takeH (i := 2) (some 141) (v := ?_) rfl (by kernel_rfl) (by kernel_rfl) (by kernel_rfl) (fun _ _ _ h => h) trivial (fun o ho => ?_) ?_
                    rotate_left
                    · simp only [List.getElem?_toArray, List.getElem?_cons_zero, List.getElem?_cons_succ, Option.some.injEq] at ho; subst ho; refine Or.inl ⟨by rfl, fun w' hSw => ?_⟩; go_simp; try with_reducible rfl
                    simp only [Act.put, List.setIfInBounds_toArray, List.set_cons_zero, List.set_cons_succ]
                    refine takeH (i := 3) (some 142) (v := ?_) rfl (by kernel_rfl) (by kernel_rfl) (by kernel_rfl) (fun _ _ _ h => h) trivial (fun o ho => ?_) ?_
                    rotate_left
                    · simp only [List.getElem?_toArray, List.getElem?_cons_zero, List.getElem?_cons_succ, Option.some.injEq] at ho; subst ho; refine Or.inl ⟨by rfl, fun w' hSw => ?_⟩; go_simp; try with_reducible rfl
                    simp only [Act.put, List.setIfInBounds_toArray, List.set_cons_zero, List.set_cons_succ]
                    refine takeH (i := 5) (some 144) (v := ?_) rfl (by kernel_rfl) (by kernel_rfl) (by kernel_rfl) (fun _ _ _ h => h) trivial (fun o ho => ?_) ?_
                    rotate_left
                    · simp only [List.getElem?_toArray, List.getElem?_cons_zero, List.getElem?_cons_succ, Option.some.injEq] at ho; subst ho; refine Or.inl ⟨by rfl, fun w' hSw => ?_⟩; go_simp; try with_reducible rfl
                    simp only [Act.put, List.setIfInBounds_toArray, List.set_cons_zero, List.set_cons_succ]
                    refine takeH (i := 6) (some 145) (v := ?_) rfl (by kernel_rfl) (by kernel_rfl) (by kernel_rfl) (fun _ _ _ h => h) trivial (fun o ho => ?_) ?_
                    rotate_left
                    · simp only [List.getElem?_toArray, List.getElem?_cons_zero, List.getElem?_cons_succ, Option.some.injEq] at ho; subst ho; refine Or.inl ⟨by rfl, fun w' hSw => ?_⟩; go_simp; try with_reducible rfl
                    simp only [Act.put, List.setIfInBounds_toArray, List.set_cons_zero, List.set_cons_succ]
                    refine takeH (i := 7) (some 146) (v := ?_) rfl (by kernel_rfl) (by kernel_rfl) (by kernel_rfl) (fun _ _ _ h => h) trivial (fun o ho => ?_) ?_
                    rotate_left
                    · simp only [List.getElem?_toArray, List.getElem?_cons_zero, List.getElem?_cons_succ, Option.some.injEq] at ho; subst ho; refine Or.inl ⟨by rfl, fun w' hSw => ?_⟩; go_simp; try with_reducible rfl
                    simp only [Act.put, List.setIfInBounds_toArray, List.set_cons_zero, List.set_cons_succ]
                    refine takeH (i := 8) (some 147) (v := ?_) rfl (by kernel_rfl) (by kernel_rfl) (by kernel_rfl) (fun _ _ _ h => h) trivial (fun o ho => ?_) ?_
                    rotate_left
                    · simp only [List.getElem?_toArray, List.getElem?_cons_zero, List.getElem?_cons_succ, Option.some.injEq] at ho; subst ho; refine Or.inl ⟨by rfl, fun w' hSw => ?_⟩; go_simp; try with_reducible rfl
                    simp only [Act.put, List.setIfInBounds_toArray, List.set_cons_zero, List.set_cons_succ]
                    refine oneH (i := 0) (by kernel_rfl) (fun o ho K hK => ?_)
                    simp only [List.getElem?_toArray, List.getElem?_cons_zero, Option.some.injEq] at ho; subst ho
                    go_simp
                    refine hK.out _ _ trivial ?_
                    clear hK K
                    refine oneH (i := 4) (by kernel_rfl) (fun o ho K hK => ?_)
                    simp only [List.getElem?_toArray, List.getElem?_cons_zero, List.getElem?_cons_succ, Option.some.injEq] at ho; subst ho
                    refine step_append_runQ rfl _ _ _ _ rfl _ _ rfl rfl HC1.out ?_
                    refine hK.out _ _ trivial ?_
                    clear hK K
                    simp only [Act.put, List.setIfInBounds_toArray, List.set_cons_zero, List.set_cons_succ]
                    refine oneH (i := 9) (by kernel_rfl) (fun o ho K hK => ?_)
                    simp only [List.getElem?_toArray, List.getElem?_cons_zero, List.getElem?_cons_succ, Option.some.injEq] at ho; subst ho
                    refine step_append_runQ rfl _ _ _ _ rfl _ _ rfl rfl HC2.out ?_
                    refine hK.out _ _ trivial ?_
                    clear hK K
                    simp only [Act.put, List.setIfInBounds_toArray, List.set_cons_zero, List.set_cons_succ]
                    refine wpAnyH_done (by kernel_rfl) ?_ _
                    refine lastH (by decide) (fun o ho K hK => ?_)
                    simp only [List.getElem?_toArray, List.getElem?_cons_zero, List.getElem?_cons_succ, Option.some.injEq] at ho; subst ho
                    go_simp
                    refine hK.out _ _ ?_
                    clear hK K
                    go_wp2_with fail
                    go_roundw
                    case rel => exact ⟨i + 1, _, inn, _, _, rfl, rfl, by go_num, HTE⟩
                    case measure => have := HTX.out.ile; simp [intOf]; omega
            · have hbq : κ < 3 ∧ ll < 6 ∧ (κ = 2 ∨ fb = true) := of_decide_eq_true HBQ.out.symm
              obtain ⟨s0, ow0, hOn, hDQ⟩ := HTX.out.on
              have HOn := Lib.hid hOn
              have HDQ := Lib.hid hDQ
              clear hOn hDQ
              rcases (show κ = 2 ∨ κ = 0 ∨ κ = 1 by omega) with rfl | rfl | rfl
              · go_upto_region 18 with fail
                go_wp2_with fail
                refine (begin_steal D i wX).mono ?_
                rintro e w6 ⟨rfl, hO6, hb6⟩
                have HOn6 := Lib.hid (HOn.out.steal hO6 hb6 (Nat.le_refl _))
                have HF6 : Hid (FrX (fun y => y = D) wX w6) := Lib.hid (frx_of hb6)
                have HDQ6 : Hid (DQ s0 (l.map Prod.snd ++ [opB 3 0]) inn (i + 1)) := Lib.hid (HDQ.out.steal.more (by omega))
                clear hO6 hb6
                generalize hqq : wX.heap.size = q at *
                have HQ := Lib.hid hqq
                have HR6 : Hid (w6.ownsRow (D + 1) 54 2 (.slice A1 ll c1) ll (cellsU l)) := Lib.hid (by
                  have h1 := HTX.out.rl
                  rw [HLL.out] at h1
                  exact ownsRow_block h1 fun g hg => HF6.out.block g (h1.lt g hg).2 (fun e => by have := (h1.lt g hg).1; omega))
                clear hqq
                go_wp2_with (at_builtin; refine wpList_append_lies _ rfl (.tmp 73) (.tmp 77) 50 rfl (D + 1) 54 iU (.agg #[.pointer none, .int .i64 0]) 2 16 Try.underlying50 HU.out.1 HU.out.2.1 HU.out.2.2.1 HU.out.2.2.2 rfl (by decide) _ _ _ rfl (HR6.out.alloc _) ⟨w6.heap.size, 0, none⟩ 1 1 [.pointer (some ⟨q, 0, none⟩), .int .i64 2] rfl rfl ?e1 ?e2 (by decide) ?e3 ?e4 ?e5 (w6.heap.size + 1) ?e6 ?_)
                case e1 =>
                  intro j u hj
                  have hnb := heap_alloc_new w6 (Obj.cells #[.pointer (some ⟨q, 0, none⟩), .int .i64 2] 54)
                  rw [addr_add, Nat.zero_add, cell_of_block hnb j]
                  simpa using hj
                case e2 =>
                  intro u hu
                  simp only [List.mem_cons, List.not_mem_nil, or_false] at hu
                  rcases hu with rfl | rfl <;> rfl
                case e3 => unfold maxLen; omega
                case e4 => omega
                case e5 => have := HOn6.out.deq.lt; simp; omega
                case e6 => simp
                intro g cap w7 hown7 hgrow7 hloc7 hlt7
                have HT7 : Hid (OnT W D n (i + 1) (l ++ [(q, opB 3 0)]) inn (.slice (some ⟨g, 0, none⟩) (ll + 1) cap) (.slice A2 il c2) w7) := Lib.hid (by
                  have hlt6 := HOn6.out.deq.lt
                  refine OnT.more HTX.out hin (by rw [HLL.out]; exact hbq.2.1) (HOn6.out.below ((Below.refl _ _).alloc (Nat.le_refl _) _)) HDQ6.out (HF6.out.alloc _) (by rw [HQ.out]; exact Nat.le_refl _) hgrow7 ?_ (fun g' hg' => ?_)
                  · rw [HLL.out, cellsU_append]
                    exact hown7
                  · have hg' : some g = some g' := hg'
                    injection hg' with hg'
                    subst hg'
                    rcases hloc7 with h1 | h1
                    · exact .inl h1
                    · exact .inr (by rw [h1]; simp))
                clear hown7 hgrow7 hloc7 hlt7
                go_wp2_with fail
                go_roundw
                case rel => exact ⟨i + 1, _, inn, _, _, rfl, rfl, by go_num, HT7⟩
                case measure => have := HTX.out.ile; simp [intOf]; omega
              · have hfb1 : fb = true := hbq.2.2.elim (fun h => by cases h) id
                have how : ow0 = none := HOn.out.ow.free (by rw [HFB.out]; exact hfb1)
                subst how
                have HFR : Hid (FreeL (l.map Prod.snd)) := Lib.hid ((freeB_iff l).1 (by rw [HFB.out]; exact hfb1))
                have HBG := Lib.hid (begin_push (v := (i : Int)) HOn.out.deq)
                clear hfb1
                go_upto_region 18 with fail
                go_wp2_with fail
                refine HBG.out.mono ?_
                rintro e w6 ⟨rfl, hD6, hO6, hF6⟩
                have HOn6 := Lib.hid (HOn.out.begin_ hD6 hO6 hF6 (Nat.le_refl _) (by decide))
                have HF6 := Lib.hid hF6
                have HDQ6 : Hid (DQ s0 (l.map Prod.snd ++ [opB 1 (i : Int)]) inn (i + 1)) := Lib.hid (HDQ.out.begin_ HFR.out 1 (.inl rfl))
                clear hD6 hO6 hF6 HBG
                generalize hqq : wX.heap.size = q at *
                have HQ := Lib.hid hqq
                have HR6 : Hid (w6.ownsRow (D + 1) 54 2 (.slice A1 ll c1) ll (cellsU l)) := Lib.hid (by
                  have h1 := HTX.out.rl
                  rw [HLL.out] at h1
                  exact ownsRow_block h1 fun g hg => HF6.out.block g (h1.lt g hg).2 (fun e => by have := (h1.lt g hg).1; omega))
                clear hqq
                go_wp2_with (at_builtin; refine wpList_append_lies _ rfl (.tmp 73) (.tmp 77) 50 rfl (D + 1) 54 iU (.agg #[.pointer none, .int .i64 0]) 2 16 Try.underlying50 HU.out.1 HU.out.2.1 HU.out.2.2.1 HU.out.2.2.2 rfl (by decide) _ _ _ rfl (HR6.out.alloc _) ⟨w6.heap.size, 0, none⟩ 1 1 [.pointer (some ⟨q, 0, none⟩), .int .i64 0] rfl rfl ?e1 ?e2 (by decide) ?e3 ?e4 ?e5 (w6.heap.size + 1) ?e6 ?_)
                case e1 =>
                  intro j u hj
                  have hnb := heap_alloc_new w6 (Obj.cells #[.pointer (some ⟨q, 0, none⟩), .int .i64 0] 54)
                  rw [addr_add, Nat.zero_add, cell_of_block hnb j]
                  simpa using hj
                case e2 =>
                  intro u hu
                  simp only [List.mem_cons, List.not_mem_nil, or_false] at hu
                  rcases hu with rfl | rfl <;> rfl
                case e3 => unfold maxLen; omega
                case e4 => omega
                case e5 => have := HOn6.out.deq.lt; simp; omega
                case e6 => simp
                intro g cap w7 hown7 hgrow7 hloc7 hlt7
                have HT7 : Hid (OnT W D n (i + 1) (l ++ [(q, opB 1 (i : Int))]) inn (.slice (some ⟨g, 0, none⟩) (ll + 1) cap) (.slice A2 il c2) w7) := Lib.hid (by
                  have hlt6 := HOn6.out.deq.lt
                  refine OnT.more HTX.out hin (by rw [HLL.out]; exact hbq.2.1) (HOn6.out.below ((Below.refl _ _).alloc (Nat.le_refl _) _)) HDQ6.out (HF6.out.alloc _) (by rw [HQ.out]; exact Nat.le_refl _) hgrow7 ?_ (fun g' hg' => ?_)
                  · rw [HLL.out, cellsU_append]
                    exact hown7
                  · have hg' : some g = some g' := hg'
                    injection hg' with hg'
                    subst hg'
                    rcases hloc7 with h1 | h1
                    · exact .inl h1
                    · exact .inr (by rw [h1]; simp))
                clear hown7 hgrow7 hloc7 hlt7
                go_wp2_with fail
                go_roundw
                case rel => exact ⟨i + 1, _, inn, _, _, rfl, rfl, by go_num, HT7⟩
                case measure => have := HTX.out.ile; simp [intOf]; omega
              · have hfb1 : fb = true := hbq.2.2.elim (fun h => by cases h) id
                have how : ow0 = none := HOn.out.ow.free (by rw [HFB.out]; exact hfb1)
                subst how
                have HFR : Hid (FreeL (l.map Prod.snd)) := Lib.hid ((freeB_iff l).1 (by rw [HFB.out]; exact hfb1))
                have HBG := Lib.hid (begin_pop (v := (i : Int)) HOn.out.deq)
                clear hfb1
                go_upto_region 18 with fail
                go_wp2_with fail
                refine HBG.out.mono ?_
                rintro e w6 ⟨rfl, hD6, hO6, hF6⟩
                have HOn6 := Lib.hid (HOn.out.begin_ hD6 hO6 hF6 (Nat.le_refl _) (by decide))
                have HF6 := Lib.hid hF6
                have HDQ6 : Hid (DQ s0 (l.map Prod.snd ++ [opB 2 0]) inn (i + 1)) := Lib.hid ((HDQ.out.begin_pop HFR.out).more (by omega))
                clear hD6 hO6 hF6 HBG
                generalize hqq : wX.heap.size = q at *
                have HQ := Lib.hid hqq
                have HR6 : Hid (w6.ownsRow (D + 1) 54 2 (.slice A1 ll c1) ll (cellsU l)) := Lib.hid (by
                  have h1 := HTX.out.rl
                  rw [HLL.out] at h1
                  exact ownsRow_block h1 fun g hg => HF6.out.block g (h1.lt g hg).2 (fun e => by have := (h1.lt g hg).1; omega))
                clear hqq
                go_wp2_with (at_builtin; refine wpList_append_lies _ rfl (.tmp 73) (.tmp 77) 50 rfl (D + 1) 54 iU (.agg #[.pointer none, .int .i64 0]) 2 16 Try.underlying50 HU.out.1 HU.out.2.1 HU.out.2.2.1 HU.out.2.2.2 rfl (by decide) _ _ _ rfl (HR6.out.alloc _) ⟨w6.heap.size, 0, none⟩ 1 1 [.pointer (some ⟨q, 0, none⟩), .int .i64 1] rfl rfl ?e1 ?e2 (by decide) ?e3 ?e4 ?e5 (w6.heap.size + 1) ?e6 ?_)
                case e1 =>
                  intro j u hj
                  have hnb := heap_alloc_new w6 (Obj.cells #[.pointer (some ⟨q, 0, none⟩), .int .i64 1] 54)
                  rw [addr_add, Nat.zero_add, cell_of_block hnb j]
                  simpa using hj
                case e2 =>
                  intro u hu
                  simp only [List.mem_cons, List.not_mem_nil, or_false] at hu
                  rcases hu with rfl | rfl <;> rfl
                case e3 => unfold maxLen; omega
                case e4 => omega
                case e5 => have := HOn6.out.deq.lt; simp; omega
                case e6 => simp
                intro g cap w7 hown7 hgrow7 hloc7 hlt7
                have HT7 : Hid (OnT W D n (i + 1) (l ++ [(q, opB 2 0)]) inn (.slice (some ⟨g, 0, none⟩) (ll + 1) cap) (.slice A2 il c2) w7) := Lib.hid (by
                  have hlt6 := HOn6.out.deq.lt
                  refine OnT.more HTX.out hin (by rw [HLL.out]; exact hbq.2.1) (HOn6.out.below ((Below.refl _ _).alloc (Nat.le_refl _) _)) HDQ6.out (HF6.out.alloc _) (by rw [HQ.out]; exact Nat.le_refl _) hgrow7 ?_ (fun g' hg' => ?_)
                  · rw [HLL.out, cellsU_append]
                    exact hown7
                  · have hg' : some g = some g' := hg'
                    injection hg' with hg'
                    subst hg'
                    rcases hloc7 with h1 | h1
                    · exact .inl h1
                    · exact .inr (by rw [h1]; simp))
                clear hown7 hgrow7 hloc7 hlt7
                go_wp2_with fail
                go_roundw
                case rel => exact ⟨i + 1, _, inn, _, _, rfl, rfl, by go_num, HT7⟩
                case measure => have := HTX.out.ile; simp [intOf]; omega
        · have hiI2 : ¬ (i : Int) < n := by omega
          have hlI : (0 : Int) < ll := by omega
          go_upto_region 15 with fail
          obtain ⟨wX, hwX⟩ : ∃ wX, wX = wr.alloc (Obj.cells #[.int .i64 9, .int .i64 0, .int .i64 0] 30) := ⟨_, rfl⟩
          rw [← hwX]
          have hXA : wX.heap[wr.heap.size]? = some (.cells #[.int .i64 9, .int .i64 0, .int .i64 0] 30 (0, 0)) := by rw [hwX]; exact heap_alloc_new _ _
          have hBA : Below wr.heap.size wr wX := by rw [hwX]; exact (Below.refl _ _).alloc (Nat.le_refl _) _
          generalize hXX : wr.heap.size = X at *
          have HX := Lib.hid hXA
          have HBX := Lib.hid hBA
          have HXX := Lib.hid hXX
          clear hwX hXA hBA hXX
          have HTX : Hid (OnT W D n i l inn (.slice A1 ll c1) (.slice A2 il c2) wX) := Lib.hid (HT.out.bw (by rw [HXX.out]; exact HBX.out))
          have x0 : wX.cell? ⟨X, 0, none⟩ = some (.int .i64 9) := cell_of_block HX.out 0
          have x2 : wX.cell? ⟨X, 2, none⟩ = some (.int .i64 0) := cell_of_block HX.out 2
          go_wp2_with fail
          refine (pick11 9 (by unfold I64; omega) 6 (by omega) (by omega) wX).mono ?_
          rintro e w5 ⟨rfl, hw5⟩
          obtain rfl := hw5.symm
          clear hw5
          obtain ⟨κ, hκ⟩ : ∃ κ, pickQ 9 6 = κ := ⟨_, rfl⟩
          have hκ6 : κ < 6 := by rw [← hκ]; exact pickQ_lt _ (by omega)
          rw [hκ]
          have HKA := Lib.hid hκ
          clear hκ
          go_wp2_with fail
          refine (free_any HTX.out.rl (by have := HTX.out.few; omega)).mono ?_
          rintro e w5 ⟨rfl, hw5⟩
          obtain rfl := hw5.symm
          clear hw5
          obtain ⟨fb, hfb⟩ : ∃ fb, FreeB l = fb := ⟨_, rfl⟩
          rw [hfb]
          have HFB := Lib.hid hfb
          clear hfb
          go_upto_region 17 with fail
          go_cut [66] from 28 to 148 (fun s66 wc => ∃ bq : Bool, s66 = .bool bq ∧ wc = wX ∧ Hid (bq = decide (κ < 3 ∧ ll < 6 ∧ (κ = 2 ∨ fb = true))))
          case first =>
            by_cases k1 : κ < 3
            · have k1' : (κ : Int) < 3 := by omega
              by_cases k2 : ll < 6
              · have k2' : (ll : Int) < 6 := by omega
                by_cases k3 : κ = 2
                · have k3' : ((κ : Int) == 2) = true := by rw [k3]; rfl
                  go_wp2_with fail
                  go_meet
                  case rel => exact ⟨true, rfl, rfl, Lib.hid (by simp [k1, k2, k3])⟩
                · have k3' : ((κ : Int) == 2) = false := by simp; omega
                  go_wp2_with fail
                  go_meet
                  case rel => exact ⟨fb, rfl, rfl, Lib.hid (by cases fb <;> simp [k1, k2, k3])⟩
              · have k2' : ¬ (ll : Int) < 6 := by omega
                go_wp2_with fail
                go_meet
                case rel => exact ⟨false, rfl, rfl, Lib.hid (by simp [k2])⟩
            · have k1' : ¬ (κ : Int) < 3 := by omega
              go_wp2_with fail
              go_meet
              case rel => exact ⟨false, rfl, rfl, Lib.hid (by simp [k1])⟩
          case rest =>
            obtain ⟨bq, rfl, hwc, HBQ⟩ := hcut
            obtain rfl := hwc.symm
            clear hwc
            cases bq
            · by_cases hl0 : ll = 0
              · omega
              · have hlne : ((ll : Int) == 0) = false := by simp; omega
                have hi3 : ¬ (3000 : Int) < (i : Int) := by omega
                have HL0 := Lib.hid hl0
                clear hl0
                go_upto_region 25 with fail
                go_wp2_with fail
                refine (pick11 0 (by unfold I64; omega) ll (by have := HL0.out; omega) (by omega) wX).mono ?_
                rintro e w5 ⟨rfl, hw5⟩
                obtain rfl := hw5.symm
                clear hw5
                obtain ⟨idx, hix⟩ : ∃ idx, pickQ 0 ll = idx := ⟨_, rfl⟩
                have hidx : idx < ll := by rw [← hix]; exact pickQ_lt _ (by have := HL0.out; omega)
                rw [hix]
                clear hix
                obtain ⟨⟨p, o⟩, hpo⟩ : ∃ x, l[idx]? = some x := ⟨l[idx]'(by have := HLL.out; omega), List.getElem?_eq_getElem _⟩
                obtain ⟨gl, cap, hA, hcs⟩ := own_elem HTX.out.rl (by omega) (i := idx) (by have := HLL.out; omega)
                injection hA with hA1 hA2 hA3
                subst hA1 hA3
                have y0 := hcs 0 (by omega)
                have y1 := hcs 1 (by omega)
                rw [Nat.add_zero, (cellsU_at hpo).1] at y0
                rw [(cellsU_at hpo).2] at y1
                have hidI : (idx : Int) < ll := by omega
                have hnc1 : ll ≤ c1 := by
                  have h1 := HTX.out.rl
                  rcases h1.2 with ⟨e, e2⟩ | ⟨g', cap', cur', e, -, -, h3, -⟩
                  · cases e
                  · injection e with _ _ e3
                    have := HLL.out
                    omega
                have hjc : idx ≤ c1 := by omega
                have HN := Lib.hid hpo
                obtain ⟨s0, ow0, hOn, hDQ⟩ := HTX.out.on
                have HOn := Lib.hid hOn
                have HDQ := Lib.hid hDQ
                have hops := hOn.ops _ (List.mem_of_getElem? hpo)
                have hal := hDQ.al (o := o) (List.mem_map.2 ⟨_, List.mem_of_getElem? hpo, rfl⟩)
                have HST := Lib.hid (step_any (i : Int) (by omega) hOn.bd hops.2 hal.safe hops.1 hOn.deq (hOn.ne _ (List.mem_of_getElem? hpo)) hOn.how)
                have HAL := Lib.hid hal
                clear hcs hA2 hpo hOn hDQ hops hal
                go_wp2_with fail
                refine HST.out.mono ?_
                rintro e w6 ⟨rfl, hR⟩
                have HR := Lib.hid hR
                clear hR HST
                by_cases hg : (stepD s0 o).2.got = 0
                · rw [decide_eq_false (show ¬ (stepD s0 o).2.got ≠ 0 from fun q => q hg)]
                  have HT6 : Hid (OnT W D n (i + 1) (l.set idx (p, (stepD s0 o).2)) inn (.slice (some ⟨gl, 0, none⟩) ll c1) (.slice A2 il c2) w6) := Lib.hid (HTX.out.on_ HOn.out HDQ.out HN.out HR.out hg)
                  clear hg y0 y1
                  go_wp2_with fail
                  go_roundw
                  case rel => exact ⟨i + 1, _, inn, _, _, rfl, rfl, by go_num, HT6⟩
                  case measure => have := HTX.out.ile; simp [intOf]; omega
                · rw [decide_eq_true hg]
                  have HG := Lib.hid hg
                  have hgI : (((stepD s0 o).2.got : Int) == 0) = false := by simp; omega
                  clear y0 y1
                  have HRI := Lib.hid (HTX.out.inRow HN.out HR.out)
                  have hpo := HTX.out.rows HN.out HR.out (w3 := w6) ⟨rfl, rfl, rfl, Nat.le_refl _, fun _ _ _ => rfl⟩
                  obtain ⟨gl2, cap2, hA, hcs⟩ := own_elem hpo (by omega) (i := idx) (by have := HLL.out; omega)
                  injection hA with hA1 hA2 hA3
                  subst hA3
                  injection hA1 with hA1
                  injection hA1 with hA1
                  subst hA1
                  have y0 := hcs 0 (by omega)
                  have y1 := hcs 1 (by omega)
                  rw [Nat.add_zero, (cellsU_at HN.out).1] at y0
                  rw [(cellsU_at HN.out).2] at y1
                  have HRES := Lib.hid (result_any HR.out.op)
                  clear hpo hcs hA2
                  go_wp2_with fail
                  refine HRES.out.mono ?_
                  rintro e w7 ⟨rfl, n7, hw7⟩
                  clear y0 y1
                  have hb7 : Below w6.heap.size w6 w7 := by rw [hw7]; exact below_drewN (Below.refl _ _) n7
                  have HR7 := Lib.hid (HR.out.below hb7)
                  have HRI7 := Lib.hid (ownsRow_block HRI.out fun g hg => hb7.block g (HRI.out.lt g hg).2)
                  have hro7 := HTX.out.rows HN.out HR7.out (w3 := w7) ⟨rfl, rfl, rfl, Nat.le_refl _, fun _ _ _ => rfl⟩
                  obtain ⟨gl2, cap2, hA, hcs⟩ := own_elem hro7 (by omega) (i := idx) (by have := HLL.out; omega)
                  injection hA with hA1 hA2 hA3
                  subst hA3
                  injection hA1 with hA1
                  injection hA1 with hA1
                  subst hA1
                  have y1 := hcs 1 (by omega)
                  rw [(cellsU_at HN.out).2] at y1
                  have HINL : inn.length ≤ i := HTX.out.cnt
                  have HINN := Lib.hid HINL
                  obtain ⟨xv, hxv⟩ : ∃ xv, (stepD s0 o).2.x = xv := ⟨_, rfl⟩
                  have HXV := Lib.hid hxv
                  have HKD : Hid ((stepD s0 o).2.kind = o.kind) := Lib.hid (step_next s0 HAL.out.in_).2
                  have HMEM := Lib.hid (((HDQ.out.step (n := idx) (o := o) (by rw [List.getElem?_map, HN.out]; rfl)).2 HG.out).2)
                  have hlt7 := HR7.out.deq.lt
                  have HLT7 := Lib.hid hlt7
                  clear hw7 hb7 hro7 hcs hA2 hxv HINL HR HRI HRES hlt7
                  by_cases hg1 : (stepD s0 o).2.got = 1
                  · have hres : resI (stepD s0 o).2 = xv := by unfold resI; rw [if_pos hg1]; exact HXV.out
                    have HG1 := Lib.hid hg1
                    rw [hres, hg1]
                    clear hres hgI hg1
                    by_cases hk : o.kind = 1
                    · have hk0 : (((o.kind : Int) - 1) == 0) = true := by rw [hk]; rfl
                      have HK := Lib.hid hk
                      clear hk
                      have HRI9 : Hid (w7.ownsRow (D + 1) 3 1 (.slice A2 il c2) il (intsQ inn)) := Lib.hid (by have h1 := HRI7.out; rw [HIL.out] at h1; exact h1)
                      have hili : il ≤ i := by rw [← HIL.out]; exact HINN.out
                      go_wp2_with (at_builtin; refine wpList_append_lies _ rfl (.tmp 124) (.tmp 126) 46 rfl (D + 1) 3 i0 (.int .i64 0) 1 8 Try.underlying46 HI.out.1 HI.out.2.1 HI.out.2.2.1 HI.out.2.2.2 rfl (by decide) _ _ _ rfl (HRI9.out.alloc _) ⟨w7.heap.size, 0, none⟩ 1 1 [.int .i64 xv] rfl rfl ?e1 ?e2 (by decide) ?e3 ?e4 ?e5 (w7.heap.size + 1) ?e6 ?_)
                      case e1 => exact news_one_add w7 _ _ rfl
                      case e2 => exact ints_oneCell .i64 [xv]
                      case e3 => unfold maxLen; omega
                      case e4 => omega
                      case e5 => have := HLT7.out; simp; omega
                      case e6 => simp
                      intro g cap w8 hown8 hgrow8 hloc8 hlt8
                      have HRS := Lib.hid (HR7.out.below ((Below.refl _ _).alloc (Nat.le_refl _) (Obj.cells #[.int .i64 xv] 3)))
                      have HG8 := Lib.hid hgrow8
                      have HINE : Hid (inn ++ [xv] = innE (stepD s0 o).2 inn) := Lib.hid (by unfold innE; rw [if_pos HG1.out, if_pos (by rw [HKD.out]; exact HK.out), HXV.out])
                      have HINL : Hid ((inn ++ [xv]).length ≤ i + 1) := Lib.hid (by rw [List.length_append]; have := HINN.out; simp; omega)
                      have HRI8 : Hid (w8.ownsRow (D + 1) 3 1 (.slice (some ⟨g, 0, none⟩) (il + 1) cap) (inn ++ [xv]).length (intsQ (inn ++ [xv]))) := Lib.hid (by
                        have h1 := hown8
                        rw [List.length_append]
                        unfold intsQ
                        rw [List.map_append, HIL.out]
                        exact h1)
                      have HVI8 : Hid (∀ g', (Value.slice (some ⟨g, 0, none⟩) (il + 1) cap).ownBlock = some g' → (Value.slice A2 il c2).ownBlock = some g' ∨ (w7.alloc (Obj.cells #[.int .i64 xv] 3)).heap.size ≤ g') := Lib.hid (fun g' hg' => by
                        have hg' : some g = some g' := hg'
                        injection hg' with hg'
                        subst hg'
                        rcases hloc8 with h1 | h1
                        · exact .inl h1
                        · exact .inr (by rw [h1]; simp))
                      clear hown8 hgrow8 hloc8 hlt8
                      have hwr : IntKind.i64.wrap ((idx : Int) + 1) = (idx : Int) + 1 := by rw [IntWalk.i64_left]; exact IntWalk.wrap64_in _ (by omega)
                      have hwn : 0 ≤ (idx : Int) + 1 ∧ (idx : Int) + 1 ≤ (ll : Int) := by omega
                      have hwt : ((idx : Int) + 1).toNat = idx + 1 := by omega
                      have HR8 := Lib.hid (HTX.out.rows HN.out HRS.out HG8.out)
                      have hro := HR8.out
                      rw [HLL.out] at hro
                      obtain ⟨v2, w9, v3, wE, HC1, HC2, HO9, HB9⟩ := cut_runs (w := w8.drew) (ty1 := 50) (ty2 := 50) Try.underlying50 HU.out.1 HU.out.2.1 HU.out.2.2.1 HU.out.2.2.2 rfl (by decide) hro (by rw [cellsU_len, HLL.out]) (fun u hu => cellsU_one hu) hidx (by omega) (by decide) (A2 := if c1 = idx + 1 then some ⟨gl, 0, none⟩ else some ⟨gl, (idx + 1) * 2, none⟩) (fun h => by rw [if_neg (by omega)]) (c1 - (idx + 1))
                      have HC1 := Lib.hid HC1
                      have HC2 := Lib.hid HC2
                      have HTE : Hid (OnT W D n (i + 1) (l.eraseIdx idx) (inn ++ [xv]) v3 (.slice (some ⟨g, 0, none⟩) (il + 1) cap) wE) := Lib.hid (by
                        refine OnT.off HTX.out HOn.out HDQ.out HN.out HRS.out HG.out HINE.out HINL.out HG8.out HRI8.out HVI8.out ((Below.refl _ w8).drew.trans HB9) ?_
                        rw [HLL.out, cellsU_erase]
                        exact HO9)
                      clear hro HO9 HB9
                      go_upto_region 40 with fail
                      refine wp_region_last (L := 10) (S := fun _ => True) (by kernel_rfl) (by kernel_rfl) (by kernel_rfl) (by kernel_rfl) ?_
                      change wpAnyH _ _ _ _ _ _ _ _ (World.drew _)
                      refine takeH (i := 1) (some 140) (v := ?_) rfl (by kernel_rfl) (by kernel_rfl) (by kernel_rfl) (fun _ _ _ h => h) trivial (fun o ho => ?_) ?_
                      rotate_left
                      · simp only [List.getElem?_toArray, List.getElem?_cons_zero, List.getElem?_cons_succ, Option.some.injEq] at ho; subst ho; refine Or.inl ⟨by rfl, fun w' hSw => ?_⟩; go_simp; try with_reducible rfl
                      simp only [Act.put, List.setIfInBounds_toArray, List.set_cons_zero, List.set_cons_succ]
                      refine takeH (i := 2) (some 141) (v := ?_) rfl (by kernel_rfl) (by kernel_rfl) (by kernel_rfl) (fun _ _ _ h => h) trivial (fun o ho => ?_) ?_
                      rotate_left
                      · simp only [List.getElem?_toArray, List.getElem?_cons_zero, List.getElem?_cons_succ, Option.some.injEq] at ho; subst ho; refine Or.inl ⟨by rfl, fun w' hSw => ?_⟩; go_simp; try with_reducible rfl
                      simp only [Act.put, List.setIfInBounds_toArray, List.set_cons_zero, List.set_cons_succ]
                      refine takeH (i := 3) (some 142) (v := ?_) rfl (by kernel_rfl) (by kernel_rfl) (by kernel_rfl) (fun _ _ _ h => h) trivial (fun o ho => ?_) ?_
                      rotate_left
                      · simp only [List.getElem?_toArray, List.getElem?_cons_zero, List.getElem?_cons_succ, Option.some.injEq] at ho; subst ho; refine Or.inl ⟨by rfl, fun w' hSw => ?_⟩; go_simp; try with_reducible rfl
                      simp only [Act.put, List.setIfInBounds_toArray, List.set_cons_zero, List.set_cons_succ]
                      refine takeH (i := 5) (some 144) (v := ?_) rfl (by kernel_rfl) (by kernel_rfl) (by kernel_rfl) (fun _ _ _ h => h) trivial (fun o ho => ?_) ?_
                      rotate_left
                      · simp only [List.getElem?_toArray, List.getElem?_cons_zero, List.getElem?_cons_succ, Option.some.injEq] at ho; subst ho; refine Or.inl ⟨by rfl, fun w' hSw => ?_⟩; go_simp; try with_reducible rfl
                      simp only [Act.put, List.setIfInBounds_toArray, List.set_cons_zero, List.set_cons_succ]
                      refine takeH (i := 6) (some 145) (v := ?_) rfl (by kernel_rfl) (by kernel_rfl) (by kernel_rfl) (fun _ _ _ h => h) trivial (fun o ho => ?_) ?_
                      rotate_left
                      · simp only [List.getElem?_toArray, List.getElem?_cons_zero, List.getElem?_cons_succ, Option.some.injEq] at ho; subst ho; refine Or.inl ⟨by rfl, fun w' hSw => ?_⟩; go_simp; try with_reducible rfl
                      simp only [Act.put, List.setIfInBounds_toArray, List.set_cons_zero, List.set_cons_succ]
                      refine takeH (i := 7) (some 146) (v := ?_) rfl (by kernel_rfl) (by kernel_rfl) (by kernel_rfl) (fun _ _ _ h => h) trivial (fun o ho => ?_) ?_
                      rotate_left
                      · simp only [List.getElem?_toArray, List.getElem?_cons_zero, List.getElem?_cons_succ, Option.some.injEq] at ho; subst ho; refine Or.inl ⟨by rfl, fun w' hSw => ?_⟩; go_simp; try with_reducible rfl
                      simp only [Act.put, List.setIfInBounds_toArray, List.set_cons_zero, List.set_cons_succ]
                      refine takeH (i := 8) (some 147) (v := ?_) rfl (by kernel_rfl) (by kernel_rfl) (by kernel_rfl) (fun _ _ _ h => h) trivial (fun o ho => ?_) ?_
                      rotate_left
                      · simp only [List.getElem?_toArray, List.getElem?_cons_zero, List.getElem?_cons_succ, Option.some.injEq] at ho; subst ho; refine Or.inl ⟨by rfl, fun w' hSw => ?_⟩; go_simp; try with_reducible rfl
                      simp only [Act.put, List.setIfInBounds_toArray, List.set_cons_zero, List.set_cons_succ]
                      refine oneH (i := 0) (by kernel_rfl) (fun o ho K hK => ?_)
                      simp only [List.getElem?_toArray, List.getElem?_cons_zero, Option.some.injEq] at ho; subst ho
                      go_simp
                      refine hK.out _ _ trivial ?_
                      clear hK K
                      refine oneH (i := 4) (by kernel_rfl) (fun o ho K hK => ?_)
                      simp only [List.getElem?_toArray, List.getElem?_cons_zero, List.getElem?_cons_succ, Option.some.injEq] at ho; subst ho
                      refine step_append_runQ rfl _ _ _ _ rfl _ _ rfl rfl HC1.out ?_
                      refine hK.out _ _ trivial ?_
                      clear hK K
                      simp only [Act.put, List.setIfInBounds_toArray, List.set_cons_zero, List.set_cons_succ]
                      refine oneH (i := 9) (by kernel_rfl) (fun o ho K hK => ?_)
                      simp only [List.getElem?_toArray, List.getElem?_cons_zero, List.getElem?_cons_succ, Option.some.injEq] at ho; subst ho
                      refine step_append_runQ rfl _ _ _ _ rfl _ _ rfl rfl HC2.out ?_
                      refine hK.out _ _ trivial ?_
                      clear hK K
                      simp only [Act.put, List.setIfInBounds_toArray, List.set_cons_zero, List.set_cons_succ]
                      refine wpAnyH_done (by kernel_rfl) ?_ _
                      refine lastH (by decide) (fun o ho K hK => ?_)
                      simp only [List.getElem?_toArray, List.getElem?_cons_zero, List.getElem?_cons_succ, Option.some.injEq] at ho; subst ho
                      go_simp
                      refine hK.out _ _ ?_
                      clear hK K
                      go_wp2_with fail
                      go_roundw
                      case rel => exact ⟨i + 1, _, (inn ++ [xv]), _, _, rfl, rfl, by go_num, HTE⟩
                      case measure => have := HTX.out.ile; simp [intOf]; omega

                    · have hk0 : (((o.kind : Int) - 1) == 0) = false := by simp; omega
                      have HK := Lib.hid hk
                      have HWO := Lib.hid (without_any HRI7.out (by have := HINN.out; omega) (x := xv) (by
                        have := HMEM.out HG1.out (by rw [HKD.out]; exact HK.out)
                        rw [HXV.out] at this
                        exact this))
                      clear hk
                      go_wp2_with fail
                      refine HWO.out.mono ?_
                      rintro e w8 ⟨v8, rfl, ho8, hb8⟩
                      have HRS := HR7
                      have HG8 := Lib.hid (grown_of_below hb8 (Value.slice A2 il c2).ownBlock)
                      have HINE : Hid (inn.erase xv = innE (stepD s0 o).2 inn) := Lib.hid (by unfold innE; rw [if_pos HG1.out, if_neg (by rw [HKD.out]; exact HK.out), HXV.out])
                      have HINL : Hid ((inn.erase xv).length ≤ i + 1) := Lib.hid (by have := List.length_erase_le (a := xv) (l := inn); have := HINN.out; omega)
                      have HRI8 : Hid (w8.ownsRow (D + 1) 3 1 v8 (inn.erase xv).length (intsQ (inn.erase xv))) := Lib.hid (owns_mono_ ho8 HLT7.out)
                      have HVI8 : Hid (∀ g', v8.ownBlock = some g' → (Value.slice A2 il c2).ownBlock = some g' ∨ w7.heap.size ≤ g') := Lib.hid (fun g' hg' => .inr (ho8.lt g' hg').1)
                      clear ho8 hb8 HWO
                      have hwr : IntKind.i64.wrap ((idx : Int) + 1) = (idx : Int) + 1 := by rw [IntWalk.i64_left]; exact IntWalk.wrap64_in _ (by omega)
                      have hwn : 0 ≤ (idx : Int) + 1 ∧ (idx : Int) + 1 ≤ (ll : Int) := by omega
                      have hwt : ((idx : Int) + 1).toNat = idx + 1 := by omega
                      have HR8 := Lib.hid (HTX.out.rows HN.out HRS.out HG8.out)
                      have hro := HR8.out
                      rw [HLL.out] at hro
                      obtain ⟨v2, w9, v3, wE, HC1, HC2, HO9, HB9⟩ := cut_runs (w := w8.drew) (ty1 := 50) (ty2 := 50) Try.underlying50 HU.out.1 HU.out.2.1 HU.out.2.2.1 HU.out.2.2.2 rfl (by decide) hro (by rw [cellsU_len, HLL.out]) (fun u hu => cellsU_one hu) hidx (by omega) (by decide) (A2 := if c1 = idx + 1 then some ⟨gl, 0, none⟩ else some ⟨gl, (idx + 1) * 2, none⟩) (fun h => by rw [if_neg (by omega)]) (c1 - (idx + 1))
                      have HC1 := Lib.hid HC1
                      have HC2 := Lib.hid HC2
                      have HTE : Hid (OnT W D n (i + 1) (l.eraseIdx idx) (inn.erase xv) v3 v8 wE) := Lib.hid (by
                        refine OnT.off HTX.out HOn.out HDQ.out HN.out HRS.out HG.out HINE.out HINL.out HG8.out HRI8.out HVI8.out ((Below.refl _ w8).drew.trans HB9) ?_
                        rw [HLL.out, cellsU_erase]
                        exact HO9)
                      clear hro HO9 HB9
                      go_upto_region 40 with fail
                      refine wp_region_last (L := 10) (S := fun _ => True) (by kernel_rfl) (by kernel_rfl) (by kernel_rfl) (by kernel_rfl) ?_
                      change wpAnyH _ _ _ _ _ _ _ _ (World.drew _)
                      refine takeH (i := 1) (some 140) (v := ?_) rfl (by kernel_rfl) (by kernel_rfl) (by kernel_rfl) (fun _ _ _ h => h) trivial (fun o ho => ?_) ?_
                      rotate_left
                      · simp only [List.getElem?_toArray, List.getElem?_cons_zero, List.getElem?_cons_succ, Option.some.injEq] at ho; subst ho; refine Or.inl ⟨by rfl, fun w' hSw => ?_⟩; go_simp; try with_reducible rfl
                      simp only [Act.put, List.setIfInBounds_toArray, List.set_cons_zero, List.set_cons_succ]
                      refine takeH (i := 2) (some 141) (v := ?_) rfl (by kernel_rfl) (by kernel_rfl) (by kernel_rfl) (fun _ _ _ h => h) trivial (fun o ho => ?_) ?_
                      rotate_left
                      · simp only [List.getElem?_toArray, List.getElem?_cons_zero, List.getElem?_cons_succ, Option.some.injEq] at ho; subst ho; refine Or.inl ⟨by rfl, fun w' hSw => ?_⟩; go_simp; try with_reducible rfl
                      simp only [Act.put, List.setIfInBounds_toArray, List.set_cons_zero, List.set_cons_succ]
                      refine takeH (i := 3) (some 142) (v := ?_) rfl (by kernel_rfl) (by kernel_rfl) (by kernel_rfl) (fun _ _ _ h => h) trivial (fun o ho => ?_) ?_
                      rotate_left
                      · simp only [List.getElem?_toArray, List.getElem?_cons_zero, List.getElem?_cons_succ, Option.some.injEq] at ho; subst ho; refine Or.inl ⟨by rfl, fun w' hSw => ?_⟩; go_simp; try with_reducible rfl
                      simp only [Act.put, List.setIfInBounds_toArray, List.set_cons_zero, List.set_cons_succ]
                      refine takeH (i := 5) (some 144) (v := ?_) rfl (by kernel_rfl) (by kernel_rfl) (by kernel_rfl) (fun _ _ _ h => h) trivial (fun o ho => ?_) ?_
                      rotate_left
                      · simp only [List.getElem?_toArray, List.getElem?_cons_zero, List.getElem?_cons_succ, Option.some.injEq] at ho; subst ho; refine Or.inl ⟨by rfl, fun w' hSw => ?_⟩; go_simp; try with_reducible rfl
                      simp only [Act.put, List.setIfInBounds_toArray, List.set_cons_zero, List.set_cons_succ]
                      refine takeH (i := 6) (some 145) (v := ?_) rfl (by kernel_rfl) (by kernel_rfl) (by kernel_rfl) (fun _ _ _ h => h) trivial (fun o ho => ?_) ?_
                      rotate_left
                      · simp only [List.getElem?_toArray, List.getElem?_cons_zero, List.getElem?_cons_succ, Option.some.injEq] at ho; subst ho; refine Or.inl ⟨by rfl, fun w' hSw => ?_⟩; go_simp; try with_reducible rfl
                      simp only [Act.put, List.setIfInBounds_toArray, List.set_cons_zero, List.set_cons_succ]
                      refine takeH (i := 7) (some 146) (v := ?_) rfl (by kernel_rfl) (by kernel_rfl) (by kernel_rfl) (fun _ _ _ h => h) trivial (fun o ho => ?_) ?_
                      rotate_left
                      · simp only [List.getElem?_toArray, List.getElem?_cons_zero, List.getElem?_cons_succ, Option.some.injEq] at ho; subst ho; refine Or.inl ⟨by rfl, fun w' hSw => ?_⟩; go_simp; try with_reducible rfl
                      simp only [Act.put, List.setIfInBounds_toArray, List.set_cons_zero, List.set_cons_succ]
                      refine takeH (i := 8) (some 147) (v := ?_) rfl (by kernel_rfl) (by kernel_rfl) (by kernel_rfl) (fun _ _ _ h => h) trivial (fun o ho => ?_) ?_
                      rotate_left
                      · simp only [List.getElem?_toArray, List.getElem?_cons_zero, List.getElem?_cons_succ, Option.some.injEq] at ho; subst ho; refine Or.inl ⟨by rfl, fun w' hSw => ?_⟩; go_simp; try with_reducible rfl
                      simp only [Act.put, List.setIfInBounds_toArray, List.set_cons_zero, List.set_cons_succ]
                      refine oneH (i := 0) (by kernel_rfl) (fun o ho K hK => ?_)
                      simp only [List.getElem?_toArray, List.getElem?_cons_zero, Option.some.injEq] at ho; subst ho
                      go_simp
                      refine hK.out _ _ trivial ?_
                      clear hK K
                      refine oneH (i := 4) (by kernel_rfl) (fun o ho K hK => ?_)
                      simp only [List.getElem?_toArray, List.getElem?_cons_zero, List.getElem?_cons_succ, Option.some.injEq] at ho; subst ho
                      refine step_append_runQ rfl _ _ _ _ rfl _ _ rfl rfl HC1.out ?_
                      refine hK.out _ _ trivial ?_
                      clear hK K
                      simp only [Act.put, List.setIfInBounds_toArray, List.set_cons_zero, List.set_cons_succ]
                      refine oneH (i := 9) (by kernel_rfl) (fun o ho K hK => ?_)
                      simp only [List.getElem?_toArray, List.getElem?_cons_zero, List.getElem?_cons_succ, Option.some.injEq] at ho; subst ho
                      refine step_append_runQ rfl _ _ _ _ rfl _ _ rfl rfl HC2.out ?_
                      refine hK.out _ _ trivial ?_
                      clear hK K
                      simp only [Act.put, List.setIfInBounds_toArray, List.set_cons_zero, List.set_cons_succ]
                      refine wpAnyH_done (by kernel_rfl) ?_ _
                      refine lastH (by decide) (fun o ho K hK => ?_)
                      simp only [List.getElem?_toArray, List.getElem?_cons_zero, List.getElem?_cons_succ, Option.some.injEq] at ho; subst ho
                      go_simp
                      refine hK.out _ _ ?_
                      clear hK K
                      go_wp2_with fail
                      go_roundw
                      case rel => exact ⟨i + 1, _, (inn.erase xv), _, _, rfl, rfl, by go_num, HTE⟩
                      case measure => have := HTX.out.ile; simp [intOf]; omega

                  · have hres : resI (stepD s0 o).2 = 0 := by unfold resI; rw [if_neg hg1]
                    have hg1I : (((stepD s0 o).2.got : Int) == 1) = false := by simp; omega
                    rw [hres]
                    have HRS := HR7
                    have HG8 : Hid (w7.grownBy w7 (Value.slice A2 il c2).ownBlock) := Lib.hid ⟨rfl, rfl, rfl, Nat.le_refl _, fun _ _ _ => rfl⟩
                    have HINE : Hid (inn = innE (stepD s0 o).2 inn) := Lib.hid (by unfold innE; rw [if_neg hg1])
                    have HINL : Hid (inn.length ≤ i + 1) := Lib.hid (by have := HINN.out; omega)
                    have HRI8 : Hid (w7.ownsRow (D + 1) 3 1 (.slice A2 il c2) inn.length (intsQ inn)) := HRI7
                    have HVI8 : Hid (∀ g', (Value.slice A2 il c2).ownBlock = some g' → (Value.slice A2 il c2).ownBlock = some g' ∨ w7.heap.size ≤ g') := Lib.hid (fun g' hg' => .inl hg')
                    clear hres hg1
                    have hwr : IntKind.i64.wrap ((idx : Int) + 1) = (idx : Int) + 1 := by rw [IntWalk.i64_left]; exact IntWalk.wrap64_in _ (by omega)
                    have hwn : 0 ≤ (idx : Int) + 1 ∧ (idx : Int) + 1 ≤ (ll : Int) := by omega
                    have hwt : ((idx : Int) + 1).toNat = idx + 1 := by omega
                    have HR8 := Lib.hid (HTX.out.rows HN.out HRS.out HG8.out)
                    have hro := HR8.out
                    rw [HLL.out] at hro
                    obtain ⟨v2, w9, v3, wE, HC1, HC2, HO9, HB9⟩ := cut_runs (w := w7.drew) (ty1 := 50) (ty2 := 50) Try.underlying50 HU.out.1 HU.out.2.1 HU.out.2.2.1 HU.out.2.2.2 rfl (by decide) hro (by rw [cellsU_len, HLL.out]) (fun u hu => cellsU_one hu) hidx (by omega) (by decide) (A2 := if c1 = idx + 1 then some ⟨gl, 0, none⟩ else some ⟨gl, (idx + 1) * 2, none⟩) (fun h => by rw [if_neg (by omega)]) (c1 - (idx + 1))
                    have HC1 := Lib.hid HC1
                    have HC2 := Lib.hid HC2
                    have HTE : Hid (OnT W D n (i + 1) (l.eraseIdx idx) inn v3 (.slice A2 il c2) wE) := Lib.hid (by
                      refine OnT.off HTX.out HOn.out HDQ.out HN.out HRS.out HG.out HINE.out HINL.out HG8.out HRI8.out HVI8.out ((Below.refl _ w7).drew.trans HB9) ?_
                      rw [HLL.out, cellsU_erase]
                      exact HO9)
                    clear hro HO9 HB9
                    go_upto_region 40 with fail
                    refine wp_region_last (L := 10) (S := fun _ => True) (by kernel_rfl) (by kernel_rfl) (by kernel_rfl) (by kernel_rfl) ?_
                    change wpAnyH _ _ _ _ _ _ _ _ (World.drew _)
                    refine takeH (i := 1) (some 140) (v := ?_) rfl (by kernel_rfl) (by kernel_rfl) (by kernel_rfl) (fun _ _ _ h => h) trivial (fun o ho => ?_) ?_
                    rotate_left
                    · simp only [List.getElem?_toArray, List.getElem?_cons_zero, List.getElem?_cons_succ, Option.some.injEq] at ho; subst ho; refine Or.inl ⟨by rfl, fun w' hSw => ?_⟩; go_simp; try with_reducible rfl
                    simp only [Act.put, List.setIfInBounds_toArray, List.set_cons_zero, List.set_cons_succ]
                    refine takeH (i := 2) (some 141) (v := ?_) rfl (by kernel_rfl) (by kernel_rfl) (by kernel_rfl) (fun _ _ _ h => h) trivial (fun o ho => ?_) ?_
                    rotate_left
                    · simp only [List.getElem?_toArray, List.getElem?_cons_zero, List.getElem?_cons_succ, Option.some.injEq] at ho; subst ho; refine Or.inl ⟨by rfl, fun w' hSw => ?_⟩; go_simp; try with_reducible rfl
                    simp only [Act.put, List.setIfInBounds_toArray, List.set_cons_zero, List.set_cons_succ]
                    refine takeH (i := 3) (some 142) (v := ?_) rfl (by kernel_rfl) (by kernel_rfl) (by kernel_rfl) (fun _ _ _ h => h) trivial (fun o ho => ?_) ?_
                    rotate_left
                    · simp only [List.getElem?_toArray, List.getElem?_cons_zero, List.getElem?_cons_succ, Option.some.injEq] at ho; subst ho; refine Or.inl ⟨by rfl, fun w' hSw => ?_⟩; go_simp; try with_reducible rfl
                    simp only [Act.put, List.setIfInBounds_toArray, List.set_cons_zero, List.set_cons_succ]
                    refine takeH (i := 5) (some 144) (v := ?_) rfl (by kernel_rfl) (by kernel_rfl) (by kernel_rfl) (fun _ _ _ h => h) trivial (fun o ho => ?_) ?_
                    rotate_left
                    · simp only [List.getElem?_toArray, List.getElem?_cons_zero, List.getElem?_cons_succ, Option.some.injEq] at ho; subst ho; refine Or.inl ⟨by rfl, fun w' hSw => ?_⟩; go_simp; try with_reducible rfl
                    simp only [Act.put, List.setIfInBounds_toArray, List.set_cons_zero, List.set_cons_succ]
                    refine takeH (i := 6) (some 145) (v := ?_) rfl (by kernel_rfl) (by kernel_rfl) (by kernel_rfl) (fun _ _ _ h => h) trivial (fun o ho => ?_) ?_
                    rotate_left
                    · simp only [List.getElem?_toArray, List.getElem?_cons_zero, List.getElem?_cons_succ, Option.some.injEq] at ho; subst ho; refine Or.inl ⟨by rfl, fun w' hSw => ?_⟩; go_simp; try with_reducible rfl
                    simp only [Act.put, List.setIfInBounds_toArray, List.set_cons_zero, List.set_cons_succ]
                    refine takeH (i := 7) (some 146) (v := ?_) rfl (by kernel_rfl) (by kernel_rfl) (by kernel_rfl) (fun _ _ _ h => h) trivial (fun o ho => ?_) ?_
                    rotate_left
                    · simp only [List.getElem?_toArray, List.getElem?_cons_zero, List.getElem?_cons_succ, Option.some.injEq] at ho; subst ho; refine Or.inl ⟨by rfl, fun w' hSw => ?_⟩; go_simp; try with_reducible rfl
                    simp only [Act.put, List.setIfInBounds_toArray, List.set_cons_zero, List.set_cons_succ]
                    refine takeH (i := 8) (some 147) (v := ?_) rfl (by kernel_rfl) (by kernel_rfl) (by kernel_rfl) (fun _ _ _ h => h) trivial (fun o ho => ?_) ?_
                    rotate_left
                    · simp only [List.getElem?_toArray, List.getElem?_cons_zero, List.getElem?_cons_succ, Option.some.injEq] at ho; subst ho; refine Or.inl ⟨by rfl, fun w' hSw => ?_⟩; go_simp; try with_reducible rfl
                    simp only [Act.put, List.setIfInBounds_toArray, List.set_cons_zero, List.set_cons_succ]
                    refine oneH (i := 0) (by kernel_rfl) (fun o ho K hK => ?_)
                    simp only [List.getElem?_toArray, List.getElem?_cons_zero, Option.some.injEq] at ho; subst ho
                    go_simp
                    refine hK.out _ _ trivial ?_
                    clear hK K
                    refine oneH (i := 4) (by kernel_rfl) (fun o ho K hK => ?_)
                    simp only [List.getElem?_toArray, List.getElem?_cons_zero, List.getElem?_cons_succ, Option.some.injEq] at ho; subst ho
                    refine step_append_runQ rfl _ _ _ _ rfl _ _ rfl rfl HC1.out ?_
                    refine hK.out _ _ trivial ?_
                    clear hK K
                    simp only [Act.put, List.setIfInBounds_toArray, List.set_cons_zero, List.set_cons_succ]
                    refine oneH (i := 9) (by kernel_rfl) (fun o ho K hK => ?_)
                    simp only [List.getElem?_toArray, List.getElem?_cons_zero, List.getElem?_cons_succ, Option.some.injEq] at ho; subst ho
                    refine step_append_runQ rfl _ _ _ _ rfl _ _ rfl rfl HC2.out ?_
                    refine hK.out _ _ trivial ?_
                    clear hK K
                    simp only [Act.put, List.setIfInBounds_toArray, List.set_cons_zero, List.set_cons_succ]
                    refine wpAnyH_done (by kernel_rfl) ?_ _
                    refine lastH (by decide) (fun o ho K hK => ?_)
                    simp only [List.getElem?_toArray, List.getElem?_cons_zero, List.getElem?_cons_succ, Option.some.injEq] at ho; subst ho
                    go_simp
                    refine hK.out _ _ ?_
                    clear hK K
                    go_wp2_with fail
                    go_roundw
                    case rel => exact ⟨i + 1, _, inn, _, _, rfl, rfl, by go_num, HTE⟩
                    case measure => have := HTX.out.ile; simp [intOf]; omega
            · have hbq : κ < 3 ∧ ll < 6 ∧ (κ = 2 ∨ fb = true) := of_decide_eq_true HBQ.out.symm
              have hk3 : κ = 3 := by rw [← HKA.out]; decide
              omega
end Go.Proofs.Ytacadgocoleaoaa
