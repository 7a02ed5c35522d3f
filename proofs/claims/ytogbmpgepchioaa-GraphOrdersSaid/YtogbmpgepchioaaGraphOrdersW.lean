/- The walk of GraphOrders. -/
import Derived.Test.YtogbmpgepchioaaGrJ
import Derived.Test.YtogbmpgepchioaaGrM
import Derived.Test.YtogbmpgepchioaaGrX
import Derived.Test.YtogbmpgepchioaaGrE
import Derived.Test.YtogbmpgepchioaaSameF
namespace Go.Proofs.Ytogbmpgepchioaa
open Go.ChangeShapes Go.WideShapes Go.RowKit Go.Deep
set_option linter.unusedVariables false

theorem small_trim {f : FunD} (h : SmallF f) : SmallF (trimF f) := by
  refine ⟨Nat.le_trans (blksT_few _) h.1, h.2.1, h.2.2.1, fun b hb => ?_⟩
  have hb : b ∈ blksT f.blocks := hb
  unfold blksT blksK at hb
  obtain ⟨p, hp, hpb⟩ := List.mem_filterMap.1 hb
  split at hpb
  · obtain rfl := Option.some.inj hpb
    obtain ⟨i, hi⟩ := List.getElem?_of_mem hp
    have hpm : p.1 ∈ f.blocks := by
      have := List.mem_of_mem_take hp
      obtain ⟨i, hi⟩ := List.getElem?_of_mem this
      rw [List.getElem?_zipIdx] at hi
      obtain ⟨y, hy, rfl⟩ := Option.map_eq_some_iff.1 hi
      exact List.mem_of_getElem? hy
    obtain ⟨h1, h2, h3, h4, h5⟩ := h.2.2.2 _ hpm
    refine ⟨h1, by simpa [blkT] using h2, by simpa [blkT] using h3, h4, fun x hx => ?_⟩
    have hx : x ∈ p.1.phis.map (phiT (reachF f.blocks) (aheadL f.blocks p.2)) := hx
    obtain ⟨y, hy, rfl⟩ := List.mem_map.1 hx
    exact Nat.le_trans (argsT_len _ _ _) (h5 y hy)
  · cases hpb

set_option maxRecDepth 100000 in
set_option maxHeartbeats 4000000 in
theorem leads_any (f : FunD) (a : Nat) (kb : BlkD) (z : Int) (v : Value) (w : World) (hv : VFun w v f) (ha : f.blocks[a]? = some kb) :
    Calls Try.prog 30 #[v, .int .i64 a, .int .i64 z] w fun e w' => e = .returned (.bool (hasTo z kb.term.to)) ∧ Below w.heap.size w w' := by
  obtain ⟨Ar, cr, A, c, rfl, -, hb, -, -⟩ := hv
  have hbl := hb.len
  have hal : a < f.blocks.length := (List.getElem?_eq_some_iff.1 ha).1
  have ha0 : (0 : Int) ≤ a := by omega
  have ha1 : (a : Int) < f.blocks.length := by omega
  go_enter Try.func30, Try.ntmps30
  go_wp2_with fail
  obtain ⟨w1, hw1, hs1, hk1, hbel1, hc1, -⟩ := named w #[.int .i64 f.params, .int .i64 f.result, .slice Ar f.regs.length cr, .slice A f.blocks.length c] 43
  have c3 := hc1 3 _ rfl
  rw [← hw1]
  obtain ⟨b, o, kb', rfl, hkb, -, -, -, -, A', c', hto, htos⟩ := (SBlks.keep hk1 hb).at_ hal
  obtain rfl : kb = kb' := Option.some.inj (ha.symm.trans hkb.out)
  have htl := htos.len
  have HB1 := Lib.hid hbel1
  clear hw1 hs1 hk1 hbel1 hc1 hb ha hkb
  go_loopw [7] (fun i wr => ∃ k q : Nat, k ≤ kb.term.to.length ∧ i = .int .i64 k ∧ wr = w1.drewN q ∧ hasTo z (kb.term.to.take k) = false) (fun i _ => kb.term.to.length - (intOf i).toNat)
  case atStart => exact ⟨0, 0, Nat.zero_le _, rfl, rfl, by simp [hasTo]⟩
  case round =>
    obtain ⟨k, q, hk, rfl, rfl, hno⟩ := hrel
    have HNO := Lib.hid hno
    clear hno
    by_cases hlt : k < kb.term.to.length
    · obtain ⟨b', o', x, rfl, hx, hxc, -⟩ := htos.int hlt
      have HST := Lib.hid (hasTo_step z hx.out)
      have hk0 : (0 : Int) ≤ k := by omega
      have hk1 : (k : Int) < kb.term.to.length := by omega
      cases hxz : (x == z)
      · have HN : Hid (hasTo z (kb.term.to.take (k + 1)) = false) := Lib.hid (by rw [HST.out, HNO.out, hxz]; rfl)
        go_wp2_with fail
        go_roundw
        case rel => exact ⟨k + 1, _, by omega, by go_num, rfl, HN.out⟩
        case measure => simp [intOf]; omega
      · have HY : Hid (hasTo z kb.term.to = true) := Lib.hid (by
          have h1 : hasTo z (kb.term.to.take (k + 1)) = true := by rw [HST.out, hxz]; simp
          unfold hasTo at h1 ⊢
          rw [List.any_eq_true] at h1 ⊢
          obtain ⟨y, hy, e⟩ := h1
          exact ⟨y, List.mem_of_mem_take hy, e⟩)
        go_wp2_with fail
        go_ret
        exact ⟨(show Ending.returned (.bool true) = .returned (.bool (hasTo z kb.term.to)) by rw [HY.out]), below_drewN HB1.out _⟩
    · have HN : Hid (hasTo z kb.term.to = false) := Lib.hid (by have := HNO.out; rwa [List.take_of_length_le (by omega)] at this)
      go_wp2_with fail
      go_ret
      exact ⟨(show Ending.returned (.bool false) = .returned (.bool (hasTo z kb.term.to)) by rw [HN.out]), below_drewN HB1.out _⟩

theorem orderF_count (bs : List BlkD) : (orderF bs).length = cnt (reachF bs) bs.length := by
  have h1 : (orderF bs).length ≤ ((List.range bs.length).filter (reachF bs)).length :=
    List.Nodup.length_le_of_subset (orderL_nodup (nxF_lt bs)) (fun x hx => List.mem_filter.2 ⟨List.mem_range.2 (orderF_lt hx), by unfold reachF reachB; exact decide_eq_true hx⟩)
  have h2 : ((List.range bs.length).filter (reachF bs)).length ≤ (orderF bs).length :=
    List.Nodup.length_le_of_subset (List.nodup_range.filter _) (fun x hx => of_decide_eq_true (List.mem_filter.1 hx).2)
  have h3 : ((List.range bs.length).filter (reachF bs)).length = cnt (reachF bs) bs.length := by unfold cnt; rw [List.countP_eq_length_filter]
  omega
theorem int_zero (i : Nat) : ((i : Int) == 0) = decide (i = 0) := by rw [Bool.eq_iff_iff, beq_iff_eq, decide_eq_true_iff]; omega
def toOf (bs : List BlkD) (y : Nat) : List Int := match bs[y]? with
  | some b => b.term.to
  | none => []
def ledB (bs : List BlkD) (i x : Nat) (l : List Nat) : Bool := decide (i = 0) || l.any fun y => hasTo x (toOf bs y)
theorem ledB_step {bs : List BlkD} {i x k y : Nat} {o : List Nat} {b : BlkD} (hy : o[k]? = some y) (hb : bs[y]? = some b) : ledB bs i x (o.take (k + 1)) = (ledB bs i x (o.take k) || hasTo x b.term.to) := by
  unfold ledB
  rw [take_succ_of hy, List.any_append, Bool.or_assoc]
  simp [toOf, hb]
theorem ledB_all {bs : List BlkD} {i x : Nat} (hi : (orderF bs)[i]? = some x) : ledB bs i x ((orderF bs).take i) = true := by
  unfold ledB
  by_cases h0 : i = 0
  · simp [h0]
  · obtain ⟨j, y, hj, hy, hxy⟩ := orderL_led (nxF_lt bs) hi (by omega)
    have hyl : y < bs.length := orderF_lt (List.mem_of_getElem? hy)
    have hb : bs[y]? = some bs[y] := List.getElem?_eq_getElem hyl
    have : ((orderF bs).take i).any (fun y => hasTo x (toOf bs y)) = true := by
      rw [List.any_eq_true]
      refine ⟨y, ?_, ?_⟩
      · have : ((orderF bs).take i)[j]? = some y := by rw [List.getElem?_take_of_lt hj]; exact hy
        exact List.mem_of_getElem? this
      · unfold toOf; rw [hb]
        unfold hasTo
        rw [List.any_eq_true]
        exact ⟨x, ((nxF_mem hb).1 hxy).2, by simp⟩
    rw [this]; simp

set_option maxRecDepth 100000 in
set_option maxHeartbeats 16000000 in
theorem graphOrders_walk (f : FunD) (v : Value) (w : World) (hv : VFun w v f) :
    Calls Try.prog 7 #[v] w fun e w' => e = .returned (.bool true) ∧ Below w.heap.size w w' := by
  have hv0 := hv
  obtain ⟨Ar, cr, A, c, rfl, -, -, -, -⟩ := hv
  have HV := Lib.hid hv0
  clear hv0
  go_enter Try.func7, Try.ntmps7
  go_wp2_with fail
  obtain ⟨w1, hw1, hs1, hk1, hbel1, hc1, -⟩ := named w #[.int .i64 f.params, .int .i64 f.result, .slice Ar f.regs.length cr, .slice A f.blocks.length c] 43
  rw [← hw1]
  refine (up5_any w1).mono ?_
  rintro e w2 ⟨rfl, hb2⟩
  have hk2 := kept_of_below hb2
  have c0 := hk2 _ _ (hc1 0 _ rfl)
  have c1 := hk2 _ _ (hc1 1 _ rfl)
  have c2 := hk2 _ _ (hc1 2 _ rfl)
  have c3 := hk2 _ _ (hc1 3 _ rfl)
  have HB2 : Hid (Below w.heap.size w w2) := Lib.hid (hbel1.trans (hb2.mono (by omega)))
  obtain ⟨N, hN⟩ : ∃ N, N = w.heap.size := ⟨_, rfl⟩
  rw [← hN] at c0 c1 c2 c3 ⊢
  clear hw1 hs1 hbel1 hc1 hb2 hk1 hk2 hN
  go_wp2_with fail
  refine (small5_any f _ w2 (VFun.keep (kept_of_below HB2.out) HV.out)).mono ?_
  rintro e w3 ⟨⟨bs, rfl, hsm⟩, hb3⟩
  have hk3 := kept_of_below hb3
  have c0 := hk3 _ _ c0
  have c1 := hk3 _ _ c1
  have c2 := hk3 _ _ c2
  have c3 := hk3 _ _ c3
  have HB3 : Hid (Below w.heap.size w w3) := Lib.hid (HB2.out.trans (hb3.mono HB2.out.size))
  cases bs
  · clear hb3 hk3 hsm
    go_wp2_with fail
    go_ret
    exact ⟨rfl, HB3.out⟩
  · have HSM := Lib.hid (hsm rfl)
    have hn : f.blocks.length ≤ 70 := (hsm rfl).1
    clear hb3 hk3 hsm
    go_wp2_with fail
    refine (order_any f _ w3 (VFun.keep (kept_of_below HB3.out) HV.out) (by omega)).mono ?_
    rintro e w4 ⟨⟨vo, rfl, ho⟩, hb4⟩
    have hk4 := kept_of_below hb4
    have c0 := hk4 _ _ c0
    have c1 := hk4 _ _ c1
    have c2 := hk4 _ _ c2
    have c3 := hk4 _ _ c3
    have HB4 : Hid (Below w.heap.size w w4) := Lib.hid (HB3.out.trans (hb4.mono HB3.out.size))
    obtain ⟨Ao, co, rfl, hso⟩ := vs_of_own (xs := zs (orderF f.blocks)) (by rw [zs_len]; exact ho) (fun x hx => by obtain ⟨q, hq, rfl⟩ := zs_mem hx; have := orderF_lt hq; unfold I64; omega)
    rw [zs_len]
    have HSO := Lib.hid hso
    clear hb4 hk4 ho hso
    go_wp2_with fail
    refine (reached_any f _ w4 (VFun.keep (kept_of_below HB4.out) HV.out) (by omega)).mono ?_
    rintro e w5 ⟨⟨H, rfl, hH, hr⟩, hb5⟩
    have hk5 := kept_of_below hb5
    have c0 := hk5 _ _ c0
    have c1 := hk5 _ _ c1
    have c2 := hk5 _ _ c2
    have c3 := hk5 _ _ c3
    have HB5 : Hid (Below w.heap.size w w5) := Lib.hid (HB4.out.trans (hb5.mono HB4.out.size))
    have HSO5 := Lib.hid (SInts.keep hk5 HSO.out)
    have HR5 := Lib.hid hr
    have HCNT := Lib.hid (orderF_count f.blocks)
    have hol := orderF_len f.blocks
    clear hb5 hk5 hr hH HSO
    go_wp2_with fail
    go_loop [7, 8] (fun s7 s8 => ∃ k : Nat, k ≤ f.blocks.length ∧ s8 = .int .i64 k ∧ s7 = .int .i64 (cnt (reachF f.blocks) k)) (fun _ s8 => f.blocks.length - (intOf s8).toNat)
    case atStart => exact ⟨0, Nat.zero_le _, rfl, rfl⟩
    case round =>
      obtain ⟨k, hk, rfl, rfl⟩ := hrel
      have HST := Lib.hid (cnt_succ (reachF f.blocks) k)
      have hcl := cnt_le (reachF f.blocks) k
      by_cases hlt : k < f.blocks.length
      · have hc := HR5.out.cell hlt
        have hk0 : (0 : Int) ≤ k := by omega
        have hk1 : (k : Int) < f.blocks.length := by omega
        cases hrk : reachF f.blocks k
        · rw [hrk] at hc
          have HS : Hid (cnt (reachF f.blocks) (k + 1) = cnt (reachF f.blocks) k) := Lib.hid (by rw [HST.out, hrk]; rfl)
          clear hrk
          generalize cnt (reachF f.blocks) k = m at *
          go_wp2_with fail
          go_round
          case rel => exact ⟨k + 1, by omega, by go_num, by rw [HS.out]⟩
          case measure => simp [intOf]; omega
        · rw [hrk] at hc
          have HS : Hid (cnt (reachF f.blocks) (k + 1) = cnt (reachF f.blocks) k + 1) := Lib.hid (by rw [HST.out, hrk]; rfl)
          clear hrk
          generalize cnt (reachF f.blocks) k = m at *
          go_wp2_with fail
          go_round
          case rel => exact ⟨k + 1, by omega, by go_num, by rw [HS.out]; go_num⟩
          case measure => simp [intOf]; omega
      · obtain rfl : k = f.blocks.length := by omega
        rw [← HCNT.out]
        clear hcl HST
        go_upto_region 13 with fail
        obtain ⟨m, hm⟩ : ∃ m, m = (orderF f.blocks).length := ⟨_, rfl⟩
        have HM := Lib.hid hm
        rw [← hm] at hol ⊢
        clear hm
        go_cut [53] (fun s53 wx => s53 = .bool false ∧ wx = w5)
        case first =>
          have hmm : ((m : Int) != m) = false := by simp
          by_cases h0 : m = 0
          · subst h0
            go_wp2_with fail
            go_meet
            exact ⟨rfl, rfl⟩
          · have hpos : 0 < m := by omega
            have hpos1 : (0 : Int) < m := by omega
            obtain ⟨b0, o0, x0, rfl, hx0, hxc0, -⟩ := HSO5.out.int (k := 0) (by rw [zs_len, ← HM.out]; exact hpos)
            have hf0 := orderL_first (nxF_lt f.blocks) (n := f.blocks.length) (by omega)
            obtain rfl : x0 = 0 := by
              obtain ⟨q, hq, rfl⟩ := zs_at hx0.out
              have : q = 0 := Option.some.inj (hq.symm.trans hf0)
              rw [this]; rfl
            have hxc0' : w5.cell? ⟨b0, o0, none⟩ = some (.int .i64 0) := hxc0
            clear h0 hf0 hx0 hxc0
            go_wp2_with fail
            go_meet
            exact ⟨rfl, rfl⟩
        case rest =>
          obtain ⟨rfl, rfl⟩ := hcut
          go_wp2_with fail
          go_loopw [9] (fun s9 wr => ∃ i : Nat, i ≤ m ∧ s9 = .int .i64 i ∧ Below wc.heap.size wc wr) (fun s9 _ => m - (intOf s9).toNat)
          case atStart => exact ⟨0, Nat.zero_le _, rfl, Below.refl _ _⟩
          case round =>
            obtain ⟨i, hi, rfl, hbi⟩ := hrel
            obtain ⟨wo, rfl⟩ : ∃ wo, wo = wr := ⟨wr, rfl⟩
            have HBI := Lib.hid hbi
            clear hbi
            by_cases hlt : i < m
            · obtain ⟨x, hx⟩ : ∃ x, (orderF f.blocks)[i]? = some x := ⟨_, List.getElem?_eq_getElem (by rw [← HM.out]; exact hlt)⟩
              have HX := Lib.hid hx
              have hxn : x < f.blocks.length := orderF_lt (List.mem_of_getElem? hx)
              have HLA := Lib.hid (ledB_all hx)
              clear hx
              go_wp2_with fail
              go_loopw [10, 11] (fun s10 s11 wr => ∃ k : Nat, k ≤ i ∧ s11 = .int .i64 k ∧ s10 = .bool (ledB f.blocks i x ((orderF f.blocks).take k)) ∧ Below wc.heap.size wc wr) (fun _ s11 _ => i - (intOf s11).toNat)
              case atStart => exact ⟨0, Nat.zero_le _, rfl, by rw [int_zero]; simp [ledB], HBI.out⟩
              case round =>
                obtain ⟨k, hk, rfl, rfl, hbk⟩ := hrel
                have HBK := Lib.hid hbk
                have HBW := Lib.hid (HB5.out.trans (hbk.mono HB5.out.size))
                by_cases hkl : k < i
                · have hkr := kept_of_below hbk
                  obtain ⟨y, hy⟩ : ∃ y, (orderF f.blocks)[k]? = some y := ⟨_, List.getElem?_eq_getElem (by rw [← HM.out]; omega)⟩
                  have hyn : y < f.blocks.length := orderF_lt (List.mem_of_getElem? hy)
                  have hxy : y ≠ x := fun e => by
                    have h1 := (List.getElem?_eq_some_iff.1 hy)
                    have h2 := (List.getElem?_eq_some_iff.1 HX.out)
                    obtain ⟨p1, p2⟩ := h1
                    obtain ⟨p3, p4⟩ := h2
                    exact List.pairwise_iff_getElem.1 (orderL_nodup (nxF_lt f.blocks)) k i p1 p3 hkl (show (orderF f.blocks)[k] = (orderF f.blocks)[i] by rw [p2, p4, e])
                  obtain ⟨bo, oo, xz, rfl, hxz, hxc, -⟩ := (SInts.keep hkr HSO5.out).int (k := i) (by rw [zs_len, ← HM.out]; exact hlt)
                  obtain ⟨bo2, oo2, yz, heq, hyz, hyc, -⟩ := (SInts.keep hkr HSO5.out).int (k := k) (by rw [zs_len, ← HM.out]; omega)
                  simp only [Option.some.injEq, Addr.mk.injEq] at heq
                  obtain ⟨rfl, rfl, -⟩ := heq
                  obtain rfl : xz = (x : Int) := by obtain ⟨q, hq, rfl⟩ := zs_at hxz.out; rw [show q = x from Option.some.inj (hq.symm.trans HX.out)]
                  obtain rfl : yz = (y : Int) := by obtain ⟨q, hq, rfl⟩ := zs_at hyz.out; rw [show q = y from Option.some.inj (hq.symm.trans hy)]
                  have hrc := (HR5.out.of_block (hbk.block H HR5.out.lt)).cell hxn
                  have hrx : reachF f.blocks x = true := by unfold reachF reachB; exact decide_eq_true (List.mem_of_getElem? HX.out)
                  rw [hrx] at hrc
                  have d0 := hkr _ _ c0
                  have d1 := hkr _ _ c1
                  have d2 := hkr _ _ c2
                  have d3 := hkr _ _ c3
                  have hkb : f.blocks[y]? = some f.blocks[y] := List.getElem?_eq_getElem hyn
                  have HLS := Lib.hid (ledB_step (i := i) (x := x) hy hkb)
                  have HKB := Lib.hid hkb
                  have hi0 : (0 : Int) ≤ i := by omega
                  have hi1 : (i : Int) < m := by omega
                  have hk0 : (0 : Int) ≤ k := by omega
                  have hk1 : (k : Int) < m := by omega
                  have hx0 : (0 : Int) ≤ x := by omega
                  have hx1 : (x : Int) < f.blocks.length := by omega
                  have ht1 : decide ((x : Int) < 0) = false := decide_eq_false (by omega)
                  have ht2 : decide ((f.blocks.length : Int) ≤ x) = false := decide_eq_false (by omega)
                  have ht2' : decide (f.blocks.length ≤ x) = false := decide_eq_false (by omega)
                  have ht3 : ((y : Int) == x) = false := by rw [beq_eq_false_iff_ne]; omega
                  have ht3' : (y == x) = false := by rw [beq_eq_false_iff_ne]; exact hxy
                  clear hy hxy hxz hyz hrx hkb hbk hkr
                  generalize ledB f.blocks i x ((orderF f.blocks).take k) = lb at *
                  go_upto_region 22 with fail
                  go_cut [101] (fun s wx => s = .bool false ∧ ∃ q, wx = wr.drewN q)
                  case first =>
                    go_quiet (fail)
                    go_wp2_with fail
                    go_meet
                    exact ⟨rfl, _, rfl⟩
                  case rest =>
                    obtain ⟨rfl, q, rfl⟩ := hcut
                    have hkd : Kept wr (wr.drewN q) := fun _ _ h => h
                    have e0 := hkd _ _ d0
                    have e1 := hkd _ _ d1
                    have e2 := hkd _ _ d2
                    have e3 := hkd _ _ d3
                    have exc := hkd _ _ hxc
                    have eyc := hkd _ _ hyc
                    have HBD := Lib.hid (below_drewN HBK.out q)
                    have HBV := Lib.hid (below_drewN HBW.out q)
                    clear hxc hyc hrc d0 d1 d2 d3 hkd
                    generalize wr.drewN q = wd at *
                    have HC := Lib.hid (leads_any f y f.blocks[y] x _ wd.drew (VFun.keep (kept_of_below HBV.out.drew) HV.out) HKB.out)
                    go_upto_region 24 with fail
                    go_still_tail 9, (by kernel_rfl)
                    change wpList _ _ _ _ _ wd.drew
                    go_wp2_with fail
                    refine HC.out.mono ?_
                    rintro e w7 ⟨rfl, hb7⟩
                    have HB7 := Lib.hid (HBD.out.drew.trans (hb7.mono HBD.out.drew.size))
                    clear hb7 e0 e1 e2 e3 exc eyc HC
                    generalize hasTo x f.blocks[y].term.to = hb at *
                    cases lb
                    · go_wp2_with fail
                      go_roundw
                      case rel => exact ⟨k + 1, by omega, by go_num, by rw [HLS.out]; simp, HB7.out⟩
                      case measure => simp [intOf]; omega
                    · go_wp2_with fail
                      go_roundw
                      case rel => exact ⟨k + 1, by omega, by go_num, by rw [HLS.out]; simp, HB7.out⟩
                      case measure => simp [intOf]; omega
                · obtain rfl : k = i := by omega
                  clear hbk
                  rw [HLA.out]
                  go_wp2_with fail
                  go_roundw
                  case rel => exact ⟨k + 1, by omega, by go_num, HBK.out⟩
                  case measure => simp [intOf]; omega
            · have hki := kept_of_below HBI.out
              have d0 := hki _ _ c0
              have d1 := hki _ _ c1
              have d2 := hki _ _ c2
              have d3 := hki _ _ c3
              have HBW := Lib.hid (HB5.out.trans (HBI.out.mono HB5.out.size))
              clear hki c0 c1 c2 c3
              go_wp2_with fail
              refine (trim_any f _ wo (VFun.keep (kept_of_below HBW.out) HV.out) HSM.out).mono ?_
              rintro e w6 ⟨⟨Ar6, cr6, Ab6, cb6, G6, rfl, hr6, hb6, hG6, hn6, hp6, hs6⟩, hbel6⟩
              have HB6 := Lib.hid (HBW.out.trans (hbel6.mono HBW.out.size))
              have HV6 : Hid (VFun w6 (.agg #[.int .i64 f.params, .int .i64 f.result, .slice Ar6 f.regs.length cr6, .slice Ab6 (blksT f.blocks).length cb6]) (trimF f)) := Lib.hid ⟨Ar6, cr6, Ab6, cb6, rfl, SL.imp RIntB.plain hr6, SL.imp RBlkB.plain hb6, hp6, hs6⟩
              clear hr6 hb6 hG6 hn6 hp6 hs6 hbel6 d0 d1 d2 d3
              go_upto_region 29 with fail
              obtain ⟨w7, hw7, hs7, hk7, hb7, hc7, -⟩ := named w6 #[.int .i64 f.params, .int .i64 f.result, .slice Ar6 f.regs.length cr6, .slice Ab6 (blksT f.blocks).length cb6] 43
              rw [← hw7]
              obtain ⟨P, hP⟩ : ∃ P, P = w6.heap.size := ⟨_, rfl⟩
              rw [← hP] at hc7 ⊢
              have g0 := hc7 0 _ rfl
              have g1 := hc7 1 _ rfl
              have g2 := hc7 2 _ rfl
              have g3 := hc7 3 _ rfl
              have HB7 := Lib.hid (HB6.out.trans (hb7.mono HB6.out.size))
              have HV7 := Lib.hid (VFun.keep hk7 HV6.out)
              clear hw7 hs7 hk7 hb7 hc7 hP
              go_wp2_with fail
              refine (trim_any (trimF f) _ w7 HV7.out (small_trim HSM.out)).mono ?_
              rintro e w8 ⟨⟨Ar8, cr8, Ab8, cb8, G8, rfl, hr8, hb8, hG8, hn8, hp8, hs8⟩, hbel8⟩
              have HB8 := Lib.hid (HB7.out.trans (hbel8.mono HB7.out.size))
              have HV8' : VFun w8 (.agg #[.int .i64 f.params, .int .i64 f.result, .slice Ar8 f.regs.length cr8, .slice Ab8 (blksT (trimF f).blocks).length cb8]) (trimF (trimF f)) := ⟨Ar8, cr8, Ab8, cb8, rfl, SL.imp RIntB.plain hr8, SL.imp RBlkB.plain hb8, hp8, hs8⟩
              have HAG : blksT (trimF f).blocks = blksT f.blocks := blksT_again f.blocks
              rw [trimF_again, HAG] at HV8'
              rw [HAG]
              have HV8 := Lib.hid HV8'
              have hkp := kept_of_below hbel8
              have g0 := hkp _ _ g0
              have g1 := hkp _ _ g1
              have g2 := hkp _ _ g2
              have g3 := hkp _ _ g3
              have HVG := Lib.hid (VFun.keep hkp HV7.out)
              have HN8 : Hid (w8.rowIs G8 3 (blksT f.blocks).length (fun i => .int .i64 (i : Nat))) := Lib.hid (hn8.congr fun i hi => by rw [show (trimF f).blocks = blksT f.blocks from rfl, num_all hi])
              have HLN : Hid ((blksT f.blocks).length = m) := Lib.hid (by rw [blksT_len, HM.out, HCNT.out])
              have hTL : (trimF f).blocks.length = (blksT f.blocks).length := rfl
              rw [hTL, show (trimF f).params = f.params from rfl, show (trimF f).result = f.result from rfl, show (trimF f).regs = f.regs from rfl]
              clear hr8 hb8 hG8 hn8 hp8 hs8 hbel8 hkp HAG HV8' hTL
              go_upto_region 30 with fail
              obtain ⟨w9, hw9, hs9, hk9, hb9, hc9, -⟩ := named w8 #[.int .i64 f.params, .int .i64 f.result, .slice Ar8 f.regs.length cr8, .slice Ab8 (blksT f.blocks).length cb8] 43
              rw [← hw9]
              obtain ⟨Q, hQ⟩ : ∃ Q, Q = w8.heap.size := ⟨_, rfl⟩
              rw [← hQ] at hc9 ⊢
              have h0 := hc9 0 _ rfl
              have h1 := hc9 1 _ rfl
              have h2 := hc9 2 _ rfl
              have h3 := hc9 3 _ rfl
              have g0 := hk9 _ _ g0
              have g1 := hk9 _ _ g1
              have g2 := hk9 _ _ g2
              have g3 := hk9 _ _ g3
              have HB9 := Lib.hid (HB8.out.trans (hb9.mono HB8.out.size))
              have HV9 := Lib.hid (VFun.keep hk9 HV8.out)
              have HVG9 := Lib.hid (VFun.keep hk9 HVG.out)
              have HN9 := Lib.hid (HN8.out.of_block (hb9.block G8 HN8.out.lt))
              have htl : (blksT f.blocks).length ≤ 70 := by have := blksT_few f.blocks; omega
              have HSF := Lib.hid (sameFunc_any (trimF f) (trimF f) _ _ w9 HVG9.out HV9.out)
              clear hw9 hs9 hk9 hb9 hc9 hQ
              have hlnm := HLN.out
              generalize (blksT f.blocks).length = tl at *
              go_wp2_with fail
              go_loop [17] (fun s17 => ∃ k : Nat, k ≤ tl ∧ s17 = .int .i64 k) (fun s17 => tl - (intOf s17).toNat)
              case atStart => exact ⟨0, Nat.zero_le _, rfl⟩
              case round =>
                obtain ⟨k, hk, rfl⟩ := hrel
                by_cases hkl : k < tl
                · have hc := HN9.out.cell hkl
                  have hk0 : (0 : Int) ≤ k := by omega
                  have hk1 : (k : Int) < tl := by omega
                  have hkk : ((k : Int) != k) = false := by simp
                  go_wp2_with fail
                  go_round
                  case rel => exact ⟨k + 1, by omega, by go_num⟩
                  case measure => simp [intOf]; omega
                · subst hlnm
                  have hmm : ((tl : Int) == tl) = true := by simp
                  go_wp2_with fail
                  refine HSF.out.mono ?_
                  rintro e w10 ⟨rfl, hb10⟩
                  have hse : same (trimF f) (trimF f) = true := same_yes rfl
                  rw [hse]
                  have HBF := Lib.hid (HB9.out.trans (hb10.mono HB9.out.size))
                  clear hb10 hse
                  go_wp2_with fail
                  go_ret
                  exact ⟨rfl, HBF.out⟩
end Go.Proofs.Ytogbmpgepchioaa
