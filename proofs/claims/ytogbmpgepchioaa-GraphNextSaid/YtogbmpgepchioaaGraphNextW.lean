/- The walk of GraphNext. -/
import Derived.Test.YtogbmpgepchioaaGrW
import Derived.Test.YtogbmpgepchioaaGrX
import Derived.Deep.RegionHeld3
namespace Go.Proofs.Ytogbmpgepchioaa
open Go.ChangeShapes Go.WideShapes Go.RowKit Go.Deep
set_option linter.unusedVariables false

theorem kept_draws (w : World) (n : Nat) : Kept w (w.drewN n) := fun _ _ h => h
theorem from_reach {bs : List BlkD} {x : Nat} (hx : x < bs.length) : fromB bs 0 (-1) x = reachF bs x := by
  unfold fromB reachF
  rw [if_pos ⟨by omega, by omega, by omega⟩]
  exact fromN_reachB (nxF_lt bs) (by omega) x

set_option maxRecDepth 100000 in
set_option maxHeartbeats 8000000 in
theorem graphNext_walk (f : FunD) (v : Value) (w : World) (hv : VFun w v f) :
    Calls Try.prog 5 #[v] w fun e w' => e = .returned (.bool true) ∧ Below w.heap.size w w' := by
  have hv0 := hv
  obtain ⟨Ar, cr, A, c, rfl, -, -, -, -⟩ := hv
  have HV := Lib.hid hv0
  clear hv0
  go_enter Try.func5, Try.ntmps5
  go_wp2_with fail
  obtain ⟨w1, hw1, hs1, hk1, hbel1, hc1, -⟩ := named w #[.int .i64 f.params, .int .i64 f.result, .slice Ar f.regs.length cr, .slice A f.blocks.length c] 43
  rw [← hw1]
  refine (up5_any w1).mono ?_
  rintro e w2 ⟨rfl, hb2⟩
  have hk2 := kept_of_below hb2
  have c0 := hk2 _ _ (hc1 0 _ rfl)
  have c1 := hk2 _ _ (hc1 1 _ rfl)
  have c2 := hk2 _ _ (hc1 2 _ rfl)
  have c3 := hk2 _ _ (hc1 3 _ rfl)
  have HB2 : Hid (Below w.heap.size w w2) := Lib.hid (hbel1.trans (hb2.mono (by omega)))
  have HN : Hid (w.heap.size < w2.heap.size) := Lib.hid (by have := hb2.size; omega)
  obtain ⟨N, hN⟩ : ∃ N, N = w.heap.size := ⟨_, rfl⟩
  have HNN := Lib.hid hN
  rw [← hN] at c0 c1 c2 c3 ⊢
  clear hw1 hs1 hbel1 hc1 hb2 hk1 hk2 hN
  go_wp2_with fail
  refine (small5_any f _ w2 (VFun.keep (kept_of_below HB2.out) HV.out)).mono ?_
  rintro e w3 ⟨⟨bs, rfl, hsm⟩, hb3⟩
  have hk3 := kept_of_below hb3
  have c0 := hk3 _ _ c0
  have c1 := hk3 _ _ c1
  have c2 := hk3 _ _ c2
  have c3 := hk3 _ _ c3
  have HB3 : Hid (Below w.heap.size w w3) := Lib.hid (HB2.out.trans (hb3.mono HB2.out.size))
  cases bs
  · clear hb3 hk3 hsm
    go_wp2_with fail
    go_ret
    exact ⟨rfl, HB3.out⟩
  · have hn : f.blocks.length ≤ 70 := (hsm rfl).1
    clear hb3 hk3 hsm
    go_wp2_with fail
    refine (next_any f _ w3 (VFun.keep (kept_of_below HB3.out) HV.out) (by omega)).mono ?_
    rintro e w4 ⟨⟨V, G, rfl, hG, hg⟩, hb4⟩
    have hk4 := kept_of_below hb4
    have c0 := hk4 _ _ c0
    have c1 := hk4 _ _ c1
    have c2 := hk4 _ _ c2
    have c3 := hk4 _ _ c3
    have HB4 : Hid (Below w.heap.size w w4) := Lib.hid (HB3.out.trans (hb4.mono HB3.out.size))
    have HGR := Lib.hid (hg.reads (by omega) (fun i hi x hx => by obtain ⟨q, hq, rfl⟩ := zs_mem hx; have := nxF_lt f.blocks i q hq; unfold I64; omega))
    clear hb4 hk4 hg hG
    go_wp2_with fail
    refine (reached_any f _ w4 (VFun.keep (kept_of_below HB4.out) HV.out) (by omega)).mono ?_
    rintro e w5 ⟨⟨H, rfl, hH, hr⟩, hb5⟩
    have hk5 := kept_of_below hb5
    have c0 := hk5 _ _ c0
    have c1 := hk5 _ _ c1
    have c2 := hk5 _ _ c2
    have c3 := hk5 _ _ c3
    have HB5 : Hid (Below w.heap.size w w5) := Lib.hid (HB4.out.trans (hb5.mono HB4.out.size))
    have HGR5 := Lib.hid (SL.keep hk5 (RRow.keep hk5) HGR.out)
    have HR5 := Lib.hid hr
    clear hb5 hk5 hr hH HGR
    go_wp2_with fail
    refine (order_any f _ w5 (VFun.keep (kept_of_below HB5.out) HV.out) (by omega)).mono ?_
    rintro e w6 ⟨⟨vo, rfl, ho⟩, hb6⟩
    have hk6 := kept_of_below hb6
    have c0 := hk6 _ _ c0
    have c1 := hk6 _ _ c1
    have c2 := hk6 _ _ c2
    have c3 := hk6 _ _ c3
    have HB6 : Hid (Below w.heap.size w w6) := Lib.hid (HB5.out.trans (hb6.mono HB5.out.size))
    have HGR6 := Lib.hid (SL.keep hk6 (RRow.keep hk6) HGR5.out)
    have HR6 := Lib.hid (HR5.out.of_block (hb6.block H HR5.out.lt))
    have HO6 : Hid (VS w6 1 RInt vo (zs (orderF f.blocks))) := Lib.hid (vs_of_own (by rw [zs_len]; exact ho) (fun x hx => by obtain ⟨q, hq, rfl⟩ := zs_mem hx; have := orderF_lt hq; unfold I64; omega))
    clear hb6 hk6 ho HGR5 HR5
    go_wp2_with fail
    refine (from_any f 0 (-1) _ w6 (VFun.keep (kept_of_below HB6.out) HV.out) (by omega)).mono ?_
    rintro e w7 ⟨⟨K, rfl, hK, hf7⟩, hb7⟩
    have hk7 := kept_of_below hb7
    have c0 := hk7 _ _ c0
    have c1 := hk7 _ _ c1
    have c2 := hk7 _ _ c2
    have c3 := hk7 _ _ c3
    have HB7 : Hid (Below w.heap.size w w7) := Lib.hid (HB6.out.trans (hb7.mono HB6.out.size))
    have HGR7 := Lib.hid (SL.keep hk7 (RRow.keep hk7) HGR6.out)
    have HR7 := Lib.hid (HR6.out.of_block (hb7.block H HR6.out.lt))
    have HF7 := Lib.hid (hf7.congr (g := fun x => .bool (reachF f.blocks x)) fun x hx => by rw [from_reach hx])
    have HO7 : Hid (VS w7 1 RInt vo (zs (orderF f.blocks))) := Lib.hid (VInts.keep hk7 HO6.out)
    clear hb7 hk7 hf7 hK HGR6 HR6 HO6
    have hne : ((f.blocks.length : Int) != f.blocks.length) = false := by simp
    go_wp2_with fail
    refine (refOrder_any f _ w7 (VFun.keep (kept_of_below HB7.out) HV.out) (by omega)).mono ?_
    rintro e w8 ⟨⟨vr, rfl, hr8⟩, hb8⟩
    have hk8 := kept_of_below hb8
    have c0 := hk8 _ _ c0
    have c1 := hk8 _ _ c1
    have c2 := hk8 _ _ c2
    have c3 := hk8 _ _ c3
    have HB8 : Hid (Below w.heap.size w w8) := Lib.hid (HB7.out.trans (hb8.mono HB7.out.size))
    have HGR8 := Lib.hid (SL.keep hk8 (RRow.keep hk8) HGR7.out)
    have HR8 := Lib.hid (HR7.out.of_block (hb8.block H HR7.out.lt))
    have HF8 := Lib.hid (HF7.out.of_block (hb8.block K HF7.out.lt))
    have HO8 : Hid (VS w8 1 RInt vo (zs (orderF f.blocks))) := Lib.hid (VInts.keep hk8 HO7.out)
    have HP8 : Hid (VS w8 1 RInt vr (zs (orderF f.blocks))) := Lib.hid (vs_of_own (by rw [zs_len]; exact hr8) (fun x hx => by obtain ⟨q, hq, rfl⟩ := zs_mem hx; have := orderF_lt hq; unfold I64; omega))
    clear hb8 hk8 hr8 HGR7 HR7 HF7 HO7
    go_wp2_with fail
    refine (sameInts_any _ _ _ _ w8 HO8.out HP8.out).mono ?_
    rintro e w9 ⟨rfl, n9, rfl⟩
    have hyes : decide (zs (orderF f.blocks) = zs (orderF f.blocks)) = true := decide_eq_true rfl
    rw [hyes]
    clear hyes
    have HB9 : Hid (Below w.heap.size w (w8.drewN n9)) := Lib.hid (below_drewN HB8.out _)
    have HGR9 : Hid (SL (w8.drewN n9) 1 RRow (some ⟨G, 0, none⟩) f.blocks.length ((List.range f.blocks.length).map fun i => zs (nxF f.blocks i))) := Lib.hid (SL.keep (kept_draws w8 n9) (RRow.keep (kept_draws w8 n9)) HGR8.out)
    have HR9 : Hid ((w8.drewN n9).rowIs H 4 f.blocks.length (fun x => .bool (reachF f.blocks x))) := Lib.hid HR8.out
    have HF9 : Hid ((w8.drewN n9).rowIs K 4 f.blocks.length (fun x => .bool (reachF f.blocks x))) := Lib.hid HF8.out
    have hkq := kept_draws w8 n9
    have c0 := hkq _ _ c0
    have c1 := hkq _ _ c1
    have c2 := hkq _ _ c2
    have c3 := hkq _ _ c3
    clear HGR8 HR8 HF8 HO8 HP8 HB8 hkq
    go_wp2_with fail
    generalize w8.drewN n9 = w9 at *
    go_loopw [9] (fun i wr => ∃ k : Nat, k ≤ f.blocks.length ∧ i = .int .i64 k ∧ Below w9.heap.size w9 wr) (fun i _ => f.blocks.length - (intOf i).toNat)
    case atStart => exact ⟨0, Nat.zero_le _, rfl, Below.refl _ _⟩
    case round =>
      obtain ⟨k, hk, rfl, hbr⟩ := hrel
      have hkr := kept_of_below hbr
      have d0 := hkr _ _ c0
      have d1 := hkr _ _ c1
      have d2 := hkr _ _ c2
      have d3 := hkr _ _ c3
      have HBR : Hid (Below w.heap.size w wr) := Lib.hid (HB9.out.trans (hbr.mono HB9.out.size))
      have HBR9 := Lib.hid hbr
      by_cases hlt : k < f.blocks.length
      · obtain ⟨gb, go, row, heq, hrow, Av, cv, hrc, hrs⟩ := (SL.keep hkr (RRow.keep hkr) HGR9.out).at_ (k := k) (by simpa using hlt)
        simp only [Option.some.injEq, Addr.mk.injEq] at heq
        obtain ⟨rfl, rfl, -⟩ := heq
        obtain rfl : zs (nxF f.blocks k) = row := by
          have h := hrow.out
          rw [List.getElem?_map, List.getElem?_range hlt] at h
          exact Option.some.inj h
        have hrc : wr.cell? ⟨G, k, none⟩ = some (.slice Av (zs (nxF f.blocks k)).length cv) := by rw [Nat.zero_add, Nat.mul_one] at hrc; exact hrc
        have hcr := (HR9.out.of_block (hbr.block H HR9.out.lt)).cell hlt
        have hcf := (HF9.out.of_block (hbr.block K HF9.out.lt)).cell hlt
        have hk0 : (0 : Int) ≤ k := by omega
        have hk1 : (k : Int) < f.blocks.length := by omega
        have HRS := Lib.hid hrs
        have HX := Lib.hid (refNext_any f k _ wr.drew (VFun.keep (kept_of_below HBR.out.drew) HV.out) (by omega) hlt)
        have hS : ∀ w', Below wr.heap.size wr w' → w'.cell? ⟨N, 0, none⟩ = some (.int .i64 f.params) ∧ w'.cell? ⟨N, 1, none⟩ = some (.int .i64 f.result) ∧ w'.cell? ⟨N, 2, none⟩ = some (.slice Ar f.regs.length cr) ∧ w'.cell? ⟨N, 3, none⟩ = some (.slice A f.blocks.length c) ∧
            w'.cell? ⟨G, k, none⟩ = some (.slice Av (zs (nxF f.blocks k)).length cv) ∧ w'.cell? ⟨H, k, none⟩ = some (.bool (reachF f.blocks k)) ∧ w'.cell? ⟨K, k, none⟩ = some (.bool (reachF f.blocks k)) :=
          fun w' h => ⟨kept_of_below h _ _ d0, kept_of_below h _ _ d1, kept_of_below h _ _ d2, kept_of_below h _ _ d3, kept_of_below h _ _ hrc, kept_of_below h _ _ hcr, kept_of_below h _ _ hcf⟩
        clear hrow hrs d0 d1 d2 hbr hkr
        go_upto_region 14 with fail
        clear d3 hrc hcr hcf c0 c1 c2 c3
        generalize reachF f.blocks k = bb at *
        have hbb : (bb != bb) = false := by simp
        generalize hzl : zs (nxF f.blocks k) = zl at *
        have hdz : decide (zl = zl) = true := decide_eq_true rfl
        go_region_held3 (fun w' => w'.cell? ⟨N, 0, none⟩ = some (.int .i64 f.params) ∧ w'.cell? ⟨N, 1, none⟩ = some (.int .i64 f.result) ∧ w'.cell? ⟨N, 2, none⟩ = some (.slice Ar f.regs.length cr) ∧ w'.cell? ⟨N, 3, none⟩ = some (.slice A f.blocks.length c) ∧
            w'.cell? ⟨G, k, none⟩ = some (.slice Av zl.length cv) ∧ w'.cell? ⟨H, k, none⟩ = some (.bool bb) ∧ w'.cell? ⟨K, k, none⟩ = some (.bool bb))
          (first
            | exact hS _ HBI.out
            | exact hS _ HBN.out
            | (refine hS _ ?_; repeat (first | exact Below.refl _ _ | refine Below.drew ?_)))
          (first
            | (go_at_call 26; refine HX.out.mono ?_; rintro e w10 ⟨⟨vn, rfl, hn10⟩, hb10⟩; have HBN := Lib.hid ((Below.refl wr.heap.size wr).drew.trans hb10); have HVN : Hid (VS w10 1 RInt vn zl) := Lib.hid (by rw [← hzl]; exact vs_of_own (by rw [zs_len]; exact hn10) (fun x hx => by obtain ⟨q, hq, rfl⟩ := zs_mem hx; have := nxF_lt f.blocks k q hq; unfold I64; omega)); clear hn10 hb10)
            | (go_at_call 24; refine (sameInts_any _ _ _ _ w10 ⟨Av, cv, rfl, SInts.keep (kept_of_below HBN.out) HRS.out⟩ HVN.out).mono ?_; rintro e w11 ⟨rfl, n11, rfl⟩; have HBI := Lib.hid (below_drewN HBN.out n11)))
        have HB11 := Lib.hid (HBR9.out.trans (HBI.out.mono HBR9.out.size))
        go_wp2_with fail
        go_roundw
        case rel => exact ⟨k + 1, by omega, by go_num, HB11.out⟩
        case measure => simp [intOf]; omega
      · clear d0 d1 d2 d3 hkr hbr
        go_wp2_with fail
        go_ret
        exact ⟨rfl, HBR.out⟩
end Go.Proofs.Ytogbmpgepchioaa
