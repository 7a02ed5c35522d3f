/- The walk of GraphTrims. -/
import Derived.Test.YtooblmiffgjmjaaTrB
import Derived.Test.YtooblmiffgjmjaaGrX
import Derived.Test.YtooblmiffgjmjaaGrE
import Derived.Test.YtooblmiffgjmjaaSameF
namespace Go.Proofs.Ytooblmiffgjmjaa
open Go.ChangeShapes Go.WideShapes Go.RowKit Go.Deep
set_option linter.unusedVariables false

theorem vs_of_rowT {w : World} {G n : Nat} {t : TypeId} {g : Nat → Int} (h : w.rowIs G t n (fun i => .int .i64 (g i))) (hg : ∀ i, i < n → I64 (g i)) (hn : n ≤ 1000000) :
    VS w 1 RInt (.slice (some ⟨G, 0, none⟩) n n) ((List.range n).map g) := by
  refine ⟨some ⟨G, 0, none⟩, n, by simp, by simp, ⟨by unfold maxLen; omega, fun e => by cases e⟩, fun _ => ⟨G, 0, rfl, fun i x hi => ?_⟩⟩
  rw [List.getElem?_map] at hi
  obtain ⟨j, hj, rfl⟩ := Option.map_eq_some_iff.1 hi
  obtain ⟨hl, e⟩ := List.getElem?_eq_some_iff.1 hj
  simp at hl e
  subst e
  exact ⟨by rw [Nat.mul_one, Nat.zero_add]; exact h.cell hl, hg i hl⟩

set_option maxRecDepth 100000 in
set_option maxHeartbeats 16000000 in
theorem graphTrims_walk (f : FunD) (v : Value) (w : World) (hv : VFun w v f) :
    Calls Try.prog 3 #[v] w fun e w' => e = .returned (.bool true) ∧ Below w.heap.size w w' := by
  have hv0 := hv
  obtain ⟨Ar, cr, A, c, rfl, -, -, -, -⟩ := hv
  have HV := Lib.hid hv0
  clear hv0
  go_enter Try.func3, Try.ntmps3
  go_wp2_with fail
  obtain ⟨w1, hw1, hs1, hk1, hbel1, hc1, -⟩ := named w #[.int .i64 f.params, .int .i64 f.result, .slice Ar f.regs.length cr, .slice A f.blocks.length c] 25
  rw [← hw1]
  refine (up5_any w1).mono ?_
  rintro e w2 ⟨rfl, hb2⟩
  have hk2 := kept_of_below hb2
  have c0 := hk2 _ _ (hc1 0 _ rfl)
  have c1 := hk2 _ _ (hc1 1 _ rfl)
  have c2 := hk2 _ _ (hc1 2 _ rfl)
  have c3 := hk2 _ _ (hc1 3 _ rfl)
  have HB2 : Hid (Below w.heap.size w w2) := Lib.hid (hbel1.trans (hb2.mono (by omega)))
  obtain ⟨N, hN⟩ : ∃ N, N = w.heap.size := ⟨_, rfl⟩
  rw [← hN] at c0 c1 c2 c3 ⊢
  clear hw1 hs1 hbel1 hc1 hb2 hk1 hk2 hN
  go_wp2_with fail
  refine (small5_any f _ w2 (VFun.keep (kept_of_below HB2.out) HV.out)).mono ?_
  rintro e w3 ⟨⟨bs, rfl, hsm⟩, hb3⟩
  have hk3 := kept_of_below hb3
  have c0 := hk3 _ _ c0
  have c1 := hk3 _ _ c1
  have c2 := hk3 _ _ c2
  have c3 := hk3 _ _ c3
  have HB3 : Hid (Below w.heap.size w w3) := Lib.hid (HB2.out.trans (hb3.mono HB2.out.size))
  cases bs
  · clear hb3 hk3 hsm
    go_wp2_with fail
    go_ret
    exact ⟨rfl, HB3.out⟩
  · have HSM := Lib.hid (hsm rfl)
    have hn : f.blocks.length ≤ 70 := (hsm rfl).1
    clear hb3 hk3 hsm
    go_wp2_with fail
    refine (trim_any f _ w3 (VFun.keep (kept_of_below HB3.out) HV.out) HSM.out).mono ?_
    rintro e w4 ⟨⟨Ar1, cr1, Ab1, cb1, G1, rfl, hr1, hb1, hG1, hrow1, hp64, hr64⟩, hb4⟩
    have hk4 := kept_of_below hb4
    have c0 := hk4 _ _ c0
    have c1 := hk4 _ _ c1
    have c2 := hk4 _ _ c2
    have c3 := hk4 _ _ c3
    have HB4 : Hid (Below w.heap.size w w4) := Lib.hid (HB3.out.trans (hb4.mono HB3.out.size))
    have HV4 : Hid (VFun w4 (.agg #[.int .i64 f.params, .int .i64 f.result, .slice Ar1 f.regs.length cr1, .slice Ab1 (blksT f.blocks).length cb1]) (trimF f)) := Lib.hid ⟨Ar1, cr1, Ab1, cb1, rfl, SL.imp RIntB.plain hr1, SL.imp RBlkB.plain hb1, hp64, hr64⟩
    have HN4 : Hid (VS w4 1 RInt (.slice (some ⟨G1, 0, none⟩) f.blocks.length f.blocks.length) (numsL (reachF f.blocks) f.blocks.length)) := Lib.hid (vs_of_rowT hrow1 (fun i hi => numB_i64 _ (by omega)) (by omega))
    clear hb4 hk4 hr1 hb1 hG1 hrow1 hp64 hr64
    go_upto_region 6 with fail
    obtain ⟨w5, hw5, hs5, hk5, hb5, hc5, -⟩ := named w4 #[.int .i64 f.params, .int .i64 f.result, .slice Ar1 f.regs.length cr1, .slice Ab1 (blksT f.blocks).length cb1] 25
    rw [← hw5]
    have d0 := hc5 0 _ rfl
    have d1 := hc5 1 _ rfl
    have d2 := hc5 2 _ rfl
    have d3 := hc5 3 _ rfl
    have c0 := hk5 _ _ c0
    have c1 := hk5 _ _ c1
    have c2 := hk5 _ _ c2
    have c3 := hk5 _ _ c3
    have HB5 : Hid (Below w.heap.size w w5) := Lib.hid (HB4.out.trans (hb5.mono HB4.out.size))
    have HV5 := Lib.hid (VFun.keep hk5 HV4.out)
    have HN5 := Lib.hid (VInts.keep hk5 HN4.out)
    obtain ⟨M, hM⟩ : ∃ M, M = w4.heap.size := ⟨_, rfl⟩
    rw [← hM] at d0 d1 d2 d3 ⊢
    clear hw5 hs5 hk5 hb5 hc5 hM
    go_wp2_with fail
    refine (refTrim_any f _ w5 (VFun.keep (kept_of_below HB5.out) HV.out) HSM.out).mono ?_
    rintro e w6 ⟨⟨v2, vn2, rfl, hv2, hn2⟩, hb6⟩
    have hk6 := kept_of_below hb6
    have HB6 : Hid (Below w.heap.size w w6) := Lib.hid (HB5.out.trans (hb6.mono HB5.out.size))
    have d0 := hk6 _ _ d0
    have d1 := hk6 _ _ d1
    have d2 := hk6 _ _ d2
    have d3 := hk6 _ _ d3
    have HV6 := Lib.hid (VFun.keep hk6 HV5.out)
    have HN6 := Lib.hid (VInts.keep hk6 HN5.out)
    have hv2' := hv2
    obtain ⟨Ar2, cr2, Ab2, cb2, rfl, -, -, -, -⟩ := hv2'
    have HW6 := Lib.hid hv2
    have HM6 := Lib.hid hn2
    clear c0 c1 c2 c3 hb6 hk6 hv2 hn2
    go_upto_region 7 with fail
    obtain ⟨w7, hw7, hs7, hk7, hb7, hc7, -⟩ := named w6 #[.int .i64 (trimF f).params, .int .i64 (trimF f).result, .slice Ar2 (trimF f).regs.length cr2, .slice Ab2 (trimF f).blocks.length cb2] 25
    rw [← hw7]
    have e0 := hc7 0 _ rfl
    have e1 := hc7 1 _ rfl
    have e2 := hc7 2 _ rfl
    have e3 := hc7 3 _ rfl
    have d0 := hk7 _ _ d0
    have d1 := hk7 _ _ d1
    have d2 := hk7 _ _ d2
    have d3 := hk7 _ _ d3
    have HB7 : Hid (Below w.heap.size w w7) := Lib.hid (HB6.out.trans (hb7.mono HB6.out.size))
    have HV7 := Lib.hid (VFun.keep hk7 HV6.out)
    have HN7 := Lib.hid (VInts.keep hk7 HN6.out)
    have HW7 := Lib.hid (VFun.keep hk7 HW6.out)
    have HM7 := Lib.hid (VInts.keep hk7 HM6.out)
    obtain ⟨L, hL⟩ : ∃ L, L = w6.heap.size := ⟨_, rfl⟩
    rw [← hL] at e0 e1 e2 e3 ⊢
    clear hw7 hs7 hk7 hb7 hc7 hL
    go_wp2_with fail
    refine (sameFunc_any (trimF f) (trimF f) _ _ w7 HV7.out HW7.out).mono ?_
    rintro e w8 ⟨rfl, hb8⟩
    rw [same_yes rfl]
    have hk8 := kept_of_below hb8
    have HB8 : Hid (Below w.heap.size w w8) := Lib.hid (HB7.out.trans (hb8.mono HB7.out.size))
    have HN8 := Lib.hid (VInts.keep hk8 HN7.out)
    have HM8 := Lib.hid (VInts.keep hk8 HM7.out)
    clear hb8 hk8 d0 d1 d2 d3 e0 e1 e2 e3
    go_wp2_with fail
    refine (sameInts_any _ _ _ _ w8 HN8.out HM8.out).mono ?_
    rintro e w9 ⟨rfl, m, rfl⟩
    rw [decide_eq_true rfl]
    go_wp2_with fail
    go_ret
    exact ⟨rfl, below_drewN HB8.out m⟩
end Go.Proofs.Ytooblmiffgjmjaa
