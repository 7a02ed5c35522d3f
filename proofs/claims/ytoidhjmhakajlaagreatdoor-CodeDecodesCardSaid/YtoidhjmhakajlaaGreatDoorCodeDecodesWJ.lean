/- The reference's Same of two modules. -/
import Derived.Test.YtoidhjmhakajlaaGreatDoorSameFJ
import Derived.Test.YtoidhjmhakajlaaGreatDoorByaJ
import Derived.Test.YtoidhjmhakajlaaGreatDoorRfRJ
import Derived.Test.YtoidhjmhakajlaaGreatDoorOfEJ
namespace Go.Proofs.YtoidhjmhakajlaaGreatDoor
open Go.ChangeShapes Go.WideShapes Go.RowKit Go.Deep
set_option linter.unusedVariables false

set_option maxRecDepth 100000 in
set_option maxHeartbeats 8000000 in
theorem same_any (x y : List FunD) (v u : Value) (w : World) (hv : VMod w v x) (hu : VMod w u y) :
    Calls Tryz.prog 14 #[v, u] w fun e w' => e = .returned (.bool (same x y)) ∧ Below w.heap.size w w' := by
  obtain ⟨Ab, cb, rfl, hb⟩ := hv
  obtain ⟨Bb, db, rfl, kb⟩ := hu
  have hbl := hb.len
  have kbl := kb.len
  have hB : Below w.heap.size w ((w.alloc (.cells #[.slice Ab x.length cb] 24)).alloc (.cells #[.slice Bb y.length db] 24)) := ((Below.refl _ _).alloc (Nat.le_refl _) _).alloc (by simp) _
  have hK := kept_of_below hB
  by_cases e3 : x.length = y.length
  · have e3' : ((x.length : Int) != y.length) = false := by simp [e3]
    have E3 := Lib.hid e3
    clear e3
    go_enter Tryz.func14, Tryz.ntmps14
    go_wp2_with fail
    obtain ⟨w1, hw1⟩ : ∃ w1, w1 = (w.alloc (.cells #[.slice Ab x.length cb] 24)).alloc (.cells #[.slice Bb y.length db] 24) := ⟨_, rfl⟩
    have gx3 : w1.cell? ⟨w.heap.size, 0, none⟩ = some (.slice Ab x.length cb) := by rw [hw1]; simp
    have gy3 : w1.cell? ⟨w.heap.size + 1, 0, none⟩ = some (.slice Bb y.length db) := by rw [hw1]; simp
    rw [← hw1] at hB hK ⊢
    clear hw1
    have hb0 : Below w1.heap.size w1 w1 := Below.refl _ _
    go_loopw [5] (fun i wr => ∃ k : Nat, k ≤ x.length ∧ i = .int .i64 k ∧ Below w1.heap.size w1 wr ∧ Hid (x.take k = y.take k)) (fun i _ => x.length - (intOf i).toNat)
    case atStart => exact ⟨0, Nat.zero_le _, rfl, hb0, Lib.hid rfl⟩
    case round =>
      obtain ⟨k, hk, rfl, hbel, hi2⟩ := hrel
      have hkr : Kept w1 wr := kept_of_below hbel
      have hx3 := hkr _ _ gx3
      have hy3 := hkr _ _ gy3
      have hBr : Below w.heap.size w wr := hB.trans (hbel.mono hB.size)
      by_cases hlt : k < x.length
      · have hlt2 : k < y.length := by have := E3.out; omega
        obtain ⟨b1, o1, p, rfl, hp1, ⟨h1, i1⟩, ⟨h2, i2⟩, ⟨A3, c3, h3, g3⟩, A4, c4, h4, g4⟩ := (SFuns.keep (hK.trans hkr) hb).at_ hlt
        obtain ⟨b2, o2, q, rfl, hq1, ⟨k1, l1⟩, ⟨k2, l2⟩, ⟨B3, d3, k3, j3⟩, B4, d4, k4, j4⟩ := (SFuns.keep (hK.trans hkr) kb).at_ hlt2
        have hk0 : (0 : Int) ≤ k := by omega
        have hk1 : (k : Int) < x.length := by omega
        have hk2 : (k : Int) < y.length := by omega
        go_wp2_with fail
        go_still_tail 10, (by kernel_rfl)
        change wpList _ _ _ _ _ wr.drew
        have hvp : VFun wr.drew (.agg #[.int .i64 p.params, .int .i64 p.result, .slice A3 p.regs.length c3, .slice A4 p.blocks.length c4]) p := ⟨A3, c3, A4, c4, rfl, g3, g4, i1, i2⟩
        have hvq : VFun wr.drew (.agg #[.int .i64 q.params, .int .i64 q.result, .slice B3 q.regs.length d3, .slice B4 q.blocks.length d4]) q := ⟨B3, d3, B4, d4, rfl, j3, j4, l1, l2⟩
        have hbd : Below w1.heap.size w1 wr.drew := hbel.drew
        have hBd : Below w.heap.size w wr.drew := hBr.drew
        generalize wr.drew = w2 at *
        go_wp2_with fail
        refine (sameFunc_any p q _ _ _ hvp hvq).mono ?_
        rintro e w3 ⟨rfl, hb3⟩
        have hb3' : Below w1.heap.size w1 w3 := hbd.trans (hb3.mono hbd.size)
        have hB3 : Below w.heap.size w w3 := hBd.trans (hb3.mono hBd.size)
        cases hs : same p q
        · have E2 : Hid (same x y = false) := Lib.hid (same_no (fun e => ne_at hp1.out hq1.out (fun e2 => by have := same_yes e2; rw [hs] at this; cases this) (by rw [e])))
          clear hs
          go_wp2_with fail
          go_ret
          exact ⟨by rw [E2.out]; rfl, hB3⟩
        · have HS := Lib.hid (same_iff.1 hs)
          clear hs
          go_wp2_with fail
          go_roundw
          case rel => exact ⟨k + 1, by omega, by go_num, hb3', Lib.hid (take_snoc_eq hi2.out hp1.out hq1.out HS.out)⟩
          case measure => simp [intOf]; omega
      · have HP := Lib.hid (take_len_eq hi2.out (Nat.le_of_not_lt hlt) (by have := E3.out; omega))
        go_wp2_with fail
        go_ret
        exact ⟨by rw [same_yes HP.out]; rfl, hBr⟩
  · have e3' : ((x.length : Int) != y.length) = true := by rw [bne_iff_ne]; omega
    have E2 : Hid (same x y = false) := Lib.hid (same_no (fun e => e3 (by rw [e])))
    clear e3
    go_enter Tryz.func14, Tryz.ntmps14
    go_wp2_with fail
    go_ret
    exact ⟨by rw [E2.out]; rfl, hB⟩
end Go.Proofs.YtoidhjmhakajlaaGreatDoor

/- The walk of CodeDecodes. -/
namespace Go.Proofs.YtoidhjmhakajlaaGreatDoor
open Go.ChangeShapes Go.WideShapes Go.RowKit Go.Deep
set_option linter.unusedVariables false

theorem dec_zero {bs : List UInt8} (h : (decE bs).1 = 0) : decE bs = (0, -1) := by
  unfold decE at h ⊢
  cases hr : readP bs with
  | error e =>
    rw [hr] at h
    have h1 := read_err hr
    have h2 : e.1 = 0 := h
    omega
  | ok m =>
    rw [hr] at h
    exact modE_zero h
theorem dec_in {bs : List UInt8} (h : (decE bs).1 ≠ 0) : 1 ≤ (decE bs).1 ∧ (decE bs).1 ≤ 8 := by
  unfold decE at h ⊢
  cases hr : readP bs with
  | error e =>
    have h1 := read_err hr
    show 1 ≤ e.1 ∧ e.1 ≤ 8
    omega
  | ok m =>
    rw [hr] at h
    have h1 := modE_in m
    show 1 ≤ (modE m).1 ∧ (modE m).1 ≤ 8
    rcases h1 with h1 | h1
    · exact absurd h1 h
    · omega
set_option maxRecDepth 100000 in
set_option maxHeartbeats 1000000 in
theorem code_nil (w : World) : Calls Tryz.prog 26 #[.nilIface] w fun e w' => e = .returned (.int .i64 0) ∧ w' = w := by
  go_enter Tryz.func26, Tryz.ntmps26
  go_wp2_with fail
  go_ret
  exact ⟨rfl, rfl⟩
set_option maxRecDepth 100000 in
set_option maxHeartbeats 1000000 in
theorem of_nil (w : World) : Calls Tryz.prog 10 #[.nilIface] w fun e w' => e = .returned (.tuple #[.int .i64 0, .int .i64 (-1)]) ∧ Below w.heap.size w w' := by
  obtain ⟨w1, hw1, hs1, hk1, hb1, hc1, -⟩ := named w #[.pointer none] 70
  have HAS := Lib.hid (as_nil (.iface 72 (.pointer (some ⟨w.heap.size, 0, none⟩))) w1)
  have HC := Lib.hid (code_nil w1)
  have HB1 := Lib.hid hb1
  clear hk1 hb1 hc1
  go_enter Tryz.func10, Tryz.ntmps10
  go_wp2_with fail
  rw [← hw1]
  refine HAS.out.mono ?_
  rintro e w2 ⟨rfl, hw2⟩
  obtain rfl : w1 = w2 := hw2.symm
  clear hw1 hs1
  go_wp2_with fail
  refine HC.out.mono ?_
  rintro e w3 ⟨rfl, hw3⟩
  obtain rfl : w1 = w3 := hw3.symm
  go_wp2_with fail
  go_ret2
  exact ⟨rfl, HB1.out⟩

set_option maxRecDepth 100000 in
set_option maxHeartbeats 8000000 in
theorem codeDecodes_walk (OI : OfIns) (vb : Value) (bs : List UInt8) (w : World) (hb : VBytes w vb bs) (hg : HoldsErr w) :
    Calls Tryz.prog 4 #[vb] w fun e w' => e = .returned (.bool true) ∧ Below w.heap.size w w' := by
  obtain ⟨B, d, rfl, hbs⟩ := hb
  have hbl := hbs.len
  have HBS := Lib.hid hbs
  have HG := Lib.hid hg
  have HUP := Lib.hid (up_any OI w hg)
  clear hbs hg
  go_enter Tryz.func4, Tryz.ntmps4
  go_wp2_with fail
  refine HUP.out.mono ?_
  rintro e w2 ⟨rfl, hb2⟩
  have HB2 := Lib.hid hb2
  clear hb2 HUP
  by_cases hlen : 4000 < bs.length
  · have hlen' : (4000 : Int) < bs.length := by omega
    go_wp2_with fail
    go_ret
    exact ⟨rfl, HB2.out⟩
  have hlen' : ¬ (4000 : Int) < bs.length := by omega
  go_wp2_with fail
  refine (decode_any OI bs B d w2 (SBytes.keep (kept_of_below HB2.out) HBS.out)).mono ?_
  rintro e w3 ⟨A3, c3, ev, rfl, hm3, he3, hb3⟩
  have HB3 : Hid (Below w.heap.size w w3) := Lib.hid (HB2.out.trans (hb3.mono HB2.out.size))
  have HM3 := Lib.hid hm3
  have HE3 := Lib.hid he3
  have HEV : Hid (ev = .nilIface ∨ ∃ t x, ev = .iface t x) := Lib.hid (by
    by_cases h : (decE bs).1 = 0
    · exact .inl (he3.nil h)
    · exact .inr (he3.iface h))
  clear hm3 he3 hb3
  go_upto_region 5 with fail
  obtain ⟨w4, hw4, hs4, hk4, hb4, hc4, -⟩ := named w3 #[.slice A3 (decM bs).length c3] 24
  rw [← hw4]
  obtain ⟨X, hX⟩ : ∃ X, X = w3.heap.size := ⟨_, rfl⟩
  rw [← hX] at hc4 ⊢
  have x0 : w4.cell? ⟨X, 0, none⟩ = some (.slice A3 (decM bs).length c3) := hc4 0 _ rfl
  have HB4 : Hid (Below w.heap.size w w4) := Lib.hid (HB3.out.trans (hb4.mono HB3.out.size))
  have HM4 := Lib.hid (SFuns.keep hk4 HM3.out)
  have HE4 := Lib.hid (HE3.out.keep hk4)
  clear hw4 hs4 hk4 hb4 hc4 hX
  go_wp2_with fail
  refine (readF_any bs B d w4 (SBytes.keep (kept_of_below HB4.out) HBS.out) (by omega)).mono ?_
  rintro e w5 ⟨A5, c5, rfl, hm5, hb5⟩
  have x0 := kept_of_below hb5 _ _ x0
  have HB5 : Hid (Below w.heap.size w w5) := Lib.hid (HB4.out.trans (hb5.mono HB4.out.size))
  have HM5 := Lib.hid hm5
  have HM45 := Lib.hid (SFuns.keep (kept_of_below hb5) HM4.out)
  have HE5 := Lib.hid (HE4.out.keep (kept_of_below hb5))
  clear hm5 hb5
  go_upto_region 6 with fail
  obtain ⟨w6, hw6, hs6, hk6, hb6, hc6, -⟩ := named w5 #[.slice A5 (decM bs).length c5] 24
  rw [← hw6]
  obtain ⟨Y, hY⟩ : ∃ Y, Y = w5.heap.size := ⟨_, rfl⟩
  rw [← hY] at hc6 ⊢
  have y0 : w6.cell? ⟨Y, 0, none⟩ = some (.slice A5 (decM bs).length c5) := hc6 0 _ rfl
  have x0 := hk6 _ _ x0
  have HB6 : Hid (Below w.heap.size w w6) := Lib.hid (HB5.out.trans (hb6.mono HB5.out.size))
  have HM6 := Lib.hid (SFuns.keep hk6 HM5.out)
  have HM46 := Lib.hid (SFuns.keep hk6 HM45.out)
  have HE6 := Lib.hid (HE5.out.keep hk6)
  have HOF : Hid (Calls Tryz.prog 10 #[ev] w6 fun e w' => e = .returned (.tuple #[.int .i64 (decE bs).1, .int .i64 (decE bs).2]) ∧ Below w6.heap.size w6 w') := Lib.hid (by
    by_cases h : (decE bs).1 = 0
    · rw [HE6.out.nil h, dec_zero h]; exact of_nil w6
    · exact of_any ev (decE bs) w6 HE6.out (dec_in h) (holdsErr_below _ _ _ HG.out HG.out.pos HB6.out))
  obtain ⟨p1, hp1⟩ : ∃ p1, p1 = (decE bs).1 := ⟨_, rfl⟩
  obtain ⟨p2, hp2⟩ : ∃ p2, p2 = (decE bs).2 := ⟨_, rfl⟩
  rw [← hp1, ← hp2] at HOF ⊢
  clear hw6 hs6 hk6 hb6 hc6 hY hp1 hp2
  have hev := HEV.out
  clear HEV
  rcases hev with rfl | ⟨te, xe, rfl⟩
  all_goals
    go_wp2_with fail
    refine HOF.out.mono ?_
    rintro e w7 ⟨rfl, hb7⟩
    have x0 := kept_of_below hb7 _ _ x0
    have y0 := kept_of_below hb7 _ _ y0
    have HB7 : Hid (Below w.heap.size w w7) := Lib.hid (HB6.out.trans (hb7.mono HB6.out.size))
    have HSA := Lib.hid (same_any (decM bs) (decM bs) (.agg #[.slice A3 (decM bs).length c3]) (.agg #[.slice A5 (decM bs).length c5]) w7 ⟨A3, c3, rfl, SFuns.keep (kept_of_below hb7) HM46.out⟩ ⟨A5, c5, rfl, SFuns.keep (kept_of_below hb7) HM6.out⟩)
    have HSY : Hid (same (decM bs) (decM bs) = true) := Lib.hid (same_yes rfl)
    clear hb7
    go_wp2_with fail
    refine HSA.out.mono ?_
    rintro e w8 ⟨rfl, hb8⟩
    rw [HSY.out]
    have HB8 : Hid (Below w.heap.size w w8) := Lib.hid (HB7.out.trans (hb8.mono HB7.out.size))
    clear hb8
    go_wp2_with fail
    go_ret
    exact ⟨rfl, HB8.out⟩
end Go.Proofs.YtoidhjmhakajlaaGreatDoor
