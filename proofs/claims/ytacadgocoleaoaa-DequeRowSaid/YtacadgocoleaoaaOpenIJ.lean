/- The walk of DequeRow. -/
import Derived.Test.YtacadgocoleaoaaDqGJ
import Derived.Test.YtacadgocoleaoaaAheadLJ
import Derived.OwnWalk
import Derived.Test.YtacadgocoleaoaaDqMJ
import Derived.ProofKit
namespace Go.Proofs.Ytacadgocoleaoaa
open Go.ChangeShapes Go.WideShapes Go.RowKit Go.Deep
set_option linter.unusedVariables false

/-- 100 + a, .., 100 + b - 1. -/
def rowQ (a b : Nat) : List Int := (List.range' a (b - a)).map fun k : Nat => 100 + (k : Int)
theorem rowQ_len (a b : Nat) : (rowQ a b).length = b - a := by unfold rowQ; simp
theorem rowQ_snoc {a b : Nat} (h : a ≤ b) : rowQ a (b + 1) = rowQ a b ++ [100 + (b : Int)] := by
  unfold rowQ
  rw [show b + 1 - a = (b - a) + 1 by omega, List.range'_concat]
  simp
  omega
theorem rowQ_cons {a b : Nat} (h : a < b) : rowQ a b = (100 + (a : Int)) :: rowQ (a + 1) b := by
  unfold rowQ
  rw [show b - a = (b - (a + 1)) + 1 by omega, List.range'_succ]
  simp
theorem rowQ_nil {a b : Nat} (h : b ≤ a) : rowQ a b = [] := by unfold rowQ; rw [show b - a = 0 by omega]; rfl
/-- Where the first loop is. -/
structure RwA (w : World) (D : Nat) (i : Nat) (wr : World) : Prop where
  ex : ∃ s, Rst wr D s (rowQ 0 (min i 64)) (6 * (i : Int))
  fr : FrX (fun y => y = D) w wr
structure RwB (w : World) (D N i : Nat) (wr : World) : Prop where
  ex : ∃ s, Rst wr D s (rowQ (min i N) N) (420 + 6 * (i : Int))
  fr : FrX (fun y => y = D) w wr
set_option maxRecDepth 100000 in
set_option maxHeartbeats 4000000 in
theorem dequeRow_walk (a0 a1 : Int) (W : World) (h0 : I64 a0) (h1 : I64 a1) : Calls Try.prog 5 #[.int .i64 a0, .int .i64 a1] W fun e w' => e = .returned (.bool true) ∧ Below W.heap.size W w' := by
  obtain ⟨i0, hi, hz0, hz1, hz2⟩ := info_parts Try.info3
  have HI := Lib.hid (And.intro hi (And.intro hz0 (And.intro hz1 hz2)))
  clear hi hz0 hz1 hz2
  go_enter Try.func5, Try.ntmps5
  go_wp2_with fail
  refine (up11_any W).mono ?_
  rintro e w1 ⟨rfl, hb1⟩
  have HB1 := Lib.hid hb1
  clear hb1
  go_wp2_with fail
  refine (new_any w1).mono ?_
  rintro e w2 ⟨rfl, hD2, hb2⟩
  have HR2 := Lib.hid (Rst.new hD2)
  have HB2 : Hid (Below W.heap.size W w2) := Lib.hid (HB1.out.trans (hb2.mono HB1.out.size))
  have HWD : Hid (W.heap.size ≤ w1.heap.size) := Lib.hid HB1.out.size
  generalize w1.heap.size = D at *
  clear hD2 hb2
  go_wp2_with fail
  refine (pick11 a0 h0 70 (by omega) (by omega) w2).mono ?_
  rintro e w3 ⟨rfl, rfl⟩
  obtain ⟨n, hn⟩ : ∃ n, pickQ a0 70 = n := ⟨_, rfl⟩
  have hn70 : n < 70 := by rw [← hn]; exact pickQ_lt _ (by omega)
  rw [hn]
  clear hn h0
  have hA0 : Hid (RwA w3 D 0 w3) := Lib.hid ⟨⟨zeroQ, by simpa [rowQ] using HR2.out⟩, FrX.refl _ _⟩
  go_wp2_with fail
  go_loopw [7] (fun i wr => ∃ j : Nat, i = .int .i64 (j : Int) ∧ j ≤ n ∧ Hid (RwA w3 D j wr)) (fun i _ => n - (intOf i).toNat)
  case atStart => exact ⟨0, rfl, Nat.zero_le _, hA0⟩
  case round =>
    obtain ⟨j, rfl, hjn, hL⟩ := hrel
    by_cases hj : j < n
    · obtain ⟨⟨s, hR⟩, hfr⟩ := hL.out
      have HF := Lib.hid hfr
      have HPUSH := Lib.hid (push_yes (100 + (j : Int)) hR.deq)
      have HR := Lib.hid hR
      clear hfr hR hL
      go_wp2_with fail
      refine HPUSH.out.mono ?_
      rintro e w4 ⟨rfl, hD4, hO4, hF4⟩
      obtain ⟨s5, o5, hC5⟩ := HR.out.push hD4 hO4 hF4 (Nat.le_refl _) (by omega)
      generalize wr.heap.size = p at *
      have HC5 := Lib.hid hC5
      clear hC5 hD4 hO4 hF4 HPUSH
      go_wp2_with fail
      refine HC5.out.mono ?_
      rintro e w5 ⟨rfl, hO5, hF5, hR5⟩
      have HO5 := Lib.hid hO5
      have HF5 := Lib.hid hF5
      have HR5 := Lib.hid hR5
      clear hO5 hF5 hR5 HC5
      go_wp2_with fail
      refine (result_any HO5.out).mono ?_
      rintro e w6 ⟨rfl, n6, rfl⟩
      by_cases h64 : j < 64
      · have hx : o5.got = 1 ∧ Rst w5 D s5 (rowQ 0 (min (j + 1) 64)) (6 * ((j + 1 : Nat) : Int)) := by
          rcases HR5.out with ⟨-, h2, -, h3⟩ | ⟨h, -⟩
          · refine ⟨h2, ?_⟩
            rw [show min (j + 1) 64 = j + 1 by omega, rowQ_snoc (Nat.zero_le _), show (6 : Int) * ((j + 1 : Nat) : Int) = 6 * j + 6 by omega]
            rw [show min j 64 = j by omega] at h3
            exact h3
          · rw [rowQ_len] at h; omega
        obtain ⟨hg, hR6⟩ := hx
        rw [hg]
        have HR6 := Lib.hid hR6
        clear hg hR6
        have hjn2 : j + 1 ≤ n := hj
        go_wp2_with fail
        go_roundw
        case rel => exact ⟨j + 1, by go_num, hjn2, Lib.hid ⟨⟨_, HR6.out.go rfl⟩, frx_dN (HF.out.trans HF5.out) n6⟩⟩
        case measure => simp [intOf]; omega
      · have hx : o5.got = 3 ∧ Rst w5 D s5 (rowQ 0 (min (j + 1) 64)) (6 * ((j + 1 : Nat) : Int)) := by
          rcases HR5.out with ⟨h, -⟩ | ⟨-, h2, h3⟩
          · rw [rowQ_len] at h; omega
          · refine ⟨h2, ?_⟩
            rw [show min (j + 1) 64 = min j 64 by omega, show (6 : Int) * ((j + 1 : Nat) : Int) = 6 * j + 6 by omega]
            exact h3
        obtain ⟨hg, hR6⟩ := hx
        rw [hg]
        have HR6 := Lib.hid hR6
        clear hg hR6
        have hjn2 : j + 1 ≤ n := hj
        go_wp2_with fail
        go_roundw
        case rel => exact ⟨j + 1, by go_num, hjn2, Lib.hid ⟨⟨_, HR6.out.go rfl⟩, frx_dN (HF.out.trans HF5.out) n6⟩⟩
        case measure => simp [intOf]; omega
    · obtain rfl : j = n := by omega
      clear hj hjn
      by_cases h64 : 64 < j
      · have dj : decide (64 < (j : Int)) = true := decide_eq_true (by omega)
        go_wp2_with fail
        refine (pick11 a1 h1 70 (by omega) (by omega) wr).mono ?_
        rintro e w7 ⟨rfl, rfl⟩
        obtain ⟨m, hm⟩ : ∃ m, pickQ a1 70 = m := ⟨_, rfl⟩
        have hm70 : m < 70 := by rw [← hm]; exact pickQ_lt _ (by omega)
        rw [hm]
        clear hm h1
        have hB0 : Hid (RwB w3 D 64 0 w7) := Lib.hid (by
          obtain ⟨⟨s, hR⟩, hfr⟩ := hL.out
          refine ⟨⟨s, ?_⟩, hfr⟩
          have hR := hR.more (jb := 420 + 6 * ((0 : Nat) : Int)) (by omega)
          rw [show min j 64 = 64 by omega] at hR
          rw [show min 0 64 = 0 by omega]
          exact hR)
        clear dj
        go_wp2_with fail
        go_loopw [12] (fun i wq => ∃ k : Nat, i = .int .i64 (k : Int) ∧ k ≤ m ∧ Hid (RwB w3 D 64 k wq)) (fun i _ => m - (intOf i).toNat)
        case atStart => exact ⟨0, rfl, Nat.zero_le _, hB0⟩
        case round =>
          obtain ⟨k, rfl, hkm, hL⟩ := hrel
          by_cases hk : k < m
          · obtain ⟨⟨s, hR⟩, hfr⟩ := hL.out
            have HF := Lib.hid hfr
            have HR := Lib.hid hR
            clear hfr hR hL
            go_wp2_with fail
            refine (steal_any D _).mono ?_
            rintro e w8 ⟨rfl, hO8, hb8⟩
            obtain ⟨s9, o9, hC9⟩ := HR.out.steal hO8 hb8 (Nat.le_refl _) (by omega)
            generalize wr.heap.size = q at *
            have HC9 := Lib.hid hC9
            clear hC9 hO8 hb8
            go_wp2_with fail
            refine HC9.out.mono ?_
            rintro e w9 ⟨rfl, hO9, hF9, hR9⟩
            have HO9 := Lib.hid hO9
            have HF9 := Lib.hid hF9
            have HR9 := Lib.hid hR9
            clear hO9 hF9 hR9 HC9
            go_wp2_with fail
            refine (result_any HO9.out).mono ?_
            rintro e w10 ⟨rfl, n10, rfl⟩
            have hkm2 : k + 1 ≤ m := hk
            by_cases hkN : k < 64
            · have hx : o9.got = 1 ∧ o9.x = 100 + (k : Int) ∧ Rst w9 D s9 (rowQ (min (k + 1) 64) 64) (420 + 6 * ((k + 1 : Nat) : Int)) := by
                rcases HR9.out with ⟨r, h, h2, h3⟩ | ⟨h, -⟩
                · rw [show min k 64 = k by omega, rowQ_cons hkN] at h
                  injection h with h4 h5
                  subst h5
                  rw [show min (k + 1) 64 = k + 1 by omega, show (420 : Int) + 6 * ((k + 1 : Nat) : Int) = 420 + 6 * k + 6 by omega]
                  exact ⟨h2, h4.symm, h3⟩
                · rw [show min k 64 = k by omega, rowQ_cons hkN] at h; cases h
              obtain ⟨hg, hxv, hR10⟩ := hx
              have hrs : resI o9 = 100 + (k : Int) := by unfold resI; rw [if_pos hg]; exact hxv
              rw [hg, hrs]
              have HR10 := Lib.hid hR10
              clear hg hxv hrs hR10
              go_wp2_with fail
              go_roundw
              case rel => exact ⟨k + 1, by go_num, hkm2, Lib.hid ⟨⟨_, HR10.out.go rfl⟩, frx_dN (HF.out.trans HF9.out) n10⟩⟩
              case measure => simp [intOf]; omega
            · have hx : o9.got = 2 ∧ Rst w9 D s9 (rowQ (min (k + 1) 64) 64) (420 + 6 * ((k + 1 : Nat) : Int)) := by
                rcases HR9.out with ⟨r, h, -⟩ | ⟨-, h2, h3⟩
                · rw [rowQ_nil (by omega)] at h; cases h
                · rw [show min (k + 1) 64 = min k 64 by omega, show (420 : Int) + 6 * ((k + 1 : Nat) : Int) = 420 + 6 * k + 6 by omega]
                  exact ⟨h2, h3⟩
              obtain ⟨hg, hR10⟩ := hx
              rw [hg]
              have HR10 := Lib.hid hR10
              clear hg hR10
              go_wp2_with fail
              go_roundw
              case rel => exact ⟨k + 1, by go_num, hkm2, Lib.hid ⟨⟨_, HR10.out.go rfl⟩, frx_dN (HF.out.trans HF9.out) n10⟩⟩
              case measure => simp [intOf]; omega
          · obtain rfl : k = m := by omega
            clear hk hkm
            go_wp2_with fail
            obtain ⟨wB, hwB⟩ : ∃ wB, wB = wr := ⟨_, rfl⟩
            subst hwB
            go_loopw [16, 17] (fun s16 s17 wr => ∃ (x : Nat) (v : Value), v = s16 ∧ s17 = .int .i64 (x : Int) ∧ k ≤ x ∧ (x ≤ 64 ∨ x = k) ∧ Hid (wr.ownsRow wB.heap.size 3 1 v (x - k) (intsQ (rowQ k x))) ∧ Hid (Below wB.heap.size wB wr)) (fun _ s17 _ => 70 - (intOf s17).toNat)
            case atStart => exact ⟨k, _, rfl, rfl, Nat.le_refl _, .inr rfl, Lib.hid (by rw [rowQ_nil (Nat.le_refl _), Nat.sub_self]; exact World.ownsRow_nil _ _ _ _), Lib.hid (Below.refl _ _)⟩
            case round =>
              obtain ⟨x, v, rfl, rfl, hkx, hxN, HOW, HBW⟩ := hrel
              have HXN := Lib.hid hxN
              have HKX := Lib.hid hkx
              clear hxN hkx
              by_cases hx : x < 64
              · have hxi : (x : Int) < 64 := by omega
                have HXL : Hid ((rowQ k x).length = x - k) := Lib.hid (rowQ_len k x)
                have hx70 : x < 70 := by omega
                have HX := Lib.hid hx
                clear hx
                go_upto_region 31 with fail
                go_wp2_with (at_builtin; refine wpList_append_lies _ rfl (.tmp 119) (.tmp 122) 46 rfl wB.heap.size 3 i0 (.int .i64 0) 1 8 Try.underlying46 HI.out.1 HI.out.2.1 HI.out.2.2.1 HI.out.2.2.2 rfl (by decide) _ _ _ rfl (HOW.out.alloc _) ⟨wr.heap.size, 0, none⟩ 1 1 [.int .i64 (100 + (x : Int))] rfl rfl ?e1 ?e2 (by decide) ?e3 ?e4 ?e5 (wr.heap.size + 1) ?e6 ?_)
                case e1 => exact news_one_add wr _ _ rfl
                case e2 => exact ints_oneCell .i64 [100 + (x : Int)]
                case e3 => unfold maxLen; omega
                case e4 => omega
                case e5 => have := HBW.out.size; simp; omega
                case e6 => simp
                intro g cap w6 hown6 hgrow6 hloc6 hlt6
                have hb6 : Below wB.heap.size wB w6 := (HBW.out.alloc HBW.out.size _).grown hgrow6 (by have := HBW.out.size; simp; omega) (fun g' hg' => (HOW.out.lt g' hg').1)
                have HB6 := Lib.hid hb6
                have HO6 : Hid (w6.ownsRow wB.heap.size 3 1 (.slice (some ⟨g, 0, none⟩) (x - k + 1) cap) (x + 1 - k) (intsQ (rowQ k (x + 1)))) := Lib.hid (by
                  rw [rowQ_snoc HKX.out, show x + 1 - k = x - k + 1 by have := HKX.out; omega]
                  unfold intsQ
                  rw [List.map_append]
                  exact hown6)
                clear hown6 hgrow6 hloc6 hlt6 hb6
                go_wp2_with fail
                go_roundw
                case rel => exact ⟨x + 1, _, rfl, by go_num, by have := HKX.out; omega, .inl HX.out, HO6, HB6⟩
                case measure => simp [intOf]; omega
              · have hxi : ¬ (x : Int) < 64 := by omega
                have HX := Lib.hid hx
                clear hx
                obtain ⟨⟨sF, hRF⟩, hfF⟩ := hL.out
                have hDlt : D < wB.heap.size := hRF.deq.lt
                have HLEFT := Lib.hid (left_any (w := wr) (K := wB.heap.size) (v := v) ((hRF.go (HBW.out.block D hDlt)).more (jb := 1000) (by omega)) (by omega) (by
                  have e : rowQ (min k 64) 64 = rowQ k x := by
                    have h1 := HX.out
                    have h2 := HKX.out
                    rcases HXN.out with h3 | h3
                    · rw [show min k 64 = k by omega, show x = 64 by omega]
                    · rw [rowQ_nil (by omega), rowQ_nil (by omega)]
                  rw [e, rowQ_len]
                  exact HOW.out) hDlt)
                have HFF : Hid (FrX (fun y => y = D) w3 wr) := Lib.hid (hfF.trans (.of_below HBW.out))
                clear hRF hfF hDlt
                go_wp2_with fail
                refine HLEFT.out.mono ?_
                rintro e wz ⟨rfl, hfz⟩
                have HZ := Lib.hid hfz
                clear hfz HLEFT
                go_wp2_with fail
                go_ret
                exact ⟨rfl, HB2.out.trans ((HFF.out.trans HZ.out).below HB2.out.size (fun y hy => by have := HWD.out; omega))⟩
      · have dj : decide (64 < (j : Int)) = false := decide_eq_false (by omega)
        go_wp2_with fail
        refine (pick11 a1 h1 70 (by omega) (by omega) wr).mono ?_
        rintro e w7 ⟨rfl, rfl⟩
        obtain ⟨m, hm⟩ : ∃ m, pickQ a1 70 = m := ⟨_, rfl⟩
        have hm70 : m < 70 := by rw [← hm]; exact pickQ_lt _ (by omega)
        rw [hm]
        clear hm h1
        have hB0 : Hid (RwB w3 D j 0 w7) := Lib.hid (by
          obtain ⟨⟨s, hR⟩, hfr⟩ := hL.out
          refine ⟨⟨s, ?_⟩, hfr⟩
          have hR := hR.more (jb := 420 + 6 * ((0 : Nat) : Int)) (by omega)
          rw [show min j 64 = j by omega] at hR
          rw [show min 0 j = 0 by omega]
          exact hR)
        clear dj
        go_wp2_with fail
        go_loopw [12] (fun i wq => ∃ k : Nat, i = .int .i64 (k : Int) ∧ k ≤ m ∧ Hid (RwB w3 D j k wq)) (fun i _ => m - (intOf i).toNat)
        case atStart => exact ⟨0, rfl, Nat.zero_le _, hB0⟩
        case round =>
          obtain ⟨k, rfl, hkm, hL⟩ := hrel
          by_cases hk : k < m
          · obtain ⟨⟨s, hR⟩, hfr⟩ := hL.out
            have HF := Lib.hid hfr
            have HR := Lib.hid hR
            clear hfr hR hL
            go_wp2_with fail
            refine (steal_any D _).mono ?_
            rintro e w8 ⟨rfl, hO8, hb8⟩
            obtain ⟨s9, o9, hC9⟩ := HR.out.steal hO8 hb8 (Nat.le_refl _) (by omega)
            generalize wr.heap.size = q at *
            have HC9 := Lib.hid hC9
            clear hC9 hO8 hb8
            go_wp2_with fail
            refine HC9.out.mono ?_
            rintro e w9 ⟨rfl, hO9, hF9, hR9⟩
            have HO9 := Lib.hid hO9
            have HF9 := Lib.hid hF9
            have HR9 := Lib.hid hR9
            clear hO9 hF9 hR9 HC9
            go_wp2_with fail
            refine (result_any HO9.out).mono ?_
            rintro e w10 ⟨rfl, n10, rfl⟩
            have hkm2 : k + 1 ≤ m := hk
            by_cases hkN : k < j
            · have hx : o9.got = 1 ∧ o9.x = 100 + (k : Int) ∧ Rst w9 D s9 (rowQ (min (k + 1) j) j) (420 + 6 * ((k + 1 : Nat) : Int)) := by
                rcases HR9.out with ⟨r, h, h2, h3⟩ | ⟨h, -⟩
                · rw [show min k j = k by omega, rowQ_cons hkN] at h
                  injection h with h4 h5
                  subst h5
                  rw [show min (k + 1) j = k + 1 by omega, show (420 : Int) + 6 * ((k + 1 : Nat) : Int) = 420 + 6 * k + 6 by omega]
                  exact ⟨h2, h4.symm, h3⟩
                · rw [show min k j = k by omega, rowQ_cons hkN] at h; cases h
              obtain ⟨hg, hxv, hR10⟩ := hx
              have hrs : resI o9 = 100 + (k : Int) := by unfold resI; rw [if_pos hg]; exact hxv
              rw [hg, hrs]
              have HR10 := Lib.hid hR10
              clear hg hxv hrs hR10
              go_wp2_with fail
              go_roundw
              case rel => exact ⟨k + 1, by go_num, hkm2, Lib.hid ⟨⟨_, HR10.out.go rfl⟩, frx_dN (HF.out.trans HF9.out) n10⟩⟩
              case measure => simp [intOf]; omega
            · have hx : o9.got = 2 ∧ Rst w9 D s9 (rowQ (min (k + 1) j) j) (420 + 6 * ((k + 1 : Nat) : Int)) := by
                rcases HR9.out with ⟨r, h, -⟩ | ⟨-, h2, h3⟩
                · rw [rowQ_nil (by omega)] at h; cases h
                · rw [show min (k + 1) j = min k j by omega, show (420 : Int) + 6 * ((k + 1 : Nat) : Int) = 420 + 6 * k + 6 by omega]
                  exact ⟨h2, h3⟩
              obtain ⟨hg, hR10⟩ := hx
              rw [hg]
              have HR10 := Lib.hid hR10
              clear hg hR10
              go_wp2_with fail
              go_roundw
              case rel => exact ⟨k + 1, by go_num, hkm2, Lib.hid ⟨⟨_, HR10.out.go rfl⟩, frx_dN (HF.out.trans HF9.out) n10⟩⟩
              case measure => simp [intOf]; omega
          · obtain rfl : k = m := by omega
            clear hk hkm
            go_wp2_with fail
            obtain ⟨wB, hwB⟩ : ∃ wB, wB = wr := ⟨_, rfl⟩
            subst hwB
            go_loopw [16, 17] (fun s16 s17 wr => ∃ (x : Nat) (v : Value), v = s16 ∧ s17 = .int .i64 (x : Int) ∧ k ≤ x ∧ (x ≤ j ∨ x = k) ∧ Hid (wr.ownsRow wB.heap.size 3 1 v (x - k) (intsQ (rowQ k x))) ∧ Hid (Below wB.heap.size wB wr)) (fun _ s17 _ => 70 - (intOf s17).toNat)
            case atStart => exact ⟨k, _, rfl, rfl, Nat.le_refl _, .inr rfl, Lib.hid (by rw [rowQ_nil (Nat.le_refl _), Nat.sub_self]; exact World.ownsRow_nil _ _ _ _), Lib.hid (Below.refl _ _)⟩
            case round =>
              obtain ⟨x, v, rfl, rfl, hkx, hxN, HOW, HBW⟩ := hrel
              have HXN := Lib.hid hxN
              have HKX := Lib.hid hkx
              clear hxN hkx
              by_cases hx : x < j
              · have hxi : (x : Int) < (j : Int) := by omega
                have HXL : Hid ((rowQ k x).length = x - k) := Lib.hid (rowQ_len k x)
                have hx70 : x < 70 := by omega
                have HX := Lib.hid hx
                clear hx
                go_upto_region 31 with fail
                go_wp2_with (at_builtin; refine wpList_append_lies _ rfl (.tmp 119) (.tmp 122) 46 rfl wB.heap.size 3 i0 (.int .i64 0) 1 8 Try.underlying46 HI.out.1 HI.out.2.1 HI.out.2.2.1 HI.out.2.2.2 rfl (by decide) _ _ _ rfl (HOW.out.alloc _) ⟨wr.heap.size, 0, none⟩ 1 1 [.int .i64 (100 + (x : Int))] rfl rfl ?e1 ?e2 (by decide) ?e3 ?e4 ?e5 (wr.heap.size + 1) ?e6 ?_)
                case e1 => exact news_one_add wr _ _ rfl
                case e2 => exact ints_oneCell .i64 [100 + (x : Int)]
                case e3 => unfold maxLen; omega
                case e4 => omega
                case e5 => have := HBW.out.size; simp; omega
                case e6 => simp
                intro g cap w6 hown6 hgrow6 hloc6 hlt6
                have hb6 : Below wB.heap.size wB w6 := (HBW.out.alloc HBW.out.size _).grown hgrow6 (by have := HBW.out.size; simp; omega) (fun g' hg' => (HOW.out.lt g' hg').1)
                have HB6 := Lib.hid hb6
                have HO6 : Hid (w6.ownsRow wB.heap.size 3 1 (.slice (some ⟨g, 0, none⟩) (x - k + 1) cap) (x + 1 - k) (intsQ (rowQ k (x + 1)))) := Lib.hid (by
                  rw [rowQ_snoc HKX.out, show x + 1 - k = x - k + 1 by have := HKX.out; omega]
                  unfold intsQ
                  rw [List.map_append]
                  exact hown6)
                clear hown6 hgrow6 hloc6 hlt6 hb6
                go_wp2_with fail
                go_roundw
                case rel => exact ⟨x + 1, _, rfl, by go_num, by have := HKX.out; omega, .inl HX.out, HO6, HB6⟩
                case measure => simp [intOf]; omega
              · have hxi : ¬ (x : Int) < (j : Int) := by omega
                have HX := Lib.hid hx
                clear hx
                obtain ⟨⟨sF, hRF⟩, hfF⟩ := hL.out
                have hDlt : D < wB.heap.size := hRF.deq.lt
                have HLEFT := Lib.hid (left_any (w := wr) (K := wB.heap.size) (v := v) ((hRF.go (HBW.out.block D hDlt)).more (jb := 1000) (by omega)) (by omega) (by
                  have e : rowQ (min k j) j = rowQ k x := by
                    have h1 := HX.out
                    have h2 := HKX.out
                    rcases HXN.out with h3 | h3
                    · rw [show min k j = k by omega, show x = j by omega]
                    · rw [rowQ_nil (by omega), rowQ_nil (by omega)]
                  rw [e, rowQ_len]
                  exact HOW.out) hDlt)
                have HFF : Hid (FrX (fun y => y = D) w3 wr) := Lib.hid (hfF.trans (.of_below HBW.out))
                clear hRF hfF hDlt
                go_wp2_with fail
                refine HLEFT.out.mono ?_
                rintro e wz ⟨rfl, hfz⟩
                have HZ := Lib.hid hfz
                clear hfz HLEFT
                go_wp2_with fail
                go_ret
                exact ⟨rfl, HB2.out.trans ((HFF.out.trans HZ.out).below HB2.out.size (fun y hy => by have := HWD.out; omega))⟩
end Go.Proofs.Ytacadgocoleaoaa

/- Structs and integers that came in as arguments: what they read as. -/
namespace Go.Proofs.Ytacadgocoleaoaa
open Go.ChangeShapes Go.WideShapes Go.RowKit Go.Deep
set_option linter.unusedVariables false

section
variable {H : Type} {enc : TypeId × Value → H} {P : Program} {w : World} {base : Nat} {spare : Nat → Bool} {held : Bool}

theorem struct_field {t : TypeId} {fs : Array Field} {fuel : Nat} {cs : List Value} {y : DataW H × List MemPlace} (ht : P.underlying t = some (.struct fs)) (h : DataW.trod enc P w base spare held fuel t cs = some y)
    (i : Nat) (f : Field) (hf : fs[i]? = some f) : ∃ n z, DataW.trod enc P w base spare held n f.type ((cs.drop f.offset).take (P.cellsOf f.type)) = some z := by
  obtain ⟨xs, n, _, _, _, hlen, hx⟩ := DataW.trod_struct ht h
  have hi : i < xs.length := by rw [hlen]; exact (Array.getElem?_eq_some_iff.1 hf).1
  exact ⟨n, xs[i], (hx i f hf).trans (List.getElem?_eq_getElem hi)⟩
theorem field_of {t : TypeId} {fs : Array Field} {fuel : Nat} {cs : List Value} {y : DataW H × List MemPlace} (ht : P.underlying t = some (.struct fs)) (h : DataW.trod enc P w base spare held fuel t cs = some y)
    (i : Nat) {f : Field} (hf : fs[i]? = some f) {t' : TypeId} {c k : Nat} (hft : f.type = t') (hk : f.offset = k) (hc : P.cellsOf t' = c) : ∃ n z, DataW.trod enc P w base spare held n t' ((cs.drop k).take c) = some z := by
  subst hft hk hc
  exact struct_field ht h i f hf
theorem drop_take_one {cs : List Value} {k : Nat} (hk : k < cs.length) : (cs.drop k).take 1 = [cs[k]] := by
  rw [List.drop_eq_getElem_cons hk]; rfl
theorem int_field {t : TypeId} {n k : Nat} {cs : List Value} {z : DataW H × List MemPlace} (ht : P.underlying t = some (.int .i64)) (hk : k < cs.length) (h : DataW.trod enc P w base spare held n t ((cs.drop k).take 1) = some z) :
    ∃ x, cs[k]? = some (.int .i64 x) ∧ I64 x := by
  rw [drop_take_one hk] at h
  obtain ⟨x, hx, _, hw⟩ := DataW.trod_int ht h
  exact ⟨x, by rw [List.getElem?_eq_getElem hk]; exact congrArg some (List.cons.inj hx).1, wf_i64 hw⟩
theorem slice_field {α : Type} [Inhabited α] {t e : TypeId} {sz : Nat} {R : World → Nat → Nat → α → Prop} {n k : Nat} {cs : List Value} {z : DataW H × List MemPlace} (ht : P.underlying t = some (.slice e)) (hsz : P.cellsOf e = sz) (hpos : 0 < sz)
    (hR : Opens enc P w base spare held e sz R) (hk : k < cs.length) (h : DataW.trod enc P w base spare held n t ((cs.drop k).take 1) = some z) : ∃ A c xs, cs[k]? = some (.slice A xs.length c) ∧ SL w sz R A c xs := by
  rw [drop_take_one hk] at h
  obtain ⟨xs, A, c, e, hs⟩ := open_vs ht hsz hpos hR h
  exact ⟨A, c, xs, by rw [List.getElem?_eq_getElem hk, e], hs⟩
end

theorem Try.cells3 : Try.prog.cellsOf 3 = 1 := by kernel_rfl
theorem Try.cells2 : Try.prog.cellsOf 2 = 1 := by kernel_rfl
theorem Try.cells46 : Try.prog.cellsOf 46 = 1 := by kernel_rfl

section
variable {H : Type} {enc : TypeId × Value → H} {w : World} {base : Nat} {spare : Nat → Bool} {held : Bool}

theorem opens_int : Opens enc Try.prog w base spare held 3 1 RInt := fun n b o cs y hlen hat h => by
  obtain ⟨x, rfl, _, hw⟩ := DataW.trod_int Try.underlying3 h
  exact ⟨x, (hat 0 (by omega)).trans rfl, wf_i64 hw⟩
theorem field_int {fs : Array Field} {t : TypeId} {fuel : Nat} {cs : List Value} {y : DataW H × List MemPlace} (ht : Try.prog.underlying t = some (.struct fs)) (h : DataW.trod enc Try.prog w base spare held fuel t cs = some y)
    (i : Nat) (f : Field) (hf : fs[i]? = some f) (hft : f.type = 3) (hk : f.offset < cs.length) : ∃ x, cs[f.offset]? = some (.int .i64 x) ∧ I64 x := by
  obtain ⟨n, z, hz⟩ := struct_field ht h i f hf
  rw [hft, Try.cells3] at hz
  exact int_field Try.underlying3 hk hz
theorem field_int64 {fs : Array Field} {t : TypeId} {fuel : Nat} {cs : List Value} {y : DataW H × List MemPlace} (ht : Try.prog.underlying t = some (.struct fs)) (h : DataW.trod enc Try.prog w base spare held fuel t cs = some y)
    (i : Nat) (f : Field) (hf : fs[i]? = some f) (hft : f.type = 2) (hk : f.offset < cs.length) : ∃ x, cs[f.offset]? = some (.int .i64 x) ∧ I64 x := by
  obtain ⟨n, z, hz⟩ := struct_field ht h i f hf
  rw [hft, Try.cells2] at hz
  exact int_field Try.underlying2 hk hz
theorem field_ints {fs : Array Field} {t : TypeId} {fuel : Nat} {cs : List Value} {y : DataW H × List MemPlace} (ht : Try.prog.underlying t = some (.struct fs)) (h : DataW.trod enc Try.prog w base spare held fuel t cs = some y)
    (i : Nat) (f : Field) (hf : fs[i]? = some f) (hft : f.type = 46) (hk : f.offset < cs.length) : ∃ A c, ∃ xs : List Int, cs[f.offset]? = some (.slice A xs.length c) ∧ SL w 1 RInt A c xs := by
  obtain ⟨n, z, hz⟩ := struct_field ht h i f hf
  rw [hft, Try.cells46] at hz
  exact slice_field Try.underlying46 Try.cells3 (by omega) opens_int hk hz
end
end Go.Proofs.Ytacadgocoleaoaa
