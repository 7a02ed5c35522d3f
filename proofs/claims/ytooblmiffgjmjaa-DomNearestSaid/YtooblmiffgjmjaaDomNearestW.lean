/- The walk of DomNearest. -/
import Derived.Test.YtooblmiffgjmjaaDmY
import Derived.Test.YtooblmiffgjmjaaDmZ
namespace Go.Proofs.Ytooblmiffgjmjaa
open Go.ChangeShapes Go.WideShapes Go.RowKit Go.Deep
set_option linter.unusedVariables false

set_option maxRecDepth 100000 in
set_option maxHeartbeats 16000000 in
theorem domNearest_walk (f : FunD) (v : Value) (w : World) (hv : VFun w v f) :
    Calls Try.prog 4 #[v] w fun e w' => e = .returned (.bool true) ∧ Below w.heap.size w w' := by
  have hv0 := hv
  obtain ⟨i0, hi, hz0, hz1, hz2⟩ := info_parts Try.info3
  have HI := Lib.hid (And.intro hi (And.intro hz0 (And.intro hz1 hz2)))
  clear hi hz0 hz1 hz2
  obtain ⟨Ar, cr, A, c, rfl, -, -, -, -⟩ := hv
  have HV := Lib.hid hv0
  clear hv0
  go_enter Try.func4, Try.ntmps4
  go_wp2_with fail
  obtain ⟨w1, hw1, hs1, hk1, hbel1, hc1, -⟩ := named w #[.int .i64 f.params, .int .i64 f.result, .slice Ar f.regs.length cr, .slice A f.blocks.length c] 25
  rw [← hw1]
  refine (up6_any w1).mono ?_
  rintro e w2 ⟨rfl, hb2⟩
  have hk2 := kept_of_below hb2
  have c0 := hk2 _ _ (hc1 0 _ rfl)
  have c1 := hk2 _ _ (hc1 1 _ rfl)
  have c2 := hk2 _ _ (hc1 2 _ rfl)
  have c3 := hk2 _ _ (hc1 3 _ rfl)
  have HB2 : Hid (Below w.heap.size w w2) := Lib.hid (hbel1.trans (hb2.mono (by omega)))
  obtain ⟨N, hN⟩ : ∃ N, N = w.heap.size := ⟨_, rfl⟩
  rw [← hN] at c0 c1 c2 c3 ⊢
  clear hw1 hs1 hbel1 hc1 hb2 hk1 hk2 hN
  go_wp2_with fail
  refine (small6_any f _ w2 (VFun.keep (kept_of_below HB2.out) HV.out)).mono ?_
  rintro e w3 ⟨⟨bs, rfl, hsm⟩, hb3⟩
  have hk3 := kept_of_below hb3
  have c0 := hk3 _ _ c0
  have c1 := hk3 _ _ c1
  have c2 := hk3 _ _ c2
  have c3 := hk3 _ _ c3
  have HB3 : Hid (Below w.heap.size w w3) := Lib.hid (HB2.out.trans (hb3.mono HB2.out.size))
  cases bs
  · clear hb3 hk3 hsm
    go_wp2_with fail
    go_ret
    exact ⟨rfl, HB3.out⟩
  · have hn : f.blocks.length ≤ 70 := (hsm rfl).1
    clear hb3 hk3 hsm
    go_wp2_with fail
    refine (nearest_any f _ w3 (VFun.keep (kept_of_below HB3.out) HV.out) (by omega)).mono ?_
    rintro e w4 ⟨⟨H, rfl, hH, hnr, ord, hNB⟩, hb4⟩
    have hk4 := kept_of_below hb4
    have c0 := hk4 _ _ c0
    have c1 := hk4 _ _ c1
    have c2 := hk4 _ _ c2
    have c3 := hk4 _ _ c3
    have HB4 : Hid (Below w.heap.size w w4) := Lib.hid (HB3.out.trans (hb4.mono HB3.out.size))
    have HNR := Lib.hid hnr
    have HNB := Lib.hid hNB
    clear hb4 hk4 hH hnr hNB
    go_wp2_with fail
    refine (dominates_any f _ w4 (VFun.keep (kept_of_below HB4.out) HV.out) (by omega)).mono ?_
    rintro e w5 ⟨⟨G, D0, rfl, hG, hg, -⟩, hb5⟩
    have hk5 := kept_of_below hb5
    have c0 := hk5 _ _ c0
    have c1 := hk5 _ _ c1
    have c2 := hk5 _ _ c2
    have c3 := hk5 _ _ c3
    have HB5 : Hid (Below w.heap.size w w5) := Lib.hid (HB4.out.trans (hb5.mono HB4.out.size))
    have HNR5 := Lib.hid (HNR.out.of_block (hb5.block H HNR.out.lt))
    have HG5 := Lib.hid hg
    clear hb5 hk5 hG hg HNR
    go_wp2_with fail
    refine (under_any f _ w5 (VFun.keep (kept_of_below HB5.out) HV.out) (by omega)).mono ?_
    rintro e w6 ⟨⟨U, KU, VU, rfl, hU, hKU, hu⟩, hb6⟩
    have hk6 := kept_of_below hb6
    have c0 := hk6 _ _ c0
    have c1 := hk6 _ _ c1
    have c2 := hk6 _ _ c2
    have c3 := hk6 _ _ c3
    have HB6 : Hid (Below w.heap.size w w6) := Lib.hid (HB5.out.trans (hb6.mono HB5.out.size))
    have HNR6 := Lib.hid (HNR5.out.of_block (hb6.block H HNR5.out.lt))
    have HG6 := Lib.hid (HG5.out.below hb6)
    have HU6 := Lib.hid hu
    clear hb6 hk6 hU hKU hu HNR5 HG5
    go_wp2_with fail
    refine (refNear_any f _ w6 (VFun.keep (kept_of_below HB6.out) HV.out) (by omega)).mono ?_
    rintro e w7 ⟨⟨vr, rfl, hvr⟩, hb7⟩
    obtain ⟨Av, cv, rfl, hsr⟩ := vs_of_own hvr (fun y hy => by
      obtain ⟨b, hb, rfl⟩ := List.mem_map.1 hy
      have h1 := HNB.out.near_lt (List.mem_range.1 hb)
      unfold I64; omega)
    have hk7 := kept_of_below hb7
    have c0 := hk7 _ _ c0
    have c1 := hk7 _ _ c1
    have c2 := hk7 _ _ c2
    have c3 := hk7 _ _ c3
    have HB7 : Hid (Below w.heap.size w w7) := Lib.hid (HB6.out.trans (hb7.mono HB6.out.size))
    have HNR7 := Lib.hid (HNR6.out.of_block (hb7.block H HNR6.out.lt))
    have HG7 := Lib.hid (HG6.out.below hb7)
    have HU7 := Lib.hid (HU6.out.below hb7)
    have HSR := Lib.hid hsr
    rw [List.length_map, List.length_range]
    clear hb7 hk7 hvr HNR6 HG6 HU6 hsr
    go_wp2_with fail
    refine (refDom_any f _ w7 (VFun.keep (kept_of_below HB7.out) HV.out) (by omega)).mono ?_
    rintro e w8 ⟨⟨vd, D, rfl, ht⟩, hb8⟩
    obtain ⟨Ad, cd, rfl⟩ := own_slice ht.own
    have HB8 : Hid (Below w.heap.size w w8) := Lib.hid (HB7.out.trans (hb8.mono HB7.out.size))
    have HNR8 := Lib.hid (HNR7.out.of_block (hb8.block H HNR7.out.lt))
    have HG8 := Lib.hid (HG7.out.below hb8)
    have HU8 := Lib.hid (HU7.out.below hb8)
    have HSR8 := Lib.hid (SInts.keep (kept_of_below hb8) HSR.out)
    have HT8 := Lib.hid ht
    clear hb8 ht HNR7 HG7 HU7 HSR c0 c1 c2 c3
    go_wp2_with fail
    have hvh : VS w8 1 RInt (.slice (some ⟨H, 0, none⟩) f.blocks.length f.blocks.length) ((List.range f.blocks.length).map (nearD f.blocks)) := ⟨_, _, by rw [List.length_map, List.length_range], by
      have h1 := sl_of_row HNR8.out (by omega) (fun b hb => by have := HNB.out.near_lt hb; unfold I64; omega)
      exact h1⟩
    have hvr : VS w8 1 RInt (.slice Av f.blocks.length cv) ((List.range f.blocks.length).map (nearD f.blocks)) := ⟨_, _, by rw [List.length_map, List.length_range], HSR8.out⟩
    refine (sameInts_any _ _ _ _ w8 hvh hvr).mono ?_
    rintro e w9 ⟨rfl, q, rfl⟩
    rw [decide_eq_true (rfl : (List.range f.blocks.length).map (nearD f.blocks) = _)]
    clear hvh hvr
    have HB9 : Hid (Below w8.heap.size w8 (w8.drewN q)) := Lib.hid (below_drewN (Below.refl _ _) q)
    generalize w8.drewN q = w9 at *
    go_wp2_with fail
    go_loopw [10] (fun s10 wq => ∃ a : Nat, a ≤ f.blocks.length ∧ s10 = .int .i64 (a : Int) ∧ Below w8.heap.size w8 wq) (fun s10 _ => f.blocks.length - (intOf s10).toNat)
    case atStart => exact ⟨0, Nat.zero_le _, rfl, HB9.out⟩
    case round =>
      obtain ⟨a, ha, rfl, hb⟩ := hrel
      have HB := Lib.hid hb
      obtain ⟨wo, rfl⟩ : ∃ wo, wo = wr := ⟨wr, rfl⟩
      by_cases hal : a < f.blocks.length
      · have hT := HT8.out
        obtain ⟨g, cg, hg, -⟩ := hT.at_ hal
        obtain ⟨rfl, rfl⟩ : Ad = some ⟨g, 0, none⟩ ∧ cd = cg := by cases hg; exact ⟨rfl, rfl⟩
        have HTC : Hid (∀ W : World, Below w8.heap.size w8 W → ∀ a, a < f.blocks.length → W.cell? ⟨g, a, none⟩ = some (.slice (some ⟨D a, 0, none⟩) f.blocks.length f.blocks.length) ∧ ∀ x, x < f.blocks.length → W.cell? ⟨D a, x, none⟩ = some (.bool (dmB f.blocks a x))) := Lib.hid (fun W hW a ha => by
          have h2 := hT.below hW
          obtain ⟨g', cg', hg', hc'⟩ := h2.at_ ha
          obtain rfl : g = g' := by cases hg'; rfl
          exact ⟨hc', fun x hx => (h2.cells a ha).cell hx⟩)
        have xd := (HG8.out.below hb).row.cell hal
        have ha0 : (0 : Int) ≤ a := by omega
        have ha1 : (a : Int) < f.blocks.length := by omega
        clear hb hT hg
        go_wp2_with fail
        clear xd
        go_loopw [11, 12] (fun s11 s12 wq => ∃ (b : Nat) (v : Value), b ≤ f.blocks.length ∧ v = s11 ∧ s12 = .int .i64 (b : Int) ∧ wq.ownsRow w8.heap.size 3 1 v (zs (unL f.blocks b a)).length ((zs (unL f.blocks b a)).map (Value.int .i64)) ∧ Below w8.heap.size w8 wq) (fun s11 s12 _ => f.blocks.length - (intOf s12).toNat)
        case atStart => exact ⟨0, _, Nat.zero_le _, rfl, rfl, World.ownsRow_nil _ _ _ _, HB.out⟩
        case round =>
          obtain ⟨b, v, hbn, rfl, rfl, ho, hb⟩ := hrel
          have HO := Lib.hid ho
          have HBB := Lib.hid hb
          by_cases hbl : b < f.blocks.length
          · have xd := (HG8.out.below hb).row.cell hal
            have xdb := ((HG8.out.below hb).cells a hal).cell hbl
            have xo := (HTC.out wr hb a hal).1
            have xob := (HTC.out wr hb a hal).2 b hbl
            have hb0 : (0 : Int) ≤ b := by omega
            have hb1 : (b : Int) < f.blocks.length := by omega
            have hun : (zs (unL f.blocks b a)).length ≤ 100 := by rw [zs_len]; have := unL_len f.blocks b a; omega
            clear ho hb
            go_upto_region 21 with fail
            generalize dmB f.blocks a b = x1 at *
            cases x1
            all_goals (
              go_quiet (fail)
              have HBQ : Hid (Below w8.heap.size w8 (wr.drewN nq)) := Lib.hid (below_drewN HBB.out nq)
              have HOQ : Hid ((wr.drewN nq).ownsRow w8.heap.size 3 1 v (zs (unL f.blocks b a)).length ((zs (unL f.blocks b a)).map (Value.int .i64))) := Lib.hid (ownsRow_block HO.out (fun _ _ => rfl))
              clear xd xdb xo xob
              generalize wr.drewN nq = wz at *
              obtain ⟨bn, on, y, rfl, hy, hyc, -⟩ := (SInts.keep (kept_of_below HBQ.out) HSR8.out).int (k := b) (by rw [List.length_map, List.length_range]; exact hbl)
              obtain rfl : y = nearD f.blocks b := (map_range_at _ hy.out).1
              by_cases hne : nearD f.blocks b = (a : Int)
              · have hE : (nearD f.blocks b == (a : Int)) = true := by rw [beq_iff_eq]; exact hne
                have HUN := Lib.hid (unL_succ f.blocks b a)
                rw [if_pos hne] at HUN
                have hz := HBQ.out.size
                clear hne hy
                go_wp2_with (at_builtin; refine wpList_append_lies _ rfl (.tmp 88) (.tmp 90) 22 rfl w8.heap.size 3 i0 (.int .i64 0) 1 8 Try.underlying22 HI.out.1 HI.out.2.1 HI.out.2.2.1 HI.out.2.2.2 rfl (by decide) v _ _ rfl (HOQ.out.alloc _) ⟨wz.heap.size, 0, none⟩ 1 1 [.int .i64 (b : Int)] rfl rfl ?e1 ?e2 ?e0 ?e3 ?e4 ?e5 (wz.heap.size + 1) ?e6 ?_)
                case e1 => exact news_one_add wz _ _ rfl
                case e2 => exact ints_oneCell .i64 [(b : Int)]
                case e0 => omega
                case e3 => unfold maxLen; omega
                case e4 => omega
                case e5 => simp; omega
                case e6 => simp
                intro g7 cap w7 hown7 hgrow7 hloc7 hlt7
                have HGR : Hid (GroD wz w7 v (.slice (some ⟨g7, 0, none⟩) ((zs (unL f.blocks b a)).length + 1) cap)) := Lib.hid (groD_append (w := wz) hgrow7 (by simpa using hloc7))
                have HB7 : Hid (Below w8.heap.size w8 w7) := Lib.hid (HBQ.out.trans ((HGR.out.fr (X := fun y => v.ownBlock = some y) (FrX.refl _ _) (fun g hg => .inl hg)).below HBQ.out.size (fun k hk => (HOQ.out.lt k hk).1)))
                have HO7 : Hid (w7.ownsRow w8.heap.size 3 1 (.slice (some ⟨g7, 0, none⟩) ((zs (unL f.blocks b a)).length + 1) cap) (zs (unL f.blocks (b + 1) a)).length ((zs (unL f.blocks (b + 1) a)).map (Value.int .i64))) := Lib.hid (by rw [HUN.out, zs_snoc, List.length_append, List.map_append]; exact hown7)
                clear hown7 hgrow7 hloc7 hlt7
                go_wp2_with fail
                go_roundw
                case rel => exact ⟨b + 1, _, by omega, rfl, by go_num, HO7.out, HB7.out⟩
                case measure => simp [intOf]; omega
              · have hE : (nearD f.blocks b == (a : Int)) = false := by rw [beq_eq_false_iff_ne]; exact hne
                have HUN := Lib.hid (unL_succ f.blocks b a)
                rw [if_neg hne, List.append_nil] at HUN
                clear hne hy
                go_wp2_with fail
                go_roundw
                case rel => exact ⟨b + 1, v, by omega, rfl, by go_num, by rw [HUN.out]; exact HOQ.out, HBQ.out⟩
                case measure => simp [intOf]; omega)
          · have hbb : b = f.blocks.length := by omega
            subst hbb
            have hu := HU8.out.below hb
            have xu := hu.row.cell hal
            have HVU : Hid (VS wr 1 RInt (VU a) (zs (unL f.blocks f.blocks.length a))) := Lib.hid (vs_of_own (hu.own a hal) (fun y hy => by obtain ⟨t, ht, rfl⟩ := zs_mem hy; have := unL_lt ht; unfold I64; omega))
            have HVW : Hid (VS wr 1 RInt v (zs (unL f.blocks f.blocks.length a))) := Lib.hid (vs_of_own ho (fun y hy => by obtain ⟨t, ht, rfl⟩ := zs_mem hy; have := unL_lt ht; unfold I64; omega))
            clear ho hb hu
            go_wp2_with fail
            refine (sameInts_any _ _ _ _ wr HVU.out HVW.out).mono ?_
            rintro e w10 ⟨rfl, q2, rfl⟩
            rw [decide_eq_true (rfl : zs (unL f.blocks f.blocks.length a) = _)]
            have HB10 : Hid (Below w8.heap.size w8 (wr.drewN q2)) := Lib.hid (below_drewN HBB.out q2)
            clear xu
            go_wp2_with fail
            go_roundw
            case rel => exact ⟨a + 1, by omega, by go_num, HB10.out⟩
            case measure => simp [intOf]; omega
      · have HBF : Hid (Below w.heap.size w wo) := Lib.hid (HB8.out.trans (hb.mono HB8.out.size))
        clear hb
        go_wp2_with fail
        go_ret
        exact ⟨rfl, HBF.out⟩
end Go.Proofs.Ytooblmiffgjmjaa
