/- The walk of DomFrontiers. -/
import Derived.Test.YtooblmiffgjmjaaDmY
import Derived.Test.YtooblmiffgjmjaaDmZ
import Derived.Deep.RegionHeld3
namespace Go.Proofs.Ytooblmiffgjmjaa
open Go.ChangeShapes Go.WideShapes Go.RowKit Go.Deep
set_option linter.unusedVariables false

def ToldRF (bs : List BlkD) (a : Nat) (w : World) (e : Ending) (w' : World) : Prop :=
  (∃ v, e = .returned v ∧ w'.ownsRow w.heap.size 3 1 v (zs (rfL bs bs.length a)).length ((zs (rfL bs bs.length a)).map (Value.int .i64))) ∧ Below w.heap.size w w'
theorem tosOf_get {bs : List BlkD} {c : Nat} (h : c < bs.length) : ∃ x, bs[c]? = some x ∧ tosOf bs c = x.term.to := ⟨_, List.getElem?_eq_getElem h, tosOf_at (List.getElem?_eq_getElem h)⟩

set_option maxRecDepth 100000 in
set_option maxHeartbeats 8000000 in
theorem refFront_any (f : FunD) (a : Nat) (v vd : Value) (K : Nat) (D : Nat → Nat) (w : World) (hv : VFun w v f) (ht : TRow w K f.blocks.length f.blocks.length vd D (dmB f.blocks)) (hn : f.blocks.length ≤ 1000) (hal : a < f.blocks.length) : Calls Try.prog 23 #[v, vd, .int .i64 a] w (ToldRF f.blocks a w) := by
  have hv0 := hv
  obtain ⟨i0, hi, hz0, hz1, hz2⟩ := info_parts Try.info3
  have HI := Lib.hid (And.intro hi (And.intro hz0 (And.intro hz1 hz2)))
  clear hi hz0 hz1 hz2
  obtain ⟨Ar, cr, A, c, rfl, -, -, -, -⟩ := hv
  obtain ⟨g, cg, rfl, -⟩ := ht.at_ hal
  have HTC : Hid (∀ W : World, Below w.heap.size w W → ∀ a, a < f.blocks.length → W.cell? ⟨g, a, none⟩ = some (.slice (some ⟨D a, 0, none⟩) f.blocks.length f.blocks.length) ∧ ∀ x, x < f.blocks.length → W.cell? ⟨D a, x, none⟩ = some (.bool (dmB f.blocks a x))) := Lib.hid (fun W hW a ha => by
    have h2 := ht.below hW
    obtain ⟨g', cg', hg', hc'⟩ := h2.at_ ha
    obtain rfl : g = g' := by cases hg'; rfl
    exact ⟨hc', fun x hx => (h2.cells a ha).cell hx⟩)
  have HV := Lib.hid hv0
  have ha0 : (0 : Int) ≤ a := by omega
  have ha1 : (a : Int) < f.blocks.length := by omega
  clear ht hv0
  go_enter Try.func23, Try.ntmps23
  go_upto_region 1 with fail
  obtain ⟨w1, hw1, hs1, hk1, hbel1, hc1, -⟩ := named w #[.int .i64 f.params, .int .i64 f.result, .slice Ar f.regs.length cr, .slice A f.blocks.length c] 25
  rw [← hw1]
  have c0 : w1.cell? ⟨w.heap.size, 0, none⟩ = some (.int .i64 f.params) := hc1 0 _ rfl
  have c1 : w1.cell? ⟨w.heap.size, 1, none⟩ = some (.int .i64 f.result) := hc1 1 _ rfl
  have c2 : w1.cell? ⟨w.heap.size, 2, none⟩ = some (.slice Ar f.regs.length cr) := hc1 2 _ rfl
  have c3 : w1.cell? ⟨w.heap.size, 3, none⟩ = some (.slice A f.blocks.length c) := hc1 3 _ rfl
  have HC := Lib.hid (And.intro c0 (And.intro c1 (And.intro c2 c3)))
  have HB1 := Lib.hid hbel1
  have HS1 := Lib.hid hs1
  obtain ⟨N, hN⟩ : ∃ N, N = w.heap.size := ⟨_, rfl⟩
  have HNN := Lib.hid hN
  rw [← hN] at c0 c1 c2 c3 ⊢
  clear hw1 hs1 hbel1 hc1 hk1 hN c0 c1 c2 c3
  go_wp2_with fail
  go_loopw [7, 8] (fun s7 s8 wq => ∃ (b : Nat) (v : Value), b ≤ f.blocks.length ∧ v = s7 ∧ s8 = .int .i64 (b : Int) ∧ wq.ownsRow w1.heap.size 3 1 v (zs (rfL f.blocks b a)).length ((zs (rfL f.blocks b a)).map (Value.int .i64)) ∧ Below w1.heap.size w1 wq) (fun s7 s8 _ => f.blocks.length - (intOf s8).toNat)
  case atStart => exact ⟨0, _, Nat.zero_le _, rfl, rfl, World.ownsRow_nil _ _ _ _, Below.refl _ _⟩
  case round =>
    obtain ⟨b, v, hbn, rfl, rfl, ho, hb⟩ := hrel
    have HO := Lib.hid ho
    have HB := Lib.hid hb
    obtain ⟨wo, rfl⟩ : ∃ wo, wo = wr := ⟨wr, rfl⟩
    by_cases hbl : b < f.blocks.length
    · have hb0 : (0 : Int) ≤ b := by omega
      have hb1 : (b : Int) < f.blocks.length := by omega
      clear ho hb
      go_wp2_with fail
      go_loopw [9, 10] (fun s9 s10 wq => ∃ c : Nat, c ≤ f.blocks.length ∧ s9 = .bool (ledR f.blocks a b c) ∧ s10 = .int .i64 (c : Int) ∧ Below wo.heap.size wo wq) (fun s9 s10 _ => f.blocks.length - (intOf s10).toNat)
      case atStart => exact ⟨0, Nat.zero_le _, rfl, rfl, Below.refl _ _⟩
      case round =>
        obtain ⟨k, hkn, rfl, rfl, hb⟩ := hrel
        have HBK := Lib.hid hb
        have hb1k : Below w1.heap.size w1 wr := HB.out.trans (hb.mono HB.out.size)
        have hbk : Below w.heap.size w wr := HB1.out.trans (hb1k.mono (by have := HS1.out; omega))
        have HBW := Lib.hid hbk
        by_cases hkl : k < f.blocks.length
        · have HLS := Lib.hid (ledR_succ (bs := f.blocks) a b k)
          have hk0 : (0 : Int) ≤ k := by omega
          have hk1 : (k : Int) < f.blocks.length := by omega
          cases hx : ledR f.blocks a b k
          · rw [hx] at HLS
            have xa := (HTC.out wr hbk a hal).1
            have xk := (HTC.out wr hbk a hal).2 k hkl
            cases hd : dmB f.blocks a k
            · rw [hd] at HLS xk
              have HL2 : Hid (ledR f.blocks a b (k + 1) = false) := Lib.hid (by rw [HLS.out]; rfl)
              clear hb hx hd hbk hb1k
              go_wp2_with fail
              go_roundw
              case rel => exact ⟨k + 1, by omega, by rw [HL2.out], by go_num, HBK.out⟩
              case measure => simp [intOf]; omega
            · rw [hd] at HLS xk
              obtain ⟨kb, hkb, hto⟩ := tosOf_get hkl
              have HL2 : Hid (ledR f.blocks a b (k + 1) = hasTo b kb.term.to) := Lib.hid (by rw [HLS.out, hto]; simp)
              have hkc : ∀ q, wr.cell? ⟨N, q, none⟩ = w1.cell? ⟨N, q, none⟩ := fun q => hb1k.cell (p := ⟨N, q, none⟩) (by have := HS1.out; have := HNN.out; show N < _; omega)
              have c0 : wr.cell? ⟨N, 0, none⟩ = some (.int .i64 f.params) := (hkc 0).trans (by rw [HNN.out]; exact HC.out.1)
              have c1 : wr.cell? ⟨N, 1, none⟩ = some (.int .i64 f.result) := (hkc 1).trans (by rw [HNN.out]; exact HC.out.2.1)
              have c2 : wr.cell? ⟨N, 2, none⟩ = some (.slice Ar f.regs.length cr) := (hkc 2).trans (by rw [HNN.out]; exact HC.out.2.2.1)
              have c3 : wr.cell? ⟨N, 3, none⟩ = some (.slice A f.blocks.length c) := (hkc 3).trans (by rw [HNN.out]; exact HC.out.2.2.2)
              have HX := Lib.hid (leads_any f k kb (b : Int) _ wr (VFun.keep (kept_of_below hbk) HV.out) hkb)
              clear hb hx hd hbk hb1k hkc hkb hto
              go_wp2_with fail
              refine HX.out.mono ?_
              rintro e w2 ⟨rfl, hb2⟩
              have HB2 : Hid (Below wo.heap.size wo w2) := Lib.hid (HBK.out.trans (hb2.mono HBK.out.size))
              clear hb2 HX c0 c1 c2 c3 xa xk
              go_wp2_with fail
              go_roundw
              case rel => exact ⟨k + 1, by omega, by rw [HL2.out], by go_num, HB2.out⟩
              case measure => simp [intOf]; omega
          · rw [hx] at HLS
            have HL2 : Hid (ledR f.blocks a b (k + 1) = true) := Lib.hid (by rw [HLS.out]; rfl)
            clear hb hx hbk hb1k
            go_wp2_with fail
            go_roundw
            case rel => exact ⟨k + 1, by omega, by rw [HL2.out], by go_num, HBK.out⟩
            case measure => simp [intOf]; omega
        · have hkk : k = f.blocks.length := by omega
          subst hkk
          have xa := (HTC.out wr hbk a hal).1
          have xb := (HTC.out wr hbk a hal).2 b hbl
          have HO2 := Lib.hid (ownsRow_block HO.out (fun x hx => hb.block x (HO.out.lt x hx).2))
          have HB2 : Hid (Below w1.heap.size w1 wr) := Lib.hid hb1k
          have hz := hb1k.size
          have hE : (((a : Nat) : Int) == ((b : Nat) : Int)) = decide (a = b) := by rw [Bool.eq_iff_iff, beq_iff_eq, decide_eq_true_iff]; omega
          have HRF : Hid (rfB f.blocks a b = (ledR f.blocks a b f.blocks.length && (decide (a = b) || !dmB f.blocks a b))) := Lib.hid rfl
          have HRL := Lib.hid (rfL_succ (bs := f.blocks) b a)
          have hll : (zs (rfL f.blocks b a)).length ≤ 2000 := by rw [zs_len]; have := rfL_len (bs := f.blocks) b a; omega
          clear hb hb1k hbk
          generalize ledR f.blocks a b f.blocks.length = y1 at *
          generalize decide (a = b) = y2 at *
          generalize dmB f.blocks a b = y3 at *
          generalize rfB f.blocks a b = y0 at *
          cases y1 <;> cases y2 <;> cases y3
          all_goals (
            first
            | (obtain rfl : y0 = false := HRF.out
               have HRN : Hid (rfL f.blocks (b + 1) a = rfL f.blocks b a) := Lib.hid (by rw [HRL.out]; simp)
               clear HRF HRL
               go_wp2_with fail
               go_roundw
               case rel => exact ⟨b + 1, v, by omega, rfl, by go_num, by rw [HRN.out]; exact HO2.out, HB2.out⟩
               case measure => simp [intOf]; omega)
            | (obtain rfl : y0 = true := HRF.out
               have HRN : Hid (rfL f.blocks (b + 1) a = rfL f.blocks b a ++ [b]) := Lib.hid (by rw [HRL.out]; simp)
               clear HRF HRL
               go_wp2_with (at_builtin; refine wpList_append_lies _ rfl (.tmp 55) (.tmp 57) 22 rfl w1.heap.size 3 i0 (.int .i64 0) 1 8 Try.underlying22 HI.out.1 HI.out.2.1 HI.out.2.2.1 HI.out.2.2.2 rfl (by decide) v _ _ rfl (HO2.out.alloc _) ⟨wr.heap.size, 0, none⟩ 1 1 [.int .i64 (b : Int)] rfl rfl ?e1 ?e2 ?e0 ?e3 ?e4 ?e5 (wr.heap.size + 1) ?e6 ?_)
               case e1 => exact news_one_add wr _ _ rfl
               case e2 => exact ints_oneCell .i64 [(b : Int)]
               case e0 => omega
               case e3 => unfold maxLen; omega
               case e4 => omega
               case e5 => simp; omega
               case e6 => simp
               intro g7 cap w7 hown7 hgrow7 hloc7 hlt7
               have HGR : Hid (GroD wr w7 v (.slice (some ⟨g7, 0, none⟩) ((zs (rfL f.blocks b a)).length + 1) cap)) := Lib.hid (groD_append (w := wr) hgrow7 (by simpa using hloc7))
               have HB7 : Hid (Below w1.heap.size w1 w7) := Lib.hid (HB2.out.trans ((HGR.out.fr (X := fun y => v.ownBlock = some y) (FrX.refl _ _) (fun g hg => .inl hg)).below HB2.out.size (fun k hk => (HO2.out.lt k hk).1)))
               have HO7 : Hid (w7.ownsRow w1.heap.size 3 1 (.slice (some ⟨g7, 0, none⟩) ((zs (rfL f.blocks b a)).length + 1) cap) (zs (rfL f.blocks (b + 1) a)).length ((zs (rfL f.blocks (b + 1) a)).map (Value.int .i64))) := Lib.hid (by rw [HRN.out, zs_snoc, List.length_append, List.map_append]; exact hown7)
               clear hown7 hgrow7 hloc7 hlt7
               go_wp2_with fail
               go_roundw
               case rel => exact ⟨b + 1, _, by omega, rfl, by go_num, HO7.out, HB7.out⟩
               case measure => simp [intOf]; omega))
    · have hbb : b = f.blocks.length := by omega
      subst hbb
      have HBF : Hid (Below w.heap.size w wo) := Lib.hid (HB1.out.trans (hb.mono (by have := HS1.out; omega)))
      clear ho hb
      go_wp2_with fail
      go_ret
      exact ⟨⟨_, rfl, owns_mono HO.out (by have := HS1.out; omega)⟩, HBF.out⟩

set_option maxRecDepth 100000 in
set_option maxHeartbeats 16000000 in
theorem domFrontiers_walk (f : FunD) (v : Value) (w : World) (hv : VFun w v f) :
    Calls Try.prog 5 #[v] w fun e w' => e = .returned (.bool true) ∧ Below w.heap.size w w' := by
  have hv0 := hv
  obtain ⟨Ar, cr, A, c, rfl, -, -, -, -⟩ := hv
  have HV := Lib.hid hv0
  clear hv0
  go_enter Try.func5, Try.ntmps5
  go_wp2_with fail
  obtain ⟨w1, hw1, hs1, hk1, hbel1, hc1, -⟩ := named w #[.int .i64 f.params, .int .i64 f.result, .slice Ar f.regs.length cr, .slice A f.blocks.length c] 25
  rw [← hw1]
  refine (up6_any w1).mono ?_
  rintro e w2 ⟨rfl, hb2⟩
  have hk2 := kept_of_below hb2
  have c0 := hk2 _ _ (hc1 0 _ rfl)
  have c1 := hk2 _ _ (hc1 1 _ rfl)
  have c2 := hk2 _ _ (hc1 2 _ rfl)
  have c3 := hk2 _ _ (hc1 3 _ rfl)
  have HB2 : Hid (Below w.heap.size w w2) := Lib.hid (hbel1.trans (hb2.mono (by omega)))
  obtain ⟨N, hN⟩ : ∃ N, N = w.heap.size := ⟨_, rfl⟩
  rw [← hN] at c0 c1 c2 c3 ⊢
  clear hw1 hs1 hbel1 hc1 hb2 hk1 hk2 hN
  go_wp2_with fail
  refine (small6_any f _ w2 (VFun.keep (kept_of_below HB2.out) HV.out)).mono ?_
  rintro e w3 ⟨⟨bs, rfl, hsm⟩, hb3⟩
  have hk3 := kept_of_below hb3
  have c0 := hk3 _ _ c0
  have c1 := hk3 _ _ c1
  have c2 := hk3 _ _ c2
  have c3 := hk3 _ _ c3
  have HB3 : Hid (Below w.heap.size w w3) := Lib.hid (HB2.out.trans (hb3.mono HB2.out.size))
  cases bs
  · clear hb3 hk3 hsm
    go_wp2_with fail
    go_ret
    exact ⟨rfl, HB3.out⟩
  · have hn : f.blocks.length ≤ 70 := (hsm rfl).1
    clear hb3 hk3 hsm
    go_wp2_with fail
    refine (frontier_any f _ w3 (VFun.keep (kept_of_below HB3.out) HV.out) (by omega)).mono ?_
    rintro e w4 ⟨⟨G, K, V, rfl, hG, hK, hg, ord, hNB⟩, hb4⟩
    have hk4 := kept_of_below hb4
    have c0 := hk4 _ _ c0
    have c1 := hk4 _ _ c1
    have c2 := hk4 _ _ c2
    have c3 := hk4 _ _ c3
    have HB4 : Hid (Below w.heap.size w w4) := Lib.hid (HB3.out.trans (hb4.mono HB3.out.size))
    have HG := Lib.hid hg
    have HNB := Lib.hid hNB
    clear hb4 hk4 hG hK hg hNB
    go_wp2_with fail
    refine (refDom_any f _ w4 (VFun.keep (kept_of_below HB4.out) HV.out) (by omega)).mono ?_
    rintro e w8 ⟨⟨vd, D, rfl, ht⟩, hb8⟩
    have hk8 := kept_of_below hb8
    have c0 := hk8 _ _ c0
    have c1 := hk8 _ _ c1
    have c2 := hk8 _ _ c2
    have c3 := hk8 _ _ c3
    have HB8 : Hid (Below w.heap.size w w8) := Lib.hid (HB4.out.trans (hb8.mono HB4.out.size))
    have HG8 := Lib.hid (HG.out.below hb8)
    obtain ⟨Ad, cd, rfl⟩ := own_slice ht.own
    have HT8 := Lib.hid ht
    clear hb8 hk8 ht HG
    go_wp2_with fail
    go_loopw [7] (fun s7 wq => ∃ a : Nat, a ≤ f.blocks.length ∧ s7 = .int .i64 (a : Int) ∧ Below w8.heap.size w8 wq) (fun s7 _ => f.blocks.length - (intOf s7).toNat)
    case atStart => exact ⟨0, Nat.zero_le _, rfl, Below.refl _ _⟩
    case round =>
      obtain ⟨a, ha, rfl, hb⟩ := hrel
      have HBR9 := Lib.hid hb
      have HBR : Hid (Below w.heap.size w wr) := Lib.hid (HB8.out.trans (hb.mono HB8.out.size))
      by_cases hal : a < f.blocks.length
      · have hu := HG8.out.below hb
        have xu := hu.row.cell hal
        obtain ⟨Av, cv, hva, hvs⟩ := vs_of_own (hu.own a hal) (fun y hy => by obtain ⟨t, ht, rfl⟩ := zs_mem hy; have : t < f.blocks.length := by { unfold frL at ht; rw [List.mem_filter, List.mem_range] at ht; exact ht.1 }; unfold I64; omega)
        rw [hva] at xu
        have hkr := kept_of_below hb
        have d0 := hkr _ _ c0
        have d1 := hkr _ _ c1
        have d2 := hkr _ _ c2
        have d3 := hkr _ _ c3
        have ha0 : (0 : Int) ≤ a := by omega
        have ha1 : (a : Int) < f.blocks.length := by omega
        have HRS := Lib.hid hvs
        have HX := Lib.hid (refFront_any f a _ _ _ D wr.drew (VFun.keep (kept_of_below HBR.out.drew) HV.out) (HT8.out.below hb.drew) (by omega) hal)
        have HEQ : Hid (rfL f.blocks f.blocks.length a = frL f.blocks f.blocks.length a) := Lib.hid (HNB.out.fr_all hal)
        have hS : ∀ w', Below wr.heap.size wr w' → w'.cell? ⟨N, 0, none⟩ = some (.int .i64 f.params) ∧ w'.cell? ⟨N, 1, none⟩ = some (.int .i64 f.result) ∧ w'.cell? ⟨N, 2, none⟩ = some (.slice Ar f.regs.length cr) ∧ w'.cell? ⟨N, 3, none⟩ = some (.slice A f.blocks.length c) ∧
            w'.cell? ⟨G, a, none⟩ = some (.slice Av (zs (frL f.blocks f.blocks.length a)).length cv) :=
          fun w' h => ⟨kept_of_below h _ _ d0, kept_of_below h _ _ d1, kept_of_below h _ _ d2, kept_of_below h _ _ d3, kept_of_below h _ _ xu⟩
        clear hvs d0 d1 d2 hb hkr hu hva
        go_upto_region 12 with fail
        clear d3 xu c0 c1 c2 c3
        generalize hzl : zs (frL f.blocks f.blocks.length a) = zl at *
        have hdz : decide (zl = zl) = true := decide_eq_true rfl
        go_region_held3 (fun w' => w'.cell? ⟨N, 0, none⟩ = some (.int .i64 f.params) ∧ w'.cell? ⟨N, 1, none⟩ = some (.int .i64 f.result) ∧ w'.cell? ⟨N, 2, none⟩ = some (.slice Ar f.regs.length cr) ∧ w'.cell? ⟨N, 3, none⟩ = some (.slice A f.blocks.length c) ∧
            w'.cell? ⟨G, a, none⟩ = some (.slice Av zl.length cv))
          (first
            | exact hS _ HBI.out
            | exact hS _ HBN.out
            | (refine hS _ ?_; repeat (first | exact Below.refl _ _ | refine Below.drew ?_)))
          (first
            | (go_at_call 23; refine HX.out.mono ?_; rintro e w10 ⟨⟨vn, rfl, hn10⟩, hb10⟩; have HBN := Lib.hid ((Below.refl wr.heap.size wr).drew.trans hb10); have HVN : Hid (VS w10 1 RInt vn zl) := Lib.hid (by rw [← hzl, ← HEQ.out]; exact vs_of_own hn10 (fun x hx => by obtain ⟨q, hq, rfl⟩ := zs_mem hx; have := rfL_lt hq; unfold I64; omega)); clear hn10 hb10)
            | (go_at_call 14; refine (sameInts_any _ _ _ _ w10 ⟨Av, cv, rfl, SInts.keep (kept_of_below HBN.out) HRS.out⟩ HVN.out).mono ?_; rintro e w11 ⟨rfl, n11, rfl⟩; have HBI := Lib.hid (below_drewN HBN.out n11)))
        have HB11 := Lib.hid (HBR9.out.trans (HBI.out.mono HBR9.out.size))
        go_wp2_with fail
        go_roundw
        case rel => exact ⟨a + 1, by omega, by go_num, HB11.out⟩
        case measure => simp [intOf]; omega
      · clear hb
        go_wp2_with fail
        go_ret
        exact ⟨rfl, HBR.out⟩
end Go.Proofs.Ytooblmiffgjmjaa
