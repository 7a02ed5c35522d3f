/- The reference of layer 6: Nearest and Frontier, walked. -/
import Derived.Test.YtooblmiffgjmjaaDmS
namespace Go.Proofs.Ytooblmiffgjmjaa
open Go.ChangeShapes Go.WideShapes Go.RowKit Go.Deep
set_option linter.unusedVariables false

theorem sl_of_row {w : World} {H n : Nat} {F : Nat → Int} (h : w.rowIs H 3 n (fun b => .int .i64 (F b))) (hn : n ≤ 1000000) (h64 : ∀ b, b < n → I64 (F b)) : SL w 1 RInt (some ⟨H, 0, none⟩) n ((List.range n).map F) := by
  refine ⟨by simp, ⟨by unfold maxLen; omega, fun e => by cases e⟩, fun _ => ⟨H, 0, rfl, fun i x hi => ?_⟩⟩
  obtain ⟨rfl, hl⟩ := map_range_at _ hi
  rw [Nat.mul_one, Nat.zero_add]
  exact ⟨h.cell hl, h64 i hl⟩
theorem NearB.near_lt {bs : List BlkD} {N : Nat → Int} {ord : Nat → Nat} (h : NearB bs N ord) {b : Nat} (hb : b < bs.length) : -1 ≤ N b ∧ N b < bs.length := by
  by_cases h1 : fromB bs 0 (-1) b = false ∨ b = 0
  · rw [h.none b hb h1]; omega
  · obtain ⟨a, ha, he, -⟩ := h.some b hb (by cases hf : fromB bs 0 (-1) b; exact absurd (.inl hf) h1; rfl) (fun e => h1 (.inr e))
    omega
def ToldRN (bs : List BlkD) (w : World) (e : Ending) (w' : World) : Prop :=
  (∃ v, e = .returned v ∧ w'.ownsRow w.heap.size 3 1 v ((List.range bs.length).map (nearD bs)).length (((List.range bs.length).map (nearD bs)).map (Value.int .i64))) ∧ Below w.heap.size w w'

set_option maxRecDepth 100000 in
set_option maxHeartbeats 8000000 in
theorem refNear_any (f : FunD) (v : Value) (w : World) (hv : VFun w v f) (hn : f.blocks.length ≤ 1000) : Calls Try.prog 20 #[v] w (ToldRN f.blocks w) := by
  have hv0 := hv
  obtain ⟨i0, hi, hz0, hz1, hz2⟩ := info_parts Try.info3
  have HI := Lib.hid (And.intro hi (And.intro hz0 (And.intro hz1 hz2)))
  clear hi hz0 hz1 hz2
  obtain ⟨Ar, cr, A, c, rfl, -, -, -, -⟩ := hv
  go_enter Try.func20, Try.ntmps20
  go_upto_region 1 with fail
  obtain ⟨w1, hw1, hs1, hk1, hbel1, hc1, -⟩ := named w #[.int .i64 f.params, .int .i64 f.result, .slice Ar f.regs.length cr, .slice A f.blocks.length c] 25
  rw [← hw1]
  have c0 : w1.cell? ⟨w.heap.size, 0, none⟩ = some (.int .i64 f.params) := hc1 0 _ rfl
  have c1 : w1.cell? ⟨w.heap.size, 1, none⟩ = some (.int .i64 f.result) := hc1 1 _ rfl
  have c2 : w1.cell? ⟨w.heap.size, 2, none⟩ = some (.slice Ar f.regs.length cr) := hc1 2 _ rfl
  have c3 : w1.cell? ⟨w.heap.size, 3, none⟩ = some (.slice A f.blocks.length c) := hc1 3 _ rfl
  have HB1 := Lib.hid hbel1
  have HS1 := Lib.hid hs1
  have HN := Lib.hid (refDom_any f _ w1 (VFun.keep hk1 hv0) hn)
  clear hw1 hs1 hbel1 hc1 hv0 hk1
  go_wp2_with fail
  refine HN.out.mono ?_
  rintro e w2 ⟨⟨vd, D, rfl, ht⟩, hb2⟩
  have HT := Lib.hid ht
  obtain ⟨Ad, cd, rfl⟩ := own_slice ht.own
  have HB2 : Hid (Below w.heap.size w w2) := Lib.hid (HB1.out.trans (hb2.mono (by have := HS1.out; omega)))
  clear c0 c1 c2 c3 ht hb2 HN
  go_wp2_with fail
  go_loopw [4, 5] (fun s4 s5 wq => ∃ (b : Nat) (v : Value), b ≤ f.blocks.length ∧ v = s4 ∧ s5 = .int .i64 (b : Int) ∧ wq.ownsRow w2.heap.size 3 1 v b (((List.range b).map (nearD f.blocks)).map (Value.int .i64)) ∧ Below w2.heap.size w2 wq) (fun s4 s5 _ => f.blocks.length - (intOf s5).toNat)
  case atStart => exact ⟨0, _, Nat.zero_le _, rfl, rfl, World.ownsRow_nil _ _ _ _, Below.refl _ _⟩
  case round =>
    obtain ⟨b, v, hb, rfl, rfl, ho, hbel⟩ := hrel
    have HO := Lib.hid ho
    have HBL := Lib.hid hbel
    have HBW : Hid (Below w.heap.size w wr) := Lib.hid (HB2.out.trans (hbel.mono HB2.out.size))
    obtain ⟨wo, rfl⟩ : ∃ wo, wo = wr := ⟨wr, rfl⟩
    by_cases hbl : b < f.blocks.length
    · have hT := HT.out.below hbel
      obtain ⟨g, cg, hg, -⟩ := hT.at_ hbl
      obtain ⟨rfl, rfl⟩ : Ad = some ⟨g, 0, none⟩ ∧ cd = cg := by cases hg; exact ⟨rfl, rfl⟩
      have HTC : Hid (∀ W : World, Below wo.heap.size wo W → ∀ a, a < f.blocks.length → W.cell? ⟨g, a, none⟩ = some (.slice (some ⟨D a, 0, none⟩) f.blocks.length f.blocks.length) ∧ ∀ x, x < f.blocks.length → W.cell? ⟨D a, x, none⟩ = some (.bool (dmB f.blocks a x))) := Lib.hid (fun W hW a ha => by
        have h2 := hT.below hW
        obtain ⟨g', cg', hg', hc'⟩ := h2.at_ ha
        obtain rfl : g = g' := by cases hg'; rfl
        exact ⟨hc', fun x hx => (h2.cells a ha).cell hx⟩)
      have hb0 : (0 : Int) ≤ b := by omega
      have hb1 : (b : Int) < f.blocks.length := by omega
      clear ho hbel hT hg
      go_wp2_with fail
      go_loopw [6, 7] (fun s6 s7 wq => ∃ a : Nat, a ≤ f.blocks.length ∧ s6 = .int .i64 (nearK f.blocks b a) ∧ s7 = .int .i64 (a : Int) ∧ Below wo.heap.size wo wq) (fun s6 s7 _ => f.blocks.length - (intOf s7).toNat)
      case atStart => exact ⟨0, Nat.zero_le _, rfl, rfl, Below.refl _ _⟩
      case round =>
        obtain ⟨a, ha, rfl, rfl, hba⟩ := hrel
        have HBA := Lib.hid hba
        obtain ⟨wa, rfl⟩ : ∃ wa, wa = wr := ⟨wr, rfl⟩
        by_cases hal : a < f.blocks.length
        · have xa := (HTC.out wa hba a hal).1
          have xab := (HTC.out wa hba a hal).2 b hbl
          have ha0 : (0 : Int) ≤ a := by omega
          have ha1 : (a : Int) < f.blocks.length := by omega
          by_cases hab : a = b
          · have HNK := Lib.hid (nearK_skip (bs := f.blocks) (b := b) (a := a) (.inl hab))
            have hE : (((a : Nat) : Int) == ((b : Nat) : Int)) = true := by rw [beq_iff_eq]; omega
            clear hba hab
            go_wp2_with fail
            go_roundw
            case rel => exact ⟨a + 1, by omega, by rw [HNK.out], by go_num, HBA.out⟩
            case measure => simp [intOf]; omega
          · have hE : (((a : Nat) : Int) == ((b : Nat) : Int)) = false := by rw [beq_eq_false_iff_ne]; omega
            cases hd : dmB f.blocks a b
            · have HNK := Lib.hid (nearK_skip (bs := f.blocks) (b := b) (a := a) (.inr hd))
              rw [hd] at xab
              clear hba hab hd
              go_wp2_with fail
              go_roundw
              case rel => exact ⟨a + 1, by omega, by rw [HNK.out], by go_num, HBA.out⟩
              case measure => simp [intOf]; omega
            · have HNT := Lib.hid (nearK_take (bs := f.blocks) hab hd)
              rw [hd] at xab
              clear hba hab hd
              go_wp2_with fail
              go_loopw [8, 9] (fun s8 s9 wq => ∃ c : Nat, c ≤ f.blocks.length ∧ s8 = .bool (alR f.blocks b a c) ∧ s9 = .int .i64 (c : Int) ∧ Below wo.heap.size wo wq) (fun s8 s9 _ => f.blocks.length - (intOf s9).toNat)
              case atStart => exact ⟨0, Nat.zero_le _, rfl, rfl, HBA.out⟩
              case round =>
                obtain ⟨c, hc, rfl, rfl, hbc⟩ := hrel
                have HBC := Lib.hid hbc
                by_cases hcl : c < f.blocks.length
                · have xc := (HTC.out wr hbc c hcl).1
                  have xcb := (HTC.out wr hbc c hcl).2 b hbl
                  have xca := (HTC.out wr hbc c hcl).2 a hal
                  have hc0 : (0 : Int) ≤ c := by omega
                  have hc1 : (c : Int) < f.blocks.length := by omega
                  have hE2 : (((c : Nat) : Int) == ((b : Nat) : Int)) = decide (c = b) := by rw [Bool.eq_iff_iff, beq_iff_eq, decide_eq_true_iff]; omega
                  have HAL := Lib.hid (alR_succ (bs := f.blocks) b a c)
                  clear hbc
                  generalize dmB f.blocks c b = y2 at *
                  generalize dmB f.blocks c a = y3 at *
                  generalize decide (c = b) = y1 at *
                  generalize alR f.blocks b a c = x0 at *
                  cases x0 <;> cases y1 <;> cases y2 <;> cases y3
                  all_goals (
                    go_wp2_with fail
                    go_roundw
                    case rel => exact ⟨c + 1, by omega, by rw [HAL.out]; rfl, by go_num, HBC.out⟩
                    case measure => simp [intOf]; omega)
                · have hcc : c = f.blocks.length := by omega
                  subst hcc
                  clear hbc
                  have HNT2 := Lib.hid HNT.out
                  generalize alR f.blocks b a f.blocks.length = z at *
                  cases z
                  all_goals (
                    go_wp2_with fail
                    go_roundw
                    case rel => exact ⟨a + 1, by omega, by rw [HNT2.out]; rfl, by go_num, HBC.out⟩
                    case measure => simp [intOf]; omega)
        · have haa : a = f.blocks.length := by omega
          subst haa
          have HO2 := Lib.hid (ownsRow_block HO.out (fun x hx => hba.block x (HO.out.lt x hx).2))
          have HBZ : Hid (Below w2.heap.size w2 wa) := Lib.hid (HBL.out.trans (hba.mono HBL.out.size))
          have hz := HBZ.out.size
          have hnd : nearK f.blocks b f.blocks.length = nearD f.blocks b := rfl
          rw [hnd]
          clear hba hnd
          go_wp2_with (at_builtin; refine wpList_append_lies _ rfl (.tmp 70) (.tmp 72) 22 rfl w2.heap.size 3 i0 (.int .i64 0) 1 8 Try.underlying22 HI.out.1 HI.out.2.1 HI.out.2.2.1 HI.out.2.2.2 rfl (by decide) v _ _ rfl (HO2.out.alloc _) ⟨wa.heap.size, 0, none⟩ 1 1 [.int .i64 (nearD f.blocks b)] rfl rfl ?e1 ?e2 ?e0 ?e3 ?e4 ?e5 (wa.heap.size + 1) ?e6 ?_)
          case e1 => exact news_one_add wa _ _ rfl
          case e2 => exact ints_oneCell .i64 [(nearD f.blocks b)]
          case e0 => omega
          case e3 => unfold maxLen; omega
          case e4 => omega
          case e5 => simp; omega
          case e6 => simp
          intro g7 cap w7 hown7 hgrow7 hloc7 hlt7
          have HGR : Hid (GroD wa w7 v (.slice (some ⟨g7, 0, none⟩) (b + 1) cap)) := Lib.hid (groD_append (w := wa) hgrow7 (by simpa using hloc7))
          have HB7 : Hid (Below w2.heap.size w2 w7) := Lib.hid (HBZ.out.trans ((HGR.out.fr (X := fun y => v.ownBlock = some y) (FrX.refl _ _) (fun g hg => .inl hg)).below HBZ.out.size (fun k hk => (HO2.out.lt k hk).1)))
          have HO7 : Hid (w7.ownsRow w2.heap.size 3 1 (.slice (some ⟨g7, 0, none⟩) (b + 1) cap) (b + 1) (((List.range (b + 1)).map (nearD f.blocks)).map (Value.int .i64))) := Lib.hid (by rw [← List.map_map] at hown7; rw [List.range_succ, List.map_append, List.map_append]; exact hown7)
          clear hown7 hgrow7 hloc7 hlt7
          go_wp2_with fail
          go_roundw
          case rel => exact ⟨b + 1, _, by omega, rfl, by go_num, HO7.out, HB7.out⟩
          case measure => simp [intOf]; omega
    · have hbb : b = f.blocks.length := by omega
      subst hbb
      clear ho hbel
      go_wp2_with fail
      go_ret
      refine ⟨⟨_, rfl, ?_⟩, HBW.out⟩
      rw [List.length_map, List.length_range]
      exact owns_mono HO.out HB2.out.size
end Go.Proofs.Ytooblmiffgjmjaa
