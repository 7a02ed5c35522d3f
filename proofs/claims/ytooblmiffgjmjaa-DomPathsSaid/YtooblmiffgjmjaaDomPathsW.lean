/- The walk of DomPaths. -/
import Derived.Test.YtooblmiffgjmjaaDmQ
namespace Go.Proofs.Ytooblmiffgjmjaa
open Go.ChangeShapes Go.WideShapes Go.RowKit Go.Deep
set_option linter.unusedVariables false

variable {bs : List BlkD}
/-- Whoever isn't come by: one comes to this block without it. -/
def ByI (bs : List BlkD) (S : Nat → Bool) (at_ : Nat) : Prop := ∀ a, a < bs.length → S a = false → a ≠ at_ → a ≠ 0 ∧ Reach (nxW (nxF bs) a) 0 at_
theorem ByI.start (bs : List BlkD) : ByI bs (fun _ => false) 0 := fun a _ _ h => ⟨h, .refl⟩
theorem ByI.step {S : Nat → Bool} {at_ t : Nat} (h : ByI bs S at_) (ht : t ∈ nxF bs at_) : ByI bs (mark S at_) t := fun a ha hs hat => by
  unfold mark at hs
  by_cases e : a = at_
  · rw [if_pos e] at hs; cases hs
  · rw [if_neg e] at hs
    obtain ⟨h1, h2⟩ := h a ha hs e
    exact ⟨h1, .step h2 (nxW_mem.2 ⟨ht, by omega⟩)⟩
theorem ByI.seen {S : Nat → Bool} {at_ : Nat} (h : ByI bs S at_) (hat : at_ < bs.length) (a : Nat) (ha : a < bs.length) : (dmB bs a at_ && !mark S at_ a) = false := by
  cases h1 : mark S at_ a
  · unfold mark at h1
    by_cases e : a = at_
    · rw [if_pos e] at h1; cases h1
    · rw [if_neg e] at h1
      obtain ⟨h2, h3⟩ := h a ha h1 e
      have h4 := (from_iff (by omega) h2 at_).2 h3
      unfold dmB
      rw [h4]; simp [e]
  · simp

set_option maxRecDepth 100000 in
set_option maxHeartbeats 16000000 in
theorem domPaths_walk (f : FunD) (ys : List Int) (v u : Value) (w : World) (hv : VFun w v f) (hu : VS w 1 RInt u ys) :
    Calls Try.prog 8 #[v, u] w fun e w' => e = .returned (.bool true) ∧ Below w.heap.size w w' := by
  have hv0 := hv
  obtain ⟨Ar, cr, A, c, rfl, -, -, -, -⟩ := hv
  obtain ⟨Ay, cy, rfl, hys⟩ := hu
  have hyl := hys.len
  have HV := Lib.hid hv0
  have HY := Lib.hid hys
  clear hv0 hys
  go_enter Try.func8, Try.ntmps8
  go_wp2_with fail
  obtain ⟨w1, hw1, hs1, hk1, hbel1, hc1, -⟩ := named w #[.int .i64 f.params, .int .i64 f.result, .slice Ar f.regs.length cr, .slice A f.blocks.length c] 25
  rw [← hw1]
  refine (up6_any w1).mono ?_
  rintro e w2 ⟨rfl, hb2⟩
  have hk2 := kept_of_below hb2
  have c0 := hk2 _ _ (hc1 0 _ rfl)
  have c1 := hk2 _ _ (hc1 1 _ rfl)
  have c2 := hk2 _ _ (hc1 2 _ rfl)
  have c3 := hk2 _ _ (hc1 3 _ rfl)
  have HB2 : Hid (Below w.heap.size w w2) := Lib.hid (hbel1.trans (hb2.mono (by omega)))
  have HN : Hid (w.heap.size < w2.heap.size) := Lib.hid (by have := hb2.size; omega)
  obtain ⟨N, hN⟩ : ∃ N, N = w.heap.size := ⟨_, rfl⟩
  have HNN := Lib.hid hN
  rw [← hN] at c0 c1 c2 c3 ⊢
  clear hw1 hs1 hbel1 hc1 hb2 hk1 hk2 hN
  go_wp2_with fail
  refine (small6_any f _ w2 (VFun.keep (kept_of_below HB2.out) HV.out)).mono ?_
  rintro e w3 ⟨⟨bs, rfl, hsm⟩, hb3⟩
  have hk3 := kept_of_below hb3
  have c0 := hk3 _ _ c0
  have c1 := hk3 _ _ c1
  have c2 := hk3 _ _ c2
  have c3 := hk3 _ _ c3
  have HB3 : Hid (Below w.heap.size w w3) := Lib.hid (HB2.out.trans (hb3.mono HB2.out.size))
  have HN3 : Hid (w.heap.size < w3.heap.size) := Lib.hid (by have := HN.out; have := hb3.size; omega)
  cases bs
  · clear hb3 hk3 hsm
    go_wp2_with fail
    go_ret
    exact ⟨rfl, HB3.out⟩
  · have hn : f.blocks.length ≤ 70 := (hsm rfl).1
    clear hb3 hk3 hsm
    by_cases hz : f.blocks.length = 0
    · have hze : ((f.blocks.length : Int) == 0) = true := by rw [beq_iff_eq]; omega
      clear hz
      go_wp2_with fail
      go_ret
      exact ⟨rfl, HB3.out⟩
    · have hze : ((f.blocks.length : Int) == 0) = false := by rw [beq_eq_false_iff_ne]; omega
      have hpos : 0 < f.blocks.length := by omega
      clear hz
      go_wp2_with fail
      refine (dominates_any f _ w3 (VFun.keep (kept_of_below HB3.out) HV.out) (by omega)).mono ?_
      rintro e w4 ⟨⟨G, D0, rfl, hG, hg, ord, hNB⟩, hb4⟩
      have hk4 := kept_of_below hb4
      have c0 := hk4 _ _ c0
      have c1 := hk4 _ _ c1
      have c2 := hk4 _ _ c2
      have c3 := hk4 _ _ c3
      have HB4 : Hid (Below w.heap.size w w4) := Lib.hid (HB3.out.trans (hb4.mono HB3.out.size))
      have HN4 : Hid (w.heap.size < w4.heap.size) := Lib.hid (by have := HN3.out; have := hb4.size; omega)
      have HG := Lib.hid hg
      have HC := Lib.hid (And.intro c0 (And.intro c1 (And.intro c2 c3)))
      have hmk := run_make_row' (P := Try.prog) 37 4 (.bool false) 1 Try.underlying37 Try.info4 rfl .i64 .i64 f.blocks.length (by omega) (by omega)
      clear hb4 hk4 hG hg hNB
      go_upto_region 9 with fail
      clear hmk
      obtain ⟨R, hR⟩ : ∃ R, R = w4.heap.size := ⟨_, rfl⟩
      obtain ⟨w5, hw5⟩ : ∃ w5, w5 = w4.alloc (.cells (madeCells #[.bool false] f.blocks.length) 4) := ⟨_, rfl⟩
      have hb5 : Below w4.heap.size w4 w5 := by rw [hw5]; exact (Below.refl _ _).alloc (Nat.le_refl _) _
      have hrow : w5.rowIs R 4 f.blocks.length (fun x => .bool ((fun _ => false) x : Bool)) := by rw [hw5, hR]; exact World.rowIs_made w4 (.bool false) f.blocks.length 4
      have HG5 := Lib.hid (HG.out.below hb5)
      have HROW := Lib.hid hrow
      have HB5 : Hid (Below w.heap.size w w5) := Lib.hid (HB4.out.trans (hb5.mono HB4.out.size))
      have HC5 : Hid (∀ i, i < 4 → w5.cell? ⟨N, i, none⟩ = w4.cell? ⟨N, i, none⟩) := Lib.hid (fun i _ => hb5.cell (p := ⟨N, i, none⟩) (by rw [HNN.out]; exact HN4.out))
      have HRW : Hid (w.heap.size < R ∧ R < w5.heap.size ∧ N < R ∧ G < R ∧ ∀ a, a < f.blocks.length → D0 + a < R) := Lib.hid ⟨by rw [hR]; exact HN4.out, hrow.lt, by rw [hR, HNN.out]; exact HN4.out, by rw [hR]; exact HG.out.row.lt, fun a ha => by rw [hR]; exact (HG.out.cells a ha).lt⟩
      have HGX : Hid (∀ w', FrX (fun b => b = R) w5 w' → BGr w' G D0 f.blocks.length (dmB f.blocks)) := Lib.hid (fun w' hf => HG5.out.of_blocks fun y h1 h2 => hf.block y (by have := HRW.out.2.2.2.2 (f.blocks.length - 1) (by omega); have := HRW.out.2.1; omega) (by have := HRW.out.2.2.2.2 (f.blocks.length - 1) (by omega); omega))
      rw [← hw5, ← hR]
      clear hw5 hR hb5 hrow c0 c1 c2 c3
      go_wp2_with fail
      go_loopg [9, 10] 61 (fun gk s9 s10 wq => ∃ (i at_ : Nat) (S : Nat → Bool), i ≤ 60 ∧ gk = 61 - i ∧ at_ < f.blocks.length ∧ s9 = .int .i64 (at_ : Int) ∧ s10 = .int .i64 (i : Int) ∧ ByI f.blocks S at_ ∧ wq.rowIs R 4 f.blocks.length (fun x => .bool (S x)) ∧ FrX (fun b => b = R) w5 wq)
      case atStart => exact ⟨0, 0, fun _ => false, by omega, rfl, hpos, rfl, rfl, ByI.start _, HROW.out, FrX.refl _ _⟩
      case round =>
        obtain ⟨i, at_, S, hi, rfl, hat, rfl, rfl, hby, hr, hfr⟩ := hrel
        have HBY := Lib.hid hby
        have HFR := Lib.hid hfr
        have HBF : Hid (Below w.heap.size w wr) := Lib.hid (HB5.out.trans (hfr.below HB5.out.size (fun b hb => by have := HRW.out.1; omega)))
        by_cases hgo : i ≤ ys.length ∧ i < 60
        · obtain ⟨hi1, hi2⟩ := hgo
          have hl1 : ((i : Int) ≤ (ys.length : Int)) := by omega
          have hl2 : ((i : Int) < 60) := by omega
          have xs := hr.cell hat
          have xf := hr.frozen at_
          have ha0 : (0 : Int) ≤ at_ := by omega
          have ha1 : (at_ : Int) < f.blocks.length := by omega
          have HR7 := Lib.hid ((hr.set at_ (.bool true)).congr (g := fun x => .bool (mark S at_ x)) fun x _ => by unfold mark; by_cases e : x = at_ <;> simp [e])
          have HF7 := Lib.hid (hfr.setCell (p := ⟨R, at_, none⟩) (.inl rfl) (.bool true))
          clear hby hr hfr
          go_upto_region 14 with fail
          clear xs xf
          generalize wr.setCell ⟨R, at_, none⟩ (.bool true) = w7 at *
          go_upto_region 15 with fail
          go_loopg [11] f.blocks.length (fun gk s11 wq => ∃ a : Nat, a ≤ f.blocks.length ∧ gk = f.blocks.length - a ∧ s11 = .int .i64 (a : Int) ∧ Below w7.heap.size w7 wq)
          case atStart => exact ⟨0, Nat.zero_le _, rfl, rfl, Below.refl _ _⟩
          case round =>
            obtain ⟨a, han, rfl, rfl, hb⟩ := hrel
            have HBA := Lib.hid hb
            by_cases hal : a < f.blocks.length
            · have hgr := HGX.out wr (HF7.out.trans (FrX.of_below hb))
              have hrr := HR7.out.of_block (hb.block R HR7.out.lt)
              have xa := hgr.row.cell hal
              have xd := (hgr.cells a hal).cell hat
              have xr := hrr.cell hal
              have hse := HBY.out.seen hat a hal
              have hz0 : (0 : Int) ≤ a := by omega
              have hz1 : (a : Int) < f.blocks.length := by omega
              clear hgr hrr hb
              go_upto_region 17 with fail
              go_cut [80] (fun s80 wc => s80 = .bool false ∧ wc = wr)
              case first =>
                generalize dmB f.blocks a at_ = x1 at *
                generalize mark S at_ a = x2 at *
                cases x1 <;> cases x2 <;> first | (exact absurd hse (by decide)) | (clear hse; go_wp2_with fail; go_meet; exact ⟨rfl, rfl⟩)
              case rest =>
                obtain ⟨rfl, rfl⟩ := hcut
                clear xa xd xr hse
                go_wp2_with fail
                go_roundg (f.blocks.length - (a + 1))
                case measure => omega
                case rel => exact ⟨a + 1, by omega, rfl, by go_num, HBA.out⟩
            · have hkc : ∀ q, q < 4 → wr.cell? ⟨N, q, none⟩ = w4.cell? ⟨N, q, none⟩ := fun q hq => (World.cell?_of_block (a := ⟨N, q, none⟩) ((HF7.out.trans (FrX.of_below hb)).block N (by have := HRW.out; omega) (by have := HRW.out; omega))).trans (HC5.out q hq)
              have c0 := (hkc 0 (by omega)).trans HC.out.1
              have c1 := (hkc 1 (by omega)).trans HC.out.2.1
              have c2 := (hkc 2 (by omega)).trans HC.out.2.2.1
              have c3 := (hkc 3 (by omega)).trans HC.out.2.2.2
              have HBW : Hid (Below w.heap.size w wr) := Lib.hid (HB5.out.trans ((HF7.out.trans (FrX.of_below hb)).below HB5.out.size (fun b hb => by have := HRW.out.1; omega)))
              have HNX := Lib.hid (refNext_any f at_ _ wr (VFun.keep (kept_of_below HBW.out) HV.out) (by omega) hat)
              have HR8 := Lib.hid (HR7.out.of_block (hb.block R HR7.out.lt))
              have HF8 : Hid (FrX (fun b => b = R) w5 wr) := Lib.hid (HF7.out.trans (FrX.of_below hb))
              clear hb hkc
              go_wp2_with fail
              refine HNX.out.mono ?_
              rintro e w9 ⟨⟨vl, rfl, hl⟩, hb9⟩
              have HR9 := Lib.hid (HR8.out.of_block (hb9.block R HR8.out.lt))
              have HF9 : Hid (FrX (fun b => b = R) w5 w9) := Lib.hid (HF8.out.trans (FrX.of_below hb9))
              have HB9 : Hid (Below w.heap.size w w9) := Lib.hid (HBW.out.trans (hb9.mono HBW.out.size))
              obtain ⟨Al, cl, rfl, hsl⟩ := vs_of_own (xs := zs (nxF f.blocks at_)) (by rw [zs_len]; exact hl) (fun y hy => by obtain ⟨q, hq, rfl⟩ := zs_mem hy; have := nxF_lt f.blocks at_ q hq; unfold I64; omega)
              rw [zs_len]
              have HSL := Lib.hid hsl
              have hnl : (nxF f.blocks at_).length ≤ 70 := by unfold nxF; split; exact Nat.le_trans (nextN_few _ _) hn; simp
              clear hl hb9 hsl c0 c1 c2 c3
              by_cases he : (nxF f.blocks at_).length = 0
              · have heb : (((nxF f.blocks at_).length : Int) == 0) = true := by rw [beq_iff_eq]; omega
                clear he
                go_wp2_with fail
                go_ret
                exact ⟨rfl, HB9.out⟩
              · have heb : (((nxF f.blocks at_).length : Int) == 0) = false := by rw [beq_eq_false_iff_ne]; omega
                by_cases hiy : i < ys.length
                · have hge : ¬ ((i : Int) ≥ (ys.length : Int)) := by omega
                  have hgb : decide ((i : Int) ≥ (ys.length : Int)) = false := decide_eq_false hge
                  obtain ⟨by_, oy, y, rfl, hy, hyc, hy64⟩ := (SInts.keep (kept_of_below HB9.out) HY.out).int hiy
                  have hi0 : (0 : Int) ≤ i := by omega
                  have hi1' : (i : Int) < (ys.length : Int) := by omega
                  clear hy
                  have hpl : 0 < (nxF f.blocks at_).length := by omega
                  have hy64' := hy64
                  unfold I64 at hy64'
                  by_cases hyn : y < 0
                  · obtain ⟨m, hm⟩ : ∃ m : Nat, y = -((m : Int) + 1) := ⟨(-(y + 1)).toNat, by omega⟩
                    subst hm
                    have hm : m ≤ 9223372036854775807 := by omega
                    go_upto_region 24 with fail
                    rw [show (-(-(((m : Nat) : Int) + 1) + 1)) = (m : Int) by omega]
                    clear hyn hyc hy64 hy64'
                    obtain ⟨k, hk⟩ : ∃ k, k = m % (nxF f.blocks at_).length := ⟨_, rfl⟩
                    have hkl : k < (nxF f.blocks at_).length := by rw [hk]; exact Nat.mod_lt _ hpl
                    have hE : (m : Int) % ((nxF f.blocks at_).length : Int) = (k : Int) := by rw [hk]; exact (Int.natCast_emod _ _).symm
                    obtain ⟨bl, ol, z, rfl, hz, hzc, -⟩ := HSL.out.int (k := k) (by rw [zs_len]; exact hkl)
                    obtain ⟨t, ht, rfl⟩ := zs_at hz.out
                    have HTM : Hid (t ∈ nxF f.blocks at_) := Lib.hid (List.mem_of_getElem? ht)
                    have HTN : Hid (t < f.blocks.length) := Lib.hid (nxF_lt f.blocks at_ t HTM.out)
                    have hk0 : (0 : Int) ≤ k := by omega
                    have hk1 : (k : Int) < ((nxF f.blocks at_).length : Int) := by omega
                    clear hk hz ht
                    go_wp2_with fail
                    go_roundg (61 - (i + 1))
                    case measure => omega
                    case rel => exact ⟨i + 1, t, mark S at_, by omega, rfl, HTN.out, rfl, by go_num, HBY.out.step HTM.out, HR9.out, HF9.out⟩
                  · obtain ⟨m, rfl⟩ : ∃ m : Nat, y = (m : Int) := ⟨y.toNat, by omega⟩
                    have hm : m ≤ 9223372036854775807 := by omega
                    have hyb : decide ((m : Int) < 0) = false := decide_eq_false hyn
                    go_upto_region 24 with fail
                    clear hyn hyc hy64 hy64'
                    obtain ⟨k, hk⟩ : ∃ k, k = m % (nxF f.blocks at_).length := ⟨_, rfl⟩
                    have hkl : k < (nxF f.blocks at_).length := by rw [hk]; exact Nat.mod_lt _ hpl
                    have hE : (m : Int) % ((nxF f.blocks at_).length : Int) = (k : Int) := by rw [hk]; exact (Int.natCast_emod _ _).symm
                    obtain ⟨bl, ol, z, rfl, hz, hzc, -⟩ := HSL.out.int (k := k) (by rw [zs_len]; exact hkl)
                    obtain ⟨t, ht, rfl⟩ := zs_at hz.out
                    have HTM : Hid (t ∈ nxF f.blocks at_) := Lib.hid (List.mem_of_getElem? ht)
                    have HTN : Hid (t < f.blocks.length) := Lib.hid (nxF_lt f.blocks at_ t HTM.out)
                    have hk0 : (0 : Int) ≤ k := by omega
                    have hk1 : (k : Int) < ((nxF f.blocks at_).length : Int) := by omega
                    clear hk hz ht
                    go_wp2_with fail
                    go_roundg (61 - (i + 1))
                    case measure => omega
                    case rel => exact ⟨i + 1, t, mark S at_, by omega, rfl, HTN.out, rfl, by go_num, HBY.out.step HTM.out, HR9.out, HF9.out⟩
                · have hge : ((i : Int) ≥ (ys.length : Int)) := by omega
                  have hgb : decide ((i : Int) ≥ (ys.length : Int)) = true := decide_eq_true hge
                  clear he
                  go_wp2_with fail
                  go_ret
                  exact ⟨rfl, HB9.out⟩
        · clear hby hr hfr
          by_cases h1 : i ≤ ys.length
          · have hl1 : ((i : Int) ≤ (ys.length : Int)) := by omega
            have hl2 : ¬ ((i : Int) < 60) := by omega
            have hl3 : decide ((i : Int) < 60) = false := decide_eq_false hl2
            clear hgo h1
            go_wp2_with fail
            go_ret
            exact ⟨rfl, HBF.out⟩
          · have hl1 : ¬ ((i : Int) ≤ (ys.length : Int)) := by omega
            have hl3 : decide ((i : Int) ≤ (ys.length : Int)) = false := decide_eq_false hl1
            clear hgo h1
            go_wp2_with fail
            go_ret
            exact ⟨rfl, HBF.out⟩
end Go.Proofs.Ytooblmiffgjmjaa
