/- The reference of layer 5: From. -/
import Derived.Test.YtooblmiffgjmjaaGrE
import Derived.Test.YtooblmiffgjmjaaLast
import Derived.StillTailTactics
import Derived.Deep.RegionHeld3
namespace Go.Proofs.Ytooblmiffgjmjaa
open Go.ChangeShapes Go.WideShapes Go.RowKit Go.Deep
set_option linter.unusedVariables false

/-- What can be come to from a block without going by another one. -/
def fromB (bs : List BlkD) (b w : Int) (x : Nat) : Bool := if 0 ≤ b ∧ b < bs.length ∧ b ≠ w then fromN (nxF bs) w bs.length b.toNat bs.length x else false
theorem range_fold {nx : Nat → List Nat} {w : Int} {S : Nat → Bool} (a : Nat) : (List.range (a + 1)).foldl (fromA nx w) S = fromA nx w ((List.range a).foldl (fromA nx w) S) a := by
  rw [List.range_succ, List.foldl_append]; rfl
theorem mk_fold {w : Int} {S : Nat → Bool} {l : List Nat} {k q : Nat} (h : l[k]? = some q) : (l.take (k + 1)).foldl (mkW w) S = mkW w ((l.take k).foldl (mkW w) S) q := by
  rw [take_succ_of h, List.foldl_append]; rfl
def ToldF_ (bs : List BlkD) (b w : Int) (W : World) (e : Ending) (W' : World) : Prop :=
  (∃ H, e = .returned (.slice (some ⟨H, 0, none⟩) bs.length bs.length) ∧ W.heap.size ≤ H ∧ W'.rowIs H 4 bs.length (fun x => .bool (fromB bs b w x))) ∧ Below W.heap.size W W'

set_option maxRecDepth 100000 in
set_option maxHeartbeats 8000000 in
theorem from_any (f : FunD) (b z : Int) (v : Value) (w : World) (hv : VFun w v f) (hn : f.blocks.length ≤ 1000) :
    Calls Try.prog 24 #[v, .int .i64 b, .int .i64 z] w (ToldF_ f.blocks b z w) := by
  have hv0 := hv
  obtain ⟨Ar, cr, A, c, rfl, -, -, -, -⟩ := hv
  have hmk := run_make_row' (P := Try.prog) 37 4 (.bool false) 1 Try.underlying37 Try.info4 rfl .i64 .i64 f.blocks.length (by omega) (by omega)
  have HV := Lib.hid hv0
  clear hv0
  go_enter Try.func24, Try.ntmps24
  go_upto_region 2 with fail
  clear hmk
  obtain ⟨w1, hw1, hs1, hk1, hbel1, hc1, -⟩ := named w #[.int .i64 f.params, .int .i64 f.result, .slice Ar f.regs.length cr, .slice A f.blocks.length c] 25
  rw [← hw1]
  obtain ⟨H, hH⟩ : ∃ H, H = w.heap.size + 1 := ⟨_, rfl⟩
  have hrow := World.rowIs_made w1 (.bool false) f.blocks.length 4
  have hb2 : Below w1.heap.size w1 (w1.alloc (.cells (madeCells #[.bool false] f.blocks.length) 4)) := (Below.refl _ _).alloc (Nat.le_refl _) _
  have hz2 : (w1.alloc (.cells (madeCells #[.bool false] f.blocks.length) 4)).heap.size = w1.heap.size + 1 := by simp
  rw [hs1, ← hH] at hrow hb2 hz2
  rw [← hH]
  generalize w1.alloc (.cells (madeCells #[.bool false] f.blocks.length) 4) = w2 at *
  have hk2 := kept_below hb2 (by omega)
  have c0 := hk2 _ _ (hc1 0 _ rfl)
  have c1 := hk2 _ _ (hc1 1 _ rfl)
  have c2 := hk2 _ _ (hc1 2 _ rfl)
  have c3 := hk2 _ _ (hc1 3 _ rfl)
  have HHW : Hid (w.heap.size + 1 = H) := Lib.hid (by omega)
  have hhw : w.heap.size < H := by omega
  have hh2 : H < w2.heap.size := by omega
  have HB2 : Hid (Below w.heap.size w w2) := Lib.hid (hbel1.trans (hb2.mono (by omega)))
  have HV2 : Hid (VFun w2 (.agg #[.int .i64 f.params, .int .i64 f.result, .slice Ar f.regs.length cr, .slice A f.blocks.length c]) f) := Lib.hid (VFun.keep (hk1.trans hk2) HV.out)
  have HROW := Lib.hid hrow
  have HV0 := HV
  clear hw1 hs1 hk1 hbel1 hc1 hb2 hz2 hk2 hH hrow HV
  by_cases hok : 0 ≤ b ∧ b < f.blocks.length ∧ b ≠ z
  · obtain ⟨h1, h2, h3⟩ := hok
    obtain ⟨q, rfl⟩ : ∃ q : Nat, b = q := ⟨b.toNat, by omega⟩
    have hq : q < f.blocks.length := by omega
    have hne : ((q : Int) == z) = false := by rw [beq_eq_false_iff_ne]; exact h3
    have hge : ¬ ((f.blocks.length : Int) ≤ q) := by omega
    have hge' : decide ((f.blocks.length : Int) ≤ q) = false := decide_eq_false hge
    have HRES : Hid (∀ x, fromB f.blocks q z x = fromN (nxF f.blocks) z f.blocks.length q f.blocks.length x) := Lib.hid (fun x => by unfold fromB; rw [if_pos ⟨h1, h2, h3⟩]; simp)
    have hcell := HROW.out.cell hq
    have hfr := HROW.out.frozen q
    have hset := (HROW.out.set q (.bool true)).congr (g := fun x => .bool (mark noneSeen q x)) fun x _ => by unfold mark noneSeen; by_cases e : x = q <;> simp [e]
    have hbs : BB w2.heap.size H w2 (w2.setCell ⟨H, q, none⟩ (.bool true)) := (BB.refl w2.heap.size H w2).setCell (p := ⟨H, q, none⟩) (.inl rfl) _
    clear h3
    go_upto_region 5 with fail
    clear hcell hfr
    generalize hW3 : w2.setCell ⟨H, q, none⟩ (.bool true) = w3 at *
    clear hW3
    have HSET := Lib.hid hset
    have HBS := Lib.hid hbs
    clear hset hbs
    go_wp2_with fail
    go_loopw [8] (fun s8 wr => ∃ i : Nat, i ≤ f.blocks.length ∧ s8 = .int .i64 i ∧ wr.rowIs H 4 f.blocks.length (fun x => .bool (fromN (nxF f.blocks) z f.blocks.length q i x)) ∧ BB w2.heap.size H w2 wr) (fun s8 _ => f.blocks.length - (intOf s8).toNat)
    case atStart => exact ⟨0, Nat.zero_le _, rfl, HSET.out, HBS.out⟩
    case round =>
      obtain ⟨i, hi, rfl, hrw, hbb⟩ := hrel
      have HRW := Lib.hid hrw
      have HBB := Lib.hid hbb
      clear hrw hbb
      obtain ⟨wo, rfl⟩ : ∃ wo, wo = wr := ⟨wr, rfl⟩
      by_cases hlt : i < f.blocks.length
      · go_wp2_with fail
        go_loopw [9] (fun s9 wr => ∃ a : Nat, a ≤ f.blocks.length ∧ s9 = .int .i64 a ∧ wr.rowIs H 4 f.blocks.length (fun x => .bool ((List.range a).foldl (fromA (nxF f.blocks) z) (fromN (nxF f.blocks) z f.blocks.length q i) x)) ∧ BB w2.heap.size H w2 wr) (fun s9 _ => f.blocks.length - (intOf s9).toNat)
        case atStart => exact ⟨0, Nat.zero_le _, rfl, HRW.out, HBB.out⟩
        case round =>
          obtain ⟨a, ha, rfl, hrw, hbb⟩ := hrel
          obtain ⟨wm, rfl⟩ : ∃ wm, wm = wr := ⟨wr, rfl⟩
          have HSUC := Lib.hid (range_fold (nx := nxF f.blocks) (w := z) (S := fromN (nxF f.blocks) z f.blocks.length q i) a)
          obtain ⟨S, hS⟩ : ∃ S, S = (List.range a).foldl (fromA (nxF f.blocks) z) (fromN (nxF f.blocks) z f.blocks.length q i) := ⟨_, rfl⟩
          rw [← hS] at hrw HSUC
          have HS := Lib.hid hS
          clear hS HRW HBB
          have HRA := Lib.hid hrw
          have HBA := Lib.hid hbb
          by_cases hlta : a < f.blocks.length
          · have hsc := hrw.cell hlta
            have ha0 : (0 : Int) ≤ a := by omega
            have ha1 : (a : Int) < f.blocks.length := by omega
            cases hsa : S a
            · rw [hsa] at hsc
              have HSU : Hid ((List.range (a + 1)).foldl (fromA (nxF f.blocks) z) (fromN (nxF f.blocks) z f.blocks.length q i) = S) := Lib.hid (by rw [HSUC.out]; unfold fromA; rw [hsa]; rfl)
              clear hsa hrw hbb
              go_wp2_with fail
              go_roundw
              case rel => exact ⟨a + 1, by omega, by go_num, by rw [HSU.out]; exact HRA.out, HBA.out⟩
              case measure => simp [intOf]; omega
            · rw [hsa] at hsc
              have HSU : Hid ((List.range (a + 1)).foldl (fromA (nxF f.blocks) z) (fromN (nxF f.blocks) z f.blocks.length q i) = (nxF f.blocks a).foldl (mkW z) S) := Lib.hid (by rw [HSUC.out]; unfold fromA; rw [hsa]; rfl)
              have hkb : ∀ y o u, y < w2.heap.size → y ≠ H → w2.cell? ⟨y, o, none⟩ = some u → wm.cell? ⟨y, o, none⟩ = some u := fun y o u h1 h2 hu => (World.cell?_of_block (a := ⟨y, o, none⟩) (hbb.block y h1 h2)).trans hu
              have d0 := hkb _ _ _ (by omega) (by omega) c0
              have d1 := hkb _ _ _ (by omega) (by omega) c1
              have d2 := hkb _ _ _ (by omega) (by omega) c2
              have d3 := hkb _ _ _ (by omega) (by omega) c3
              have hzr := hbb.size
              have hbw : Below w2.heap.size w2 w2 := Below.refl _ _
              have HVR : Hid (VFun wm (.agg #[.int .i64 f.params, .int .i64 f.result, .slice Ar f.regs.length cr, .slice A f.blocks.length c]) f) := Lib.hid (VFun.keep (kept_of_below (HB2.out.trans (hbb.below (by omega) (by omega)))) HV0.out)
              have HN := Lib.hid (refNext_any f a _ wm HVR.out (by omega) hlta)
              clear hsa hrw hbb hkb
              go_wp2_with fail
              refine HN.out.mono ?_
              rintro e w5 ⟨⟨vl, rfl, hl⟩, hb5⟩
              have hk5 := kept_of_below hb5
              have d0 := hk5 _ _ d0
              have d1 := hk5 _ _ d1
              have d2 := hk5 _ _ d2
              have d3 := hk5 _ _ d3
              have HR5 := Lib.hid (HRA.out.of_block (hb5.block H HRA.out.lt))
              have HB5 : Hid (BB w2.heap.size H w2 w5) := Lib.hid (HBA.out.trans (BB.of_below hb5 hzr))
              have hll : (nxF f.blocks a).length ≤ f.blocks.length := by
                unfold nxF; split
                · exact nextN_few _ _
                · simp
              have HLT := Lib.hid (nxF_lt f.blocks a)
              have hz5 := hb5.size
              generalize nxF f.blocks a = l at *
              obtain ⟨Al, cl, rfl, hsl⟩ := slB_of_own (B := fun g => wm.heap.size ≤ g ∧ g < w5.heap.size) (xs := zs l) (by rw [zs_len]; exact hl) (fun y hy => by obtain ⟨t, ht, rfl⟩ := zs_mem hy; have := HLT.out t ht; unfold I64; omega) (fun _ h1 h2 => ⟨h1, h2⟩)
              rw [zs_len]
              have HSL := Lib.hid hsl
              have hHr : H < wm.heap.size := HRA.out.lt
              clear hl hb5 hk5 hsl HN hsc
              go_wp2_with fail
              go_loopw [11] (fun s11 wi => ∃ k : Nat, k ≤ l.length ∧ s11 = .int .i64 k ∧ wi.rowIs H 4 f.blocks.length (fun x => .bool ((l.take k).foldl (mkW z) S x)) ∧ BB w5.heap.size H w5 wi) (fun s11 _ => l.length - (intOf s11).toNat)
              case atStart => exact ⟨0, Nat.zero_le _, rfl, by simpa using HR5.out, BB.refl _ _ _⟩
              case round =>
                obtain ⟨k, hk, rfl, hri, hbi⟩ := hrel
                obtain ⟨wi, rfl⟩ : ∃ wi, wi = wr := ⟨wr, rfl⟩
                have hsi := SIntsB.go (B := fun g => wm.heap.size ≤ g ∧ g < w5.heap.size) (B' := fun _ => True) (w := w5) (w' := wi) (fun a v hb ha => (World.cell?_of_block (hbi.block a.block hb.2 (by have := hb.1; omega))).trans ha) (fun _ _ => trivial) HSL.out
                have HRI := Lib.hid hri
                have HBI := Lib.hid hbi
                by_cases hkl : k < l.length
                · obtain ⟨bl, ol, y, rfl, hy, -, hyc, -⟩ := hsi.at_ (k := k) (by rw [zs_len]; exact hkl)
                  obtain ⟨t, ht, rfl⟩ := zs_at hy.out
                  have htn : t < f.blocks.length := HLT.out t (List.mem_of_getElem? ht)
                  have hyc : wi.cell? ⟨bl, ol + k, none⟩ = some (.int .i64 (t : Int)) := by rw [Nat.mul_one] at hyc; exact hyc
                  have ht0 : (0 : Int) ≤ t := by omega
                  have ht1 : (t : Int) < f.blocks.length := by omega
                  have hk0 : (0 : Int) ≤ k := by omega
                  have hk1 : (k : Int) < l.length := by omega
                  have HMK := Lib.hid (mk_fold (w := z) (S := S) ht)
                  by_cases htz : (t : Int) = z
                  · have hbz : ((t : Int) != z) = false := by simp [htz]
                    have HS2 : Hid ((l.take (k + 1)).foldl (mkW z) S = (l.take k).foldl (mkW z) S) := Lib.hid (by rw [HMK.out]; unfold mkW; rw [if_pos htz])
                    clear htz ht hsi hri hbi
                    go_wp2_with fail
                    go_roundw
                    case rel => exact ⟨k + 1, by omega, by go_num, by rw [HS2.out]; exact HRI.out, HBI.out⟩
                    case measure => simp [intOf]; omega
                  · have hbz : ((t : Int) != z) = true := by simpa using htz
                    have HS2 : Hid ((l.take (k + 1)).foldl (mkW z) S = mark ((l.take k).foldl (mkW z) S) t) := Lib.hid (by rw [HMK.out]; unfold mkW; rw [if_neg htz])
                    have hcc := hri.cell htn
                    have hcf := hri.frozen t
                    have HR2 := Lib.hid ((hri.set t (.bool true)).congr (g := fun x => .bool ((l.take (k + 1)).foldl (mkW z) S x)) fun x _ => by rw [HS2.out]; unfold mark; by_cases e : x = t <;> simp [e])
                    clear htz ht hsi hri hbi
                    go_wp2_with fail
                    go_roundw
                    case rel => exact ⟨k + 1, by omega, by go_num, HR2.out, HBI.out.setCell (.inl rfl) _⟩
                    case measure => simp [intOf]; omega
                · have hfin : Hid ((List.range (a + 1)).foldl (fromA (nxF f.blocks) z) (fromN (nxF f.blocks) z f.blocks.length q i) = (l.take k).foldl (mkW z) S) := Lib.hid (by rw [HSU.out, List.take_of_length_le (by omega)])
                  have HBF : Hid (BB w2.heap.size H w2 wi) := Lib.hid (HB5.out.trans (HBI.out.mono (by omega)))
                  clear hsi hri hbi
                  go_wp2_with fail
                  go_roundw
                  case rel => exact ⟨a + 1, by omega, by go_num, by rw [hfin.out]; exact HRI.out, HBF.out⟩
                  case measure => simp [intOf]; omega
          · obtain rfl : a = f.blocks.length := by omega
            have hfin : Hid (fromN (nxF f.blocks) z f.blocks.length q (i + 1) = S) := Lib.hid HS.out.symm
            clear hrw hbb
            go_wp2_with fail
            go_roundw
            case rel => exact ⟨i + 1, by omega, by go_num, by rw [hfin.out]; exact HRA.out, HBA.out⟩
            case measure => simp [intOf]; omega
      · obtain rfl : i = f.blocks.length := by omega
        have HFIN := Lib.hid (HRW.out.congr (g := fun x => .bool (fromB f.blocks q z x)) fun x _ => by rw [HRES.out])
        go_wp2_with fail
        go_ret
        exact ⟨⟨H, rfl, by omega, HFIN.out⟩, HB2.out.trans (HBB.out.below (by omega) (by omega))⟩
  · have HRES : Hid (∀ x, fromB f.blocks b z x = false) := Lib.hid (fun x => by unfold fromB; rw [if_neg hok])
    have HFIN := Lib.hid (HROW.out.congr (g := fun x => .bool (fromB f.blocks b z x)) fun x _ => by rw [HRES.out])
    by_cases h0 : b < 0
    · clear hok
      go_wp2_with fail
      go_ret
      exact ⟨⟨H, rfl, by omega, HFIN.out⟩, HB2.out⟩
    · by_cases h1 : (f.blocks.length : Int) ≤ b
      · clear hok
        go_wp2_with fail
        go_ret
        exact ⟨⟨H, rfl, by omega, HFIN.out⟩, HB2.out⟩
      · have hbz : (b == z) = true := by rw [beq_iff_eq]; omega
        have h1' : decide ((f.blocks.length : Int) ≤ b) = false := decide_eq_false h1
        clear hok
        go_wp2_with fail
        go_ret
        exact ⟨⟨H, rfl, by omega, HFIN.out⟩, HB2.out⟩
end Go.Proofs.Ytooblmiffgjmjaa
