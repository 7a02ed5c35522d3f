/- The reference of layer 5: From. -/
import Derived.Test.YtflbooopgjgkbaaGrEJ
import Derived.Test.YtflbooopgjgkbaaDmAJ
import Derived.StillTailTactics
import Derived.Deep.RegionHeld3
import Derived.Test.YtflbooopgjgkbaaGrFJ
namespace Go.Proofs.Ytflbooopgjgkbaa
open Go.ChangeShapes Go.WideShapes Go.RowKit Go.Deep
set_option linter.unusedVariables false

/-- What can be come to from a block without going by another one. -/
def fromB (bs : List BlkD) (b w : Int) (x : Nat) : Bool := if 0 ≤ b ∧ b < bs.length ∧ b ≠ w then fromN (nxF bs) w bs.length b.toNat bs.length x else false
theorem range_fold {nx : Nat → List Nat} {w : Int} {S : Nat → Bool} (a : Nat) : (List.range (a + 1)).foldl (fromA nx w) S = fromA nx w ((List.range a).foldl (fromA nx w) S) a := by
  rw [List.range_succ, List.foldl_append]; rfl
theorem mk_fold {w : Int} {S : Nat → Bool} {l : List Nat} {k q : Nat} (h : l[k]? = some q) : (l.take (k + 1)).foldl (mkW w) S = mkW w ((l.take k).foldl (mkW w) S) q := by
  rw [take_succ_of h, List.foldl_append]; rfl
def ToldF_ (bs : List BlkD) (b w : Int) (W : World) (e : Ending) (W' : World) : Prop :=
  (∃ H, e = .returned (.slice (some ⟨H, 0, none⟩) bs.length bs.length) ∧ W.heap.size ≤ H ∧ W'.rowIs H 4 bs.length (fun x => .bool (fromB bs b w x))) ∧ Below W.heap.size W W'

set_option maxRecDepth 100000 in
set_option maxHeartbeats 8000000 in
theorem from_any (f : FunD) (b z : Int) (v : Value) (w : World) (hv : VFun w v f) (hn : f.blocks.length ≤ 1000) :
    Calls Try.prog 32 #[v, .int .i64 b, .int .i64 z] w (ToldF_ f.blocks b z w) := by
  have hv0 := hv
  obtain ⟨Ar, cr, A, c, rfl, -, -, -, -⟩ := hv
  have hmk := run_make_row' (P := Try.prog) 46 4 (.bool false) 1 Try.underlying46 Try.info4 rfl .i64 .i64 f.blocks.length (by omega) (by omega)
  have HV := Lib.hid hv0
  clear hv0
  go_enter Try.func32, Try.ntmps32
  go_upto_region 2 with fail
  clear hmk
  obtain ⟨w1, hw1, hs1, hk1, hbel1, hc1, -⟩ := named w #[.int .i64 f.params, .int .i64 f.result, .slice Ar f.regs.length cr, .slice A f.blocks.length c] 25
  rw [← hw1]
  obtain ⟨H, hH⟩ : ∃ H, H = w.heap.size + 1 := ⟨_, rfl⟩
  have hrow := World.rowIs_made w1 (.bool false) f.blocks.length 4
  have hb2 : Below w1.heap.size w1 (w1.alloc (.cells (madeCells #[.bool false] f.blocks.length) 4)) := (Below.refl _ _).alloc (Nat.le_refl _) _
  have hz2 : (w1.alloc (.cells (madeCells #[.bool false] f.blocks.length) 4)).heap.size = w1.heap.size + 1 := by simp
  rw [hs1, ← hH] at hrow hb2 hz2
  rw [← hH]
  generalize w1.alloc (.cells (madeCells #[.bool false] f.blocks.length) 4) = w2 at *
  have hk2 := kept_below hb2 (by omega)
  have c0 := hk2 _ _ (hc1 0 _ rfl)
  have c1 := hk2 _ _ (hc1 1 _ rfl)
  have c2 := hk2 _ _ (hc1 2 _ rfl)
  have c3 := hk2 _ _ (hc1 3 _ rfl)
  have HHW : Hid (w.heap.size + 1 = H) := Lib.hid (by omega)
  have hhw : w.heap.size < H := by omega
  have hh2 : H < w2.heap.size := by omega
  have HB2 : Hid (Below w.heap.size w w2) := Lib.hid (hbel1.trans (hb2.mono (by omega)))
  have HV2 : Hid (VFun w2 (.agg #[.int .i64 f.params, .int .i64 f.result, .slice Ar f.regs.length cr, .slice A f.blocks.length c]) f) := Lib.hid (VFun.keep (hk1.trans hk2) HV.out)
  have HROW := Lib.hid hrow
  have HV0 := HV
  clear hw1 hs1 hk1 hbel1 hc1 hb2 hz2 hk2 hH hrow HV
  by_cases hok : 0 ≤ b ∧ b < f.blocks.length ∧ b ≠ z
  · obtain ⟨h1, h2, h3⟩ := hok
    obtain ⟨q, rfl⟩ : ∃ q : Nat, b = q := ⟨b.toNat, by omega⟩
    have hq : q < f.blocks.length := by omega
    have hne : ((q : Int) == z) = false := by rw [beq_eq_false_iff_ne]; exact h3
    have hge : ¬ ((f.blocks.length : Int) ≤ q) := by omega
    have hge' : decide ((f.blocks.length : Int) ≤ q) = false := decide_eq_false hge
    have HRES : Hid (∀ x, fromB f.blocks q z x = fromN (nxF f.blocks) z f.blocks.length q f.blocks.length x) := Lib.hid (fun x => by unfold fromB; rw [if_pos ⟨h1, h2, h3⟩]; simp)
    have hcell := HROW.out.cell hq
    have hfr := HROW.out.frozen q
    have hset := (HROW.out.set q (.bool true)).congr (g := fun x => .bool (mark noneSeen q x)) fun x _ => by unfold mark noneSeen; by_cases e : x = q <;> simp [e]
    have hbs : BB w2.heap.size H w2 (w2.setCell ⟨H, q, none⟩ (.bool true)) := (BB.refl w2.heap.size H w2).setCell (p := ⟨H, q, none⟩) (.inl rfl) _
    clear h3
    go_upto_region 5 with fail
    clear hcell hfr
    generalize hW3 : w2.setCell ⟨H, q, none⟩ (.bool true) = w3 at *
    clear hW3
    have HSET := Lib.hid hset
    have HBS := Lib.hid hbs
    clear hset hbs
    go_wp2_with fail
    go_loopw [8] (fun s8 wr => ∃ i : Nat, i ≤ f.blocks.length ∧ s8 = .int .i64 i ∧ wr.rowIs H 4 f.blocks.length (fun x => .bool (fromN (nxF f.blocks) z f.blocks.length q i x)) ∧ BB w2.heap.size H w2 wr) (fun s8 _ => f.blocks.length - (intOf s8).toNat)
    case atStart => exact ⟨0, Nat.zero_le _, rfl, HSET.out, HBS.out⟩
    case round =>
      obtain ⟨i, hi, rfl, hrw, hbb⟩ := hrel
      have HRW := Lib.hid hrw
      have HBB := Lib.hid hbb
      clear hrw hbb
      obtain ⟨wo, rfl⟩ : ∃ wo, wo = wr := ⟨wr, rfl⟩
      by_cases hlt : i < f.blocks.length
      · go_wp2_with fail
        go_loopw [9] (fun s9 wr => ∃ a : Nat, a ≤ f.blocks.length ∧ s9 = .int .i64 a ∧ wr.rowIs H 4 f.blocks.length (fun x => .bool ((List.range a).foldl (fromA (nxF f.blocks) z) (fromN (nxF f.blocks) z f.blocks.length q i) x)) ∧ BB w2.heap.size H w2 wr) (fun s9 _ => f.blocks.length - (intOf s9).toNat)
        case atStart => exact ⟨0, Nat.zero_le _, rfl, HRW.out, HBB.out⟩
        case round =>
          obtain ⟨a, ha, rfl, hrw, hbb⟩ := hrel
          obtain ⟨wm, rfl⟩ : ∃ wm, wm = wr := ⟨wr, rfl⟩
          have HSUC := Lib.hid (range_fold (nx := nxF f.blocks) (w := z) (S := fromN (nxF f.blocks) z f.blocks.length q i) a)
          obtain ⟨S, hS⟩ : ∃ S, S = (List.range a).foldl (fromA (nxF f.blocks) z) (fromN (nxF f.blocks) z f.blocks.length q i) := ⟨_, rfl⟩
          rw [← hS] at hrw HSUC
          have HS := Lib.hid hS
          clear hS HRW HBB
          have HRA := Lib.hid hrw
          have HBA := Lib.hid hbb
          by_cases hlta : a < f.blocks.length
          · have hsc := hrw.cell hlta
            have ha0 : (0 : Int) ≤ a := by omega
            have ha1 : (a : Int) < f.blocks.length := by omega
            cases hsa : S a
            · rw [hsa] at hsc
              have HSU : Hid ((List.range (a + 1)).foldl (fromA (nxF f.blocks) z) (fromN (nxF f.blocks) z f.blocks.length q i) = S) := Lib.hid (by rw [HSUC.out]; unfold fromA; rw [hsa]; rfl)
              clear hsa hrw hbb
              go_wp2_with fail
              go_roundw
              case rel => exact ⟨a + 1, by omega, by go_num, by rw [HSU.out]; exact HRA.out, HBA.out⟩
              case measure => simp [intOf]; omega
            · rw [hsa] at hsc
              have HSU : Hid ((List.range (a + 1)).foldl (fromA (nxF f.blocks) z) (fromN (nxF f.blocks) z f.blocks.length q i) = (nxF f.blocks a).foldl (mkW z) S) := Lib.hid (by rw [HSUC.out]; unfold fromA; rw [hsa]; rfl)
              have hkb : ∀ y o u, y < w2.heap.size → y ≠ H → w2.cell? ⟨y, o, none⟩ = some u → wm.cell? ⟨y, o, none⟩ = some u := fun y o u h1 h2 hu => (World.cell?_of_block (a := ⟨y, o, none⟩) (hbb.block y h1 h2)).trans hu
              have d0 := hkb _ _ _ (by omega) (by omega) c0
              have d1 := hkb _ _ _ (by omega) (by omega) c1
              have d2 := hkb _ _ _ (by omega) (by omega) c2
              have d3 := hkb _ _ _ (by omega) (by omega) c3
              have hzr := hbb.size
              have hbw : Below w2.heap.size w2 w2 := Below.refl _ _
              have HVR : Hid (VFun wm (.agg #[.int .i64 f.params, .int .i64 f.result, .slice Ar f.regs.length cr, .slice A f.blocks.length c]) f) := Lib.hid (VFun.keep (kept_of_below (HB2.out.trans (hbb.below (by omega) (by omega)))) HV0.out)
              have HN := Lib.hid (refNext_any f a _ wm HVR.out (by omega) hlta)
              clear hsa hrw hbb hkb
              go_wp2_with fail
              refine HN.out.mono ?_
              rintro e w5 ⟨⟨vl, rfl, hl⟩, hb5⟩
              have hk5 := kept_of_below hb5
              have d0 := hk5 _ _ d0
              have d1 := hk5 _ _ d1
              have d2 := hk5 _ _ d2
              have d3 := hk5 _ _ d3
              have HR5 := Lib.hid (HRA.out.of_block (hb5.block H HRA.out.lt))
              have HB5 : Hid (BB w2.heap.size H w2 w5) := Lib.hid (HBA.out.trans (BB.of_below hb5 hzr))
              have hll : (nxF f.blocks a).length ≤ f.blocks.length := by
                unfold nxF; split
                · exact nextN_few _ _
                · simp
              have HLT := Lib.hid (nxF_lt f.blocks a)
              have hz5 := hb5.size
              generalize nxF f.blocks a = l at *
              obtain ⟨Al, cl, rfl, hsl⟩ := slB_of_own (B := fun g => wm.heap.size ≤ g ∧ g < w5.heap.size) (xs := zs l) (by rw [zs_len]; exact hl) (fun y hy => by obtain ⟨t, ht, rfl⟩ := zs_mem hy; have := HLT.out t ht; unfold I64; omega) (fun _ h1 h2 => ⟨h1, h2⟩)
              rw [zs_len]
              have HSL := Lib.hid hsl
              have hHr : H < wm.heap.size := HRA.out.lt
              clear hl hb5 hk5 hsl HN hsc
              go_wp2_with fail
              go_loopw [11] (fun s11 wi => ∃ k : Nat, k ≤ l.length ∧ s11 = .int .i64 k ∧ wi.rowIs H 4 f.blocks.length (fun x => .bool ((l.take k).foldl (mkW z) S x)) ∧ BB w5.heap.size H w5 wi) (fun s11 _ => l.length - (intOf s11).toNat)
              case atStart => exact ⟨0, Nat.zero_le _, rfl, by simpa using HR5.out, BB.refl _ _ _⟩
              case round =>
                obtain ⟨k, hk, rfl, hri, hbi⟩ := hrel
                obtain ⟨wi, rfl⟩ : ∃ wi, wi = wr := ⟨wr, rfl⟩
                have hsi := SIntsB.go (B := fun g => wm.heap.size ≤ g ∧ g < w5.heap.size) (B' := fun _ => True) (w := w5) (w' := wi) (fun a v hb ha => (World.cell?_of_block (hbi.block a.block hb.2 (by have := hb.1; omega))).trans ha) (fun _ _ => trivial) HSL.out
                have HRI := Lib.hid hri
                have HBI := Lib.hid hbi
                by_cases hkl : k < l.length
                · obtain ⟨bl, ol, y, rfl, hy, -, hyc, -⟩ := hsi.at_ (k := k) (by rw [zs_len]; exact hkl)
                  obtain ⟨t, ht, rfl⟩ := zs_at hy.out
                  have htn : t < f.blocks.length := HLT.out t (List.mem_of_getElem? ht)
                  have hyc : wi.cell? ⟨bl, ol + k, none⟩ = some (.int .i64 (t : Int)) := by rw [Nat.mul_one] at hyc; exact hyc
                  have ht0 : (0 : Int) ≤ t := by omega
                  have ht1 : (t : Int) < f.blocks.length := by omega
                  have hk0 : (0 : Int) ≤ k := by omega
                  have hk1 : (k : Int) < l.length := by omega
                  have HMK := Lib.hid (mk_fold (w := z) (S := S) ht)
                  by_cases htz : (t : Int) = z
                  · have hbz : ((t : Int) != z) = false := by simp [htz]
                    have HS2 : Hid ((l.take (k + 1)).foldl (mkW z) S = (l.take k).foldl (mkW z) S) := Lib.hid (by rw [HMK.out]; unfold mkW; rw [if_pos htz])
                    clear htz ht hsi hri hbi
                    go_wp2_with fail
                    go_roundw
                    case rel => exact ⟨k + 1, by omega, by go_num, by rw [HS2.out]; exact HRI.out, HBI.out⟩
                    case measure => simp [intOf]; omega
                  · have hbz : ((t : Int) != z) = true := by simpa using htz
                    have HS2 : Hid ((l.take (k + 1)).foldl (mkW z) S = mark ((l.take k).foldl (mkW z) S) t) := Lib.hid (by rw [HMK.out]; unfold mkW; rw [if_neg htz])
                    have hcc := hri.cell htn
                    have hcf := hri.frozen t
                    have HR2 := Lib.hid ((hri.set t (.bool true)).congr (g := fun x => .bool ((l.take (k + 1)).foldl (mkW z) S x)) fun x _ => by rw [HS2.out]; unfold mark; by_cases e : x = t <;> simp [e])
                    clear htz ht hsi hri hbi
                    go_wp2_with fail
                    go_roundw
                    case rel => exact ⟨k + 1, by omega, by go_num, HR2.out, HBI.out.setCell (.inl rfl) _⟩
                    case measure => simp [intOf]; omega
                · have hfin : Hid ((List.range (a + 1)).foldl (fromA (nxF f.blocks) z) (fromN (nxF f.blocks) z f.blocks.length q i) = (l.take k).foldl (mkW z) S) := Lib.hid (by rw [HSU.out, List.take_of_length_le (by omega)])
                  have HBF : Hid (BB w2.heap.size H w2 wi) := Lib.hid (HB5.out.trans (HBI.out.mono (by omega)))
                  clear hsi hri hbi
                  go_wp2_with fail
                  go_roundw
                  case rel => exact ⟨a + 1, by omega, by go_num, by rw [hfin.out]; exact HRI.out, HBF.out⟩
                  case measure => simp [intOf]; omega
          · obtain rfl : a = f.blocks.length := by omega
            have hfin : Hid (fromN (nxF f.blocks) z f.blocks.length q (i + 1) = S) := Lib.hid HS.out.symm
            clear hrw hbb
            go_wp2_with fail
            go_roundw
            case rel => exact ⟨i + 1, by omega, by go_num, by rw [hfin.out]; exact HRA.out, HBA.out⟩
            case measure => simp [intOf]; omega
      · obtain rfl : i = f.blocks.length := by omega
        have HFIN := Lib.hid (HRW.out.congr (g := fun x => .bool (fromB f.blocks q z x)) fun x _ => by rw [HRES.out])
        go_wp2_with fail
        go_ret
        exact ⟨⟨H, rfl, by omega, HFIN.out⟩, HB2.out.trans (HBB.out.below (by omega) (by omega))⟩
  · have HRES : Hid (∀ x, fromB f.blocks b z x = false) := Lib.hid (fun x => by unfold fromB; rw [if_neg hok])
    have HFIN := Lib.hid (HROW.out.congr (g := fun x => .bool (fromB f.blocks b z x)) fun x _ => by rw [HRES.out])
    by_cases h0 : b < 0
    · clear hok
      go_wp2_with fail
      go_ret
      exact ⟨⟨H, rfl, by omega, HFIN.out⟩, HB2.out⟩
    · by_cases h1 : (f.blocks.length : Int) ≤ b
      · clear hok
        go_wp2_with fail
        go_ret
        exact ⟨⟨H, rfl, by omega, HFIN.out⟩, HB2.out⟩
      · have hbz : (b == z) = true := by rw [beq_iff_eq]; omega
        have h1' : decide ((f.blocks.length : Int) ≤ b) = false := decide_eq_false h1
        clear hok
        go_wp2_with fail
        go_ret
        exact ⟨⟨H, rfl, by omega, HFIN.out⟩, HB2.out⟩
end Go.Proofs.Ytflbooopgjgkbaa

/- Which block dominates which, and the nearest: places told as blocks, in mathematics. No condition. -/
namespace Go.Proofs.Ytflbooopgjgkbaa
open Go.ChangeShapes Go.WideShapes Go.RowKit Go.Deep
set_option linter.unusedVariables false

/-- Whether a block dominates another one, as the document tells it. -/
def dmB (bs : List BlkD) (a b : Nat) : Bool := fromB bs 0 (-1) b && (decide (a = b) || !fromB bs 0 a b)
theorem from_reachD (bs : List BlkD) (x : Nat) : fromB bs 0 (-1) x = reachF bs x := by
  unfold fromB
  by_cases h : 0 < bs.length
  · rw [if_pos ⟨by omega, by omega, by omega⟩]
    exact fromN_reachB (nxF_lt bs) h x
  · rw [if_neg (by omega)]
    unfold reachF reachB
    rw [eq_comm, decide_eq_false_iff_not]
    intro hx
    have := orderL_lt (nxF_lt bs) hx
    omega
theorem from_iff {bs : List BlkD} (hn : 0 < bs.length) {a : Nat} (ha : a ≠ 0) (x : Nat) : fromB bs 0 a x = true ↔ Reach (nxW (nxF bs) a) 0 x := by
  unfold fromB
  rw [if_pos ⟨by omega, by omega, by omega⟩]
  exact fromN_iff (nxF_lt bs) hn x
theorem from_zero (bs : List BlkD) (x : Nat) : fromB bs 0 (0 : Nat) x = false := by unfold fromB; rw [if_neg (by omega)]
/-- The nearest, as the document tells it: the last that fits. -/
def isNear (bs : List BlkD) (b a : Nat) : Bool := decide (a ≠ b) && dmB bs a b && (List.range bs.length).all fun c => decide (c = b) || !dmB bs c b || dmB bs c a
def nearK (bs : List BlkD) (b : Nat) : Nat → Int
  | 0 => -1
  | a + 1 => if isNear bs b a = true then (a : Int) else nearK bs b a
def nearD (bs : List BlkD) (b : Nat) : Int := nearK bs b bs.length
theorem nearK_none {bs : List BlkD} {b : Nat} : ∀ k, (∀ a, a < k → isNear bs b a = false) → nearK bs b k = -1
  | 0, _ => rfl
  | k + 1, h => by unfold nearK; rw [if_neg (by rw [h k (by omega)]; simp)]; exact nearK_none k fun a ha => h a (by omega)
theorem nearK_of {bs : List BlkD} {b a : Nat} (ha : isNear bs b a = true) (hu : ∀ c, c < bs.length → isNear bs b c = true → c = a) : ∀ k, a < k → k ≤ bs.length → nearK bs b k = (a : Int)
  | 0, h, _ => by omega
  | k + 1, h, hk => by
    unfold nearK
    by_cases e : isNear bs b k = true
    · rw [if_pos e, hu k (by omega) e]
    · rw [if_neg e]
      have : k ≠ a := fun h => e (h ▸ ha)
      exact nearK_of ha hu k (by omega) (by omega)

/-- What is known of the blocks' nearest, by places. -/
structure NearB (bs : List BlkD) (N : Nat → Int) (ord : Nat → Nat) : Prop where
  none : ∀ b, b < bs.length → (fromB bs 0 (-1) b = false ∨ b = 0) → N b = -1
  some : ∀ b, b < bs.length → fromB bs 0 (-1) b = true → b ≠ 0 → ∃ a, a < bs.length ∧ N b = (a : Int) ∧ a ≠ b ∧ dmB bs a b = true ∧ ∀ c, c < bs.length → c ≠ b → dmB bs c b = true → dmB bs c a = true
  ord : ∀ a b, a < bs.length → b < bs.length → dmB bs a b = true → ord a ≤ ord b ∧ (ord a = ord b → a = b)
  self : ∀ a, a < bs.length → fromB bs 0 (-1) a = true → dmB bs a a = true
  trans : ∀ a b c, dmB bs a b = true → dmB bs b c = true → dmB bs a c = true
  first : ∀ b, b < bs.length → fromB bs 0 (-1) b = true → dmB bs 0 b = true
  reach : ∀ a b, a < bs.length → b < bs.length → dmB bs a b = true → fromB bs 0 (-1) a = true

variable {bs : List BlkD} {k : Nat} {bl par s D : Nat → Nat} {ah : Nat → List Nat} {pl : Nat → Int}
theorem TvE.av_of (T : TvE (nxF bs) bs.length k bl par ah pl) {p q : Nat} (hp : p < k) (h : AvP (EdgeP (nxF bs) k bl) p q) : q < k ∧ Reach (nxW (nxF bs) (bl p)) 0 (bl q) ∧ bl p ≠ 0 := by
  have hinj : ∀ x y, x < k → y < k → bl x = bl y → x = y := fun x y hx hy e => by
    have h1 := (T.blk x hx).2
    have h2 := (T.blk y hy).2
    rw [e] at h1; omega
  induction h with
  | zero h0 =>
    refine ⟨T.first.1, by rw [T.first.2]; exact .refl, fun e => h0 (hinj 0 p T.first.1 hp (by rw [T.first.2, e]))⟩
  | @step u v h1 h2 h3 ih =>
    obtain ⟨_, i2, i3⟩ := ih
    refine ⟨h2.2.1, .step i2 (nxW_mem.2 ⟨h2.2.2, fun e => h3 (hinj v p h2.2.1 hp (by omega))⟩), i3⟩
theorem TvE.av_to (T : TvE (nxF bs) bs.length k bl par ah pl) {p : Nat} (hp : p < k) (h0 : bl p ≠ 0) {b : Nat} (h : Reach (nxW (nxF bs) (bl p)) 0 b) : ∃ q, q < k ∧ bl q = b ∧ AvP (EdgeP (nxF bs) k bl) p q := by
  induction h with
  | refl => exact ⟨0, T.first.1, T.first.2, .zero fun e => h0 (by rw [← e]; exact T.first.2)⟩
  | @step x y hx hy ih =>
    obtain ⟨q, h1, h2, h3⟩ := ih
    obtain ⟨hy1, hy2⟩ := nxW_mem.1 hy
    have hyn : y < bs.length := nxF_lt bs _ _ hy1
    have hr : Reach (nxF bs) 0 y := by
      have key : ∀ z, Reach (nxW (nxF bs) (bl p)) 0 z → Reach (nxF bs) 0 z := fun z hz => by
        induction hz with
        | refl => exact .refl
        | step _ hb ih => exact .step ih (nxW_mem.1 hb).1
      exact .step (key x hx) hy1
    have hpl := (T.reach y hyn).1 hr
    rcases T.plc y hyn with h4 | ⟨r, h4, h5, h6⟩
    · omega
    · refine ⟨r, h4, h6, .step h3 ⟨h1, h4, by rw [h6, h2]; exact hy1⟩ fun e => hy2 ?_⟩
      rw [← h6, e]
/-- Of places: the one's block dominates the other's. -/
theorem TvE.dm_iff (T : TvE (nxF bs) bs.length k bl par ah pl) (hn : 0 < bs.length) {p q : Nat} (hp : p < k) (hq : q < k) : dmB bs (bl p) (bl q) = true ↔ ¬ AvP (EdgeP (nxF bs) k bl) p q := by
  have hinj : ∀ x y, x < k → y < k → bl x = bl y → x = y := fun x y hx hy e => by
    have h1 := (T.blk x hx).2
    have h2 := (T.blk y hy).2
    rw [e] at h1; omega
  have hre : fromB bs 0 (-1) (bl q) = true := by
    rw [from_reachD]; unfold reachF reachB
    rw [decide_eq_true_iff, orderL_mem (nxF_lt bs) (by omega)]
    exact (T.reach _ (T.blk q hq).1).2 (by rw [(T.blk q hq).2]; omega)
  unfold dmB
  rw [hre, Bool.true_and, Bool.or_eq_true, decide_eq_true_iff]
  constructor
  · rintro (h | h) hav
    · exact av_self hav (hinj q p hq hp h.symm)
    · obtain ⟨_, h2, h3⟩ := T.av_of hp hav
      rw [(from_iff hn h3 _).2 h2] at h
      cases h
  · intro h
    by_cases e : bl p = bl q
    · exact .inl e
    · right
      by_cases h0 : bl p = 0
      · rw [h0, from_zero]; rfl
      · cases hf : fromB bs 0 (bl p) (bl q)
        · rfl
        · obtain ⟨r, h1, h2, h3⟩ := T.av_to hp h0 ((from_iff hn h0 _).1 hf)
          rw [hinj r q h1 hq h2] at h3
          exact absurd h3 h
/-- What dominates is reached. -/
theorem TvE.dm_place (T : TvE (nxF bs) bs.length k bl par ah pl) (hn : 0 < bs.length) {a b : Nat} (ha : a < bs.length) (hb : b < bs.length) (h : dmB bs a b = true) : ∃ p q, p < k ∧ q < k ∧ bl p = a ∧ bl q = b := by
  have hre : fromB bs 0 (-1) b = true := by unfold dmB at h; rw [Bool.and_eq_true] at h; exact h.1
  have hr : Reach (nxF bs) 0 b := by
    rw [from_reachD] at hre; unfold reachF reachB at hre
    rw [decide_eq_true_iff, orderL_mem (nxF_lt bs) (by omega)] at hre
    exact hre
  obtain ⟨q, hq, -, hbq⟩ : ∃ q, q < k ∧ pl b = (q : Int) ∧ bl q = b := by
    have := (T.reach b hb).1 hr
    rcases T.plc b hb with h1 | h1
    · omega
    · exact h1
  rcases T.plc a ha with h1 | ⟨p, hp, -, hap⟩
  · exfalso
    have hna : ¬ Reach (nxF bs) 0 a := fun h2 => by have := (T.reach a ha).1 h2; omega
    have ha0 : a ≠ 0 := fun e => hna (by rw [e]; exact .refl)
    have hab : a ≠ b := fun e => hna (by rw [e]; exact hr)
    have key : ∀ z, Reach (nxF bs) 0 z → Reach (nxW (nxF bs) a) 0 z ∧ Reach (nxF bs) 0 z := fun z hz => by
      induction hz with
      | refl => exact ⟨.refl, .refl⟩
      | @step x y hx hy ih =>
        have h3 : Reach (nxF bs) 0 y := .step ih.2 hy
        exact ⟨.step ih.1 (nxW_mem.2 ⟨hy, fun e => hna (by rw [show a = y by omega]; exact h3)⟩), h3⟩
    unfold dmB at h
    rw [hre, (from_iff hn ha0 b).2 (key b hr).1] at h
    simp [hab] at h
  · exact ⟨p, q, hp, hq, hap, hbq⟩
/-- What the program's nearest are, block by block. -/
def nearI (bl D : Nat → Nat) (pl : Nat → Int) (b : Nat) : Int := if pl b ≤ 0 then -1 else (bl (D (pl b).toNat) : Int)
theorem TvE.near (T : TvE (nxF bs) bs.length k bl par ah pl) (hn : 0 < bs.length) (S : EarlyP 1 k (EdgeP (nxF bs) k bl) par s) (N : NearP k par s D) : NearB bs (nearI bl D pl) (fun b => (pl b).toNat) := by
  have hre : ∀ b, b < bs.length → (fromB bs 0 (-1) b = true ↔ 0 ≤ pl b) := fun b hb => by
    rw [from_reachD]; unfold reachF reachB
    rw [decide_eq_true_iff, orderL_mem (nxF_lt bs) (by omega)]
    exact T.reach b hb
  have hplc : ∀ b, b < bs.length → 0 ≤ pl b → ∃ q, q < k ∧ pl b = (q : Int) ∧ bl q = b := fun b hb h => by
    rcases T.plc b hb with h1 | h1
    · omega
    · exact h1
  have hinj : ∀ x y, x < k → y < k → bl x = bl y → x = y := fun x y hx hy e => by
    have h1 := (T.blk x hx).2
    have h2 := (T.blk y hy).2
    rw [e] at h1; omega
  have hp0 : pl 0 = 0 := by have := (T.blk 0 T.first.1).2; rw [T.first.2] at this; simpa using this
  refine ⟨fun b hb h => ?_, fun b hb hr h0 => ?_, fun a b ha hb h => ?_, fun a ha h => ?_, fun a b c h1 h2 => ?_, fun b hb hr => ?_, fun a b ha hb h => ?_⟩
  · unfold nearI
    rw [if_pos]
    rcases h with h | h
    · apply Classical.byContradiction
      intro h2
      rw [(hre b hb).2 (by omega)] at h; cases h
    · rw [h, hp0]; omega
  · obtain ⟨q, hq, hpq, hbq⟩ := hplc b hb ((hre b hb).1 hr)
    have hq0 : 0 < q := by
      rcases Nat.eq_zero_or_pos q with h | h
      · exact absurd (by rw [← hbq, h]; exact T.first.2) h0
      · exact h
    have hlt : D q < q := by have := near_le T.tree S N q hq0 hq; have := S.lt T.tree hq0 hq; omega
    have hv : nearI bl D pl b = (bl (D q) : Int) := by unfold nearI; rw [if_neg (by omega), hpq]; rfl
    refine ⟨bl (D q), (T.blk _ (by omega)).1, hv, fun e => ?_, ?_, fun c hc hcb h => ?_⟩
    · have := hinj (D q) q (by omega) hq (by rw [e, hbq]); omega
    · rw [← hbq]
      exact (T.dm_iff hn (by omega) hq).2 (near_sound T.tree S N q hq0 hq)
    · obtain ⟨p, q', hp, hq', hcp, hbq'⟩ := T.dm_place hn hc hb h
      rw [← hcp] at h ⊢
      rw [← hbq] at h
      have h2 := (T.dm_iff hn hp hq).1 h
      exact (T.dm_iff hn hp (by omega)).2 (dom_near T.tree S N hq0 hq h2 fun e => hcb (by rw [← hcp, e, hbq]))
  · obtain ⟨p, q, hp, hq, hap, hbq⟩ := T.dm_place hn ha hb h
    rw [← hap, ← hbq] at h ⊢
    have h2 := dom_le T.tree hq ((T.dm_iff hn hp hq).1 h)
    rw [(T.blk p hp).2, (T.blk q hq).2]
    exact ⟨by simpa using h2, fun e => by have : p = q := by simpa using e
                                          rw [this]⟩
  · unfold dmB; rw [h]; simp
  · have hr2 : fromB bs 0 (-1) c = true := by unfold dmB at h2; rw [Bool.and_eq_true] at h2; exact h2.1
    have hr1 : fromB bs 0 (-1) b = true := by unfold dmB at h1; rw [Bool.and_eq_true] at h1; exact h1.1
    have hlt : ∀ x, fromB bs 0 (-1) x = true → x < bs.length := fun x hx => by
      rw [from_reachD] at hx; unfold reachF reachB at hx
      rw [decide_eq_true_iff] at hx
      exact orderL_lt (nxF_lt bs) hx
    have hb := hlt b hr1
    have hc := hlt c hr2
    by_cases ha : a < bs.length
    · obtain ⟨p, q, hp, hq, hap, hbq⟩ := T.dm_place hn ha hb h1
      obtain ⟨q', r, hq', hr, hbq', hcr⟩ := T.dm_place hn hb hc h2
      rw [← hap, ← hbq] at h1
      rw [← hbq, ← hcr] at h2
      rw [← hap, ← hcr]
      exact (T.dm_iff hn hp hr).2 (dom_trans ((T.dm_iff hn hp hq).1 h1) ((T.dm_iff hn hq hr).1 h2))
    · exfalso
      unfold dmB at h1
      rw [hr1, Bool.true_and, Bool.or_eq_true, decide_eq_true_iff] at h1
      rcases h1 with h1 | h1
      · omega
      · have ha0 : a ≠ 0 := by omega
        have key : ∀ z, Reach (nxF bs) 0 z → Reach (nxW (nxF bs) a) 0 z := fun z hz => by
          induction hz with
          | refl => exact .refl
          | @step x y hx hy ih => exact .step ih (nxW_mem.2 ⟨hy, fun e => by have := nxF_lt bs _ _ hy; omega⟩)
        have hrb : Reach (nxF bs) 0 b := (T.reach b hb).2 ((hre b hb).1 hr1)
        rw [(from_iff hn ha0 b).2 (key b hrb)] at h1
        cases h1
  · obtain ⟨q, hq, hpq, hbq⟩ := hplc b hb ((hre b hb).1 hr)
    have h := (T.dm_iff hn T.first.1 hq).2 (fun hav => by
      have key : ∀ z, AvP (EdgeP (nxF bs) k bl) 0 z → False := fun z hz => by
        induction hz with
        | zero h => exact h rfl
        | step _ _ _ ih => exact ih
      exact key q hav)
    rwa [T.first.2, hbq] at h
  · obtain ⟨p, q, hp, hq, hap, hbq⟩ := T.dm_place hn ha hb h
    rw [hre a ha, ← hap, (T.blk p hp).2]; omega
theorem NearB.is_near {N : Nat → Int} {ord : Nat → Nat} (h : NearB bs N ord) {b : Nat} (hb : b < bs.length) : N b = nearD bs b := by
  have hall : ∀ a, isNear bs b a = true ↔ (a ≠ b ∧ dmB bs a b = true ∧ ∀ c, c < bs.length → c ≠ b → dmB bs c b = true → dmB bs c a = true) := fun a => by
    unfold isNear
    simp only [Bool.and_eq_true, decide_eq_true_iff, List.all_eq_true, List.mem_range, Bool.or_eq_true, Bool.not_eq_true', and_assoc]
    refine and_congr_right fun _ => and_congr_right fun _ => ⟨fun h c hc hcb hd => ?_, fun h c hc => ?_⟩
    · rcases h c hc with (h | h) | h
      · exact absurd h hcb
      · rw [hd] at h; cases h
      · exact h
    · by_cases hcb : c = b
      · exact .inl (.inl hcb)
      · cases hd : dmB bs c b
        · exact .inl (.inr rfl)
        · exact .inr (h c hc hcb hd)
  by_cases hr : fromB bs 0 (-1) b = true ∧ b ≠ 0
  · obtain ⟨a, ha, he, hab, hda, hall2⟩ := h.some b hb hr.1 hr.2
    rw [he]
    refine (nearK_of ((hall a).2 ⟨hab, hda, hall2⟩) (fun c hc hcn => ?_) bs.length ha (Nat.le_refl _)).symm
    obtain ⟨c1, c2, c3⟩ := (hall c).1 hcn
    have h1 := hall2 c hc c1 c2
    have h2 := c3 a ha hab hda
    have h3 := h.ord c a hc ha h1
    have h4 := h.ord a c ha hc h2
    exact h3.2 (by omega)
  · have hno : fromB bs 0 (-1) b = false ∨ b = 0 := by
      cases hf : fromB bs 0 (-1) b
      · exact .inl rfl
      · exact .inr (Classical.byContradiction fun h0 => hr ⟨hf, h0⟩)
    rw [h.none b hb hno]
    refine (nearK_none bs.length fun a ha => ?_).symm
    cases hi : isNear bs b a
    · rfl
    · obtain ⟨h1, h2, -⟩ := (hall a).1 hi
      have hrb : fromB bs 0 (-1) b = true := by unfold dmB at h2; rw [Bool.and_eq_true] at h2; exact h2.1
      rcases hno with h3 | h3
      · rw [h3] at hrb; cases hrb
      · subst h3
        have hra : dmB bs 0 a = true := h.first a ha (by
          -- what dominates is reached
          have := h2
          cases hfa : fromB bs 0 (-1) a
          · exfalso
            have h4 := h.ord a 0 ha hb h2
            -- block 0 dominates none that isn't reached: a can't dominate 0
            have ha0 : a ≠ 0 := h1
            unfold dmB at h2
            rw [hrb, (from_iff (by omega) ha0 0).2 .refl] at h2
            simp [ha0] at h2
          · rfl)
        have h3 := h.ord 0 a hb ha hra
        have h4 := h.ord a 0 ha hb h2
        exact absurd (h4.2 (by omega)) h1
theorem dm_reach {a b : Nat} (h : dmB bs a b = true) : fromB bs 0 (-1) b = true := by unfold dmB at h; rw [Bool.and_eq_true] at h; exact h.1
/-- What of those that dominate b is not yet marked ahead of y. -/
def upB (bs : List BlkD) (b : Nat) (y : Int) (a : Nat) : Bool := dmB bs a b && (decide (y < 0) || !dmB bs a y.toNat)
theorem NearB.up_step {N : Nat → Int} {ord : Nat → Nat} (h : NearB bs N ord) {a b q : Nat} (ha : a < bs.length) (hb : b < bs.length) (hq : q < bs.length) (hd : dmB bs q b = true) : (if a = q then true else upB bs b q a) = upB bs b (N q) a := by
  have hrq := h.reach q b hq hb hd
  by_cases hq0 : q = 0
  · rw [h.none q hq (.inr hq0)]
    unfold upB
    by_cases e : a = q
    · rw [if_pos e, e, hd]; simp
    · rw [if_neg e]
      have hno : dmB bs a q = false := by
        cases hdq : dmB bs a q
        · rfl
        · have h1 := h.first a ha (h.reach a q ha hq hdq)
          have h2 := h.ord 0 a (by omega) ha h1
          have h3 := h.ord a q ha hq hdq
          rw [hq0] at h3
          exact absurd (by rw [hq0]; exact h3.2 (by omega)) e
      simp [hno]
  · obtain ⟨p, hp, he, hpq, hdp, hall⟩ := h.some q hq hrq hq0
    rw [he]
    unfold upB
    have h0 : decide (((p : Nat) : Int) < 0) = false := decide_eq_false (by omega)
    have h0' : decide (((q : Nat) : Int) < 0) = false := decide_eq_false (by omega)
    rw [h0, h0', Int.toNat_natCast, Int.toNat_natCast]
    by_cases e : a = q
    · rw [if_pos e, e, hd]
      have hno : dmB bs q p = false := by
        cases hdq : dmB bs q p
        · rfl
        · have h1 := h.ord q p hq hp hdq
          have h2 := h.ord p q hp hq hdp
          exact absurd (h2.2 (by omega)) hpq
      simp [hno]
    · rw [if_neg e]
      have : dmB bs a q = dmB bs a p := by
        cases hdq : dmB bs a q
        · cases hdp2 : dmB bs a p
          · rfl
          · rw [h.trans a p q hdp2 hdp] at hdq; cases hdq
        · exact (hall a ha e hdq).symm
      rw [this]
theorem NearB.up_less {N : Nat → Int} {ord : Nat → Nat} (h : NearB bs N ord) {b q : Nat} (hb : b < bs.length) (hq : q < bs.length) (hd : dmB bs q b = true) : N q = -1 ∨ ∃ p, p < bs.length ∧ N q = (p : Int) ∧ dmB bs p b = true ∧ ord p < ord q := by
  by_cases hq0 : q = 0
  · exact .inl (h.none q hq (.inr hq0))
  · obtain ⟨p, hp, he, hpq, hdp, hall⟩ := h.some q hq (h.reach q b hq hb hd) hq0
    refine .inr ⟨p, hp, he, h.trans p q b hdp hd, ?_⟩
    have h2 := h.ord p q hp hq hdp
    have : ord p ≠ ord q := fun e => hpq (h2.2 e)
    omega
end Go.Proofs.Ytflbooopgjgkbaa

/- Of two blocks that dominate one the one dominates the other, in mathematics. No condition. -/
namespace Go.Proofs.Ytflbooopgjgkbaa
set_option linter.unusedVariables false

variable {bs : List BlkD}
/-- Of two that dominate one the one dominates the other. -/
theorem NearB.total {N : Nat → Int} {ord : Nat → Nat} (h : NearB bs N ord) : ∀ (m c : Nat), ord c ≤ m → c < bs.length → ∀ a b, a < bs.length → b < bs.length → dmB bs a c = true → dmB bs b c = true → dmB bs a b = true ∨ dmB bs b a = true := by
  intro m
  induction m using Nat.strongRecOn with
  | _ m ih =>
    intro c hm hc a b ha hb hac hbc
    by_cases ea : a = c
    · subst ea; exact .inr hbc
    · by_cases eb : b = c
      · subst eb; exact .inl hac
      · by_cases hc0 : c = 0
        · have h1 := h.first a ha (h.reach a c ha hc hac)
          have h2 := h.ord 0 a (by omega) ha h1
          have h3 := h.ord a c ha hc hac
          rw [hc0] at h3
          exact absurd (by rw [hc0]; exact h3.2 (by omega)) ea
        · obtain ⟨p, hp, -, hpc, hdp, hall⟩ := h.some c hc (dm_reach hac) hc0
          have h1 := h.ord p c hp hc hdp
          have hlt : ord p < ord c := by
            have : ord p ≠ ord c := fun e => hpc (h1.2 e)
            omega
          exact ih (ord p) (by omega) p (Nat.le_refl _) hp a b ha hb (hall a ha ea hac) (hall b hb eb hbc)
theorem NearB.totalB {N : Nat → Int} {ord : Nat → Nat} (h : NearB bs N ord) {a b c : Nat} (hc : c < bs.length) (ha : a < bs.length) (hb : b < bs.length) : (dmB bs a c && dmB bs b c && !dmB bs a b && !dmB bs b a) = false := by
  cases h1 : dmB bs a c
  · rfl
  · cases h2 : dmB bs b c
    · rfl
    · rcases h.total (ord c) c (Nat.le_refl _) hc a b ha hb h1 h2 with h3 | h3
      · rw [h3]; simp
      · rw [h3]; simp
theorem NearB.transB {N : Nat → Int} {ord : Nat → Nat} (h : NearB bs N ord) (a b c : Nat) : (dmB bs a b && dmB bs b c && !dmB bs a c) = false := by
  cases h1 : dmB bs a b
  · rfl
  · cases h2 : dmB bs b c
    · rfl
    · rw [h.trans a b c h1 h2]; rfl
theorem NearB.unlike {N : Nat → Int} {ord : Nat → Nat} (h : NearB bs N ord) {a b : Nat} (ha : a < bs.length) (hb : b < bs.length) (hne : a ≠ b) : (dmB bs a b && dmB bs b a) = false := by
  cases h1 : dmB bs a b
  · rfl
  · cases h2 : dmB bs b a
    · rfl
    · have h3 := h.ord a b ha hb h1
      have h4 := h.ord b a hb ha h2
      exact absurd (h3.2 (by omega)) hne
theorem NearB.at_self {N : Nat → Int} {ord : Nat → Nat} (h : NearB bs N ord) {a : Nat} (ha : a < bs.length) : dmB bs a a = fromB bs 0 (-1) a := by
  cases h1 : fromB bs 0 (-1) a
  · cases h2 : dmB bs a a
    · rfl
    · rw [dm_reach h2] at h1; cases h1
  · exact h.self a ha h1
theorem NearB.at_first {N : Nat → Int} {ord : Nat → Nat} (h : NearB bs N ord) {a : Nat} (ha : a < bs.length) : dmB bs 0 a = fromB bs 0 (-1) a := by
  cases h1 : fromB bs 0 (-1) a
  · cases h2 : dmB bs 0 a
    · rfl
    · rw [dm_reach h2] at h1; cases h1
  · exact h.first a ha h1

end Go.Proofs.Ytflbooopgjgkbaa

/- The blocks that are reached and lead to one, in mathematics. No condition. -/
namespace Go.Proofs.Ytflbooopgjgkbaa
set_option linter.unusedVariables false

def raL (bs : List BlkD) (k b : Nat) : List Nat := (List.range k).filter fun c => reachF bs c && decide (b ∈ nxF bs c)
def raJ (bs : List BlkD) (k j b : Nat) : List Nat := raL bs k b ++ (if b ∈ (nxF bs k).take j then [k] else [])
theorem raL_zero (bs : List BlkD) (b : Nat) : raL bs 0 b = [] := rfl
theorem raL_succ (bs : List BlkD) (k b : Nat) : raL bs (k + 1) b = raL bs k b ++ (if (reachF bs k && decide (b ∈ nxF bs k)) = true then [k] else []) := by
  unfold raL
  rw [List.range_succ, List.filter_append]
  congr 1
  by_cases h : (reachF bs k && decide (b ∈ nxF bs k)) = true
  · rw [if_pos h]; simp [h]
  · rw [if_neg h]; simp [h]
theorem raL_not {bs : List BlkD} {k : Nat} (h : reachF bs k = false) (b : Nat) : raL bs k b = raL bs (k + 1) b := by rw [raL_succ, h]; simp
theorem raJ_zero (bs : List BlkD) (k b : Nat) : raL bs k b = raJ bs k 0 b := by unfold raJ; simp
theorem raJ_all {bs : List BlkD} {k j : Nat} (h : reachF bs k = true) (hj : (nxF bs k).length ≤ j) (b : Nat) : raJ bs k j b = raL bs (k + 1) b := by
  unfold raJ; rw [raL_succ, h, List.take_of_length_le hj]; simp
theorem nxF_nodup (bs : List BlkD) (k : Nat) : (nxF bs k).Nodup := by
  unfold nxF; split
  · exact nextN_nodup _ _
  · simp
theorem raJ_step {bs : List BlkD} {k j t : Nat} (ht : (nxF bs k)[j]? = some t) (b : Nat) : (if b = t then raJ bs k j t ++ [k] else raJ bs k j b) = raJ bs k (j + 1) b := by
  have hnd := nxF_nodup bs k
  have hnot : t ∉ (nxF bs k).take j := fun hm => by
    obtain ⟨i, hi, he⟩ := List.mem_iff_getElem.1 hm
    have hi' : i < j := by simp at hi; omega
    have hjl := (List.getElem?_eq_some_iff.1 ht).1
    rw [List.getElem_take] at he
    have := (List.getElem?_eq_some_iff.1 ht).2
    exact List.pairwise_iff_getElem.1 hnd i j (by omega) hjl hi' (he.trans this.symm)
  unfold raJ
  rw [take_succ_of ht]
  by_cases e : b = t
  · subst e; rw [if_pos rfl, if_neg hnot, if_pos (by simp)]; simp
  · rw [if_neg e]
    congr 1
    by_cases hm : b ∈ (nxF bs k).take j
    · rw [if_pos hm, if_pos (by simp [hm])]
    · rw [if_neg hm, if_neg (by simp [hm, e])]
theorem raL_len (bs : List BlkD) (k b : Nat) : (raL bs k b).length ≤ k := by unfold raL; exact Nat.le_trans (List.length_filter_le _ _) (by simp)
theorem raL_lt {bs : List BlkD} {k b c : Nat} (h : c ∈ raL bs k b) : c < k ∧ reachF bs c = true ∧ b ∈ nxF bs c := by
  unfold raL at h
  rw [List.mem_filter, List.mem_range, Bool.and_eq_true, decide_eq_true_iff] at h
  exact h

variable {bs : List BlkD}
/-- Who leads to a block is dominated by all that dominate that, but it. -/
theorem near_pred {p b c : Nat} (hn : 0 < bs.length) (h : dmB bs p b = true) (hpb : p ≠ b) (hc : reachF bs c = true) (hb : b ∈ nxF bs c) : dmB bs p c = true := by
  unfold dmB
  rw [from_reachD, hc, Bool.true_and, Bool.or_eq_true, decide_eq_true_iff]
  by_cases hp0 : p = 0
  · right; rw [hp0, from_zero]; rfl
  · by_cases e : p = c
    · exact .inl e
    · right
      cases hf : fromB bs 0 p c
      · rfl
      · exfalso
        have h1 := (from_iff hn hp0 c).1 hf
        have h2 : Reach (nxW (nxF bs) p) 0 b := .step h1 (nxW_mem.2 ⟨hb, by omega⟩)
        unfold dmB at h
        rw [(from_iff hn hp0 b).2 h2] at h
        simp [hpb] at h
end Go.Proofs.Ytflbooopgjgkbaa
