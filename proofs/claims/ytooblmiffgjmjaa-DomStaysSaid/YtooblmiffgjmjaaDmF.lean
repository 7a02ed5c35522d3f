/- The program's Dominates. -/
import Derived.Test.YtooblmiffgjmjaaDmE
namespace Go.Proofs.Ytooblmiffgjmjaa
open Go.ChangeShapes Go.WideShapes Go.RowKit Go.Deep
set_option linter.unusedVariables false

theorem Try.info37 : (Try.prog.info? 37).map (fun i => (i.zero, i.size, i.bytes)) = some (some (.slice none 0 0), 1, 24) := by kernel_rfl
/-- Rows of truths, one behind the other. -/
structure BGr (w : World) (G D0 n : Nat) (M : Nat → Nat → Bool) : Prop where
  row : w.rowIs G 37 n (fun a => .slice (some ⟨D0 + a, 0, none⟩) n n)
  cells : ∀ a, a < n → w.rowIs (D0 + a) 4 n (fun b => .bool (M a b))
  lt : G < D0
theorem BGr.congr {w : World} {G D0 n : Nat} {M M' : Nat → Nat → Bool} (h : BGr w G D0 n M) (he : ∀ a b, a < n → b < n → M a b = M' a b) : BGr w G D0 n M' :=
  ⟨h.row, fun a ha => (h.cells a ha).congr fun b hb => by rw [he a b ha hb], h.lt⟩
theorem BGr.of_blocks {w w' : World} {G D0 n : Nat} {M : Nat → Nat → Bool} (h : BGr w G D0 n M) (hb : ∀ y, G ≤ y → y < D0 + n → w'.heap[y]? = w.heap[y]?) : BGr w' G D0 n M :=
  ⟨h.row.of_block (hb G (Nat.le_refl _) (by have := h.lt; omega)), fun a ha => (h.cells a ha).of_block (hb _ (by have := h.lt; omega) (by omega)), h.lt⟩
theorem BGr.set {w : World} {G D0 n : Nat} {M : Nat → Nat → Bool} (h : BGr w G D0 n M) (q b : Nat) (x : Bool) : BGr (w.setCell ⟨D0 + q, b, none⟩ (.bool x)) G D0 n (fun a b' => if a = q ∧ b' = b then x else M a b') := by
  have hs : ∀ y, y ≠ D0 + q → (w.setCell ⟨D0 + q, b, none⟩ (.bool x)).heap[y]? = w.heap[y]? := fun y hy => Below.heap_setCell _ _ _ _ hy
  have hlt := h.lt
  refine ⟨h.row.of_block (hs G (by omega)), fun a ha => ?_, hlt⟩
  by_cases e : a = q
  · subst e
    exact ((h.cells a ha).set b (.bool x)).congr fun b' _ => by by_cases e2 : b' = b <;> simp [e2]
  · exact ((h.cells a ha).of_block (hs _ (by omega))).congr fun b' _ => by simp [e]
/-- How many rows are made. -/
def LayB (w4 : World) (G n j : Nat) (wq : World) : Prop :=
  wq.heap.size = G + 1 + j ∧ wq.rowIs G 37 n (fun a => if a < j then .slice (some ⟨G + 1 + a, 0, none⟩) n n else .slice none 0 0) ∧ (∀ a, a < j → wq.rowIs (G + 1 + a) 4 n (fun _ => .bool false)) ∧ FrX (fun b => b = G) w4 wq
theorem LayB.step {w4 wq : World} {G n j : Nat} (h : LayB w4 G n j wq) : LayB w4 G n (j + 1) ((wq.setCell ⟨G, j, none⟩ (.slice (some ⟨wq.heap.size, 0, none⟩) n n)).alloc (.cells (madeCells #[.bool false] n) 4)) := by
  obtain ⟨h1, h2, h3, h4⟩ := h
  have hs : ∀ y, y ≠ G → (wq.setCell ⟨G, j, none⟩ (.slice (some ⟨wq.heap.size, 0, none⟩) n n)).heap[y]? = wq.heap[y]? := fun y hy => Below.heap_setCell _ _ _ _ hy
  have hz : (wq.setCell ⟨G, j, none⟩ (.slice (some ⟨wq.heap.size, 0, none⟩) n n)).heap.size = wq.heap.size := by simp
  have hnew := heap_alloc_new (wq.setCell ⟨G, j, none⟩ (.slice (some ⟨wq.heap.size, 0, none⟩) n n)) (.cells (madeCells #[.bool false] n) 4)
  refine ⟨by simp; omega, ?_, fun a ha => ?_, (h4.setCell (.inl rfl) _).alloc _⟩
  · refine ((h2.set j _).of_block (Below.heap_alloc _ _ _ (by have := h2.lt; omega))).congr fun a _ => ?_
    by_cases e : a = j
    · subst e; simp only [if_true]; rw [if_pos (by omega), h1]
    · simp only [if_neg e]
      by_cases e2 : a < j
      · rw [if_pos e2, if_pos (by omega)]
      · rw [if_neg e2, if_neg (by omega)]
  · by_cases e : a = j
    · subst e
      have e : G + 1 + a = (wq.setCell ⟨G, a, none⟩ (.slice (some ⟨wq.heap.size, 0, none⟩) n n)).heap.size := by omega
      rw [← e] at hnew
      exact ⟨_, hnew, size_madeCells _ _, fun i hi => by simp [madeCells, hi, Nat.mod_one]⟩
    · exact (h3 a (by omega)).of_block ((Below.heap_alloc _ _ _ (by omega)).trans (hs _ (by omega)))
theorem LayB.all {w4 wq : World} {G n : Nat} (h : LayB w4 G n n wq) : BGr wq G (G + 1) n (fun _ _ => false) :=
  ⟨h.2.1.congr fun a ha => by rw [if_pos ha], h.2.2.1, by omega⟩
def ToldDo (bs : List BlkD) (w : World) (e : Ending) (w' : World) : Prop :=
  (∃ G D0, e = .returned (.slice (some ⟨G, 0, none⟩) bs.length bs.length) ∧ w.heap.size ≤ G ∧ BGr w' G D0 bs.length (dmB bs) ∧ ∃ ord, NearB bs (nearD bs) ord) ∧ Below w.heap.size w w'

set_option maxRecDepth 100000 in
set_option maxHeartbeats 8000000 in
theorem dominates_any (f : FunD) (v : Value) (w : World) (hv : VFun w v f) (hn : f.blocks.length ≤ 1000) : Calls Try.prog 18 #[v] w (ToldDo f.blocks w) := by
  have hv0 := hv
  obtain ⟨Ar, cr, A, c, rfl, -, -, -, -⟩ := hv
  have HV := Lib.hid hv0
  go_enter Try.func18, Try.ntmps18
  go_upto_region 1 with fail
  obtain ⟨w1, hw1, hs1, hk1, hbel1, hc1, -⟩ := named w #[.int .i64 f.params, .int .i64 f.result, .slice Ar f.regs.length cr, .slice A f.blocks.length c] 25
  rw [← hw1]
  have c0 : w1.cell? ⟨w.heap.size, 0, none⟩ = some (.int .i64 f.params) := hc1 0 _ rfl
  have c1 : w1.cell? ⟨w.heap.size, 1, none⟩ = some (.int .i64 f.result) := hc1 1 _ rfl
  have c2 : w1.cell? ⟨w.heap.size, 2, none⟩ = some (.slice Ar f.regs.length cr) := hc1 2 _ rfl
  have c3 : w1.cell? ⟨w.heap.size, 3, none⟩ = some (.slice A f.blocks.length c) := hc1 3 _ rfl
  have HC := Lib.hid (And.intro c0 (And.intro c1 (And.intro c2 c3)))
  have HB1 := Lib.hid hbel1
  have HS1 := Lib.hid hs1
  have HN := Lib.hid (nearest_any f _ w1 (VFun.keep hk1 hv0) hn)
  clear hw1 hs1 hbel1 hc1 hv0 hk1
  go_wp2_with fail
  refine HN.out.mono ?_
  rintro e w2 ⟨⟨H, rfl, hH, hnr, ord, hNB⟩, hb2⟩
  have HB2 : Hid (Below w1.heap.size w1 w2) := Lib.hid hb2
  have HNB := Lib.hid hNB
  have HNR := Lib.hid hnr
  have hHl : H < w2.heap.size := hnr.lt
  have hmk := run_make_row' (P := Try.prog) 33 37 (.slice none 0 0) 24 Try.underlying33 Try.info37 rfl .i64 .i64 f.blocks.length (by omega) (by omega)
  clear c0 c1 c2 c3 hH hnr hb2 HN hNB
  go_upto_region 3 with fail
  clear hmk
  obtain ⟨G, hG⟩ : ∃ G, G = w2.heap.size := ⟨_, rfl⟩
  obtain ⟨w4, hw4⟩ : ∃ w4, w4 = w2.alloc (.cells (madeCells #[.slice none 0 0] f.blocks.length) 37) := ⟨_, rfl⟩
  have hlay : LayB w4 G f.blocks.length 0 w4 := by
    subst hw4 hG
    exact ⟨by simp, (World.rowIs_made w2 _ _ _).congr fun a _ => by simp, fun a ha => by omega, FrX.refl _ _⟩
  have HNR4 := Lib.hid (HNR.out.of_block (w' := w4) (by rw [hw4]; exact Below.heap_alloc _ _ _ hHl))
  have HB4 : Hid (Below w1.heap.size w1 w4) := Lib.hid (by rw [hw4]; exact HB2.out.alloc HB2.out.size _)
  have HHG : Hid (H < G ∧ w1.heap.size ≤ G ∧ G < w4.heap.size) := Lib.hid ⟨by omega, by have := HB2.out.size; omega, by rw [hw4, hG]; simp⟩
  have HLAY := Lib.hid hlay
  rw [← hw4, ← hG]
  have hmk3 := run_make_row' (P := Try.prog) 37 4 (.bool false) 1 Try.underlying37 Try.info4 rfl .i64 .i64 f.blocks.length (by omega) (by omega)
  have HMK := Lib.hid hmk3
  clear hw4 hG hlay hHl hmk3 HNR
  go_wp2_with fail
  go_loopw [16] (fun s16 wq => ∃ j : Nat, j ≤ f.blocks.length ∧ s16 = .int .i64 (j : Int) ∧ LayB w4 G f.blocks.length j wq) (fun s16 _ => f.blocks.length - (intOf s16).toNat)
  case atStart => exact ⟨0, Nat.zero_le _, rfl, HLAY.out⟩
  case round =>
    obtain ⟨j, hj, rfl, hl⟩ := hrel
    have HL := Lib.hid hl
    by_cases hjn : j < f.blocks.length
    · have hmk := HMK.out
      have xc : wr.cell? ⟨G, j, none⟩ = some (.slice none 0 0) := by have := hl.2.1.cell hjn; rwa [if_neg (by omega)] at this
      have xf := hl.2.1.frozen j
      have hG := hl.2.1.lt
      have hj0 : (0 : Int) ≤ j := by omega
      have hj1 : (j : Int) < f.blocks.length := by omega
      have HST := Lib.hid (LayB.step hl)
      clear hl
      go_wp2_with fail
      go_roundw
      case rel => exact ⟨j + 1, by omega, by go_num, HST.out⟩
      case measure => simp [intOf]; omega
    · have hjj : j = f.blocks.length := by omega
      subst hjj
      have hbg := LayB.all hl
      have hbel5 : Below G w4 wr := hl.2.2.2.below (by have := HHG.out; omega) (fun b hb => by omega)
      have hb15 : Below w1.heap.size w1 wr := HB4.out.trans (hbel5.mono HHG.out.2.1)
      have hkw : ∀ i, wr.cell? ⟨w.heap.size, i, none⟩ = w1.cell? ⟨w.heap.size, i, none⟩ := fun i => hb15.cell (p := ⟨w.heap.size, i, none⟩) (by have := HS1.out; show w.heap.size < _; omega)
      have c0 := (hkw 0).trans HC.out.1
      have c1 := (hkw 1).trans HC.out.2.1
      have c2 := (hkw 2).trans HC.out.2.2.1
      have c3 := (hkw 3).trans HC.out.2.2.2
      have HRE := Lib.hid (reached_any f _ wr (VFun.keep (kept_of_below (HB1.out.trans (hb15.mono (by have := HS1.out; omega)))) HV.out) hn)
      have hsz := hl.1
      have HBG := Lib.hid hbg
      have HNR5 := Lib.hid (HNR4.out.of_block (hbel5.block H HHG.out.1))
      have HB5 : Hid (Below w.heap.size w wr) := Lib.hid (HB1.out.trans (hb15.mono (by have := HS1.out; omega)))
      have HSZ : Hid (wr.heap.size = G + 1 + f.blocks.length) := Lib.hid hsz
      clear hl hbg hbel5 hb15 hkw hsz
      go_wp2_with fail
      refine HRE.out.mono ?_
      rintro e w6 ⟨⟨R, rfl, hR, hrr⟩, hb6⟩
      have hB6 := HBG.out.of_blocks (w' := w6) (fun y _ hy => hb6.block y (by have := HSZ.out; omega))
      have HBG6 := Lib.hid (hB6.congr (M' := fun a b' => decide (b' < 0) && dmB f.blocks a b') fun a b _ _ => by simp)
      have HNR6 := Lib.hid (HNR5.out.of_block (hb6.block H HNR5.out.lt))
      have HRR := Lib.hid hrr
      have HRG : Hid (G + 1 + f.blocks.length ≤ R) := Lib.hid (by have := HSZ.out; omega)
      have HB6 : Hid (Below w.heap.size w w6) := Lib.hid (HB5.out.trans (hb6.mono HB5.out.size))
      have HG6 : Hid (w.heap.size ≤ G) := Lib.hid (by have := HHG.out; have := HS1.out; omega)
      clear hb6 hrr hR c0 c1 c2 c3 HRE hB6
      go_wp2_with fail
      go_loopw [29] (fun s29 wq => ∃ b : Nat, b ≤ f.blocks.length ∧ s29 = .int .i64 (b : Int) ∧ BGr wq G (G + 1) f.blocks.length (fun a b' => decide (b' < b) && dmB f.blocks a b') ∧ FrX (fun y => G ≤ y ∧ y < G + 1 + f.blocks.length) w6 wq) (fun s29 _ => f.blocks.length - (intOf s29).toNat)
      case atStart => exact ⟨0, Nat.zero_le _, rfl, HBG6.out, FrX.refl _ _⟩
      case round =>
        obtain ⟨b, hb, rfl, hbg, hfr⟩ := hrel
        obtain ⟨wo, rfl⟩ : ∃ wo, wo = wr := ⟨wr, rfl⟩
        have HBGR := Lib.hid hbg
        have HFR := Lib.hid hfr
        by_cases hbn : b < f.blocks.length
        · have xr := (HRR.out.of_block (hfr.block R HRR.out.lt (by have := HRG.out; omega))).cell hbn
          have hb0 : (0 : Int) ≤ b := by omega
          have hb1 : (b : Int) < f.blocks.length := by omega
          cases hre : reachF f.blocks b
          · have HN2 := Lib.hid (hbg.congr (M' := fun a b' => decide (b' < b + 1) && dmB f.blocks a b') fun a b' _ _ => by
              by_cases e : b' = b
              · subst e
                have : dmB f.blocks a b' = false := by unfold dmB; rw [from_reachD, hre]; rfl
                simp [this]
              · have : decide (b' < b) = decide (b' < b + 1) := by rw [decide_eq_decide]; omega
                rw [this])
            rw [hre] at xr
            clear hbg hfr hre
            go_wp2_with fail
            go_roundw
            case rel => exact ⟨b + 1, by omega, by go_num, HN2.out, HFR.out⟩
            case measure => simp [intOf]; omega
          · rw [hre] at xr
            have hself : dmB f.blocks b b = true := HNB.out.self b hbn (by rw [from_reachD]; exact hre)
            have HBG3 := Lib.hid (hbg.congr (M' := fun a b' => if b' = b then upB f.blocks b (b : Int) a else decide (b' < b) && dmB f.blocks a b') fun a b' _ _ => by
              by_cases e : b' = b
              · subst e; rw [if_pos rfl]; unfold upB; rw [Int.toNat_natCast, decide_eq_false (by omega), decide_eq_false (by omega)]; cases dmB f.blocks a b' <;> rfl
              · rw [if_neg e])
            have HSELF := Lib.hid hself
            clear hbg hfr hre hself
            go_upto_region 13 with fail
            go_loopg [8] (ord b + 1) (fun gk s8 wq => ∃ y : Int, s8 = .int .i64 y ∧ ((y = -1 ∧ gk = 0) ∨ ∃ q : Nat, q < f.blocks.length ∧ y = (q : Int) ∧ dmB f.blocks q b = true ∧ gk = ord q + 1) ∧ BGr wq G (G + 1) f.blocks.length (fun a b' => if b' = b then upB f.blocks b y a else decide (b' < b) && dmB f.blocks a b') ∧ FrX (fun y => G ≤ y ∧ y < G + 1 + f.blocks.length) w6 wq)
            case atStart => exact ⟨(b : Int), rfl, .inr ⟨b, hbn, rfl, HSELF.out, rfl⟩, HBG3.out, HFR.out⟩
            case round =>
              obtain ⟨y, rfl, hor, hbg, hfr⟩ := hrel
              have HBGR := Lib.hid hbg
              have HFR := Lib.hid hfr
              rcases hor with ⟨rfl, rfl⟩ | ⟨q, hq, rfl, hdq, rfl⟩
              · have HN2 := Lib.hid (hbg.congr (M' := fun a b' => decide (b' < b + 1) && dmB f.blocks a b') fun a b' _ _ => by
                  by_cases e : b' = b
                  · subst e; rw [if_pos rfl]; unfold upB; simp
                  · rw [if_neg e]
                    have : decide (b' < b) = decide (b' < b + 1) := by rw [decide_eq_decide]; omega
                    rw [this])
                have h1 : ¬ ((-1 : Int) ≥ 0) := by decide
                clear hbg hfr
                go_wp2_with fail
                go_roundw
                case rel => exact ⟨b + 1, by omega, by go_num, HN2.out, HFR.out⟩
                case measure => simp [intOf]; omega
              · have HUP := Lib.hid (HNB.out.up_less hbn hq hdq)
                have hcl := hbg.cells q hq
                have xg := hbg.row.cell hq
                have xc := hcl.cell hbn
                have xf := hcl.frozen b
                have xn := (HNR6.out.of_block (hfr.block H HNR6.out.lt (by have := HHG.out; omega))).cell hq
                have hHG : H < G := HHG.out.1
                have HB7 := Lib.hid ((hbg.set q b true).congr (M' := fun a b' => if b' = b then upB f.blocks b (nearD f.blocks q) a else decide (b' < b) && dmB f.blocks a b') fun a b' ha hb' => by
                  by_cases e : b' = b
                  · subst e
                    simp only [and_true, if_true]
                    exact HNB.out.up_step ha hb' hq hdq
                  · simp only [e, and_false, if_false])
                have HF7 := Lib.hid (hfr.setCell (p := ⟨G + 1 + q, b, none⟩) (.inl (by show G ≤ G + 1 + q ∧ G + 1 + q < _; omega)) (.bool true))
                have hq0 : (0 : Int) ≤ q := by omega
                have hq1 : (q : Int) < f.blocks.length := by omega
                have hqg : ((q : Int) ≥ 0) := by omega
                have hne : H ≠ G + 1 + q := by omega
                clear hbg hfr hcl
                go_wp2_with fail
                rcases HUP.out with hz | ⟨p, hp, he, hdp, hlt⟩
                · go_roundg 0
                  case measure => omega
                  case rel => exact ⟨-1, by rw [hz], .inl ⟨rfl, rfl⟩, by rw [← hz]; exact HB7.out, HF7.out⟩
                · go_roundg (ord p + 1)
                  case measure => omega
                  case rel => exact ⟨(p : Int), by rw [he], .inr ⟨p, hp, rfl, hdp, rfl⟩, by rw [← he]; exact HB7.out, HF7.out⟩
        · have hbb : b = f.blocks.length := by omega
          subst hbb
          have HRES := Lib.hid (hbg.congr (M' := dmB f.blocks) fun a b' _ hb' => by rw [decide_eq_true hb']; rfl)
          have HBF : Hid (Below w.heap.size w wo) := Lib.hid (HB6.out.trans (hfr.below HB6.out.size (fun y hy => by have := HG6.out; omega)))
          clear hbg hfr
          go_wp2_with fail
          go_ret
          exact ⟨⟨G, G + 1, rfl, HG6.out, HRES.out, ord, HNB.out⟩, HBF.out⟩
end Go.Proofs.Ytooblmiffgjmjaa
