/- The program's Depth: in how many loops each block is. -/
import Derived.Test.YtflbooopgjgkbaaLpL2J
import Derived.BigQuiet
import Derived.StillTailTactics
import Derived.Test.YtflbooopgjgkbaaLvBJ
namespace Go.Proofs.Ytflbooopgjgkbaa
open Go.ChangeShapes Go.WideShapes Go.RowKit Go.Deep
set_option linter.unusedVariables false

/-! ### In mathematics -/
/-- In how many loops a block is. -/
def dpN (bs : List BlkD) (b : Nat) : Nat := ((List.range bs.length).filter fun h => lpB bs h b).length
theorem dpN_le (bs : List BlkD) (b : Nat) : dpN bs b ≤ bs.length := by unfold dpN; exact Nat.le_trans (List.length_filter_le _ _) (by simp)
theorem cnt_one {p q : Nat → Bool} {b : Nat} (he : ∀ h, h ≠ b → p h = q h) (hq : q b = false) (n : Nat) :
    ((List.range n).filter p).length = ((List.range n).filter q).length + (if b < n ∧ p b = true then 1 else 0) := by
  induction n with
  | zero => simp
  | succ n ih =>
    rw [List.range_succ, List.filter_append, List.filter_append, List.length_append, List.length_append, ih]
    by_cases e : n = b
    · subst e
      rw [if_neg (fun h => by omega)]
      cases hp : p n
      · simp [hp, hq]
      · simp [hp, hq]
    · have h1 : ([n].filter p).length = ([n].filter q).length := by
        cases hp : p n
        · have := he n e; rw [hp] at this; simp [hp, ← this]
        · have := he n e; rw [hp] at this; simp [hp, ← this]
      rw [h1]
      by_cases hl : b < n ∧ p b = true
      · rw [if_pos hl, if_pos ⟨by omega, hl.2⟩]; omega
      · rw [if_neg hl, if_neg (fun h => hl ⟨by omega, h.2⟩)]; omega
theorem dp_out {bs : List BlkD} {hd : Nat → Bool} {ar : Nat → Int} (N : NestE bs hd ar) {b : Nat} (hb : b < bs.length) (ha : ar b < 0) : dpN bs b = if hd b = true then 1 else 0 := by
  rcases N.ar b hb with ⟨_, h2⟩ | ⟨a, h2, _⟩
  · have h3 := cnt_one (p := fun h => lpB bs h b) (q := fun _ => false) (b := b) (fun h hne => h2 h hne) rfl bs.length
    have h4 : ((List.range bs.length).filter fun _ => false).length = 0 := by simp
    unfold dpN
    rw [h3, h4, lp_self_iff, N.hd b hb]
    by_cases e : hdB bs b = true
    · rw [if_pos ⟨hb, e⟩, if_pos e]
    · rw [if_neg (fun k => e k.2), if_neg e]
  · omega
theorem dp_in {bs : List BlkD} {ord : Nat → Nat} (NN : NearB bs (nearD bs) ord) {hd : Nat → Bool} {ar : Nat → Int} (N : NestE bs hd ar) {b a : Nat} (hb : b < bs.length) (ha : ar b = (a : Int)) :
    dpN bs b = dpN bs a + (if hd b = true then 1 else 0) := by
  rcases N.ar b hb with ⟨h2, _⟩ | ⟨a', h2, h3, h4, h5, h6⟩
  · omega
  · obtain rfl : a' = a := by omega
    have h7 := cnt_one (p := fun h => lpB bs h b) (q := fun h => lpB bs h a') (b := b) (fun h hne => by
      cases e : lpB bs h b
      · cases e2 : lpB bs h a'
        · rfl
        · rw [lp_trans NN e2 h5] at e; cases e
      · exact (h6 h hne e).symm) (by
      cases e : lpB bs b a'
      · rfl
      · exact absurd (lp_anti NN h5 e) h4) bs.length
    unfold dpN
    rw [h7]
    simp only [lp_self_iff]
    rw [N.hd b hb]
    by_cases e : hdB bs b = true
    · rw [if_pos ⟨hb, e⟩, if_pos e]
    · rw [if_neg (fun k => e k.2), if_neg e]
theorem dp_none {bs : List BlkD} {ord : Nat → Nat} (NN : NearB bs (nearD bs) ord) {b : Nat} (hb : b ∉ orderF bs) : dpN bs b = 0 := by
  unfold dpN
  rw [List.length_eq_zero_iff, List.filter_eq_nil_iff]
  intro h _ hl
  exact hb (orderF_mem.2 (lp_reach NN hl))
/-- What is known when the first k of the order were gone through. -/
def dpS (bs : List BlkD) (k x : Nat) : Nat := if x ∈ (orderF bs).take k then dpN bs x else 0
theorem dpS_le (bs : List BlkD) (k x : Nat) : dpS bs k x ≤ bs.length := by unfold dpS; split; exact dpN_le _ _; omega
theorem dpS_step {bs : List BlkD} {k b : Nat} (hb : (orderF bs)[k]? = some b) (x : Nat) : dpS bs (k + 1) x = if x = b then dpN bs b else dpS bs k x := by
  unfold dpS
  rw [take_succ_of hb]
  by_cases e : x = b
  · subst e; rw [if_pos (by simp), if_pos rfl]
  · rw [if_neg e]
    by_cases e2 : x ∈ (orderF bs).take k
    · rw [if_pos e2, if_pos (by simp [e2])]
    · rw [if_neg e2, if_neg (by simp [e2, e])]
theorem dpS_new {bs : List BlkD} {k b : Nat} (hb : (orderF bs)[k]? = some b) : dpS bs k b = 0 := by
  unfold dpS
  rw [if_neg]
  intro h
  have hnd := orderF_nodup bs
  obtain ⟨j, hj⟩ := List.mem_iff_getElem?.1 h
  have hjk : j < k := by have := (List.getElem?_eq_some_iff.1 hj).1; simp at this; omega
  rw [List.getElem?_take_of_lt hjk] at hj
  have h1 := List.getElem?_eq_some_iff.1 hj
  have h2 := List.getElem?_eq_some_iff.1 hb
  exact List.pairwise_iff_getElem.1 hnd j k h1.1 h2.1 hjk (h1.2.trans h2.2.symm)
theorem dpS_head {bs : List BlkD} {ord : Nat → Nat} (NN : NearB bs (nearD bs) ord) {k b a : Nat} (hb : (orderF bs)[k]? = some b) (hl : lpB bs a b = true) (hne : a ≠ b) : dpS bs k a = dpN bs a := by
  unfold dpS
  rw [if_pos]
  have h1 := orderF_dm hb a (lp_dm NN hl)
  rw [take_succ_of hb, List.mem_append, List.mem_singleton] at h1
  rcases h1 with h | h
  · exact h
  · exact absurd h hne
theorem dpS_all {bs : List BlkD} {ord : Nat → Nat} (NN : NearB bs (nearD bs) ord) {k : Nat} (hk : (orderF bs).length ≤ k) (x : Nat) : dpS bs k x = dpN bs x := by
  unfold dpS
  rw [List.take_of_length_le hk]
  by_cases e : x ∈ orderF bs
  · rw [if_pos e]
  · rw [if_neg e, dp_none NN e]

/-- What is told: of each block in how many loops it is; in memory of the call's own. -/
def ToldDp (bs : List BlkD) (w : World) (e : Ending) (w' : World) : Prop :=
  (∃ G, e = .returned (.slice (some ⟨G, 0, none⟩) bs.length bs.length) ∧ w.heap.size ≤ G ∧ w'.rowIs G 3 bs.length (fun b => .int .i64 (dpN bs b : Int)) ∧ ∃ ord, NearB bs (nearD bs) ord) ∧ Below w.heap.size w w'
set_option maxRecDepth 100000 in
set_option maxHeartbeats 8000000 in
theorem depth_any (f : FunD) (v : Value) (w : World) (hv : VFun w v f) (hn : f.blocks.length ≤ 1000) : Calls Try.prog 15 #[v] w (ToldDp f.blocks w) := by
  have hv0 := hv
  obtain ⟨Ar, cr, A, c, rfl, -, -, -, -⟩ := hv
  go_enter Try.func15, Try.ntmps15
  go_upto_region 1 with fail
  obtain ⟨w1, hw1, hs1, hk1, hbel1, hc1, -⟩ := named w #[.int .i64 f.params, .int .i64 f.result, .slice Ar f.regs.length cr, .slice A f.blocks.length c] 25
  rw [← hw1]
  have c0 : w1.cell? ⟨w.heap.size, 0, none⟩ = some (.int .i64 f.params) := hc1 0 _ rfl
  have c1 : w1.cell? ⟨w.heap.size, 1, none⟩ = some (.int .i64 f.result) := hc1 1 _ rfl
  have c2 : w1.cell? ⟨w.heap.size, 2, none⟩ = some (.slice Ar f.regs.length cr) := hc1 2 _ rfl
  have c3 : w1.cell? ⟨w.heap.size, 3, none⟩ = some (.slice A f.blocks.length c) := hc1 3 _ rfl
  have HB1 := Lib.hid hbel1
  have HS1 : Hid (w1.heap.size = w.heap.size + 1) := Lib.hid hs1
  have hV1 := VFun.keep hk1 hv0
  clear hw1 hs1 hk1 hc1 hbel1 hv0
  go_wp2_with fail
  refine (waysOf_any f _ w1 hV1 hn).mono ?_
  rintro e w2 ⟨⟨nm, en, Ao, co, Gn, Ga, G1, A2, c2', ord, rfl, hW, hNB⟩, hb2⟩
  obtain ⟨n, hnn⟩ : ∃ n, f.blocks.length = n := ⟨_, rfl⟩
  obtain ⟨ln, hln⟩ : ∃ ln, (orderF f.blocks).length = ln := ⟨_, rfl⟩
  have HNN := Lib.hid hnn
  have HLN := Lib.hid hln
  have hlnn : ln ≤ n := by rw [← hln, ← hnn]; exact orderF_len _
  have HW := Lib.hid hW
  have HNB := Lib.hid hNB
  have HB2 : Hid (Below w.heap.size w w2) := Lib.hid (HB1.out.trans (hb2.mono (by have := HS1.out; omega)))
  unfold wyV
  rw [hnn, hln]
  rw [hnn] at hn
  clear hnn hln hW hNB hb2 c0 c1 c2 c3 hV1 HB1 HS1
  go_wp2_with fail
  obtain ⟨w3, hw3, hs3, hk3, hbel3, hc3, -⟩ := named w2 #[.slice Ao ln co, .slice (some ⟨Gn, 0, none⟩) n n, .slice (some ⟨Ga, 0, none⟩) n n, .slice (some ⟨G1, 0, none⟩) n n, .slice A2 n c2'] 70
  rw [← hw3]
  have hW3 := HW.out.keep hk3
  have hne := nest_any f.blocks ord HNB.out nm en Ao co Gn Ga G1 A2 c2' w3 hW3
  unfold wyV at hne
  rw [HNN.out, HLN.out] at hne
  have HW3 := Lib.hid hW3
  have HC3 := Lib.hid hc3
  have HB3 : Hid (Below w.heap.size w w3) := Lib.hid (HB2.out.trans (hbel3.mono HB2.out.size))
  have HS3 : Hid (w3.heap.size = w2.heap.size + 1) := Lib.hid hs3
  clear hw3 hs3 hk3 hc3 hbel3 hW3
  refine hne.mono ?_
  rintro e w4 ⟨⟨GA, GR, Au, cu, hd, ar, rfl, rA, rR, hNE⟩, hb4⟩
  have HNE := Lib.hid hNE
  have HRA := Lib.hid rA
  have HRR := Lib.hid rR
  have HB4 := Lib.hid hb4
  rw [HNN.out]
  clear hne hNE rA rR hb4
  have hmk := run_make_row' (P := Try.prog) 22 3 (.int .i64 0) 8 Try.underlying22 Try.info3 rfl .i64 .i64 n (by omega) (by omega)
  go_upto_region 4 with fail
  clear hmk
  obtain ⟨T, hT⟩ : ∃ T, T = w4.heap.size := ⟨_, rfl⟩
  obtain ⟨w5, hw5⟩ : ∃ w5, w5 = (w4.alloc (.cells #[.slice (some ⟨GA, 0, none⟩) n n, .slice (some ⟨GR, 0, none⟩) n n, .slice Au n cu] 73)).alloc (.cells (madeCells #[.int .i64 0] n) 3) := ⟨_, rfl⟩
  obtain ⟨b0, b1, hbel⟩ : w5.heap[T]? = some (.cells #[.slice (some ⟨GA, 0, none⟩) n n, .slice (some ⟨GR, 0, none⟩) n n, .slice Au n cu] 73) ∧ w5.heap[T + 1]? = some (.cells (madeCells #[.int .i64 0] n) 3) ∧ Below T w4 w5 := by
    subst hw5 hT
    have h1 := heap_alloc_new w4 (.cells #[.slice (some ⟨GA, 0, none⟩) n n, .slice (some ⟨GR, 0, none⟩) n n, .slice Au n cu] 73)
    have h2 := heap_alloc_new (w4.alloc (.cells #[.slice (some ⟨GA, 0, none⟩) n n, .slice (some ⟨GR, 0, none⟩) n n, .slice Au n cu] 73)) (.cells (madeCells #[.int .i64 0] n) 3)
    exact ⟨(Below.heap_alloc _ _ _ (by simp)).trans h1, by simpa using h2, ((Below.refl _ w4).alloc (Nat.le_refl _) _).alloc (by simp) _⟩
  have hsz5 : w5.heap.size = T + 2 := by rw [hw5, hT]; simp
  have lA := HRA.out.lt
  have lR := HRR.out.lt
  rw [← hT] at lA lR
  have hrow := row_made b1
  have HTB := Lib.hid b0
  have HROW := Lib.hid hrow
  have HRA5 : Hid (w5.rowIs GA 4 n (fun b => .bool (hd b))) := Lib.hid (by have h1 := HRA.out; rw [HNN.out] at h1; exact h1.of_block (hbel.block GA lA))
  have HRR5 : Hid (w5.rowIs GR 3 n (fun b => .int .i64 (ar b))) := Lib.hid (by have h1 := HRR.out; rw [HNN.out] at h1; exact h1.of_block (hbel.block GR lR))
  have HS5 : Hid (w2.heap.size + 1 ≤ T ∧ w.heap.size ≤ w2.heap.size ∧ w3.heap.size = w2.heap.size + 1) := Lib.hid ⟨by have := HB4.out.size; have := HS3.out; omega, HB2.out.size, HS3.out⟩
  have HBB5 : Hid (Below w.heap.size w w5) := Lib.hid ((HB3.out.trans (HB4.out.mono (by have := HS5.out; omega))).trans (hbel.mono (by have := HS5.out; omega)))
  have HB35 : Hid (Below w3.heap.size w3 w5) := Lib.hid (HB4.out.trans (hbel.mono (by have := HS5.out; omega)))
  have hOo : SL w5 1 RInt Ao co (zs (orderF f.blocks)) := SInts.keep (kept_of_below HB35.out) HW3.out.ord
  have HOO := Lib.hid hOo
  rw [← hw5, ← hT]
  clear hw5 hT hbel b0 b1 hrow HRA HRR HB2 HB4 HB3 HS3 hOo
  have HLA := Lib.hid lA
  have HLR := Lib.hid lR
  have HSZ5 := Lib.hid hsz5
  clear lA lR hsz5
  have HTC := Lib.hid (And.intro (cell_of_block HTB.out 0) (And.intro (cell_of_block HTB.out 1) (cell_of_block HTB.out 2)))
  have x0 : w5.cell? ⟨w2.heap.size, 0, none⟩ = some (.slice Ao ln co) := (HB35.out.cell (p := ⟨w2.heap.size, 0, none⟩) (by have := HS5.out; show w2.heap.size < w3.heap.size; omega)).trans (HC3.out 0 _ rfl)
  go_wp2_with fail
  go_loopw [19] (fun s19 wr => ∃ k : Nat, k ≤ ln ∧ s19 = .int .i64 (k : Int) ∧ wr.rowIs (T + 1) 3 n (fun b => .int .i64 (dpS f.blocks k b : Int)) ∧ FrX (fun b => b = T + 1) w5 wr) (fun s19 _ => ln - (intOf s19).toNat)
  case atStart => exact ⟨0, Nat.zero_le _, rfl, HROW.out.congr fun _ _ => by simp [dpS], FrX.refl _ _⟩
  case round =>
    obtain ⟨k, hk, rfl, hR, hfr⟩ := hrel
    have HR := Lib.hid hR
    have HFR := Lib.hid hfr
    by_cases hkl : k < ln
    · obtain ⟨b, hOb⟩ : ∃ b, (orderF f.blocks)[k]? = some b := ⟨_, List.getElem?_eq_getElem (by rw [HLN.out]; exact hkl)⟩
      have hbn : b < n := by rw [← HNN.out]; exact reachF_lt (orderF_mem.1 (List.mem_iff_getElem?.2 ⟨_, hOb⟩))
      obtain ⟨bo, oo, rfl, hcs⟩ := HW3.out.ord.2.2 (by rw [zs_len, HLN.out]; omega)
      have hT5 : T + 2 = w5.heap.size := HSZ5.out.symm
      have hbo3 : w3.cell? ⟨bo, oo + k, none⟩ = some (.int .i64 (b : Int)) := by
        have h1 := (hcs k (b : Int) (by unfold zs; rw [List.getElem?_map, hOb]; rfl)).1
        rw [Nat.mul_one] at h1; exact h1
      have hbl := block_lt_of_cell hbo3
      have hbo : w5.cell? ⟨bo, oo + k, none⟩ = some (.int .i64 (b : Int)) := (HB35.out.cell (p := ⟨bo, oo + k, none⟩) hbl).trans hbo3
      have x1 : wr.cell? ⟨T, 0, none⟩ = some (.slice (some ⟨GA, 0, none⟩) n n) := (World.cell?_of_block (a := ⟨T, 0, none⟩) (hfr.block T (by omega) (by omega))).trans HTC.out.1
      have x2 : wr.cell? ⟨T, 1, none⟩ = some (.slice (some ⟨GR, 0, none⟩) n n) := (World.cell?_of_block (a := ⟨T, 1, none⟩) (hfr.block T (by omega) (by omega))).trans HTC.out.2.1
      have dA := (HRA5.out.of_block (hfr.block GA (by have := HLA.out; omega) (by have := HLA.out; omega))).cell hbn
      have dR := (HRR5.out.of_block (hfr.block GR (by have := HLR.out; omega) (by have := HLR.out; omega))).cell hbn
      have cO : wr.cell? ⟨bo, oo + k, none⟩ = some (.int .i64 (b : Int)) := (World.cell?_of_block (a := ⟨bo, oo + k, none⟩) (hfr.block bo (block_lt_of_cell hbo) (by have := HS5.out; show ¬ bo = T + 1; have : bo < w3.heap.size := hbl; omega))).trans hbo
      have hD0 := hR.cell hbn
      rw [dpS_new hOb] at hD0
      have hDf := hR.frozen b
      have HOb := Lib.hid hOb
      have hk0 : (0 : Int) ≤ k := by omega
      have hk1 : (k : Int) < ln := by omega
      have hdb : dpN f.blocks b ≤ n := by rw [← HNN.out]; exact dpN_le _ _
      have hal := HNE.out.ar b (by rw [HNN.out]; exact hbn)
      have HAL := Lib.hid hal
      by_cases hneg : ar b < 0
      · have hout := dp_out HNE.out (by rw [HNN.out]; exact hbn) hneg
        have HOUT := Lib.hid hout
        clear hal hout hOb hbo hbo3 hbl hcs hR hfr hT5
        cases hh : hd b
        · rw [hh] at dA
          clear hD0 hDf
          go_wp2_with fail
          go_roundw
          case rel =>
            refine ⟨k + 1, by omega, by go_num, HR.out.congr fun x _ => ?_, HFR.out⟩
            rw [dpS_step HOb.out]
            by_cases e : x = b
            · subst e; rw [HOUT.out, hh, dpS_new HOb.out]; simp
            · simp [e]
          case measure => simp [intOf]; omega
        · rw [hh] at dA
          go_wp2_with fail
          go_roundw
          case rel =>
            refine ⟨k + 1, by omega, by go_num, (HR.out.set b _).congr fun x _ => ?_, HFR.out.setCell (p := ⟨T + 1, b, none⟩) (.inl rfl) _⟩
            rw [dpS_step HOb.out]
            by_cases e : x = b
            · subst e; rw [HOUT.out, hh]; simp
            · simp [e]
          case measure => simp [intOf]; omega
      · obtain ⟨a, ha⟩ : ∃ a : Nat, ar b = (a : Int) := ⟨(ar b).toNat, by omega⟩
        have hin := dp_in HNB.out HNE.out (by rw [HNN.out]; exact hbn) ha
        have hl : a < n ∧ a ≠ b ∧ lpB f.blocks a b = true := by
          rcases hal with ⟨h2, _⟩ | ⟨a', h2, h3, h4, h5, h6⟩
          · omega
          · obtain rfl : a' = a := by omega
            exact ⟨by rw [← HNN.out]; exact h3, h4, h5⟩
        have hDa := hR.cell hl.1
        rw [dpS_head HNB.out hOb hl.2.2 hl.2.1] at hDa
        have hda : dpN f.blocks a ≤ n := by rw [← HNN.out]; exact dpN_le _ _
        have HIN := Lib.hid hin
        have hla := hl.1
        have HLL := Lib.hid hl
        rw [ha] at dR
        have hGA := HLA.out
        have hGR := HLR.out
        clear hal hin hOb hbo hbo3 hbl hcs hR hfr hT5 hl hneg ha
        cases hh : hd b
        · rw [hh] at dA
          go_wp2_with fail
          go_roundw
          case rel =>
            refine ⟨k + 1, by omega, by go_num, (HR.out.set b _).congr fun x _ => ?_, HFR.out.setCell (p := ⟨T + 1, b, none⟩) (.inl rfl) _⟩
            rw [dpS_step HOb.out]
            by_cases e : x = b
            · subst e; rw [HIN.out, hh]; simp
            · simp [e]
          case measure => simp [intOf]; omega
        · rw [hh] at dA
          go_wp2_with fail
          go_roundw
          case rel =>
            refine ⟨k + 1, by omega, by go_num, ((HR.out.set b _).set b _).congr fun x _ => ?_, (HFR.out.setCell (p := ⟨T + 1, b, none⟩) (.inl rfl) _).setCell (p := ⟨T + 1, b, none⟩) (.inl rfl) _⟩
            rw [dpS_step HOb.out]
            by_cases e : x = b
            · subst e; rw [HIN.out, hh]; simp
            · simp [e]
          case measure => simp [intOf]; omega
    · obtain rfl : k = ln := by omega
      clear hR hfr
      go_wp2_with fail
      go_ret
      refine ⟨⟨T + 1, by rw [HNN.out]; rfl, by have := HS5.out; omega, ?_, ord, HNB.out⟩, HBB5.out.trans (HFR.out.below (by have := HBB5.out.size; omega) (fun b hb => by have : b = T + 1 := hb; have := HS5.out; omega))⟩
      rw [HNN.out]
      exact HR.out.congr fun b _ => by rw [dpS_all HNB.out (by rw [HLN.out]; exact Nat.le_refl _)]
end Go.Proofs.Ytflbooopgjgkbaa

/- The program's Clean: whether whatever goes round is a loop. -/
namespace Go.Proofs.Ytflbooopgjgkbaa
open Go.ChangeShapes Go.WideShapes Go.RowKit Go.Deep
set_option linter.unusedVariables false

/-- Blocks that lead to one that is not behind them in the order are dominated by it: so up to the first k, and the first j that the next one leads to. -/
def ClP (bs : List BlkD) (k : Nat) : Prop := ∀ i x, i < k → (orderF bs)[i]? = some x → ∀ t ∈ nxF bs x, t ∈ (orderF bs).take (i + 1) → dmB bs t x = true
def ClJ (bs : List BlkD) (k x j : Nat) : Prop := ∀ t ∈ (nxF bs x).take j, t ∈ (orderF bs).take (k + 1) → dmB bs t x = true
def CleanP (bs : List BlkD) : Prop := ClP bs (orderF bs).length
theorem ClP.step {bs : List BlkD} {k x j : Nat} (h : ClP bs k) (hx : (orderF bs)[k]? = some x) (hj : ClJ bs k x j) (hl : (nxF bs x).length ≤ j) : ClP bs (k + 1) := fun i y hi hy t ht hm => by
  by_cases e : i = k
  · subst e
    rw [hx] at hy; cases hy
    exact hj t (by rw [List.take_of_length_le hl]; exact ht) hm
  · exact h i y (by omega) hy t ht hm
theorem ClJ.step {bs : List BlkD} {k x j t : Nat} (h : ClJ bs k x j) (ht : (nxF bs x)[j]? = some t) (hd : t ∈ (orderF bs).take (k + 1) → dmB bs t x = true) : ClJ bs k x (j + 1) := fun y hy hm => by
  rw [take_succ_of ht, List.mem_append, List.mem_singleton] at hy
  rcases hy with hy | rfl
  · exact h y hy hm
  · exact hd hm
theorem CleanP.not {bs : List BlkD} {k x t : Nat} (hx : (orderF bs)[k]? = some x) (ht : t ∈ nxF bs x) (hm : t ∈ (orderF bs).take (k + 1)) (hd : dmB bs t x = false) : ¬ CleanP bs := fun h => by
  have := h k x (List.getElem?_eq_some_iff.1 hx).1 hx t ht hm
  rw [hd] at this; cases this

def ToldCl (bs : List BlkD) (w : World) (e : Ending) (w' : World) : Prop :=
  (∃ r, e = .returned (.bool r) ∧ (r = true ↔ CleanP bs) ∧ ∃ ord, NearB bs (nearD bs) ord) ∧ Below w.heap.size w w'
/-- The first k of the order. -/
def dnB (bs : List BlkD) (k x : Nat) : Bool := decide (x ∈ (orderF bs).take k)
theorem dnB_step {bs : List BlkD} {k b : Nat} (hb : (orderF bs)[k]? = some b) (x : Nat) : dnB bs (k + 1) x = if x = b then true else dnB bs k x := by
  unfold dnB
  rw [take_succ_of hb]
  by_cases e : x = b
  · subst e; simp
  · simp [e]
theorem row_madeB {w : World} {H k : Nat} (h : w.heap[H]? = some (.cells (madeCells #[.bool false] k) 4)) : w.rowIs H 4 k (fun _ => .bool false) :=
  ⟨_, h, size_madeCells _ _, fun i hi => by simp [madeCells, hi, Nat.mod_one]⟩
set_option maxRecDepth 100000 in
set_option maxHeartbeats 8000000 in
theorem clean_any (f : FunD) (v : Value) (w : World) (hv : VFun w v f) (hn : f.blocks.length ≤ 1000) : Calls Try.prog 12 #[v] w (ToldCl f.blocks w) := by
  have hv0 := hv
  obtain ⟨Ar, cr, A, c, rfl, -, -, -, -⟩ := hv
  go_enter Try.func12, Try.ntmps12
  go_upto_region 1 with fail
  obtain ⟨w1, hw1, hs1, hk1, hbel1, hc1, -⟩ := named w #[.int .i64 f.params, .int .i64 f.result, .slice Ar f.regs.length cr, .slice A f.blocks.length c] 25
  rw [← hw1]
  have c0 : w1.cell? ⟨w.heap.size, 0, none⟩ = some (.int .i64 f.params) := hc1 0 _ rfl
  have c1 : w1.cell? ⟨w.heap.size, 1, none⟩ = some (.int .i64 f.result) := hc1 1 _ rfl
  have c2 : w1.cell? ⟨w.heap.size, 2, none⟩ = some (.slice Ar f.regs.length cr) := hc1 2 _ rfl
  have c3 : w1.cell? ⟨w.heap.size, 3, none⟩ = some (.slice A f.blocks.length c) := hc1 3 _ rfl
  have HB1 := Lib.hid hbel1
  have HS1 : Hid (w1.heap.size = w.heap.size + 1) := Lib.hid hs1
  have hV1 := VFun.keep hk1 hv0
  clear hw1 hs1 hk1 hc1 hbel1 hv0
  go_wp2_with fail
  refine (waysOf_any f _ w1 hV1 hn).mono ?_
  rintro e w2 ⟨⟨nm, en, Ao, co, Gn, Ga, G1, A2, c2', ord, rfl, hW, hNB⟩, hb2⟩
  obtain ⟨n, hnn⟩ : ∃ n, f.blocks.length = n := ⟨_, rfl⟩
  obtain ⟨ln, hln⟩ : ∃ ln, (orderF f.blocks).length = ln := ⟨_, rfl⟩
  have HNN := Lib.hid hnn
  have HLN := Lib.hid hln
  have hlnn : ln ≤ n := by rw [← hln, ← hnn]; exact orderF_len _
  have HW := Lib.hid hW
  have HNB := Lib.hid hNB
  have HB2 : Hid (Below w.heap.size w w2) := Lib.hid (HB1.out.trans (hb2.mono (by have := HS1.out; omega)))
  unfold wyV
  rw [hnn, hln]
  rw [hnn] at hn
  clear hnn hln hW hNB hb2 c0 c1 c2 c3 hV1 HB1 HS1
  go_upto_region 2 with fail
  obtain ⟨w3, hw3, hs3, hk3, hbel3, hc3, -⟩ := named w2 #[.slice Ao ln co, .slice (some ⟨Gn, 0, none⟩) n n, .slice (some ⟨Ga, 0, none⟩) n n, .slice (some ⟨G1, 0, none⟩) n n, .slice A2 n c2'] 70
  rw [← hw3]
  have hW3 := HW.out.keep hk3
  have HW3 := Lib.hid hW3
  have HC3 := Lib.hid hc3
  have HB3 : Hid (Below w.heap.size w w3) := Lib.hid (HB2.out.trans (hbel3.mono HB2.out.size))
  have HS3 : Hid (w3.heap.size = w2.heap.size + 1 ∧ w.heap.size ≤ w2.heap.size) := Lib.hid ⟨hs3, HB2.out.size⟩
  have x2 : w3.cell? ⟨w2.heap.size, 2, none⟩ = some (.slice (some ⟨Ga, 0, none⟩) n n) := hc3 2 _ rfl
  clear hw3 hs3 hk3 hc3 hbel3 hW3 HB2 HW
  have hmk := run_make_row' (P := Try.prog) 46 4 (.bool false) 1 Try.underlying46 Try.info4 rfl .i64 .i64 n (by omega) (by omega)
  go_upto_region 3 with fail
  clear hmk x2
  obtain ⟨D, hD⟩ : ∃ D, D = w3.heap.size := ⟨_, rfl⟩
  obtain ⟨w4, hw4⟩ : ∃ w4, w4 = w3.alloc (.cells (madeCells #[.bool false] n) 4) := ⟨_, rfl⟩
  have b1 : w4.heap[D]? = some (.cells (madeCells #[.bool false] n) 4) := by rw [hw4, hD]; exact heap_alloc_new _ _
  have hbel : Below w3.heap.size w3 w4 := by rw [hw4]; exact (Below.refl _ _).alloc (Nat.le_refl _) _
  have hsz4 : w4.heap.size = D + 1 := by rw [hw4, hD]; simp
  have HROW := Lib.hid (row_madeB b1)
  have HSZ : Hid (w4.heap.size = D + 1 ∧ w3.heap.size = D ∧ D = w2.heap.size + 1 ∧ w.heap.size ≤ w2.heap.size) := Lib.hid ⟨hsz4, hD.symm, by rw [hD]; exact HS3.out.1, HS3.out.2⟩
  have HB4 : Hid (Below w3.heap.size w3 w4) := Lib.hid hbel
  have x0 : w4.cell? ⟨w2.heap.size, 0, none⟩ = some (.slice Ao ln co) := (hbel.cell (p := ⟨w2.heap.size, 0, none⟩) (by have := HSZ.out; show w2.heap.size < w3.heap.size; omega)).trans (HC3.out 0 _ rfl)
  rw [← hw4, ← hD]
  clear hw4 hD b1 hbel hsz4 HS3
  go_wp2_with fail
  clear x0
  go_loopw [18] (fun s18 wr => ∃ k : Nat, k ≤ ln ∧ s18 = .int .i64 (k : Int) ∧ wr.rowIs D 4 n (fun b => .bool (dnB f.blocks k b)) ∧ FrX (fun b => b = D) w4 wr ∧ ClP f.blocks k) (fun s18 _ => ln - (intOf s18).toNat)
  case atStart => exact ⟨0, Nat.zero_le _, rfl, HROW.out.congr fun _ _ => by simp [dnB], FrX.refl _ _, fun i x hi => by omega⟩
  case round =>
    obtain ⟨k, hk, rfl, hR, hfr, hcl⟩ := hrel
    obtain ⟨wL, rfl⟩ : ∃ wL, wL = wr := ⟨_, rfl⟩
    have HR := Lib.hid hR
    have HFR := Lib.hid hfr
    have HCL := Lib.hid hcl
    by_cases hkl : k < ln
    · obtain ⟨b, hOb⟩ : ∃ b, (orderF f.blocks)[k]? = some b := ⟨_, List.getElem?_eq_getElem (by rw [HLN.out]; exact hkl)⟩
      have hbn : b < n := by rw [← HNN.out]; exact reachF_lt (orderF_mem.1 (List.mem_iff_getElem?.2 ⟨_, hOb⟩))
      obtain ⟨bo, oo, rfl, hcs⟩ := HW3.out.ord.2.2 (by rw [zs_len, HLN.out]; omega)
      have hbo3 : w3.cell? ⟨bo, oo + k, none⟩ = some (.int .i64 (b : Int)) := by
        have h1 := (hcs k (b : Int) (by unfold zs; rw [List.getElem?_map, hOb]; rfl)).1
        rw [Nat.mul_one] at h1; exact h1
      have H3L : Hid (∀ W', FrX (fun b => b = D) w4 W' → Below w3.heap.size w3 W') := Lib.hid (fun W' h => HB4.out.trans (h.below (by have := HSZ.out; omega) (fun b hb => by have : b = D := hb; have := HSZ.out; omega)))
      have hkL := kept_of_below (H3L.out _ hfr)
      have cO : wL.cell? ⟨bo, oo + k, none⟩ = some (.int .i64 (b : Int)) := hkL _ _ hbo3
      have x1 : wL.cell? ⟨w2.heap.size, 1, none⟩ = some (.slice (some ⟨Gn, 0, none⟩) n n) := hkL _ _ (HC3.out 1 _ rfl)
      obtain ⟨W, hW⟩ : ∃ W, W = wL.setCell ⟨D, b, none⟩ (.bool true) := ⟨_, rfl⟩
      have hRW : W.rowIs D 4 n (fun x => .bool (dnB f.blocks (k + 1) x)) := by rw [hW]; exact (hR.set b _).congr fun x _ => by rw [dnB_step hOb]; by_cases e : x = b <;> simp [e]
      have hFW : FrX (fun b => b = D) w4 W := by rw [hW]; exact hfr.setCell (p := ⟨D, b, none⟩) (.inl rfl) _
      obtain ⟨bg, og, lz, hbo2, hl, hcs2⟩ := HW3.out.nxt.at_ (k := b) (by simp; rw [HNN.out]; exact hbn)
      simp only [Option.some.injEq, Addr.mk.injEq, and_true] at hbo2
      obtain ⟨rfl, rfl⟩ := hbo2
      have hlz : lz = zs (nxF f.blocks b) := (map_range_at _ hl.out).1
      subst hlz
      obtain ⟨A4, c4, hcA, hslA⟩ := hcs2
      obtain ⟨m, hm⟩ : ∃ m, (nxF f.blocks b).length = m := ⟨_, rfl⟩
      rw [Nat.mul_one, Nat.zero_add, zs_len, hm] at hcA
      have hm63 : m ≤ 9223372036854775807 := by
        have h1 := hslA.1
        have h2 := hslA.2.1.1
        rw [zs_len, hm] at h1
        unfold maxLen at h2
        omega
      have hGnD : Gn < D := by have h1 := block_lt_of_cell hcA; have := HSZ.out; have h1 : Gn < w3.heap.size := h1; omega
      have hw2D : w2.heap.size < D := by have := HSZ.out; omega
      have hcAL : wL.cell? ⟨Gn, b, none⟩ = some (.slice A4 m c4) := hkL _ _ hcA
      have hDf := hR.frozen b
      have hDc := hR.cell hbn
      have HOb := Lib.hid hOb
      have HM := Lib.hid hm
      have HSA := Lib.hid hslA
      have HRW := Lib.hid hRW
      have HFW := Lib.hid hFW
      have hk0 : (0 : Int) ≤ k := by omega
      have hk1 : (k : Int) < ln := by omega
      clear hOb hcs hbo3 hkL hcl hR hfr hl hm hslA hRW hFW hcA
      go_wp2_with fail
      clear cO x1 hDf hDc hcAL
      rw [← hW]
      clear hW
      go_loopw [31] (fun s31 wq => ∃ j : Nat, j ≤ m ∧ s31 = .int .i64 (j : Int) ∧ Below W.heap.size W wq ∧ ClJ f.blocks k b j) (fun s31 _ => m - (intOf s31).toNat)
      case atStart => exact ⟨0, Nat.zero_le _, rfl, Below.refl _ _, fun t ht => by simp at ht⟩
      case round =>
        obtain ⟨j, hj, rfl, hB, hcj⟩ := hrel
        have HBJ := Lib.hid hB
        have HCJ := Lib.hid hcj
        have h3q := (H3L.out _ HFW.out).trans (HBJ.out.mono (H3L.out _ HFW.out).size)
        by_cases hjl : j < m
        · obtain ⟨bt, ot, x, rfl, hx, hxc, -⟩ := (SInts.keep (kept_of_below h3q) HSA.out).int (k := j) (by rw [zs_len, HM.out]; exact hjl)
          obtain ⟨t, ht, rfl⟩ := zs_at hx.out
          have htn : t < n := by rw [← HNN.out]; exact nxF_lt f.blocks b t (List.mem_of_getElem? ht)
          have hdt := (HRW.out.of_block (hB.block D HRW.out.lt)).cell htn
          have HT := Lib.hid ht
          have hdo := dominates_any f.blocks nm en _ co Gn Ga G1 A2 c2' wr (HW3.out.keep (kept_of_below h3q)) t b (by rw [HNN.out]; exact htn) (by rw [HNN.out]; exact hbn)
          unfold wyV at hdo
          rw [HNN.out, HLN.out] at hdo
          have HDO := Lib.hid hdo
          have x0 : wr.cell? ⟨w2.heap.size, 0, none⟩ = _ := (h3q.cell (p := ⟨w2.heap.size, 0, none⟩) (by have := HSZ.out; show w2.heap.size < w3.heap.size; omega)).trans (HC3.out 0 _ rfl)
          have x1 : wr.cell? ⟨w2.heap.size, 1, none⟩ = _ := (h3q.cell (p := ⟨w2.heap.size, 1, none⟩) (by have := HSZ.out; show w2.heap.size < w3.heap.size; omega)).trans (HC3.out 1 _ rfl)
          have x2 : wr.cell? ⟨w2.heap.size, 2, none⟩ = _ := (h3q.cell (p := ⟨w2.heap.size, 2, none⟩) (by have := HSZ.out; show w2.heap.size < w3.heap.size; omega)).trans (HC3.out 2 _ rfl)
          have x3 : wr.cell? ⟨w2.heap.size, 3, none⟩ = _ := (h3q.cell (p := ⟨w2.heap.size, 3, none⟩) (by have := HSZ.out; show w2.heap.size < w3.heap.size; omega)).trans (HC3.out 3 _ rfl)
          have x4 : wr.cell? ⟨w2.heap.size, 4, none⟩ = _ := (h3q.cell (p := ⟨w2.heap.size, 4, none⟩) (by have := HSZ.out; show w2.heap.size < w3.heap.size; omega)).trans (HC3.out 4 _ rfl)
          have hj0 : (0 : Int) ≤ j := by omega
          have hj1 : (j : Int) < m := by omega
          clear hB hcj h3q hx ht hdo
          have hwr : Below W.heap.size W wr := HBJ.out
          cases hdn : dnB f.blocks (k + 1) t
          · rw [hdn] at hdt
            have hno : t ∉ (orderF f.blocks).take (k + 1) := by
              intro h; unfold dnB at hdn; rw [decide_eq_true h] at hdn; cases hdn
            have HNO := Lib.hid hno
            clear hno hwr
            go_wp2_with fail
            go_roundw
            case rel => exact ⟨j + 1, by omega, by go_num, HBJ.out, ClJ.step HCJ.out HT.out (fun h => absurd h HNO.out)⟩
            case measure => simp [intOf]; omega
          · rw [hdn] at hdt
            have HYES : Hid (t ∈ (orderF f.blocks).take (k + 1)) := Lib.hid (of_decide_eq_true hdn)
            clear hwr
            cases hd1 : dmB f.blocks t b
            · rw [hd1] at HDO
              have hncl : ¬ CleanP f.blocks := CleanP.not HOb.out (List.mem_of_getElem? HT.out) HYES.out hd1
              have HNCL := Lib.hid hncl
              clear hncl hd1
              go_wp2_with (go_at_call 34; refine HDO.out.mono ?_; rintro e w5 ⟨rfl, hb5⟩)
              go_ret
              refine ⟨⟨false, rfl, ⟨fun h => Bool.noConfusion h, fun h => absurd h HNCL.out⟩, ord, HNB.out⟩, ?_⟩
              exact HB3.out.trans (((H3L.out _ HFW.out).trans ((HBJ.out.trans (hb5.mono HBJ.out.size)).mono (H3L.out _ HFW.out).size)).mono HB3.out.size)
            · rw [hd1] at HDO
              have HD1 := Lib.hid hd1
              clear hd1
              go_wp2_with (go_at_call 34; refine HDO.out.mono ?_; rintro e w5 ⟨rfl, hb5⟩)
              go_roundw
              case rel => exact ⟨j + 1, by omega, by go_num, HBJ.out.trans (hb5.mono HBJ.out.size), ClJ.step HCJ.out HT.out (fun _ => HD1.out)⟩
              case measure => simp [intOf]; omega
        · obtain rfl : j = m := by omega
          have HCL2 := Lib.hid (ClP.step HCL.out HOb.out hcj (by rw [HM.out]; exact Nat.le_refl _))
          clear hB hcj h3q
          go_wp2_with fail
          go_roundw
          case rel => exact ⟨k + 1, by omega, by go_num, HRW.out.of_block (HBJ.out.block D HRW.out.lt), HFW.out.trans (.of_below HBJ.out), HCL2.out⟩
          case measure => simp [intOf]; omega
    · obtain rfl : k = ln := by omega
      clear hR hfr hcl
      go_wp2_with fail
      go_ret
      exact ⟨⟨true, rfl, ⟨fun _ => by unfold CleanP; rw [HLN.out]; exact HCL.out, fun _ => rfl⟩, ord, HNB.out⟩, HB3.out.trans (HB4.out.trans (HFR.out.below (by have := HSZ.out; omega) (fun b hb => by have : b = D := hb; have := HSZ.out; omega)) |>.mono (by have := HSZ.out; omega))⟩
end Go.Proofs.Ytflbooopgjgkbaa

/- The program's truths, usesOf. -/
namespace Go.Proofs.Ytflbooopgjgkbaa
open Go.ChangeShapes Go.WideShapes Go.RowKit Go.Deep
set_option linter.unusedVariables false

theorem Try.infoL46 : (Try.prog.info? 46).map (fun i => (i.zero, i.size, i.bytes)) = some (some (.slice none 0 0), 1, 24) := by kernel_rfl
theorem Try.underlyingL41 : Try.prog.underlying 41 = some (.slice 46) := by kernel_rfl
/-- How many rows are made. -/
def LayR (w4 : World) (G n R j : Nat) (wq : World) : Prop :=
  wq.heap.size = G + 1 + j ∧ wq.rowIs G 46 n (fun a => if a < j then .slice (some ⟨G + 1 + a, 0, none⟩) R R else .slice none 0 0) ∧ (∀ a, a < j → wq.rowIs (G + 1 + a) 4 R (fun _ => .bool false)) ∧ FrX (fun b => b = G) w4 wq
theorem LayR.step {w4 wq : World} {G n R j : Nat} (h : LayR w4 G n R j wq) : LayR w4 G n R (j + 1) ((wq.setCell ⟨G, j, none⟩ (.slice (some ⟨wq.heap.size, 0, none⟩) R R)).alloc (.cells (madeCells #[.bool false] R) 4)) := by
  obtain ⟨h1, h2, h3, h4⟩ := h
  have hs : ∀ y, y ≠ G → (wq.setCell ⟨G, j, none⟩ (.slice (some ⟨wq.heap.size, 0, none⟩) R R)).heap[y]? = wq.heap[y]? := fun y hy => Below.heap_setCell _ _ _ _ hy
  have hz : (wq.setCell ⟨G, j, none⟩ (.slice (some ⟨wq.heap.size, 0, none⟩) R R)).heap.size = wq.heap.size := by simp
  have hnew := heap_alloc_new (wq.setCell ⟨G, j, none⟩ (.slice (some ⟨wq.heap.size, 0, none⟩) R R)) (.cells (madeCells #[.bool false] R) 4)
  refine ⟨by simp; omega, ?_, fun a ha => ?_, (h4.setCell (.inl rfl) _).alloc _⟩
  · refine ((h2.set j _).of_block (Below.heap_alloc _ _ _ (by have := h2.lt; omega))).congr fun a _ => ?_
    by_cases e : a = j
    · subst e; simp only [if_true]; rw [if_pos (by omega), h1]
    · simp only [if_neg e]
      by_cases e2 : a < j
      · rw [if_pos e2, if_pos (by omega)]
      · rw [if_neg e2, if_neg (by omega)]
  · by_cases e : a = j
    · subst e
      have e : G + 1 + a = (wq.setCell ⟨G, a, none⟩ (.slice (some ⟨wq.heap.size, 0, none⟩) R R)).heap.size := by omega
      rw [← e] at hnew
      exact ⟨_, hnew, size_madeCells _ _, fun i hi => by simp [madeCells, hi, Nat.mod_one]⟩
    · exact (h3 a (by omega)).of_block ((Below.heap_alloc _ _ _ (by omega)).trans (hs _ (by omega)))
theorem LayR.all {w4 wq : World} {G n R : Nat} (h : LayR w4 G n R n wq) : BG1 wq G n R (fun _ _ => false) :=
  ⟨h.2.1.congr fun a ha => by rw [if_pos ha], h.2.2.1⟩

set_option maxRecDepth 100000 in
set_option maxHeartbeats 8000000 in
theorem truths_any (n R : Nat) (hn : n ≤ 64) (hR : R ≤ 256) (w : World) :
    Calls Try.prog 55 #[.int .i64 (n : Int), .int .i64 (R : Int)] w fun e w' => e = .returned (.slice (some ⟨w.heap.size, 0, none⟩) n n) ∧ BG1 w' w.heap.size n R (fun _ _ => false) ∧ w'.heap.size = w.heap.size + (n + 1) ∧ Below w.heap.size w w' := by
  have hmk := run_make_row' (P := Try.prog) 41 46 (.slice none 0 0) 24 Try.underlyingL41 Try.infoL46 rfl .i64 .i64 n (by omega) (by omega)
  have hmk3 := run_make_row' (P := Try.prog) 46 4 (.bool false) 1 Try.underlying46 Try.info4 rfl .i64 .i64 R (by omega) (by omega)
  have HMK := Lib.hid hmk3
  clear hmk3
  go_enter Try.func55, Try.ntmps55
  go_upto_region 2 with fail
  clear hmk
  obtain ⟨G, hG⟩ : ∃ G, G = w.heap.size := ⟨_, rfl⟩
  obtain ⟨w4, hw4⟩ : ∃ w4, w4 = w.alloc (.cells (madeCells #[.slice none 0 0] n) 46) := ⟨_, rfl⟩
  have hlay : LayR w4 G n R 0 w4 := by
    subst hw4 hG
    exact ⟨by simp, (World.rowIs_made w _ _ _).congr fun a _ => by simp, fun a ha => by omega, FrX.refl _ _⟩
  have HB4 : Hid (Below w.heap.size w w4) := Lib.hid (by rw [hw4]; exact (Below.refl _ _).alloc (Nat.le_refl _) _)
  have HGG := Lib.hid hG
  have HLAY := Lib.hid hlay
  rw [← hw4, ← hG]
  clear hw4 hG hlay
  go_wp2_with fail
  go_loopw [11] (fun s11 wq => ∃ j : Nat, j ≤ n ∧ s11 = .int .i64 (j : Int) ∧ LayR w4 G n R j wq) (fun s11 _ => n - (intOf s11).toNat)
  case atStart => exact ⟨0, Nat.zero_le _, rfl, HLAY.out⟩
  case round =>
    obtain ⟨j, hj, rfl, hl⟩ := hrel
    have HL := Lib.hid hl
    by_cases hjn : j < n
    · have hmk := HMK.out
      have xc : wr.cell? ⟨G, j, none⟩ = some (.slice none 0 0) := by have := hl.2.1.cell hjn; rwa [if_neg (by omega)] at this
      have xf := hl.2.1.frozen j
      have hG := hl.2.1.lt
      have hj0 : (0 : Int) ≤ j := by omega
      have hj1 : (j : Int) < n := by omega
      have HST := Lib.hid (LayR.step hl)
      clear hl
      go_wp2_with fail
      go_roundw
      case rel => exact ⟨j + 1, by omega, by go_num, HST.out⟩
      case measure => simp [intOf]; omega
    · obtain rfl : j = n := by omega
      clear hl
      go_wp2_with fail
      go_ret
      refine ⟨by rw [← HGG.out]; rfl, by rw [← HGG.out]; exact HL.out.all, by have := HL.out.1; have := HGG.out; omega, HB4.out.trans (HL.out.2.2.2.below ?_ (fun b hb => ?_))⟩
      · exact HB4.out.size
      · have := HGG.out; have hb : b = G := hb; omega
/-! ### What a block uses -/
set_option maxRecDepth 100000 in
set_option maxHeartbeats 8000000 in
theorem use_any (W : World) (B1 B2 GM R K r : Nat) (vu : Value) (l : List Nat) (m : Bool) (b1 : W.heap[B1]? = some (.cells #[.slice (some ⟨GM, 0, none⟩) R R] 46)) (b2 : W.heap[B2]? = some (.cells #[vu] 22)) (hm : W.cell? ⟨GM, r, none⟩ = some (.bool m))
    (ho : W.ownsRow K 3 1 vu l.length (l.map fun y : Nat => Value.int .i64 (y : Int))) (hr : r < R) (hR : R ≤ 256) (hl : l.length ≤ 200000) (hK : B2 < K) (hKW : K ≤ W.heap.size) :
    Calls Try.prog 73 #[.int .i64 (r : Int), .pointer (some ⟨B1, 0, none⟩), .pointer (some ⟨B2, 0, none⟩)] W fun e W' => e = .returned (.tuple #[]) ∧ ∃ vu', W'.heap[B2]? = some (.cells #[vu'] 22) ∧ W'.ownsRow K 3 1 vu' (if m = true then l else l ++ [r]).length ((if m = true then l else l ++ [r]).map fun y : Nat => Value.int .i64 (y : Int)) ∧ GroS B2 B2 W W' vu vu' := by
  obtain ⟨i0, hi, hz0, hz1, hz2⟩ := info_parts Try.info3
  have HI := Lib.hid (And.intro hi (And.intro hz0 (And.intro hz1 hz2)))
  clear hi hz0 hz1 hz2
  have c1 := cell_of_block b1 0
  have c2 := cell_of_block b2 0
  have f2 : W.frozen? ⟨B2, 0, none⟩ = false := by simp [World.frozen?, b2]
  have HB2 := Lib.hid b2
  have HO := Lib.hid ho
  have hlt : B2 < W.heap.size := (Array.getElem?_eq_some_iff.1 b2).1
  have hr0 : (0 : Int) ≤ r := by omega
  have hr1 : (r : Int) < R := by omega
  obtain ⟨Av, cv, hv⟩ := own_sliceL ho
  obtain ⟨lz, hlz⟩ : ∃ lz, l.length = lz := ⟨_, rfl⟩
  rw [hlz] at hv hl
  have HLZ := Lib.hid hlz
  have HV := Lib.hid hv
  have HOV : Hid (W.ownsRow K 3 1 (.slice Av lz cv) lz (l.map fun y : Nat => Value.int .i64 (y : Int))) := Lib.hid (by rw [hv, hlz] at ho; exact ho)
  rw [hv] at c2
  clear b1 b2 ho hlz hv
  go_enter Try.func73, Try.ntmps73
  cases m
  · go_wp2_with (at_builtin; refine wpList_append_lies _ rfl (.tmp 9) (.tmp 11) 22 rfl K 3 i0 (.int .i64 0) 1 8 Try.underlying22 HI.out.1 HI.out.2.1 HI.out.2.2.1 HI.out.2.2.2 rfl (by decide) _ lz _ rfl (HOV.out.alloc _) ⟨W.heap.size, 0, none⟩ 1 1 [.int .i64 (r : Int)] rfl rfl ?e1 ?e2 (by decide) ?e3 ?e4 ?e5 (W.heap.size + 1) ?e6 ?_)
    case e1 => exact news_one_add W _ _ rfl
    case e2 => exact ints_oneCell .i64 [(r : Int)]
    case e3 => unfold maxLen; omega
    case e4 => omega
    case e5 => simp; omega
    case e6 => simp
    intro g cap w6 hown6 hgrow6 hloc6 hlt6
    have hgr : GroD W w6 vu (.slice (some ⟨g, 0, none⟩) (lz + 1) cap) := by rw [HV.out]; exact groD_append hgrow6 hloc6
    have hbC : w6.heap[B2]? = some (.cells #[vu] 22) := (hgr.block B2 hlt (fun e => by have := (HO.out.lt B2 e).1; omega)).trans HB2.out
    have q0 : w6.cell? ⟨B2, 0, none⟩ = some (.slice Av lz cv) := by rw [← HV.out]; exact cell_of_block hbC 0
    have q1 : w6.frozen? ⟨B2, 0, none⟩ = false := by simp [World.frozen?, hbC]
    have HBC := Lib.hid hbC
    have HGR := Lib.hid hgr
    have HON := Lib.hid hown6
    clear hgr hbC hown6 hgrow6 hloc6 hlt6 c2 f2 c1 hm
    go_wp2_with fail
    go_end0
    refine ⟨rfl, _, ?_, ?_, (GroS.of_groD HGR.out).trans (GroS.store _ _ (p := ⟨B2, 0, none⟩) ⟨Nat.le_refl _, Nat.le_refl _⟩ _)⟩
    · simp [World.setCell, Array.getElem?_modify, HBC.out]
    · rw [HLZ.out]
      exact ownsRow_block (by simpa using HON.out) (fun g' hg' => Below.heap_setCell _ _ _ _ (fun e => by have := (HON.out.lt g' hg').1; have e : g' = B2 := e; omega))
  · go_wp2_with fail
    go_end0
    exact ⟨rfl, vu, HB2.out, HO.out, GroS.refl _ _ _ _⟩
end Go.Proofs.Ytflbooopgjgkbaa
