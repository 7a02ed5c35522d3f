/- The program's Loops: its walk. -/
import Derived.Test.YtflbooopgjgkbaaLpLJ
namespace Go.Proofs.Ytflbooopgjgkbaa
open Go.ChangeShapes Go.WideShapes Go.RowKit Go.Deep
set_option linter.unusedVariables false

/-- What is told: of each head, rising, its blocks, and whence it is entered; all in memory of the call's own. -/
def ToldLs (bs : List BlkD) (w : World) (e : Ending) (w' : World) : Prop :=
  (∃ U hs, e = .returned (U 0) ∧ (∀ i, i < (hdL bs bs.length).length → (hdL bs bs.length)[i]? = some (hs i)) ∧ LsM bs w' w.heap.size (hdL bs bs.length).length U hs (fun i => lbL bs (hs i) bs.length) ∧ ∃ ord, NearB bs (nearD bs) ord) ∧ Below w.heap.size w w'
/-- The blocks of h's loop while b's heads are gone up; the way stands at y. -/
def blY (bs : List BlkD) (b : Nat) (y : Int) (h : Nat) : List Nat := lbL bs h b ++ (if lpB bs h b = true ∧ ¬ (0 ≤ y ∧ lpB bs h y.toNat = true) then [b] else [])
theorem blY_start {bs : List BlkD} {hd : Nat → Bool} {ar : Nat → Int} (N : NestE bs hd ar) {b : Nat} (hb : b < bs.length) (h : Nat) : blY bs b (if hd b = true then (b : Int) else ar b) h = lbL bs h b := by
  unfold blY
  rw [if_neg, List.append_nil]
  rintro ⟨h1, h2⟩
  refine h2 ?_
  by_cases hh : hd b = true
  · rw [if_pos hh]; exact ⟨by omega, by simpa using h1⟩
  · rw [if_neg hh]
    have hne : h ≠ b := fun e => by subst e; rw [N.hd h hb] at hh; exact hh (lp_hd h1)
    rcases N.ar b hb with ⟨_, h3⟩ | ⟨a, h3, _, _, _, h4⟩
    · rw [h3 h hne] at h1; cases h1
    · rw [h3]; exact ⟨by omega, by simpa using h4 h hne h1⟩
theorem blY_end {bs : List BlkD} {b h : Nat} {y : Int} (hy : y < 0) : blY bs b y h = lbL bs h (b + 1) := by
  unfold blY; rw [lbL_succ]
  congr 1
  by_cases e : lpB bs h b = true
  · rw [if_pos ⟨e, by omega⟩, if_pos e]
  · rw [if_neg (fun k => e k.1), if_neg e]
/-- One up: b is one of y's loop. -/
theorem blY_step {bs : List BlkD} {ord : Nat → Nat} (NN : NearB bs (nearD bs) ord) {hd : Nat → Bool} {ar : Nat → Int} (N : NestE bs hd ar) {b y : Nat} (hl : lpB bs y b = true) (h : Nat) :
    blY bs b (ar y) h = if h = y then blY bs b (y : Int) h ++ [b] else blY bs b (y : Int) h := by
  have hy := hd_lt (lp_hd hl)
  have hyy := lp_self (lp_hd hl)
  unfold blY
  by_cases e : h = y
  · subst e
    have i1 : lpB bs h b = true ∧ ¬ (0 ≤ ar h ∧ lpB bs h (ar h).toNat = true) := ⟨hl, fun k => by
      rcases N.ar h hy with ⟨h3, _⟩ | ⟨a, h3, _, h5, h6, _⟩
      · omega
      · rw [h3] at k
        have h7 : lpB bs h a = true := by simpa using k.2
        exact h5 (lp_anti NN h6 h7)⟩
    have i2 : ¬ (lpB bs h b = true ∧ ¬ (0 ≤ (h : Int) ∧ lpB bs h (h : Int).toNat = true)) := fun k => k.2 ⟨by omega, by simpa using hyy⟩
    rw [if_pos rfl, if_pos i1, if_neg i2, List.append_nil]
  · rw [if_neg e]
    congr 1
    have key : (0 ≤ ar y ∧ lpB bs h (ar y).toNat = true) ↔ (0 ≤ (y : Int) ∧ lpB bs h (y : Int).toNat = true) := by
      rw [Int.toNat_natCast]
      rcases N.ar y hy with ⟨h3, h4⟩ | ⟨a, h3, h4, h5, h6, h7⟩
      · rw [h4 h e, h3]; simp
      · rw [h3, Int.toNat_natCast]
        constructor
        · rintro ⟨_, k⟩; exact ⟨by omega, lp_trans NN k h6⟩
        · rintro ⟨_, k⟩; exact ⟨by omega, h7 h e k⟩
    by_cases c : lpB bs h b = true ∧ ¬ (0 ≤ (y : Int) ∧ lpB bs h (y : Int).toNat = true)
    · rw [if_pos c, if_pos ⟨c.1, fun k => c.2 (key.1 k)⟩]
    · rw [if_neg c, if_neg (fun k => c ⟨k.1, fun k2 => k.2 (key.2 k2)⟩)]
theorem blY_len (bs : List BlkD) (b : Nat) (y : Int) (h : Nat) : (blY bs b y h).length ≤ b + 1 := by
  unfold blY
  have := lbL_len bs h b
  rw [List.length_append]
  split <;> simp <;> omega

theorem filter_less {p q : Nat → Bool} {x : Nat} : ∀ l : List Nat, (∀ h ∈ l, p h = true → q h = true) → x ∈ l → q x = true → p x = false → (l.filter p).length < (l.filter q).length := by
  have le : ∀ l : List Nat, (∀ h ∈ l, p h = true → q h = true) → (l.filter p).length ≤ (l.filter q).length := by
    intro l
    induction l with
    | nil => intro _; exact Nat.le_refl _
    | cons a l ih =>
      intro h1
      have h2 := ih (fun h hh => h1 h (List.mem_cons_of_mem _ hh))
      by_cases e : p a = true
      · have := h1 a (List.mem_cons_self ..) e
        rw [List.filter_cons, if_pos e, List.filter_cons, if_pos this]; simp; omega
      · rw [List.filter_cons, if_neg e, List.filter_cons]
        split
        · simp; omega
        · exact h2
  intro l
  induction l with
  | nil => intro _ h; cases h
  | cons a l ih =>
    intro h1 hx hq hp
    have h2 := le l (fun h hh => h1 h (List.mem_cons_of_mem _ hh))
    by_cases e : x = a
    · subst e
      rw [List.filter_cons, if_neg (by rw [hp]; simp), List.filter_cons, if_pos hq]; simp; omega
    · have hx2 : x ∈ l := by rcases List.mem_cons.1 hx with h | h; exact absurd h e; exact h
      have h3 := ih (fun h hh => h1 h (List.mem_cons_of_mem _ hh)) hx2 hq hp
      by_cases ea : p a = true
      · have := h1 a (List.mem_cons_self ..) ea
        rw [List.filter_cons, if_pos ea, List.filter_cons, if_pos this]; simp; omega
      · rw [List.filter_cons, if_neg ea, List.filter_cons]
        split
        · simp; omega
        · exact h3
/-- How far up from here. -/
def upM (bs : List BlkD) (y : Int) : Nat := if y < 0 then 0 else ((List.range bs.length).filter fun h => lpB bs h y.toNat).length
theorem upM_step {bs : List BlkD} {ord : Nat → Nat} (NN : NearB bs (nearD bs) ord) {hd : Nat → Bool} {ar : Nat → Int} (N : NestE bs hd ar) {y : Nat} (hh : hdB bs y = true) : upM bs (ar y) < upM bs (y : Int) := by
  have hy := hd_lt hh
  unfold upM
  rw [if_neg (show ¬ (y : Int) < 0 by omega), Int.toNat_natCast]
  rcases N.ar y hy with ⟨h3, _⟩ | ⟨a, h3, h4, h5, h6, h7⟩
  · rw [h3, if_pos (by omega)]
    exact List.length_pos_of_mem (List.mem_filter.2 ⟨List.mem_range.2 hy, lp_self hh⟩)
  · rw [h3, if_neg (by omega), Int.toNat_natCast]
    refine filter_less (x := y) _ (fun h _ hl => lp_trans NN hl h6) (List.mem_range.2 hy) (lp_self hh) ?_
    cases e : lpB bs y a with
    | false => rfl
    | true => exact absurd (lp_anti NN h6 e) h5
theorem Try.info31 : (Try.prog.info? 31).map (fun i => (i.zero, i.size, i.bytes)) = some (some (.agg #[.int .i64 0, .slice none 0 0, .slice none 0 0]), 3, 56) := by kernel_rfl
theorem Try.underlying28 : Try.prog.underlying 28 = some (.slice 31) := by kernel_rfl
set_option maxRecDepth 100000 in
set_option maxHeartbeats 8000000 in
theorem loops_any (f : FunD) (v : Value) (w : World) (hv : VFun w v f) (hn : f.blocks.length ≤ 1000) : Calls Try.prog 10 #[v] w (ToldLs f.blocks w) := by
  have hv0 := hv
  obtain ⟨i0, hi, hz0, hz1, hz2⟩ := info_parts Try.info3
  have HI := Lib.hid (And.intro hi (And.intro hz0 (And.intro hz1 hz2)))
  clear hi hz0 hz1 hz2
  obtain ⟨Ar, cr, A, c, rfl, -, -, -, -⟩ := hv
  go_enter Try.func10, Try.ntmps10
  go_upto_region 1 with fail
  obtain ⟨w1, hw1, hs1, hk1, hbel1, hc1, -⟩ := named w #[.int .i64 f.params, .int .i64 f.result, .slice Ar f.regs.length cr, .slice A f.blocks.length c] 25
  rw [← hw1]
  have c0 : w1.cell? ⟨w.heap.size, 0, none⟩ = some (.int .i64 f.params) := hc1 0 _ rfl
  have c1 : w1.cell? ⟨w.heap.size, 1, none⟩ = some (.int .i64 f.result) := hc1 1 _ rfl
  have c2 : w1.cell? ⟨w.heap.size, 2, none⟩ = some (.slice Ar f.regs.length cr) := hc1 2 _ rfl
  have c3 : w1.cell? ⟨w.heap.size, 3, none⟩ = some (.slice A f.blocks.length c) := hc1 3 _ rfl
  have HB1 := Lib.hid hbel1
  have HS1 : Hid (w1.heap.size = w.heap.size + 1) := Lib.hid hs1
  have hV1 := VFun.keep hk1 hv0
  clear hw1 hs1 hk1 hc1 hbel1 hv0
  go_wp2_with fail
  refine (waysOf_any f _ w1 hV1 hn).mono ?_
  rintro e w2 ⟨⟨nm, en, Ao, co, Gn, Ga, G1, A2, c2', ord, rfl, hW, hNB⟩, hb2⟩
  obtain ⟨n, hnn⟩ : ∃ n, f.blocks.length = n := ⟨_, rfl⟩
  obtain ⟨ln, hln⟩ : ∃ ln, (orderF f.blocks).length = ln := ⟨_, rfl⟩
  have HNN := Lib.hid hnn
  have HLN := Lib.hid hln
  have HW := Lib.hid hW
  have HNB := Lib.hid hNB
  have HB2 : Hid (Below w.heap.size w w2) := Lib.hid (HB1.out.trans (hb2.mono (by have := HS1.out; omega)))
  unfold wyV
  rw [hnn, hln]
  rw [hnn] at hn
  clear hnn hln hW hNB hb2 c0 c1 c2 c3 hV1 HB1 HS1
  go_wp2_with fail
  obtain ⟨w3, hw3, hs3, hk3, hbel3, hc3, -⟩ := named w2 #[.slice Ao ln co, .slice (some ⟨Gn, 0, none⟩) n n, .slice (some ⟨Ga, 0, none⟩) n n, .slice (some ⟨G1, 0, none⟩) n n, .slice A2 n c2'] 70
  rw [← hw3]
  have hW3 := HW.out.keep hk3
  have hne := nest_any f.blocks ord HNB.out nm en Ao co Gn Ga G1 A2 c2' w3 hW3
  unfold wyV at hne
  rw [HNN.out, HLN.out] at hne
  have HW3 := Lib.hid hW3
  have HC3 := Lib.hid hc3
  have HB3 : Hid (Below w.heap.size w w3) := Lib.hid (HB2.out.trans (hbel3.mono HB2.out.size))
  have HS3 : Hid (w3.heap.size = w2.heap.size + 1) := Lib.hid hs3
  clear hw3 hs3 hk3 hc3 hbel3 hW3
  refine hne.mono ?_
  rintro e w4 ⟨⟨GA, GR, Au, cu, hd, ar, rfl, rA, rR, hNE⟩, hb4⟩
  have HNE := Lib.hid hNE
  have HRA := Lib.hid rA
  have HRR := Lib.hid rR
  have HB4 := Lib.hid hb4
  rw [HNN.out]
  clear hne hNE rA rR hb4
  have hmk := run_make_row' (P := Try.prog) 22 3 (.int .i64 0) 8 Try.underlying22 Try.info3 rfl .i64 .i64 n (by omega) (by omega)
  go_wp2_with fail
  clear hmk
  obtain ⟨T, hT⟩ : ∃ T, T = w4.heap.size := ⟨_, rfl⟩
  obtain ⟨w5, hw5⟩ : ∃ w5, w5 = (w4.alloc (.cells #[.slice (some ⟨GA, 0, none⟩) n n, .slice (some ⟨GR, 0, none⟩) n n, .slice Au n cu] 73)).alloc (.cells (madeCells #[.int .i64 0] n) 3) := ⟨_, rfl⟩
  obtain ⟨b0, b1, hbel⟩ : w5.heap[T]? = some (.cells #[.slice (some ⟨GA, 0, none⟩) n n, .slice (some ⟨GR, 0, none⟩) n n, .slice Au n cu] 73) ∧ w5.heap[T + 1]? = some (.cells (madeCells #[.int .i64 0] n) 3) ∧ Below T w4 w5 := by
    subst hw5 hT
    have h1 := heap_alloc_new w4 (.cells #[.slice (some ⟨GA, 0, none⟩) n n, .slice (some ⟨GR, 0, none⟩) n n, .slice Au n cu] 73)
    have h2 := heap_alloc_new (w4.alloc (.cells #[.slice (some ⟨GA, 0, none⟩) n n, .slice (some ⟨GR, 0, none⟩) n n, .slice Au n cu] 73)) (.cells (madeCells #[.int .i64 0] n) 3)
    exact ⟨(Below.heap_alloc _ _ _ (by simp)).trans h1, by simpa using h2, ((Below.refl _ w4).alloc (Nat.le_refl _) _).alloc (by simp) _⟩
  have hsz5 : w5.heap.size = T + 2 := by rw [hw5, hT]; simp
  have lA := HRA.out.lt
  have lR := HRR.out.lt
  rw [← hT] at lA lR
  have hrow := row_made b1
  have HTB := Lib.hid b0
  have HROW := Lib.hid hrow
  have HRA5 : Hid (w5.rowIs GA 4 n (fun b => .bool (hd b))) := Lib.hid (by have h1 := HRA.out; rw [HNN.out] at h1; exact h1.of_block (hbel.block GA lA))
  have HRR5 : Hid (w5.rowIs GR 3 n (fun b => .int .i64 (ar b))) := Lib.hid (by have h1 := HRR.out; rw [HNN.out] at h1; exact h1.of_block (hbel.block GR lR))
  have HS5 : Hid (w2.heap.size + 1 ≤ T ∧ w.heap.size ≤ w2.heap.size ∧ w3.heap.size = w2.heap.size + 1) := Lib.hid ⟨by have := HB4.out.size; have := HS3.out; omega, HB2.out.size, HS3.out⟩
  have HBB5 : Hid (Below w.heap.size w w5) := Lib.hid ((HB3.out.trans (HB4.out.mono (by have := HS5.out; omega))).trans (hbel.mono (by have := HS5.out; omega)))
  have HB35 : Hid (Below w3.heap.size w3 w5) := Lib.hid (HB4.out.trans (hbel.mono (by have := HS5.out; omega)))
  rw [← hw5, ← hT]
  clear hw5 hT hbel b0 b1 hrow HRA HRR HB2 HB4 HB3 HS3
  have HLA := Lib.hid lA
  have HLR := Lib.hid lR
  have HSZ5 := Lib.hid hsz5
  clear lA lR hsz5
  go_wp2_with fail
  obtain ⟨i1, hi, hz0, hz1, hz2⟩ := info_parts Try.info31
  have HI1 := Lib.hid (And.intro hi (And.intro hz0 (And.intro hz1 hz2)))
  clear hi hz0 hz1 hz2
  go_loopw [5, 23] (fun s5 s23 wr => ∃ (k m : Nat) (U : Nat → Value) (hs : Nat → Nat), k ≤ n ∧ s23 = .int .i64 (k : Int) ∧ s5 = U 0 ∧ Hid ((hdL f.blocks k).length = m) ∧ LsM f.blocks wr (T + 2) m U hs (fun _ => []) ∧ (∀ i, i < m → (hdL f.blocks k)[i]? = some (hs i)) ∧ wr.rowIs (T + 1) 3 n (fun b => .int .i64 ((if hdB f.blocks b = true ∧ b < k then (hdL f.blocks b).length else 0 : Nat) : Int)) ∧ FrX (fun b => b = T + 1) w5 wr) (fun _ s23 _ => n - (intOf s23).toNat)
  case atStart => exact ⟨0, 0, fun _ => .slice none 0 0, fun _ => 0, Nat.zero_le _, rfl, rfl, Lib.hid rfl, LsM.start _ _ _ _ _, fun i hi => by omega, HROW.out.congr fun _ _ => by simp, FrX.refl _ _⟩
  case round =>
    obtain ⟨k, m, U, hs, hk, rfl, rfl, hm, hM, hH, hrw, hfr⟩ := hrel
    have HM := Lib.hid hM
    have HH := Lib.hid hH
    have HFR := Lib.hid hfr
    have HRW := Lib.hid hrw
    have hmn : m ≤ 1000 := by rw [← hm.out]; have := hdL_len f.blocks k; omega
    have hsz := HSZ5.out
    have hzr := hfr.size
    by_cases hkn : k < n
    · have d1 := (HRA5.out.of_block (hfr.block GA (by have := HLA.out; omega) (by have := HLA.out; omega))).cell hkn
      obtain ⟨A0, cc, hU0⟩ := own_sliceL (hM.own 0 (by omega))
      rw [lsT_zero] at hU0
      have HU0 := Lib.hid hU0
      have e1 := hrw.cell hkn
      have f1 := hrw.frozen k
      cases hh : hd k
      · rw [hh] at d1
        clear hM hH hfr hrw hU0 e1 f1
        go_wp2_with fail
        go_roundw
        case rel =>
          have hdk : hdB f.blocks k = false := by rw [← HNE.out.hd k (by rw [HNN.out]; exact hkn)]; exact hh
          have hs1 : hdL f.blocks (k + 1) = hdL f.blocks k := by rw [hdL_succ, hdk]; simp
          refine ⟨k + 1, m, U, hs, by omega, by go_num, rfl, ?_, HM.out, ?_, HRW.out.congr fun b hb => ?_, HFR.out⟩
          · rw [hs1]; exact hm
          · rw [hs1]; exact HH.out
          · by_cases e : b = k
            · subst e; rw [hdk]; simp
            · by_cases e2 : b < k
              · have : b < k + 1 := by omega
                simp [e2, this]
              · have : ¬ b < k + 1 := by omega
                simp [e2, this]
        case measure => simp [intOf]; omega
      · rw [hh] at d1
        rw [hU0]
        have hBS : Below w3.heap.size w3 (wr.setCell ⟨T + 1, k, none⟩ (.int .i64 (m : Int))) := HB35.out.trans (hfr.below (B := w3.heap.size) (by have := HB35.out.size; omega) (fun j hj => by have := HS5.out; omega)) |>.setCell (by have := HS5.out; show w3.heap.size ≤ T + 1; omega) _
        have hen := entries_any f.blocks nm en Ao co Gn Ga G1 A2 c2' (wr.setCell ⟨T + 1, k, none⟩ (.int .i64 (m : Int))) (HW3.out.keep (kept_of_below hBS)) k (by rw [HNN.out]; exact hkn)
        unfold wyV at hen
        rw [HNN.out, HLN.out] at hen
        have HEN := Lib.hid hen
        have hN2 : ∀ i u, #[Value.slice Ao ln co, .slice (some ⟨Gn, 0, none⟩) n n, .slice (some ⟨Ga, 0, none⟩) n n, .slice (some ⟨G1, 0, none⟩) n n, .slice A2 n c2'][i]? = some u → (wr.setCell ⟨T + 1, k, none⟩ (.int .i64 (m : Int))).cell? ⟨w2.heap.size, i, none⟩ = some u := fun i u hu => (hBS.cell (p := ⟨w2.heap.size, i, none⟩) (by have := HS5.out; show w2.heap.size < w3.heap.size; omega)).trans (HC3.out i u hu)
        have x0 := hN2 0 _ rfl
        have x1 := hN2 1 _ rfl
        have x2 := hN2 2 _ rfl
        have x3 := hN2 3 _ rfl
        have x4 := hN2 4 _ rfl
        have HMS : Hid (LsM f.blocks (wr.setCell ⟨T + 1, k, none⟩ (.int .i64 (m : Int))) (T + 2) m U hs (fun _ => [])) := Lib.hid (PoolD.go hM fun j hj _ => Below.heap_setCell _ _ _ _ (by show j ≠ T + 1; omega))
        clear hM hH hfr hrw hU0 hen hN2 hBS
        go_wp2_with (first | (go_at_call 29; refine HEN.out.mono ?_; rintro e wE ⟨⟨vE, rfl, hoE⟩, hbE⟩; obtain ⟨AE, cE, rfl⟩ := own_sliceL hoE) |
          (at_builtin; refine wpList_append_lies _ rfl (.tmp 34) (.tmp 40) 28 rfl (T + 2) 31 i1 (.agg #[.int .i64 0, .slice none 0 0, .slice none 0 0]) 3 56 Try.underlying28 HI1.out.1 HI1.out.2.1 HI1.out.2.2.1 HI1.out.2.2.2 rfl (by decide) _ m ((List.range (3 * m)).map (flF hs U)) rfl ?e7 ⟨wE.heap.size, 0, none⟩ 1 1 [.int .i64 (k : Int), .slice none 0 0, .slice AE (enL f.blocks k).length cE] rfl rfl (news_cells wE #[.int .i64 (k : Int), .slice none 0 0, .slice AE (enL f.blocks k).length cE] _ rfl) (by simp [Value.oneCell']) (by decide) ?e3 ?e4 ?e5 (wE.heap.size + 1) ?e6 ?_))
        case e7 => have h1 := (HMS.out.below hbE).own 0 (by omega); rw [lsT_zero, HU0.out] at h1; exact World.ownsRow.alloc h1 _
        case e3 => unfold maxLen; omega
        case e4 => omega
        case e5 => have := hbE.size; simp at this ⊢; omega
        case e6 => simp
        intro g cap w6 hown6 hgrow6 hloc6 hlt6
        have hgr : GroD wE w6 (U 0) (.slice (some ⟨g, 0, none⟩) (m + 1) cap) := by rw [HU0.out]; exact groD_append hgrow6 hloc6
        have hdk : hdB f.blocks k = true := by rw [← HNE.out.hd k (by rw [HNN.out]; exact hkn)]; exact hh
        have hs1 : hdL f.blocks (k + 1) = hdL f.blocks k ++ [k] := by rw [hdL_succ, hdk]; simp
        obtain ⟨U', hU', hM'⟩ := HMS.out.push (K := T + 2) (w5 := wE) (w7 := w6) (b := k) (by simp; omega) hbE hoE hgr (by simpa using hown6) rfl
        have hfr' : FrX (fun b => b = T + 1) w5 w6 := hgr.fr (((HFR.out.setCell (.inl rfl) _).trans (.of_below hbE))) (fun g' hg' => .inr (by have := ((HMS.out.own 0 (by omega)).lt g' hg').1; omega))
        have hrw' : w6.rowIs (T + 1) 3 n (fun b => .int .i64 ((if hdB f.blocks b = true ∧ b < k + 1 then (hdL f.blocks b).length else 0 : Nat) : Int)) := by
          have h1 := (HRW.out.set k (.int .i64 (m : Int))).of_block (hbE.block (T + 1) (by simp; omega))
          have h2 := h1.of_block (hgr.block (T + 1) (by have := hbE.size; simp at this; omega) (fun e => by have := ((HMS.out.own 0 (by omega)).lt (T + 1) e).1; omega))
          refine h2.congr fun b hb => ?_
          by_cases e : b = k
          · subst e; rw [if_pos rfl, hdk, hm.out]; simp
          · rw [if_neg e]
            by_cases e2 : b < k
            · have : b < k + 1 := by omega
              simp [e2, this]
            · have : ¬ b < k + 1 := by omega
              simp [e2, this]
        have HMN := Lib.hid hM'
        have HFN := Lib.hid hfr'
        have HRN := Lib.hid hrw'
        have HUN := Lib.hid hU'
        have HSN := Lib.hid hs1
        clear hown6 hgrow6 hloc6 hlt6 hgr hM' hfr' hrw' hU' hs1 hoE hbE
        go_wp2_with fail
        go_roundw
        case rel =>
          refine ⟨k + 1, m + 1, U', updF hs m k, by omega, by go_num, HUN.out.symm, Lib.hid ?_, HMN.out, fun i hi => ?_, HRN.out, HFN.out⟩
          · rw [HSN.out, List.length_append, hm.out]; rfl
          · rw [HSN.out]
            by_cases e : i = m
            · subst e; rw [updF_here, List.getElem?_append_right (by rw [hm.out]; exact Nat.le_refl _), hm.out]; simp
            · rw [updF_else _ _ e, List.getElem?_append_left (by rw [hm.out]; omega)]
              exact HH.out i (by omega)
        case measure => simp [intOf]; omega
    · obtain rfl : n = k := by omega
      have hbx := HFR.out.box HTB.out (by omega)
      have t0 : wr.cell? ⟨T, 0, none⟩ = some (.slice (some ⟨GA, 0, none⟩) n n) := cell_of_block hbx 0
      have t1 : wr.cell? ⟨T, 1, none⟩ = some (.slice (some ⟨GR, 0, none⟩) n n) := cell_of_block hbx 1
      have t2 : wr.cell? ⟨T, 2, none⟩ = some (.slice Au n cu) := cell_of_block hbx 2
      obtain ⟨v0, hv0⟩ : ∃ v0, U 0 = v0 := ⟨_, rfl⟩
      rw [hv0]
      have HV0 := Lib.hid hv0
      have HBX := Lib.hid hbx
      have HRAL : Hid (wr.rowIs GA 4 n (fun b => .bool (hd b))) := Lib.hid (HRA5.out.of_block (hfr.block GA (by have := HLA.out; omega) (by have := HLA.out; omega)))
      have HRRL : Hid (wr.rowIs GR 3 n (fun b => .int .i64 (ar b))) := Lib.hid (HRR5.out.of_block (hfr.block GR (by have := HLR.out; omega) (by have := HLR.out; omega)))
      have HBWL : Hid (Below w.heap.size w wr) := Lib.hid (HBB5.out.trans (hfr.below (by have := HS5.out; omega) (fun j hj => by have := HS5.out; omega)))
      have hTz : T + 2 ≤ wr.heap.size := by omega
      have HMM := Lib.hid hm.out
      clear hM hH hfr hrw hv0 hbx HRA5 HRR5 HB35 HW3 HC3 HROW HTB HW HBB5
      go_wp2_with fail
      clear t0 t1 t2
      obtain ⟨wL, rfl⟩ : ∃ wL, wL = wr := ⟨_, rfl⟩
      go_loopw [46] (fun s46 wq => ∃ (k : Nat) (U : Nat → Value), k ≤ n ∧ s46 = .int .i64 (k : Int) ∧ U 0 = v0 ∧ LsM f.blocks wq (T + 2) m U hs (fun i => lbL f.blocks (hs i) k) ∧ Below (T + 2) wL wq) (fun s46 _ => n - (intOf s46).toNat)
      case atStart => exact ⟨0, U, Nat.zero_le _, rfl, HV0.out, HM.out, Below.refl _ _⟩
      case round =>
        clear HM HFR
        obtain ⟨k, U, hk, rfl, hU0, hM, hB⟩ := hrel
        have HM := Lib.hid hM
        have HB := Lib.hid hB
        have HU0 := Lib.hid hU0
        by_cases hkn : k < n
        · have hbx : wr.heap[T]? = _ := (hB.block T (by omega)).trans HBX.out
          have t0 : wr.cell? ⟨T, 0, none⟩ = some (.slice (some ⟨GA, 0, none⟩) n n) := cell_of_block hbx 0
          have t1 : wr.cell? ⟨T, 1, none⟩ = some (.slice (some ⟨GR, 0, none⟩) n n) := cell_of_block hbx 1
          have t2 : wr.cell? ⟨T, 2, none⟩ = some (.slice Au n cu) := cell_of_block hbx 2
          have hLA := HLA.out
          have hLR := HLR.out
          have hin := inmost_any n GA GR cu k Au hd ar wr hn hkn (HRAL.out.of_block (hB.block GA (by omega))) (HRRL.out.of_block (hB.block GR (by omega)))
          obtain ⟨y0, hy0⟩ : ∃ y0 : Int, (if hd k = true then (k : Int) else ar k) = y0 := ⟨_, rfl⟩
          rw [hy0] at hin
          have HY0 := Lib.hid hy0
          have HIN := Lib.hid hin
          clear hM hB hU0 hbx hin hy0
          go_wp2_with (go_at_call 30; refine HIN.out.mono ?_; rintro e w7 ⟨rfl, hb7⟩)
          have HM7 := Lib.hid (HM.out.below hb7)
          have HB7 : Hid (Below (T + 2) wL w7) := Lib.hid (HB.out.trans (hb7.mono (by have := HB.out.size; omega)))
          clear t0 t1 t2 hb7 HIN HM HB
          go_loopw [10] (fun s10 wq => ∃ (y : Int) (U : Nat → Value), s10 = .int .i64 y ∧ (y < 0 ∨ ∃ yn : Nat, y = (yn : Int) ∧ lpB f.blocks yn k = true) ∧ U 0 = v0 ∧ LsM f.blocks wq (T + 2) m U hs (fun i => blY f.blocks k y (hs i)) ∧ Below (T + 2) wL wq) (fun s10 _ => upM f.blocks (intOf s10))
          case atStart =>
            refine ⟨y0, U, rfl, ?_, HU0.out, HM7.out.congr fun i _ => ?_, HB7.out⟩
            · rw [← HY0.out]
              by_cases hh : hd k = true
              · rw [if_pos hh]
                exact .inr ⟨k, rfl, lp_self (by rw [← HNE.out.hd k (by rw [HNN.out]; exact hkn)]; exact hh)⟩
              · rw [if_neg hh]
                rcases HNE.out.ar k (by rw [HNN.out]; exact hkn) with ⟨h3, _⟩ | ⟨a, h3, _, _, h6, _⟩
                · exact .inl (by omega)
                · exact .inr ⟨a, h3, h6⟩
            · rw [← HY0.out]; exact (blY_start HNE.out (by rw [HNN.out]; exact hkn) (hs i)).symm
          case round =>
            clear HM7 HB7
            obtain ⟨y, U, rfl, hy, hU0, hM, hB⟩ := hrel
            have HM := Lib.hid hM
            have HB := Lib.hid hB
            have HU0 := Lib.hid hU0
            by_cases hyn : 0 ≤ y
            · obtain ⟨yn, rfl, hl⟩ : ∃ yn : Nat, y = (yn : Int) ∧ lpB f.blocks yn k = true := by
                rcases hy with h | h
                · omega
                · exact h
              have hHd := lp_hd hl
              have hyl : yn < n := by rw [← HNN.out]; exact hd_lt hHd
              obtain ⟨i, hi⟩ : ∃ i, (hdL f.blocks yn).length = i := ⟨_, rfl⟩
              have hat := hdL_at hyl hHd
              rw [hi] at hat
              have him : i < m := by rw [← HMM.out]; exact (List.getElem?_eq_some_iff.1 hat).1
              have hsi : hs i = yn := by have := (HH.out i him).symm.trans hat; exact Option.some.inj this
              have dat := (HRW.out.of_block (hB.block (T + 1) (by omega))).cell hyl
              rw [if_pos ⟨hHd, hyl⟩, hi] at dat
              have hbx : wr.heap[T]? = _ := (hB.block T (by omega)).trans HBX.out
              obtain ⟨g, cap, hv0⟩ : ∃ g cap, v0 = .slice (some ⟨g, 0, none⟩) m cap := by
                have h1 := (hM.own 0 (by omega)).2
                rw [hU0, lsT_zero] at h1
                rcases h1 with ⟨_, h2⟩ | ⟨g, cap, cur, h2, _⟩
                · exact absurd h2 (by show ¬ m = 0; omega)
                · exact ⟨g, cap, h2⟩
              have hown0 : wr.ownsRow (T + 2) 31 3 (.slice (some ⟨g, 0, none⟩) m cap) m ((List.range (3 * m)).map (flF hs U)) := by
                have h1 := hM.own 0 (by omega)
                rw [hU0, lsT_zero, hv0] at h1
                exact h1
              have hfl : ((List.range (3 * m)).map (flF hs U))[3 * i + 1]? = some (U (2 * i + 1)) := by
                rw [List.getElem?_map, List.getElem?_range (by omega), Option.map_some]
                unfold flF
                rw [if_neg (by omega), if_pos (by omega), show (3 * i + 1) / 3 = i by omega]
              have cI : wr.cell? ⟨g, i * 3 + 1, none⟩ = some (U (2 * i + 1)) := by rw [show i * 3 + 1 = 3 * i + 1 by omega, hown0.cellAt (3 * i + 1) (by omega), hfl]
              have fI : wr.frozen? ⟨g, i * 3 + 1, none⟩ = false := hown0.frozenAt _
              have hoI : wr.ownsRow (T + 2) 3 1 (U (2 * i + 1)) (blY f.blocks k yn yn).length ((blY f.blocks k yn yn).map fun y : Nat => Value.int .i64 (y : Int)) := by
                have h1 := hM.own (2 * i + 1) (by omega)
                rw [lsT_odd, hsi] at h1
                exact h1
              have hap := hM.ap (2 * i + 1) 0 (by omega) (by omega) (by omega)
              obtain ⟨AI, cI2, hUI⟩ := own_sliceL hoI
              obtain ⟨lI, hlI⟩ : ∃ lI, (blY f.blocks k yn yn).length = lI := ⟨_, rfl⟩
              have hlI2 : lI ≤ 1001 := by rw [← hlI]; have := blY_len f.blocks k (yn : Int) yn; omega
              have HOI : Hid (wr.ownsRow (T + 2) 3 1 (.slice AI lI cI2) lI ((blY f.blocks k yn yn).map fun y : Nat => Value.int .i64 (y : Int))) := Lib.hid (by rw [hUI, hlI] at hoI; exact hoI)
              have HLI := Lib.hid hlI
              have HUI := Lib.hid hUI
              have HAP := Lib.hid hap
              have HOW := Lib.hid hown0
              have HHS := Lib.hid hsi
              have HL := Lib.hid hl
              have HHD := Lib.hid hHd
              have HBXR := Lib.hid hbx
              have HHI := Lib.hid hi
              have HV := Lib.hid hv0
              have HAT := Lib.hid hat
              have hgT : T + 2 ≤ g ∧ g < wr.heap.size := ⟨(hown0.lt g rfl).1, (hown0.lt g rfl).2⟩
              rw [hUI, hlI] at cI
              rw [hv0]
              have hy0 : (0 : Int) ≤ yn := by omega
              have hy1 : (yn : Int) < n := by omega
              have hi0 : (0 : Int) ≤ i := by omega
              have hi1 : (i : Int) < m := by omega
              clear hy hU0 hM hB hHd hl hi hat hsi hbx hv0 hown0 hfl hoI hap hUI hlI hyn
              go_wp2_with (at_builtin; refine wpList_append_lies _ rfl (.tmp 69) (.tmp 71) 22 rfl (T + 2) 3 i0 (.int .i64 0) 1 8 Try.underlying22 HI.out.1 HI.out.2.1 HI.out.2.2.1 HI.out.2.2.2 rfl (by decide) _ lI ((blY f.blocks k yn yn).map fun y : Nat => Value.int .i64 (y : Int)) rfl (HOI.out.alloc _) ⟨wr.heap.size, 0, none⟩ 1 1 [.int .i64 (k : Int)] rfl rfl ?e1 ?e2 ?e0 ?e3 ?e4 ?e5 (wr.heap.size + 1) ?e6 ?_)
              case e1 => exact news_one_add wr _ _ rfl
              case e2 => exact ints_oneCell .i64 [(k : Int)]
              case e0 => omega
              case e3 => unfold maxLen; omega
              case e4 => omega
              case e5 => simp; omega
              case e6 => simp
              intro g2 cap2 wC hownC hgrowC hlocC hltC
              have hgr : GroD wr wC (U (2 * i + 1)) (.slice (some ⟨g2, 0, none⟩) (lI + 1) cap2) := by rw [HUI.out, HLI.out]; exact groD_append hgrowC hlocC
              have hng : (U (2 * i + 1)).ownBlock ≠ some g := by
                rcases HAP.out with h | h
                · rw [h]; intro e; cases e
                · rw [HU0.out, HV.out] at h; exact h
              have hbg : wC.heap[g]? = wr.heap[g]? := hgr.block g hgT.2 (fun e => hng e)
              have cC : wC.cell? ⟨g, i * 3 + 1, none⟩ = some (.slice AI lI cI2) := (World.cell?_of_block (a := ⟨g, i * 3 + 1, none⟩) hbg).trans cI
              have fC : wC.frozen? ⟨g, i * 3 + 1, none⟩ = false := (World.frozen?_of_block (a := ⟨g, i * 3 + 1, none⟩) hbg).trans fI
              have hBC : Below (T + 2) wL (wC.setCell ⟨g, i * 3 + 1, none⟩ (.slice (some ⟨g2, 0, none⟩) (lI + 1) cap2)) := by
                have h1 : FrX (fun b => (U (2 * i + 1)).ownBlock = some b) wr wC := hgr.fr (FrX.refl _ _) (fun g' hg' => .inl hg')
                have h2 : Below (T + 2) wr wC := h1.below (by have := HB.out.size; omega) (fun b hb => ((HM.out.own (2 * i + 1) (by omega)).lt b hb).1)
                exact (HB.out.trans h2).setCell (by show T + 2 ≤ g; exact hgT.1) _
              have hbxN : (wC.setCell ⟨g, i * 3 + 1, none⟩ (.slice (some ⟨g2, 0, none⟩) (lI + 1) cap2)).heap[T]? = _ := (hBC.block T (by omega)).trans HBX.out
              have t1 : (wC.setCell ⟨g, i * 3 + 1, none⟩ (.slice (some ⟨g2, 0, none⟩) (lI + 1) cap2)).cell? ⟨T, 1, none⟩ = some (.slice (some ⟨GR, 0, none⟩) n n) := cell_of_block hbxN 1
              have dr := (HRRL.out.of_block (hBC.block GR (by have := HLR.out; omega))).cell hyl
              have hM' := LsM.grow HM.out him (hU := HU0.out.trans HV.out) (b := k) hgr (by rw [HHS.out, HLI.out]; simpa using hownC)
              rw [show 3 * i + 1 = i * 3 + 1 by omega] at hM'
              have HMN := Lib.hid hM'
              have HBC := Lib.hid hBC
              clear hgrowC hlocC hownC hltC hgr hng hbg hBC hbxN hM'
              go_wp2_with fail
              go_roundw
              case rel =>
                refine ⟨ar yn, _, rfl, ?_, by rw [updF_else _ _ (by omega)]; exact HU0.out.trans HV.out, HMN.out.congr fun j hj => ?_, HBC.out⟩
                · rcases HNE.out.ar yn (by rw [HNN.out]; exact hyl) with ⟨h3, _⟩ | ⟨a, h3, _, _, h6, _⟩
                  · exact .inl (by omega)
                  · exact .inr ⟨a, h3, lp_trans HNB.out h6 HL.out⟩
                · have hst := blY_step HNB.out HNE.out HL.out (hs j)
                  rw [hst]
                  by_cases e : j = i
                  · subst e; rw [updF_here, if_pos HHS.out]
                  · rw [updF_else _ _ e, if_neg]
                    intro e2
                    have h1 := hdL_hd (HH.out j hj)
                    have h2 := hdL_hd (HH.out i him)
                    rw [e2] at h1
                    rw [HHS.out] at h2
                    exact e (h1.2.2.symm.trans h2.2.2)
              case measure =>
                have := upM_step HNB.out HNE.out HHD.out
                simpa [intOf] using this
            · have hneg : y < 0 := by omega
              have HME := Lib.hid (HM.out.congr (BL' := fun i => lbL f.blocks (hs i) (k + 1)) fun i _ => blY_end hneg)
              clear hy hU0 hM hB
              go_wp2_with fail
              go_roundw
              case rel => exact ⟨k + 1, U, by omega, by go_num, HU0.out, HME.out, HB.out⟩
              case measure => simp [intOf]; omega
        · obtain rfl : n = k := by omega
          clear hM hB hU0
          go_wp2_with fail
          go_ret
          refine ⟨⟨U, hs, by rw [HU0.out]; rfl, ?_, ?_, ord, HNB.out⟩, HBWL.out.trans (HB.out.mono (by have := HS5.out; omega))⟩
          · intro i hi
            rw [HNN.out] at hi ⊢
            rw [HMM.out] at hi
            exact HH.out i hi
          · rw [HNN.out, HMM.out]
            exact ⟨fun i hi => owns_mono_ (HM.out.own i hi) (by have := HS5.out; omega), HM.out.ap⟩
end Go.Proofs.Ytflbooopgjgkbaa
