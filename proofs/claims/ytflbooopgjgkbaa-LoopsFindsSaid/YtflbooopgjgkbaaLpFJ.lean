/- The document's Loops. -/
import Derived.Test.YtflbooopgjgkbaaLpQJ
import Derived.Test.YtflbooopgjgkbaaLpSJ
namespace Go.Proofs.Ytflbooopgjgkbaa
open Go.ChangeShapes Go.WideShapes Go.RowKit Go.Deep
set_option linter.unusedVariables false

/-! ### In mathematics -/
def bkL (bs : List BlkD) (h k : Nat) : List Nat := (List.range k).filter fun b => ldB bs b h && dmB bs h b
theorem bkL_succ (bs : List BlkD) (h k : Nat) : bkL bs h (k + 1) = bkL bs h k ++ (if (ldB bs k h && dmB bs h k) = true then [k] else []) := by
  unfold bkL; rw [List.range_succ, List.filter_append]
  congr 1
  by_cases e : (ldB bs k h && dmB bs h k) = true
  · rw [if_pos e]; simp [e]
  · rw [if_neg e]; simp [e]
theorem bkL_len (bs : List BlkD) (h k : Nat) : (bkL bs h k).length ≤ k := by unfold bkL; exact Nat.le_trans (List.length_filter_le _ _) (by simp)
theorem bkL_lt {bs : List BlkD} {h k y : Nat} (hy : y ∈ bkL bs h k) : y < k := by unfold bkL at hy; exact List.mem_range.1 (List.mem_filter.1 hy).1
theorem bk_mem {bs : List BlkD} {h : Nat} (hh : h < bs.length) {y : Nat} : y ∈ bkL bs h bs.length ↔ y ∈ raL bs bs.length h ∧ dmB bs h y = true := by
  unfold bkL
  rw [List.mem_filter, List.mem_range, Bool.and_eq_true, ra_mem]
  constructor
  · rintro ⟨h1, h2, h3⟩
    exact ⟨⟨h1, by rw [← from_reachD]; exact dm_reach h3, (ld_iff h1 hh).1 h2⟩, h3⟩
  · rintro ⟨⟨h1, h2, h3⟩, h4⟩
    exact ⟨h1, (ld_iff h1 hh).2 h3, h4⟩
theorem bk_none {bs : List BlkD} {h : Nat} (hh : h < bs.length) (e : (bkL bs h bs.length).length = 0) : hdB bs h = false := by
  cases hd : hdB bs h
  · rfl
  · obtain ⟨y, h1, h2⟩ := hd_back hd
    have h3 := (bk_mem hh).2 ⟨h1, h2⟩
    rw [List.length_eq_zero_iff.1 e] at h3; cases h3
theorem bk_some {bs : List BlkD} {h : Nat} (hh : h < bs.length) (e : (bkL bs h bs.length).length ≠ 0) : hdB bs h = true := by
  obtain ⟨y, hy⟩ := List.exists_mem_of_length_pos (Nat.pos_of_ne_zero e)
  obtain ⟨h1, h2⟩ := (bk_mem hh).1 hy
  exact hd_of h1 h2
def inB (bs : List BlkD) (h b k : Nat) : Bool := decide (b = h) || (reachF bs b && ((bkL bs h bs.length).take k).any fun y => fromB bs b h y)
theorem inB_zero (bs : List BlkD) (h b : Nat) : inB bs h b 0 = decide (b = h) := by unfold inB; simp
theorem inB_succ {bs : List BlkD} {h b k y : Nat} (hy : (bkL bs h bs.length)[k]? = some y) : inB bs h b (k + 1) = (inB bs h b k || (reachF bs b && fromB bs b h y)) := by
  unfold inB
  rw [take_succ_of hy, List.any_append]
  cases decide (b = h) <;> cases reachF bs b <;> simp
theorem inB_all {bs : List BlkD} {h b : Nat} (hh : h < bs.length) (hd : hdB bs h = true) {k : Nat} (hk : (bkL bs h bs.length).length ≤ k) : inB bs h b k = lpB bs h b := by
  rw [Bool.eq_iff_iff, lp_iff]
  unfold inB
  rw [List.take_of_length_le hk, Bool.or_eq_true, decide_eq_true_iff, Bool.and_eq_true, List.any_eq_true]
  constructor
  · rintro (h1 | ⟨h1, y, hy, h2⟩)
    · exact ⟨hd, .inl h1⟩
    · obtain ⟨h3, h4⟩ := (bk_mem hh).1 hy
      exact ⟨hd, .inr ⟨h1, y, h3, h4, h2⟩⟩
  · rintro ⟨_, h1 | ⟨h1, y, h3, h4, h2⟩⟩
    · exact .inl h1
    · exact .inr ⟨h1, y, (bk_mem hh).2 ⟨h3, h4⟩, h2⟩
/-- Whence a head's loop is entered, up to block j. -/
def enB (bs : List BlkD) (h b : Nat) : Bool := !lpB bs h b && (ldB bs b h && reachF bs b)
def enR (bs : List BlkD) (h j : Nat) : List Nat := (List.range j).filter (enB bs h)
theorem enR_succ (bs : List BlkD) (h j : Nat) : enR bs h (j + 1) = enR bs h j ++ (if enB bs h j = true then [j] else []) := by
  unfold enR; rw [List.range_succ, List.filter_append]
  congr 1
  by_cases e : enB bs h j = true
  · rw [if_pos e]; simp [e]
  · rw [if_neg e]; simp [e]
theorem enR_len (bs : List BlkD) (h k : Nat) : (enR bs h k).length ≤ k := by unfold enR; exact Nat.le_trans (List.length_filter_le _ _) (by simp)
theorem enR_all {bs : List BlkD} {ord : Nat → Nat} (N : NearB bs (nearD bs) ord) {h : Nat} (hh : h < bs.length) (hd : hdB bs h = true) : enR bs h bs.length = enL bs h := by
  unfold enR enL raL
  rw [List.filter_filter]
  refine List.filter_congr fun b hb => ?_
  have hb := List.mem_range.1 hb
  unfold enB
  have e1 : ldB bs b h = decide (h ∈ nxF bs b) := by rw [Bool.eq_iff_iff, ld_iff hb hh, decide_eq_true_iff]
  rw [e1]
  cases hr : reachF bs b
  · simp
  · cases hn : decide (h ∈ nxF bs b)
    · simp
    · have h2 : lpB bs h b = dmB bs h b := by
        cases hdm : dmB bs h b
        · cases hl : lpB bs h b
          · rfl
          · rw [lp_dm N hl] at hdm; cases hdm
        · exact lp_back (ra_mem.2 ⟨hb, hr, of_decide_eq_true hn⟩) hdm
      rw [h2]

/-! ### In memory -/
/-- A row of loops; each loop's rows lie apart from it. -/
structure RLs (w : World) (K m : Nat) (v : Value) (U : Nat → Value) (hs : Nat → Nat) (BL EL : Nat → List Nat) : Prop where
  own : w.ownsRow K 31 3 v m ((List.range (3 * m)).map (flF hs U))
  bl : ∀ i, i < m → OwnD w K (U (2 * i + 1)) (intR (BL i))
  el : ∀ i, i < m → OwnD w K (U (2 * i + 2)) (intR (EL i))
  ap : ∀ t, t < 2 * m → v.ownBlock = none ∨ (U (t + 1)).ownBlock ≠ v.ownBlock
theorem RLs.start (w : World) (K : Nat) (U : Nat → Value) (hs : Nat → Nat) (BL EL : Nat → List Nat) : RLs w K 0 (.slice none 0 0) U hs BL EL :=
  ⟨World.ownsRow_nil _ _ _ _, fun i hi => by omega, fun i hi => by omega, fun t ht => by omega⟩
theorem RLs.below {w w' : World} {K m : Nat} {v : Value} {U : Nat → Value} {hs : Nat → Nat} {BL EL : Nat → List Nat} (h : RLs w K m v U hs BL EL) (hb : Below w.heap.size w w') : RLs w' K m v U hs BL EL :=
  ⟨ownsRow_block h.own (fun g hg => hb.block g (h.own.lt g hg).2), fun i hi => ownsRow_block (h.bl i hi) (fun g hg => hb.block g ((h.bl i hi).lt g hg).2), fun i hi => ownsRow_block (h.el i hi) (fun g hg => hb.block g ((h.el i hi).lt g hg).2), h.ap⟩
theorem RLs.push {w w5 w7 : World} {K m b : Nat} {v v' vB vE : Value} {U : Nat → Value} {hs : Nat → Nat} {BL EL : Nat → List Nat} (h : RLs w K m v U hs BL EL) (hK : K ≤ w.heap.size) (hb5 : Below w.heap.size w w5)
    (hB : OwnD w5 w.heap.size vB (intR (BL m))) (hE : OwnD w5 w.heap.size vE (intR (EL m))) (hg : GroD w5 w7 v v') (ho : w7.ownsRow K 31 3 v' (m + 1) ((List.range (3 * m)).map (flF hs U) ++ [.int .i64 (b : Int), vB, vE])) :
    RLs w7 K (m + 1) v' (updF (updF U (2 * m + 1) vB) (2 * m + 2) vE) (updF hs m b) BL EL := by
  have h5 := h.below hb5
  have hvlt : ∀ g, v.ownBlock = some g → g < w.heap.size := fun g hg => (h.own.lt g hg).2
  have keep : ∀ (u : Value) (r : RowD) (k : Nat), K ≤ k → OwnD w5 k u r → (v.ownBlock = none ∨ u.ownBlock ≠ v.ownBlock) → OwnD w7 K u r := fun u r k hk ho1 hap =>
    owns_mono_ (ownsRow_block ho1 (fun g hg1 => hg.block g (ho1.lt g hg1).2 (fun e => by
      rcases hap with h1 | h1
      · rw [h1] at e; cases e
      · exact h1 (hg1.trans e.symm)))) hk
  have apN : ∀ (u : Value) (r : RowD), OwnD w5 w.heap.size u r → (v.ownBlock = none ∨ u.ownBlock ≠ v.ownBlock) := fun u r ho1 => by
    cases hv : v.ownBlock with
    | none => exact .inl rfl
    | some g =>
      right; intro e
      have h1 := (ho1.lt g e).1
      have := hvlt g hv; omega
  have apV : ∀ (u : Value) (r : RowD) (k : Nat), OwnD w5 k u r → (v.ownBlock = none ∨ u.ownBlock ≠ v.ownBlock) → (v'.ownBlock = none ∨ u.ownBlock ≠ v'.ownBlock) := fun u r k ho1 hap => by
    cases hv : v'.ownBlock with
    | none => exact .inl rfl
    | some g =>
      right; intro e
      rcases hg.own g hv with h1 | h1
      · rcases hap with h2 | h2
        · rw [h2] at h1; cases h1
        · exact h2 (e.trans h1.symm)
      · have := (ho1.lt g e).2; omega
  refine ⟨?_, fun i hi => ?_, fun i hi => ?_, fun t ht => ?_⟩
  · have e : (List.range (3 * (m + 1))).map (flF (updF hs m b) (updF (updF U (2 * m + 1) vB) (2 * m + 2) vE)) = (List.range (3 * m)).map (flF hs U) ++ [.int .i64 (b : Int), vB, vE] := by
      rw [show 3 * (m + 1) = 3 * m + 1 + 1 + 1 by omega, List.range_succ, List.range_succ, List.range_succ, List.map_append, List.map_append, List.map_append, List.append_assoc, List.append_assoc]
      congr 1
      · refine List.map_congr_left fun j hj => ?_
        have hj := List.mem_range.1 hj
        unfold flF
        rw [updF_else hs b (show j / 3 ≠ m by omega)]
        rw [updF_else _ vE (show 2 * (j / 3) + 1 ≠ 2 * m + 2 by omega), updF_else _ vB (show 2 * (j / 3) + 1 ≠ 2 * m + 1 by omega)]
        rw [updF_else _ vE (show 2 * (j / 3) + 2 ≠ 2 * m + 2 by omega), updF_else _ vB (show 2 * (j / 3) + 2 ≠ 2 * m + 1 by omega)]
      · simp only [List.map_cons, List.map_nil, List.cons_append, List.nil_append]
        unfold flF
        rw [if_pos (show 3 * m % 3 = 0 by omega), if_neg (show ¬ (3 * m + 1) % 3 = 0 by omega), if_pos (show (3 * m + 1) % 3 = 1 by omega), if_neg (show ¬ (3 * m + 1 + 1) % 3 = 0 by omega), if_neg (show ¬ (3 * m + 1 + 1) % 3 = 1 by omega)]
        rw [show 3 * m / 3 = m by omega, show (3 * m + 1) / 3 = m by omega, show (3 * m + 1 + 1) / 3 = m by omega, updF_here]
        rw [updF_else _ vE (show 2 * m + 1 ≠ 2 * m + 2 by omega), updF_here, updF_here]
    rw [e]; exact ho
  · by_cases e : i = m
    · subst e
      rw [updF_else _ _ (by omega), updF_here]
      exact keep _ _ _ hK hB (apN _ _ hB)
    · rw [updF_else _ _ (by omega), updF_else _ _ (by omega)]
      exact keep _ _ _ (Nat.le_refl _) (h5.bl i (by omega)) (h5.ap (2 * i) (by omega))
  · by_cases e : i = m
    · subst e
      rw [updF_here]
      exact keep _ _ _ hK hE (apN _ _ hE)
    · rw [updF_else _ _ (by omega), updF_else _ _ (by omega)]
      exact keep _ _ _ (Nat.le_refl _) (h5.el i (by omega)) (h5.ap (2 * i + 1) (by omega))
  · by_cases e : t = 2 * m
    · subst e
      rw [updF_else _ _ (by omega), updF_here]
      exact apV _ _ _ hB (apN _ _ hB)
    · by_cases e2 : t = 2 * m + 1
      · subst e2
        rw [updF_here]
        exact apV _ _ _ hE (apN _ _ hE)
      · rw [updF_else _ _ (by omega), updF_else _ _ (by omega)]
        by_cases e3 : t % 2 = 0
        · have h1 := h5.bl (t / 2) (by omega)
          rw [show 2 * (t / 2) + 1 = t + 1 by omega] at h1
          exact apV _ _ _ h1 (h5.ap t (by omega))
        · have h1 := h5.el (t / 2) (by omega)
          rw [show 2 * (t / 2) + 2 = t + 1 by omega] at h1
          exact apV _ _ _ h1 (h5.ap t (by omega))
theorem RLs.at_ {w : World} {K m i : Nat} {v : Value} {U : Nat → Value} {hs : Nat → Nat} {BL EL : Nat → List Nat} (h : RLs w K m v U hs BL EL) (hi : i < m) :
    ∃ g cap, v = .slice (some ⟨g, 0, none⟩) m cap ∧ K ≤ g ∧ g < w.heap.size ∧ w.cell? ⟨g, i * 3, none⟩ = some (.int .i64 (hs i : Int)) ∧ w.cell? ⟨g, i * 3 + 1, none⟩ = some (U (2 * i + 1)) ∧ w.cell? ⟨g, i * 3 + 2, none⟩ = some (U (2 * i + 2)) := by
  have h1 := h.own
  obtain ⟨g, cap, hv⟩ : ∃ g cap, v = .slice (some ⟨g, 0, none⟩) m cap := by
    rcases h1.2 with ⟨_, h2⟩ | ⟨g, cap, cur, h2, _⟩
    · omega
    · exact ⟨g, cap, h2⟩
  have h3 := h1
  rw [hv] at h3
  have hfl : ∀ j, j < 3 * m → w.cell? ⟨g, j, none⟩ = some (flF hs U j) := fun j hj => by
    rw [h3.cellAt j (by omega), List.getElem?_map, List.getElem?_range hj]; rfl
  refine ⟨g, cap, hv, (h3.lt g rfl).1, (h3.lt g rfl).2, ?_, ?_, ?_⟩
  · rw [hfl _ (by omega)]; unfold flF; rw [if_pos (by omega), show i * 3 / 3 = i by omega]
  · rw [hfl _ (by omega)]; unfold flF; rw [if_neg (by omega), if_pos (by omega), show (i * 3 + 1) / 3 = i by omega]
  · rw [hfl _ (by omega)]; unfold flF; rw [if_neg (by omega), if_neg (by omega), show (i * 3 + 2) / 3 = i by omega]
end Go.Proofs.Ytflbooopgjgkbaa
