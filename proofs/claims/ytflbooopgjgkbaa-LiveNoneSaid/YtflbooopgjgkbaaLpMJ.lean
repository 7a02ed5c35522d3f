/- Trimmed once more nothing goes; in mathematics. No condition. -/
import Derived.Test.YtflbooopgjgkbaaGrNJ
import Derived.Test.YtflbooopgjgkbaaDmRaJ
namespace Go.Proofs.Ytflbooopgjgkbaa
open Go.ChangeShapes Go.WideShapes Go.RowKit Go.Deep
set_option linter.unusedVariables false

def cnt (r : Nat → Bool) (i : Nat) : Nat := (List.range i).countP r
theorem cnt_succ (r : Nat → Bool) (k : Nat) : cnt r (k + 1) = cnt r k + (if r k = true then 1 else 0) := countP_range_succ r k
theorem cnt_zero (r : Nat → Bool) : cnt r 0 = 0 := rfl
theorem numB_cnt {r : Nat → Bool} {i : Nat} (h : r i = true) : numB r i = (cnt r i : Nat) := by unfold numB; rw [if_pos h]; rfl
theorem blksK_facts {bs : List BlkD} (r : Nat → Bool) : ∀ k, k ≤ bs.length → (blksK bs r k).length = cnt r k ∧ (∀ i b, i < k → r i = true → bs[i]? = some b → (blksK bs r k)[cnt r i]? = some (blkT bs r i b)) ∧ ∀ j, j < (blksK bs r k).length → ∃ i, i < k ∧ r i = true ∧ cnt r i = j := by
  intro k
  induction k with
  | zero => intro _; rw [blksK_zero]; exact ⟨rfl, fun i b h => absurd h (by omega), fun j h => absurd h (by simp)⟩
  | succ k ih =>
    intro hk
    obtain ⟨h1, h2, h3⟩ := ih (by omega)
    have hb : bs[k]? = some bs[k] := List.getElem?_eq_getElem (by omega)
    rw [blksK_succ hb]
    refine ⟨?_, fun i b hi hr hbi => ?_, fun j hj => ?_⟩
    · rw [List.length_append, h1, cnt_succ]; split <;> simp
    · by_cases e : i = k
      · subst e
        obtain rfl : bs[i] = b := Option.some.inj (hb.symm.trans hbi)
        rw [if_pos hr, List.getElem?_append_right (by omega), h1, Nat.sub_self]; rfl
      · have h4 := h2 i b (by omega) hr hbi
        rw [List.getElem?_append_left (List.getElem?_eq_some_iff.1 h4).1]; exact h4
    · by_cases hj2 : j < (blksK bs r k).length
      · obtain ⟨i, h4, h5⟩ := h3 j hj2; exact ⟨i, by omega, h5⟩
      · rw [List.length_append] at hj
        by_cases hr : r k = true
        · rw [if_pos hr] at hj
          exact ⟨k, by omega, hr, by simp at hj; omega⟩
        · rw [if_neg hr] at hj; simp at hj; omega
theorem blksT_len (bs : List BlkD) : (blksT bs).length = cnt (reachF bs) bs.length := (blksK_facts (reachF bs) bs.length (Nat.le_refl _)).1
theorem cnt_le (r : Nat → Bool) (k : Nat) : cnt r k ≤ k := countP_range_le r k
theorem blksT_few (bs : List BlkD) : (blksT bs).length ≤ bs.length := by rw [blksT_len]; exact cnt_le _ _
theorem reachF_iff {bs : List BlkD} (hn : bs.length ≠ 0) {x : Nat} : reachF bs x = true ↔ Reach (nxF bs) 0 x := by
  unfold reachF reachB
  rw [decide_eq_true_iff]
  exact orderL_mem (nxF_lt bs) hn
theorem reachF_lt {bs : List BlkD} {x : Nat} (h : reachF bs x = true) : x < bs.length := by
  unfold reachF reachB at h
  exact orderL_lt (nxF_lt bs) (of_decide_eq_true h)
theorem cnt_lt {r : Nat → Bool} {i k : Nat} (hi : i < k) (hr : r i = true) : cnt r i < cnt r k := by
  have key : ∀ d, cnt r i < cnt r (i + 1 + d) := by
    intro d
    induction d with
    | zero => rw [Nat.add_zero, cnt_succ, if_pos hr]; omega
    | succ d ih => rw [show i + 1 + (d + 1) = i + 1 + d + 1 by omega, cnt_succ]; split <;> omega
  have := key (k - (i + 1))
  rwa [show i + 1 + (k - (i + 1)) = k by omega] at this
/-- Where a reached block leads, its new number does. -/
theorem lead_new {bs : List BlkD} {i t : Nat} (hn : bs.length ≠ 0) (hi : Reach (nxF bs) 0 i) (ht : t ∈ nxF bs i) : cnt (reachF bs) t ∈ nxF (blksT bs) (cnt (reachF bs) i) := by
  have hri := (reachF_iff hn).2 hi
  have hrt := (reachF_iff hn).2 (.step hi ht)
  have hil := reachF_lt hri
  have htl := reachF_lt hrt
  have hb : bs[i]? = some bs[i] := List.getElem?_eq_getElem hil
  have hc := (blksK_facts (reachF bs) bs.length (Nat.le_refl _)).2.1 i _ hil hri hb
  rw [nxF_mem (show (blksT bs)[cnt (reachF bs) i]? = some _ from hc)]
  refine ⟨by rw [blksT_len]; exact cnt_lt htl hrt, ?_⟩
  have hm := (nxF_mem hb).1 ht
  show ((cnt (reachF bs) t : Nat) : Int) ∈ bs[i].term.to.map (toT (reachF bs) bs.length)
  refine List.mem_map.2 ⟨t, hm.2, ?_⟩
  unfold toT
  rw [if_pos ⟨by omega, by omega⟩, Int.toNat_natCast, numB_cnt hrt]
theorem reach_new {bs : List BlkD} (hn : bs.length ≠ 0) {i : Nat} (hi : Reach (nxF bs) 0 i) : Reach (nxF (blksT bs)) 0 (cnt (reachF bs) i) := by
  induction hi with
  | refl => rw [cnt_zero]; exact .refl
  | step h1 h2 ih => exact .step ih (lead_new hn h1 h2)
/-- All blocks that are left are reached. -/
theorem reach_all {bs : List BlkD} {j : Nat} (hj : j < (blksT bs).length) : reachF (blksT bs) j = true := by
  have hn : bs.length ≠ 0 := by have := blksT_few bs; omega
  obtain ⟨i, _, hr, rfl⟩ := (blksK_facts (reachF bs) bs.length (Nat.le_refl _)).2.2 j hj
  exact (reachF_iff (by omega)).2 (reach_new hn ((reachF_iff hn).1 hr))
theorem cnt_all {r : Nat → Bool} : ∀ k, (∀ i, i < k → r i = true) → cnt r k = k := by
  intro k
  induction k with
  | zero => intro _; rfl
  | succ k ih => intro h; rw [cnt_succ, ih (fun i hi => h i (by omega)), if_pos (h k (by omega))]
theorem num_all {bs : List BlkD} {j : Nat} (hj : j < (blksT bs).length) : numB (reachF (blksT bs)) j = (j : Nat) := by
  rw [numB_cnt (reach_all hj), cnt_all j (fun i hi => reach_all (by omega))]
theorem keepA_all {r : Nat → Bool} : ∀ {rs xs : List Int}, rs.length = xs.length → (∀ a ∈ rs, r a.toNat = true) → keepA r rs xs = xs
  | [], [], _, _ => rfl
  | [], _ :: _, h, _ => by simp at h
  | _ :: _, [], h, _ => by simp at h
  | a :: rs, x :: xs, h, hr => by
    simp only [keepA, if_pos (hr a (by simp)), List.singleton_append]
    rw [keepA_all (by simpa using h) (fun b hb => hr b (by simp [hb]))]
theorem blkT_same {bs : List BlkD} {j : Nat} {b : BlkD} : blkT (blksT bs) (reachF (blksT bs)) j b = b := by
  have hto : b.term.to.map (toT (reachF (blksT bs)) (blksT bs).length) = b.term.to := by
    conv => rhs; rw [← List.map_id b.term.to]
    refine List.map_congr_left fun t _ => ?_
    unfold toT
    split
    · rename_i h
      rw [num_all (by omega)]
      simp; omega
    · rfl
  have hph : b.phis.map (phiT (reachF (blksT bs)) (aheadL (blksT bs) j)) = b.phis := by
    conv => rhs; rw [← List.map_id b.phis]
    refine List.map_congr_left fun p _ => ?_
    show phiT _ _ p = p
    unfold phiT argsT
    split
    · rename_i h
      rw [keepA_all h.symm (fun a ha => ?_)]
      have := aheadK_mem (blksT bs) 0 j a ha
      simp at this
      exact reach_all (by omega)
    · rfl
  unfold blkT
  rw [hto, hph]
theorem blksK_same {bs : List BlkD} : ∀ k, k ≤ (blksT bs).length → blksK (blksT bs) (reachF (blksT bs)) k = (blksT bs).take k := by
  intro k
  induction k with
  | zero => intro _; rw [blksK_zero, List.take_zero]
  | succ k ih =>
    intro hk
    have hb : (blksT bs)[k]? = some (blksT bs)[k] := List.getElem?_eq_getElem (by omega)
    rw [blksK_succ hb, ih (by omega), if_pos (reach_all (by omega)), blkT_same, take_succ_of hb]
/-- Trimmed once more nothing goes. -/
theorem blksT_again (bs : List BlkD) : blksT (blksT bs) = blksT bs := by
  rw [show blksT (blksT bs) = blksK (blksT bs) (reachF (blksT bs)) (blksT bs).length from rfl, blksK_same _ (Nat.le_refl _), List.take_length]
theorem trimF_again (f : FunD) : trimF (trimF f) = trimF f := by
  show (⟨f.params, f.result, f.regs, blksT (blksT f.blocks)⟩ : FunD) = ⟨f.params, f.result, f.regs, blksT f.blocks⟩
  rw [blksT_again]
end Go.Proofs.Ytflbooopgjgkbaa

/- Loops, in mathematics: a head dominates what is in its loop; two loops are apart, or one in the other. No condition. -/
namespace Go.Proofs.Ytflbooopgjgkbaa
set_option linter.unusedVariables false

/-- Whether a block is a loop's head. -/
def hdB (bs : List BlkD) (h : Nat) : Bool := (raL bs bs.length h).any fun k => dmB bs h k
/-- Whether a block is in the loop of a head. -/
def lpB (bs : List BlkD) (h b : Nat) : Bool := hdB bs h && (decide (b = h) || (reachF bs b && (raL bs bs.length h).any fun k => dmB bs h k && fromB bs b h k))

variable {bs : List BlkD} {ord : Nat → Nat}
theorem from_iff' {b h : Nat} (hb : b < bs.length) (hne : b ≠ h) (x : Nat) : fromB bs b h x = true ↔ Reach (nxW (nxF bs) h) b x := by
  unfold fromB
  rw [if_pos ⟨by omega, by omega, by omega⟩, Int.toNat_natCast]
  exact fromN_iff (nxF_lt bs) hb x
theorem from_same (h x : Nat) : fromB bs h h x = false := by unfold fromB; rw [if_neg (by omega)]
theorem ra_mem {h k : Nat} : k ∈ raL bs bs.length h ↔ k < bs.length ∧ reachF bs k = true ∧ h ∈ nxF bs k := by
  unfold raL; rw [List.mem_filter, List.mem_range, Bool.and_eq_true, decide_eq_true_iff]
theorem hd_of {h k : Nat} (hk : k ∈ raL bs bs.length h) (hd : dmB bs h k = true) : hdB bs h = true := List.any_eq_true.2 ⟨k, hk, hd⟩
theorem hd_back {h : Nat} (hh : hdB bs h = true) : ∃ k, k ∈ raL bs bs.length h ∧ dmB bs h k = true := List.any_eq_true.1 hh
theorem hd_lt {h : Nat} (hh : hdB bs h = true) : h < bs.length := by
  obtain ⟨k, hk, -⟩ := hd_back hh
  exact nxF_lt bs _ _ (raL_lt hk).2.2
theorem lp_hd {h b : Nat} (hl : lpB bs h b = true) : hdB bs h = true := by unfold lpB at hl; rw [Bool.and_eq_true] at hl; exact hl.1
theorem lp_self {h : Nat} (hh : hdB bs h = true) : lpB bs h h = true := by unfold lpB; rw [hh]; simp
theorem lp_self_iff (h : Nat) : lpB bs h h = hdB bs h := by unfold lpB; simp
theorem lp_iff {h b : Nat} : lpB bs h b = true ↔ hdB bs h = true ∧ (b = h ∨ (reachF bs b = true ∧ ∃ k, k ∈ raL bs bs.length h ∧ dmB bs h k = true ∧ fromB bs b h k = true)) := by
  unfold lpB
  rw [Bool.and_eq_true, Bool.or_eq_true, decide_eq_true_iff, Bool.and_eq_true, List.any_eq_true]
  constructor
  · rintro ⟨h1, h2 | ⟨h2, k, h3, h4⟩⟩
    · exact ⟨h1, .inl h2⟩
    · rw [Bool.and_eq_true] at h4
      exact ⟨h1, .inr ⟨h2, k, h3, h4.1, h4.2⟩⟩
  · rintro ⟨h1, h2 | ⟨h2, k, h3, h4, h5⟩⟩
    · exact ⟨h1, .inl h2⟩
    · exact ⟨h1, .inr ⟨h2, k, h3, by rw [h4, h5]; rfl⟩⟩
theorem hd_reach (N : NearB bs (nearD bs) ord) {h : Nat} (hh : hdB bs h = true) : reachF bs h = true := by
  obtain ⟨k, hk, hd⟩ := hd_back hh
  have := N.reach h k (hd_lt hh) (raL_lt hk).1 hd
  rwa [from_reachD] at this
theorem lp_reach (N : NearB bs (nearD bs) ord) {h b : Nat} (hl : lpB bs h b = true) : reachF bs b = true := by
  obtain ⟨hh, rfl | ⟨hr, -⟩⟩ := lp_iff.1 hl
  · exact hd_reach N hh
  · exact hr
theorem lp_lt (N : NearB bs (nearD bs) ord) {h b : Nat} (hl : lpB bs h b = true) : b < bs.length := reachF_lt (lp_reach N hl)
/-- The head dominates all blocks of its loop. -/
theorem lp_dm (N : NearB bs (nearD bs) ord) {h b : Nat} (hl : lpB bs h b = true) : dmB bs h b = true := by
  obtain ⟨hh, rfl | ⟨hr, k, hk, hd, hf⟩⟩ := lp_iff.1 hl
  · exact N.self _ (hd_lt hh) (by rw [from_reachD]; exact hd_reach N hh)
  · have hb := reachF_lt hr
    have hn : 0 < bs.length := by omega
    by_cases e : h = b
    · subst e; rw [from_same] at hf; cases hf
    cases hdb : dmB bs h b
    · exfalso
      have hp := (from_iff' hb (fun x => e x.symm) k).1 hf
      have hkb := (raL_lt hk)
      by_cases h0 : h = 0
      · have := N.first b hb (by rw [from_reachD]; exact hr)
        rw [h0] at hdb; rw [this] at hdb; cases hdb
      · unfold dmB at hdb hd
        rw [from_reachD, hr, Bool.true_and, Bool.or_eq_false_iff, decide_eq_false_iff_not] at hdb
        have h1 : fromB bs 0 h b = true := by have := hdb.2; revert this; cases fromB bs 0 h b <;> simp
        have h2 := (from_iff hn h0 b).1 h1
        have h3 := (from_iff hn h0 k).2 (h2.trans hp)
        rw [Bool.and_eq_true, Bool.or_eq_true, decide_eq_true_iff, h3] at hd
        rcases hd.2 with h4 | h4
        · -- the head itself: no way that doesn't go by it ends there
          subst h4
          cases hp with
          | refl => exact e rfl
          | step _ hy => exact (nxW_mem.1 hy).2 rfl
        · cases h4
    · rfl
/-- Who leads to one of a loop, but its head, is in it. -/
theorem lp_pred {h b c : Nat} (hl : lpB bs h b = true) (hne : b ≠ h) (hc : c ∈ raL bs bs.length b) : lpB bs h c = true := by
  obtain ⟨hh, e | ⟨hr, k, hk, hd, hf⟩⟩ := lp_iff.1 hl
  · exact absurd e hne
  · obtain ⟨hcl, hcr, hcb⟩ := raL_lt hc
    refine lp_iff.2 ⟨hh, ?_⟩
    by_cases e : c = h
    · exact .inl e
    · refine .inr ⟨hcr, k, hk, hd, (from_iff' hcl e k).2 ?_⟩
      have hp := (from_iff' (reachF_lt hr) hne k).1 hf
      have h1 : Reach (nxW (nxF bs) h) c b := .step .refl (nxW_mem.2 ⟨hcb, by omega⟩)
      exact h1.trans hp
/-- Who leads to the head and is dominated by it is in it. -/
theorem lp_back {h k : Nat} (hk : k ∈ raL bs bs.length h) (hd : dmB bs h k = true) : lpB bs h k = true := by
  refine lp_iff.2 ⟨hd_of hk hd, ?_⟩
  by_cases e : k = h
  · exact .inl e
  · exact .inr ⟨(raL_lt hk).2.1, k, hk, hd, (from_iff' (raL_lt hk).1 e k).2 .refl⟩
theorem Reach.first {nx : Nat → List Nat} {a b : Nat} (h : Reach nx a b) : a = b ∨ ∃ c, c ∈ nx a ∧ Reach nx c b := by
  induction h with
  | refl => exact .inl rfl
  | @step x y _ hy ih =>
    rcases ih with rfl | ⟨c, h1, h2⟩
    · exact .inr ⟨y, hy, .refl⟩
    · exact .inr ⟨c, h1, .step h2 hy⟩
/-- It is the least such. -/
theorem lp_least (P : Nat → Prop) {h : Nat} (h0 : P h) (hb : ∀ k, k ∈ raL bs bs.length h → dmB bs h k = true → P k)
    (hp : ∀ x c, lpB bs h x = true → P x → x ≠ h → c ∈ raL bs bs.length x → P c) {b : Nat} (hl : lpB bs h b = true) : P b := by
  obtain ⟨hh, rfl | ⟨hr, k, hk, hd, hf⟩⟩ := lp_iff.1 hl
  · exact h0
  · by_cases e : b = h
    · subst e; exact h0
    have hw := (from_iff' (reachF_lt hr) e k).1 hf
    have hkr := (raL_lt hk).2.1
    -- by the length of the way
    have key : ∀ x y, Reach (nxW (nxF bs) h) x y → reachF bs x = true → x ≠ h → (lpB bs h y = true ∧ P y) → lpB bs h x = true ∧ P x := by
      intro x y hxy
      induction hxy with
      | refl => exact fun _ _ h => h
      | @step u v hu hv ih =>
        intro hrx hx hy
        have hv' := nxW_mem.1 hv
        refine ih hrx hx ?_
        have hru : reachF bs u = true := by
          have hn : bs.length ≠ 0 := fun e => by have := reachF_lt hrx; omega
          refine (reachF_iff hn).2 (((reachF_iff hn).1 hrx).trans ?_)
          clear ih hy hv hv'
          induction hu with
          | refl => exact .refl
          | step _ h2 ih => exact .step ih (nxW_mem.1 h2).1
        have hm : u ∈ raL bs bs.length v := ra_mem.2 ⟨reachF_lt hru, hru, hv'.1⟩
        exact ⟨lp_pred hy.1 (fun e => hv'.2 (by rw [e])) hm, hp v u hy.1 hy.2 (fun e => hv'.2 (by rw [e])) hm⟩
    exact (key b k hw hr e ⟨lp_back hk hd, hb k hk hd⟩).2
theorem lp_nest_key (N : NearB bs (nearD bs) ord) {h g : Nat} (hn : 0 < bs.length) (hlt : h < bs.length) (glt : g < bs.length) (hd : dmB bs h g = true) {b : Nat} (hrb : Reach (nxF bs) 0 b) :
    lpB bs h b = true → dmB bs g b = true → lpB bs h g = true := by
  induction hrb with
  | refl =>
    intro h1 h2
    -- the first block
    have h3 := N.ord g 0 glt hn h2
    have h4 := N.first g glt (N.reach g 0 glt hn h2)
    have h5 := N.ord 0 g hn glt h4
    have : g = 0 := h3.2 (by omega)
    rw [this]; exact h1
  | @step u v hu hv ih =>
    intro h1 h2
    by_cases e : g = v
    · rw [e]; exact h1
    · have hru : reachF bs u = true := (reachF_iff (by omega)).2 hu
      have hm : u ∈ raL bs bs.length v := ra_mem.2 ⟨reachF_lt hru, hru, hv⟩
      have hvh : v ≠ h := fun ev => by
        subst ev
        have h3 := N.ord g v glt hlt h2
        have h4 := N.ord v g hlt glt hd
        exact e (h3.2 (by omega))
      exact ih (lp_pred h1 hvh hm) (near_pred hn h2 e hru hv)
/-- Two loops are apart, or one's head is in the other. -/
theorem lp_nest (N : NearB bs (nearD bs) ord) {h g b : Nat} (h1 : lpB bs h b = true) (h2 : lpB bs g b = true) : lpB bs h g = true ∨ lpB bs g h = true := by
  have hlt := hd_lt (lp_hd h1)
  have glt := hd_lt (lp_hd h2)
  have blt := lp_lt N h1
  have hn : 0 < bs.length := by omega
  have hrb := (reachF_iff (by omega)).1 (lp_reach N h1)
  rcases N.total (ord b) b (Nat.le_refl _) blt h g hlt glt (lp_dm N h1) (lp_dm N h2) with h3 | h3
  · exact .inl (lp_nest_key N hn hlt glt h3 hrb h1 (lp_dm N h2))
  · exact .inr (lp_nest_key N hn glt hlt h3 hrb h2 (lp_dm N h1))
theorem lp_anti (N : NearB bs (nearD bs) ord) {h g : Nat} (h1 : lpB bs h g = true) (h2 : lpB bs g h = true) : h = g := by
  have hlt := hd_lt (lp_hd h1)
  have glt := hd_lt (lp_hd h2)
  have h3 := N.ord h g hlt glt (lp_dm N h1)
  have h4 := N.ord g h glt hlt (lp_dm N h2)
  exact h3.2 (by omega)
theorem lp_trans (N : NearB bs (nearD bs) ord) {h g b : Nat} (h1 : lpB bs h g = true) (h2 : lpB bs g b = true) : lpB bs h b = true := by
  by_cases e : h = g
  · subst e; exact h2
  · refine lp_least (fun x => lpB bs h x = true) h1 (fun k hk _ => lp_pred h1 (fun x => e x.symm) hk) (fun x c hx hP hne hc => lp_pred hP (fun ex => ?_) hc) h2
    subst ex
    exact e (lp_anti N h1 hx)
theorem lp_ord (N : NearB bs (nearD bs) ord) {h b : Nat} (h1 : lpB bs h b = true) (hne : b ≠ h) : ord h < ord b := by
  have h3 := N.ord h b (hd_lt (lp_hd h1)) (lp_lt N h1) (lp_dm N h1)
  rcases Nat.lt_or_ge (ord h) (ord b) with h4 | h4
  · exact h4
  · exact absurd (h3.2 (by omega)).symm hne

/-! ### In the order each block comes behind all that dominate it -/
theorem orderF_mem {x : Nat} : x ∈ orderF bs ↔ reachF bs x = true := by unfold orderF reachF reachB; rw [decide_eq_true_iff]
theorem orderF_dm {i x : Nat} (hi : (orderF bs)[i]? = some x) : ∀ a, dmB bs a x = true → a ∈ (orderF bs).take (i + 1) := by
  induction i using Nat.strongRecOn generalizing x with
  | _ i ih =>
    intro a ha
    by_cases e : a = x
    · subst e; exact List.mem_iff_getElem?.2 ⟨i, by rw [List.getElem?_take_of_lt (by omega)]; exact hi⟩
    · have hn : bs.length ≠ 0 := fun h0 => by
        have hx : x ∈ orderF bs := List.mem_iff_getElem?.2 ⟨i, hi⟩
        have := reachF_lt (orderF_mem.1 hx); omega
      by_cases h0 : i = 0
      · subst h0
        have h1 := orderL_first (nxF_lt bs) hn
        unfold orderF at hi
        rw [h1] at hi
        cases hi
        -- nothing else dominates the first one
        exfalso
        unfold dmB at ha
        rw [Bool.and_eq_true, Bool.or_eq_true, decide_eq_true_iff] at ha
        rcases ha.2 with h2 | h2
        · exact e h2
        · by_cases ea : a = 0
          · exact e ea
          · rw [(from_iff (by omega) ea 0).2 .refl] at h2; cases h2
      · obtain ⟨j, y, hj, hy, hxy⟩ := orderL_led (nxF_lt bs) hi (by omega)
        have hry : reachF bs y = true := orderF_mem.1 (List.mem_iff_getElem?.2 ⟨j, hy⟩)
        have := ih j hj hy a (near_pred (by omega) ha e hry hxy)
        exact List.take_subset_take_left _ (by omega) this
theorem orderF_nodup (bs : List BlkD) : (orderF bs).Nodup := orderL_nodup (nxF_lt bs)
/-- One that dominates another is not behind it. -/
theorem orderF_behind {i x a : Nat} (hi : (orderF bs)[i]? = some x) (ha : dmB bs a x = true) (hne : a ≠ x) : ∀ j, i ≤ j → (orderF bs)[j]? ≠ some a := by
  intro j hj he
  obtain ⟨k, hk⟩ := List.mem_iff_getElem?.1 (orderF_dm hi a ha)
  have hkl : k < i + 1 := by have := (List.getElem?_eq_some_iff.1 hk).1; simp at this; omega
  rw [List.getElem?_take_of_lt hkl] at hk
  have hnd := orderF_nodup bs
  have h1 := List.getElem?_eq_some_iff.1 hk
  have h2 := List.getElem?_eq_some_iff.1 he
  have : k = j := by
    rcases Nat.lt_trichotomy k j with h | h | h
    · exact absurd (h1.2.trans h2.2.symm) (List.pairwise_iff_getElem.1 hnd k j h1.1 h2.1 h)
    · exact h
    · exact absurd (h2.2.trans h1.2.symm) (List.pairwise_iff_getElem.1 hnd j k h2.1 h1.1 h)
  have hki : k = i := by omega
  subst hki
  rw [hi] at hk; cases hk; exact hne rfl
end Go.Proofs.Ytflbooopgjgkbaa
