/- The reference of layer 6: Nearest, Frontier; in mathematics, the program's are these. -/
import Derived.Test.YtooblmiffgjmjaaDmR
import Derived.Test.YtooblmiffgjmjaaLeads
namespace Go.Proofs.Ytooblmiffgjmjaa
open Go.ChangeShapes Go.WideShapes Go.RowKit Go.Deep
set_option linter.unusedVariables false

variable {bs : List BlkD}
def tosOf (bs : List BlkD) (c : Nat) : List Int := match bs[c]? with
  | some x => x.term.to
  | none => []
theorem tosOf_at {c : Nat} {x : BlkD} (h : bs[c]? = some x) : tosOf bs c = x.term.to := by unfold tosOf; rw [h]
def ledR (bs : List BlkD) (a b k : Nat) : Bool := (List.range k).any fun c => dmB bs a c && hasTo b (tosOf bs c)
theorem ledR_succ (a b k : Nat) : ledR bs a b (k + 1) = (ledR bs a b k || dmB bs a k && hasTo b (tosOf bs k)) := by unfold ledR; rw [List.range_succ, List.any_append]; simp
def rfB (bs : List BlkD) (a b : Nat) : Bool := ledR bs a b bs.length && (decide (a = b) || !dmB bs a b)
def rfL (bs : List BlkD) (m a : Nat) : List Nat := (List.range m).filter (rfB bs a)
theorem rfL_succ (m a : Nat) : rfL bs (m + 1) a = rfL bs m a ++ (if rfB bs a m = true then [m] else []) := by
  unfold rfL
  rw [List.range_succ, List.filter_append]
  congr 1
  by_cases h : rfB bs a m = true
  · rw [if_pos h]; simp [h]
  · rw [if_neg h]; simp [h]
theorem rfL_len (m a : Nat) : (rfL bs m a).length ≤ m := by unfold rfL; exact Nat.le_trans (List.length_filter_le _ _) (by simp)
theorem rfL_lt {m a b : Nat} (h : b ∈ rfL bs m a) : b < m := by unfold rfL at h; rw [List.mem_filter, List.mem_range] at h; exact h.1
theorem NearB.dm_near {N : Nat → Int} {ord : Nat → Nat} (h : NearB bs N ord) {a b : Nat} (ha : a < bs.length) (hb : b < bs.length) (hrb : fromB bs 0 (-1) b = true) : (decide (a = b) || !dmB bs a b) = (decide (N b < 0) || !dmB bs a (N b).toNat) := by
  by_cases h0 : b = 0
  · subst h0
    rw [h.none 0 hb (.inr rfl)]
    have : decide ((-1 : Int) < 0) = true := rfl
    rw [this, Bool.true_or]
    cases hd : dmB bs a 0
    · simp
    · have h1 := h.first a ha (h.reach a 0 ha hb hd)
      have h2 := h.ord 0 a hb ha h1
      have h3 := h.ord a 0 ha hb hd
      have : a = 0 := h3.2 (by omega)
      simp [this]
  · obtain ⟨p, hp, he, hpb, hdp, hall⟩ := h.some b hb hrb h0
    rw [he, Int.toNat_natCast, decide_eq_false (by omega : ¬ ((p : Int) < 0)), Bool.false_or]
    by_cases e : a = b
    · subst e
      have hno : dmB bs a p = false := by
        cases hdq : dmB bs a p
        · rfl
        · have h1 := h.ord a p ha hp hdq
          have h2 := h.ord p a hp ha hdp
          exact absurd (h2.2 (by omega)) hpb
      rw [hno]; simp
    · rw [decide_eq_false e, Bool.false_or]
      have : dmB bs a b = dmB bs a p := by
        cases hdq : dmB bs a b
        · cases hdp2 : dmB bs a p
          · rfl
          · rw [h.trans a p b hdp2 hdp] at hdq; cases hdq
        · exact (hall a ha e hdq).symm
      rw [this]
theorem reach_on {c b : Nat} (hn : 0 < bs.length) (hc : reachF bs c = true) (hb : b ∈ nxF bs c) : reachF bs b = true := by
  unfold reachF reachB at hc ⊢
  rw [decide_eq_true_iff, orderL_mem (nxF_lt bs) (by omega)] at hc ⊢
  exact .step hc hb
theorem NearB.fr_eq {ord : Nat → Nat} (h : NearB bs (nearD bs) ord) {a b : Nat} (ha : a < bs.length) (hb : b < bs.length) : rfB bs a b = frB bs a b := by
  have key : ∀ c, (c < bs.length ∧ (dmB bs a c && hasTo b (tosOf bs c)) = true) ↔ (c ∈ raL bs bs.length b ∧ dmB bs a c = true) := fun c => by
    constructor
    · rintro ⟨hc, h1⟩
      rw [Bool.and_eq_true] at h1
      refine ⟨?_, h1.1⟩
      unfold raL
      rw [List.mem_filter, List.mem_range, Bool.and_eq_true, decide_eq_true_iff]
      refine ⟨hc, by rw [← from_reachD]; exact dm_reach h1.1, ?_⟩
      have hat : bs[c]? = Option.some (bs[c]'hc) := List.getElem?_eq_getElem hc
      rw [nxF_mem hat]
      refine ⟨hb, ?_⟩
      have h2 := h1.2
      rw [tosOf_at hat] at h2
      unfold hasTo at h2
      rw [List.any_eq_true] at h2
      obtain ⟨y, hy, e⟩ := h2
      rw [beq_iff_eq] at e
      exact e ▸ hy
    · rintro ⟨h1, h2⟩
      obtain ⟨hc, -, hbc⟩ := raL_lt h1
      refine ⟨hc, ?_⟩
      have hat : bs[c]? = Option.some (bs[c]'hc) := List.getElem?_eq_getElem hc
      rw [nxF_mem hat] at hbc
      rw [h2, tosOf_at hat, Bool.true_and]
      unfold hasTo
      rw [List.any_eq_true]
      exact ⟨_, hbc.2, by simp⟩
  rw [Bool.eq_iff_iff]
  unfold rfB frB ledR
  rw [Bool.and_eq_true, List.any_eq_true, List.any_eq_true]
  constructor
  · rintro ⟨⟨c, hc, h1⟩, h2⟩
    obtain ⟨h3, h4⟩ := (key c).1 ⟨List.mem_range.1 hc, h1⟩
    refine ⟨c, h3, ?_⟩
    obtain ⟨-, hrc, hbc⟩ := raL_lt h3
    unfold upB
    rw [← h.dm_near ha hb (by rw [from_reachD]; exact reach_on (by omega) hrc hbc), h4, h2]; rfl
  · rintro ⟨c, h3, h1⟩
    unfold upB at h1
    rw [Bool.and_eq_true] at h1
    obtain ⟨-, hrc, hbc⟩ := raL_lt h3
    rw [← h.dm_near ha hb (by rw [from_reachD]; exact reach_on (by omega) hrc hbc)] at h1
    obtain ⟨h5, h6⟩ := (key c).2 ⟨h3, h1.1⟩
    exact ⟨⟨c, List.mem_range.2 h5, h6⟩, h1.2⟩
theorem NearB.fr_all {ord : Nat → Nat} (h : NearB bs (nearD bs) ord) {a : Nat} (ha : a < bs.length) : rfL bs bs.length a = frL bs bs.length a := by
  unfold rfL frL
  exact List.filter_congr fun b hb => by rw [h.fr_eq ha (List.mem_range.1 hb)]
def alR (bs : List BlkD) (b a k : Nat) : Bool := (List.range k).all fun c => decide (c = b) || !dmB bs c b || dmB bs c a
theorem alR_succ (b a k : Nat) : alR bs b a (k + 1) = (alR bs b a k && (decide (k = b) || !dmB bs k b || dmB bs k a)) := by unfold alR; rw [List.range_succ, List.all_append]; simp
theorem nearK_skip {b a : Nat} (h : a = b ∨ dmB bs a b = false) : nearK bs b (a + 1) = nearK bs b a := by
  show (if isNear bs b a = true then (a : Int) else nearK bs b a) = _
  rw [if_neg]
  unfold isNear
  rcases h with h | h
  · simp [h]
  · simp [h]
theorem nearK_take {b a : Nat} (h1 : a ≠ b) (h2 : dmB bs a b = true) : nearK bs b (a + 1) = if alR bs b a bs.length = true then (a : Int) else nearK bs b a := by
  show (if isNear bs b a = true then (a : Int) else nearK bs b a) = _
  have : isNear bs b a = alR bs b a bs.length := by unfold isNear alR; rw [h2]; simp [h1]
  rw [this]
end Go.Proofs.Ytooblmiffgjmjaa
