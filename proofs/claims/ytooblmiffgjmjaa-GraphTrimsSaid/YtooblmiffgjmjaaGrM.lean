/- Trimmed once more nothing goes; in mathematics. No condition. -/
import Derived.Test.YtooblmiffgjmjaaGrU
namespace Go.Proofs.Ytooblmiffgjmjaa
open Go.ChangeShapes Go.WideShapes Go.RowKit Go.Deep
set_option linter.unusedVariables false

def cnt (r : Nat → Bool) (i : Nat) : Nat := (List.range i).countP r
theorem cnt_succ (r : Nat → Bool) (k : Nat) : cnt r (k + 1) = cnt r k + (if r k = true then 1 else 0) := countP_range_succ r k
theorem cnt_zero (r : Nat → Bool) : cnt r 0 = 0 := rfl
theorem numB_cnt {r : Nat → Bool} {i : Nat} (h : r i = true) : numB r i = (cnt r i : Nat) := by unfold numB; rw [if_pos h]; rfl
theorem blksK_facts {bs : List BlkD} (r : Nat → Bool) : ∀ k, k ≤ bs.length → (blksK bs r k).length = cnt r k ∧ (∀ i b, i < k → r i = true → bs[i]? = some b → (blksK bs r k)[cnt r i]? = some (blkT bs r i b)) ∧ ∀ j, j < (blksK bs r k).length → ∃ i, i < k ∧ r i = true ∧ cnt r i = j := by
  intro k
  induction k with
  | zero => intro _; rw [blksK_zero]; exact ⟨rfl, fun i b h => absurd h (by omega), fun j h => absurd h (by simp)⟩
  | succ k ih =>
    intro hk
    obtain ⟨h1, h2, h3⟩ := ih (by omega)
    have hb : bs[k]? = some bs[k] := List.getElem?_eq_getElem (by omega)
    rw [blksK_succ hb]
    refine ⟨?_, fun i b hi hr hbi => ?_, fun j hj => ?_⟩
    · rw [List.length_append, h1, cnt_succ]; split <;> simp
    · by_cases e : i = k
      · subst e
        obtain rfl : bs[i] = b := Option.some.inj (hb.symm.trans hbi)
        rw [if_pos hr, List.getElem?_append_right (by omega), h1, Nat.sub_self]; rfl
      · have h4 := h2 i b (by omega) hr hbi
        rw [List.getElem?_append_left (List.getElem?_eq_some_iff.1 h4).1]; exact h4
    · by_cases hj2 : j < (blksK bs r k).length
      · obtain ⟨i, h4, h5⟩ := h3 j hj2; exact ⟨i, by omega, h5⟩
      · rw [List.length_append] at hj
        by_cases hr : r k = true
        · rw [if_pos hr] at hj
          exact ⟨k, by omega, hr, by simp at hj; omega⟩
        · rw [if_neg hr] at hj; simp at hj; omega
theorem blksT_len (bs : List BlkD) : (blksT bs).length = cnt (reachF bs) bs.length := (blksK_facts (reachF bs) bs.length (Nat.le_refl _)).1
theorem cnt_le (r : Nat → Bool) (k : Nat) : cnt r k ≤ k := countP_range_le r k
theorem blksT_few (bs : List BlkD) : (blksT bs).length ≤ bs.length := by rw [blksT_len]; exact cnt_le _ _
theorem reachF_iff {bs : List BlkD} (hn : bs.length ≠ 0) {x : Nat} : reachF bs x = true ↔ Reach (nxF bs) 0 x := by
  unfold reachF reachB
  rw [decide_eq_true_iff]
  exact orderL_mem (nxF_lt bs) hn
theorem reachF_lt {bs : List BlkD} {x : Nat} (h : reachF bs x = true) : x < bs.length := by
  unfold reachF reachB at h
  exact orderL_lt (nxF_lt bs) (of_decide_eq_true h)
theorem cnt_lt {r : Nat → Bool} {i k : Nat} (hi : i < k) (hr : r i = true) : cnt r i < cnt r k := by
  have key : ∀ d, cnt r i < cnt r (i + 1 + d) := by
    intro d
    induction d with
    | zero => rw [Nat.add_zero, cnt_succ, if_pos hr]; omega
    | succ d ih => rw [show i + 1 + (d + 1) = i + 1 + d + 1 by omega, cnt_succ]; split <;> omega
  have := key (k - (i + 1))
  rwa [show i + 1 + (k - (i + 1)) = k by omega] at this
/-- Where a reached block leads, its new number does. -/
theorem lead_new {bs : List BlkD} {i t : Nat} (hn : bs.length ≠ 0) (hi : Reach (nxF bs) 0 i) (ht : t ∈ nxF bs i) : cnt (reachF bs) t ∈ nxF (blksT bs) (cnt (reachF bs) i) := by
  have hri := (reachF_iff hn).2 hi
  have hrt := (reachF_iff hn).2 (.step hi ht)
  have hil := reachF_lt hri
  have htl := reachF_lt hrt
  have hb : bs[i]? = some bs[i] := List.getElem?_eq_getElem hil
  have hc := (blksK_facts (reachF bs) bs.length (Nat.le_refl _)).2.1 i _ hil hri hb
  rw [nxF_mem (show (blksT bs)[cnt (reachF bs) i]? = some _ from hc)]
  refine ⟨by rw [blksT_len]; exact cnt_lt htl hrt, ?_⟩
  have hm := (nxF_mem hb).1 ht
  show ((cnt (reachF bs) t : Nat) : Int) ∈ bs[i].term.to.map (toT (reachF bs) bs.length)
  refine List.mem_map.2 ⟨t, hm.2, ?_⟩
  unfold toT
  rw [if_pos ⟨by omega, by omega⟩, Int.toNat_natCast, numB_cnt hrt]
theorem reach_new {bs : List BlkD} (hn : bs.length ≠ 0) {i : Nat} (hi : Reach (nxF bs) 0 i) : Reach (nxF (blksT bs)) 0 (cnt (reachF bs) i) := by
  induction hi with
  | refl => rw [cnt_zero]; exact .refl
  | step h1 h2 ih => exact .step ih (lead_new hn h1 h2)
/-- All blocks that are left are reached. -/
theorem reach_all {bs : List BlkD} {j : Nat} (hj : j < (blksT bs).length) : reachF (blksT bs) j = true := by
  have hn : bs.length ≠ 0 := by have := blksT_few bs; omega
  obtain ⟨i, _, hr, rfl⟩ := (blksK_facts (reachF bs) bs.length (Nat.le_refl _)).2.2 j hj
  exact (reachF_iff (by omega)).2 (reach_new hn ((reachF_iff hn).1 hr))
theorem cnt_all {r : Nat → Bool} : ∀ k, (∀ i, i < k → r i = true) → cnt r k = k := by
  intro k
  induction k with
  | zero => intro _; rfl
  | succ k ih => intro h; rw [cnt_succ, ih (fun i hi => h i (by omega)), if_pos (h k (by omega))]
theorem num_all {bs : List BlkD} {j : Nat} (hj : j < (blksT bs).length) : numB (reachF (blksT bs)) j = (j : Nat) := by
  rw [numB_cnt (reach_all hj), cnt_all j (fun i hi => reach_all (by omega))]
theorem keepA_all {r : Nat → Bool} : ∀ {rs xs : List Int}, rs.length = xs.length → (∀ a ∈ rs, r a.toNat = true) → keepA r rs xs = xs
  | [], [], _, _ => rfl
  | [], _ :: _, h, _ => by simp at h
  | _ :: _, [], h, _ => by simp at h
  | a :: rs, x :: xs, h, hr => by
    simp only [keepA, if_pos (hr a (by simp)), List.singleton_append]
    rw [keepA_all (by simpa using h) (fun b hb => hr b (by simp [hb]))]
theorem blkT_same {bs : List BlkD} {j : Nat} {b : BlkD} : blkT (blksT bs) (reachF (blksT bs)) j b = b := by
  have hto : b.term.to.map (toT (reachF (blksT bs)) (blksT bs).length) = b.term.to := by
    conv => rhs; rw [← List.map_id b.term.to]
    refine List.map_congr_left fun t _ => ?_
    unfold toT
    split
    · rename_i h
      rw [num_all (by omega)]
      simp; omega
    · rfl
  have hph : b.phis.map (phiT (reachF (blksT bs)) (aheadL (blksT bs) j)) = b.phis := by
    conv => rhs; rw [← List.map_id b.phis]
    refine List.map_congr_left fun p _ => ?_
    show phiT _ _ p = p
    unfold phiT argsT
    split
    · rename_i h
      rw [keepA_all h.symm (fun a ha => ?_)]
      have := aheadK_mem (blksT bs) 0 j a ha
      simp at this
      exact reach_all (by omega)
    · rfl
  unfold blkT
  rw [hto, hph]
theorem blksK_same {bs : List BlkD} : ∀ k, k ≤ (blksT bs).length → blksK (blksT bs) (reachF (blksT bs)) k = (blksT bs).take k := by
  intro k
  induction k with
  | zero => intro _; rw [blksK_zero, List.take_zero]
  | succ k ih =>
    intro hk
    have hb : (blksT bs)[k]? = some (blksT bs)[k] := List.getElem?_eq_getElem (by omega)
    rw [blksK_succ hb, ih (by omega), if_pos (reach_all (by omega)), blkT_same, take_succ_of hb]
/-- Trimmed once more nothing goes. -/
theorem blksT_again (bs : List BlkD) : blksT (blksT bs) = blksT bs := by
  rw [show blksT (blksT bs) = blksK (blksT bs) (reachF (blksT bs)) (blksT bs).length from rfl, blksK_same _ (Nat.le_refl _), List.take_length]
theorem trimF_again (f : FunD) : trimF (trimF f) = trimF f := by
  show (⟨f.params, f.result, f.regs, blksT (blksT f.blocks)⟩ : FunD) = ⟨f.params, f.result, f.regs, blksT f.blocks⟩
  rw [blksT_again]
end Go.Proofs.Ytooblmiffgjmjaa
