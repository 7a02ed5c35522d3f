/- A function without the blocks that aren't reached, in mathematics. No condition. -/
import Derived.Test.YtoidhjmhakajlaaGrFJ
import Derived.Test.YtoidhjmhakajlaaSpecJ
namespace Go.Proofs.Ytoidhjmhakajlaa
open Go.ChangeShapes Go.WideShapes Go.RowKit Go.Deep
set_option linter.unusedVariables false

/-- What each block of a function leads to. -/
def nxF (bs : List BlkD) (a : Nat) : List Nat := match bs[a]? with
  | some b => nextN bs.length b.term.to
  | none => []
theorem nxF_at {bs : List BlkD} {a : Nat} {b : BlkD} (h : bs[a]? = some b) : nxF bs a = nextN bs.length b.term.to := by unfold nxF; rw [h]
theorem nxF_lt (bs : List BlkD) : ∀ x, ∀ t ∈ nxF bs x, t < bs.length := fun x t ht => by
  unfold nxF at ht
  split at ht
  · exact (nextN_mem.1 ht).1
  · cases ht
theorem nxF_mem {bs : List BlkD} {a t : Nat} {b : BlkD} (h : bs[a]? = some b) : t ∈ nxF bs a ↔ t < bs.length ∧ (t : Int) ∈ b.term.to := by
  rw [nxF_at h]; exact nextN_mem
/-- Numbers as integers. -/
def zs (l : List Nat) : List Int := l.map fun q : Nat => (q : Int)
theorem zs_len (l : List Nat) : (zs l).length = l.length := by simp [zs]
theorem zs_at {l : List Nat} {i : Nat} {x : Int} (h : (zs l)[i]? = some x) : ∃ q : Nat, l[i]? = some q ∧ x = q := by
  unfold zs at h
  rw [List.getElem?_map] at h
  obtain ⟨q, hq, rfl⟩ := Option.map_eq_some_iff.1 h
  exact ⟨q, hq, rfl⟩
theorem zs_snoc (l : List Nat) (q : Nat) : zs (l ++ [q]) = zs l ++ [(q : Int)] := by simp [zs]
theorem zs_mem {l : List Nat} {x : Int} (h : x ∈ zs l) : ∃ q ∈ l, x = (q : Int) := by
  unfold zs at h
  obtain ⟨q, hq, rfl⟩ := List.mem_map.1 h
  exact ⟨q, hq, rfl⟩

def reachF (bs : List BlkD) (x : Nat) : Bool := reachB (nxF bs) bs.length x
def orderF (bs : List BlkD) : List Nat := orderL (nxF bs) bs.length

/-! ### New numbers -/
def numB (r : Nat → Bool) (i : Nat) : Int := if r i = true then (((List.range i).countP r : Nat) : Int) else -1
def numsL (r : Nat → Bool) (n : Nat) : List Int := (List.range n).map (numB r)
theorem numsL_len (r : Nat → Bool) (n : Nat) : (numsL r n).length = n := by simp [numsL]
theorem numsL_at {r : Nat → Bool} {n i : Nat} {x : Int} (h : (numsL r n)[i]? = some x) : x = numB r i ∧ i < n := by
  unfold numsL at h
  rw [List.getElem?_map] at h
  obtain ⟨q, hq, rfl⟩ := Option.map_eq_some_iff.1 h
  obtain ⟨hl, rfl⟩ := List.getElem?_eq_some_iff.1 hq
  simp at hl ⊢
  exact hl
theorem countP_range_succ (r : Nat → Bool) (k : Nat) : (List.range (k + 1)).countP r = (List.range k).countP r + (if r k = true then 1 else 0) := by
  rw [List.range_succ, List.countP_append]; simp [List.countP_cons]
theorem countP_range_le (r : Nat → Bool) (k : Nat) : (List.range k).countP r ≤ k := by
  have := List.countP_le_length (p := r) (l := List.range k); simpa using this
theorem numB_i64 (r : Nat → Bool) {i : Nat} (h : i ≤ 1000000) : I64 (numB r i) := by
  have := countP_range_le r i
  unfold numB I64; split <;> omega

/-! ### The blocks that stay -/
/-- A phi's Args without those that stood for blocks that go. -/
def keepA (r : Nat → Bool) : List Int → List Int → List Int
  | a :: rs, x :: xs => (if r a.toNat = true then [x] else []) ++ keepA r rs xs
  | _, _ => []
def argsT (r : Nat → Bool) (ahead args : List Int) : List Int := if args.length = ahead.length then keepA r ahead args else args
def phiT (r : Nat → Bool) (ahead : List Int) (p : PhiD) : PhiD := ⟨p.dst, argsT r ahead p.args⟩
def toT (r : Nat → Bool) (n : Nat) (t : Int) : Int := if 0 ≤ t ∧ t < n then numB r t.toNat else t
def blkT (bs : List BlkD) (r : Nat → Bool) (i : Nat) (b : BlkD) : BlkD :=
  ⟨b.phis.map (phiT r (aheadL bs i)), b.ins, ⟨b.term.kind, b.term.arg, b.term.to.map (toT r bs.length)⟩⟩
def blksK (bs : List BlkD) (r : Nat → Bool) (k : Nat) : List BlkD := (bs.zipIdx.take k).filterMap fun p => if r p.2 = true then some (blkT bs r p.2 p.1) else none
def blksT (bs : List BlkD) : List BlkD := blksK bs (reachF bs) bs.length
def trimF (f : FunD) : FunD := ⟨f.params, f.result, f.regs, blksT f.blocks⟩

theorem blksK_succ {bs : List BlkD} {r : Nat → Bool} {k : Nat} {b : BlkD} (h : bs[k]? = some b) : blksK bs r (k + 1) = blksK bs r k ++ (if r k = true then [blkT bs r k b] else []) := by
  have hz : bs.zipIdx[k]? = some (b, k) := by simp [List.getElem?_zipIdx, h]
  unfold blksK
  rw [take_succ_of hz, List.filterMap_append]
  congr 1
  by_cases hr : r k = true
  · simp [hr]
  · simp [hr]
theorem blksK_zero (bs : List BlkD) (r : Nat → Bool) : blksK bs r 0 = [] := by simp [blksK]
theorem keepA_snoc {r : Nat → Bool} : ∀ {rs xs : List Int} {k : Nat} {a x : Int}, rs[k]? = some a → xs[k]? = some x → keepA r (rs.take (k + 1)) (xs.take (k + 1)) = keepA r (rs.take k) (xs.take k) ++ (if r a.toNat = true then [x] else [])
  | [], _, _, _, _, h, _ => by simp at h
  | _ :: _, [], _, _, _, _, h => by simp at h
  | y :: rs, z :: xs, 0, a, x, h1, h2 => by
    simp at h1 h2; subst h1; subst h2; simp [keepA]
  | y :: rs, z :: xs, k + 1, a, x, h1, h2 => by
    have ih := keepA_snoc (r := r) (rs := rs) (xs := xs) (k := k) (a := a) (x := x) (by simpa using h1) (by simpa using h2)
    simp only [List.take_succ_cons, keepA, ih, List.append_assoc]
theorem keepA_len (r : Nat → Bool) : ∀ (rs xs : List Int), (keepA r rs xs).length ≤ xs.length
  | [], _ => by simp [keepA]
  | _ :: _, [] => by simp [keepA]
  | a :: rs, x :: xs => by have := keepA_len r rs xs; simp only [keepA, List.length_append, List.length_cons]; split <;> simp <;> omega
theorem keepA_mem {r : Nat → Bool} {y : Int} : ∀ {rs xs : List Int}, y ∈ keepA r rs xs → y ∈ xs
  | [], _, h => by simp [keepA] at h
  | _ :: _, [], h => by simp [keepA] at h
  | a :: rs, x :: xs, h => by
    simp only [keepA, List.mem_append] at h
    rcases h with h | h
    · split at h <;> simp at h; subst h; simp
    · exact List.mem_cons_of_mem _ (keepA_mem h)
theorem argsT_mem {r : Nat → Bool} {ahead args : List Int} {y : Int} (h : y ∈ argsT r ahead args) : y ∈ args := by
  unfold argsT at h; split at h
  · exact keepA_mem h
  · exact h
end Go.Proofs.Ytoidhjmhakajlaa

/- Trimmed once more nothing goes; in mathematics. No condition. -/
namespace Go.Proofs.Ytoidhjmhakajlaa
open Go.ChangeShapes Go.WideShapes Go.RowKit Go.Deep
set_option linter.unusedVariables false

def cnt (r : Nat → Bool) (i : Nat) : Nat := (List.range i).countP r
theorem cnt_succ (r : Nat → Bool) (k : Nat) : cnt r (k + 1) = cnt r k + (if r k = true then 1 else 0) := countP_range_succ r k
theorem cnt_zero (r : Nat → Bool) : cnt r 0 = 0 := rfl
theorem numB_cnt {r : Nat → Bool} {i : Nat} (h : r i = true) : numB r i = (cnt r i : Nat) := by unfold numB; rw [if_pos h]; rfl
theorem blksK_facts {bs : List BlkD} (r : Nat → Bool) : ∀ k, k ≤ bs.length → (blksK bs r k).length = cnt r k ∧ (∀ i b, i < k → r i = true → bs[i]? = some b → (blksK bs r k)[cnt r i]? = some (blkT bs r i b)) ∧ ∀ j, j < (blksK bs r k).length → ∃ i, i < k ∧ r i = true ∧ cnt r i = j := by
  intro k
  induction k with
  | zero => intro _; rw [blksK_zero]; exact ⟨rfl, fun i b h => absurd h (by omega), fun j h => absurd h (by simp)⟩
  | succ k ih =>
    intro hk
    obtain ⟨h1, h2, h3⟩ := ih (by omega)
    have hb : bs[k]? = some bs[k] := List.getElem?_eq_getElem (by omega)
    rw [blksK_succ hb]
    refine ⟨?_, fun i b hi hr hbi => ?_, fun j hj => ?_⟩
    · rw [List.length_append, h1, cnt_succ]; split <;> simp
    · by_cases e : i = k
      · subst e
        obtain rfl : bs[i] = b := Option.some.inj (hb.symm.trans hbi)
        rw [if_pos hr, List.getElem?_append_right (by omega), h1, Nat.sub_self]; rfl
      · have h4 := h2 i b (by omega) hr hbi
        rw [List.getElem?_append_left (List.getElem?_eq_some_iff.1 h4).1]; exact h4
    · by_cases hj2 : j < (blksK bs r k).length
      · obtain ⟨i, h4, h5⟩ := h3 j hj2; exact ⟨i, by omega, h5⟩
      · rw [List.length_append] at hj
        by_cases hr : r k = true
        · rw [if_pos hr] at hj
          exact ⟨k, by omega, hr, by simp at hj; omega⟩
        · rw [if_neg hr] at hj; simp at hj; omega
theorem blksT_len (bs : List BlkD) : (blksT bs).length = cnt (reachF bs) bs.length := (blksK_facts (reachF bs) bs.length (Nat.le_refl _)).1
theorem cnt_le (r : Nat → Bool) (k : Nat) : cnt r k ≤ k := countP_range_le r k
theorem blksT_few (bs : List BlkD) : (blksT bs).length ≤ bs.length := by rw [blksT_len]; exact cnt_le _ _
theorem reachF_iff {bs : List BlkD} (hn : bs.length ≠ 0) {x : Nat} : reachF bs x = true ↔ Reach (nxF bs) 0 x := by
  unfold reachF reachB
  rw [decide_eq_true_iff]
  exact orderL_mem (nxF_lt bs) hn
theorem reachF_lt {bs : List BlkD} {x : Nat} (h : reachF bs x = true) : x < bs.length := by
  unfold reachF reachB at h
  exact orderL_lt (nxF_lt bs) (of_decide_eq_true h)
theorem cnt_lt {r : Nat → Bool} {i k : Nat} (hi : i < k) (hr : r i = true) : cnt r i < cnt r k := by
  have key : ∀ d, cnt r i < cnt r (i + 1 + d) := by
    intro d
    induction d with
    | zero => rw [Nat.add_zero, cnt_succ, if_pos hr]; omega
    | succ d ih => rw [show i + 1 + (d + 1) = i + 1 + d + 1 by omega, cnt_succ]; split <;> omega
  have := key (k - (i + 1))
  rwa [show i + 1 + (k - (i + 1)) = k by omega] at this
/-- Where a reached block leads, its new number does. -/
theorem lead_new {bs : List BlkD} {i t : Nat} (hn : bs.length ≠ 0) (hi : Reach (nxF bs) 0 i) (ht : t ∈ nxF bs i) : cnt (reachF bs) t ∈ nxF (blksT bs) (cnt (reachF bs) i) := by
  have hri := (reachF_iff hn).2 hi
  have hrt := (reachF_iff hn).2 (.step hi ht)
  have hil := reachF_lt hri
  have htl := reachF_lt hrt
  have hb : bs[i]? = some bs[i] := List.getElem?_eq_getElem hil
  have hc := (blksK_facts (reachF bs) bs.length (Nat.le_refl _)).2.1 i _ hil hri hb
  rw [nxF_mem (show (blksT bs)[cnt (reachF bs) i]? = some _ from hc)]
  refine ⟨by rw [blksT_len]; exact cnt_lt htl hrt, ?_⟩
  have hm := (nxF_mem hb).1 ht
  show ((cnt (reachF bs) t : Nat) : Int) ∈ bs[i].term.to.map (toT (reachF bs) bs.length)
  refine List.mem_map.2 ⟨t, hm.2, ?_⟩
  unfold toT
  rw [if_pos ⟨by omega, by omega⟩, Int.toNat_natCast, numB_cnt hrt]
theorem reach_new {bs : List BlkD} (hn : bs.length ≠ 0) {i : Nat} (hi : Reach (nxF bs) 0 i) : Reach (nxF (blksT bs)) 0 (cnt (reachF bs) i) := by
  induction hi with
  | refl => rw [cnt_zero]; exact .refl
  | step h1 h2 ih => exact .step ih (lead_new hn h1 h2)
/-- All blocks that are left are reached. -/
theorem reach_all {bs : List BlkD} {j : Nat} (hj : j < (blksT bs).length) : reachF (blksT bs) j = true := by
  have hn : bs.length ≠ 0 := by have := blksT_few bs; omega
  obtain ⟨i, _, hr, rfl⟩ := (blksK_facts (reachF bs) bs.length (Nat.le_refl _)).2.2 j hj
  exact (reachF_iff (by omega)).2 (reach_new hn ((reachF_iff hn).1 hr))
theorem cnt_all {r : Nat → Bool} : ∀ k, (∀ i, i < k → r i = true) → cnt r k = k := by
  intro k
  induction k with
  | zero => intro _; rfl
  | succ k ih => intro h; rw [cnt_succ, ih (fun i hi => h i (by omega)), if_pos (h k (by omega))]
theorem num_all {bs : List BlkD} {j : Nat} (hj : j < (blksT bs).length) : numB (reachF (blksT bs)) j = (j : Nat) := by
  rw [numB_cnt (reach_all hj), cnt_all j (fun i hi => reach_all (by omega))]
theorem keepA_all {r : Nat → Bool} : ∀ {rs xs : List Int}, rs.length = xs.length → (∀ a ∈ rs, r a.toNat = true) → keepA r rs xs = xs
  | [], [], _, _ => rfl
  | [], _ :: _, h, _ => by simp at h
  | _ :: _, [], h, _ => by simp at h
  | a :: rs, x :: xs, h, hr => by
    simp only [keepA, if_pos (hr a (by simp)), List.singleton_append]
    rw [keepA_all (by simpa using h) (fun b hb => hr b (by simp [hb]))]
theorem blkT_same {bs : List BlkD} {j : Nat} {b : BlkD} : blkT (blksT bs) (reachF (blksT bs)) j b = b := by
  have hto : b.term.to.map (toT (reachF (blksT bs)) (blksT bs).length) = b.term.to := by
    conv => rhs; rw [← List.map_id b.term.to]
    refine List.map_congr_left fun t _ => ?_
    unfold toT
    split
    · rename_i h
      rw [num_all (by omega)]
      simp; omega
    · rfl
  have hph : b.phis.map (phiT (reachF (blksT bs)) (aheadL (blksT bs) j)) = b.phis := by
    conv => rhs; rw [← List.map_id b.phis]
    refine List.map_congr_left fun p _ => ?_
    show phiT _ _ p = p
    unfold phiT argsT
    split
    · rename_i h
      rw [keepA_all h.symm (fun a ha => ?_)]
      have := aheadK_mem (blksT bs) 0 j a ha
      simp at this
      exact reach_all (by omega)
    · rfl
  unfold blkT
  rw [hto, hph]
theorem blksK_same {bs : List BlkD} : ∀ k, k ≤ (blksT bs).length → blksK (blksT bs) (reachF (blksT bs)) k = (blksT bs).take k := by
  intro k
  induction k with
  | zero => intro _; rw [blksK_zero, List.take_zero]
  | succ k ih =>
    intro hk
    have hb : (blksT bs)[k]? = some (blksT bs)[k] := List.getElem?_eq_getElem (by omega)
    rw [blksK_succ hb, ih (by omega), if_pos (reach_all (by omega)), blkT_same, take_succ_of hb]
/-- Trimmed once more nothing goes. -/
theorem blksT_again (bs : List BlkD) : blksT (blksT bs) = blksT bs := by
  rw [show blksT (blksT bs) = blksK (blksT bs) (reachF (blksT bs)) (blksT bs).length from rfl, blksK_same _ (Nat.le_refl _), List.take_length]
theorem trimF_again (f : FunD) : trimF (trimF f) = trimF f := by
  show (⟨f.params, f.result, f.regs, blksT (blksT f.blocks)⟩ : FunD) = ⟨f.params, f.result, f.regs, blksT f.blocks⟩
  rw [blksT_again]
end Go.Proofs.Ytoidhjmhakajlaa
