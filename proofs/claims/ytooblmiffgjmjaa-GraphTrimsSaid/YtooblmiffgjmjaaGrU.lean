/- A function without the blocks that aren't reached, in mathematics. No condition. -/
import Derived.Test.YtooblmiffgjmjaaGrF
import Derived.Test.YtooblmiffgjmjaaAheadL
namespace Go.Proofs.Ytooblmiffgjmjaa
open Go.ChangeShapes Go.WideShapes Go.RowKit Go.Deep
set_option linter.unusedVariables false

/-- What each block of a function leads to. -/
def nxF (bs : List BlkD) (a : Nat) : List Nat := match bs[a]? with
  | some b => nextN bs.length b.term.to
  | none => []
theorem nxF_at {bs : List BlkD} {a : Nat} {b : BlkD} (h : bs[a]? = some b) : nxF bs a = nextN bs.length b.term.to := by unfold nxF; rw [h]
theorem nxF_lt (bs : List BlkD) : ∀ x, ∀ t ∈ nxF bs x, t < bs.length := fun x t ht => by
  unfold nxF at ht
  split at ht
  · exact (nextN_mem.1 ht).1
  · cases ht
theorem nxF_mem {bs : List BlkD} {a t : Nat} {b : BlkD} (h : bs[a]? = some b) : t ∈ nxF bs a ↔ t < bs.length ∧ (t : Int) ∈ b.term.to := by
  rw [nxF_at h]; exact nextN_mem
/-- Numbers as integers. -/
def zs (l : List Nat) : List Int := l.map fun q : Nat => (q : Int)
theorem zs_len (l : List Nat) : (zs l).length = l.length := by simp [zs]
theorem zs_at {l : List Nat} {i : Nat} {x : Int} (h : (zs l)[i]? = some x) : ∃ q : Nat, l[i]? = some q ∧ x = q := by
  unfold zs at h
  rw [List.getElem?_map] at h
  obtain ⟨q, hq, rfl⟩ := Option.map_eq_some_iff.1 h
  exact ⟨q, hq, rfl⟩
theorem zs_snoc (l : List Nat) (q : Nat) : zs (l ++ [q]) = zs l ++ [(q : Int)] := by simp [zs]
theorem zs_mem {l : List Nat} {x : Int} (h : x ∈ zs l) : ∃ q ∈ l, x = (q : Int) := by
  unfold zs at h
  obtain ⟨q, hq, rfl⟩ := List.mem_map.1 h
  exact ⟨q, hq, rfl⟩

def reachF (bs : List BlkD) (x : Nat) : Bool := reachB (nxF bs) bs.length x
def orderF (bs : List BlkD) : List Nat := orderL (nxF bs) bs.length

/-! ### New numbers -/
def numB (r : Nat → Bool) (i : Nat) : Int := if r i = true then (((List.range i).countP r : Nat) : Int) else -1
def numsL (r : Nat → Bool) (n : Nat) : List Int := (List.range n).map (numB r)
theorem numsL_len (r : Nat → Bool) (n : Nat) : (numsL r n).length = n := by simp [numsL]
theorem numsL_at {r : Nat → Bool} {n i : Nat} {x : Int} (h : (numsL r n)[i]? = some x) : x = numB r i ∧ i < n := by
  unfold numsL at h
  rw [List.getElem?_map] at h
  obtain ⟨q, hq, rfl⟩ := Option.map_eq_some_iff.1 h
  obtain ⟨hl, rfl⟩ := List.getElem?_eq_some_iff.1 hq
  simp at hl ⊢
  exact hl
theorem countP_range_succ (r : Nat → Bool) (k : Nat) : (List.range (k + 1)).countP r = (List.range k).countP r + (if r k = true then 1 else 0) := by
  rw [List.range_succ, List.countP_append]; simp [List.countP_cons]
theorem countP_range_le (r : Nat → Bool) (k : Nat) : (List.range k).countP r ≤ k := by
  have := List.countP_le_length (p := r) (l := List.range k); simpa using this
theorem numB_i64 (r : Nat → Bool) {i : Nat} (h : i ≤ 1000000) : I64 (numB r i) := by
  have := countP_range_le r i
  unfold numB I64; split <;> omega

/-! ### The blocks that stay -/
/-- A phi's Args without those that stood for blocks that go. -/
def keepA (r : Nat → Bool) : List Int → List Int → List Int
  | a :: rs, x :: xs => (if r a.toNat = true then [x] else []) ++ keepA r rs xs
  | _, _ => []
def argsT (r : Nat → Bool) (ahead args : List Int) : List Int := if args.length = ahead.length then keepA r ahead args else args
def phiT (r : Nat → Bool) (ahead : List Int) (p : PhiD) : PhiD := ⟨p.dst, argsT r ahead p.args⟩
def toT (r : Nat → Bool) (n : Nat) (t : Int) : Int := if 0 ≤ t ∧ t < n then numB r t.toNat else t
def blkT (bs : List BlkD) (r : Nat → Bool) (i : Nat) (b : BlkD) : BlkD :=
  ⟨b.phis.map (phiT r (aheadL bs i)), b.ins, ⟨b.term.kind, b.term.arg, b.term.to.map (toT r bs.length)⟩⟩
def blksK (bs : List BlkD) (r : Nat → Bool) (k : Nat) : List BlkD := (bs.zipIdx.take k).filterMap fun p => if r p.2 = true then some (blkT bs r p.2 p.1) else none
def blksT (bs : List BlkD) : List BlkD := blksK bs (reachF bs) bs.length
def trimF (f : FunD) : FunD := ⟨f.params, f.result, f.regs, blksT f.blocks⟩

theorem blksK_succ {bs : List BlkD} {r : Nat → Bool} {k : Nat} {b : BlkD} (h : bs[k]? = some b) : blksK bs r (k + 1) = blksK bs r k ++ (if r k = true then [blkT bs r k b] else []) := by
  have hz : bs.zipIdx[k]? = some (b, k) := by simp [List.getElem?_zipIdx, h]
  unfold blksK
  rw [take_succ_of hz, List.filterMap_append]
  congr 1
  by_cases hr : r k = true
  · simp [hr]
  · simp [hr]
theorem blksK_zero (bs : List BlkD) (r : Nat → Bool) : blksK bs r 0 = [] := by simp [blksK]
theorem keepA_snoc {r : Nat → Bool} : ∀ {rs xs : List Int} {k : Nat} {a x : Int}, rs[k]? = some a → xs[k]? = some x → keepA r (rs.take (k + 1)) (xs.take (k + 1)) = keepA r (rs.take k) (xs.take k) ++ (if r a.toNat = true then [x] else [])
  | [], _, _, _, _, h, _ => by simp at h
  | _ :: _, [], _, _, _, _, h => by simp at h
  | y :: rs, z :: xs, 0, a, x, h1, h2 => by
    simp at h1 h2; subst h1; subst h2; simp [keepA]
  | y :: rs, z :: xs, k + 1, a, x, h1, h2 => by
    have ih := keepA_snoc (r := r) (rs := rs) (xs := xs) (k := k) (a := a) (x := x) (by simpa using h1) (by simpa using h2)
    simp only [List.take_succ_cons, keepA, ih, List.append_assoc]
theorem keepA_len (r : Nat → Bool) : ∀ (rs xs : List Int), (keepA r rs xs).length ≤ xs.length
  | [], _ => by simp [keepA]
  | _ :: _, [] => by simp [keepA]
  | a :: rs, x :: xs => by have := keepA_len r rs xs; simp only [keepA, List.length_append, List.length_cons]; split <;> simp <;> omega
theorem keepA_mem {r : Nat → Bool} {y : Int} : ∀ {rs xs : List Int}, y ∈ keepA r rs xs → y ∈ xs
  | [], _, h => by simp [keepA] at h
  | _ :: _, [], h => by simp [keepA] at h
  | a :: rs, x :: xs, h => by
    simp only [keepA, List.mem_append] at h
    rcases h with h | h
    · split at h <;> simp at h; subst h; simp
    · exact List.mem_cons_of_mem _ (keepA_mem h)
theorem argsT_mem {r : Nat → Bool} {ahead args : List Int} {y : Int} (h : y ∈ argsT r ahead args) : y ∈ args := by
  unfold argsT at h; split at h
  · exact keepA_mem h
  · exact h
end Go.Proofs.Ytooblmiffgjmjaa
