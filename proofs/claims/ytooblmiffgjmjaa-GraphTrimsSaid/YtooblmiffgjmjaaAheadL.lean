/- The blocks ahead of one, as a list: plain mathematics. -/
import Derived.Test.YtooblmiffgjmjaaModD
namespace Go.Proofs.Ytooblmiffgjmjaa
open Go.ChangeShapes Go.WideShapes Go.RowKit Go.Deep
set_option linter.unusedVariables false

theorem Try.info3 : (Try.prog.info? 3).map (fun i => (i.zero, i.size, i.bytes)) = some (some (.int .i64 0), 1, 8) := by kernel_rfl

def hasTo (block : Int) (to : List Int) : Bool := to.any (· == block)
def aheadK : List BlkD → Nat → Int → List Int
  | [], _, _ => []
  | b :: r, i, block => (if hasTo block b.term.to then [(i : Int)] else []) ++ aheadK r (i + 1) block
/-- The blocks ahead of one. -/
def aheadL (bs : List BlkD) (block : Int) : List Int := aheadK bs 0 block

theorem aheadK_snoc (bs : List BlkD) (i : Nat) (block : Int) (x : BlkD) : aheadK (bs ++ [x]) i block = aheadK bs i block ++ (if hasTo block x.term.to then [((i + bs.length : Nat) : Int)] else []) := by
  induction bs generalizing i with
  | nil => simp [aheadK]
  | cons b r ih => simp only [List.cons_append, aheadK, ih, List.append_assoc, List.length_cons]; congr 3; simp; omega
theorem aheadL_step {bs : List BlkD} {k : Nat} {x : BlkD} (block : Int) (h : bs[k]? = some x) : aheadL (bs.take (k + 1)) block = aheadL (bs.take k) block ++ (if hasTo block x.term.to then [(k : Int)] else []) := by
  have hk : k < bs.length := (List.getElem?_eq_some_iff.1 h).1
  rw [aheadL, take_succ_of h, aheadK_snoc, List.length_take, Nat.min_eq_left (by omega), Nat.zero_add]; rfl
theorem aheadK_len (bs : List BlkD) (i : Nat) (block : Int) : (aheadK bs i block).length ≤ bs.length := by
  induction bs generalizing i with
  | nil => simp [aheadK]
  | cons b r ih => simp only [aheadK, List.length_append, List.length_cons]; have := ih (i + 1); split <;> simp <;> omega
theorem aheadK_mem (bs : List BlkD) (i : Nat) (block : Int) : ∀ x ∈ aheadK bs i block, (i : Int) ≤ x ∧ x < ((i + bs.length : Nat) : Int) := by
  induction bs generalizing i with
  | nil => simp [aheadK]
  | cons b r ih =>
    intro x hx
    simp only [aheadK, List.mem_append] at hx
    rcases hx with hx | hx
    · split at hx <;> simp at hx; subst hx; simp; omega
    · have := ih (i + 1) x hx; simp at this ⊢; omega
theorem aheadL_i64 (bs : List BlkD) (block : Int) (h : bs.length ≤ 9223372036854775807) : ∀ x ∈ aheadL bs block, I64 x := by
  intro x hx
  have := aheadK_mem bs 0 block x hx
  simp at this
  unfold I64; omega
theorem hasTo_step (block : Int) {t : List Int} {j : Nat} {x : Int} (h : t[j]? = some x) : hasTo block (t.take (j + 1)) = (hasTo block (t.take j) || (x == block)) := by
  rw [take_succ_of h]; simp [hasTo]
end Go.Proofs.Ytooblmiffgjmjaa
