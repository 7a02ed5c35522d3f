/- What can be come to, by going round often enough, in mathematics. No condition. -/
import Derived.Test.YtooblmiffgjmjaaGrT
namespace Go.Proofs.Ytooblmiffgjmjaa
set_option linter.unusedVariables false

def mkW (w : Int) (S : Nat → Bool) (t : Nat) : Nat → Bool := if (t : Int) = w then S else mark S t
def fromA (nx : Nat → List Nat) (w : Int) (S : Nat → Bool) (a : Nat) : Nat → Bool := if S a = true then (nx a).foldl (mkW w) S else S
def fromR (nx : Nat → List Nat) (w : Int) (n : Nat) (S : Nat → Bool) : Nat → Bool := (List.range n).foldl (fromA nx w) S
def fromN (nx : Nat → List Nat) (w : Int) (n b : Nat) : Nat → Nat → Bool
  | 0 => mark noneSeen b
  | i + 1 => fromR nx w n (fromN nx w n b i)
/-- Without going by one. -/
def nxW (nx : Nat → List Nat) (w : Int) (a : Nat) : List Nat := (nx a).filter fun t : Nat => decide ((t : Int) ≠ w)
theorem nxW_mem {nx : Nat → List Nat} {w : Int} {a t : Nat} : t ∈ nxW nx w a ↔ t ∈ nx a ∧ (t : Int) ≠ w := by
  unfold nxW; rw [List.mem_filter]; simp

theorem mkW_of {w : Int} {S : Nat → Bool} {t x : Nat} (h : S x = true) : mkW w S t x = true := by
  unfold mkW; split
  · exact h
  · exact mark_of h
theorem foldW_of {w : Int} {l : List Nat} : ∀ {S : Nat → Bool} {x : Nat}, S x = true → l.foldl (mkW w) S x = true := by
  induction l with
  | nil => exact fun h => h
  | cons t l ih => exact fun h => ih (mkW_of h)
theorem foldW_mem {w : Int} {l : List Nat} : ∀ {S : Nat → Bool} {t : Nat}, t ∈ l → (t : Int) ≠ w → l.foldl (mkW w) S t = true := by
  induction l with
  | nil => intro S t h; cases h
  | cons y l ih =>
    intro S t h hw
    rcases List.mem_cons.1 h with rfl | h
    · rw [List.foldl_cons]
      exact foldW_of (by unfold mkW; rw [if_neg hw]; exact mark_same _ _)
    · exact ih h hw
theorem foldW_inv {w : Int} {l : List Nat} : ∀ {S : Nat → Bool} {x : Nat}, l.foldl (mkW w) S x = true → S x = true ∨ (x ∈ l ∧ (x : Int) ≠ w) := by
  induction l with
  | nil => exact fun h => .inl h
  | cons y l ih =>
    intro S x h
    rcases ih h with h1 | ⟨h1, h2⟩
    · unfold mkW at h1
      split at h1
      · exact .inl h1
      · rename_i hne
        rcases mark_cases h1 with rfl | h1
        · exact .inr ⟨by simp, hne⟩
        · exact .inl h1
    · exact .inr ⟨by simp [h1], h2⟩
theorem fromA_of {nx : Nat → List Nat} {w : Int} {S : Nat → Bool} {a x : Nat} (h : S x = true) : fromA nx w S a x = true := by
  unfold fromA; split
  · exact foldW_of h
  · exact h
theorem foldA_of {nx : Nat → List Nat} {w : Int} {l : List Nat} : ∀ {S : Nat → Bool} {x : Nat}, S x = true → l.foldl (fromA nx w) S x = true := by
  induction l with
  | nil => exact fun h => h
  | cons t l ih => exact fun h => ih (fromA_of h)
theorem foldA_mem {nx : Nat → List Nat} {w : Int} {l : List Nat} : ∀ {S : Nat → Bool} {a t : Nat}, a ∈ l → S a = true → t ∈ nx a → (t : Int) ≠ w → l.foldl (fromA nx w) S t = true := by
  induction l with
  | nil => intro S a t h; cases h
  | cons y l ih =>
    intro S a t h hs ht hw
    rcases List.mem_cons.1 h with rfl | h
    · rw [List.foldl_cons]
      exact foldA_of (by unfold fromA; rw [if_pos hs]; exact foldW_mem ht hw)
    · exact ih h (fromA_of hs) ht hw
theorem foldA_inv {nx : Nat → List Nat} {w : Int} {p : Nat → Prop} {l : List Nat} : (∀ a t, a ∈ l → p a → t ∈ nx a → (t : Int) ≠ w → p t) → ∀ {S : Nat → Bool}, (∀ x, S x = true → p x) → ∀ x, l.foldl (fromA nx w) S x = true → p x := by
  induction l with
  | nil => exact fun _ _ h => h
  | cons y l ih =>
    intro hp S h
    refine ih (fun a t ha => hp a t (by simp [ha])) fun x hx => ?_
    unfold fromA at hx
    split at hx
    · rename_i hy
      rcases foldW_inv hx with h1 | ⟨h1, h2⟩
      · exact h x h1
      · exact hp y x (by simp) (h y hy) h1 h2
    · exact h x hx

def ClosedG (nx : Nat → List Nat) (w : Int) (n : Nat) (S : Nat → Bool) : Prop := ∀ a t, a < n → S a = true → t ∈ nx a → (t : Int) ≠ w → S t = true
theorem unseen_less {n : Nat} {S S' : Nat → Bool} (h : ∀ x, S x = true → S' x = true) {t : Nat} (ht : t < n) (h1 : S t = false) (h2 : S' t = true) : unseen n S' + 1 ≤ unseen n S := by
  rw [unseen_mark h1 ht]
  have : unseen n S' ≤ unseen n (mark S t) := unseen_mono fun x hx => by
    rcases mark_cases hx with rfl | hx
    · exact h2
    · exact h x hx
  omega
theorem from_step {nx : Nat → List Nat} {n : Nat} (hnx : ∀ x, ∀ t ∈ nx x, t < n) {w : Int} {b : Nat} (hb : b < n) : ∀ i : Nat, ClosedG nx w n (fromN nx w n b i) ∨ unseen n (fromN nx w n b i) + i + 1 ≤ n := by
  intro i
  induction i with
  | zero =>
    right
    have h := unseen_mark (S := noneSeen) (b := b) rfl hb
    have h2 := unseen_le n noneSeen
    show unseen n (mark noneSeen b) + 0 + 1 ≤ n
    omega
  | succ i ih =>
    generalize hS : fromN nx w n b i = S at ih
    have hS' : fromN nx w n b (i + 1) = fromR nx w n S := by rw [← hS]; rfl
    rw [hS']
    by_cases hc : ClosedG nx w n S
    · left
      have hup : ∀ x, fromR nx w n S x = true → S x = true :=
        foldA_inv (p := fun x => S x = true) (fun a t ha hs ht hw => hc a t (List.mem_range.1 ha) hs ht hw) (fun x hx => hx)
      intro a t ha hs ht hw
      exact foldA_of (hc a t ha (hup a hs) ht hw)
    · rcases ih with ih | ih
      · exact absurd ih hc
      · right
        have : ∃ a t, a < n ∧ S a = true ∧ t ∈ nx a ∧ (t : Int) ≠ w ∧ S t = false := by
          apply Classical.byContradiction
          intro h
          apply hc
          intro a t ha hs ht hw
          cases h2 : S t
          · exact absurd ⟨a, t, ha, hs, ht, hw, h2⟩ h
          · rfl
        obtain ⟨a, t, ha, hs, ht, hw, h2⟩ := this
        have := unseen_less (S := S) (S' := fromR nx w n S) (fun x hx => foldA_of hx) (hnx a t ht) h2 (foldA_mem (List.mem_range.2 ha) hs ht hw)
        omega
theorem fromN_of {nx : Nat → List Nat} {w : Int} {n b : Nat} : ∀ i : Nat, fromN nx w n b i b = true
  | 0 => mark_same _ _
  | i + 1 => foldA_of (fromN_of i)
theorem fromN_reach {nx : Nat → List Nat} {w : Int} {n b : Nat} : ∀ (i x : Nat), fromN nx w n b i x = true → Reach (nxW nx w) b x
  | 0, x, h => by
    rcases mark_cases h with rfl | h
    · exact .refl
    · cases h
  | i + 1, x, h => foldA_inv (p := Reach (nxW nx w) b) (fun a t _ ha ht hw => .step ha (nxW_mem.2 ⟨ht, hw⟩)) (fun y hy => fromN_reach i y hy) x h
/-- Gone round as often as there are blocks: what can be come to. -/
theorem fromN_iff {nx : Nat → List Nat} {n : Nat} (hnx : ∀ x, ∀ t ∈ nx x, t < n) {w : Int} {b : Nat} (hb : b < n) (x : Nat) : fromN nx w n b n x = true ↔ Reach (nxW nx w) b x := by
  refine ⟨fromN_reach n x, fun h => ?_⟩
  rcases from_step hnx (w := w) hb n with hc | hc
  · have hlt : ∀ y, Reach (nxW nx w) b y → y < n := fun y hy => by
      cases hy with
      | refl => exact hb
      | step _ h => exact hnx _ _ (nxW_mem.1 h).1
    induction h with
    | refl => exact fromN_of n
    | step h1 h2 ih => exact hc _ _ (hlt _ h1) ih (nxW_mem.1 h2).1 (nxW_mem.1 h2).2
  · omega
theorem nxW_any (nx : Nat → List Nat) (w : Int) (hw : w < 0) : nxW nx w = nx := by
  funext a
  unfold nxW
  rw [List.filter_eq_self]
  intro t _
  simp; omega
theorem fromN_reachB {nx : Nat → List Nat} {n : Nat} (hnx : ∀ x, ∀ t ∈ nx x, t < n) (hn : 0 < n) (x : Nat) : fromN nx (-1) n 0 n x = reachB nx n x := by
  have h1 := fromN_iff hnx (w := -1) (b := 0) hn x
  rw [nxW_any nx (-1) (by omega), ← orderL_mem hnx (by omega)] at h1
  unfold reachB
  rw [Bool.eq_iff_iff, decide_eq_true_iff]
  exact h1
end Go.Proofs.Ytooblmiffgjmjaa
