/- What can be come to, by going round often enough, in mathematics. No condition. -/
import Derived.Test.YtdfiflbkamhchaaDoorGrTJ
import Derived.Test.YtdfiflbkamhchaaDoorArMJ
import Derived.Test.YtdfiflbkamhchaaDoorLvMJ
import Derived.Test.YtdfiflbkamhchaaDoorLvVJ
namespace Go.Proofs.YtdfiflbkamhchaaDoor
set_option linter.unusedVariables false

def mkW (w : Int) (S : Nat → Bool) (t : Nat) : Nat → Bool := if (t : Int) = w then S else mark S t
def fromA (nx : Nat → List Nat) (w : Int) (S : Nat → Bool) (a : Nat) : Nat → Bool := if S a = true then (nx a).foldl (mkW w) S else S
def fromR (nx : Nat → List Nat) (w : Int) (n : Nat) (S : Nat → Bool) : Nat → Bool := (List.range n).foldl (fromA nx w) S
def fromN (nx : Nat → List Nat) (w : Int) (n b : Nat) : Nat → Nat → Bool
  | 0 => mark noneSeen b
  | i + 1 => fromR nx w n (fromN nx w n b i)
/-- Without going by one. -/
def nxW (nx : Nat → List Nat) (w : Int) (a : Nat) : List Nat := (nx a).filter fun t : Nat => decide ((t : Int) ≠ w)
theorem nxW_mem {nx : Nat → List Nat} {w : Int} {a t : Nat} : t ∈ nxW nx w a ↔ t ∈ nx a ∧ (t : Int) ≠ w := by
  unfold nxW; rw [List.mem_filter]; simp

theorem mkW_of {w : Int} {S : Nat → Bool} {t x : Nat} (h : S x = true) : mkW w S t x = true := by
  unfold mkW; split
  · exact h
  · exact mark_of h
theorem foldW_of {w : Int} {l : List Nat} : ∀ {S : Nat → Bool} {x : Nat}, S x = true → l.foldl (mkW w) S x = true := by
  induction l with
  | nil => exact fun h => h
  | cons t l ih => exact fun h => ih (mkW_of h)
theorem foldW_mem {w : Int} {l : List Nat} : ∀ {S : Nat → Bool} {t : Nat}, t ∈ l → (t : Int) ≠ w → l.foldl (mkW w) S t = true := by
  induction l with
  | nil => intro S t h; cases h
  | cons y l ih =>
    intro S t h hw
    rcases List.mem_cons.1 h with rfl | h
    · rw [List.foldl_cons]
      exact foldW_of (by unfold mkW; rw [if_neg hw]; exact mark_same _ _)
    · exact ih h hw
theorem foldW_inv {w : Int} {l : List Nat} : ∀ {S : Nat → Bool} {x : Nat}, l.foldl (mkW w) S x = true → S x = true ∨ (x ∈ l ∧ (x : Int) ≠ w) := by
  induction l with
  | nil => exact fun h => .inl h
  | cons y l ih =>
    intro S x h
    rcases ih h with h1 | ⟨h1, h2⟩
    · unfold mkW at h1
      split at h1
      · exact .inl h1
      · rename_i hne
        rcases mark_cases h1 with rfl | h1
        · exact .inr ⟨by simp, hne⟩
        · exact .inl h1
    · exact .inr ⟨by simp [h1], h2⟩
theorem fromA_of {nx : Nat → List Nat} {w : Int} {S : Nat → Bool} {a x : Nat} (h : S x = true) : fromA nx w S a x = true := by
  unfold fromA; split
  · exact foldW_of h
  · exact h
theorem foldA_of {nx : Nat → List Nat} {w : Int} {l : List Nat} : ∀ {S : Nat → Bool} {x : Nat}, S x = true → l.foldl (fromA nx w) S x = true := by
  induction l with
  | nil => exact fun h => h
  | cons t l ih => exact fun h => ih (fromA_of h)
theorem foldA_mem {nx : Nat → List Nat} {w : Int} {l : List Nat} : ∀ {S : Nat → Bool} {a t : Nat}, a ∈ l → S a = true → t ∈ nx a → (t : Int) ≠ w → l.foldl (fromA nx w) S t = true := by
  induction l with
  | nil => intro S a t h; cases h
  | cons y l ih =>
    intro S a t h hs ht hw
    rcases List.mem_cons.1 h with rfl | h
    · rw [List.foldl_cons]
      exact foldA_of (by unfold fromA; rw [if_pos hs]; exact foldW_mem ht hw)
    · exact ih h (fromA_of hs) ht hw
theorem foldA_inv {nx : Nat → List Nat} {w : Int} {p : Nat → Prop} {l : List Nat} : (∀ a t, a ∈ l → p a → t ∈ nx a → (t : Int) ≠ w → p t) → ∀ {S : Nat → Bool}, (∀ x, S x = true → p x) → ∀ x, l.foldl (fromA nx w) S x = true → p x := by
  induction l with
  | nil => exact fun _ _ h => h
  | cons y l ih =>
    intro hp S h
    refine ih (fun a t ha => hp a t (by simp [ha])) fun x hx => ?_
    unfold fromA at hx
    split at hx
    · rename_i hy
      rcases foldW_inv hx with h1 | ⟨h1, h2⟩
      · exact h x h1
      · exact hp y x (by simp) (h y hy) h1 h2
    · exact h x hx

def ClosedG (nx : Nat → List Nat) (w : Int) (n : Nat) (S : Nat → Bool) : Prop := ∀ a t, a < n → S a = true → t ∈ nx a → (t : Int) ≠ w → S t = true
theorem unseen_less {n : Nat} {S S' : Nat → Bool} (h : ∀ x, S x = true → S' x = true) {t : Nat} (ht : t < n) (h1 : S t = false) (h2 : S' t = true) : unseen n S' + 1 ≤ unseen n S := by
  rw [unseen_mark h1 ht]
  have : unseen n S' ≤ unseen n (mark S t) := unseen_mono fun x hx => by
    rcases mark_cases hx with rfl | hx
    · exact h2
    · exact h x hx
  omega
theorem from_step {nx : Nat → List Nat} {n : Nat} (hnx : ∀ x, ∀ t ∈ nx x, t < n) {w : Int} {b : Nat} (hb : b < n) : ∀ i : Nat, ClosedG nx w n (fromN nx w n b i) ∨ unseen n (fromN nx w n b i) + i + 1 ≤ n := by
  intro i
  induction i with
  | zero =>
    right
    have h := unseen_mark (S := noneSeen) (b := b) rfl hb
    have h2 := unseen_le n noneSeen
    show unseen n (mark noneSeen b) + 0 + 1 ≤ n
    omega
  | succ i ih =>
    generalize hS : fromN nx w n b i = S at ih
    have hS' : fromN nx w n b (i + 1) = fromR nx w n S := by rw [← hS]; rfl
    rw [hS']
    by_cases hc : ClosedG nx w n S
    · left
      have hup : ∀ x, fromR nx w n S x = true → S x = true :=
        foldA_inv (p := fun x => S x = true) (fun a t ha hs ht hw => hc a t (List.mem_range.1 ha) hs ht hw) (fun x hx => hx)
      intro a t ha hs ht hw
      exact foldA_of (hc a t ha (hup a hs) ht hw)
    · rcases ih with ih | ih
      · exact absurd ih hc
      · right
        have : ∃ a t, a < n ∧ S a = true ∧ t ∈ nx a ∧ (t : Int) ≠ w ∧ S t = false := by
          apply Classical.byContradiction
          intro h
          apply hc
          intro a t ha hs ht hw
          cases h2 : S t
          · exact absurd ⟨a, t, ha, hs, ht, hw, h2⟩ h
          · rfl
        obtain ⟨a, t, ha, hs, ht, hw, h2⟩ := this
        have := unseen_less (S := S) (S' := fromR nx w n S) (fun x hx => foldA_of hx) (hnx a t ht) h2 (foldA_mem (List.mem_range.2 ha) hs ht hw)
        omega
theorem fromN_of {nx : Nat → List Nat} {w : Int} {n b : Nat} : ∀ i : Nat, fromN nx w n b i b = true
  | 0 => mark_same _ _
  | i + 1 => foldA_of (fromN_of i)
theorem fromN_reach {nx : Nat → List Nat} {w : Int} {n b : Nat} : ∀ (i x : Nat), fromN nx w n b i x = true → Reach (nxW nx w) b x
  | 0, x, h => by
    rcases mark_cases h with rfl | h
    · exact .refl
    · cases h
  | i + 1, x, h => foldA_inv (p := Reach (nxW nx w) b) (fun a t _ ha ht hw => .step ha (nxW_mem.2 ⟨ht, hw⟩)) (fun y hy => fromN_reach i y hy) x h
/-- Gone round as often as there are blocks: what can be come to. -/
theorem fromN_iff {nx : Nat → List Nat} {n : Nat} (hnx : ∀ x, ∀ t ∈ nx x, t < n) {w : Int} {b : Nat} (hb : b < n) (x : Nat) : fromN nx w n b n x = true ↔ Reach (nxW nx w) b x := by
  refine ⟨fromN_reach n x, fun h => ?_⟩
  rcases from_step hnx (w := w) hb n with hc | hc
  · have hlt : ∀ y, Reach (nxW nx w) b y → y < n := fun y hy => by
      cases hy with
      | refl => exact hb
      | step _ h => exact hnx _ _ (nxW_mem.1 h).1
    induction h with
    | refl => exact fromN_of n
    | step h1 h2 ih => exact hc _ _ (hlt _ h1) ih (nxW_mem.1 h2).1 (nxW_mem.1 h2).2
  · omega
theorem nxW_any (nx : Nat → List Nat) (w : Int) (hw : w < 0) : nxW nx w = nx := by
  funext a
  unfold nxW
  rw [List.filter_eq_self]
  intro t _
  simp; omega
theorem fromN_reachB {nx : Nat → List Nat} {n : Nat} (hnx : ∀ x, ∀ t ∈ nx x, t < n) (hn : 0 < n) (x : Nat) : fromN nx (-1) n 0 n x = reachB nx n x := by
  have h1 := fromN_iff hnx (w := -1) (b := 0) hn x
  rw [nxW_any nx (-1) (by omega), ← orderL_mem hnx (by omega)] at h1
  unfold reachB
  rw [Bool.eq_iff_iff, decide_eq_true_iff]
  exact h1
end Go.Proofs.YtdfiflbkamhchaaDoor

/- A function without the blocks that aren't reached, in mathematics. No condition. -/
namespace Go.Proofs.YtdfiflbkamhchaaDoor
open Go.ChangeShapes Go.WideShapes Go.RowKit Go.Deep
set_option linter.unusedVariables false

/-- What each block of a function leads to. -/
def nxF (bs : List BlkD) (a : Nat) : List Nat := match bs[a]? with
  | some b => nextN bs.length b.term.to
  | none => []
theorem nxF_at {bs : List BlkD} {a : Nat} {b : BlkD} (h : bs[a]? = some b) : nxF bs a = nextN bs.length b.term.to := by unfold nxF; rw [h]
theorem nxF_lt (bs : List BlkD) : ∀ x, ∀ t ∈ nxF bs x, t < bs.length := fun x t ht => by
  unfold nxF at ht
  split at ht
  · exact (nextN_mem.1 ht).1
  · cases ht
theorem nxF_mem {bs : List BlkD} {a t : Nat} {b : BlkD} (h : bs[a]? = some b) : t ∈ nxF bs a ↔ t < bs.length ∧ (t : Int) ∈ b.term.to := by
  rw [nxF_at h]; exact nextN_mem
/-- Numbers as integers. -/
def zs (l : List Nat) : List Int := l.map fun q : Nat => (q : Int)
theorem zs_len (l : List Nat) : (zs l).length = l.length := by simp [zs]
theorem zs_at {l : List Nat} {i : Nat} {x : Int} (h : (zs l)[i]? = some x) : ∃ q : Nat, l[i]? = some q ∧ x = q := by
  unfold zs at h
  rw [List.getElem?_map] at h
  obtain ⟨q, hq, rfl⟩ := Option.map_eq_some_iff.1 h
  exact ⟨q, hq, rfl⟩
theorem zs_snoc (l : List Nat) (q : Nat) : zs (l ++ [q]) = zs l ++ [(q : Int)] := by simp [zs]
theorem zs_mem {l : List Nat} {x : Int} (h : x ∈ zs l) : ∃ q ∈ l, x = (q : Int) := by
  unfold zs at h
  obtain ⟨q, hq, rfl⟩ := List.mem_map.1 h
  exact ⟨q, hq, rfl⟩

def reachF (bs : List BlkD) (x : Nat) : Bool := reachB (nxF bs) bs.length x
def orderF (bs : List BlkD) : List Nat := orderL (nxF bs) bs.length

/-! ### New numbers -/
def numB (r : Nat → Bool) (i : Nat) : Int := if r i = true then (((List.range i).countP r : Nat) : Int) else -1
def numsL (r : Nat → Bool) (n : Nat) : List Int := (List.range n).map (numB r)
theorem numsL_len (r : Nat → Bool) (n : Nat) : (numsL r n).length = n := by simp [numsL]
theorem numsL_at {r : Nat → Bool} {n i : Nat} {x : Int} (h : (numsL r n)[i]? = some x) : x = numB r i ∧ i < n := by
  unfold numsL at h
  rw [List.getElem?_map] at h
  obtain ⟨q, hq, rfl⟩ := Option.map_eq_some_iff.1 h
  obtain ⟨hl, rfl⟩ := List.getElem?_eq_some_iff.1 hq
  simp at hl ⊢
  exact hl
theorem countP_range_succ (r : Nat → Bool) (k : Nat) : (List.range (k + 1)).countP r = (List.range k).countP r + (if r k = true then 1 else 0) := by
  rw [List.range_succ, List.countP_append]; simp [List.countP_cons]
theorem countP_range_le (r : Nat → Bool) (k : Nat) : (List.range k).countP r ≤ k := by
  have := List.countP_le_length (p := r) (l := List.range k); simpa using this
theorem numB_i64 (r : Nat → Bool) {i : Nat} (h : i ≤ 1000000) : I64 (numB r i) := by
  have := countP_range_le r i
  unfold numB I64; split <;> omega

/-! ### The blocks that stay -/
/-- A phi's Args without those that stood for blocks that go. -/
def keepA (r : Nat → Bool) : List Int → List Int → List Int
  | a :: rs, x :: xs => (if r a.toNat = true then [x] else []) ++ keepA r rs xs
  | _, _ => []
def argsT (r : Nat → Bool) (ahead args : List Int) : List Int := if args.length = ahead.length then keepA r ahead args else args
def phiT (r : Nat → Bool) (ahead : List Int) (p : PhiD) : PhiD := ⟨p.dst, argsT r ahead p.args⟩
def toT (r : Nat → Bool) (n : Nat) (t : Int) : Int := if 0 ≤ t ∧ t < n then numB r t.toNat else t
def blkT (bs : List BlkD) (r : Nat → Bool) (i : Nat) (b : BlkD) : BlkD :=
  ⟨b.phis.map (phiT r (aheadL bs i)), b.ins, ⟨b.term.kind, b.term.arg, b.term.to.map (toT r bs.length)⟩⟩
def blksK (bs : List BlkD) (r : Nat → Bool) (k : Nat) : List BlkD := (bs.zipIdx.take k).filterMap fun p => if r p.2 = true then some (blkT bs r p.2 p.1) else none
def blksT (bs : List BlkD) : List BlkD := blksK bs (reachF bs) bs.length
def trimF (f : FunD) : FunD := ⟨f.params, f.result, f.regs, blksT f.blocks⟩

theorem blksK_succ {bs : List BlkD} {r : Nat → Bool} {k : Nat} {b : BlkD} (h : bs[k]? = some b) : blksK bs r (k + 1) = blksK bs r k ++ (if r k = true then [blkT bs r k b] else []) := by
  have hz : bs.zipIdx[k]? = some (b, k) := by simp [List.getElem?_zipIdx, h]
  unfold blksK
  rw [take_succ_of hz, List.filterMap_append]
  congr 1
  by_cases hr : r k = true
  · simp [hr]
  · simp [hr]
theorem blksK_zero (bs : List BlkD) (r : Nat → Bool) : blksK bs r 0 = [] := by simp [blksK]
theorem keepA_snoc {r : Nat → Bool} : ∀ {rs xs : List Int} {k : Nat} {a x : Int}, rs[k]? = some a → xs[k]? = some x → keepA r (rs.take (k + 1)) (xs.take (k + 1)) = keepA r (rs.take k) (xs.take k) ++ (if r a.toNat = true then [x] else [])
  | [], _, _, _, _, h, _ => by simp at h
  | _ :: _, [], _, _, _, _, h => by simp at h
  | y :: rs, z :: xs, 0, a, x, h1, h2 => by
    simp at h1 h2; subst h1; subst h2; simp [keepA]
  | y :: rs, z :: xs, k + 1, a, x, h1, h2 => by
    have ih := keepA_snoc (r := r) (rs := rs) (xs := xs) (k := k) (a := a) (x := x) (by simpa using h1) (by simpa using h2)
    simp only [List.take_succ_cons, keepA, ih, List.append_assoc]
theorem keepA_len (r : Nat → Bool) : ∀ (rs xs : List Int), (keepA r rs xs).length ≤ xs.length
  | [], _ => by simp [keepA]
  | _ :: _, [] => by simp [keepA]
  | a :: rs, x :: xs => by have := keepA_len r rs xs; simp only [keepA, List.length_append, List.length_cons]; split <;> simp <;> omega
theorem keepA_mem {r : Nat → Bool} {y : Int} : ∀ {rs xs : List Int}, y ∈ keepA r rs xs → y ∈ xs
  | [], _, h => by simp [keepA] at h
  | _ :: _, [], h => by simp [keepA] at h
  | a :: rs, x :: xs, h => by
    simp only [keepA, List.mem_append] at h
    rcases h with h | h
    · split at h <;> simp at h; subst h; simp
    · exact List.mem_cons_of_mem _ (keepA_mem h)
theorem argsT_mem {r : Nat → Bool} {ahead args : List Int} {y : Int} (h : y ∈ argsT r ahead args) : y ∈ args := by
  unfold argsT at h; split at h
  · exact keepA_mem h
  · exact h
end Go.Proofs.YtdfiflbkamhchaaDoor

/- What is wanted, as the document reckons it round by round: plain mathematics. -/
namespace Go.Proofs.YtdfiflbkamhchaaDoor
open Go.RowKit
set_option linter.unusedVariables false

/-- Of one register: at which beginnings and ends it is wanted, as far as was reckoned. -/
structure RdS where
  i : Nat → Bool
  e : Nat → Bool
section
variable (nx : Nat → List Nat) (al : Nat → Nat → Bool) (us mk ph : Nat → Bool) (n : Nat)
def inF (b : Nat) (x : Bool) : Bool := !ph b && (us b || (x && !mk b))
def stE (s : RdS) (b : Nat) : Bool := s.e b || (nx b).any fun t => al b t || s.i t
def stB (s : RdS) (b : Nat) : RdS := ⟨fun x => if x = b then inF us mk ph b (stE nx al s b) else s.i x, fun x => if x = b then stE nx al s b else s.e x⟩
def rdK (s : RdS) (k : Nat) : RdS := (List.range k).foldl (stB nx al us mk ph) s
def rds (s : RdS) : Nat → RdS
  | 0 => s
  | j + 1 => rdK nx al us mk ph (rds s j) n
end
variable {nx : Nat → List Nat} {al : Nat → Nat → Bool} {us mk ph : Nat → Bool} {n : Nat}
theorem rdK_succ (s : RdS) (k : Nat) : rdK nx al us mk ph s (k + 1) = stB nx al us mk ph (rdK nx al us mk ph s k) k := by unfold rdK; rw [List.range_succ, List.foldl_append]; rfl
theorem inF_mono {b : Nat} {x y : Bool} (h : x = true → y = true) (hx : inF us mk ph b x = true) : inF us mk ph b y = true := by
  unfold inF at hx ⊢
  cases x <;> cases y <;> simp_all
/-- What is held at a beginning follows. -/
def ConS (us mk ph : Nat → Bool) (s : RdS) : Prop := ∀ b, s.i b = true → inF us mk ph b (s.e b) = true
theorem stE_mono {s : RdS} {b : Nat} (h : s.e b = true) : stE nx al s b = true := by unfold stE; rw [h]; rfl
theorem ConS.step {s : RdS} (h : ConS us mk ph s) (b : Nat) : ConS us mk ph (stB nx al us mk ph s b) ∧ (∀ x, s.i x = true → (stB nx al us mk ph s b).i x = true) ∧ ∀ x, s.e x = true → (stB nx al us mk ph s b).e x = true := by
  refine ⟨fun x hx => ?_, fun x hx => ?_, fun x hx => ?_⟩
  · unfold stB at hx ⊢
    by_cases e : x = b
    · subst e; simpa using hx
    · simp only [if_neg e] at hx ⊢; exact h x hx
  · unfold stB
    by_cases e : x = b
    · subst e
      simp only [if_true]
      exact inF_mono (fun k => stE_mono k) (h x hx)
    · simp only [if_neg e]; exact hx
  · unfold stB
    by_cases e : x = b
    · subst e; simp only [if_true]; exact stE_mono hx
    · simp only [if_neg e]; exact hx
theorem ConS.rdK {s : RdS} (h : ConS us mk ph s) (k : Nat) : ConS us mk ph (rdK nx al us mk ph s k) ∧ (∀ x, s.i x = true → (rdK nx al us mk ph s k).i x = true) ∧ ∀ x, s.e x = true → (rdK nx al us mk ph s k).e x = true := by
  induction k with
  | zero => exact ⟨h, fun _ h => h, fun _ h => h⟩
  | succ k ih =>
    rw [rdK_succ]
    have h1 := ih.1.step (nx := nx) (al := al) k
    exact ⟨h1.1, fun x hx => h1.2.1 x (ih.2.1 x hx), fun x hx => h1.2.2 x (ih.2.2 x hx)⟩
/-- Beyond those gone through nothing has changed; of those that were: beginnings are as ends say. -/
theorem rdK_done (s : RdS) (k : Nat) : (∀ x, k ≤ x → (rdK nx al us mk ph s k).e x = s.e x ∧ (rdK nx al us mk ph s k).i x = s.i x) ∧ ∀ x, x < k → (rdK nx al us mk ph s k).i x = inF us mk ph x ((rdK nx al us mk ph s k).e x) := by
  induction k with
  | zero => exact ⟨fun _ _ => ⟨rfl, rfl⟩, fun x hx => by omega⟩
  | succ k ih =>
    rw [rdK_succ]
    refine ⟨fun x hx => ?_, fun x hx => ?_⟩
    · have h1 := ih.1 x (by omega)
      unfold stB
      simp only [if_neg (show ¬ x = k by omega)]
      exact h1
    · unfold stB
      by_cases e : x = k
      · subst e; simp
      · simp only [if_neg e]; exact ih.2 x (by omega)
/-- All follows of all. -/
structure ClosS (nx : Nat → List Nat) (al : Nat → Nat → Bool) (us mk ph : Nat → Bool) (n : Nat) (s : RdS) : Prop where
  i : ∀ b, b < n → s.i b = inF us mk ph b (s.e b)
  e : ∀ b t, b < n → t ∈ nx b → (al b t || s.i t) = true → s.e b = true
theorem rd_clos {s : RdS} (hc : ConS us mk ph s) (hj : ∀ b, b < n → s.i b = inF us mk ph b (s.e b)) (hnx : ∀ b, ∀ t ∈ nx b, t < n)
    (he : ∀ x, x < n → (rdK nx al us mk ph s n).e x = true → s.e x = true) : ClosS nx al us mk ph n (rdK nx al us mk ph s n) := by
  have hD := rdK_done (nx := nx) (al := al) (us := us) (mk := mk) (ph := ph) s n
  have hC := hc.rdK (nx := nx) (al := al) n
  have heq : ∀ x, x < n → (rdK nx al us mk ph s n).e x = s.e x := fun x hx => by
    cases h1 : s.e x
    · cases h2 : (rdK nx al us mk ph s n).e x
      · rfl
      · rw [he x hx h2] at h1; cases h1
    · exact hC.2.2 x h1
  refine ⟨fun b hb => hD.2 b hb, fun b t hb ht h => ?_⟩
  have hi : (rdK nx al us mk ph s n).i t = s.i t := by rw [hD.2 t (hnx b t ht), heq t (hnx b t ht), hj t (hnx b t ht)]
  rw [hi] at h
  -- when b was gone through, t was held already
  have h1 := hc.rdK (nx := nx) (al := al) b
  have h2 : (rdK nx al us mk ph s (b + 1)).e b = true := by
    rw [rdK_succ]
    unfold stB stE
    simp only [if_true]
    rw [Bool.or_eq_true]
    refine .inr (List.any_eq_true.2 ⟨t, ht, ?_⟩)
    rw [Bool.or_eq_true] at h ⊢
    rcases h with h | h
    · exact .inl h
    · exact .inr (h1.2.1 t h)
  have hk : ∀ k, b + 1 ≤ k → (rdK nx al us mk ph s k).e b = true := by
    intro k hk
    induction k with
    | zero => omega
    | succ k ih =>
      by_cases e : b + 1 = k + 1
      · rw [← e]; exact h2
      · rw [rdK_succ]
        exact ((hc.rdK (nx := nx) (al := al) k).1.step k).2.2 b (ih (by omega))
  exact hk n (by omega)
def cntE (n : Nat) (s : RdS) : Nat := (List.range n).countP s.e
theorem cntE_le (n : Nat) (s : RdS) : cntE n s ≤ n := by unfold cntE; refine Nat.le_trans List.countP_le_length (by simp)
theorem countP_lt {p q : Nat → Bool} {x : Nat} : ∀ l : List Nat, (∀ y ∈ l, p y = true → q y = true) → x ∈ l → p x = false → q x = true → l.countP p < l.countP q := by
  intro l
  induction l with
  | nil => intro _ h; cases h
  | cons a l ih =>
    intro h hx hp hq
    have hle : l.countP p ≤ l.countP q := List.countP_mono_left fun y hy => h y (by simp [hy])
    rw [List.countP_cons, List.countP_cons]
    by_cases e : a = x
    · subst e; rw [hp, hq]; simp; omega
    · have hxl : x ∈ l := by
        rcases List.mem_cons.1 hx with h1 | h1
        · exact absurd h1.symm e
        · exact h1
      have h1 := ih (fun y hy => h y (by simp [hy])) hxl hp hq
      have h2 := h a (by simp)
      cases ha : p a
      · cases hb : q a <;> simp <;> omega
      · rw [h2 ha]; simp; omega
theorem rds_clos (hnx : ∀ b, ∀ t ∈ nx b, t < n) {s : RdS} (hc : ConS us mk ph s) : ∀ j, ConS us mk ph (rds nx al us mk ph n s (j + 1)) ∧ (∀ b, b < n → (rds nx al us mk ph n s (j + 1)).i b = inF us mk ph b ((rds nx al us mk ph n s (j + 1)).e b)) ∧ (ClosS nx al us mk ph n (rds nx al us mk ph n s (j + 1)) ∨ j ≤ cntE n (rds nx al us mk ph n s (j + 1))) := by
  intro j
  induction j with
  | zero =>
    refine ⟨(hc.rdK (nx := nx) (al := al) n).1, fun b hb => ?_, .inr (Nat.zero_le _)⟩
    show (rdK nx al us mk ph s n).i b = _
    exact (rdK_done s n).2 b hb
  | succ j ih =>
    obtain ⟨h1, h2, h3⟩ := ih
    have hD := (rdK_done (nx := nx) (al := al) (us := us) (mk := mk) (ph := ph) (rds nx al us mk ph n s (j + 1)) n).2
    have hC := h1.rdK (nx := nx) (al := al) n
    refine ⟨hC.1, hD, ?_⟩
    show ClosS nx al us mk ph n (rdK nx al us mk ph (rds nx al us mk ph n s (j + 1)) n) ∨ j + 1 ≤ cntE n (rdK nx al us mk ph (rds nx al us mk ph n s (j + 1)) n)
    by_cases he : ∀ x, x < n → (rdK nx al us mk ph (rds nx al us mk ph n s (j + 1)) n).e x = true → (rds nx al us mk ph n s (j + 1)).e x = true
    · exact .inl (rd_clos h1 h2 hnx he)
    · right
      have : ∃ x, x < n ∧ (rdK nx al us mk ph (rds nx al us mk ph n s (j + 1)) n).e x = true ∧ (rds nx al us mk ph n s (j + 1)).e x = false := by
        refine Classical.byContradiction fun hno => he fun x hx hx1 => ?_
        cases hx2 : (rds nx al us mk ph n s (j + 1)).e x
        · exact absurd ⟨x, hx, hx1, hx2⟩ hno
        · rfl
      obtain ⟨x, hx, hx1, hx2⟩ := this
      rcases h3 with h3 | h3
      · -- closed: nothing new comes
        exfalso
        have key : ∀ k, k ≤ n → ∀ y, (rdK nx al us mk ph (rds nx al us mk ph n s (j + 1)) k).e y = (rds nx al us mk ph n s (j + 1)).e y ∧ (rdK nx al us mk ph (rds nx al us mk ph n s (j + 1)) k).i y = (rds nx al us mk ph n s (j + 1)).i y := by
          intro k
          induction k with
          | zero => intro _ y; exact ⟨rfl, rfl⟩
          | succ k ihk =>
            intro hk y
            have ih2 := ihk (by omega)
            rw [rdK_succ]
            have hst : stE nx al (rdK nx al us mk ph (rds nx al us mk ph n s (j + 1)) k) k = (rds nx al us mk ph n s (j + 1)).e k := by
              unfold stE
              rw [(ih2 k).1]
              cases hq : (rds nx al us mk ph n s (j + 1)).e k
              · rw [Bool.false_or, List.any_eq_false]
                intro t ht hb
                rw [(ih2 t).2] at hb
                rw [h3.e k t (by omega) ht hb] at hq; cases hq
              · rfl
            unfold stB
            by_cases e : y = k
            · subst e
              simp only [if_true]
              rw [hst]
              exact ⟨rfl, (h2 y (by omega)).symm⟩
            · simp only [if_neg e]; exact ih2 y
        rw [(key n (Nat.le_refl _) x).1, hx2] at hx1; cases hx1
      · have h4 : cntE n (rds nx al us mk ph n s (j + 1)) < cntE n (rdK nx al us mk ph (rds nx al us mk ph n s (j + 1)) n) := countP_lt (x := x) _ (fun y _ hy => hC.2.2 y hy) (List.mem_range.2 hx) hx2 hx1
        omega
/-- After 2 n + 1 rounds all follows of all. -/
theorem rds_all (hnx : ∀ b, ∀ t ∈ nx b, t < n) {s : RdS} (hc : ConS us mk ph s) : ClosS nx al us mk ph n (rds nx al us mk ph n s (2 * n + 1)) := by
  obtain ⟨-, h2, h3⟩ := rds_clos (nx := nx) (al := al) hnx hc (2 * n)
  by_cases h0 : n = 0
  · subst h0; exact ⟨fun b hb => by omega, fun b t hb => by omega⟩
  · rcases h3 with h3 | h3
    · exact h3
    · have := cntE_le n (rds nx al us mk ph n s (2 * n + 1)); omega
/-- What is held follows, of whatever all follows of. -/
theorem rds_sound {I E : Nat → Prop} (hi : ∀ b, b < n → (E b → inF us mk ph b true = true → I b) ∧ (inF us mk ph b false = true → I b)) (he : ∀ b t, b < n → t ∈ nx b → (al b t = true ∨ I t) → E b)
    (s : RdS) (hs : (∀ b, s.i b = true → I b) ∧ ∀ b, s.e b = true → E b) : ∀ j, (∀ b, (rds nx al us mk ph n s j).i b = true → I b) ∧ ∀ b, (rds nx al us mk ph n s j).e b = true → E b := by
  intro j
  induction j with
  | zero => exact hs
  | succ j ih =>
    show (∀ b, (rdK nx al us mk ph (rds nx al us mk ph n s j) n).i b = true → I b) ∧ ∀ b, (rdK nx al us mk ph (rds nx al us mk ph n s j) n).e b = true → E b
    have key : ∀ k, k ≤ n → (∀ b, (rdK nx al us mk ph (rds nx al us mk ph n s j) k).i b = true → I b) ∧ ∀ b, (rdK nx al us mk ph (rds nx al us mk ph n s j) k).e b = true → E b := by
      intro k
      induction k with
      | zero => intro _; exact ih
      | succ k ihk =>
        intro hk
        obtain ⟨a1, a2⟩ := ihk (by omega)
        rw [rdK_succ]
        have hst : stE nx al (rdK nx al us mk ph (rds nx al us mk ph n s j) k) k = true → E k := fun h => by
          unfold stE at h
          rw [Bool.or_eq_true] at h
          rcases h with h | h
          · exact a2 k h
          · obtain ⟨t, ht, h⟩ := List.any_eq_true.1 h
            rw [Bool.or_eq_true] at h
            exact he k t (by omega) ht (h.imp id (a1 t))
        refine ⟨fun b hb => ?_, fun b hb => ?_⟩
        · unfold stB at hb
          by_cases e : b = k
          · subst e
            simp only [if_true] at hb
            cases hq : stE nx al (rdK nx al us mk ph (rds nx al us mk ph n s j) b) b
            · rw [hq] at hb; exact (hi b (by omega)).2 hb
            · rw [hq] at hb; exact (hi b (by omega)).1 (hst hq) hb
          · simp only [if_neg e] at hb; exact a1 b hb
        · unfold stB at hb
          by_cases e : b = k
          · subst e; simp only [if_true] at hb; exact hst hb
          · simp only [if_neg e] at hb; exact a2 b hb
    exact key n (Nat.le_refl _)
end Go.Proofs.YtdfiflbkamhchaaDoor

/- The document's has, uses, makes, phi of layer 8. -/
namespace Go.Proofs.YtdfiflbkamhchaaDoor
open Go.ChangeShapes Go.WideShapes Go.RowKit Go.Deep
set_option linter.unusedVariables false

theorem mkI_mono {ins : List InsD} {i j r : Nat} (h : i ≤ j) (hm : mkI ins i r = true) : mkI ins j r = true := by
  unfold mkI at hm ⊢
  obtain ⟨x, hx, e⟩ := List.any_eq_true.1 hm
  exact List.any_eq_true.2 ⟨x, List.take_subset_take_left _ h hx, e⟩
theorem usA_mem {R : Nat} {ins : List InsD} {i : Nat} {args : List Int} (h : ∀ a ∈ args, InR R a) {r : Nat} : r ∈ usA ins i args ↔ (r : Int) ∈ args ∧ mkI ins i r = false := by
  unfold usA
  rw [List.mem_filter, List.mem_map]
  constructor
  · rintro ⟨⟨a, ha, e⟩, hm⟩
    have h1 := (h a ha).1
    refine ⟨by rw [show (r : Int) = a by omega]; exact ha, ?_⟩
    cases hq : mkI ins i r
    · rfl
    · rw [hq] at hm; cases hm
  · rintro ⟨ha, hm⟩
    exact ⟨⟨_, ha, by omega⟩, by rw [hm]; rfl⟩
theorem usK_sub {ins : List InsD} {i j : Nat} (h : i ≤ j) : ∀ r ∈ usK ins i, r ∈ usK ins j := by
  induction j with
  | zero =>
    obtain rfl : i = 0 := by omega
    exact fun _ h => h
  | succ j ih =>
    by_cases e : i = j + 1
    · subst e; exact fun _ h => h
    · intro r hr
      have h1 := ih (by omega) r hr
      show r ∈ usK ins j ++ _
      exact List.mem_append_left _ h1
theorem usK_dead {R : Nat} {k : BlkD} (hk : UseOk R k) {i r : Nat} (hm : mkI k.ins i r = true) (hn : r ∉ usK k.ins i) : ∀ j, i ≤ j → r ∉ usK k.ins j := by
  intro j
  induction j with
  | zero =>
    intro h
    obtain rfl : i = 0 := by omega
    exact hn
  | succ j ih =>
    intro h
    by_cases e : i = j + 1
    · subst e; exact hn
    · intro hr
      cases hx : k.ins[j]? with
      | none =>
        have e2 : usK k.ins (j + 1) = usK k.ins j ++ [] := by show usK k.ins j ++ (match k.ins[j]? with | some x => _ | none => _) = _; rw [hx]
        rw [e2, List.append_nil] at hr
        exact ih (by omega) hr
      | some x =>
        rw [usK_succ hx] at hr
        rcases List.mem_append.1 hr with hr | hr
        · exact ih (by omega) hr
        · have h1 := ((usA_mem (hk.ins x (List.mem_of_getElem? hx)).1).1 hr).2
          rw [mkI_mono (show i ≤ j by omega) hm] at h1; cases h1
set_option maxRecDepth 100000 in
set_option maxHeartbeats 4000000 in
theorem has8_any (l : List Int) (b : Int) (v : Value) (w : World) (hv : VS w 1 RInt v l) :
    Calls Tryd.prog 40 #[v, .int .i64 b] w fun e w' => e = .returned (.bool (decide (b ∈ l))) ∧ Below w.heap.size w w' := by
  obtain ⟨A, c, rfl, ha⟩ := hv
  have hal := ha.len
  go_enter Tryd.func40, Tryd.ntmps40
  go_wp2_with fail
  go_loopw [5] (fun i wr => ∃ k : Nat, k ≤ l.length ∧ i = .int .i64 k ∧ wr = w ∧ b ∉ l.take k) (fun i _ => l.length - (intOf i).toNat)
  case atStart => exact ⟨0, Nat.zero_le _, rfl, rfl, by simp⟩
  case round =>
    obtain ⟨k, hk, rfl, hww, hno⟩ := hrel
    subst hww
    have HNO := Lib.hid hno
    by_cases hlt : k < l.length
    · obtain ⟨b1, o1, x, rfl, hx, hxc, -⟩ := ha.int (k := k) hlt
      have HX := Lib.hid hx
      have hk0 : (0 : Int) ≤ k := by omega
      have hk1 : (k : Int) < l.length := by omega
      clear hno hx ha
      by_cases hxy : x = b
      · have hyes : Hid (decide (b ∈ l) = true) := Lib.hid (decide_eq_true (by rw [← hxy]; exact List.mem_of_getElem? HX.out))
        have hb1 : (x == b) = true := by simp [hxy]
        clear hxy
        go_wp2_with fail
        go_ret
        exact ⟨(show Ending.returned (.bool true) = .returned (.bool (decide (b ∈ l))) by rw [hyes.out]), Below.refl _ _⟩
      · have hb1 : (x == b) = false := by simp [hxy]
        have HNE := Lib.hid hxy
        clear hxy
        go_wp2_with fail
        go_roundw
        case rel =>
          refine ⟨k + 1, by omega, by go_num, trivial, ?_⟩
          rw [take_succ_of HX.out, List.mem_append, List.mem_singleton]
          rintro (h | h)
          · exact HNO.out h
          · exact HNE.out h.symm
        case measure => simp [intOf]; omega
    · have hnn : Hid (decide (b ∈ l) = false) := Lib.hid (decide_eq_false (by rwa [List.take_of_length_le (by omega)] at hno))
      clear hno
      go_wp2_with fail
      go_ret
      exact ⟨(show Ending.returned (.bool false) = .returned (.bool (decide (b ∈ l))) by rw [hnn.out]), Below.refl _ _⟩

set_option maxRecDepth 100000 in
set_option maxHeartbeats 8000000 in
theorem uses8_any (R : Nat) (k : BlkD) (r : Nat) (v : Value) (w : World) (hv : VBlk w v k) (hok : UseOk R k) (hR : R ≤ 256) (hrR : r < R) :
    Calls Tryd.prog 20 #[v, .int .i64 (r : Int)] w fun e w' => e = .returned (.bool (decide (r ∈ usB k))) ∧ Below w.heap.size w w' := by
  obtain ⟨Ap, cp, Ai, ci, At, ct, rfl, -, hi, -, hk1, hk2⟩ := hv
  have HI := Lib.hid hi
  have HOK := Lib.hid hok
  have hil := hok.len
  clear hi hok
  go_enter Tryd.func20, Tryd.ntmps20
  go_upto_region 1 with fail
  obtain ⟨w1, hw1, hs1, hk1', hbel1, hc1, -⟩ := named w #[.slice Ap k.phis.length cp, .slice Ai k.ins.length ci, .int .i64 k.term.kind, .int .i64 k.term.arg, .slice At k.term.to.length ct] 52
  rw [← hw1]
  have HC := Lib.hid hc1
  have HB1 := Lib.hid hbel1
  have HS1 : Hid (w1.heap.size = w.heap.size + 1) := Lib.hid hs1
  clear hw1 hs1 hk1' hbel1 hc1
  go_wp2_with fail
  go_loopw [5] (fun s5 wq => ∃ i : Nat, i ≤ k.ins.length ∧ s5 = .int .i64 (i : Int) ∧ Below w1.heap.size w1 wq ∧ mkI k.ins i r = false ∧ r ∉ usK k.ins i) (fun s5 _ => k.ins.length - (intOf s5).toNat)
  case atStart => exact ⟨0, Nat.zero_le _, rfl, Below.refl _ _, by simp [mkI], by simp [usK]⟩
  case round =>
    obtain ⟨i, hi, rfl, hb, hm, hu⟩ := hrel
    have HB := Lib.hid hb
    have HMU := Lib.hid (And.intro hm hu)
    have x1 : wr.cell? ⟨w.heap.size, 1, none⟩ = some (.slice Ai k.ins.length ci) := (hb.cell (p := ⟨w.heap.size, 1, none⟩) (by have := HS1.out; show w.heap.size < _; omega)).trans (HC.out 1 _ rfl)
    have x3 : wr.cell? ⟨w.heap.size, 3, none⟩ = some (.int .i64 k.term.arg) := (hb.cell (p := ⟨w.heap.size, 3, none⟩) (by have := HS1.out; show w.heap.size < _; omega)).trans (HC.out 3 _ rfl)
    have hbw : Below w.heap.size w wr := HB1.out.trans (hb.mono (by have := HS1.out; omega))
    have HBW := Lib.hid hbw
    by_cases hil2 : i < k.ins.length
    · obtain ⟨bp, op, x, rfl, hx, h0, h1, ⟨A5, a5, h2, hps⟩, h3, h4⟩ := HI.out.at_ hil2
      have hkp := kept_of_below hbw
      have d1 := hkp _ _ h1.1
      have d2 := hkp _ _ h2
      have hxa := (HOK.out.ins x (List.mem_of_getElem? hx.out)).1
      have HXA := Lib.hid hxa
      have HX := Lib.hid hx
      have HXS := Lib.hid hps
      have hcl := has8_any x.args (r : Int) _ wr ⟨A5, a5, rfl, SInts.keep hkp hps⟩
      have HCL := Lib.hid hcl
      have hi0 : (0 : Int) ≤ i := by omega
      have hi1 : (i : Int) < k.ins.length := by omega
      have hH := Lib.hid (fun W (h : Below wr.heap.size wr W) => And.intro (kept_of_below h _ _ x1) (kept_of_below h _ _ d1))
      clear hb hm hu hbw hx h0 h1 h2 hps h3 h4 hkp hxa hcl x3
      go_wp2_with fail
      refine HCL.out.mono ?_
      rintro e w5 ⟨rfl, hb5⟩
      obtain ⟨y1, y2⟩ := hH.out w5 hb5
      have HB5 : Hid (Below w1.heap.size w1 w5) := Lib.hid (HB.out.trans (hb5.mono HB.out.size))
      clear hb5 HCL hH x1 d1 d2
      cases hq : decide ((r : Int) ∈ x.args)
      · have hnot : (r : Int) ∉ x.args := of_decide_eq_false hq
        have hus : r ∉ usK k.ins (i + 1) := by
          rw [usK_succ HX.out]
          intro h
          rcases List.mem_append.1 h with h | h
          · exact HMU.out.2 h
          · exact hnot ((usA_mem HXA.out).1 h).1
        have HUS := Lib.hid hus
        clear hnot hus hq
        by_cases hd : x.dst = (r : Int)
        · have hmk : mkI k.ins (i + 1) r = true := by rw [mkI_succ HX.out, decide_eq_true hd, Bool.or_true]
          have HNO : Hid (decide (r ∈ usB k) = false) := Lib.hid (decide_eq_false (fun h => by
            unfold usB at h
            rcases List.mem_append.1 h with h | h
            · exact usK_dead HOK.out hmk HUS.out _ (by omega) h
            · unfold usE at h
              split at h
              · rename_i h1
                have e := List.mem_singleton.1 h
                rw [← e, mkI_mono (show i + 1 ≤ k.ins.length by omega) hmk] at h1
                cases h1.2
              · cases h))
          have hb1 : (x.dst == (r : Int)) = true := by simp [hd]
          clear hd hmk
          go_wp2_with fail
          go_ret
          exact ⟨by rw [HNO.out]; rfl, HB1.out.trans (HB5.out.mono (by have := HS1.out; omega))⟩
        · have hmk : mkI k.ins (i + 1) r = false := by rw [mkI_succ HX.out, HMU.out.1, decide_eq_false hd]; rfl
          have HMK := Lib.hid hmk
          have hb1 : (x.dst == (r : Int)) = false := by simp [hd]
          clear hd hmk
          go_wp2_with fail
          go_roundw
          case rel => exact ⟨i + 1, by omega, by go_num, HB5.out, HMK.out, HUS.out⟩
          case measure => simp [intOf]; omega
      · have hyes : r ∈ usB k := by
          unfold usB
          refine List.mem_append_left _ (usK_sub (show i + 1 ≤ k.ins.length by omega) r ?_)
          rw [usK_succ HX.out]
          exact List.mem_append_right _ ((usA_mem HXA.out).2 ⟨of_decide_eq_true hq, HMU.out.1⟩)
        have HYES := Lib.hid (decide_eq_true hyes)
        clear hyes hq
        go_wp2_with fail
        go_ret
        exact ⟨by rw [HYES.out]; rfl, HB1.out.trans (HB5.out.mono (by have := HS1.out; omega))⟩
    · obtain rfl : i = k.ins.length := by omega
      have HE : Hid (decide (r ∈ usB k) = (k.term.arg == (r : Int))) := Lib.hid (by
        rw [Bool.eq_iff_iff, decide_eq_true_iff, beq_iff_eq]
        unfold usB usE
        rw [List.mem_append]
        constructor
        · rintro (h | h)
          · exact absurd h HMU.out.2
          · split at h
            · have e := List.mem_singleton.1 h; omega
            · cases h
        · intro e
          right
          rw [if_pos ⟨by omega, by rw [e]; simpa using HMU.out.1⟩, e]; simp)
      clear hb hm hu hbw
      go_wp2_with fail
      go_ret
      exact ⟨by rw [HE.out]; rfl, HBW.out⟩
end Go.Proofs.YtdfiflbkamhchaaDoor

/- The reference's Ahead: the blocks ahead of one, as a list. -/
namespace Go.Proofs.YtdfiflbkamhchaaDoor
open Go.ChangeShapes Go.WideShapes Go.RowKit Go.Deep
set_option linter.unusedVariables false

set_option maxHeartbeats 1000000 in
theorem refAhead_any (f : FunD) (block : Int) (v : Value) (w : World) (hv : VFun w v f) (hn : f.blocks.length ≤ 1000000) :
    Calls Tryd.prog 39 #[v, .int .i64 block] w fun e w' => (∃ r, e = .returned r ∧ VS w' 1 RInt r (aheadL f.blocks block)) ∧ Below w.heap.size w w' := by
  obtain ⟨Ar, cr, A, c, rfl, -, hb, -, -⟩ := hv
  have hbl := hb.len
  obtain ⟨i0, hi, hz0, hz1, hz2⟩ := info_parts Tryd.info3
  have HI := Lib.hid (And.intro hi (And.intro hz0 (And.intro hz1 hz2)))
  clear hi hz0 hz1 hz2
  go_enter Tryd.func39, Tryd.ntmps39
  go_wp2_with fail
  obtain ⟨w1, hw1⟩ : ∃ w1, w1 = w.alloc (.cells #[.int .i64 f.params, .int .i64 f.result, .slice Ar f.regs.length cr, .slice A f.blocks.length c] 41) := ⟨_, rfl⟩
  have hs1 : w.heap.size < w1.heap.size := by rw [hw1]; simp
  have hk1 : Kept w w1 := by rw [hw1]; exact kept_alloc _ _
  have hbel1 : Below w.heap.size w w1 := by rw [hw1]; exact (Below.refl _ _).alloc (Nat.le_refl _) _
  have hc1 : w1.cell? ⟨w.heap.size, 3, none⟩ = some (.slice A f.blocks.length c) := by rw [hw1]; simp
  rw [← hw1]
  clear hw1
  go_loopw [5, 6] (fun out i wr => ∃ k : Nat, k ≤ f.blocks.length ∧ i = .int .i64 k ∧ Below w1.heap.size w1 wr ∧
    wr.ownsRow w1.heap.size 3 1 out (aheadL (f.blocks.take k) block).length ((aheadL (f.blocks.take k) block).map (Value.int .i64))) (fun _ i _ => f.blocks.length - (intOf i).toNat)
  case atStart => exact ⟨0, Nat.zero_le _, rfl, Below.refl _ _, rfl, .inl ⟨rfl, rfl⟩⟩
  case round =>
    obtain ⟨k, hk, rfl, hbel, hown⟩ := hrel
    have hs := hbel.size
    have hkw : Kept w1 wr := kept_of_below hbel
    have hbox := hkw _ _ hc1
    by_cases hlt : k < f.blocks.length
    · obtain ⟨b, o, kb, rfl, hkb, -, -, -, -, A', c', hvt, hst⟩ := (SBlks.keep (hk1.trans hkw) hb).at_ hlt
      have htm := hst.len
      go_wp2_with fail
      go_loopw [7, 8] (fun h i w2 => ∃ j n : Nat, j ≤ kb.term.to.length ∧ i = .int .i64 j ∧ w2 = wr.drewN n ∧ h = .bool (hasTo block (kb.term.to.take j))) (fun _ i _ => kb.term.to.length - (intOf i).toNat)
      case atStart => exact ⟨0, 0, Nat.zero_le _, rfl, rfl, rfl⟩
      case round =>
        obtain ⟨j, n, hj, rfl, rfl, rfl⟩ := hrel
        by_cases hjt : j < kb.term.to.length
        · obtain ⟨b', o', x, rfl, hx, hxc, -⟩ := hst.int hjt
          have HS := Lib.hid (hasTo_step block hx.out)
          generalize hasTo block (kb.term.to.take j) = h0 at *
          cases h0
          · by_cases he : x = block
            · have he' : (x == block) = true := by simp [he]
              have HS' : Hid (hasTo block (kb.term.to.take (j + 1)) = true) := Lib.hid (by rw [HS.out, he']; rfl)
              clear HS he
              go_wp2_with fail
              go_roundw
              case rel => exact ⟨j + 1, _, by omega, by go_num, rfl, by rw [HS'.out]⟩
              case measure => simp [intOf]; omega
            · have he' : (x == block) = false := by simp [he]
              have HS' : Hid (hasTo block (kb.term.to.take (j + 1)) = false) := Lib.hid (by rw [HS.out, he']; rfl)
              clear HS he
              go_wp2_with fail
              go_roundw
              case rel => exact ⟨j + 1, _, by omega, by go_num, rfl, by rw [HS'.out]⟩
              case measure => simp [intOf]; omega
          · have HS' : Hid (hasTo block (kb.term.to.take (j + 1)) = true) := Lib.hid (by rw [HS.out]; rfl)
            clear HS
            go_wp2_with fail
            go_roundw
            case rel => exact ⟨j + 1, _, by omega, by go_num, rfl, by rw [HS'.out]⟩
            case measure => simp [intOf]; omega
        · have hjj : kb.term.to.take j = kb.term.to := List.take_of_length_le (by omega)
          rw [hjj]
          clear hjj
          have HA := Lib.hid (aheadL_step block hkb.out)
          generalize hasTo block kb.term.to = h0 at *
          cases h0
          · go_wp2_with fail
            go_roundw
            case rel => exact ⟨k + 1, by omega, by go_num, below_drewN hbel _, by rw [HA.out]; simpa using (show (wr.drewN n).ownsRow _ _ _ _ _ _ from hown)⟩
            case measure => simp [intOf]; omega
          · have hln : (aheadL (f.blocks.take k) block).length ≤ k := Nat.le_trans (aheadK_len _ _ _) (by simp; omega)
            go_wp2_with (at_builtin; refine wpList_append_own _ rfl (.tmp 44) (.tmp 46) 32 rfl w1.heap.size 3 i0 (.int .i64 0) 1 8 Tryd.underlying32 HI.out.1 HI.out.2.1 HI.out.2.2.1 HI.out.2.2.2 rfl (by decide) _ _ _ rfl (World.ownsRow.alloc (w := wr.drewN n) hown _) ⟨wr.heap.size, 0, none⟩ 1 1 [.int .i64 k] rfl rfl ?c1 ?c2 ?c3 ?c4 ?c5 ?_)
            case c1 => exact news_one (wr.drewN n) _ _ rfl
            case c2 => rfl
            case c3 => unfold maxLen; omega
            case c4 => omega
            case c5 => omega
            intro v' w3 hown' hgrow _
            have hbel3 : Below w1.heap.size w1 w3 := ((below_drewN hbel n).alloc hs _).grown hgrow (by simp; omega) (fun g hg => (hown.lt g hg).1)
            go_wp2_with fail
            go_roundw
            case rel => exact ⟨k + 1, by omega, by go_num, hbel3, by rw [HA.out]; simpa using hown'⟩
            case measure => simp [intOf]; omega
    · have hkk : f.blocks.take k = f.blocks := List.take_of_length_le (by omega)
      rw [hkk] at hown
      clear hkk
      go_wp2_with fail
      go_ret
      exact ⟨⟨_, rfl, vs_of_own hown (aheadL_i64 _ _ (by omega))⟩, hbel1.trans (hbel.mono (by omega))⟩
end Go.Proofs.YtdfiflbkamhchaaDoor
