/- Blocks that lead to blocks: going through them one behind the other, in mathematics. No condition. -/
namespace Go.Proofs.Ytbhndfknjkeilaa
set_option linter.unusedVariables false

/-! ### What a block leads to -/
def addT (n : Nat) (acc : List Nat) (t : Int) : List Nat := if 0 ≤ t ∧ t < n ∧ t.toNat ∉ acc then acc ++ [t.toNat] else acc
def nextN (n : Nat) (ts : List Int) : List Nat := ts.foldl (addT n) []

theorem addT_mem {n : Nat} {acc : List Nat} {t : Int} {q : Nat} : q ∈ addT n acc t ↔ q ∈ acc ∨ (q < n ∧ (q : Int) = t) := by
  unfold addT
  split
  · rename_i h
    rw [List.mem_append, List.mem_singleton]
    constructor
    · rintro (h1 | h1)
      · exact .inl h1
      · exact .inr ⟨by omega, by omega⟩
    · rintro (h1 | h1)
      · exact .inl h1
      · exact .inr (by omega)
  · rename_i h
    constructor
    · exact .inl
    · rintro (h1 | ⟨h1, h2⟩)
      · exact h1
      · apply Classical.byContradiction
        intro h3
        exact h ⟨by omega, by omega, by rw [← h2]; simpa using h3⟩
theorem foldT_mem {n : Nat} {ts : List Int} {q : Nat} : ∀ {acc : List Nat}, q ∈ ts.foldl (addT n) acc ↔ q ∈ acc ∨ (q < n ∧ (q : Int) ∈ ts) := by
  induction ts with
  | nil => intro acc; simp
  | cons t ts ih =>
    intro acc
    rw [List.foldl_cons, ih, addT_mem, List.mem_cons]
    constructor
    · rintro ((h | ⟨h1, h2⟩) | ⟨h1, h2⟩)
      · exact .inl h
      · exact .inr ⟨h1, .inl h2⟩
      · exact .inr ⟨h1, .inr h2⟩
    · rintro (h | ⟨h1, h2 | h2⟩)
      · exact .inl (.inl h)
      · exact .inl (.inr ⟨h1, h2⟩)
      · exact .inr ⟨h1, h2⟩
theorem nextN_mem {n : Nat} {ts : List Int} {q : Nat} : q ∈ nextN n ts ↔ q < n ∧ (q : Int) ∈ ts := by
  unfold nextN; rw [foldT_mem]; simp
theorem nextN_snoc (n : Nat) (ts : List Int) (t : Int) : nextN n (ts ++ [t]) = addT n (nextN n ts) t := by
  unfold nextN; rw [List.foldl_append]; rfl
theorem addT_len (n : Nat) (acc : List Nat) (t : Int) : (addT n acc t).length ≤ acc.length + 1 := by
  unfold addT; split <;> simp
theorem foldT_len (n : Nat) (ts : List Int) : ∀ acc : List Nat, (ts.foldl (addT n) acc).length ≤ acc.length + ts.length := by
  induction ts with
  | nil => intro acc; simp
  | cons t ts ih => intro acc; have := ih (addT n acc t); have := addT_len n acc t; simp; omega
theorem nextN_len (n : Nat) (ts : List Int) : (nextN n ts).length ≤ ts.length := by
  have := foldT_len n ts []; simpa [nextN] using this
theorem addT_nodup {n : Nat} {acc : List Nat} {t : Int} (h : acc.Nodup) : (addT n acc t).Nodup := by
  unfold addT
  split
  · rename_i h2
    rw [List.nodup_append]
    exact ⟨h, by simp, fun a ha b hb e => h2.2.2 (by rw [List.mem_singleton.1 hb] at e; rw [← e]; exact ha)⟩
  · exact h
theorem nextN_nodup (n : Nat) (ts : List Int) : (nextN n ts).Nodup := by
  have key : ∀ (ts : List Int) (acc : List Nat), acc.Nodup → (ts.foldl (addT n) acc).Nodup := by
    intro ts
    induction ts with
    | nil => exact fun _ h => h
    | cons t ts ih => exact fun acc h => ih _ (addT_nodup h)
  exact key ts [] (by simp)

theorem nextN_few (n : Nat) (ts : List Int) : (nextN n ts).length ≤ n := by
  have h := List.Nodup.length_le_of_subset (nextN_nodup n ts) (l₂ := List.range n) (fun x hx => List.mem_range.2 (nextN_mem.1 hx).1)
  simpa using h

/-! ### Going through -/
/-- Which blocks were gone to, and which are done, in what order. -/
structure DS where
  seen : Nat → Bool
  out : List Nat
def mark (S : Nat → Bool) (b : Nat) : Nat → Bool := fun x => if x = b then true else S x
def goL (v : Nat → DS → DS) (l : List Nat) (s : DS) : DS := l.foldl (fun s t => if s.seen t = true then s else v t s) s
def endD (b : Nat) (s : DS) : DS := ⟨s.seen, s.out ++ [b]⟩
def visit (nx : Nat → List Nat) : Nat → Nat → DS → DS
  | 0, _, s => s
  | F + 1, b, s => endD b (goL (visit nx F) (nx b) ⟨mark s.seen b, s.out⟩)
/-- What is left of one that is gone through already. -/
def rest (nx : Nat → List Nat) (F b : Nat) (l : List Nat) (s : DS) : DS := endD b (goL (visit nx F) l s)
theorem visit_succ (nx : Nat → List Nat) (F b : Nat) (s : DS) : visit nx (F + 1) b s = rest nx F b (nx b) ⟨mark s.seen b, s.out⟩ := rfl
theorem rest_nil (nx : Nat → List Nat) (F b : Nat) (s : DS) : rest nx F b [] s = endD b s := rfl
theorem rest_seen (nx : Nat → List Nat) (F b t : Nat) (l : List Nat) (s : DS) (h : s.seen t = true) : rest nx F b (t :: l) s = rest nx F b l s := by
  unfold rest goL; rw [List.foldl_cons, if_pos h]
theorem rest_new (nx : Nat → List Nat) (F b t : Nat) (l : List Nat) (s : DS) (h : s.seen t = false) : rest nx F b (t :: l) s = rest nx F b l (visit nx F t s) := by
  unfold rest goL; rw [List.foldl_cons, if_neg (by rw [h]; exact Bool.false_ne_true)]

/-! ### How many were not gone to -/
def unseen (n : Nat) (S : Nat → Bool) : Nat := (List.range n).countP fun i => !S i
theorem unseen_le (n : Nat) (S : Nat → Bool) : unseen n S ≤ n := by
  have := List.countP_le_length (p := fun i => !S i) (l := List.range n); simpa [unseen] using this
theorem countP_mono_list {l : List Nat} {p q : Nat → Bool} (h : ∀ x ∈ l, p x = true → q x = true) : l.countP p ≤ l.countP q := List.countP_mono_left h
theorem unseen_mono {n : Nat} {S S' : Nat → Bool} (h : ∀ x, S x = true → S' x = true) : unseen n S' ≤ unseen n S := by
  refine countP_mono_list fun x _ hx => ?_
  cases hs : S x
  · rfl
  · rw [h x hs] at hx; cases hx
theorem countP_mark {S : Nat → Bool} {b : Nat} (hS : S b = false) : ∀ {l : List Nat}, l.Nodup → b ∈ l → (l.countP fun i => !S i) = (l.countP fun i => !mark S b i) + 1 := by
  intro l
  induction l with
  | nil => intro _ h; cases h
  | cons x l ih =>
    intro hn hb
    rw [List.nodup_cons] at hn
    by_cases e : x = b
    · subst e
      have h2 : (l.countP fun i => !S i) = l.countP fun i => !mark S x i := by
        refine List.countP_congr fun y hy => ?_
        have : y ≠ x := fun e => hn.1 (e ▸ hy)
        simp [mark, this]
      rw [List.countP_cons, List.countP_cons, h2, hS]
      simp [mark]
    · have hb2 : b ∈ l := by
        rcases List.mem_cons.1 hb with h | h
        · exact absurd h.symm e
        · exact h
      rw [List.countP_cons, List.countP_cons, ih hn.2 hb2]
      simp [mark, e]; omega
theorem unseen_mark {n b : Nat} {S : Nat → Bool} (hS : S b = false) (hb : b < n) : unseen n S = unseen n (mark S b) + 1 :=
  countP_mark hS List.nodup_range (List.mem_range.2 hb)
theorem unseen_pos {n b : Nat} {S : Nat → Bool} (hS : S b = false) (hb : b < n) : 0 < unseen n S := by rw [unseen_mark hS hb]; omega
theorem mark_same (S : Nat → Bool) (b : Nat) : mark S b b = true := by simp [mark]
theorem mark_of {S : Nat → Bool} {b x : Nat} (h : S x = true) : mark S b x = true := by simp [mark, h]
theorem mark_cases {S : Nat → Bool} {b x : Nat} (h : mark S b x = true) : x = b ∨ S x = true := by
  unfold mark at h; split at h
  · exact .inl ‹_›
  · exact .inr h

/-! ### What a way through comes to -/
inductive Reach (nx : Nat → List Nat) (a : Nat) : Nat → Prop
  | refl : Reach nx a a
  | step {x y : Nat} : Reach nx a x → y ∈ nx x → Reach nx a y
theorem Reach.trans {nx : Nat → List Nat} {a b c : Nat} (h : Reach nx a b) (k : Reach nx b c) : Reach nx a c := by
  induction k with
  | refl => exact h
  | step _ hy ih => exact .step ih hy
/-- Each but the last is led to by one behind it. -/
def Led (nx : Nat → List Nat) (e : List Nat) (b : Nat) : Prop := ∀ (i x : Nat), e[i]? = some x → x ∈ nx b ∨ ∃ j y : Nat, i < j ∧ e[j]? = some y ∧ x ∈ nx y
/-- What was gone to and done besides. -/
structure Went (nx : Nat → List Nat) (b : Nat) (s s' : DS) (e : List Nat) : Prop where
  out : s'.out = s.out ++ e
  nodup : e.Nodup
  mem : ∀ x, x ∈ e ↔ (s'.seen x = true ∧ s.seen x = false)
  grows : ∀ x, s.seen x = true → s'.seen x = true
  reach : ∀ x ∈ e, Reach nx b x
  closed : ∀ x ∈ e, ∀ t ∈ nx x, s'.seen t = true

theorem Went.refl (nx : Nat → List Nat) (b : Nat) (s : DS) : Went nx b s s [] :=
  ⟨by simp, by simp, fun x => ⟨fun h => (by cases h), fun ⟨h1, h2⟩ => by rw [h1] at h2; cases h2⟩, fun _ h => h, fun x h => (by cases h), fun x h => (by cases h)⟩
theorem Went.trans {nx : Nat → List Nat} {b : Nat} {s s1 s2 : DS} {e1 e2 : List Nat} (h : Went nx b s s1 e1) (k : Went nx b s1 s2 e2) : Went nx b s s2 (e1 ++ e2) := by
  refine ⟨by rw [k.out, h.out, List.append_assoc], ?_, fun x => ?_, fun x hx => k.grows x (h.grows x hx), fun x hx => ?_, fun x hx => ?_⟩
  · rw [List.nodup_append]
    refine ⟨h.nodup, k.nodup, fun a ha c hc e => ?_⟩
    subst e
    have h1 := ((h.mem a).1 ha).1
    have h2 := ((k.mem a).1 hc).2
    rw [h1] at h2; cases h2
  · rw [List.mem_append, h.mem, k.mem]
    constructor
    · rintro (⟨h1, h2⟩ | ⟨h1, h2⟩)
      · exact ⟨k.grows x h1, h2⟩
      · refine ⟨h1, ?_⟩
        cases h3 : s.seen x
        · rfl
        · rw [h.grows x h3] at h2; cases h2
    · rintro ⟨h1, h2⟩
      cases h3 : s1.seen x
      · exact .inr ⟨h1, rfl⟩
      · exact .inl ⟨rfl, h2⟩
  · rcases List.mem_append.1 hx with hx | hx
    · exact h.reach x hx
    · exact k.reach x hx
  · rcases List.mem_append.1 hx with hx | hx
    · exact fun t ht => k.grows t (h.closed x hx t ht)
    · exact k.closed x hx
theorem Led.nil (nx : Nat → List Nat) (b : Nat) : Led nx [] b := fun i x h => by simp at h
theorem Led.trans {nx : Nat → List Nat} {b : Nat} {e1 e2 : List Nat} (h : Led nx e1 b) (k : Led nx e2 b) : Led nx (e1 ++ e2) b := fun i x hi => by
  by_cases hl : i < e1.length
  · rw [List.getElem?_append_left hl] at hi
    rcases h i x hi with h1 | ⟨j, y, hj, hy, hxy⟩
    · exact .inl h1
    · have hjl : j < e1.length := (List.getElem?_eq_some_iff.1 hy).1
      exact .inr ⟨j, y, hj, by rw [List.getElem?_append_left hjl]; exact hy, hxy⟩
  · rw [List.getElem?_append_right (by omega)] at hi
    rcases k _ x hi with h1 | ⟨j, y, hj, hy, hxy⟩
    · exact .inl h1
    · exact .inr ⟨j + e1.length, y, by omega, by rw [List.getElem?_append_right (by omega)]; simpa using hy, hxy⟩
theorem Led.child {nx : Nat → List Nat} {b t : Nat} {e : List Nat} (h : Led nx e t) (ht : t ∈ nx b) : Led nx (e ++ [t]) b := fun i x hi => by
  by_cases hil : i < e.length
  · rw [List.getElem?_append_left hil] at hi
    rcases h i x hi with h1 | ⟨j, y, hj, hy, hxy⟩
    · exact .inr ⟨e.length, t, hil, by simp, h1⟩
    · exact .inr ⟨j, y, hj, by rw [List.getElem?_append_left (List.getElem?_eq_some_iff.1 hy).1]; exact hy, hxy⟩
  · have : i = e.length := by have := (List.getElem?_eq_some_iff.1 hi).1; simp at this; omega
    subst this
    simp at hi
    exact .inl (hi ▸ ht)

/-- All that a block leads to, gone through one behind the other. -/
theorem went_list {nx : Nat → List Nat} {n F b : Nat} (hnx : ∀ x, ∀ t ∈ nx x, t < n)
    (ih : ∀ t s, t < n → s.seen t = false → unseen n s.seen ≤ F → ∃ e, Went nx t s (visit nx F t s) (e ++ [t]) ∧ Led nx e t) :
    ∀ (l : List Nat) (s : DS), (∀ t ∈ l, t ∈ nx b) → unseen n s.seen ≤ F → ∃ e, Went nx b s (goL (visit nx F) l s) e ∧ Led nx e b ∧ ∀ t ∈ l, (goL (visit nx F) l s).seen t = true := by
  intro l
  induction l with
  | nil => intro s _ _; exact ⟨[], Went.refl _ _ _, Led.nil _ _, fun t ht => by cases ht⟩
  | cons t l ihl =>
    intro s hl hu
    have htb := hl t (by simp)
    cases hs : s.seen t
    · obtain ⟨e, he, hld⟩ := ih t s (hnx b t htb) hs hu
      have hw : Went nx b s (visit nx F t s) (e ++ [t]) := ⟨he.out, he.nodup, he.mem, he.grows, fun x hx => (Reach.step .refl htb).trans (he.reach x hx), he.closed⟩
      obtain ⟨e2, h2, hl2, h3⟩ := ihl (visit nx F t s) (fun x hx => hl x (by simp [hx])) (Nat.le_trans (unseen_mono hw.grows) hu)
      have hgo : goL (visit nx F) (t :: l) s = goL (visit nx F) l (visit nx F t s) := by
        unfold goL; rw [List.foldl_cons, if_neg (by rw [hs]; exact Bool.false_ne_true)]
      rw [hgo]
      refine ⟨e ++ [t] ++ e2, hw.trans h2, (hld.child htb).trans hl2, ?_⟩
      intro x hx
      rcases List.mem_cons.1 hx with rfl | hx
      · exact h2.grows _ ((he.mem x).1 (by simp)).1
      · exact h3 x hx
    · obtain ⟨e2, h2, hl2, h3⟩ := ihl s (fun x hx => hl x (by simp [hx])) hu
      have hgo : goL (visit nx F) (t :: l) s = goL (visit nx F) l s := by
        unfold goL; rw [List.foldl_cons, if_pos hs]
      rw [hgo]
      refine ⟨e2, h2, hl2, ?_⟩
      intro x hx
      rcases List.mem_cons.1 hx with rfl | hx
      · exact h2.grows _ hs
      · exact h3 x hx
theorem went_visit {nx : Nat → List Nat} {n : Nat} (hnx : ∀ x, ∀ t ∈ nx x, t < n) : ∀ (F b : Nat) (s : DS), b < n → s.seen b = false → unseen n s.seen ≤ F → ∃ e, Went nx b s (visit nx F b s) (e ++ [b]) ∧ Led nx e b := by
  intro F
  induction F with
  | zero => intro b s hb hs hu; have := unseen_pos hs hb; omega
  | succ F ih =>
    intro b s hb hs hu
    have hm := unseen_mark hs hb
    obtain ⟨e, he, hld, hall⟩ := went_list (b := b) hnx ih (nx b) ⟨mark s.seen b, s.out⟩ (fun t ht => ht) (by show unseen n (mark s.seen b) ≤ F; omega)
    have hbe : b ∉ e := fun h => by have := ((he.mem b).1 h).2; simp [mark] at this
    refine ⟨e, ⟨?_, ?_, fun x => ?_, fun x hx => ?_, fun x hx => ?_, fun x hx => ?_⟩, hld⟩
    · show (goL (visit nx F) (nx b) ⟨mark s.seen b, s.out⟩).out ++ [b] = _
      rw [he.out, List.append_assoc]
    · rw [List.nodup_append]
      exact ⟨he.nodup, by simp, fun a ha c hc ec => hbe (by rw [List.mem_singleton.1 hc] at ec; exact ec ▸ ha)⟩
    · show x ∈ e ++ [b] ↔ ((goL (visit nx F) (nx b) ⟨mark s.seen b, s.out⟩).seen x = true ∧ s.seen x = false)
      rw [List.mem_append, List.mem_singleton, he.mem]
      constructor
      · rintro (⟨h1, h2⟩ | rfl)
        · refine ⟨h1, ?_⟩
          cases h3 : s.seen x
          · rfl
          · rw [show (DS.mk (mark s.seen b) s.out).seen x = true from mark_of h3] at h2; cases h2
        · exact ⟨he.grows _ (mark_same _ _), hs⟩
      · rintro ⟨h1, h2⟩
        by_cases exb : x = b
        · exact .inr exb
        · exact .inl ⟨h1, by show mark s.seen b x = false; simp [mark, exb, h2]⟩
    · exact he.grows x (mark_of hx)
    · rcases List.mem_append.1 hx with hx | hx
      · exact he.reach x hx
      · rw [List.mem_singleton.1 hx]; exact .refl
    · rcases List.mem_append.1 hx with hx | hx
      · exact he.closed x hx
      · rw [List.mem_singleton.1 hx]; exact hall

theorem len_list {nx : Nat → List Nat} {n F : Nat} (ih : ∀ t s, t < n → s.seen t = false → unseen n s.seen ≤ F → (visit nx F t s).out.length + unseen n (visit nx F t s).seen = s.out.length + unseen n s.seen ∧ unseen n (visit nx F t s).seen ≤ F) :
    ∀ (l : List Nat) (s : DS), (∀ t ∈ l, t < n) → unseen n s.seen ≤ F → (goL (visit nx F) l s).out.length + unseen n (goL (visit nx F) l s).seen = s.out.length + unseen n s.seen ∧ unseen n (goL (visit nx F) l s).seen ≤ F := by
  intro l
  induction l with
  | nil => intro s _ hu; exact ⟨rfl, hu⟩
  | cons t l ihl =>
    intro s hl hu
    cases hs : s.seen t
    · have hgo : goL (visit nx F) (t :: l) s = goL (visit nx F) l (visit nx F t s) := by
        unfold goL; rw [List.foldl_cons, if_neg (by rw [hs]; exact Bool.false_ne_true)]
      rw [hgo]
      obtain ⟨h1, h2⟩ := ih t s (hl t (by simp)) hs hu
      obtain ⟨h3, h4⟩ := ihl (visit nx F t s) (fun x hx => hl x (by simp [hx])) h2
      exact ⟨h3.trans h1, h4⟩
    · have hgo : goL (visit nx F) (t :: l) s = goL (visit nx F) l s := by
        unfold goL; rw [List.foldl_cons, if_pos hs]
      rw [hgo]
      exact ihl s (fun x hx => hl x (by simp [hx])) hu
/-- Each that is gone to is done once. -/
theorem len_visit {nx : Nat → List Nat} {n : Nat} (hnx : ∀ x, ∀ t ∈ nx x, t < n) : ∀ (F b : Nat) (s : DS), b < n → s.seen b = false → unseen n s.seen ≤ F → (visit nx F b s).out.length + unseen n (visit nx F b s).seen = s.out.length + unseen n s.seen ∧ unseen n (visit nx F b s).seen ≤ F - 1 := by
  intro F
  induction F with
  | zero => intro b s hb hs hu; have := unseen_pos hs hb; omega
  | succ F ih =>
    intro b s hb hs hu
    have hm := unseen_mark hs hb
    obtain ⟨h1, h2⟩ := len_list (nx := nx) (n := n) (F := F) (fun t s h1 h2 h3 => by have := ih t s h1 h2 h3; omega) (nx b) ⟨mark s.seen b, s.out⟩ (hnx b) (by show unseen n (mark s.seen b) ≤ F; omega)
    have h3 : (visit nx (F + 1) b s).out.length = (goL (visit nx F) (nx b) ⟨mark s.seen b, s.out⟩).out.length + 1 := by
      show ((goL (visit nx F) (nx b) ⟨mark s.seen b, s.out⟩).out ++ [b]).length = _
      simp
    have h4 : (visit nx (F + 1) b s).seen = (goL (visit nx F) (nx b) ⟨mark s.seen b, s.out⟩).seen := rfl
    rw [h3, h4]
    have h1' : (goL (visit nx F) (nx b) ⟨mark s.seen b, s.out⟩).out.length + unseen n (goL (visit nx F) (nx b) ⟨mark s.seen b, s.out⟩).seen = s.out.length + unseen n (mark s.seen b) := h1
    omega

/-! ### From block 0 on -/
def noneSeen : Nat → Bool := fun _ => false
/-- All that is done from block 0 on, in the order in which it is done. -/
def doneL (nx : Nat → List Nat) (n : Nat) : List Nat := if n = 0 then [] else (visit nx n 0 ⟨noneSeen, []⟩).out
def orderL (nx : Nat → List Nat) (n : Nat) : List Nat := (doneL nx n).reverse
theorem doneL_went {nx : Nat → List Nat} {n : Nat} (hnx : ∀ x, ∀ t ∈ nx x, t < n) (hn : n ≠ 0) :
    ∃ e, doneL nx n = e ++ [0] ∧ Led nx e 0 ∧ (e ++ [0]).Nodup ∧ ∀ x, x ∈ e ++ [0] ↔ Reach nx 0 x := by
  obtain ⟨e, h, hl⟩ := went_visit hnx n 0 ⟨noneSeen, []⟩ (by omega) rfl (unseen_le _ _)
  refine ⟨e, by unfold doneL; rw [if_neg hn, h.out]; rfl, hl, h.nodup, fun x => ⟨h.reach x, fun hr => ?_⟩⟩
  induction hr with
  | refl => simp
  | step _ hy ih => exact (h.mem _).2 ⟨h.closed _ ih _ hy, rfl⟩
theorem Reach.lt {nx : Nat → List Nat} {n x : Nat} (hnx : ∀ x, ∀ t ∈ nx x, t < n) (hn : n ≠ 0) (h : Reach nx 0 x) : x < n := by
  cases h with
  | refl => omega
  | step _ hy => exact hnx _ _ hy
theorem orderL_mem {nx : Nat → List Nat} {n : Nat} (hnx : ∀ x, ∀ t ∈ nx x, t < n) (hn : n ≠ 0) {x : Nat} : x ∈ orderL nx n ↔ Reach nx 0 x := by
  obtain ⟨e, h1, _, _, h2⟩ := doneL_went hnx hn
  unfold orderL; rw [List.mem_reverse, h1]; exact h2 x
theorem orderL_lt {nx : Nat → List Nat} {n : Nat} (hnx : ∀ x, ∀ t ∈ nx x, t < n) {x : Nat} (h : x ∈ orderL nx n) : x < n := by
  by_cases hn : n = 0
  · subst hn; simp [orderL, doneL] at h
  · exact Reach.lt hnx hn ((orderL_mem hnx hn).1 h)
theorem orderL_nodup {nx : Nat → List Nat} {n : Nat} (hnx : ∀ x, ∀ t ∈ nx x, t < n) : (orderL nx n).Nodup := by
  by_cases hn : n = 0
  · subst hn; simp [orderL, doneL]
  · obtain ⟨e, h1, _, h2, _⟩ := doneL_went hnx hn
    unfold orderL; rw [h1, List.nodup_iff_count]; intro a; rw [List.count_reverse]; exact List.nodup_iff_count.1 h2 a
theorem orderL_first {nx : Nat → List Nat} {n : Nat} (hnx : ∀ x, ∀ t ∈ nx x, t < n) (hn : n ≠ 0) : (orderL nx n)[0]? = some 0 := by
  obtain ⟨e, h1, _, _, _⟩ := doneL_went hnx hn
  unfold orderL; rw [h1]; simp
theorem orderL_led {nx : Nat → List Nat} {n : Nat} (hnx : ∀ x, ∀ t ∈ nx x, t < n) {i x : Nat} (hi : (orderL nx n)[i]? = some x) (h0 : 0 < i) : ∃ j y : Nat, j < i ∧ (orderL nx n)[j]? = some y ∧ x ∈ nx y := by
  have hn : n ≠ 0 := by rintro rfl; simp [orderL, doneL] at hi
  obtain ⟨e, h1, hl, _, _⟩ := doneL_went hnx hn
  unfold orderL at hi ⊢
  rw [h1, List.reverse_append] at hi ⊢
  obtain ⟨k, rfl⟩ : ∃ k, i = k + 1 := ⟨i - 1, by omega⟩
  have hi : e.reverse[k]? = some x := by simpa using hi
  have hk : k < e.length := by have := (List.getElem?_eq_some_iff.1 hi).1; simpa using this
  rw [List.getElem?_reverse hk] at hi
  rcases hl _ x hi with h | ⟨j, y, hj, hy, hxy⟩
  · exact ⟨0, 0, by omega, by simp, h⟩
  · have hje : j < e.length := (List.getElem?_eq_some_iff.1 hy).1
    refine ⟨e.length - 1 - j + 1, y, by omega, ?_, hxy⟩
    have : e.reverse[e.length - 1 - j]? = some y := by
      rw [List.getElem?_reverse (by omega), show e.length - 1 - (e.length - 1 - j) = j by omega]; exact hy
    simpa using this
/-- Whether a block is reached. -/
def reachB (nx : Nat → List Nat) (n x : Nat) : Bool := decide (x ∈ orderL nx n)
theorem orderL_len {nx : Nat → List Nat} {n : Nat} (hnx : ∀ x, ∀ t ∈ nx x, t < n) : (orderL nx n).length ≤ n := by
  have h := List.Nodup.length_le_of_subset (orderL_nodup hnx) (l₂ := List.range n) (fun x hx => List.mem_range.2 (orderL_lt hnx hx))
  simpa using h
end Go.Proofs.Ytbhndfknjkeilaa

/- What can be come to, by going round often enough, in mathematics. No condition. -/
namespace Go.Proofs.Ytbhndfknjkeilaa
set_option linter.unusedVariables false

def mkW (w : Int) (S : Nat → Bool) (t : Nat) : Nat → Bool := if (t : Int) = w then S else mark S t
def fromA (nx : Nat → List Nat) (w : Int) (S : Nat → Bool) (a : Nat) : Nat → Bool := if S a = true then (nx a).foldl (mkW w) S else S
def fromR (nx : Nat → List Nat) (w : Int) (n : Nat) (S : Nat → Bool) : Nat → Bool := (List.range n).foldl (fromA nx w) S
def fromN (nx : Nat → List Nat) (w : Int) (n b : Nat) : Nat → Nat → Bool
  | 0 => mark noneSeen b
  | i + 1 => fromR nx w n (fromN nx w n b i)
/-- Without going by one. -/
def nxW (nx : Nat → List Nat) (w : Int) (a : Nat) : List Nat := (nx a).filter fun t : Nat => decide ((t : Int) ≠ w)
theorem nxW_mem {nx : Nat → List Nat} {w : Int} {a t : Nat} : t ∈ nxW nx w a ↔ t ∈ nx a ∧ (t : Int) ≠ w := by
  unfold nxW; rw [List.mem_filter]; simp

theorem mkW_of {w : Int} {S : Nat → Bool} {t x : Nat} (h : S x = true) : mkW w S t x = true := by
  unfold mkW; split
  · exact h
  · exact mark_of h
theorem foldW_of {w : Int} {l : List Nat} : ∀ {S : Nat → Bool} {x : Nat}, S x = true → l.foldl (mkW w) S x = true := by
  induction l with
  | nil => exact fun h => h
  | cons t l ih => exact fun h => ih (mkW_of h)
theorem foldW_mem {w : Int} {l : List Nat} : ∀ {S : Nat → Bool} {t : Nat}, t ∈ l → (t : Int) ≠ w → l.foldl (mkW w) S t = true := by
  induction l with
  | nil => intro S t h; cases h
  | cons y l ih =>
    intro S t h hw
    rcases List.mem_cons.1 h with rfl | h
    · rw [List.foldl_cons]
      exact foldW_of (by unfold mkW; rw [if_neg hw]; exact mark_same _ _)
    · exact ih h hw
theorem foldW_inv {w : Int} {l : List Nat} : ∀ {S : Nat → Bool} {x : Nat}, l.foldl (mkW w) S x = true → S x = true ∨ (x ∈ l ∧ (x : Int) ≠ w) := by
  induction l with
  | nil => exact fun h => .inl h
  | cons y l ih =>
    intro S x h
    rcases ih h with h1 | ⟨h1, h2⟩
    · unfold mkW at h1
      split at h1
      · exact .inl h1
      · rename_i hne
        rcases mark_cases h1 with rfl | h1
        · exact .inr ⟨by simp, hne⟩
        · exact .inl h1
    · exact .inr ⟨by simp [h1], h2⟩
theorem fromA_of {nx : Nat → List Nat} {w : Int} {S : Nat → Bool} {a x : Nat} (h : S x = true) : fromA nx w S a x = true := by
  unfold fromA; split
  · exact foldW_of h
  · exact h
theorem foldA_of {nx : Nat → List Nat} {w : Int} {l : List Nat} : ∀ {S : Nat → Bool} {x : Nat}, S x = true → l.foldl (fromA nx w) S x = true := by
  induction l with
  | nil => exact fun h => h
  | cons t l ih => exact fun h => ih (fromA_of h)
theorem foldA_mem {nx : Nat → List Nat} {w : Int} {l : List Nat} : ∀ {S : Nat → Bool} {a t : Nat}, a ∈ l → S a = true → t ∈ nx a → (t : Int) ≠ w → l.foldl (fromA nx w) S t = true := by
  induction l with
  | nil => intro S a t h; cases h
  | cons y l ih =>
    intro S a t h hs ht hw
    rcases List.mem_cons.1 h with rfl | h
    · rw [List.foldl_cons]
      exact foldA_of (by unfold fromA; rw [if_pos hs]; exact foldW_mem ht hw)
    · exact ih h (fromA_of hs) ht hw
theorem foldA_inv {nx : Nat → List Nat} {w : Int} {p : Nat → Prop} {l : List Nat} : (∀ a t, a ∈ l → p a → t ∈ nx a → (t : Int) ≠ w → p t) → ∀ {S : Nat → Bool}, (∀ x, S x = true → p x) → ∀ x, l.foldl (fromA nx w) S x = true → p x := by
  induction l with
  | nil => exact fun _ _ h => h
  | cons y l ih =>
    intro hp S h
    refine ih (fun a t ha => hp a t (by simp [ha])) fun x hx => ?_
    unfold fromA at hx
    split at hx
    · rename_i hy
      rcases foldW_inv hx with h1 | ⟨h1, h2⟩
      · exact h x h1
      · exact hp y x (by simp) (h y hy) h1 h2
    · exact h x hx

def ClosedG (nx : Nat → List Nat) (w : Int) (n : Nat) (S : Nat → Bool) : Prop := ∀ a t, a < n → S a = true → t ∈ nx a → (t : Int) ≠ w → S t = true
theorem unseen_less {n : Nat} {S S' : Nat → Bool} (h : ∀ x, S x = true → S' x = true) {t : Nat} (ht : t < n) (h1 : S t = false) (h2 : S' t = true) : unseen n S' + 1 ≤ unseen n S := by
  rw [unseen_mark h1 ht]
  have : unseen n S' ≤ unseen n (mark S t) := unseen_mono fun x hx => by
    rcases mark_cases hx with rfl | hx
    · exact h2
    · exact h x hx
  omega
theorem from_step {nx : Nat → List Nat} {n : Nat} (hnx : ∀ x, ∀ t ∈ nx x, t < n) {w : Int} {b : Nat} (hb : b < n) : ∀ i : Nat, ClosedG nx w n (fromN nx w n b i) ∨ unseen n (fromN nx w n b i) + i + 1 ≤ n := by
  intro i
  induction i with
  | zero =>
    right
    have h := unseen_mark (S := noneSeen) (b := b) rfl hb
    have h2 := unseen_le n noneSeen
    show unseen n (mark noneSeen b) + 0 + 1 ≤ n
    omega
  | succ i ih =>
    generalize hS : fromN nx w n b i = S at ih
    have hS' : fromN nx w n b (i + 1) = fromR nx w n S := by rw [← hS]; rfl
    rw [hS']
    by_cases hc : ClosedG nx w n S
    · left
      have hup : ∀ x, fromR nx w n S x = true → S x = true :=
        foldA_inv (p := fun x => S x = true) (fun a t ha hs ht hw => hc a t (List.mem_range.1 ha) hs ht hw) (fun x hx => hx)
      intro a t ha hs ht hw
      exact foldA_of (hc a t ha (hup a hs) ht hw)
    · rcases ih with ih | ih
      · exact absurd ih hc
      · right
        have : ∃ a t, a < n ∧ S a = true ∧ t ∈ nx a ∧ (t : Int) ≠ w ∧ S t = false := by
          apply Classical.byContradiction
          intro h
          apply hc
          intro a t ha hs ht hw
          cases h2 : S t
          · exact absurd ⟨a, t, ha, hs, ht, hw, h2⟩ h
          · rfl
        obtain ⟨a, t, ha, hs, ht, hw, h2⟩ := this
        have := unseen_less (S := S) (S' := fromR nx w n S) (fun x hx => foldA_of hx) (hnx a t ht) h2 (foldA_mem (List.mem_range.2 ha) hs ht hw)
        omega
theorem fromN_of {nx : Nat → List Nat} {w : Int} {n b : Nat} : ∀ i : Nat, fromN nx w n b i b = true
  | 0 => mark_same _ _
  | i + 1 => foldA_of (fromN_of i)
theorem fromN_reach {nx : Nat → List Nat} {w : Int} {n b : Nat} : ∀ (i x : Nat), fromN nx w n b i x = true → Reach (nxW nx w) b x
  | 0, x, h => by
    rcases mark_cases h with rfl | h
    · exact .refl
    · cases h
  | i + 1, x, h => foldA_inv (p := Reach (nxW nx w) b) (fun a t _ ha ht hw => .step ha (nxW_mem.2 ⟨ht, hw⟩)) (fun y hy => fromN_reach i y hy) x h
/-- Gone round as often as there are blocks: what can be come to. -/
theorem fromN_iff {nx : Nat → List Nat} {n : Nat} (hnx : ∀ x, ∀ t ∈ nx x, t < n) {w : Int} {b : Nat} (hb : b < n) (x : Nat) : fromN nx w n b n x = true ↔ Reach (nxW nx w) b x := by
  refine ⟨fromN_reach n x, fun h => ?_⟩
  rcases from_step hnx (w := w) hb n with hc | hc
  · have hlt : ∀ y, Reach (nxW nx w) b y → y < n := fun y hy => by
      cases hy with
      | refl => exact hb
      | step _ h => exact hnx _ _ (nxW_mem.1 h).1
    induction h with
    | refl => exact fromN_of n
    | step h1 h2 ih => exact hc _ _ (hlt _ h1) ih (nxW_mem.1 h2).1 (nxW_mem.1 h2).2
  · omega
theorem nxW_any (nx : Nat → List Nat) (w : Int) (hw : w < 0) : nxW nx w = nx := by
  funext a
  unfold nxW
  rw [List.filter_eq_self]
  intro t _
  simp; omega
theorem fromN_reachB {nx : Nat → List Nat} {n : Nat} (hnx : ∀ x, ∀ t ∈ nx x, t < n) (hn : 0 < n) (x : Nat) : fromN nx (-1) n 0 n x = reachB nx n x := by
  have h1 := fromN_iff hnx (w := -1) (b := 0) hn x
  rw [nxW_any nx (-1) (by omega), ← orderL_mem hnx (by omega)] at h1
  unfold reachB
  rw [Bool.eq_iff_iff, decide_eq_true_iff]
  exact h1
end Go.Proofs.Ytbhndfknjkeilaa
