/- The search for rings of calls, as functions of a state: what holds at each step. -/
namespace Go.Proofs.Ytdfiflbkamhchaa
set_option linter.unusedVariables false

def updN {α : Type} (f : Nat → α) (i : Nat) (v : α) : Nat → α := fun x => if x = i then v else f x
theorem updN_here {α : Type} (f : Nat → α) (i : Nat) (v : α) : updN f i v i = v := if_pos rfl
theorem updN_else {α : Type} (f : Nat → α) {i x : Nat} (v : α) (h : x ≠ i) : updN f i v x = f x := if_neg h

/-- What can be come to by calls. -/
inductive CR (c : Nat → List Nat) : Nat → Nat → Prop
  | refl (a) : CR c a a
  | step {a b d} : b ∈ c a → CR c b d → CR c a d
theorem CR.trans {c : Nat → List Nat} {a b d : Nat} (h : CR c a b) (k : CR c b d) : CR c a d := by
  induction h with
  | refl => exact k
  | step e _ ih => exact .step e (ih k)
theorem CR.one {c : Nat → List Nat} {a b : Nat} (h : b ∈ c a) : CR c a b := .step h (.refl _)

structure TsS where
  left : Nat → List Nat
  come : Nat → Nat
  first : Nat → Nat
  way : List Nat
  op : List Nat
  many : Nat
  rings : List (List Nat)

def topN : Nat := 9223372036854775807
def sortN (l : List Nat) : List Nat := l.mergeSort fun a b => decide (a ≤ b)
def seenN (n : Nat) (s : TsS) : Nat := (List.range n).countP fun f => decide (s.come f ≠ 0)

def enterS (s : TsS) (g : Nat) : TsS := { s with come := updN s.come g (s.many + 1), first := updN s.first g (s.many + 1), way := s.way ++ [g], op := s.op ++ [g], many := s.many + 1 }
def dropS (s : TsS) (f : Nat) (l : List Nat) : TsS := { s with left := updN s.left f l }
def minS (s : TsS) (f v : Nat) : TsS := { s with first := updN s.first f (min (s.first f) v) }
def ringS (s : TsS) (o R : List Nat) : TsS := { s with op := o, first := fun x => if x ∈ R then topN else s.first x, rings := s.rings ++ [sortN R] }
def wayS (s : TsS) (l : List Nat) : TsS := { s with way := l }

theorem sortN_mem {l : List Nat} {x : Nat} : x ∈ sortN l ↔ x ∈ l := List.mem_mergeSort
theorem sortN_sorted {l : List Nat} (h : l.Nodup) : (sortN l).Pairwise (· < ·) := by
  have h1 : (sortN l).Pairwise fun a b => decide (a ≤ b) = true := List.pairwise_mergeSort (by intro a b c; simp; omega) (by intro a b; simp; omega) l
  have h2 : (sortN l).Nodup := (List.mergeSort_perm l _).nodup_iff.2 h
  refine List.Pairwise.imp₂ ?_ h1 h2
  intro a b x y
  have := of_decide_eq_true x
  omega
theorem sortN_ne {l : List Nat} (h : l ≠ []) : sortN l ≠ [] := by
  intro e
  cases l with
  | nil => exact h rfl
  | cons a l => have : a ∈ sortN (a :: l) := sortN_mem.2 (by simp); rw [e] at this; simp at this
theorem sortN_len (l : List Nat) : (sortN l).length = l.length := List.length_mergeSort l

/-- What rings are, in the order in which they are found. -/
structure RgO (c : Nat → List Nat) (rs : List (List Nat)) : Prop where
  ne : ∀ r ∈ rs, r ≠ []
  st : ∀ r ∈ rs, r.Pairwise (· < ·)
  cr : ∀ r ∈ rs, ∀ f ∈ r, ∀ g ∈ r, CR c f g
  cl : ∀ (i : Nat) (r : List Nat), rs[i]? = some r → ∀ f ∈ r, ∀ g ∈ c f, ∃ (j : Nat) (q : List Nat), j ≤ i ∧ rs[j]? = some q ∧ g ∈ q
  dj : ∀ (i j : Nat) (r q : List Nat) (f : Nat), rs[i]? = some r → rs[j]? = some q → f ∈ r → f ∈ q → i = j
theorem RgO.snoc {c : Nat → List Nat} {rs : List (List Nat)} (H : RgO c rs) {r : List Nat} (h1 : r ≠ []) (h2 : r.Pairwise (· < ·)) (h3 : ∀ f ∈ r, ∀ g ∈ r, CR c f g)
    (h4 : ∀ f ∈ r, ∀ g ∈ c f, g ∈ r ∨ ∃ q ∈ rs, g ∈ q) (h5 : ∀ f ∈ r, ∀ q ∈ rs, f ∉ q) : RgO c (rs ++ [r]) := by
  have hin : ∀ (i : Nat) (q : List Nat), (rs ++ [r])[i]? = some q → (rs[i]? = some q ∧ i < rs.length) ∨ (i = rs.length ∧ q = r) := by
    intro i q h
    rcases Nat.lt_trichotomy i rs.length with k | k | k
    · rw [List.getElem?_append_left k] at h; exact .inl ⟨h, k⟩
    · subst k; rw [List.getElem?_append_right (Nat.le_refl _)] at h; simp at h; exact .inr ⟨rfl, h.symm⟩
    · rw [List.getElem?_append_right (by omega), List.getElem?_eq_none (by simp; omega)] at h; cases h
  have hl : ∀ (i : Nat) (q : List Nat), rs[i]? = some q → (rs ++ [r])[i]? = some q := by
    intro i q h
    rw [List.getElem?_append_left (List.getElem?_eq_some_iff.1 h).1]; exact h
  have hr : (rs ++ [r])[rs.length]? = some r := by rw [List.getElem?_append_right (Nat.le_refl _)]; simp
  refine ⟨fun q hq => ?_, fun q hq => ?_, fun q hq => ?_, fun i q hq f hf g hg => ?_, fun i j p q f hp hq h6 h7 => ?_⟩
  · rcases List.mem_append.1 hq with k | k
    · exact H.ne q k
    · rw [List.mem_singleton.1 k]; exact h1
  · rcases List.mem_append.1 hq with k | k
    · exact H.st q k
    · rw [List.mem_singleton.1 k]; exact h2
  · rcases List.mem_append.1 hq with k | k
    · exact H.cr q k
    · rw [List.mem_singleton.1 k]; exact h3
  · rcases hin i q hq with ⟨k, _⟩ | ⟨rfl, rfl⟩
    · obtain ⟨j, p, a, b, d⟩ := H.cl i q k f hf g hg
      exact ⟨j, p, a, hl j p b, d⟩
    · rcases h4 f hf g hg with k | ⟨p, k, d⟩
      · exact ⟨_, q, Nat.le_refl _, hr, k⟩
      · obtain ⟨j, hj, e⟩ := List.mem_iff_getElem.1 k
        exact ⟨j, p, by omega, hl j p (by rw [List.getElem?_eq_getElem hj, e]), d⟩
  · rcases hin i p hp with ⟨k, _⟩ | ⟨rfl, rfl⟩ <;> rcases hin j q hq with ⟨k', _⟩ | ⟨rfl, rfl⟩
    · exact H.dj i j p q f k k' h6 h7
    · exact absurd h6 (h5 f h7 p (List.mem_of_getElem? k))
    · exact absurd h7 (h5 f h6 q (List.mem_of_getElem? k'))
    · rfl

/-- What holds of a state of the search; x: a call that was taken off, and isn't looked at yet. -/
structure TsI (n : Nat) (c : Nat → List Nat) (x : Nat → Nat → Prop) (s : TsS) : Prop where
  lt : ∀ f, s.come f ≠ 0 → f < n
  mn : s.many = seenN n s
  cm : ∀ f, s.come f ≤ s.many
  inj : ∀ f g, s.come f ≠ 0 → s.come f = s.come g → f = g
  opS : s.op.Pairwise fun a b => s.come a < s.come b
  opI : ∀ f ∈ s.op, s.come f ≠ 0
  wyS : s.way.Pairwise fun a b => s.come a < s.come b
  wyI : ∀ f ∈ s.way, f ∈ s.op
  lf : ∀ f, ∀ g ∈ c f, g ∈ s.left f ∨ x f g ∨ s.come g ≠ 0
  lfs : ∀ f, ∀ g ∈ s.left f, g ∈ c f
  lf0 : ∀ f, s.come f = 0 → s.left f = c f
  lfw : ∀ f, s.come f ≠ 0 → f ∉ s.way → s.left f = []
  dn : ∀ f, s.come f ≠ 0 → (f ∉ s.op ↔ ∃ r ∈ s.rings, f ∈ r)
  dn0 : ∀ r ∈ s.rings, ∀ f ∈ r, s.come f ≠ 0
  ft : ∀ f, s.come f ≠ 0 → f ∉ s.op → s.first f = topN
  fo : ∀ f ∈ s.op, ∃ g ∈ s.op, s.first f = s.come g ∧ CR c f g ∧ s.come g ≤ s.come f
  wr : ∀ w ∈ s.way, ∀ f ∈ s.op, s.come w ≤ s.come f → CR c w f
  bk : ∀ f ∈ s.op, f ∉ s.way → ∃ w ∈ s.way, s.come w < s.come f ∧ CR c f w
  lk : ∀ w ∈ s.way, ∀ f ∈ s.op, s.come w ≤ s.come f → (∀ v ∈ s.way, s.come v ≤ s.come f → s.come v ≤ s.come w) → ∀ h ∈ c f, h ∈ s.left f ∨ x f h ∨ (h ∈ s.op → s.first w ≤ s.come h)
  rg : RgO c s.rings
  sz : s.rings.length + s.op.length ≤ s.many
  wz : s.way.length ≤ s.many

def noX : Nat → Nat → Prop := fun _ _ => False
theorem seenN_le (n : Nat) (s : TsS) : seenN n s ≤ n := by
  unfold seenN
  have := List.countP_le_length (p := fun f => decide (s.come f ≠ 0)) (l := List.range n)
  rw [List.length_range] at this; exact this
theorem TsI.many_le {n : Nat} {c : Nat → List Nat} {x : Nat → Nat → Prop} {s : TsS} (H : TsI n c x s) : s.many ≤ n := H.mn ▸ seenN_le n s
theorem seenN_enter {n : Nat} {s : TsS} {g : Nat} (hg : g < n) (h0 : s.come g = 0) : seenN n (enterS s g) = seenN n s + 1 := by
  unfold seenN
  have key : ∀ l : List Nat, l.Nodup → l.countP (fun f => decide ((enterS s g).come f ≠ 0)) = l.countP (fun f => decide (s.come f ≠ 0)) + (if g ∈ l then 1 else 0) := by
    intro l
    induction l with
    | nil => intro _; simp
    | cons a l ih =>
      intro hn
      obtain ⟨h1, h2⟩ := List.nodup_cons.1 hn
      rw [List.countP_cons, List.countP_cons, ih h2]
      by_cases e : a = g
      · subst e
        have e1 : (enterS s a).come a = s.many + 1 := updN_here _ _ _
        have hm : a ∈ a :: l := by simp
        rw [if_neg h1, if_pos hm, e1, h0]; simp
      · have e1 : (enterS s g).come a = s.come a := updN_else _ _ e
        rw [e1]
        by_cases e2 : g ∈ l
        · rw [if_pos e2, if_pos (List.mem_cons_of_mem _ e2)]; omega
        · have e3 : g ∉ a :: l := fun h => by
            rcases List.mem_cons.1 h with h | h
            · exact e h.symm
            · exact e2 h
          rw [if_neg e2, if_neg e3]; omega
  rw [key _ List.nodup_range, if_pos (List.mem_range.2 hg)]

/-- At the beginning. -/
theorem TsI.start (n : Nat) (c : Nat → List Nat) : TsI n c noX ⟨c, fun _ => 0, fun _ => 0, [], [], 0, []⟩ := by
  refine ⟨by simp, ?_, by simp, by simp, by simp, by simp, by simp, by simp, fun f g h => .inl h, fun f g h => h, by simp, by simp, by simp, by simp, by simp, by simp, by simp, by simp, by simp, ⟨by simp, by simp, by simp, by simp, by simp⟩, by simp, by simp⟩
  unfold seenN; simp

/-- A call is taken off. -/
theorem TsI.drop {n : Nat} {c : Nat → List Nat} {s : TsS} (H : TsI n c noX s) {f g : Nat} {l : List Nat} (hf : f ∈ s.way) (hl : s.left f = g :: l) : TsI n c (fun a b => a = f ∧ b = g) (dropS s f l) := by
  have hc0 : s.come f ≠ 0 := H.opI f (H.wyI f hf)
  have key : ∀ a b, b ∈ s.left a → b ∈ (dropS s f l).left a ∨ (a = f ∧ b = g) := by
    intro a b hb
    by_cases e : a = f
    · subst e; rw [hl] at hb
      rcases List.mem_cons.1 hb with k | k
      · exact .inr ⟨rfl, k⟩
      · exact .inl (by show b ∈ updN s.left a l a; rw [updN_here]; exact k)
    · exact .inl (by show b ∈ updN s.left f l a; rw [updN_else _ _ e]; exact hb)
  refine ⟨H.lt, H.mn, H.cm, H.inj, H.opS, H.opI, H.wyS, H.wyI, fun a b hb => ?_, fun a b hb => ?_, fun a ha => ?_, fun a ha hw => ?_, H.dn, H.dn0, H.ft, H.fo, H.wr, H.bk, fun w hw a ha h1 h2 h hh => ?_, H.rg, H.sz, H.wz⟩
  · rcases H.lf a b hb with k | k | k
    · rcases key a b k with q | q
      · exact .inl q
      · exact .inr (.inl q)
    · exact k.elim
    · exact .inr (.inr k)
  · refine H.lfs a b ?_
    by_cases e : a = f
    · subst e
      have hb' : b ∈ updN s.left a l a := hb
      rw [updN_here] at hb'; rw [hl]; exact List.mem_cons_of_mem _ hb'
    · have hb' : b ∈ updN s.left f l a := hb
      rw [updN_else _ _ e] at hb'; exact hb'
  · have e : a ≠ f := fun e => by subst e; exact hc0 ha
    show updN s.left f l a = c a
    rw [updN_else _ _ e]; exact H.lf0 a ha
  · have e : a ≠ f := fun e => by subst e; exact hw hf
    show updN s.left f l a = []
    rw [updN_else _ _ e]; exact H.lfw a ha hw
  · rcases H.lk w hw a ha h1 h2 h hh with k | k | k
    · rcases key a h k with q | q
      · exact .inl q
      · exact .inr (.inl q)
    · exact k.elim
    · exact .inr (.inr k)

/-- A function is come to. -/
theorem TsI.enter {n : Nat} {c : Nat → List Nat} {x : Nat → Nat → Prop} {s : TsS} (H : TsI n c x s) {g : Nat} (hg : g < n) (h0 : s.come g = 0) (hx : ∀ a b, x a b → b = g)
    (hw : ∀ w ∈ s.way, CR c w g) : TsI n c noX (enterS s g) := by
  have ng : ∀ f, s.come f ≠ 0 → f ≠ g := fun f h e => by subst e; exact h h0
  have hgo : g ∉ s.op := fun h => H.opI g h h0
  have hgw : g ∉ s.way := fun h => hgo (H.wyI g h)
  have ce : (enterS s g).come g = s.many + 1 := updN_here _ _ _
  have cn : ∀ f, f ≠ g → (enterS s g).come f = s.come f := fun f h => updN_else _ _ h
  have fe : (enterS s g).first g = s.many + 1 := updN_here _ _ _
  have fn : ∀ f, f ≠ g → (enterS s g).first f = s.first f := fun f h => updN_else _ _ h
  have go : ∀ f, f ∈ (enterS s g).op ↔ f ∈ s.op ∨ f = g := fun f => by show f ∈ s.op ++ [g] ↔ _; simp
  have gw : ∀ f, f ∈ (enterS s g).way ↔ f ∈ s.way ∨ f = g := fun f => by show f ∈ s.way ++ [g] ↔ _; simp
  have on : ∀ f ∈ s.op, f ≠ g := fun f h => ng f (H.opI f h)
  have wn : ∀ f ∈ s.way, f ≠ g := fun f h => on f (H.wyI f h)
  refine ⟨fun f hf => ?_, ?_, fun f => ?_, fun a b h1 h2 => ?_, ?_, fun f hf => ?_, ?_, fun f hf => ?_, fun a b hb => ?_, H.lfs, fun a ha => ?_, fun a ha hwa => ?_, fun a ha => ?_, fun r hr a ha => ?_, fun a ha hn => ?_, fun a ha => ?_, fun w hwv a ha h1 => ?_, fun a ha hn => ?_, fun w hwv a ha h1 h2 h hh => ?_, H.rg, by show s.rings.length + (s.op ++ [g]).length ≤ s.many + 1; have := H.sz; simp; omega, by show (s.way ++ [g]).length ≤ s.many + 1; have := H.wz; simp; omega⟩
  · by_cases e : f = g
    · subst e; exact hg
    · rw [cn f e] at hf; exact H.lt f hf
  · show s.many + 1 = _
    rw [seenN_enter hg h0, H.mn]
  · show (enterS s g).come f ≤ s.many + 1
    by_cases e : f = g
    · subst e; rw [ce]; omega
    · rw [cn f e]; have := H.cm f; omega
  · by_cases e : a = g <;> by_cases e2 : b = g
    · rw [e, e2]
    · subst e; rw [ce, cn b e2] at h2; have := H.cm b; omega
    · subst e2; rw [ce, cn a e] at h2; have := H.cm a; omega
    · rw [cn a e] at h1 h2; rw [cn b e2] at h2; exact H.inj a b h1 h2
  · show (s.op ++ [g]).Pairwise _
    rw [List.pairwise_append]
    refine ⟨H.opS.imp_of_mem (fun {a b} ha hb h => by rw [cn a (on a ha), cn b (on b hb)]; exact h), by simp, fun a ha b hb => ?_⟩
    rw [List.mem_singleton.1 hb, ce, cn a (on a ha)]; have := H.cm a; omega
  · rcases (go f).1 hf with k | k
    · rw [cn f (on f k)]; exact H.opI f k
    · subst k; rw [ce]; omega
  · show (s.way ++ [g]).Pairwise _
    rw [List.pairwise_append]
    refine ⟨H.wyS.imp_of_mem (fun {a b} ha hb h => by rw [cn a (wn a ha), cn b (wn b hb)]; exact h), by simp, fun a ha b hb => ?_⟩
    rw [List.mem_singleton.1 hb, ce, cn a (wn a ha)]; have := H.cm a; omega
  · rcases (gw f).1 hf with k | k
    · exact (go f).2 (.inl (H.wyI f k))
    · exact (go f).2 (.inr k)
  · rcases H.lf a b hb with k | k | k
    · exact .inl k
    · refine .inr (.inr ?_); rw [hx a b k, ce]; omega
    · refine .inr (.inr ?_); rw [cn b (ng b k)]; exact k
  · have e : a ≠ g := fun e => by subst e; rw [ce] at ha; omega
    rw [cn a e] at ha; exact H.lf0 a ha
  · have e : a ≠ g := fun e => by subst e; exact hwa ((gw a).2 (.inr rfl))
    rw [cn a e] at ha; exact H.lfw a ha (fun k => hwa ((gw a).2 (.inl k)))
  · by_cases e : a = g
    · subst e
      refine ⟨fun h => absurd ((go a).2 (.inr rfl)) h, fun ⟨r, hr, har⟩ => absurd h0 (H.dn0 r hr a har)⟩
    · rw [cn a e] at ha
      rw [go]
      exact ⟨fun h => (H.dn a ha).1 (fun k => h (.inl k)), fun h k => by rcases k with k | k; exact (H.dn a ha).2 h k; exact e k⟩
  · have := H.dn0 r hr a ha
    rw [cn a (ng a this)]; exact this
  · have e : a ≠ g := fun e => by subst e; exact hn ((go a).2 (.inr rfl))
    rw [cn a e] at ha; rw [fn a e]; exact H.ft a ha (fun k => hn ((go a).2 (.inl k)))
  · rcases (go a).1 ha with k | k
    · obtain ⟨b, hb, h1, h2, h3⟩ := H.fo a k
      exact ⟨b, (go b).2 (.inl hb), by rw [fn a (on a k), cn b (on b hb)]; exact h1, h2, by rw [cn a (on a k), cn b (on b hb)]; exact h3⟩
    · subst k
      exact ⟨a, (go a).2 (.inr rfl), by rw [fe, ce], .refl _, Nat.le_refl _⟩
  · rcases (gw w).1 hwv with k | k <;> rcases (go a).1 ha with q | q
    · rw [cn w (wn w k), cn a (on a q)] at h1; exact H.wr w k a q h1
    · subst q; exact hw w k
    · subst k; rw [ce, cn a (on a q)] at h1; have := H.cm a; omega
    · subst k; subst q; exact .refl _
  · rcases (go a).1 ha with q | q
    · obtain ⟨w, h1, h2, h3⟩ := H.bk a q (fun k => hn ((gw a).2 (.inl k)))
      exact ⟨w, (gw w).2 (.inl h1), by rw [cn w (wn w h1), cn a (on a q)]; exact h2, h3⟩
    · exact absurd ((gw a).2 (.inr q)) hn
  · rcases (go a).1 ha with q | q
    · have e : w ≠ g := fun e => by subst e; rw [ce, cn a (on a q)] at h1; have := H.cm a; omega
      have k : w ∈ s.way := by rcases (gw w).1 hwv with k | k; exact k; exact absurd k e
      rw [cn w e, cn a (on a q)] at h1
      have hfw : s.first w ≤ s.many := by
        obtain ⟨b, _, h3, _, h4⟩ := H.fo w (H.wyI w k)
        have := H.cm w; omega
      have hnew : (enterS s g).first w ≤ (enterS s g).come g := by rw [fn w e, ce]; omega
      rcases H.lk w k a q h1 (fun v hv h3 => by
        have := h2 v ((gw v).2 (.inl hv)) (by rw [cn v (wn v hv), cn a (on a q)]; exact h3)
        rwa [cn v (wn v hv), cn w e] at this) h hh with j | j | j
      · exact .inl j
      · rw [hx a h j]; exact .inr (.inr fun _ => hnew)
      · refine .inr (.inr fun h3 => ?_)
        rcases (go h).1 h3 with t | t
        · rw [fn w e, cn h (on h t)]; exact j t
        · rw [t]; exact hnew
    · subst q
      exact .inl (by show h ∈ s.left a; rw [H.lf0 a h0]; exact hh)

/-- A call of a function that was seen is looked at. -/
theorem TsI.look {n : Nat} {c : Nat → List Nat} {s : TsS} {f g : Nat} (H : TsI n c (fun a b => a = f ∧ b = g) s) {l : List Nat} (hl : s.way = l ++ [f]) (hn : n ≤ topN) (hg : s.come g ≠ 0) (hgf : g ∈ c f) :
    TsI n c noX (minS s f (s.first g)) := by
  have hf : f ∈ s.way := by rw [hl]; simp
  have hfo := H.wyI f hf
  have fe : (minS s f (s.first g)).first f = min (s.first f) (s.first g) := updN_here _ _ _
  have fn : ∀ a, a ≠ f → (minS s f (s.first g)).first a = s.first a := fun a h => updN_else _ _ h
  have fle : ∀ a, (minS s f (s.first g)).first a ≤ s.first a := fun a => by
    by_cases e : a = f
    · subst e; rw [fe]; omega
    · rw [fn a e]; omega
  refine ⟨H.lt, H.mn, H.cm, H.inj, H.opS, H.opI, H.wyS, H.wyI, fun a b hb => ?_, H.lfs, H.lf0, H.lfw, H.dn, H.dn0, fun a ha hna => ?_, fun a ha => ?_, H.wr, H.bk, fun w hw a ha h1 h2 h hh => ?_, H.rg, H.sz, H.wz⟩
  · rcases H.lf a b hb with k | ⟨_, rfl⟩ | k
    · exact .inl k
    · exact .inr (.inr hg)
    · exact .inr (.inr k)
  · rw [fn a (fun e => by subst e; exact hna hfo)]; exact H.ft a ha hna
  · by_cases e : a = f
    · subst e
      obtain ⟨b, h1, h2, h3, h4⟩ := H.fo a ha
      rw [fe]
      by_cases k : s.first a ≤ s.first g
      · exact ⟨b, h1, by rw [Nat.min_eq_left k]; exact h2, h3, h4⟩
      · have hgo : g ∈ s.op := Decidable.byContradiction fun q => by
          have := H.ft g hg q
          have := H.cm b
          have := H.many_le
          omega
        obtain ⟨d, h5, h6, h7, h8⟩ := H.fo g hgo
        exact ⟨d, h5, by rw [Nat.min_eq_right (by omega)]; exact h6, .step hgf h7, by show s.come d ≤ s.come a; omega⟩
    · rw [fn a e]; exact H.fo a ha
  · rcases H.lk w hw a ha h1 h2 h hh with k | ⟨rfl, rfl⟩ | k
    · exact .inl k
    · refine .inr (.inr fun ho => ?_)
      have hwf : w = a := H.inj w a (H.opI w (H.wyI w hw)) (Nat.le_antisymm h1 (h2 a hf (Nat.le_refl _)))
      subst hwf
      obtain ⟨b, h3, h4, h5, h6⟩ := H.fo h ho
      have h7 : (minS s w (s.first h)).first w ≤ s.first h := by rw [fe]; omega
      show (minS s w (s.first h)).first w ≤ s.come h
      omega
    · exact .inr (.inr fun ho => Nat.le_trans (fle w) (k ho))

theorem last_max {c : Nat → Nat} {l : List Nat} {f : Nat} (h : (l ++ [f]).Pairwise fun a b => c a < c b) : ∀ a ∈ l, c a < c f := by
  intro a ha
  exact (List.pairwise_append.1 h).2.2 a ha f (by simp)

/-- The way's last one has a ring. -/
theorem TsI.ring {n : Nat} {c : Nat → List Nat} {s : TsS} {f : Nat} (H : TsI n c noX s) {l o p : List Nat} (hl : s.way = l ++ [f]) (ho : s.op = o ++ f :: p) (hlf : s.left f = []) (hff : s.first f = s.come f) :
    TsI n c noX (ringS (wayS s l) o (f :: p)) := by
  have hf : f ∈ s.way := by rw [hl]; simp
  have hfo := H.wyI f hf
  have hS := H.opS
  rw [ho, List.pairwise_append] at hS
  obtain ⟨hS1, hS2, hS3⟩ := hS
  have hlo : ∀ a ∈ o, s.come a < s.come f := fun a ha => hS3 a ha f (by simp)
  have hhi : ∀ a ∈ f :: p, s.come f ≤ s.come a := fun a ha => by
    rcases List.mem_cons.1 ha with k | k
    · rw [k]; exact Nat.le_refl _
    · exact Nat.le_of_lt ((List.pairwise_cons.1 hS2).1 a k)
  have mo : ∀ a, a ∈ s.op ↔ a ∈ o ∨ a ∈ f :: p := fun a => by rw [ho, List.mem_append]
  have nR : ∀ a ∈ o, a ∉ f :: p := fun a ha k => by have := hlo a ha; have := hhi a k; omega
  have hlow : ∀ a ∈ l, s.come a < s.come f := last_max (hl ▸ H.wyS)
  have mw : ∀ a, a ∈ s.way ↔ a ∈ l ∨ a = f := fun a => by rw [hl]; simp
  have lop : ∀ a ∈ l, a ∈ o := fun a ha => by
    rcases (mo a).1 (H.wyI a ((mw a).2 (.inl ha))) with k | k
    · exact k
    · have := hlow a ha; have := hhi a k; omega
  have fo_ : ∀ a, a ∉ f :: p → (ringS (wayS s l) o (f :: p)).first a = s.first a := fun a h => if_neg h
  have fi : ∀ a, a ∈ f :: p → (ringS (wayS s l) o (f :: p)).first a = topN := fun a h => if_pos h
  have lfR : ∀ a ∈ f :: p, s.left a = [] := fun a ha => by
    by_cases e : a = f
    · rw [e]; exact hlf
    · refine H.lfw a (H.opI a ((mo a).2 (.inr ha))) fun k => ?_
      rcases (mw a).1 k with k | k
      · have := hlow a k; have := hhi a ha; omega
      · exact e k
  have toF : ∀ a ∈ f :: p, CR c a f := fun a ha => by
    by_cases e : a = f
    · rw [e]; exact .refl _
    · obtain ⟨w, h1, h2, h3⟩ := H.bk a ((mo a).2 (.inr ha)) fun k => by
        rcases (mw a).1 k with k | k
        · have := hlow a k; have := hhi a ha; omega
        · exact e k
      refine h3.trans (H.wr w h1 f hfo ?_)
      rcases (mw w).1 h1 with k | k
      · exact Nat.le_of_lt (hlow w k)
      · rw [k]; exact Nat.le_refl _
  have ofF : ∀ a ∈ f :: p, CR c f a := fun a ha => H.wr f hf a ((mo a).2 (.inr ha)) (hhi a ha)
  have nd : (f :: p).Nodup := by
    refine hS2.imp ?_
    intro a b h e
    rw [e] at h; omega
  refine ⟨H.lt, H.mn, H.cm, H.inj, hS1, fun a ha => H.opI a ((mo a).2 (.inl ha)), ?_, lop, H.lf, H.lfs, H.lf0, fun a ha hn => ?_, fun a ha => ?_, fun r hr a ha => ?_, fun a ha hn => ?_, fun a ha => ?_, fun w hw a ha h1 => ?_, fun a ha hn => ?_, fun w hw a ha h1 h2 h hh => ?_, ?_, by show (s.rings ++ [sortN (f :: p)]).length + o.length ≤ s.many; have := H.sz; rw [ho] at this; simp at this ⊢; omega, by show l.length ≤ s.many; have := H.wz; rw [hl] at this; simp at this; omega⟩
  · have := H.wyS
    rw [hl, List.pairwise_append] at this
    exact this.1
  · by_cases e : a = f
    · rw [e]; exact hlf
    · exact H.lfw a ha fun k => by
        rcases (mw a).1 k with k | k
        · exact hn k
        · exact e k
  · show a ∉ o ↔ ∃ r ∈ s.rings ++ [sortN (f :: p)], a ∈ r
    constructor
    · intro h
      by_cases k : a ∈ f :: p
      · exact ⟨_, by simp, sortN_mem.2 k⟩
      · obtain ⟨r, h1, h2⟩ := (H.dn a ha).1 fun q => by
          rcases (mo a).1 q with q | q
          · exact h q
          · exact k q
        exact ⟨r, List.mem_append.2 (.inl h1), h2⟩
    · rintro ⟨r, h1, h2⟩ h3
      rcases List.mem_append.1 h1 with k | k
      · exact (H.dn a ha).2 ⟨r, k, h2⟩ ((mo a).2 (.inl h3))
      · rw [List.mem_singleton.1 k] at h2
        exact nR a h3 (sortN_mem.1 h2)
  · have hr' : r ∈ s.rings ++ [sortN (f :: p)] := hr
    rcases List.mem_append.1 hr' with k | k
    · exact H.dn0 r k a ha
    · rw [List.mem_singleton.1 k] at ha
      exact H.opI a ((mo a).2 (.inr (sortN_mem.1 ha)))
  · by_cases k : a ∈ f :: p
    · exact fi a k
    · rw [fo_ a k]
      exact H.ft a ha fun q => by
        rcases (mo a).1 q with q | q
        · exact hn q
        · exact k q
  · obtain ⟨b, h1, h2, h3, h4⟩ := H.fo a ((mo a).2 (.inl ha))
    refine ⟨b, ?_, by rw [fo_ a (nR a ha)]; exact h2, h3, h4⟩
    rcases (mo b).1 h1 with k | k
    · exact k
    · have := hhi b k; have := hlo a ha; omega
  · exact H.wr w ((mw w).2 (.inl hw)) a ((mo a).2 (.inl ha)) h1
  · obtain ⟨w, h1, h2, h3⟩ := H.bk a ((mo a).2 (.inl ha)) fun k => by
      rcases (mw a).1 k with k | k
      · exact hn k
      · subst k; exact absurd (hlo a ha) (by omega)
    refine ⟨w, ?_, h2, h3⟩
    rcases (mw w).1 h1 with k | k
    · exact k
    · subst k; have := hlo a ha; omega
  · have hwo := lop w hw
    rcases H.lk w ((mw w).2 (.inl hw)) a ((mo a).2 (.inl ha)) h1 (fun v hv h3 => by
      rcases (mw v).1 hv with k | k
      · exact h2 v k h3
      · subst k; have := hlo a ha; omega) h hh with k | k | k
    · exact .inl k
    · exact k.elim
    · refine .inr (.inr fun h3 => ?_)
      rw [fo_ w (nR w hwo)]
      exact k ((mo h).2 (.inl h3))
  · show RgO c (s.rings ++ [sortN (f :: p)])
    refine H.rg.snoc (sortN_ne (by simp)) (sortN_sorted nd) (fun a ha b hb => (toF a (sortN_mem.1 ha)).trans (ofF b (sortN_mem.1 hb))) (fun a ha h hh => ?_) (fun a ha q hq k => ?_)
    · have ha := sortN_mem.1 ha
      have hs : s.come h ≠ 0 := by
        rcases H.lf a h hh with k | k | k
        · rw [lfR a ha] at k; simp at k
        · exact k.elim
        · exact k
      by_cases k : h ∈ s.op
      · refine .inl (sortN_mem.2 ?_)
        rcases H.lk f hf a ((mo a).2 (.inr ha)) (hhi a ha) (fun v hv h3 => by
          rcases (mw v).1 hv with q | q
          · exact Nat.le_of_lt (hlow v q)
          · rw [q]; exact Nat.le_refl _) h hh with q | q | q
        · rw [lfR a ha] at q; simp at q
        · exact q.elim
        · have := q k
          rcases (mo h).1 k with t | t
          · have := hlo h t; omega
          · exact t
      · exact .inr ((H.dn h hs).1 k)
    · have ha := sortN_mem.1 ha
      have h1 := (mo a).2 (.inr ha)
      exact (H.dn a (H.opI a h1)).2 ⟨q, hq, k⟩ h1

/-- The way's last one has no ring: one is ahead of it. -/
theorem TsI.ahead {n : Nat} {c : Nat → List Nat} {s : TsS} {f : Nat} (H : TsI n c noX s) {l : List Nat} (hl : s.way = l ++ [f]) (hff : s.first f ≠ s.come f) :
    ∃ w ∈ l, s.come w < s.come f ∧ CR c f w := by
  have hf : f ∈ s.way := by rw [hl]; simp
  have mw : ∀ a, a ∈ s.way ↔ a ∈ l ∨ a = f := fun a => by rw [hl]; simp
  obtain ⟨g, h1, h2, h3, h4⟩ := H.fo f (H.wyI f hf)
  have hlt : s.come g < s.come f := by omega
  by_cases k : g ∈ s.way
  · rcases (mw g).1 k with k | k
    · exact ⟨g, k, hlt, h3⟩
    · subst k; omega
  · obtain ⟨w, h5, h6, h7⟩ := H.bk g h1 k
    rcases (mw w).1 h5 with q | q
    · exact ⟨w, q, by omega, h3.trans h7⟩
    · subst q; omega
theorem TsI.back {n : Nat} {c : Nat → List Nat} {s : TsS} {f v : Nat} (H : TsI n c noX s) {l : List Nat} (hl : s.way = l ++ [v] ++ [f]) (hlf : s.left f = []) (hff : s.first f ≠ s.come f) :
    TsI n c noX (minS (wayS s (l ++ [v])) v (s.first f)) := by
  have hf : f ∈ s.way := by rw [hl]; simp
  have hv : v ∈ s.way := by rw [hl]; simp
  have hfo := H.wyI f hf
  have hvo := H.wyI v hv
  have mw : ∀ a, a ∈ s.way ↔ a ∈ l ++ [v] ∨ a = f := fun a => by rw [hl]; simp [or_assoc]
  have hlow : ∀ a ∈ l ++ [v], s.come a < s.come f := last_max (hl ▸ H.wyS)
  have hvf : s.come v < s.come f := hlow v (by simp)
  have hlv : ∀ a ∈ l ++ [v], s.come a ≤ s.come v := fun a ha => by
    have := H.wyS
    rw [hl, List.pairwise_append] at this
    rcases List.mem_append.1 ha with k | k
    · exact Nat.le_of_lt (last_max this.1 a k)
    · rw [List.mem_singleton.1 k]; exact Nat.le_refl _
  obtain ⟨u, hu1, hu2, hu3⟩ := H.ahead (l := l ++ [v]) (by rw [hl]) hff
  have fe : (minS (wayS s (l ++ [v])) v (s.first f)).first v = min (s.first v) (s.first f) := updN_here _ _ _
  have fn : ∀ a, a ≠ v → (minS (wayS s (l ++ [v])) v (s.first f)).first a = s.first a := fun a h => updN_else _ _ h
  have fle : ∀ a, (minS (wayS s (l ++ [v])) v (s.first f)).first a ≤ s.first a := fun a => by
    by_cases e : a = v
    · subst e; rw [fe]; omega
    · rw [fn a e]; omega
  refine ⟨H.lt, H.mn, H.cm, H.inj, H.opS, H.opI, ?_, fun a ha => H.wyI a ((mw a).2 (.inl ha)), H.lf, H.lfs, H.lf0, fun a ha hn => ?_, H.dn, H.dn0, fun a ha hn => ?_, fun a ha => ?_, fun w hw a ha h1 => H.wr w ((mw w).2 (.inl hw)) a ha h1, fun a ha hn => ?_, fun w hw a ha h1 h2 h hh => ?_, H.rg, H.sz, by show (l ++ [v]).length ≤ s.many; have := H.wz; rw [hl] at this; simp at this ⊢; omega⟩
  · have := H.wyS
    rw [hl, List.pairwise_append] at this
    exact this.1
  · by_cases e : a = f
    · rw [e]; exact hlf
    · exact H.lfw a ha fun k => by
        rcases (mw a).1 k with k | k
        · exact hn k
        · exact e k
  · rw [fn a (fun e => by subst e; exact hn hvo)]; exact H.ft a ha hn
  · by_cases e : a = v
    · subst e
      obtain ⟨b, h1, h2, h3, h4⟩ := H.fo a ha
      rw [fe]
      by_cases k : s.first a ≤ s.first f
      · exact ⟨b, h1, by rw [Nat.min_eq_left k]; exact h2, h3, h4⟩
      · obtain ⟨d, h5, h6, h7, h8⟩ := H.fo f hfo
        exact ⟨d, h5, by rw [Nat.min_eq_right (by omega)]; exact h6, (H.wr a hv f hfo (Nat.le_of_lt hvf)).trans h7, by show s.come d ≤ s.come a; omega⟩
    · rw [fn a e]; exact H.fo a ha
  · by_cases e : a = f
    · subst e; exact ⟨u, hu1, hu2, hu3⟩
    · obtain ⟨w, h1, h2, h3⟩ := H.bk a ha fun k => by
        rcases (mw a).1 k with k | k
        · exact hn k
        · exact e k
      rcases (mw w).1 h1 with k | k
      · exact ⟨w, k, h2, h3⟩
      · subst k; exact ⟨u, hu1, by show s.come u < s.come a; omega, h3.trans hu3⟩
  · by_cases k : s.come f ≤ s.come a
    · have hwv : w = v := H.inj w v (H.opI w (H.wyI w ((mw w).2 (.inl hw)))) (Nat.le_antisymm (hlv w hw) (h2 v (List.mem_append_right _ (List.mem_singleton.2 rfl)) (by show s.come v ≤ s.come a; omega)))
      subst hwv
      rcases H.lk f hf a ha k (fun x hx _ => by
        rcases (mw x).1 hx with q | q
        · exact Nat.le_of_lt (hlow x q)
        · rw [q]; exact Nat.le_refl _) h hh with q | q | q
      · exact .inl q
      · exact q.elim
      · refine .inr (.inr fun h3 => ?_)
        have := q h3
        show _ ≤ s.come h
        rw [fe]; omega
    · rcases H.lk w ((mw w).2 (.inl hw)) a ha h1 (fun x hx h3 => by
        rcases (mw x).1 hx with q | q
        · exact h2 x q h3
        · subst q; exact absurd h3 k) h hh with q | q | q
      · exact .inl q
      · exact q.elim
      · exact .inr (.inr fun h3 => Nat.le_trans (fle w) (q h3))

/-- All rings of so many functions. -/
structure RgA (n : Nat) (c : Nat → List Nat) (rs : List (List Nat)) : Prop where
  o : RgO c rs
  all : ∀ f, f < n ↔ ∃ r ∈ rs, f ∈ r
  few : rs.length ≤ n
theorem TsI.nil {n : Nat} {c : Nat → List Nat} {s : TsS} (H : TsI n c noX s) (hw : s.way = []) : s.op = [] := by
  rcases hp : s.op with _ | ⟨a, p⟩
  · rfl
  · obtain ⟨w, h, _⟩ := H.bk a (by rw [hp]; simp) (by rw [hw]; simp)
    rw [hw] at h; simp at h
theorem TsI.rings_ {n : Nat} {c : Nat → List Nat} {s : TsS} (H : TsI n c noX s) (hw : s.way = []) (hall : ∀ f, f < n → s.come f ≠ 0) : RgA n c s.rings := by
  have ho := H.nil hw
  refine ⟨H.rg, fun f => ⟨fun h => (H.dn f (hall f h)).1 (fun k => by rw [ho] at k; cases k), fun ⟨r, h1, h2⟩ => H.lt f (H.dn0 r h1 f h2)⟩, by have := H.sz; have := H.many_le; omega⟩
end Go.Proofs.Ytdfiflbkamhchaa
