/- Which places one can't come by without, the way of Lengauer and Tarjan, in mathematics. No condition. -/
namespace Go.Proofs.Ytooblmiffgjmjaa
set_option linter.unusedVariables false

/-! ### A tree of places, and the edges besides -/
inductive AncP (par : Nat → Nat) (a : Nat) : Nat → Prop
  | refl : AncP par a a
  | step {v : Nat} : 0 < v → AncP par a (par v) → AncP par a v
/-- From z on, so that whatever comes behind it isn't below lo. -/
inductive WayP (E : Nat → Nat → Prop) (z lo : Nat) : Nat → Prop
  | one {v : Nat} : E z v → lo ≤ v → WayP E z lo v
  | step {u v : Nat} : WayP E z lo u → E u v → lo ≤ v → WayP E z lo v
/-- From the first place, without going by d. -/
inductive AvP (E : Nat → Nat → Prop) (d : Nat) : Nat → Prop
  | zero : 0 ≠ d → AvP E d 0
  | step {u v : Nat} : AvP E d u → E u v → v ≠ d → AvP E d v
structure TreeP (n : Nat) (E : Nat → Nat → Prop) (par : Nat → Nat) : Prop where
  lt : ∀ u v, E u v → u < n ∧ v < n
  par_lt : ∀ v, 0 < v → v < n → par v < v
  par_e : ∀ v, 0 < v → v < n → E (par v) v
  up : ∀ u v, E u v → u < v → AncP par u v
  mid : ∀ a b c, AncP par a c → c < n → a ≤ b → b ≤ c → AncP par a b

variable {n : Nat} {E : Nat → Nat → Prop} {par : Nat → Nat}
theorem AncP.trans {a b c : Nat} (h : AncP par a b) (k : AncP par b c) : AncP par a c := by
  induction k with
  | refl => exact h
  | step h0 _ ih => exact .step h0 ih
theorem TreeP.anc_le (T : TreeP n E par) {a c : Nat} (h : AncP par a c) (hc : c < n) : a ≤ c := by
  induction h with
  | refl => exact Nat.le_refl _
  | step h0 _ ih =>
    have := T.par_lt _ h0 hc
    have := ih (by omega)
    omega
theorem TreeP.root (T : TreeP n E par) : ∀ c, c < n → AncP par 0 c := by
  intro c
  induction c using Nat.strongRecOn with
  | _ c ih =>
    intro hc
    by_cases h : c = 0
    · subst h; exact .refl
    · have := T.par_lt c (by omega) hc
      exact .step (by omega) (ih _ this (by omega))
/-- Of two above one the earlier is above the other. -/
theorem TreeP.both (T : TreeP n E par) {a b c : Nat} (h : AncP par a c) (k : AncP par b c) (hc : c < n) (hab : a ≤ b) : AncP par a b := T.mid a b c h hc hab (T.anc_le k hc)
theorem WayP.mono {z lo lo' v : Nat} (h : WayP E z lo v) (hl : lo' ≤ lo) : WayP E z lo' v := by
  induction h with
  | one h1 h2 => exact .one h1 (by omega)
  | step _ h1 h2 ih => exact .step ih h1 (by omega)
theorem WayP.ge {z lo v : Nat} (h : WayP E z lo v) : lo ≤ v := by
  cases h with
  | one _ h => exact h
  | step _ _ h => exact h
theorem TreeP.way_down (T : TreeP n E par) {z lo x u : Nat} (h : WayP E z lo x) (k : AncP par x u) (hu : u < n) : WayP E z lo u := by
  induction k with
  | refl => exact h
  | @step v h0 k ih =>
    have hp := T.par_lt _ h0 hu
    exact .step (ih (by omega)) (T.par_e _ h0 hu) (by have := T.anc_le (.step h0 k) hu; have := h.ge; omega)
theorem TreeP.av_down (T : TreeP n E par) {d x u : Nat} (h : AvP E d x) (k : AncP par x u) (hu : u < n) (hd : d < x) : AvP E d u := by
  induction k with
  | refl => exact h
  | @step v h0 k ih =>
    have hp := T.par_lt _ h0 hu
    exact .step (ih (by omega)) (T.par_e _ h0 hu) (by have := T.anc_le (.step h0 k) hu; omega)
theorem TreeP.av_tree (T : TreeP n E par) {d : Nat} : ∀ u, u < n → ¬ AncP par d u → AvP E d u := by
  intro u
  induction u using Nat.strongRecOn with
  | _ u ih =>
    intro hu hd
    by_cases h : u = 0
    · subst h; exact .zero fun e => hd (e ▸ .refl)
    · have hp := T.par_lt u (by omega) hu
      refine .step (ih _ hp (by omega) fun k => hd (.step (by omega) k)) (T.par_e u (by omega) hu) fun e => hd (e ▸ .refl)
theorem WayP.av {d z lo v : Nat} (h : WayP E z lo v) (hz : AvP E d z) (hd : d < lo) : AvP E d v := by
  induction h with
  | one h1 h2 => exact .step hz h1 (by omega)
  | step _ h1 h2 ih => exact .step ih h1 (by omega)

/-- What leads to w from z by places behind w alone. -/
def ByP (E : Nat → Nat → Prop) (z w : Nat) : Prop := E z w ∨ ∃ u, WayP E z (w + 1) u ∧ E u w
theorem ByP.way {z w lo : Nat} (h : ByP E z w) (hl : lo ≤ w) : WayP E z lo w := by
  rcases h with h | ⟨u, h, k⟩
  · exact .one h hl
  · exact .step (h.mono (by omega)) k hl
theorem TreeP.least (T : TreeP n E par) {z lo v : Nat} (h : WayP E z lo v) : ∃ y, lo ≤ y ∧ AncP par y v ∧ ByP E z y ∧ WayP E z y v := by
  induction h with
  | @one v h1 h2 => exact ⟨v, h2, .refl, .inl h1, .one h1 (Nat.le_refl _)⟩
  | @step u v h1 h2 h3 ih =>
    obtain ⟨y, hy, ha, hb, hw⟩ := ih
    have hlt := T.lt _ _ h2
    by_cases h4 : u < v
    · exact ⟨y, hy, ha.trans (T.up _ _ h2 h4), hb, .step hw h2 (by have := hw.ge; omega)⟩
    · by_cases h5 : y ≤ v
      · exact ⟨y, hy, T.mid _ _ _ ha hlt.1 h5 (by omega), hb, .step hw h2 h5⟩
      · exact ⟨v, h3, .refl, .inr ⟨u, hw.mono (by omega), h2⟩, .step (hw.mono (by omega)) h2 (Nat.le_refl _)⟩

/-! ### The early ones, and the nearest -/
/-- What the early ones are reckoned by. -/
structure EarlyP (L n : Nat) (E : Nat → Nat → Prop) (par s : Nat → Nat) : Prop where
  here : ∀ w u, L ≤ w → E u w → u ≤ w → s w ≤ u
  chain : ∀ w u x, L ≤ w → E u w → AncP par x u → w < x → s w ≤ s x
  found : ∀ w, L ≤ w → w < n → (∃ u, E u w ∧ u < w ∧ s w = u) ∨ ∃ u x, E u w ∧ AncP par x u ∧ w < x ∧ s w = s x
  pos : 0 < L
variable {s : Nat → Nat} {L : Nat}
theorem EarlyP.lt (T : TreeP n E par) (S : EarlyP L n E par s) {w : Nat} (h0 : L ≤ w) (hw : w < n) : s w < w := by
  have hp := S.pos
  have h := S.here w _ h0 (T.par_e w (by omega) hw) (Nat.le_of_lt (T.par_lt w (by omega) hw))
  have := T.par_lt w (by omega) hw
  omega
theorem EarlyP.by (T : TreeP n E par) (S : EarlyP L n E par s) : ∀ (k w : Nat), n - w ≤ k → L ≤ w → w < n → ByP E (s w) w := by
  intro k
  induction k with
  | zero => intro w h1 _ h2; omega
  | succ k ih =>
    intro w hk h0 hw
    rcases S.found w h0 hw with ⟨u, h1, h2, h3⟩ | ⟨u, x, h1, h2, h3, h4⟩
    · rw [h3]; exact .inl h1
    · have hu := (T.lt _ _ h1).1
      have hx := T.anc_le h2 hu
      have := ih x (by omega) (by omega) (by omega)
      rw [h4]
      exact .inr ⟨u, T.way_down (this.way (by omega)) h2 hu, h1⟩
theorem EarlyP.le_by (T : TreeP n E par) (S : EarlyP L n E par s) : ∀ (k w z : Nat), n - w ≤ k → L ≤ w → w < n → ByP E z w → s w ≤ z := by
  intro k
  induction k with
  | zero => intro w z h1 _ h2; omega
  | succ k ih =>
    intro w z hk h0 hw hb
    rcases hb with h | ⟨u, h1, h2⟩
    · by_cases hz : z ≤ w
      · exact S.here w z h0 h hz
      · have h1 := S.chain w z z h0 h .refl (by omega)
        have h2 := S.lt T (w := z) (by omega) (T.lt _ _ h).1
        omega
    · obtain ⟨y, hy, ha, hb, -⟩ := T.least h1
      have hu := (T.lt _ _ h2).1
      have hyu := T.anc_le ha hu
      have h3 := ih y z (by omega) (by omega) (by omega) hb
      have h4 := S.chain w u y h0 h2 ha (by omega)
      omega
/-- An early one is above. -/
theorem EarlyP.anc (T : TreeP n E par) (S : EarlyP L n E par s) {w : Nat} (h0 : L ≤ w) (hw : w < n) : AncP par (s w) w := by
  have hlt := S.lt T h0 hw
  rcases S.by T _ w (Nat.le_refl _) h0 hw with h | ⟨u, h1, h2⟩
  · exact T.up _ _ h hlt
  · have key : ∀ u, WayP E (s w) (w + 1) u → AncP par (s w) u ∧ w < u := by
      intro u h
      induction h with
      | @one v h3 h4 => exact ⟨T.up _ _ h3 (by omega), by omega⟩
      | @step a b h3 h4 h5 ih =>
        refine ⟨?_, by omega⟩
        by_cases h6 : a < b
        · exact ih.1.trans (T.up _ _ h4 h6)
        · exact T.mid _ _ _ ih.1 (T.lt _ _ h4).1 (by omega) (by omega)
    obtain ⟨h3, h4⟩ := key u h1
    exact T.mid _ _ _ h3 (T.lt _ _ h2).1 (by omega) (by omega)

/-- What the nearest are reckoned by. -/
def NearP (n : Nat) (par s D : Nat → Nat) : Prop := ∀ w, 0 < w → w < n → ∃ x, AncP par x w ∧ s w < x ∧ (∀ y, AncP par y w → s w < y → s x ≤ s y) ∧ ((s x = s w ∧ D w = s w) ∨ (s x < s w ∧ x < w ∧ D w = D x))
variable {D : Nat → Nat}
theorem near_le (T : TreeP n E par) (S : EarlyP 1 n E par s) (N : NearP n par s D) : ∀ w, 0 < w → w < n → D w ≤ s w := by
  intro w
  induction w using Nat.strongRecOn with
  | _ w ih =>
    intro h0 hw
    obtain ⟨x, h1, h2, h3, ⟨h4, h5⟩ | ⟨h4, h5, h6⟩⟩ := N w h0 hw
    · omega
    · have := ih x h5 (by omega) (by omega); omega
theorem near_anc (T : TreeP n E par) (S : EarlyP 1 n E par s) (N : NearP n par s D) : ∀ w, 0 < w → w < n → AncP par (D w) w := by
  intro w
  induction w using Nat.strongRecOn with
  | _ w ih =>
    intro h0 hw
    obtain ⟨x, h1, h2, h3, ⟨h4, h5⟩ | ⟨h4, h5, h6⟩⟩ := N w h0 hw
    · rw [h5]; exact S.anc T h0 hw
    · rw [h6]; exact (ih x h5 (by omega) (by omega)).trans h1
theorem av_last {d v : Nat} (h : AvP E d v) : v < d ∨ ∃ z, z < d ∧ AvP E d z ∧ WayP E z (d + 1) v := by
  induction h with
  | zero h => left; omega
  | @step u v h1 h2 h3 ih =>
    rcases Nat.lt_or_ge v d with h | h
    · exact .inl h
    · right
      rcases ih with h4 | ⟨z, h4, h5, h6⟩
      · exact ⟨u, h4, h1, .one h2 (by omega)⟩
      · exact ⟨z, h4, h5, .step h6 h2 (by omega)⟩
/-- One can't come by without the nearest. -/
theorem near_sound (T : TreeP n E par) (S : EarlyP 1 n E par s) (N : NearP n par s D) : ∀ w, 0 < w → w < n → ¬ AvP E (D w) w := by
  intro w
  induction w using Nat.strongRecOn with
  | _ w ih =>
    intro h0 hw hav
    have hDs := near_le T S N w h0 hw
    have hsw := S.lt T h0 hw
    rcases av_last hav with h | ⟨z, hz, hza, hzw⟩
    · omega
    · obtain ⟨y, hy, hay, hby, -⟩ := T.least hzw
      have hyw := T.anc_le hay hw
      have hsy := S.le_by T _ y z (Nat.le_refl _) (by omega) (by omega) hby
      have hyav : AvP E (D w) y := (hby.way (lo := D w + 1) hy).av hza (by omega)
      obtain ⟨x, h1, h2, h3, ⟨h4, h5⟩ | ⟨h4, h5, h6⟩⟩ := N w h0 hw
      · have := h3 y hay (by omega); omega
      · have hDx := near_le T S N x (by omega) (by omega)
        by_cases hys : s w < y
        · have := h3 y hay hys; omega
        · have hyx : AncP par y x := T.both hay h1 hw (by omega)
          exact ih x h5 (by omega) (by omega) (h6 ▸ T.av_down hyav hyx (by omega) (by omega))
/-- One can come by without what lies between. -/
theorem near_full (T : TreeP n E par) (S : EarlyP 1 n E par s) (N : NearP n par s D) : ∀ w, 0 < w → w < n → ∀ v, D w < v → v < w → AvP E v w := by
  intro w
  induction w using Nat.strongRecOn with
  | _ w ih =>
    intro h0 hw v hv hvw
    have hsw := S.lt T h0 hw
    have hs : s w < v → AvP E v w := fun h => by
      have h1 : AvP E v (s w) := T.av_tree _ (by omega) fun k => by have := T.anc_le k (by omega); omega
      rcases S.by T _ w (Nat.le_refl _) h0 hw with h2 | ⟨u, h2, h3⟩
      · exact .step h1 h2 (by omega)
      · exact .step (h2.av h1 (by omega)) h3 (by omega)
    obtain ⟨x, h1, h2, h3, ⟨h4, h5⟩ | ⟨h4, h5, h6⟩⟩ := N w h0 hw
    · exact hs (by omega)
    · by_cases hx : v < x
      · exact T.av_down (ih x h5 (by omega) (by omega) v (by omega) hx) h1 hw hx
      · exact hs (by omega)

/-! ### Which dominate which -/
theorem av_self {d : Nat} : ∀ {v}, AvP E d v → v ≠ d := by
  intro v h
  cases h with
  | zero h => exact h
  | step _ _ h => exact h
theorem av_split {a b v : Nat} (h : AvP E a v) : AvP E b v ∨ AvP E a b := by
  induction h with
  | zero h =>
    by_cases e : 0 = b
    · right; rw [← e]; exact .zero h
    · exact .inl (.zero e)
  | @step u v h1 h2 h3 ih =>
    rcases ih with h4 | h4
    · by_cases e : v = b
      · right; rw [← e]; exact .step h1 h2 h3
      · exact .inl (.step h4 h2 e)
    · exact .inr h4
theorem dom_trans {a b c : Nat} (h : ¬ AvP E a b) (k : ¬ AvP E b c) : ¬ AvP E a c := fun h2 => by
  rcases av_split (b := b) h2 with h3 | h3
  · exact k h3
  · exact h h3
theorem dom_le (T : TreeP n E par) {a b : Nat} (hb : b < n) (h : ¬ AvP E a b) : a ≤ b := by
  apply Classical.byContradiction
  intro h2
  exact h (T.av_tree b hb fun k => by have := T.anc_le k hb; omega)
theorem dom_near (T : TreeP n E par) (S : EarlyP 1 n E par s) (N : NearP n par s D) {a w : Nat} (h0 : 0 < w) (hw : w < n) (h : ¬ AvP E a w) (hne : a ≠ w) : ¬ AvP E a (D w) := by
  have hle := dom_le T hw h
  have hDw := near_anc T S N w h0 hw
  have hDl := T.anc_le hDw hw
  have h2 : a ≤ D w := by
    apply Classical.byContradiction
    intro h3
    exact h (near_full T S N w h0 hw a (by omega) (by omega))
  intro h3
  have := av_self h3
  exact h (T.av_down h3 hDw hw (by omega))
end Go.Proofs.Ytooblmiffgjmjaa
