/- The early ones, and the nearest, as they are reckoned place by place, in mathematics. No condition. -/
import Derived.Test.YtooblmiffgjmjaaDmT
namespace Go.Proofs.Ytooblmiffgjmjaa
set_option linter.unusedVariables false

/-! ### Places that hang below others -/
/-- Places from L on hang below others; of each the one with the earliest early one, up to there. -/
structure GrvI (par : Nat → Nat) (k L : Nat) (early least : Nat → Nat) (above : Nat → Int) : Prop where
  lo : ∀ v, v < L → v < k → above v = -1 ∧ least v = v
  hi : ∀ v, L ≤ v → v < k → ∃ a : Nat, above v = (a : Int) ∧ a < v ∧ AncP par a v ∧ (∀ y, AncP par y v → a < y → L ≤ y) ∧ AncP par (least v) v ∧ a < least v ∧ ∀ y, AncP par y v → a < y → early (least v) ≤ early y
/-- The one with the earliest early one, above one, that hangs. -/
def BestP (par : Nat → Nat) (L : Nat) (early : Nat → Nat) (v x : Nat) : Prop := (v < L ∧ x = v) ∨ (L ≤ v ∧ AncP par x v ∧ L ≤ x ∧ ∀ y, AncP par y v → L ≤ y → early x ≤ early y)

variable {n k L : Nat} {E : Nat → Nat → Prop} {par early least : Nat → Nat} {above : Nat → Int}
theorem GrvI.start (par : Nat → Nat) (k : Nat) (early : Nat → Nat) : GrvI par k k early (fun v => v) (fun _ => -1) :=
  ⟨fun _ _ _ => ⟨rfl, rfl⟩, fun v h1 h2 => by omega⟩
theorem GrvI.least_lt (T : TreeP k E par) (G : GrvI par k L early least above) {v : Nat} (hv : v < k) : least v < k := by
  by_cases h : v < L
  · rw [(G.lo v h hv).2]; exact hv
  · obtain ⟨a, _, _, _, _, h5, _⟩ := G.hi v (by omega) hv
    have := T.anc_le h5 hv; omega
theorem GrvI.best (G : GrvI par k L early least above) {v : Nat} (hv : v < k) (hr : above v < (L : Int)) : BestP par L early v (least v) := by
  by_cases h : v < L
  · exact .inl ⟨h, (G.lo v h hv).2⟩
  · obtain ⟨a, h1, h2, h3, h4, h5, h6, h7⟩ := G.hi v (by omega) hv
    exact .inr ⟨by omega, h5, h4 _ h5 h6, fun y hy hL => h7 y hy (by omega)⟩
theorem GrvI.hang (T : TreeP k E par) (G : GrvI par k L early least above) {p q : Nat} {r : Int} (hp : L ≤ p) (hpk : p < k) (hq : above p = (q : Int)) (hqL : L ≤ q) (hr : above q = r) :
    GrvI par k L early (updF least p (if early (least q) < early (least p) then least q else least p)) (updF above p r) := by
  refine ⟨fun v h1 h2 => ?_, fun v h1 h2 => ?_⟩
  · rw [updF_else _ _ (by omega), updF_else _ _ (by omega)]; exact G.lo v h1 h2
  · by_cases e : v = p
    · subst e
      rw [updF_here, updF_here]
      obtain ⟨a, a1, a2, a3, a4, a5, a6, a7⟩ := G.hi v h1 h2
      obtain rfl : a = q := by omega
      obtain ⟨b, b1, b2, b3, b4, b5, b6, b7⟩ := G.hi a hqL (by omega)
      refine ⟨b, by omega, by omega, b3.trans a3, fun y hy hby => ?_, ?_, ?_, fun y hy hby => ?_⟩
      · by_cases hay : a < y
        · exact a4 y hy hay
        · exact b4 y (T.both hy a3 h2 (by omega)) hby
      · split
        · exact b5.trans a3
        · exact a5
      · split <;> omega
      · by_cases hay : a < y
        · have := a7 y hy hay
          split <;> omega
        · have := b7 y (T.both hy a3 h2 (by omega)) hby
          split <;> omega
    · rw [updF_else _ _ e, updF_else _ _ e]; exact G.hi v h1 h2
theorem GrvI.congr {early' : Nat → Nat} (G : GrvI par k L early least above) (he : ∀ v, L ≤ v → early' v = early v) : GrvI par k L early' least above := by
  refine ⟨G.lo, fun v h1 h2 => ?_⟩
  obtain ⟨a, a1, a2, a3, a4, a5, a6, a7⟩ := G.hi v h1 h2
  refine ⟨a, a1, a2, a3, a4, a5, a6, fun y hy hay => ?_⟩
  rw [he _ (a4 _ a5 a6), he _ (a4 y hy hay)]; exact a7 y hy hay
theorem GrvI.link (T : TreeP k E par) {P : Nat} (G : GrvI par k (P + 1) early least above) (h0 : 0 < P) (hP : P < k) : GrvI par k P early least (updF above P (par P : Int)) := by
  refine ⟨fun v h1 h2 => ?_, fun v h1 h2 => ?_⟩
  · rw [updF_else _ _ (by omega)]; exact G.lo v (by omega) h2
  · by_cases e : v = P
    · subst e
      rw [updF_here, (G.lo v (by omega) h2).2]
      have hp := T.par_lt v h0 hP
      have key : ∀ y, AncP par y v → par v < y → y = v := fun y hy hlt => by
        cases hy with
        | refl => rfl
        | step _ hy => have := T.anc_le hy (by omega); omega
      exact ⟨par v, rfl, hp, .step h0 .refl, fun y hy hlt => by rw [key y hy hlt]; exact Nat.le_refl _, .refl, hp, fun y hy hlt => by rw [key y hy hlt]; exact Nat.le_refl _⟩
    · rw [updF_else _ _ e]
      obtain ⟨a, a1, a2, a3, a4, a5, a6, a7⟩ := G.hi v (by omega) h2
      exact ⟨a, a1, a2, a3, fun y hy hay => by have := a4 y hy hay; omega, a5, a6, a7⟩

/-! ### The early one of a place -/
/-- What e is, of those that lead to P. -/
structure PredP (par early : Nat → Nat) (P : Nat) (l : List Nat) (e : Nat) : Prop where
  here : ∀ u ∈ l, u ≤ P → e ≤ u
  chain : ∀ u ∈ l, ∀ x, AncP par x u → P < x → e ≤ early x
  found : e = P ∨ (∃ u, u ∈ l ∧ u < P ∧ e = u) ∨ ∃ u x, u ∈ l ∧ AncP par x u ∧ P < x ∧ e = early x
theorem PredP.start (par early : Nat → Nat) (P : Nat) : PredP par early P [] P := ⟨fun u h => (by cases h), fun u h => (by cases h), .inl rfl⟩
theorem PredP.le {P e : Nat} {l : List Nat} (h : PredP par early P l e) (T : TreeP k E par) (hr : ∀ u ∈ l, u < k) (hf : ∀ w, P < w → w < k → early w ≤ k) (hP : P < k) : e ≤ k := by
  rcases h.found with h1 | ⟨u, h1, h2, h3⟩ | ⟨u, x, h1, h2, h3, h4⟩
  · omega
  · omega
  · have := T.anc_le h2 (hr u h1)
    have := hr u h1
    rw [h4]; exact hf x h3 (by omega)
theorem PredP.step {P e u b : Nat} {l : List Nat} (T : TreeP k E par) (h : PredP par early P l e) (hf : ∀ v, v < P → early v = v) (hu : u < k) (hb : BestP par (P + 1) (updF early P e) u b) (heP : e ≤ P) :
    PredP par early P (l ++ [u]) (min e (updF early P e b)) := by
  have hmem : ∀ {x : Nat}, x ∈ l ++ [u] → x ∈ l ∨ x = u := fun hx => by simpa using hx
  rcases hb with ⟨h1, rfl⟩ | ⟨h1, h2, h3, h4⟩
  · by_cases hbP : b = P
    · subst hbP
      rw [updF_here, Nat.min_self]
      refine ⟨fun x hx hxP => ?_, fun x hx y hy hPy => ?_, ?_⟩
      · rcases hmem hx with hx | rfl
        · exact h.here x hx hxP
        · exact heP
      · rcases hmem hx with hx | rfl
        · exact h.chain x hx y hy hPy
        · have := T.anc_le hy hu; omega
      · rcases h.found with h5 | ⟨x, h5, h6⟩ | ⟨x, y, h5, h6⟩
        · exact .inl h5
        · exact .inr (.inl ⟨x, by simp [h5], h6⟩)
        · exact .inr (.inr ⟨x, y, by simp [h5], h6⟩)
    · have hbl : b < P := by omega
      rw [updF_else _ _ hbP, hf b hbl]
      refine ⟨fun x hx hxP => ?_, fun x hx y hy hPy => ?_, ?_⟩
      · rcases hmem hx with hx | rfl
        · have := h.here x hx hxP; omega
        · omega
      · rcases hmem hx with hx | rfl
        · have := h.chain x hx y hy hPy; omega
        · have := T.anc_le hy hu; omega
      · by_cases hle : e ≤ b
        · rw [Nat.min_eq_left hle]
          rcases h.found with h5 | ⟨x, h5, h6⟩ | ⟨x, y, h5, h6⟩
          · exact .inl h5
          · exact .inr (.inl ⟨x, by simp [h5], h6⟩)
          · exact .inr (.inr ⟨x, y, by simp [h5], h6⟩)
        · rw [Nat.min_eq_right (by omega)]
          exact .inr (.inl ⟨b, by simp, hbl, rfl⟩)
  · rw [updF_else _ _ (by omega)]
    have hby : ∀ y, AncP par y u → P < y → early b ≤ early y := fun y hy hPy => by
      have := h4 y hy (by omega)
      rwa [updF_else _ _ (by omega), updF_else _ _ (by omega)] at this
    refine ⟨fun x hx hxP => ?_, fun x hx y hy hPy => ?_, ?_⟩
    · rcases hmem hx with hx | rfl
      · have := h.here x hx hxP; omega
      · omega
    · rcases hmem hx with hx | rfl
      · have := h.chain x hx y hy hPy; omega
      · have := hby y hy hPy; omega
    · by_cases hle : e ≤ early b
      · rw [Nat.min_eq_left hle]
        rcases h.found with h5 | ⟨x, h5, h6⟩ | ⟨x, y, h5, h6⟩
        · exact .inl h5
        · exact .inr (.inl ⟨x, by simp [h5], h6⟩)
        · exact .inr (.inr ⟨x, y, by simp [h5], h6⟩)
      · rw [Nat.min_eq_right (by omega)]
        exact .inr (.inr ⟨u, b, by simp, h2, by omega, rfl⟩)
theorem PredP.done {P e : Nat} {l : List Nat} (T : TreeP k E par) (h : PredP par early P l e) (hl : ∀ u, u ∈ l ↔ E u P) (S : EarlyP (P + 1) k E par early) (h0 : 0 < P) (hP : P < k) : e < P ∧ EarlyP P k E par (updF early P e) := by
  have hp := T.par_lt P h0 hP
  have he := h.here (par P) ((hl _).2 (T.par_e P h0 hP)) (by omega)
  refine ⟨by omega, ⟨fun w u hw hE hu => ?_, fun w u x hw hE hx hwx => ?_, fun w hw hwk => ?_, h0⟩⟩
  · by_cases e1 : w = P
    · subst e1; rw [updF_here]; exact h.here u ((hl u).2 hE) hu
    · rw [updF_else _ _ e1]; exact S.here w u (by omega) hE hu
  · rw [updF_else early e (show x ≠ P by omega)]
    by_cases e1 : w = P
    · subst e1; rw [updF_here]; exact h.chain u ((hl u).2 hE) x hx hwx
    · rw [updF_else _ _ e1]; exact S.chain w u x (by omega) hE hx hwx
  · by_cases e1 : w = P
    · subst e1
      rw [updF_here]
      rcases h.found with h5 | ⟨x, h5, h6⟩ | ⟨x, y, h5, h6, h7, h8⟩
      · omega
      · exact .inl ⟨x, (hl x).1 h5, h6⟩
      · exact .inr ⟨x, y, (hl x).1 h5, h6, h7, by rw [updF_else _ _ (by omega)]; exact h8⟩
    · rw [updF_else _ _ e1]
      rcases S.found w (by omega) hwk with h5 | ⟨x, y, h5, h6, h7, h8⟩
      · exact .inl h5
      · exact .inr ⟨x, y, h5, h6, h7, by rw [updF_else _ _ (by omega)]; exact h8⟩

/-! ### The nearest, at first -/
def HandP (par : Nat → Nat) (L : Nat) (early near : Nat → Nat) (w : Nat) : Prop := ∃ x, AncP par x w ∧ early w < x ∧ (∀ y, AncP par y w → early w < y → L ≤ y ∧ early x ≤ early y) ∧ ((early x = early w ∧ near w = early w) ∨ (early x < early w ∧ near w = x))
structure NrI (k L : Nat) (E : Nat → Nat → Prop) (par early near : Nat → Nat) (W : Nat → List Nat) : Prop where
  fresh : ∀ v, v < L → early v = v
  ear : EarlyP L k E par early
  wait : ∀ s, ∀ w ∈ W s, L ≤ w ∧ w < k ∧ early w = s ∧ ∀ c, L ≤ c → par c = s → ¬ AncP par c w
  got : ∀ w, L ≤ w → w < k → w ∈ W (early w) ∨ HandP par L early near w
  zero : near 0 = 0
  few : ∀ s, (W s).length + L ≤ k
variable {near : Nat → Nat} {W : Nat → List Nat}
theorem NrI.start (E : Nat → Nat → Prop) (par : Nat → Nat) (k : Nat) (h0 : 0 < k) (hE : ∀ u v, E u v → v < k) : NrI k k E par (fun v => v) (fun _ => 0) (fun _ => []) :=
  ⟨fun _ _ => rfl, ⟨fun w u h1 h2 => (by have := hE _ _ h2; omega), fun w u x h1 h2 => (by have := hE _ _ h2; omega), fun w h1 h2 => (by omega), h0⟩, fun s w h => (by cases h), fun w h1 h2 => (by omega), rfl, fun s => (by simp)⟩
/-- The child on the way down. -/
theorem anc_child {a v : Nat} (h : AncP par a v) : a = v ∨ ∃ c, par c = a ∧ 0 < c ∧ AncP par c v := by
  induction h with
  | refl => exact .inl rfl
  | @step v h1 h2 ih =>
    right
    rcases ih with h | ⟨c, h3, h4, h5⟩
    · exact ⟨v, h.symm, h1, .refl⟩
    · exact ⟨c, h3, h4, .step h1 h5⟩
/-- Those that wait for a place's parent are below the place. -/
theorem wait_below {P w : Nat} (T : TreeP k E par) (S : EarlyP P k E par early) (h0 : 0 < P) (hP : P < k) (hw : P ≤ w) (hwk : w < k) (he : early w = par P) (hc : ∀ c, P + 1 ≤ c → par c = par P → ¬ AncP par c w) : AncP par P w := by
  have hlt := S.lt T hw hwk
  have ha := S.anc T hw hwk
  rw [he] at ha hlt
  rcases anc_child ha with h | ⟨c, h1, h2, h3⟩
  · omega
  · have hcw := T.anc_le h3 hwk
    have hcl := T.par_lt c h2 (by omega)
    have hPl := T.par_lt P h0 hP
    by_cases h4 : P < c
    · exact absurd h3 (hc c h4 h1)
    · have h5 : AncP par c P := T.mid c P w h3 hwk (by omega) hw
      cases h5 with
      | refl => exact h3
      | step _ h6 => have := T.anc_le h6 (by omega); omega
/-- One that waited is handled. -/
theorem hand_of {P w x : Nat} (T : TreeP k E par) (S : EarlyP P k E par early) (h0 : 0 < P) (hP : P < k) (hw : P ≤ w) (hwk : w < k) (he : early w = par P) (hc : ∀ c, P + 1 ≤ c → par c = par P → ¬ AncP par c w) (hb : BestP par P early w x) (near : Nat → Nat) (hn : near w = if early x < par P then x else par P) : HandP par P early near w := by
  have hbw := wait_below T S h0 hP hw hwk he hc
  have hPl := T.par_lt P h0 hP
  rcases hb with ⟨h1, _⟩ | ⟨_, h2, h3, h4⟩
  · omega
  · have hx := h4 w .refl hw
    have hyP : ∀ y, AncP par y w → early w < y → P ≤ y := fun y hy hly => by
      apply Classical.byContradiction
      intro h5
      have h6 := T.both hy hbw hwk (by omega)
      cases h6 with
      | refl => omega
      | step _ h7 => have := T.anc_le h7 (by omega); omega
    refine ⟨x, h2, by omega, fun y hy hly => ⟨hyP y hy hly, h4 y hy (hyP y hy hly)⟩, ?_⟩
    rw [he] at hx ⊢
    by_cases h5 : early x < par P
    · rw [if_pos h5] at hn; exact .inr ⟨h5, hn⟩
    · rw [if_neg h5] at hn; exact .inl ⟨by omega, hn⟩
/-- Those that wait while a place is handled: it itself besides. -/
theorem NrI.waits {P e : Nat} (T : TreeP k E par) (N : NrI k (P + 1) E par early near W) (hP : P < k) :
    ∀ s, ∀ w ∈ updF W e (W e ++ [P]) s, P ≤ w ∧ w < k ∧ updF early P e w = s ∧ ∀ c, P + 1 ≤ c → par c = s → ¬ AncP par c w := by
  intro s w hw
  have old : ∀ s, w ∈ W s → P ≤ w ∧ w < k ∧ updF early P e w = s ∧ ∀ c, P + 1 ≤ c → par c = s → ¬ AncP par c w := fun s hw => by
    obtain ⟨h1, h2, h3, h4⟩ := N.wait s w hw
    exact ⟨by omega, h2, by rw [updF_else _ _ (by omega)]; exact h3, h4⟩
  by_cases e1 : s = e
  · subst e1
    rw [updF_here] at hw
    rcases List.mem_append.1 hw with hw | hw
    · exact old s hw
    · rw [List.mem_singleton.1 hw]
      exact ⟨Nat.le_refl _, hP, updF_here _ _ _, fun c hc _ h => by have := T.anc_le h hP; omega⟩
  · rw [updF_else _ _ e1] at hw
    exact old s hw
theorem NrI.next {P e : Nat} {near' : Nat → Nat} (T : TreeP k E par) (N : NrI k (P + 1) E par early near W) (h0 : 0 < P) (hP : P < k) (S : EarlyP P k E par (updF early P e))
    (hh : ∀ w ∈ updF W e (W e ++ [P]) (par P), HandP par P (updF early P e) near' w) (hk : ∀ w, w ∉ updF W e (W e ++ [P]) (par P) → near' w = near w) :
    NrI k P E par (updF early P e) near' (updF (updF W e (W e ++ [P])) (par P) []) := by
  have hwt := N.waits (e := e) T hP
  have hPl := T.par_lt P h0 hP
  have hin : ∀ w, P ≤ w → w < k → w ∈ updF W e (W e ++ [P]) (updF early P e w) ∨ HandP par (P + 1) early near w := fun w hw hwk => by
    by_cases e3 : w = P
    · subst e3; left; rw [updF_here, updF_here]; simp
    · rw [updF_else _ _ e3]
      rcases N.got w (by omega) hwk with h1 | h1
      · left
        by_cases e4 : early w = e
        · rw [e4, updF_here]; rw [e4] at h1; simp [h1]
        · rw [updF_else _ _ e4]; exact h1
      · exact .inr h1
  refine ⟨fun v hv => by rw [updF_else _ _ (by omega)]; exact N.fresh v (by omega), S, fun s w hw => ?_, fun w hw hwk => ?_, ?_, fun s => ?_⟩
  · by_cases e1 : s = par P
    · subst e1; rw [updF_here] at hw; cases hw
    · rw [updF_else _ _ e1] at hw
      obtain ⟨h1, h2, h3, h4⟩ := hwt s w hw
      refine ⟨h1, h2, h3, fun c hc hp => ?_⟩
      by_cases e2 : c = P
      · subst e2; exact absurd hp.symm e1
      · exact h4 c (by omega) hp
  · by_cases e2 : w ∈ updF W e (W e ++ [P]) (par P)
    · exact .inr (hh w e2)
    · rcases hin w hw hwk with h1 | ⟨x, h1, h2, h3, h4⟩
      · left
        by_cases e4 : updF early P e w = par P
        · rw [e4] at h1; exact absurd h1 e2
        · rw [updF_else _ _ e4]; exact h1
      · right
        have hwP : w ≠ P := fun e3 => by have := (h3 w .refl (by have := T.anc_le h1 hwk; omega)).1; omega
        have hxP := (h3 x h1 h2).1
        refine ⟨x, h1, by rw [updF_else _ _ hwP]; exact h2, fun y hy hly => ?_, ?_⟩
        · rw [updF_else _ _ hwP] at hly
          obtain ⟨h5, h6⟩ := h3 y hy hly
          rw [updF_else _ _ (by omega), updF_else _ _ (by omega)]
          exact ⟨by omega, h6⟩
        · rw [updF_else _ _ hwP, updF_else _ _ (by omega), hk w e2]; exact h4
  · rw [hk 0 (fun h => by have := (hwt _ _ h).1; omega)]; exact N.zero
  · have h1 := N.few s
    by_cases e1 : s = par P
    · subst e1; rw [updF_here]; simp; omega
    · rw [updF_else _ _ e1]
      by_cases e2 : s = e
      · subst e2; rw [updF_here]; simp; omega
      · rw [updF_else _ _ e2]; omega

/-! ### The nearest -/
/-- How far the second way has come: j. -/
structure NdI (k : Nat) (par early near0 near : Nat → Nat) (j : Nat) : Prop where
  done : ∀ w, 0 < w → w < j → w < k → ∃ x, AncP par x w ∧ early w < x ∧ (∀ y, AncP par y w → early w < y → early x ≤ early y) ∧ ((early x = early w ∧ near w = early w) ∨ (early x < early w ∧ x < w ∧ near w = near x))
  left : ∀ w, j ≤ w → near w = near0 w
  zero : near 0 = 0
theorem NrI.hand (T : TreeP k E par) (N : NrI k 1 E par early near W) : ∀ w, 0 < w → w < k → HandP par 1 early near w := fun w h0 hw => by
  rcases N.got w h0 hw with h | h
  · exfalso
    obtain ⟨h1, h2, h3, h4⟩ := N.wait _ w h
    have ha := N.ear.anc T h0 hw
    have hl := N.ear.lt T h0 hw
    rcases anc_child ha with h5 | ⟨c, h5, h6, h7⟩
    · omega
    · exact h4 c h6 h5 h7
  · exact h
/-- What a place has at first: its early one, or one above it with an earlier one. -/
theorem NrI.pick (T : TreeP k E par) (N : NrI k 1 E par early near W) {w : Nat} (h0 : 0 < w) (hw : w < k) : near w < w := by
  obtain ⟨x, h1, h2, h3, ⟨h4, h5⟩ | ⟨h4, h5⟩⟩ := N.hand T w h0 hw
  · have := N.ear.lt T h0 hw; omega
  · have := T.anc_le h1 hw
    have : x ≠ w := fun e => by subst e; omega
    omega
theorem NdI.start (N : NrI k 1 E par early near W) : NdI k par early near near 0 := ⟨fun w h0 h1 => by omega, fun _ _ => rfl, N.zero⟩
theorem NdI.step (T : TreeP k E par) {near0 : Nat → Nat} (N : NrI k 1 E par early near0 W) {j : Nat} (h : NdI k par early near0 near j) (hj : j < k) :
    NdI k par early near0 (if near j = early j then near else updF near j (near (near j))) (j + 1) := by
  have hj0 := h.left j (Nat.le_refl _)
  rcases Nat.eq_zero_or_pos j with h0 | h0
  · subst h0
    rw [if_pos (by rw [h.zero, N.fresh 0 (by omega)])]
    exact ⟨fun w h1 h2 => by omega, fun w hw => h.left w (by omega), h.zero⟩
  · have hpick := N.pick T h0 hj
    obtain ⟨x, h1, h2, h3, h4⟩ := N.hand T j h0 hj
    have hlt := N.ear.lt T h0 hj
    rcases h4 with ⟨h4, h5⟩ | ⟨h4, h5⟩
    · rw [if_pos (by omega)]
      refine ⟨fun w hw hwj hwk => ?_, fun w hw => h.left w (by omega), h.zero⟩
      by_cases e : w = j
      · subst e
        exact ⟨x, h1, h2, fun y hy hly => (h3 y hy hly).2, .inl ⟨h4, by omega⟩⟩
      · exact h.done w hw (by omega) hwk
    · have hnx : near j = x := by omega
      rw [if_neg (by omega), hnx]
      have hxj : x < j := by omega
      refine ⟨fun w hw hwj hwk => ?_, fun w hw => by rw [updF_else _ _ (by omega)]; exact h.left w (by omega), by rw [updF_else _ _ (by omega)]; exact h.zero⟩
      by_cases e : w = j
      · subst e
        exact ⟨x, h1, h2, fun y hy hly => (h3 y hy hly).2, .inr ⟨h4, hxj, by rw [updF_here, updF_else _ _ (by omega)]⟩⟩
      · obtain ⟨z, z1, z2, z3, z4⟩ := h.done w hw (by omega) hwk
        refine ⟨z, z1, z2, z3, ?_⟩
        rw [updF_else _ _ e]
        rcases z4 with z4 | ⟨z4, z5, z6⟩
        · exact .inl z4
        · exact .inr ⟨z4, z5, by rw [updF_else _ _ (by omega)]; exact z6⟩
theorem NdI.all {near0 : Nat → Nat} (h : NdI k par early near0 near k) : NearP k par early near := fun w h0 hw => h.done w h0 hw hw
end Go.Proofs.Ytooblmiffgjmjaa
