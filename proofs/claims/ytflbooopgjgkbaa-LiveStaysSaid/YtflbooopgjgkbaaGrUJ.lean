/- Going to all blocks that are reached, each by its place, in mathematics. No condition. -/
import Derived.Test.YtflbooopgjgkbaaGrTJ
import Derived.Test.YtflbooopgjgkbaaArMJ
namespace Go.Proofs.Ytflbooopgjgkbaa
set_option linter.unusedVariables false

def updF {α : Type} (f : Nat → α) (k : Nat) (x : α) : Nat → α := fun v => if v = k then x else f v
theorem updF_here {α : Type} (f : Nat → α) (k : Nat) (x : α) : updF f k x k = x := by simp [updF]
theorem updF_else {α : Type} (f : Nat → α) {k v : Nat} (x : α) (h : v ≠ k) : updF f k x v = f v := by simp [updF, h]
theorem AncP.congr {par par' : Nat → Nat} {k a c : Nat} (h : AncP par a c) (hc : c < k) (hlt : ∀ v, 0 < v → v < k → par v < v) (he : ∀ v, v < k → par' v = par v) : AncP par' a c := by
  induction h with
  | refl => exact .refl
  | @step v h0 _ ih =>
    have := hlt _ h0 hc
    exact .step h0 (by rw [he _ hc]; exact ih (by omega))

/-- How far it has gone: k places; what lies open, the last first. -/
structure TvI (nx : Nat → List Nat) (n k : Nat) (bl par : Nat → Nat) (ah : Nat → List Nat) (pl : Nat → Int) (op : List (Int × Nat)) (g : Nat) : Prop where
  plc : ∀ b, b < n → pl b = -1 ∨ ∃ p, p < k ∧ pl b = (p : Int) ∧ bl p = b
  blk : ∀ p, p < k → bl p < n ∧ pl (bl p) = (p : Int)
  parl : ∀ v, 0 < v → v < k → par v < v ∧ bl v ∈ nx (bl (par v))
  up : ∀ u v, u < v → v < k → bl v ∈ nx (bl u) → AncP par u v
  mid : ∀ a b c, AncP par a c → c < k → a ≤ b → b ≤ c → AncP par a b
  opn : ∀ e ∈ op, e.2 < n ∧ ((e.1 = -1 ∧ k = 0 ∧ e.2 = 0) ∨ ∃ u : Nat, u < k ∧ e.1 = (u : Int) ∧ e.2 ∈ nx (bl u) ∧ AncP par u (k - 1))
  sort : op.Pairwise (fun e e' => e.1 ≤ e'.1)
  done : ∀ u, u < k → ∀ t ∈ nx (bl u), ((u : Int), t) ∈ op ∨ ∃ p : Nat, pl t = (p : Int) ∧ u ∈ ah p
  ahd : ∀ p, p < k → ∀ u ∈ ah p, u < k ∧ bl p ∈ nx (bl u)
  first : (0 < k → bl 0 = 0) ∧ (k = 0 → op = [(-1, 0)])
  kn : k ≤ n
  num : g = (n - k) * (n + 1) + op.length
  few : ∀ p, p < k → (ah p).length + g ≤ n * (n + 1) + 1

variable {nx : Nat → List Nat} {n k : Nat} {bl par : Nat → Nat} {ah : Nat → List Nat} {pl : Nat → Int} {op : List (Int × Nat)} {g : Nat}
theorem TvI.start (nx : Nat → List Nat) {n : Nat} (hn : 0 < n) (bl par : Nat → Nat) (ah : Nat → List Nat) : TvI nx n 0 bl par ah (fun _ => -1) [(-1, 0)] (n * (n + 1) + 1) :=
  ⟨fun _ _ => .inl rfl, fun p h => by omega, fun v h1 h2 => by omega, fun u v h1 h2 => by omega, fun a b c _ h => by omega,
   fun e he => by rw [List.mem_singleton.1 he]; exact ⟨hn, .inl ⟨rfl, rfl, rfl⟩⟩, by simp, fun u h => by omega, fun p h => by omega, ⟨fun h => by omega, fun _ => rfl⟩, by omega, by simp, fun p h => by omega⟩
theorem TvI.placed (h : TvI nx n k bl par ah pl op g) {b : Nat} (hb : b < n) (hp : 0 ≤ pl b) : ∃ p, p < k ∧ pl b = (p : Int) ∧ bl p = b := by
  rcases h.plc b hb with h1 | h1
  · omega
  · exact h1
theorem mem_op {op : List (Int × Nat)} {e x : Int × Nat} (h : x ∈ op ++ [e]) : x ∈ op ∨ x = e := by simpa using h
/-- One that was come to already. -/
theorem TvI.old {e : Int × Nat} (h : TvI nx n k bl par ah pl (op ++ [e]) g) {p : Nat} (hp : pl e.2 = (p : Int)) :
    ∃ u : Nat, e.1 = (u : Int) ∧ p < k ∧ u < k ∧ ∃ g', g' < g ∧ TvI nx n k bl par (updF ah p (ah p ++ [u])) pl op g' := by
  obtain ⟨he2, he⟩ := h.opn e (by simp)
  obtain ⟨p', hp', hpe, hbl⟩ := h.placed he2 (by omega)
  obtain rfl : p' = p := by omega
  rcases he with ⟨h1, h2, h3⟩ | ⟨u, hu, hue, hun, hua⟩
  · omega
  refine ⟨u, hue, hp', hu, g - 1, by have := h.num; simp at this; omega, ?_⟩
  refine ⟨h.plc, h.blk, h.parl, h.up, h.mid, fun x hx => h.opn x (by simp [hx]), (List.pairwise_append.1 h.sort).1, fun v hv t ht => ?_, fun q hq x hx => ?_, ⟨h.first.1, fun h0 => by omega⟩, h.kn, by have := h.num; simp at this ⊢; omega, fun q hq => ?_⟩
  · rcases h.done v hv t ht with h1 | ⟨q, h1, h2⟩
    · rcases mem_op h1 with h1 | h1
      · exact .inl h1
      · right
        have h3 : (v : Int) = e.1 := by rw [← h1]
        have h4 : t = e.2 := by rw [← h1]
        refine ⟨p', by rw [h4]; exact hp, ?_⟩
        rw [updF_here]
        have : v = u := by omega
        subst this; simp
    · right
      refine ⟨q, h1, ?_⟩
      by_cases e : q = p'
      · subst e; rw [updF_here]; simp [h2]
      · rw [updF_else _ _ e]; exact h2
  · by_cases e1 : q = p'
    · subst e1
      rw [updF_here] at hx
      rcases List.mem_append.1 hx with hx | hx
      · exact h.ahd q hq x hx
      · rw [List.mem_singleton.1 hx, hbl]; exact ⟨hu, hun⟩
    · rw [updF_else _ _ e1] at hx; exact h.ahd q hq x hx
  · have h1 := h.few q hq
    have h2 := h.num
    by_cases e1 : q = p'
    · subst e1; rw [updF_here]; simp at h2 ⊢; omega
    · rw [updF_else _ _ e1]; omega
/-- One that is new. -/
theorem TvI.new {e : Int × Nat} (h : TvI nx n k bl par ah pl (op ++ [e]) g) (hnx : ∀ x, ∀ t ∈ nx x, t < n) (hlen : ∀ x, (nx x).length ≤ n) (hp : pl e.2 = -1) :
    k < n ∧ e.2 < n ∧ ∃ g', g' < g ∧ TvI nx n (k + 1) (updF bl k e.2) (updF par k e.1.toNat) (updF ah k (if e.1 < 0 then [] else [e.1.toNat])) (updF pl e.2 k) (op ++ (nx e.2).map fun t => ((k : Int), t)) g' := by
  obtain ⟨he2, he⟩ := h.opn e (by simp)
  have hk : k < n := by
    apply Classical.byContradiction
    intro hk
    -- all places would be taken
    have hkn : k = n := by have := h.kn; omega
    have hinj : ((List.range k).map bl).Nodup := by
      rw [List.nodup_iff_pairwise_ne, List.pairwise_map]
      refine List.Pairwise.imp_of_mem (fun {a b} ha hb hab hh => ?_) (List.nodup_range (n := k))
      have h1 := h.blk a (List.mem_range.1 ha)
      have h2 := h.blk b (List.mem_range.1 hb)
      rw [hh] at h1
      exact hab (by omega)
    have hni : e.2 ∉ (List.range k).map bl := fun hm => by
      obtain ⟨a, ha, hb⟩ := List.mem_map.1 hm
      have := h.blk a (List.mem_range.1 ha)
      rw [hb] at this; omega
    have := List.Nodup.length_le_of_subset (List.nodup_cons.2 ⟨hni, hinj⟩) (l₂ := List.range n) (fun x hx => by
      rcases List.mem_cons.1 hx with rfl | hx
      · exact List.mem_range.2 he2
      · obtain ⟨a, ha, rfl⟩ := List.mem_map.1 hx
        exact List.mem_range.2 (h.blk a (List.mem_range.1 ha)).1)
    simp at this; omega
  have hne : ∀ p, p < k → bl p ≠ e.2 := fun p hpk hh => by have := (h.blk p hpk).2; rw [hh] at this; omega
  have hcg : ∀ {a c : Nat}, AncP par a c → c < k → AncP (updF par k e.1.toNat) a c := fun ha hc => ha.congr hc (fun v h1 h2 => (h.parl v h1 h2).1) (fun v hv => updF_else _ _ (by omega))
  have hcg' : ∀ {a c : Nat}, AncP (updF par k e.1.toNat) a c → c < k → AncP par a c := fun ha hc => ha.congr hc (fun v h1 h2 => by rw [updF_else _ _ (by omega)]; exact (h.parl v h1 h2).1) (fun v hv => (updF_else _ _ (by omega)).symm)
  have hle : ∀ {a c : Nat}, AncP par a c → c < k → a ≤ c := by
    intro a c ha
    induction ha with
    | refl => intro _; omega
    | @step v h0 _ ih => intro hv; have := (h.parl v h0 hv).1; have := ih (by omega); omega
  -- the new one's tree
  have htop : 0 < k → e.1.toNat < k ∧ AncP par e.1.toNat (k - 1) ∧ e.2 ∈ nx (bl e.1.toNat) ∧ 0 ≤ e.1 := fun h0 => by
    rcases he with ⟨_, h2, _⟩ | ⟨u, hu, hue, hun, hua⟩
    · omega
    · have : e.1.toNat = u := by omega
      rw [this]; exact ⟨hu, hua, hun, by omega⟩
  have hsort : ∀ x ∈ op, x.1 ≤ e.1 := fun x hx => (List.pairwise_append.1 h.sort).2.2 x hx e (by simp)
  have hop0 : k = 0 → op = [] ∧ e = (-1, 0) := fun h0 => by
    have h1 := h.first.2 h0
    have h2 : op = [] := by
      have := congrArg List.length h1
      simp at this; exact this
    subst h2; simpa using h1
  -- whoever is above the last and not behind the top is above the new one
  have hanc : ∀ u, u < k → AncP par u (k - 1) → (u : Int) ≤ e.1 → AncP (updF par k e.1.toNat) u k := fun u hu ha hle' => by
    obtain ⟨h1, h2, h3, h4⟩ := htop (by omega)
    refine .step (by omega) ?_
    rw [updF_here]
    exact hcg (h.mid _ _ _ ha (by omega) (by omega) (by omega)) h1
  have hg := h.num
  have hgle : (n - k) * (n + 1) = (n - (k + 1)) * (n + 1) + (n + 1) := by
    rw [← Nat.succ_mul]; congr 1; omega
  have hl2 := hlen e.2
  refine ⟨hk, he2, (n - (k + 1)) * (n + 1) + (op.length + (nx e.2).length), by simp at hg; omega, ?_⟩
  refine ⟨fun b hb => ?_, fun p hpk => ?_, fun v h0 hv => ?_, fun u v huv hv hE => ?_, fun a b c ha hc hab hbc => ?_, fun x hx => ?_, ?_, fun u hu t ht => ?_, fun p hpk x hx => ?_, ⟨fun _ => ?_, fun h0 => by omega⟩, by omega, by simp, fun p hpk => ?_⟩
  · by_cases e1 : b = e.2
    · subst e1; right; exact ⟨k, by omega, updF_here _ _ _, updF_here _ _ _⟩
    · rw [updF_else _ _ e1]
      rcases h.plc b hb with h1 | ⟨p, h1, h2, h3⟩
      · exact .inl h1
      · exact .inr ⟨p, by omega, h2, by rw [updF_else _ _ (by omega)]; exact h3⟩
  · by_cases e1 : p = k
    · subst e1; rw [updF_here]; exact ⟨he2, updF_here _ _ _⟩
    · have hpk' : p < k := by omega
      rw [updF_else _ _ e1, updF_else _ _ (hne p hpk')]
      exact h.blk p hpk'
  · by_cases e1 : v = k
    · subst e1
      obtain ⟨h1, h2, h3, h4⟩ := htop h0
      rw [updF_here, updF_here, updF_else _ _ (by omega)]
      exact ⟨h1, h3⟩
    · have := h.parl v h0 (by omega)
      rw [updF_else _ _ e1, updF_else _ _ e1, updF_else _ _ (by omega)]
      exact this
  · by_cases e1 : v = k
    · subst e1
      rw [updF_here, updF_else _ _ (by omega)] at hE
      rcases h.done u huv _ hE with h1 | ⟨p, h1, h2⟩
      · rcases mem_op h1 with h1 | h1
        · obtain ⟨-, hq⟩ := h.opn ((u : Int), e.2) (List.mem_append_left _ h1)
          rcases hq with ⟨h2, _⟩ | ⟨u', hu', hue', _, hua'⟩
          · have h2 : (u : Int) = -1 := h2; omega
          · have hue' : (u : Int) = (u' : Int) := hue'
            have : u' = u := by omega
            subst this
            exact hanc _ huv hua' (hsort _ h1)
        · obtain ⟨h2, h3, -, -⟩ := htop (by omega)
          have h4 : (u : Int) = e.1 := by rw [← h1]
          have : e.1.toNat = u := by omega
          rw [this] at h3
          exact hanc u huv h3 (by omega)
      · omega
    · rw [updF_else _ _ e1, updF_else _ _ (by omega)] at hE
      exact hcg (h.up u v huv (by omega) hE) (by omega)
  · by_cases e1 : c = k
    · subst e1
      by_cases e2 : b = c
      · subst e2; exact ha
      · cases ha with
        | refl => omega
        | step h0 ha =>
          obtain ⟨h1, h2, h3, h4⟩ := htop (by omega)
          rw [updF_here] at ha
          have ha' := hcg' ha h1
          have ha2 := ha'.trans h2
          exact hcg (h.mid a b (c - 1) ha2 (by omega) hab (by omega)) (by omega)
    · exact hcg (h.mid a b c (hcg' ha (by omega)) (by omega) hab hbc) (by omega)
  · rcases List.mem_append.1 hx with hx | hx
    · obtain ⟨h1, h2⟩ := h.opn x (by simp [hx])
      refine ⟨h1, ?_⟩
      rcases h2 with ⟨_, h3, _⟩ | ⟨u, hu, hue, hun, hua⟩
      · rw [(hop0 h3).1] at hx; cases hx
      · right
        refine ⟨u, by omega, hue, by rw [updF_else _ _ (by omega)]; exact hun, ?_⟩
        have := hsort x hx
        exact hanc u hu hua (by omega)
    · obtain ⟨t, ht, rfl⟩ := List.mem_map.1 hx
      exact ⟨hnx _ t ht, .inr ⟨k, by omega, rfl, by rw [updF_here]; exact ht, .refl⟩⟩
  · rw [List.pairwise_append]
    refine ⟨(List.pairwise_append.1 h.sort).1, ?_, fun x hx y hy => ?_⟩
    · rw [List.pairwise_map]
      exact List.pairwise_of_forall (fun _ _ => Int.le_refl _)
    · obtain ⟨t, ht, rfl⟩ := List.mem_map.1 hy
      obtain ⟨-, h2⟩ := h.opn x (by simp [hx])
      rcases h2 with ⟨h3, _⟩ | ⟨u, hu, hue, _⟩
      · show x.1 ≤ (k : Int); omega
      · show x.1 ≤ (k : Int); omega
  · by_cases e1 : u = k
    · subst e1
      rw [updF_here] at ht
      exact .inl (List.mem_append_right _ (List.mem_map.2 ⟨t, ht, rfl⟩))
    · have hu' : u < k := by omega
      rw [updF_else _ _ e1] at ht
      rcases h.done u hu' t ht with h1 | ⟨p, h1, h2⟩
      · rcases mem_op h1 with h1 | h1
        · exact .inl (List.mem_append_left _ h1)
        · right
          have h4 : (u : Int) = e.1 := by rw [← h1]
          have h5 : t = e.2 := by rw [← h1]
          refine ⟨k, by rw [h5]; exact updF_here _ _ _, ?_⟩
          rw [updF_here, if_neg (by omega)]
          simp; omega
      · right
        have h3 : t ≠ e.2 := fun e => by rw [e] at h1; omega
        refine ⟨p, by rw [updF_else _ _ h3]; exact h1, ?_⟩
        have hpk : p < k := by
          obtain ⟨p', h4, h5, -⟩ := h.placed (hnx _ t ht) (by omega); omega
        rw [updF_else _ _ (by omega)]; exact h2
  · by_cases e1 : p = k
    · subst e1
      rw [updF_here] at hx
      split at hx
      · cases hx
      · rename_i hge
        have h0 : 0 < p := by
          rcases Nat.eq_zero_or_pos p with h0 | h0
          · rw [(hop0 h0).2] at hge; simp at hge
          · exact h0
        obtain ⟨h1, h2, h3, h4⟩ := htop h0
        rw [List.mem_singleton.1 hx, updF_here, updF_else _ _ (by omega)]
        exact ⟨by omega, h3⟩
    · rw [updF_else _ _ e1] at hx
      have := h.ahd p (by omega) x hx
      rw [updF_else _ _ e1, updF_else _ _ (by omega)]
      exact ⟨by omega, this.2⟩
  · by_cases e1 : k = 0
    · subst e1; rw [updF_here, (hop0 rfl).2]
    · rw [updF_else _ _ (by omega)]; exact h.first.1 (by omega)
  · have hkk : (n - k) * (n + 1) ≤ n * (n + 1) := Nat.mul_le_mul_right _ (by omega)
    by_cases e1 : p = k
    · subst e1
      rw [updF_here]
      have h9 : (if e.1 < 0 then [] else [e.1.toNat] : List Nat).length ≤ 1 := by split <;> simp
      simp at hg
      rcases Nat.eq_zero_or_pos p with h6 | h6
      · subst h6
        have := (hop0 rfl).1
        subst this
        simp at hg ⊢
        have h10 : n * (n + 1) = (n - 1) * (n + 1) + (n + 1) := by rw [← Nat.succ_mul]; congr 1; omega
        omega
      · have h7 := h.few 0 h6
        omega
    · rw [updF_else _ _ e1]
      have := h.few p (by omega)
      simp at hg; omega

/-- All gone through. -/
def EdgeP (nx : Nat → List Nat) (k : Nat) (bl : Nat → Nat) (u v : Nat) : Prop := u < k ∧ v < k ∧ bl v ∈ nx (bl u)
structure TvE (nx : Nat → List Nat) (n k : Nat) (bl par : Nat → Nat) (ah : Nat → List Nat) (pl : Nat → Int) : Prop where
  tree : TreeP k (EdgeP nx k bl) par
  plc : ∀ b, b < n → pl b = -1 ∨ ∃ p, p < k ∧ pl b = (p : Int) ∧ bl p = b
  blk : ∀ p, p < k → bl p < n ∧ pl (bl p) = (p : Int)
  ahd : ∀ p, p < k → ∀ u, u ∈ ah p ↔ EdgeP nx k bl u p
  reach : ∀ b, b < n → (Reach nx 0 b ↔ 0 ≤ pl b)
  first : 0 < k ∧ bl 0 = 0
  kn : k ≤ n
  few : ∀ p, p < k → (ah p).length ≤ n * (n + 1) + 1
theorem TvI.all (h : TvI nx n k bl par ah pl [] g) (hnx : ∀ x, ∀ t ∈ nx x, t < n) (hn : 0 < n) : TvE nx n k bl par ah pl := by
  have hk : 0 < k := by
    rcases Nat.eq_zero_or_pos k with h0 | h0
    · have := h.first.2 h0; cases this
    · exact h0
  have hdone : ∀ u, u < k → ∀ t ∈ nx (bl u), ∃ p : Nat, p < k ∧ pl t = (p : Int) ∧ bl p = t ∧ u ∈ ah p := fun u hu t ht => by
    rcases h.done u hu t ht with h1 | ⟨p, h1, h2⟩
    · cases h1
    · obtain ⟨p', h4, h5, h6⟩ := h.placed (hnx _ t ht) (by omega)
      obtain rfl : p' = p := by omega
      exact ⟨p', h4, h5, h6, h2⟩
  refine ⟨⟨fun u v h => ⟨h.1, h.2.1⟩, fun v h0 hv => (h.parl v h0 hv).1, fun v h0 hv => ⟨by have := (h.parl v h0 hv).1; omega, hv, (h.parl v h0 hv).2⟩, fun u v he huv => h.up u v huv he.2.1 he.2.2, fun a b c => h.mid a b c⟩, h.plc, h.blk, fun p hp u => ⟨fun hu => ?_, fun hu => ?_⟩, fun b hb => ⟨fun hr => ?_, fun hp => ?_⟩, ⟨hk, h.first.1 hk⟩, h.kn, fun p hp => by have := h.few p hp; omega⟩
  · have := h.ahd p hp u hu; exact ⟨this.1, hp, this.2⟩
  · obtain ⟨q, h1, h2, h3, h4⟩ := hdone u hu.1 _ hu.2.2
    have := (h.blk p hp).2
    obtain rfl : q = p := by omega
    exact h4
  · have key : ∀ x, Reach nx 0 x → ∃ p : Nat, p < k ∧ pl x = (p : Int) ∧ bl p = x := by
      intro x hx
      induction hx with
      | refl => exact ⟨0, hk, by have := (h.blk 0 hk).2; rw [h.first.1 hk] at this; simpa using this, h.first.1 hk⟩
      | @step x y _ hxy ih =>
        obtain ⟨p, h1, h2, h3⟩ := ih
        obtain ⟨q, h4, h5, h6, _⟩ := hdone p h1 y (by rw [h3]; exact hxy)
        exact ⟨q, h4, h5, h6⟩
    obtain ⟨p, -, h2, -⟩ := key b hr
    omega
  · obtain ⟨p, h1, -, h3⟩ := h.placed hb hp
    rw [← h3]
    clear h3
    induction p using Nat.strongRecOn with
    | _ p ih =>
      rcases Nat.eq_zero_or_pos p with h0 | h0
      · subst h0; rw [h.first.1 hk]; exact .refl
      · obtain ⟨h4, h5⟩ := h.parl p h0 h1
        exact .step (ih _ h4 (by omega)) h5
end Go.Proofs.Ytflbooopgjgkbaa

/- What can be come to, by going round often enough, in mathematics. No condition. -/
namespace Go.Proofs.Ytflbooopgjgkbaa
set_option linter.unusedVariables false

def mkW (w : Int) (S : Nat → Bool) (t : Nat) : Nat → Bool := if (t : Int) = w then S else mark S t
def fromA (nx : Nat → List Nat) (w : Int) (S : Nat → Bool) (a : Nat) : Nat → Bool := if S a = true then (nx a).foldl (mkW w) S else S
def fromR (nx : Nat → List Nat) (w : Int) (n : Nat) (S : Nat → Bool) : Nat → Bool := (List.range n).foldl (fromA nx w) S
def fromN (nx : Nat → List Nat) (w : Int) (n b : Nat) : Nat → Nat → Bool
  | 0 => mark noneSeen b
  | i + 1 => fromR nx w n (fromN nx w n b i)
/-- Without going by one. -/
def nxW (nx : Nat → List Nat) (w : Int) (a : Nat) : List Nat := (nx a).filter fun t : Nat => decide ((t : Int) ≠ w)
theorem nxW_mem {nx : Nat → List Nat} {w : Int} {a t : Nat} : t ∈ nxW nx w a ↔ t ∈ nx a ∧ (t : Int) ≠ w := by
  unfold nxW; rw [List.mem_filter]; simp

theorem mkW_of {w : Int} {S : Nat → Bool} {t x : Nat} (h : S x = true) : mkW w S t x = true := by
  unfold mkW; split
  · exact h
  · exact mark_of h
theorem foldW_of {w : Int} {l : List Nat} : ∀ {S : Nat → Bool} {x : Nat}, S x = true → l.foldl (mkW w) S x = true := by
  induction l with
  | nil => exact fun h => h
  | cons t l ih => exact fun h => ih (mkW_of h)
theorem foldW_mem {w : Int} {l : List Nat} : ∀ {S : Nat → Bool} {t : Nat}, t ∈ l → (t : Int) ≠ w → l.foldl (mkW w) S t = true := by
  induction l with
  | nil => intro S t h; cases h
  | cons y l ih =>
    intro S t h hw
    rcases List.mem_cons.1 h with rfl | h
    · rw [List.foldl_cons]
      exact foldW_of (by unfold mkW; rw [if_neg hw]; exact mark_same _ _)
    · exact ih h hw
theorem foldW_inv {w : Int} {l : List Nat} : ∀ {S : Nat → Bool} {x : Nat}, l.foldl (mkW w) S x = true → S x = true ∨ (x ∈ l ∧ (x : Int) ≠ w) := by
  induction l with
  | nil => exact fun h => .inl h
  | cons y l ih =>
    intro S x h
    rcases ih h with h1 | ⟨h1, h2⟩
    · unfold mkW at h1
      split at h1
      · exact .inl h1
      · rename_i hne
        rcases mark_cases h1 with rfl | h1
        · exact .inr ⟨by simp, hne⟩
        · exact .inl h1
    · exact .inr ⟨by simp [h1], h2⟩
theorem fromA_of {nx : Nat → List Nat} {w : Int} {S : Nat → Bool} {a x : Nat} (h : S x = true) : fromA nx w S a x = true := by
  unfold fromA; split
  · exact foldW_of h
  · exact h
theorem foldA_of {nx : Nat → List Nat} {w : Int} {l : List Nat} : ∀ {S : Nat → Bool} {x : Nat}, S x = true → l.foldl (fromA nx w) S x = true := by
  induction l with
  | nil => exact fun h => h
  | cons t l ih => exact fun h => ih (fromA_of h)
theorem foldA_mem {nx : Nat → List Nat} {w : Int} {l : List Nat} : ∀ {S : Nat → Bool} {a t : Nat}, a ∈ l → S a = true → t ∈ nx a → (t : Int) ≠ w → l.foldl (fromA nx w) S t = true := by
  induction l with
  | nil => intro S a t h; cases h
  | cons y l ih =>
    intro S a t h hs ht hw
    rcases List.mem_cons.1 h with rfl | h
    · rw [List.foldl_cons]
      exact foldA_of (by unfold fromA; rw [if_pos hs]; exact foldW_mem ht hw)
    · exact ih h (fromA_of hs) ht hw
theorem foldA_inv {nx : Nat → List Nat} {w : Int} {p : Nat → Prop} {l : List Nat} : (∀ a t, a ∈ l → p a → t ∈ nx a → (t : Int) ≠ w → p t) → ∀ {S : Nat → Bool}, (∀ x, S x = true → p x) → ∀ x, l.foldl (fromA nx w) S x = true → p x := by
  induction l with
  | nil => exact fun _ _ h => h
  | cons y l ih =>
    intro hp S h
    refine ih (fun a t ha => hp a t (by simp [ha])) fun x hx => ?_
    unfold fromA at hx
    split at hx
    · rename_i hy
      rcases foldW_inv hx with h1 | ⟨h1, h2⟩
      · exact h x h1
      · exact hp y x (by simp) (h y hy) h1 h2
    · exact h x hx

def ClosedG (nx : Nat → List Nat) (w : Int) (n : Nat) (S : Nat → Bool) : Prop := ∀ a t, a < n → S a = true → t ∈ nx a → (t : Int) ≠ w → S t = true
theorem unseen_less {n : Nat} {S S' : Nat → Bool} (h : ∀ x, S x = true → S' x = true) {t : Nat} (ht : t < n) (h1 : S t = false) (h2 : S' t = true) : unseen n S' + 1 ≤ unseen n S := by
  rw [unseen_mark h1 ht]
  have : unseen n S' ≤ unseen n (mark S t) := unseen_mono fun x hx => by
    rcases mark_cases hx with rfl | hx
    · exact h2
    · exact h x hx
  omega
theorem from_step {nx : Nat → List Nat} {n : Nat} (hnx : ∀ x, ∀ t ∈ nx x, t < n) {w : Int} {b : Nat} (hb : b < n) : ∀ i : Nat, ClosedG nx w n (fromN nx w n b i) ∨ unseen n (fromN nx w n b i) + i + 1 ≤ n := by
  intro i
  induction i with
  | zero =>
    right
    have h := unseen_mark (S := noneSeen) (b := b) rfl hb
    have h2 := unseen_le n noneSeen
    show unseen n (mark noneSeen b) + 0 + 1 ≤ n
    omega
  | succ i ih =>
    generalize hS : fromN nx w n b i = S at ih
    have hS' : fromN nx w n b (i + 1) = fromR nx w n S := by rw [← hS]; rfl
    rw [hS']
    by_cases hc : ClosedG nx w n S
    · left
      have hup : ∀ x, fromR nx w n S x = true → S x = true :=
        foldA_inv (p := fun x => S x = true) (fun a t ha hs ht hw => hc a t (List.mem_range.1 ha) hs ht hw) (fun x hx => hx)
      intro a t ha hs ht hw
      exact foldA_of (hc a t ha (hup a hs) ht hw)
    · rcases ih with ih | ih
      · exact absurd ih hc
      · right
        have : ∃ a t, a < n ∧ S a = true ∧ t ∈ nx a ∧ (t : Int) ≠ w ∧ S t = false := by
          apply Classical.byContradiction
          intro h
          apply hc
          intro a t ha hs ht hw
          cases h2 : S t
          · exact absurd ⟨a, t, ha, hs, ht, hw, h2⟩ h
          · rfl
        obtain ⟨a, t, ha, hs, ht, hw, h2⟩ := this
        have := unseen_less (S := S) (S' := fromR nx w n S) (fun x hx => foldA_of hx) (hnx a t ht) h2 (foldA_mem (List.mem_range.2 ha) hs ht hw)
        omega
theorem fromN_of {nx : Nat → List Nat} {w : Int} {n b : Nat} : ∀ i : Nat, fromN nx w n b i b = true
  | 0 => mark_same _ _
  | i + 1 => foldA_of (fromN_of i)
theorem fromN_reach {nx : Nat → List Nat} {w : Int} {n b : Nat} : ∀ (i x : Nat), fromN nx w n b i x = true → Reach (nxW nx w) b x
  | 0, x, h => by
    rcases mark_cases h with rfl | h
    · exact .refl
    · cases h
  | i + 1, x, h => foldA_inv (p := Reach (nxW nx w) b) (fun a t _ ha ht hw => .step ha (nxW_mem.2 ⟨ht, hw⟩)) (fun y hy => fromN_reach i y hy) x h
/-- Gone round as often as there are blocks: what can be come to. -/
theorem fromN_iff {nx : Nat → List Nat} {n : Nat} (hnx : ∀ x, ∀ t ∈ nx x, t < n) {w : Int} {b : Nat} (hb : b < n) (x : Nat) : fromN nx w n b n x = true ↔ Reach (nxW nx w) b x := by
  refine ⟨fromN_reach n x, fun h => ?_⟩
  rcases from_step hnx (w := w) hb n with hc | hc
  · have hlt : ∀ y, Reach (nxW nx w) b y → y < n := fun y hy => by
      cases hy with
      | refl => exact hb
      | step _ h => exact hnx _ _ (nxW_mem.1 h).1
    induction h with
    | refl => exact fromN_of n
    | step h1 h2 ih => exact hc _ _ (hlt _ h1) ih (nxW_mem.1 h2).1 (nxW_mem.1 h2).2
  · omega
theorem nxW_any (nx : Nat → List Nat) (w : Int) (hw : w < 0) : nxW nx w = nx := by
  funext a
  unfold nxW
  rw [List.filter_eq_self]
  intro t _
  simp; omega
theorem fromN_reachB {nx : Nat → List Nat} {n : Nat} (hnx : ∀ x, ∀ t ∈ nx x, t < n) (hn : 0 < n) (x : Nat) : fromN nx (-1) n 0 n x = reachB nx n x := by
  have h1 := fromN_iff hnx (w := -1) (b := 0) hn x
  rw [nxW_any nx (-1) (by omega), ← orderL_mem hnx (by omega)] at h1
  unfold reachB
  rw [Bool.eq_iff_iff, decide_eq_true_iff]
  exact h1
end Go.Proofs.Ytflbooopgjgkbaa

/- A function without the blocks that aren't reached, in mathematics. No condition. -/
namespace Go.Proofs.Ytflbooopgjgkbaa
open Go.ChangeShapes Go.WideShapes Go.RowKit Go.Deep
set_option linter.unusedVariables false

/-- What each block of a function leads to. -/
def nxF (bs : List BlkD) (a : Nat) : List Nat := match bs[a]? with
  | some b => nextN bs.length b.term.to
  | none => []
theorem nxF_at {bs : List BlkD} {a : Nat} {b : BlkD} (h : bs[a]? = some b) : nxF bs a = nextN bs.length b.term.to := by unfold nxF; rw [h]
theorem nxF_lt (bs : List BlkD) : ∀ x, ∀ t ∈ nxF bs x, t < bs.length := fun x t ht => by
  unfold nxF at ht
  split at ht
  · exact (nextN_mem.1 ht).1
  · cases ht
theorem nxF_mem {bs : List BlkD} {a t : Nat} {b : BlkD} (h : bs[a]? = some b) : t ∈ nxF bs a ↔ t < bs.length ∧ (t : Int) ∈ b.term.to := by
  rw [nxF_at h]; exact nextN_mem
/-- Numbers as integers. -/
def zs (l : List Nat) : List Int := l.map fun q : Nat => (q : Int)
theorem zs_len (l : List Nat) : (zs l).length = l.length := by simp [zs]
theorem zs_at {l : List Nat} {i : Nat} {x : Int} (h : (zs l)[i]? = some x) : ∃ q : Nat, l[i]? = some q ∧ x = q := by
  unfold zs at h
  rw [List.getElem?_map] at h
  obtain ⟨q, hq, rfl⟩ := Option.map_eq_some_iff.1 h
  exact ⟨q, hq, rfl⟩
theorem zs_snoc (l : List Nat) (q : Nat) : zs (l ++ [q]) = zs l ++ [(q : Int)] := by simp [zs]
theorem zs_mem {l : List Nat} {x : Int} (h : x ∈ zs l) : ∃ q ∈ l, x = (q : Int) := by
  unfold zs at h
  obtain ⟨q, hq, rfl⟩ := List.mem_map.1 h
  exact ⟨q, hq, rfl⟩

def reachF (bs : List BlkD) (x : Nat) : Bool := reachB (nxF bs) bs.length x
def orderF (bs : List BlkD) : List Nat := orderL (nxF bs) bs.length

/-! ### New numbers -/
def numB (r : Nat → Bool) (i : Nat) : Int := if r i = true then (((List.range i).countP r : Nat) : Int) else -1
def numsL (r : Nat → Bool) (n : Nat) : List Int := (List.range n).map (numB r)
theorem numsL_len (r : Nat → Bool) (n : Nat) : (numsL r n).length = n := by simp [numsL]
theorem numsL_at {r : Nat → Bool} {n i : Nat} {x : Int} (h : (numsL r n)[i]? = some x) : x = numB r i ∧ i < n := by
  unfold numsL at h
  rw [List.getElem?_map] at h
  obtain ⟨q, hq, rfl⟩ := Option.map_eq_some_iff.1 h
  obtain ⟨hl, rfl⟩ := List.getElem?_eq_some_iff.1 hq
  simp at hl ⊢
  exact hl
theorem countP_range_succ (r : Nat → Bool) (k : Nat) : (List.range (k + 1)).countP r = (List.range k).countP r + (if r k = true then 1 else 0) := by
  rw [List.range_succ, List.countP_append]; simp [List.countP_cons]
theorem countP_range_le (r : Nat → Bool) (k : Nat) : (List.range k).countP r ≤ k := by
  have := List.countP_le_length (p := r) (l := List.range k); simpa using this
theorem numB_i64 (r : Nat → Bool) {i : Nat} (h : i ≤ 1000000) : I64 (numB r i) := by
  have := countP_range_le r i
  unfold numB I64; split <;> omega

/-! ### The blocks that stay -/
/-- A phi's Args without those that stood for blocks that go. -/
def keepA (r : Nat → Bool) : List Int → List Int → List Int
  | a :: rs, x :: xs => (if r a.toNat = true then [x] else []) ++ keepA r rs xs
  | _, _ => []
def argsT (r : Nat → Bool) (ahead args : List Int) : List Int := if args.length = ahead.length then keepA r ahead args else args
def phiT (r : Nat → Bool) (ahead : List Int) (p : PhiD) : PhiD := ⟨p.dst, argsT r ahead p.args⟩
def toT (r : Nat → Bool) (n : Nat) (t : Int) : Int := if 0 ≤ t ∧ t < n then numB r t.toNat else t
def blkT (bs : List BlkD) (r : Nat → Bool) (i : Nat) (b : BlkD) : BlkD :=
  ⟨b.phis.map (phiT r (aheadL bs i)), b.ins, ⟨b.term.kind, b.term.arg, b.term.to.map (toT r bs.length)⟩⟩
def blksK (bs : List BlkD) (r : Nat → Bool) (k : Nat) : List BlkD := (bs.zipIdx.take k).filterMap fun p => if r p.2 = true then some (blkT bs r p.2 p.1) else none
def blksT (bs : List BlkD) : List BlkD := blksK bs (reachF bs) bs.length
def trimF (f : FunD) : FunD := ⟨f.params, f.result, f.regs, blksT f.blocks⟩

theorem blksK_succ {bs : List BlkD} {r : Nat → Bool} {k : Nat} {b : BlkD} (h : bs[k]? = some b) : blksK bs r (k + 1) = blksK bs r k ++ (if r k = true then [blkT bs r k b] else []) := by
  have hz : bs.zipIdx[k]? = some (b, k) := by simp [List.getElem?_zipIdx, h]
  unfold blksK
  rw [take_succ_of hz, List.filterMap_append]
  congr 1
  by_cases hr : r k = true
  · simp [hr]
  · simp [hr]
theorem blksK_zero (bs : List BlkD) (r : Nat → Bool) : blksK bs r 0 = [] := by simp [blksK]
theorem keepA_snoc {r : Nat → Bool} : ∀ {rs xs : List Int} {k : Nat} {a x : Int}, rs[k]? = some a → xs[k]? = some x → keepA r (rs.take (k + 1)) (xs.take (k + 1)) = keepA r (rs.take k) (xs.take k) ++ (if r a.toNat = true then [x] else [])
  | [], _, _, _, _, h, _ => by simp at h
  | _ :: _, [], _, _, _, _, h => by simp at h
  | y :: rs, z :: xs, 0, a, x, h1, h2 => by
    simp at h1 h2; subst h1; subst h2; simp [keepA]
  | y :: rs, z :: xs, k + 1, a, x, h1, h2 => by
    have ih := keepA_snoc (r := r) (rs := rs) (xs := xs) (k := k) (a := a) (x := x) (by simpa using h1) (by simpa using h2)
    simp only [List.take_succ_cons, keepA, ih, List.append_assoc]
theorem keepA_len (r : Nat → Bool) : ∀ (rs xs : List Int), (keepA r rs xs).length ≤ xs.length
  | [], _ => by simp [keepA]
  | _ :: _, [] => by simp [keepA]
  | a :: rs, x :: xs => by have := keepA_len r rs xs; simp only [keepA, List.length_append, List.length_cons]; split <;> simp <;> omega
theorem keepA_mem {r : Nat → Bool} {y : Int} : ∀ {rs xs : List Int}, y ∈ keepA r rs xs → y ∈ xs
  | [], _, h => by simp [keepA] at h
  | _ :: _, [], h => by simp [keepA] at h
  | a :: rs, x :: xs, h => by
    simp only [keepA, List.mem_append] at h
    rcases h with h | h
    · split at h <;> simp at h; subst h; simp
    · exact List.mem_cons_of_mem _ (keepA_mem h)
theorem argsT_mem {r : Nat → Bool} {ahead args : List Int} {y : Int} (h : y ∈ argsT r ahead args) : y ∈ args := by
  unfold argsT at h; split at h
  · exact keepA_mem h
  · exact h
end Go.Proofs.Ytflbooopgjgkbaa
