/- Going to all blocks that are reached, each by its place, in mathematics. No condition. -/
import Derived.Test.YtflbooopgjgkbaaGrTJ
namespace Go.Proofs.Ytflbooopgjgkbaa
set_option linter.unusedVariables false

def updF {α : Type} (f : Nat → α) (k : Nat) (x : α) : Nat → α := fun v => if v = k then x else f v
theorem updF_here {α : Type} (f : Nat → α) (k : Nat) (x : α) : updF f k x k = x := by simp [updF]
theorem updF_else {α : Type} (f : Nat → α) {k v : Nat} (x : α) (h : v ≠ k) : updF f k x v = f v := by simp [updF, h]
theorem AncP.congr {par par' : Nat → Nat} {k a c : Nat} (h : AncP par a c) (hc : c < k) (hlt : ∀ v, 0 < v → v < k → par v < v) (he : ∀ v, v < k → par' v = par v) : AncP par' a c := by
  induction h with
  | refl => exact .refl
  | @step v h0 _ ih =>
    have := hlt _ h0 hc
    exact .step h0 (by rw [he _ hc]; exact ih (by omega))

/-- How far it has gone: k places; what lies open, the last first. -/
structure TvI (nx : Nat → List Nat) (n k : Nat) (bl par : Nat → Nat) (ah : Nat → List Nat) (pl : Nat → Int) (op : List (Int × Nat)) (g : Nat) : Prop where
  plc : ∀ b, b < n → pl b = -1 ∨ ∃ p, p < k ∧ pl b = (p : Int) ∧ bl p = b
  blk : ∀ p, p < k → bl p < n ∧ pl (bl p) = (p : Int)
  parl : ∀ v, 0 < v → v < k → par v < v ∧ bl v ∈ nx (bl (par v))
  up : ∀ u v, u < v → v < k → bl v ∈ nx (bl u) → AncP par u v
  mid : ∀ a b c, AncP par a c → c < k → a ≤ b → b ≤ c → AncP par a b
  opn : ∀ e ∈ op, e.2 < n ∧ ((e.1 = -1 ∧ k = 0 ∧ e.2 = 0) ∨ ∃ u : Nat, u < k ∧ e.1 = (u : Int) ∧ e.2 ∈ nx (bl u) ∧ AncP par u (k - 1))
  sort : op.Pairwise (fun e e' => e.1 ≤ e'.1)
  done : ∀ u, u < k → ∀ t ∈ nx (bl u), ((u : Int), t) ∈ op ∨ ∃ p : Nat, pl t = (p : Int) ∧ u ∈ ah p
  ahd : ∀ p, p < k → ∀ u ∈ ah p, u < k ∧ bl p ∈ nx (bl u)
  first : (0 < k → bl 0 = 0) ∧ (k = 0 → op = [(-1, 0)])
  kn : k ≤ n
  num : g = (n - k) * (n + 1) + op.length
  few : ∀ p, p < k → (ah p).length + g ≤ n * (n + 1) + 1

variable {nx : Nat → List Nat} {n k : Nat} {bl par : Nat → Nat} {ah : Nat → List Nat} {pl : Nat → Int} {op : List (Int × Nat)} {g : Nat}
theorem TvI.start (nx : Nat → List Nat) {n : Nat} (hn : 0 < n) (bl par : Nat → Nat) (ah : Nat → List Nat) : TvI nx n 0 bl par ah (fun _ => -1) [(-1, 0)] (n * (n + 1) + 1) :=
  ⟨fun _ _ => .inl rfl, fun p h => by omega, fun v h1 h2 => by omega, fun u v h1 h2 => by omega, fun a b c _ h => by omega,
   fun e he => by rw [List.mem_singleton.1 he]; exact ⟨hn, .inl ⟨rfl, rfl, rfl⟩⟩, by simp, fun u h => by omega, fun p h => by omega, ⟨fun h => by omega, fun _ => rfl⟩, by omega, by simp, fun p h => by omega⟩
theorem TvI.placed (h : TvI nx n k bl par ah pl op g) {b : Nat} (hb : b < n) (hp : 0 ≤ pl b) : ∃ p, p < k ∧ pl b = (p : Int) ∧ bl p = b := by
  rcases h.plc b hb with h1 | h1
  · omega
  · exact h1
theorem mem_op {op : List (Int × Nat)} {e x : Int × Nat} (h : x ∈ op ++ [e]) : x ∈ op ∨ x = e := by simpa using h
/-- One that was come to already. -/
theorem TvI.old {e : Int × Nat} (h : TvI nx n k bl par ah pl (op ++ [e]) g) {p : Nat} (hp : pl e.2 = (p : Int)) :
    ∃ u : Nat, e.1 = (u : Int) ∧ p < k ∧ u < k ∧ ∃ g', g' < g ∧ TvI nx n k bl par (updF ah p (ah p ++ [u])) pl op g' := by
  obtain ⟨he2, he⟩ := h.opn e (by simp)
  obtain ⟨p', hp', hpe, hbl⟩ := h.placed he2 (by omega)
  obtain rfl : p' = p := by omega
  rcases he with ⟨h1, h2, h3⟩ | ⟨u, hu, hue, hun, hua⟩
  · omega
  refine ⟨u, hue, hp', hu, g - 1, by have := h.num; simp at this; omega, ?_⟩
  refine ⟨h.plc, h.blk, h.parl, h.up, h.mid, fun x hx => h.opn x (by simp [hx]), (List.pairwise_append.1 h.sort).1, fun v hv t ht => ?_, fun q hq x hx => ?_, ⟨h.first.1, fun h0 => by omega⟩, h.kn, by have := h.num; simp at this ⊢; omega, fun q hq => ?_⟩
  · rcases h.done v hv t ht with h1 | ⟨q, h1, h2⟩
    · rcases mem_op h1 with h1 | h1
      · exact .inl h1
      · right
        have h3 : (v : Int) = e.1 := by rw [← h1]
        have h4 : t = e.2 := by rw [← h1]
        refine ⟨p', by rw [h4]; exact hp, ?_⟩
        rw [updF_here]
        have : v = u := by omega
        subst this; simp
    · right
      refine ⟨q, h1, ?_⟩
      by_cases e : q = p'
      · subst e; rw [updF_here]; simp [h2]
      · rw [updF_else _ _ e]; exact h2
  · by_cases e1 : q = p'
    · subst e1
      rw [updF_here] at hx
      rcases List.mem_append.1 hx with hx | hx
      · exact h.ahd q hq x hx
      · rw [List.mem_singleton.1 hx, hbl]; exact ⟨hu, hun⟩
    · rw [updF_else _ _ e1] at hx; exact h.ahd q hq x hx
  · have h1 := h.few q hq
    have h2 := h.num
    by_cases e1 : q = p'
    · subst e1; rw [updF_here]; simp at h2 ⊢; omega
    · rw [updF_else _ _ e1]; omega
/-- One that is new. -/
theorem TvI.new {e : Int × Nat} (h : TvI nx n k bl par ah pl (op ++ [e]) g) (hnx : ∀ x, ∀ t ∈ nx x, t < n) (hlen : ∀ x, (nx x).length ≤ n) (hp : pl e.2 = -1) :
    k < n ∧ e.2 < n ∧ ∃ g', g' < g ∧ TvI nx n (k + 1) (updF bl k e.2) (updF par k e.1.toNat) (updF ah k (if e.1 < 0 then [] else [e.1.toNat])) (updF pl e.2 k) (op ++ (nx e.2).map fun t => ((k : Int), t)) g' := by
  obtain ⟨he2, he⟩ := h.opn e (by simp)
  have hk : k < n := by
    apply Classical.byContradiction
    intro hk
    -- all places would be taken
    have hkn : k = n := by have := h.kn; omega
    have hinj : ((List.range k).map bl).Nodup := by
      rw [List.nodup_iff_pairwise_ne, List.pairwise_map]
      refine List.Pairwise.imp_of_mem (fun {a b} ha hb hab hh => ?_) (List.nodup_range (n := k))
      have h1 := h.blk a (List.mem_range.1 ha)
      have h2 := h.blk b (List.mem_range.1 hb)
      rw [hh] at h1
      exact hab (by omega)
    have hni : e.2 ∉ (List.range k).map bl := fun hm => by
      obtain ⟨a, ha, hb⟩ := List.mem_map.1 hm
      have := h.blk a (List.mem_range.1 ha)
      rw [hb] at this; omega
    have := List.Nodup.length_le_of_subset (List.nodup_cons.2 ⟨hni, hinj⟩) (l₂ := List.range n) (fun x hx => by
      rcases List.mem_cons.1 hx with rfl | hx
      · exact List.mem_range.2 he2
      · obtain ⟨a, ha, rfl⟩ := List.mem_map.1 hx
        exact List.mem_range.2 (h.blk a (List.mem_range.1 ha)).1)
    simp at this; omega
  have hne : ∀ p, p < k → bl p ≠ e.2 := fun p hpk hh => by have := (h.blk p hpk).2; rw [hh] at this; omega
  have hcg : ∀ {a c : Nat}, AncP par a c → c < k → AncP (updF par k e.1.toNat) a c := fun ha hc => ha.congr hc (fun v h1 h2 => (h.parl v h1 h2).1) (fun v hv => updF_else _ _ (by omega))
  have hcg' : ∀ {a c : Nat}, AncP (updF par k e.1.toNat) a c → c < k → AncP par a c := fun ha hc => ha.congr hc (fun v h1 h2 => by rw [updF_else _ _ (by omega)]; exact (h.parl v h1 h2).1) (fun v hv => (updF_else _ _ (by omega)).symm)
  have hle : ∀ {a c : Nat}, AncP par a c → c < k → a ≤ c := by
    intro a c ha
    induction ha with
    | refl => intro _; omega
    | @step v h0 _ ih => intro hv; have := (h.parl v h0 hv).1; have := ih (by omega); omega
  -- the new one's tree
  have htop : 0 < k → e.1.toNat < k ∧ AncP par e.1.toNat (k - 1) ∧ e.2 ∈ nx (bl e.1.toNat) ∧ 0 ≤ e.1 := fun h0 => by
    rcases he with ⟨_, h2, _⟩ | ⟨u, hu, hue, hun, hua⟩
    · omega
    · have : e.1.toNat = u := by omega
      rw [this]; exact ⟨hu, hua, hun, by omega⟩
  have hsort : ∀ x ∈ op, x.1 ≤ e.1 := fun x hx => (List.pairwise_append.1 h.sort).2.2 x hx e (by simp)
  have hop0 : k = 0 → op = [] ∧ e = (-1, 0) := fun h0 => by
    have h1 := h.first.2 h0
    have h2 : op = [] := by
      have := congrArg List.length h1
      simp at this; exact this
    subst h2; simpa using h1
  -- whoever is above the last and not behind the top is above the new one
  have hanc : ∀ u, u < k → AncP par u (k - 1) → (u : Int) ≤ e.1 → AncP (updF par k e.1.toNat) u k := fun u hu ha hle' => by
    obtain ⟨h1, h2, h3, h4⟩ := htop (by omega)
    refine .step (by omega) ?_
    rw [updF_here]
    exact hcg (h.mid _ _ _ ha (by omega) (by omega) (by omega)) h1
  have hg := h.num
  have hgle : (n - k) * (n + 1) = (n - (k + 1)) * (n + 1) + (n + 1) := by
    rw [← Nat.succ_mul]; congr 1; omega
  have hl2 := hlen e.2
  refine ⟨hk, he2, (n - (k + 1)) * (n + 1) + (op.length + (nx e.2).length), by simp at hg; omega, ?_⟩
  refine ⟨fun b hb => ?_, fun p hpk => ?_, fun v h0 hv => ?_, fun u v huv hv hE => ?_, fun a b c ha hc hab hbc => ?_, fun x hx => ?_, ?_, fun u hu t ht => ?_, fun p hpk x hx => ?_, ⟨fun _ => ?_, fun h0 => by omega⟩, by omega, by simp, fun p hpk => ?_⟩
  · by_cases e1 : b = e.2
    · subst e1; right; exact ⟨k, by omega, updF_here _ _ _, updF_here _ _ _⟩
    · rw [updF_else _ _ e1]
      rcases h.plc b hb with h1 | ⟨p, h1, h2, h3⟩
      · exact .inl h1
      · exact .inr ⟨p, by omega, h2, by rw [updF_else _ _ (by omega)]; exact h3⟩
  · by_cases e1 : p = k
    · subst e1; rw [updF_here]; exact ⟨he2, updF_here _ _ _⟩
    · have hpk' : p < k := by omega
      rw [updF_else _ _ e1, updF_else _ _ (hne p hpk')]
      exact h.blk p hpk'
  · by_cases e1 : v = k
    · subst e1
      obtain ⟨h1, h2, h3, h4⟩ := htop h0
      rw [updF_here, updF_here, updF_else _ _ (by omega)]
      exact ⟨h1, h3⟩
    · have := h.parl v h0 (by omega)
      rw [updF_else _ _ e1, updF_else _ _ e1, updF_else _ _ (by omega)]
      exact this
  · by_cases e1 : v = k
    · subst e1
      rw [updF_here, updF_else _ _ (by omega)] at hE
      rcases h.done u huv _ hE with h1 | ⟨p, h1, h2⟩
      · rcases mem_op h1 with h1 | h1
        · obtain ⟨-, hq⟩ := h.opn ((u : Int), e.2) (List.mem_append_left _ h1)
          rcases hq with ⟨h2, _⟩ | ⟨u', hu', hue', _, hua'⟩
          · have h2 : (u : Int) = -1 := h2; omega
          · have hue' : (u : Int) = (u' : Int) := hue'
            have : u' = u := by omega
            subst this
            exact hanc _ huv hua' (hsort _ h1)
        · obtain ⟨h2, h3, -, -⟩ := htop (by omega)
          have h4 : (u : Int) = e.1 := by rw [← h1]
          have : e.1.toNat = u := by omega
          rw [this] at h3
          exact hanc u huv h3 (by omega)
      · omega
    · rw [updF_else _ _ e1, updF_else _ _ (by omega)] at hE
      exact hcg (h.up u v huv (by omega) hE) (by omega)
  · by_cases e1 : c = k
    · subst e1
      by_cases e2 : b = c
      · subst e2; exact ha
      · cases ha with
        | refl => omega
        | step h0 ha =>
          obtain ⟨h1, h2, h3, h4⟩ := htop (by omega)
          rw [updF_here] at ha
          have ha' := hcg' ha h1
          have ha2 := ha'.trans h2
          exact hcg (h.mid a b (c - 1) ha2 (by omega) hab (by omega)) (by omega)
    · exact hcg (h.mid a b c (hcg' ha (by omega)) (by omega) hab hbc) (by omega)
  · rcases List.mem_append.1 hx with hx | hx
    · obtain ⟨h1, h2⟩ := h.opn x (by simp [hx])
      refine ⟨h1, ?_⟩
      rcases h2 with ⟨_, h3, _⟩ | ⟨u, hu, hue, hun, hua⟩
      · rw [(hop0 h3).1] at hx; cases hx
      · right
        refine ⟨u, by omega, hue, by rw [updF_else _ _ (by omega)]; exact hun, ?_⟩
        have := hsort x hx
        exact hanc u hu hua (by omega)
    · obtain ⟨t, ht, rfl⟩ := List.mem_map.1 hx
      exact ⟨hnx _ t ht, .inr ⟨k, by omega, rfl, by rw [updF_here]; exact ht, .refl⟩⟩
  · rw [List.pairwise_append]
    refine ⟨(List.pairwise_append.1 h.sort).1, ?_, fun x hx y hy => ?_⟩
    · rw [List.pairwise_map]
      exact List.pairwise_of_forall (fun _ _ => Int.le_refl _)
    · obtain ⟨t, ht, rfl⟩ := List.mem_map.1 hy
      obtain ⟨-, h2⟩ := h.opn x (by simp [hx])
      rcases h2 with ⟨h3, _⟩ | ⟨u, hu, hue, _⟩
      · show x.1 ≤ (k : Int); omega
      · show x.1 ≤ (k : Int); omega
  · by_cases e1 : u = k
    · subst e1
      rw [updF_here] at ht
      exact .inl (List.mem_append_right _ (List.mem_map.2 ⟨t, ht, rfl⟩))
    · have hu' : u < k := by omega
      rw [updF_else _ _ e1] at ht
      rcases h.done u hu' t ht with h1 | ⟨p, h1, h2⟩
      · rcases mem_op h1 with h1 | h1
        · exact .inl (List.mem_append_left _ h1)
        · right
          have h4 : (u : Int) = e.1 := by rw [← h1]
          have h5 : t = e.2 := by rw [← h1]
          refine ⟨k, by rw [h5]; exact updF_here _ _ _, ?_⟩
          rw [updF_here, if_neg (by omega)]
          simp; omega
      · right
        have h3 : t ≠ e.2 := fun e => by rw [e] at h1; omega
        refine ⟨p, by rw [updF_else _ _ h3]; exact h1, ?_⟩
        have hpk : p < k := by
          obtain ⟨p', h4, h5, -⟩ := h.placed (hnx _ t ht) (by omega); omega
        rw [updF_else _ _ (by omega)]; exact h2
  · by_cases e1 : p = k
    · subst e1
      rw [updF_here] at hx
      split at hx
      · cases hx
      · rename_i hge
        have h0 : 0 < p := by
          rcases Nat.eq_zero_or_pos p with h0 | h0
          · rw [(hop0 h0).2] at hge; simp at hge
          · exact h0
        obtain ⟨h1, h2, h3, h4⟩ := htop h0
        rw [List.mem_singleton.1 hx, updF_here, updF_else _ _ (by omega)]
        exact ⟨by omega, h3⟩
    · rw [updF_else _ _ e1] at hx
      have := h.ahd p (by omega) x hx
      rw [updF_else _ _ e1, updF_else _ _ (by omega)]
      exact ⟨by omega, this.2⟩
  · by_cases e1 : k = 0
    · subst e1; rw [updF_here, (hop0 rfl).2]
    · rw [updF_else _ _ (by omega)]; exact h.first.1 (by omega)
  · have hkk : (n - k) * (n + 1) ≤ n * (n + 1) := Nat.mul_le_mul_right _ (by omega)
    by_cases e1 : p = k
    · subst e1
      rw [updF_here]
      have h9 : (if e.1 < 0 then [] else [e.1.toNat] : List Nat).length ≤ 1 := by split <;> simp
      simp at hg
      rcases Nat.eq_zero_or_pos p with h6 | h6
      · subst h6
        have := (hop0 rfl).1
        subst this
        simp at hg ⊢
        have h10 : n * (n + 1) = (n - 1) * (n + 1) + (n + 1) := by rw [← Nat.succ_mul]; congr 1; omega
        omega
      · have h7 := h.few 0 h6
        omega
    · rw [updF_else _ _ e1]
      have := h.few p (by omega)
      simp at hg; omega

/-- All gone through. -/
def EdgeP (nx : Nat → List Nat) (k : Nat) (bl : Nat → Nat) (u v : Nat) : Prop := u < k ∧ v < k ∧ bl v ∈ nx (bl u)
structure TvE (nx : Nat → List Nat) (n k : Nat) (bl par : Nat → Nat) (ah : Nat → List Nat) (pl : Nat → Int) : Prop where
  tree : TreeP k (EdgeP nx k bl) par
  plc : ∀ b, b < n → pl b = -1 ∨ ∃ p, p < k ∧ pl b = (p : Int) ∧ bl p = b
  blk : ∀ p, p < k → bl p < n ∧ pl (bl p) = (p : Int)
  ahd : ∀ p, p < k → ∀ u, u ∈ ah p ↔ EdgeP nx k bl u p
  reach : ∀ b, b < n → (Reach nx 0 b ↔ 0 ≤ pl b)
  first : 0 < k ∧ bl 0 = 0
  kn : k ≤ n
  few : ∀ p, p < k → (ah p).length ≤ n * (n + 1) + 1
theorem TvI.all (h : TvI nx n k bl par ah pl [] g) (hnx : ∀ x, ∀ t ∈ nx x, t < n) (hn : 0 < n) : TvE nx n k bl par ah pl := by
  have hk : 0 < k := by
    rcases Nat.eq_zero_or_pos k with h0 | h0
    · have := h.first.2 h0; cases this
    · exact h0
  have hdone : ∀ u, u < k → ∀ t ∈ nx (bl u), ∃ p : Nat, p < k ∧ pl t = (p : Int) ∧ bl p = t ∧ u ∈ ah p := fun u hu t ht => by
    rcases h.done u hu t ht with h1 | ⟨p, h1, h2⟩
    · cases h1
    · obtain ⟨p', h4, h5, h6⟩ := h.placed (hnx _ t ht) (by omega)
      obtain rfl : p' = p := by omega
      exact ⟨p', h4, h5, h6, h2⟩
  refine ⟨⟨fun u v h => ⟨h.1, h.2.1⟩, fun v h0 hv => (h.parl v h0 hv).1, fun v h0 hv => ⟨by have := (h.parl v h0 hv).1; omega, hv, (h.parl v h0 hv).2⟩, fun u v he huv => h.up u v huv he.2.1 he.2.2, fun a b c => h.mid a b c⟩, h.plc, h.blk, fun p hp u => ⟨fun hu => ?_, fun hu => ?_⟩, fun b hb => ⟨fun hr => ?_, fun hp => ?_⟩, ⟨hk, h.first.1 hk⟩, h.kn, fun p hp => by have := h.few p hp; omega⟩
  · have := h.ahd p hp u hu; exact ⟨this.1, hp, this.2⟩
  · obtain ⟨q, h1, h2, h3, h4⟩ := hdone u hu.1 _ hu.2.2
    have := (h.blk p hp).2
    obtain rfl : q = p := by omega
    exact h4
  · have key : ∀ x, Reach nx 0 x → ∃ p : Nat, p < k ∧ pl x = (p : Int) ∧ bl p = x := by
      intro x hx
      induction hx with
      | refl => exact ⟨0, hk, by have := (h.blk 0 hk).2; rw [h.first.1 hk] at this; simpa using this, h.first.1 hk⟩
      | @step x y _ hxy ih =>
        obtain ⟨p, h1, h2, h3⟩ := ih
        obtain ⟨q, h4, h5, h6, _⟩ := hdone p h1 y (by rw [h3]; exact hxy)
        exact ⟨q, h4, h5, h6⟩
    obtain ⟨p, -, h2, -⟩ := key b hr
    omega
  · obtain ⟨p, h1, -, h3⟩ := h.placed hb hp
    rw [← h3]
    clear h3
    induction p using Nat.strongRecOn with
    | _ p ih =>
      rcases Nat.eq_zero_or_pos p with h0 | h0
      · subst h0; rw [h.first.1 hk]; exact .refl
      · obtain ⟨h4, h5⟩ := h.parl p h0 h1
        exact .step (ih _ h4 (by omega)) h5
end Go.Proofs.Ytflbooopgjgkbaa

/- The early ones, and the nearest, as they are reckoned place by place, in mathematics. No condition. -/
namespace Go.Proofs.Ytflbooopgjgkbaa
set_option linter.unusedVariables false

/-! ### Places that hang below others -/
/-- Places from L on hang below others; of each the one with the earliest early one, up to there. -/
structure GrvI (par : Nat → Nat) (k L : Nat) (early least : Nat → Nat) (above : Nat → Int) : Prop where
  lo : ∀ v, v < L → v < k → above v = -1 ∧ least v = v
  hi : ∀ v, L ≤ v → v < k → ∃ a : Nat, above v = (a : Int) ∧ a < v ∧ AncP par a v ∧ (∀ y, AncP par y v → a < y → L ≤ y) ∧ AncP par (least v) v ∧ a < least v ∧ ∀ y, AncP par y v → a < y → early (least v) ≤ early y
/-- The one with the earliest early one, above one, that hangs. -/
def BestP (par : Nat → Nat) (L : Nat) (early : Nat → Nat) (v x : Nat) : Prop := (v < L ∧ x = v) ∨ (L ≤ v ∧ AncP par x v ∧ L ≤ x ∧ ∀ y, AncP par y v → L ≤ y → early x ≤ early y)

variable {n k L : Nat} {E : Nat → Nat → Prop} {par early least : Nat → Nat} {above : Nat → Int}
theorem GrvI.start (par : Nat → Nat) (k : Nat) (early : Nat → Nat) : GrvI par k k early (fun v => v) (fun _ => -1) :=
  ⟨fun _ _ _ => ⟨rfl, rfl⟩, fun v h1 h2 => by omega⟩
theorem GrvI.least_lt (T : TreeP k E par) (G : GrvI par k L early least above) {v : Nat} (hv : v < k) : least v < k := by
  by_cases h : v < L
  · rw [(G.lo v h hv).2]; exact hv
  · obtain ⟨a, _, _, _, _, h5, _⟩ := G.hi v (by omega) hv
    have := T.anc_le h5 hv; omega
theorem GrvI.best (G : GrvI par k L early least above) {v : Nat} (hv : v < k) (hr : above v < (L : Int)) : BestP par L early v (least v) := by
  by_cases h : v < L
  · exact .inl ⟨h, (G.lo v h hv).2⟩
  · obtain ⟨a, h1, h2, h3, h4, h5, h6, h7⟩ := G.hi v (by omega) hv
    exact .inr ⟨by omega, h5, h4 _ h5 h6, fun y hy hL => h7 y hy (by omega)⟩
theorem GrvI.hang (T : TreeP k E par) (G : GrvI par k L early least above) {p q : Nat} {r : Int} (hp : L ≤ p) (hpk : p < k) (hq : above p = (q : Int)) (hqL : L ≤ q) (hr : above q = r) :
    GrvI par k L early (updF least p (if early (least q) < early (least p) then least q else least p)) (updF above p r) := by
  refine ⟨fun v h1 h2 => ?_, fun v h1 h2 => ?_⟩
  · rw [updF_else _ _ (by omega), updF_else _ _ (by omega)]; exact G.lo v h1 h2
  · by_cases e : v = p
    · subst e
      rw [updF_here, updF_here]
      obtain ⟨a, a1, a2, a3, a4, a5, a6, a7⟩ := G.hi v h1 h2
      obtain rfl : a = q := by omega
      obtain ⟨b, b1, b2, b3, b4, b5, b6, b7⟩ := G.hi a hqL (by omega)
      refine ⟨b, by omega, by omega, b3.trans a3, fun y hy hby => ?_, ?_, ?_, fun y hy hby => ?_⟩
      · by_cases hay : a < y
        · exact a4 y hy hay
        · exact b4 y (T.both hy a3 h2 (by omega)) hby
      · split
        · exact b5.trans a3
        · exact a5
      · split <;> omega
      · by_cases hay : a < y
        · have := a7 y hy hay
          split <;> omega
        · have := b7 y (T.both hy a3 h2 (by omega)) hby
          split <;> omega
    · rw [updF_else _ _ e, updF_else _ _ e]; exact G.hi v h1 h2
theorem GrvI.congr {early' : Nat → Nat} (G : GrvI par k L early least above) (he : ∀ v, L ≤ v → early' v = early v) : GrvI par k L early' least above := by
  refine ⟨G.lo, fun v h1 h2 => ?_⟩
  obtain ⟨a, a1, a2, a3, a4, a5, a6, a7⟩ := G.hi v h1 h2
  refine ⟨a, a1, a2, a3, a4, a5, a6, fun y hy hay => ?_⟩
  rw [he _ (a4 _ a5 a6), he _ (a4 y hy hay)]; exact a7 y hy hay
theorem GrvI.link (T : TreeP k E par) {P : Nat} (G : GrvI par k (P + 1) early least above) (h0 : 0 < P) (hP : P < k) : GrvI par k P early least (updF above P (par P : Int)) := by
  refine ⟨fun v h1 h2 => ?_, fun v h1 h2 => ?_⟩
  · rw [updF_else _ _ (by omega)]; exact G.lo v (by omega) h2
  · by_cases e : v = P
    · subst e
      rw [updF_here, (G.lo v (by omega) h2).2]
      have hp := T.par_lt v h0 hP
      have key : ∀ y, AncP par y v → par v < y → y = v := fun y hy hlt => by
        cases hy with
        | refl => rfl
        | step _ hy => have := T.anc_le hy (by omega); omega
      exact ⟨par v, rfl, hp, .step h0 .refl, fun y hy hlt => by rw [key y hy hlt]; exact Nat.le_refl _, .refl, hp, fun y hy hlt => by rw [key y hy hlt]; exact Nat.le_refl _⟩
    · rw [updF_else _ _ e]
      obtain ⟨a, a1, a2, a3, a4, a5, a6, a7⟩ := G.hi v (by omega) h2
      exact ⟨a, a1, a2, a3, fun y hy hay => by have := a4 y hy hay; omega, a5, a6, a7⟩

/-! ### The early one of a place -/
/-- What e is, of those that lead to P. -/
structure PredP (par early : Nat → Nat) (P : Nat) (l : List Nat) (e : Nat) : Prop where
  here : ∀ u ∈ l, u ≤ P → e ≤ u
  chain : ∀ u ∈ l, ∀ x, AncP par x u → P < x → e ≤ early x
  found : e = P ∨ (∃ u, u ∈ l ∧ u < P ∧ e = u) ∨ ∃ u x, u ∈ l ∧ AncP par x u ∧ P < x ∧ e = early x
theorem PredP.start (par early : Nat → Nat) (P : Nat) : PredP par early P [] P := ⟨fun u h => (by cases h), fun u h => (by cases h), .inl rfl⟩
theorem PredP.le {P e : Nat} {l : List Nat} (h : PredP par early P l e) (T : TreeP k E par) (hr : ∀ u ∈ l, u < k) (hf : ∀ w, P < w → w < k → early w ≤ k) (hP : P < k) : e ≤ k := by
  rcases h.found with h1 | ⟨u, h1, h2, h3⟩ | ⟨u, x, h1, h2, h3, h4⟩
  · omega
  · omega
  · have := T.anc_le h2 (hr u h1)
    have := hr u h1
    rw [h4]; exact hf x h3 (by omega)
theorem PredP.step {P e u b : Nat} {l : List Nat} (T : TreeP k E par) (h : PredP par early P l e) (hf : ∀ v, v < P → early v = v) (hu : u < k) (hb : BestP par (P + 1) (updF early P e) u b) (heP : e ≤ P) :
    PredP par early P (l ++ [u]) (min e (updF early P e b)) := by
  have hmem : ∀ {x : Nat}, x ∈ l ++ [u] → x ∈ l ∨ x = u := fun hx => by simpa using hx
  rcases hb with ⟨h1, rfl⟩ | ⟨h1, h2, h3, h4⟩
  · by_cases hbP : b = P
    · subst hbP
      rw [updF_here, Nat.min_self]
      refine ⟨fun x hx hxP => ?_, fun x hx y hy hPy => ?_, ?_⟩
      · rcases hmem hx with hx | rfl
        · exact h.here x hx hxP
        · exact heP
      · rcases hmem hx with hx | rfl
        · exact h.chain x hx y hy hPy
        · have := T.anc_le hy hu; omega
      · rcases h.found with h5 | ⟨x, h5, h6⟩ | ⟨x, y, h5, h6⟩
        · exact .inl h5
        · exact .inr (.inl ⟨x, by simp [h5], h6⟩)
        · exact .inr (.inr ⟨x, y, by simp [h5], h6⟩)
    · have hbl : b < P := by omega
      rw [updF_else _ _ hbP, hf b hbl]
      refine ⟨fun x hx hxP => ?_, fun x hx y hy hPy => ?_, ?_⟩
      · rcases hmem hx with hx | rfl
        · have := h.here x hx hxP; omega
        · omega
      · rcases hmem hx with hx | rfl
        · have := h.chain x hx y hy hPy; omega
        · have := T.anc_le hy hu; omega
      · by_cases hle : e ≤ b
        · rw [Nat.min_eq_left hle]
          rcases h.found with h5 | ⟨x, h5, h6⟩ | ⟨x, y, h5, h6⟩
          · exact .inl h5
          · exact .inr (.inl ⟨x, by simp [h5], h6⟩)
          · exact .inr (.inr ⟨x, y, by simp [h5], h6⟩)
        · rw [Nat.min_eq_right (by omega)]
          exact .inr (.inl ⟨b, by simp, hbl, rfl⟩)
  · rw [updF_else _ _ (by omega)]
    have hby : ∀ y, AncP par y u → P < y → early b ≤ early y := fun y hy hPy => by
      have := h4 y hy (by omega)
      rwa [updF_else _ _ (by omega), updF_else _ _ (by omega)] at this
    refine ⟨fun x hx hxP => ?_, fun x hx y hy hPy => ?_, ?_⟩
    · rcases hmem hx with hx | rfl
      · have := h.here x hx hxP; omega
      · omega
    · rcases hmem hx with hx | rfl
      · have := h.chain x hx y hy hPy; omega
      · have := hby y hy hPy; omega
    · by_cases hle : e ≤ early b
      · rw [Nat.min_eq_left hle]
        rcases h.found with h5 | ⟨x, h5, h6⟩ | ⟨x, y, h5, h6⟩
        · exact .inl h5
        · exact .inr (.inl ⟨x, by simp [h5], h6⟩)
        · exact .inr (.inr ⟨x, y, by simp [h5], h6⟩)
      · rw [Nat.min_eq_right (by omega)]
        exact .inr (.inr ⟨u, b, by simp, h2, by omega, rfl⟩)
theorem PredP.done {P e : Nat} {l : List Nat} (T : TreeP k E par) (h : PredP par early P l e) (hl : ∀ u, u ∈ l ↔ E u P) (S : EarlyP (P + 1) k E par early) (h0 : 0 < P) (hP : P < k) : e < P ∧ EarlyP P k E par (updF early P e) := by
  have hp := T.par_lt P h0 hP
  have he := h.here (par P) ((hl _).2 (T.par_e P h0 hP)) (by omega)
  refine ⟨by omega, ⟨fun w u hw hE hu => ?_, fun w u x hw hE hx hwx => ?_, fun w hw hwk => ?_, h0⟩⟩
  · by_cases e1 : w = P
    · subst e1; rw [updF_here]; exact h.here u ((hl u).2 hE) hu
    · rw [updF_else _ _ e1]; exact S.here w u (by omega) hE hu
  · rw [updF_else early e (show x ≠ P by omega)]
    by_cases e1 : w = P
    · subst e1; rw [updF_here]; exact h.chain u ((hl u).2 hE) x hx hwx
    · rw [updF_else _ _ e1]; exact S.chain w u x (by omega) hE hx hwx
  · by_cases e1 : w = P
    · subst e1
      rw [updF_here]
      rcases h.found with h5 | ⟨x, h5, h6⟩ | ⟨x, y, h5, h6, h7, h8⟩
      · omega
      · exact .inl ⟨x, (hl x).1 h5, h6⟩
      · exact .inr ⟨x, y, (hl x).1 h5, h6, h7, by rw [updF_else _ _ (by omega)]; exact h8⟩
    · rw [updF_else _ _ e1]
      rcases S.found w (by omega) hwk with h5 | ⟨x, y, h5, h6, h7, h8⟩
      · exact .inl h5
      · exact .inr ⟨x, y, h5, h6, h7, by rw [updF_else _ _ (by omega)]; exact h8⟩

/-! ### The nearest, at first -/
def HandP (par : Nat → Nat) (L : Nat) (early near : Nat → Nat) (w : Nat) : Prop := ∃ x, AncP par x w ∧ early w < x ∧ (∀ y, AncP par y w → early w < y → L ≤ y ∧ early x ≤ early y) ∧ ((early x = early w ∧ near w = early w) ∨ (early x < early w ∧ near w = x))
structure NrI (k L : Nat) (E : Nat → Nat → Prop) (par early near : Nat → Nat) (W : Nat → List Nat) : Prop where
  fresh : ∀ v, v < L → early v = v
  ear : EarlyP L k E par early
  wait : ∀ s, ∀ w ∈ W s, L ≤ w ∧ w < k ∧ early w = s ∧ ∀ c, L ≤ c → par c = s → ¬ AncP par c w
  got : ∀ w, L ≤ w → w < k → w ∈ W (early w) ∨ HandP par L early near w
  zero : near 0 = 0
  few : ∀ s, (W s).length + L ≤ k
variable {near : Nat → Nat} {W : Nat → List Nat}
theorem NrI.start (E : Nat → Nat → Prop) (par : Nat → Nat) (k : Nat) (h0 : 0 < k) (hE : ∀ u v, E u v → v < k) : NrI k k E par (fun v => v) (fun _ => 0) (fun _ => []) :=
  ⟨fun _ _ => rfl, ⟨fun w u h1 h2 => (by have := hE _ _ h2; omega), fun w u x h1 h2 => (by have := hE _ _ h2; omega), fun w h1 h2 => (by omega), h0⟩, fun s w h => (by cases h), fun w h1 h2 => (by omega), rfl, fun s => (by simp)⟩
/-- The child on the way down. -/
theorem anc_child {a v : Nat} (h : AncP par a v) : a = v ∨ ∃ c, par c = a ∧ 0 < c ∧ AncP par c v := by
  induction h with
  | refl => exact .inl rfl
  | @step v h1 h2 ih =>
    right
    rcases ih with h | ⟨c, h3, h4, h5⟩
    · exact ⟨v, h.symm, h1, .refl⟩
    · exact ⟨c, h3, h4, .step h1 h5⟩
/-- Those that wait for a place's parent are below the place. -/
theorem wait_below {P w : Nat} (T : TreeP k E par) (S : EarlyP P k E par early) (h0 : 0 < P) (hP : P < k) (hw : P ≤ w) (hwk : w < k) (he : early w = par P) (hc : ∀ c, P + 1 ≤ c → par c = par P → ¬ AncP par c w) : AncP par P w := by
  have hlt := S.lt T hw hwk
  have ha := S.anc T hw hwk
  rw [he] at ha hlt
  rcases anc_child ha with h | ⟨c, h1, h2, h3⟩
  · omega
  · have hcw := T.anc_le h3 hwk
    have hcl := T.par_lt c h2 (by omega)
    have hPl := T.par_lt P h0 hP
    by_cases h4 : P < c
    · exact absurd h3 (hc c h4 h1)
    · have h5 : AncP par c P := T.mid c P w h3 hwk (by omega) hw
      cases h5 with
      | refl => exact h3
      | step _ h6 => have := T.anc_le h6 (by omega); omega
/-- One that waited is handled. -/
theorem hand_of {P w x : Nat} (T : TreeP k E par) (S : EarlyP P k E par early) (h0 : 0 < P) (hP : P < k) (hw : P ≤ w) (hwk : w < k) (he : early w = par P) (hc : ∀ c, P + 1 ≤ c → par c = par P → ¬ AncP par c w) (hb : BestP par P early w x) (near : Nat → Nat) (hn : near w = if early x < par P then x else par P) : HandP par P early near w := by
  have hbw := wait_below T S h0 hP hw hwk he hc
  have hPl := T.par_lt P h0 hP
  rcases hb with ⟨h1, _⟩ | ⟨_, h2, h3, h4⟩
  · omega
  · have hx := h4 w .refl hw
    have hyP : ∀ y, AncP par y w → early w < y → P ≤ y := fun y hy hly => by
      apply Classical.byContradiction
      intro h5
      have h6 := T.both hy hbw hwk (by omega)
      cases h6 with
      | refl => omega
      | step _ h7 => have := T.anc_le h7 (by omega); omega
    refine ⟨x, h2, by omega, fun y hy hly => ⟨hyP y hy hly, h4 y hy (hyP y hy hly)⟩, ?_⟩
    rw [he] at hx ⊢
    by_cases h5 : early x < par P
    · rw [if_pos h5] at hn; exact .inr ⟨h5, hn⟩
    · rw [if_neg h5] at hn; exact .inl ⟨by omega, hn⟩
/-- Those that wait while a place is handled: it itself besides. -/
theorem NrI.waits {P e : Nat} (T : TreeP k E par) (N : NrI k (P + 1) E par early near W) (hP : P < k) :
    ∀ s, ∀ w ∈ updF W e (W e ++ [P]) s, P ≤ w ∧ w < k ∧ updF early P e w = s ∧ ∀ c, P + 1 ≤ c → par c = s → ¬ AncP par c w := by
  intro s w hw
  have old : ∀ s, w ∈ W s → P ≤ w ∧ w < k ∧ updF early P e w = s ∧ ∀ c, P + 1 ≤ c → par c = s → ¬ AncP par c w := fun s hw => by
    obtain ⟨h1, h2, h3, h4⟩ := N.wait s w hw
    exact ⟨by omega, h2, by rw [updF_else _ _ (by omega)]; exact h3, h4⟩
  by_cases e1 : s = e
  · subst e1
    rw [updF_here] at hw
    rcases List.mem_append.1 hw with hw | hw
    · exact old s hw
    · rw [List.mem_singleton.1 hw]
      exact ⟨Nat.le_refl _, hP, updF_here _ _ _, fun c hc _ h => by have := T.anc_le h hP; omega⟩
  · rw [updF_else _ _ e1] at hw
    exact old s hw
theorem NrI.next {P e : Nat} {near' : Nat → Nat} (T : TreeP k E par) (N : NrI k (P + 1) E par early near W) (h0 : 0 < P) (hP : P < k) (S : EarlyP P k E par (updF early P e))
    (hh : ∀ w ∈ updF W e (W e ++ [P]) (par P), HandP par P (updF early P e) near' w) (hk : ∀ w, w ∉ updF W e (W e ++ [P]) (par P) → near' w = near w) :
    NrI k P E par (updF early P e) near' (updF (updF W e (W e ++ [P])) (par P) []) := by
  have hwt := N.waits (e := e) T hP
  have hPl := T.par_lt P h0 hP
  have hin : ∀ w, P ≤ w → w < k → w ∈ updF W e (W e ++ [P]) (updF early P e w) ∨ HandP par (P + 1) early near w := fun w hw hwk => by
    by_cases e3 : w = P
    · subst e3; left; rw [updF_here, updF_here]; simp
    · rw [updF_else _ _ e3]
      rcases N.got w (by omega) hwk with h1 | h1
      · left
        by_cases e4 : early w = e
        · rw [e4, updF_here]; rw [e4] at h1; simp [h1]
        · rw [updF_else _ _ e4]; exact h1
      · exact .inr h1
  refine ⟨fun v hv => by rw [updF_else _ _ (by omega)]; exact N.fresh v (by omega), S, fun s w hw => ?_, fun w hw hwk => ?_, ?_, fun s => ?_⟩
  · by_cases e1 : s = par P
    · subst e1; rw [updF_here] at hw; cases hw
    · rw [updF_else _ _ e1] at hw
      obtain ⟨h1, h2, h3, h4⟩ := hwt s w hw
      refine ⟨h1, h2, h3, fun c hc hp => ?_⟩
      by_cases e2 : c = P
      · subst e2; exact absurd hp.symm e1
      · exact h4 c (by omega) hp
  · by_cases e2 : w ∈ updF W e (W e ++ [P]) (par P)
    · exact .inr (hh w e2)
    · rcases hin w hw hwk with h1 | ⟨x, h1, h2, h3, h4⟩
      · left
        by_cases e4 : updF early P e w = par P
        · rw [e4] at h1; exact absurd h1 e2
        · rw [updF_else _ _ e4]; exact h1
      · right
        have hwP : w ≠ P := fun e3 => by have := (h3 w .refl (by have := T.anc_le h1 hwk; omega)).1; omega
        have hxP := (h3 x h1 h2).1
        refine ⟨x, h1, by rw [updF_else _ _ hwP]; exact h2, fun y hy hly => ?_, ?_⟩
        · rw [updF_else _ _ hwP] at hly
          obtain ⟨h5, h6⟩ := h3 y hy hly
          rw [updF_else _ _ (by omega), updF_else _ _ (by omega)]
          exact ⟨by omega, h6⟩
        · rw [updF_else _ _ hwP, updF_else _ _ (by omega), hk w e2]; exact h4
  · rw [hk 0 (fun h => by have := (hwt _ _ h).1; omega)]; exact N.zero
  · have h1 := N.few s
    by_cases e1 : s = par P
    · subst e1; rw [updF_here]; simp; omega
    · rw [updF_else _ _ e1]
      by_cases e2 : s = e
      · subst e2; rw [updF_here]; simp; omega
      · rw [updF_else _ _ e2]; omega

/-! ### The nearest -/
/-- How far the second way has come: j. -/
structure NdI (k : Nat) (par early near0 near : Nat → Nat) (j : Nat) : Prop where
  done : ∀ w, 0 < w → w < j → w < k → ∃ x, AncP par x w ∧ early w < x ∧ (∀ y, AncP par y w → early w < y → early x ≤ early y) ∧ ((early x = early w ∧ near w = early w) ∨ (early x < early w ∧ x < w ∧ near w = near x))
  left : ∀ w, j ≤ w → near w = near0 w
  zero : near 0 = 0
theorem NrI.hand (T : TreeP k E par) (N : NrI k 1 E par early near W) : ∀ w, 0 < w → w < k → HandP par 1 early near w := fun w h0 hw => by
  rcases N.got w h0 hw with h | h
  · exfalso
    obtain ⟨h1, h2, h3, h4⟩ := N.wait _ w h
    have ha := N.ear.anc T h0 hw
    have hl := N.ear.lt T h0 hw
    rcases anc_child ha with h5 | ⟨c, h5, h6, h7⟩
    · omega
    · exact h4 c h6 h5 h7
  · exact h
/-- What a place has at first: its early one, or one above it with an earlier one. -/
theorem NrI.pick (T : TreeP k E par) (N : NrI k 1 E par early near W) {w : Nat} (h0 : 0 < w) (hw : w < k) : near w < w := by
  obtain ⟨x, h1, h2, h3, ⟨h4, h5⟩ | ⟨h4, h5⟩⟩ := N.hand T w h0 hw
  · have := N.ear.lt T h0 hw; omega
  · have := T.anc_le h1 hw
    have : x ≠ w := fun e => by subst e; omega
    omega
theorem NdI.start (N : NrI k 1 E par early near W) : NdI k par early near near 0 := ⟨fun w h0 h1 => by omega, fun _ _ => rfl, N.zero⟩
theorem NdI.step (T : TreeP k E par) {near0 : Nat → Nat} (N : NrI k 1 E par early near0 W) {j : Nat} (h : NdI k par early near0 near j) (hj : j < k) :
    NdI k par early near0 (if near j = early j then near else updF near j (near (near j))) (j + 1) := by
  have hj0 := h.left j (Nat.le_refl _)
  rcases Nat.eq_zero_or_pos j with h0 | h0
  · subst h0
    rw [if_pos (by rw [h.zero, N.fresh 0 (by omega)])]
    exact ⟨fun w h1 h2 => by omega, fun w hw => h.left w (by omega), h.zero⟩
  · have hpick := N.pick T h0 hj
    obtain ⟨x, h1, h2, h3, h4⟩ := N.hand T j h0 hj
    have hlt := N.ear.lt T h0 hj
    rcases h4 with ⟨h4, h5⟩ | ⟨h4, h5⟩
    · rw [if_pos (by omega)]
      refine ⟨fun w hw hwj hwk => ?_, fun w hw => h.left w (by omega), h.zero⟩
      by_cases e : w = j
      · subst e
        exact ⟨x, h1, h2, fun y hy hly => (h3 y hy hly).2, .inl ⟨h4, by omega⟩⟩
      · exact h.done w hw (by omega) hwk
    · have hnx : near j = x := by omega
      rw [if_neg (by omega), hnx]
      have hxj : x < j := by omega
      refine ⟨fun w hw hwj hwk => ?_, fun w hw => by rw [updF_else _ _ (by omega)]; exact h.left w (by omega), by rw [updF_else _ _ (by omega)]; exact h.zero⟩
      by_cases e : w = j
      · subst e
        exact ⟨x, h1, h2, fun y hy hly => (h3 y hy hly).2, .inr ⟨h4, hxj, by rw [updF_here, updF_else _ _ (by omega)]⟩⟩
      · obtain ⟨z, z1, z2, z3, z4⟩ := h.done w hw (by omega) hwk
        refine ⟨z, z1, z2, z3, ?_⟩
        rw [updF_else _ _ e]
        rcases z4 with z4 | ⟨z4, z5, z6⟩
        · exact .inl z4
        · exact .inr ⟨z4, z5, by rw [updF_else _ _ (by omega)]; exact z6⟩
theorem NdI.all {near0 : Nat → Nat} (h : NdI k par early near0 near k) : NearP k par early near := fun w h0 hw => h.done w h0 hw hw
end Go.Proofs.Ytflbooopgjgkbaa

/- What can be come to, by going round often enough, in mathematics. No condition. -/
namespace Go.Proofs.Ytflbooopgjgkbaa
set_option linter.unusedVariables false

def mkW (w : Int) (S : Nat → Bool) (t : Nat) : Nat → Bool := if (t : Int) = w then S else mark S t
def fromA (nx : Nat → List Nat) (w : Int) (S : Nat → Bool) (a : Nat) : Nat → Bool := if S a = true then (nx a).foldl (mkW w) S else S
def fromR (nx : Nat → List Nat) (w : Int) (n : Nat) (S : Nat → Bool) : Nat → Bool := (List.range n).foldl (fromA nx w) S
def fromN (nx : Nat → List Nat) (w : Int) (n b : Nat) : Nat → Nat → Bool
  | 0 => mark noneSeen b
  | i + 1 => fromR nx w n (fromN nx w n b i)
/-- Without going by one. -/
def nxW (nx : Nat → List Nat) (w : Int) (a : Nat) : List Nat := (nx a).filter fun t : Nat => decide ((t : Int) ≠ w)
theorem nxW_mem {nx : Nat → List Nat} {w : Int} {a t : Nat} : t ∈ nxW nx w a ↔ t ∈ nx a ∧ (t : Int) ≠ w := by
  unfold nxW; rw [List.mem_filter]; simp

theorem mkW_of {w : Int} {S : Nat → Bool} {t x : Nat} (h : S x = true) : mkW w S t x = true := by
  unfold mkW; split
  · exact h
  · exact mark_of h
theorem foldW_of {w : Int} {l : List Nat} : ∀ {S : Nat → Bool} {x : Nat}, S x = true → l.foldl (mkW w) S x = true := by
  induction l with
  | nil => exact fun h => h
  | cons t l ih => exact fun h => ih (mkW_of h)
theorem foldW_mem {w : Int} {l : List Nat} : ∀ {S : Nat → Bool} {t : Nat}, t ∈ l → (t : Int) ≠ w → l.foldl (mkW w) S t = true := by
  induction l with
  | nil => intro S t h; cases h
  | cons y l ih =>
    intro S t h hw
    rcases List.mem_cons.1 h with rfl | h
    · rw [List.foldl_cons]
      exact foldW_of (by unfold mkW; rw [if_neg hw]; exact mark_same _ _)
    · exact ih h hw
theorem foldW_inv {w : Int} {l : List Nat} : ∀ {S : Nat → Bool} {x : Nat}, l.foldl (mkW w) S x = true → S x = true ∨ (x ∈ l ∧ (x : Int) ≠ w) := by
  induction l with
  | nil => exact fun h => .inl h
  | cons y l ih =>
    intro S x h
    rcases ih h with h1 | ⟨h1, h2⟩
    · unfold mkW at h1
      split at h1
      · exact .inl h1
      · rename_i hne
        rcases mark_cases h1 with rfl | h1
        · exact .inr ⟨by simp, hne⟩
        · exact .inl h1
    · exact .inr ⟨by simp [h1], h2⟩
theorem fromA_of {nx : Nat → List Nat} {w : Int} {S : Nat → Bool} {a x : Nat} (h : S x = true) : fromA nx w S a x = true := by
  unfold fromA; split
  · exact foldW_of h
  · exact h
theorem foldA_of {nx : Nat → List Nat} {w : Int} {l : List Nat} : ∀ {S : Nat → Bool} {x : Nat}, S x = true → l.foldl (fromA nx w) S x = true := by
  induction l with
  | nil => exact fun h => h
  | cons t l ih => exact fun h => ih (fromA_of h)
theorem foldA_mem {nx : Nat → List Nat} {w : Int} {l : List Nat} : ∀ {S : Nat → Bool} {a t : Nat}, a ∈ l → S a = true → t ∈ nx a → (t : Int) ≠ w → l.foldl (fromA nx w) S t = true := by
  induction l with
  | nil => intro S a t h; cases h
  | cons y l ih =>
    intro S a t h hs ht hw
    rcases List.mem_cons.1 h with rfl | h
    · rw [List.foldl_cons]
      exact foldA_of (by unfold fromA; rw [if_pos hs]; exact foldW_mem ht hw)
    · exact ih h (fromA_of hs) ht hw
theorem foldA_inv {nx : Nat → List Nat} {w : Int} {p : Nat → Prop} {l : List Nat} : (∀ a t, a ∈ l → p a → t ∈ nx a → (t : Int) ≠ w → p t) → ∀ {S : Nat → Bool}, (∀ x, S x = true → p x) → ∀ x, l.foldl (fromA nx w) S x = true → p x := by
  induction l with
  | nil => exact fun _ _ h => h
  | cons y l ih =>
    intro hp S h
    refine ih (fun a t ha => hp a t (by simp [ha])) fun x hx => ?_
    unfold fromA at hx
    split at hx
    · rename_i hy
      rcases foldW_inv hx with h1 | ⟨h1, h2⟩
      · exact h x h1
      · exact hp y x (by simp) (h y hy) h1 h2
    · exact h x hx

def ClosedG (nx : Nat → List Nat) (w : Int) (n : Nat) (S : Nat → Bool) : Prop := ∀ a t, a < n → S a = true → t ∈ nx a → (t : Int) ≠ w → S t = true
theorem unseen_less {n : Nat} {S S' : Nat → Bool} (h : ∀ x, S x = true → S' x = true) {t : Nat} (ht : t < n) (h1 : S t = false) (h2 : S' t = true) : unseen n S' + 1 ≤ unseen n S := by
  rw [unseen_mark h1 ht]
  have : unseen n S' ≤ unseen n (mark S t) := unseen_mono fun x hx => by
    rcases mark_cases hx with rfl | hx
    · exact h2
    · exact h x hx
  omega
theorem from_step {nx : Nat → List Nat} {n : Nat} (hnx : ∀ x, ∀ t ∈ nx x, t < n) {w : Int} {b : Nat} (hb : b < n) : ∀ i : Nat, ClosedG nx w n (fromN nx w n b i) ∨ unseen n (fromN nx w n b i) + i + 1 ≤ n := by
  intro i
  induction i with
  | zero =>
    right
    have h := unseen_mark (S := noneSeen) (b := b) rfl hb
    have h2 := unseen_le n noneSeen
    show unseen n (mark noneSeen b) + 0 + 1 ≤ n
    omega
  | succ i ih =>
    generalize hS : fromN nx w n b i = S at ih
    have hS' : fromN nx w n b (i + 1) = fromR nx w n S := by rw [← hS]; rfl
    rw [hS']
    by_cases hc : ClosedG nx w n S
    · left
      have hup : ∀ x, fromR nx w n S x = true → S x = true :=
        foldA_inv (p := fun x => S x = true) (fun a t ha hs ht hw => hc a t (List.mem_range.1 ha) hs ht hw) (fun x hx => hx)
      intro a t ha hs ht hw
      exact foldA_of (hc a t ha (hup a hs) ht hw)
    · rcases ih with ih | ih
      · exact absurd ih hc
      · right
        have : ∃ a t, a < n ∧ S a = true ∧ t ∈ nx a ∧ (t : Int) ≠ w ∧ S t = false := by
          apply Classical.byContradiction
          intro h
          apply hc
          intro a t ha hs ht hw
          cases h2 : S t
          · exact absurd ⟨a, t, ha, hs, ht, hw, h2⟩ h
          · rfl
        obtain ⟨a, t, ha, hs, ht, hw, h2⟩ := this
        have := unseen_less (S := S) (S' := fromR nx w n S) (fun x hx => foldA_of hx) (hnx a t ht) h2 (foldA_mem (List.mem_range.2 ha) hs ht hw)
        omega
theorem fromN_of {nx : Nat → List Nat} {w : Int} {n b : Nat} : ∀ i : Nat, fromN nx w n b i b = true
  | 0 => mark_same _ _
  | i + 1 => foldA_of (fromN_of i)
theorem fromN_reach {nx : Nat → List Nat} {w : Int} {n b : Nat} : ∀ (i x : Nat), fromN nx w n b i x = true → Reach (nxW nx w) b x
  | 0, x, h => by
    rcases mark_cases h with rfl | h
    · exact .refl
    · cases h
  | i + 1, x, h => foldA_inv (p := Reach (nxW nx w) b) (fun a t _ ha ht hw => .step ha (nxW_mem.2 ⟨ht, hw⟩)) (fun y hy => fromN_reach i y hy) x h
/-- Gone round as often as there are blocks: what can be come to. -/
theorem fromN_iff {nx : Nat → List Nat} {n : Nat} (hnx : ∀ x, ∀ t ∈ nx x, t < n) {w : Int} {b : Nat} (hb : b < n) (x : Nat) : fromN nx w n b n x = true ↔ Reach (nxW nx w) b x := by
  refine ⟨fromN_reach n x, fun h => ?_⟩
  rcases from_step hnx (w := w) hb n with hc | hc
  · have hlt : ∀ y, Reach (nxW nx w) b y → y < n := fun y hy => by
      cases hy with
      | refl => exact hb
      | step _ h => exact hnx _ _ (nxW_mem.1 h).1
    induction h with
    | refl => exact fromN_of n
    | step h1 h2 ih => exact hc _ _ (hlt _ h1) ih (nxW_mem.1 h2).1 (nxW_mem.1 h2).2
  · omega
theorem nxW_any (nx : Nat → List Nat) (w : Int) (hw : w < 0) : nxW nx w = nx := by
  funext a
  unfold nxW
  rw [List.filter_eq_self]
  intro t _
  simp; omega
theorem fromN_reachB {nx : Nat → List Nat} {n : Nat} (hnx : ∀ x, ∀ t ∈ nx x, t < n) (hn : 0 < n) (x : Nat) : fromN nx (-1) n 0 n x = reachB nx n x := by
  have h1 := fromN_iff hnx (w := -1) (b := 0) hn x
  rw [nxW_any nx (-1) (by omega), ← orderL_mem hnx (by omega)] at h1
  unfold reachB
  rw [Bool.eq_iff_iff, decide_eq_true_iff]
  exact h1
end Go.Proofs.Ytflbooopgjgkbaa
