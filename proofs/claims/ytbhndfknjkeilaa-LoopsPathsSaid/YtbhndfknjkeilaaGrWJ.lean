/- Going to all blocks that are reached, each by its place, in mathematics. No condition. -/
import Derived.Test.YtbhndfknjkeilaaDmMJ
import Derived.Test.YtbhndfknjkeilaaGrFJ
import Derived.OrdersHeld
import Derived.RegionTactic
import Derived.Lib.Hide
import Derived.StillTailTactics
import Derived.Deep.RegionHeld3
namespace Go.Proofs.Ytbhndfknjkeilaa
set_option linter.unusedVariables false

def updF {α : Type} (f : Nat → α) (k : Nat) (x : α) : Nat → α := fun v => if v = k then x else f v
theorem updF_here {α : Type} (f : Nat → α) (k : Nat) (x : α) : updF f k x k = x := by simp [updF]
theorem updF_else {α : Type} (f : Nat → α) {k v : Nat} (x : α) (h : v ≠ k) : updF f k x v = f v := by simp [updF, h]
theorem AncP.congr {par par' : Nat → Nat} {k a c : Nat} (h : AncP par a c) (hc : c < k) (hlt : ∀ v, 0 < v → v < k → par v < v) (he : ∀ v, v < k → par' v = par v) : AncP par' a c := by
  induction h with
  | refl => exact .refl
  | @step v h0 _ ih =>
    have := hlt _ h0 hc
    exact .step h0 (by rw [he _ hc]; exact ih (by omega))

/-- How far it has gone: k places; what lies open, the last first. -/
structure TvI (nx : Nat → List Nat) (n k : Nat) (bl par : Nat → Nat) (ah : Nat → List Nat) (pl : Nat → Int) (op : List (Int × Nat)) (g : Nat) : Prop where
  plc : ∀ b, b < n → pl b = -1 ∨ ∃ p, p < k ∧ pl b = (p : Int) ∧ bl p = b
  blk : ∀ p, p < k → bl p < n ∧ pl (bl p) = (p : Int)
  parl : ∀ v, 0 < v → v < k → par v < v ∧ bl v ∈ nx (bl (par v))
  up : ∀ u v, u < v → v < k → bl v ∈ nx (bl u) → AncP par u v
  mid : ∀ a b c, AncP par a c → c < k → a ≤ b → b ≤ c → AncP par a b
  opn : ∀ e ∈ op, e.2 < n ∧ ((e.1 = -1 ∧ k = 0 ∧ e.2 = 0) ∨ ∃ u : Nat, u < k ∧ e.1 = (u : Int) ∧ e.2 ∈ nx (bl u) ∧ AncP par u (k - 1))
  sort : op.Pairwise (fun e e' => e.1 ≤ e'.1)
  done : ∀ u, u < k → ∀ t ∈ nx (bl u), ((u : Int), t) ∈ op ∨ ∃ p : Nat, pl t = (p : Int) ∧ u ∈ ah p
  ahd : ∀ p, p < k → ∀ u ∈ ah p, u < k ∧ bl p ∈ nx (bl u)
  first : (0 < k → bl 0 = 0) ∧ (k = 0 → op = [(-1, 0)])
  kn : k ≤ n
  num : g = (n - k) * (n + 1) + op.length
  few : ∀ p, p < k → (ah p).length + g ≤ n * (n + 1) + 1

variable {nx : Nat → List Nat} {n k : Nat} {bl par : Nat → Nat} {ah : Nat → List Nat} {pl : Nat → Int} {op : List (Int × Nat)} {g : Nat}
theorem TvI.start (nx : Nat → List Nat) {n : Nat} (hn : 0 < n) (bl par : Nat → Nat) (ah : Nat → List Nat) : TvI nx n 0 bl par ah (fun _ => -1) [(-1, 0)] (n * (n + 1) + 1) :=
  ⟨fun _ _ => .inl rfl, fun p h => by omega, fun v h1 h2 => by omega, fun u v h1 h2 => by omega, fun a b c _ h => by omega,
   fun e he => by rw [List.mem_singleton.1 he]; exact ⟨hn, .inl ⟨rfl, rfl, rfl⟩⟩, by simp, fun u h => by omega, fun p h => by omega, ⟨fun h => by omega, fun _ => rfl⟩, by omega, by simp, fun p h => by omega⟩
theorem TvI.placed (h : TvI nx n k bl par ah pl op g) {b : Nat} (hb : b < n) (hp : 0 ≤ pl b) : ∃ p, p < k ∧ pl b = (p : Int) ∧ bl p = b := by
  rcases h.plc b hb with h1 | h1
  · omega
  · exact h1
theorem mem_op {op : List (Int × Nat)} {e x : Int × Nat} (h : x ∈ op ++ [e]) : x ∈ op ∨ x = e := by simpa using h
/-- One that was come to already. -/
theorem TvI.old {e : Int × Nat} (h : TvI nx n k bl par ah pl (op ++ [e]) g) {p : Nat} (hp : pl e.2 = (p : Int)) :
    ∃ u : Nat, e.1 = (u : Int) ∧ p < k ∧ u < k ∧ ∃ g', g' < g ∧ TvI nx n k bl par (updF ah p (ah p ++ [u])) pl op g' := by
  obtain ⟨he2, he⟩ := h.opn e (by simp)
  obtain ⟨p', hp', hpe, hbl⟩ := h.placed he2 (by omega)
  obtain rfl : p' = p := by omega
  rcases he with ⟨h1, h2, h3⟩ | ⟨u, hu, hue, hun, hua⟩
  · omega
  refine ⟨u, hue, hp', hu, g - 1, by have := h.num; simp at this; omega, ?_⟩
  refine ⟨h.plc, h.blk, h.parl, h.up, h.mid, fun x hx => h.opn x (by simp [hx]), (List.pairwise_append.1 h.sort).1, fun v hv t ht => ?_, fun q hq x hx => ?_, ⟨h.first.1, fun h0 => by omega⟩, h.kn, by have := h.num; simp at this ⊢; omega, fun q hq => ?_⟩
  · rcases h.done v hv t ht with h1 | ⟨q, h1, h2⟩
    · rcases mem_op h1 with h1 | h1
      · exact .inl h1
      · right
        have h3 : (v : Int) = e.1 := by rw [← h1]
        have h4 : t = e.2 := by rw [← h1]
        refine ⟨p', by rw [h4]; exact hp, ?_⟩
        rw [updF_here]
        have : v = u := by omega
        subst this; simp
    · right
      refine ⟨q, h1, ?_⟩
      by_cases e : q = p'
      · subst e; rw [updF_here]; simp [h2]
      · rw [updF_else _ _ e]; exact h2
  · by_cases e1 : q = p'
    · subst e1
      rw [updF_here] at hx
      rcases List.mem_append.1 hx with hx | hx
      · exact h.ahd q hq x hx
      · rw [List.mem_singleton.1 hx, hbl]; exact ⟨hu, hun⟩
    · rw [updF_else _ _ e1] at hx; exact h.ahd q hq x hx
  · have h1 := h.few q hq
    have h2 := h.num
    by_cases e1 : q = p'
    · subst e1; rw [updF_here]; simp at h2 ⊢; omega
    · rw [updF_else _ _ e1]; omega
/-- One that is new. -/
theorem TvI.new {e : Int × Nat} (h : TvI nx n k bl par ah pl (op ++ [e]) g) (hnx : ∀ x, ∀ t ∈ nx x, t < n) (hlen : ∀ x, (nx x).length ≤ n) (hp : pl e.2 = -1) :
    k < n ∧ e.2 < n ∧ ∃ g', g' < g ∧ TvI nx n (k + 1) (updF bl k e.2) (updF par k e.1.toNat) (updF ah k (if e.1 < 0 then [] else [e.1.toNat])) (updF pl e.2 k) (op ++ (nx e.2).map fun t => ((k : Int), t)) g' := by
  obtain ⟨he2, he⟩ := h.opn e (by simp)
  have hk : k < n := by
    apply Classical.byContradiction
    intro hk
    -- all places would be taken
    have hkn : k = n := by have := h.kn; omega
    have hinj : ((List.range k).map bl).Nodup := by
      rw [List.nodup_iff_pairwise_ne, List.pairwise_map]
      refine List.Pairwise.imp_of_mem (fun {a b} ha hb hab hh => ?_) (List.nodup_range (n := k))
      have h1 := h.blk a (List.mem_range.1 ha)
      have h2 := h.blk b (List.mem_range.1 hb)
      rw [hh] at h1
      exact hab (by omega)
    have hni : e.2 ∉ (List.range k).map bl := fun hm => by
      obtain ⟨a, ha, hb⟩ := List.mem_map.1 hm
      have := h.blk a (List.mem_range.1 ha)
      rw [hb] at this; omega
    have := List.Nodup.length_le_of_subset (List.nodup_cons.2 ⟨hni, hinj⟩) (l₂ := List.range n) (fun x hx => by
      rcases List.mem_cons.1 hx with rfl | hx
      · exact List.mem_range.2 he2
      · obtain ⟨a, ha, rfl⟩ := List.mem_map.1 hx
        exact List.mem_range.2 (h.blk a (List.mem_range.1 ha)).1)
    simp at this; omega
  have hne : ∀ p, p < k → bl p ≠ e.2 := fun p hpk hh => by have := (h.blk p hpk).2; rw [hh] at this; omega
  have hcg : ∀ {a c : Nat}, AncP par a c → c < k → AncP (updF par k e.1.toNat) a c := fun ha hc => ha.congr hc (fun v h1 h2 => (h.parl v h1 h2).1) (fun v hv => updF_else _ _ (by omega))
  have hcg' : ∀ {a c : Nat}, AncP (updF par k e.1.toNat) a c → c < k → AncP par a c := fun ha hc => ha.congr hc (fun v h1 h2 => by rw [updF_else _ _ (by omega)]; exact (h.parl v h1 h2).1) (fun v hv => (updF_else _ _ (by omega)).symm)
  have hle : ∀ {a c : Nat}, AncP par a c → c < k → a ≤ c := by
    intro a c ha
    induction ha with
    | refl => intro _; omega
    | @step v h0 _ ih => intro hv; have := (h.parl v h0 hv).1; have := ih (by omega); omega
  -- the new one's tree
  have htop : 0 < k → e.1.toNat < k ∧ AncP par e.1.toNat (k - 1) ∧ e.2 ∈ nx (bl e.1.toNat) ∧ 0 ≤ e.1 := fun h0 => by
    rcases he with ⟨_, h2, _⟩ | ⟨u, hu, hue, hun, hua⟩
    · omega
    · have : e.1.toNat = u := by omega
      rw [this]; exact ⟨hu, hua, hun, by omega⟩
  have hsort : ∀ x ∈ op, x.1 ≤ e.1 := fun x hx => (List.pairwise_append.1 h.sort).2.2 x hx e (by simp)
  have hop0 : k = 0 → op = [] ∧ e = (-1, 0) := fun h0 => by
    have h1 := h.first.2 h0
    have h2 : op = [] := by
      have := congrArg List.length h1
      simp at this; exact this
    subst h2; simpa using h1
  -- whoever is above the last and not behind the top is above the new one
  have hanc : ∀ u, u < k → AncP par u (k - 1) → (u : Int) ≤ e.1 → AncP (updF par k e.1.toNat) u k := fun u hu ha hle' => by
    obtain ⟨h1, h2, h3, h4⟩ := htop (by omega)
    refine .step (by omega) ?_
    rw [updF_here]
    exact hcg (h.mid _ _ _ ha (by omega) (by omega) (by omega)) h1
  have hg := h.num
  have hgle : (n - k) * (n + 1) = (n - (k + 1)) * (n + 1) + (n + 1) := by
    rw [← Nat.succ_mul]; congr 1; omega
  have hl2 := hlen e.2
  refine ⟨hk, he2, (n - (k + 1)) * (n + 1) + (op.length + (nx e.2).length), by simp at hg; omega, ?_⟩
  refine ⟨fun b hb => ?_, fun p hpk => ?_, fun v h0 hv => ?_, fun u v huv hv hE => ?_, fun a b c ha hc hab hbc => ?_, fun x hx => ?_, ?_, fun u hu t ht => ?_, fun p hpk x hx => ?_, ⟨fun _ => ?_, fun h0 => by omega⟩, by omega, by simp, fun p hpk => ?_⟩
  · by_cases e1 : b = e.2
    · subst e1; right; exact ⟨k, by omega, updF_here _ _ _, updF_here _ _ _⟩
    · rw [updF_else _ _ e1]
      rcases h.plc b hb with h1 | ⟨p, h1, h2, h3⟩
      · exact .inl h1
      · exact .inr ⟨p, by omega, h2, by rw [updF_else _ _ (by omega)]; exact h3⟩
  · by_cases e1 : p = k
    · subst e1; rw [updF_here]; exact ⟨he2, updF_here _ _ _⟩
    · have hpk' : p < k := by omega
      rw [updF_else _ _ e1, updF_else _ _ (hne p hpk')]
      exact h.blk p hpk'
  · by_cases e1 : v = k
    · subst e1
      obtain ⟨h1, h2, h3, h4⟩ := htop h0
      rw [updF_here, updF_here, updF_else _ _ (by omega)]
      exact ⟨h1, h3⟩
    · have := h.parl v h0 (by omega)
      rw [updF_else _ _ e1, updF_else _ _ e1, updF_else _ _ (by omega)]
      exact this
  · by_cases e1 : v = k
    · subst e1
      rw [updF_here, updF_else _ _ (by omega)] at hE
      rcases h.done u huv _ hE with h1 | ⟨p, h1, h2⟩
      · rcases mem_op h1 with h1 | h1
        · obtain ⟨-, hq⟩ := h.opn ((u : Int), e.2) (List.mem_append_left _ h1)
          rcases hq with ⟨h2, _⟩ | ⟨u', hu', hue', _, hua'⟩
          · have h2 : (u : Int) = -1 := h2; omega
          · have hue' : (u : Int) = (u' : Int) := hue'
            have : u' = u := by omega
            subst this
            exact hanc _ huv hua' (hsort _ h1)
        · obtain ⟨h2, h3, -, -⟩ := htop (by omega)
          have h4 : (u : Int) = e.1 := by rw [← h1]
          have : e.1.toNat = u := by omega
          rw [this] at h3
          exact hanc u huv h3 (by omega)
      · omega
    · rw [updF_else _ _ e1, updF_else _ _ (by omega)] at hE
      exact hcg (h.up u v huv (by omega) hE) (by omega)
  · by_cases e1 : c = k
    · subst e1
      by_cases e2 : b = c
      · subst e2; exact ha
      · cases ha with
        | refl => omega
        | step h0 ha =>
          obtain ⟨h1, h2, h3, h4⟩ := htop (by omega)
          rw [updF_here] at ha
          have ha' := hcg' ha h1
          have ha2 := ha'.trans h2
          exact hcg (h.mid a b (c - 1) ha2 (by omega) hab (by omega)) (by omega)
    · exact hcg (h.mid a b c (hcg' ha (by omega)) (by omega) hab hbc) (by omega)
  · rcases List.mem_append.1 hx with hx | hx
    · obtain ⟨h1, h2⟩ := h.opn x (by simp [hx])
      refine ⟨h1, ?_⟩
      rcases h2 with ⟨_, h3, _⟩ | ⟨u, hu, hue, hun, hua⟩
      · rw [(hop0 h3).1] at hx; cases hx
      · right
        refine ⟨u, by omega, hue, by rw [updF_else _ _ (by omega)]; exact hun, ?_⟩
        have := hsort x hx
        exact hanc u hu hua (by omega)
    · obtain ⟨t, ht, rfl⟩ := List.mem_map.1 hx
      exact ⟨hnx _ t ht, .inr ⟨k, by omega, rfl, by rw [updF_here]; exact ht, .refl⟩⟩
  · rw [List.pairwise_append]
    refine ⟨(List.pairwise_append.1 h.sort).1, ?_, fun x hx y hy => ?_⟩
    · rw [List.pairwise_map]
      exact List.pairwise_of_forall (fun _ _ => Int.le_refl _)
    · obtain ⟨t, ht, rfl⟩ := List.mem_map.1 hy
      obtain ⟨-, h2⟩ := h.opn x (by simp [hx])
      rcases h2 with ⟨h3, _⟩ | ⟨u, hu, hue, _⟩
      · show x.1 ≤ (k : Int); omega
      · show x.1 ≤ (k : Int); omega
  · by_cases e1 : u = k
    · subst e1
      rw [updF_here] at ht
      exact .inl (List.mem_append_right _ (List.mem_map.2 ⟨t, ht, rfl⟩))
    · have hu' : u < k := by omega
      rw [updF_else _ _ e1] at ht
      rcases h.done u hu' t ht with h1 | ⟨p, h1, h2⟩
      · rcases mem_op h1 with h1 | h1
        · exact .inl (List.mem_append_left _ h1)
        · right
          have h4 : (u : Int) = e.1 := by rw [← h1]
          have h5 : t = e.2 := by rw [← h1]
          refine ⟨k, by rw [h5]; exact updF_here _ _ _, ?_⟩
          rw [updF_here, if_neg (by omega)]
          simp; omega
      · right
        have h3 : t ≠ e.2 := fun e => by rw [e] at h1; omega
        refine ⟨p, by rw [updF_else _ _ h3]; exact h1, ?_⟩
        have hpk : p < k := by
          obtain ⟨p', h4, h5, -⟩ := h.placed (hnx _ t ht) (by omega); omega
        rw [updF_else _ _ (by omega)]; exact h2
  · by_cases e1 : p = k
    · subst e1
      rw [updF_here] at hx
      split at hx
      · cases hx
      · rename_i hge
        have h0 : 0 < p := by
          rcases Nat.eq_zero_or_pos p with h0 | h0
          · rw [(hop0 h0).2] at hge; simp at hge
          · exact h0
        obtain ⟨h1, h2, h3, h4⟩ := htop h0
        rw [List.mem_singleton.1 hx, updF_here, updF_else _ _ (by omega)]
        exact ⟨by omega, h3⟩
    · rw [updF_else _ _ e1] at hx
      have := h.ahd p (by omega) x hx
      rw [updF_else _ _ e1, updF_else _ _ (by omega)]
      exact ⟨by omega, this.2⟩
  · by_cases e1 : k = 0
    · subst e1; rw [updF_here, (hop0 rfl).2]
    · rw [updF_else _ _ (by omega)]; exact h.first.1 (by omega)
  · have hkk : (n - k) * (n + 1) ≤ n * (n + 1) := Nat.mul_le_mul_right _ (by omega)
    by_cases e1 : p = k
    · subst e1
      rw [updF_here]
      have h9 : (if e.1 < 0 then [] else [e.1.toNat] : List Nat).length ≤ 1 := by split <;> simp
      simp at hg
      rcases Nat.eq_zero_or_pos p with h6 | h6
      · subst h6
        have := (hop0 rfl).1
        subst this
        simp at hg ⊢
        have h10 : n * (n + 1) = (n - 1) * (n + 1) + (n + 1) := by rw [← Nat.succ_mul]; congr 1; omega
        omega
      · have h7 := h.few 0 h6
        omega
    · rw [updF_else _ _ e1]
      have := h.few p (by omega)
      simp at hg; omega

/-- All gone through. -/
def EdgeP (nx : Nat → List Nat) (k : Nat) (bl : Nat → Nat) (u v : Nat) : Prop := u < k ∧ v < k ∧ bl v ∈ nx (bl u)
structure TvE (nx : Nat → List Nat) (n k : Nat) (bl par : Nat → Nat) (ah : Nat → List Nat) (pl : Nat → Int) : Prop where
  tree : TreeP k (EdgeP nx k bl) par
  plc : ∀ b, b < n → pl b = -1 ∨ ∃ p, p < k ∧ pl b = (p : Int) ∧ bl p = b
  blk : ∀ p, p < k → bl p < n ∧ pl (bl p) = (p : Int)
  ahd : ∀ p, p < k → ∀ u, u ∈ ah p ↔ EdgeP nx k bl u p
  reach : ∀ b, b < n → (Reach nx 0 b ↔ 0 ≤ pl b)
  first : 0 < k ∧ bl 0 = 0
  kn : k ≤ n
  few : ∀ p, p < k → (ah p).length ≤ n * (n + 1) + 1
theorem TvI.all (h : TvI nx n k bl par ah pl [] g) (hnx : ∀ x, ∀ t ∈ nx x, t < n) (hn : 0 < n) : TvE nx n k bl par ah pl := by
  have hk : 0 < k := by
    rcases Nat.eq_zero_or_pos k with h0 | h0
    · have := h.first.2 h0; cases this
    · exact h0
  have hdone : ∀ u, u < k → ∀ t ∈ nx (bl u), ∃ p : Nat, p < k ∧ pl t = (p : Int) ∧ bl p = t ∧ u ∈ ah p := fun u hu t ht => by
    rcases h.done u hu t ht with h1 | ⟨p, h1, h2⟩
    · cases h1
    · obtain ⟨p', h4, h5, h6⟩ := h.placed (hnx _ t ht) (by omega)
      obtain rfl : p' = p := by omega
      exact ⟨p', h4, h5, h6, h2⟩
  refine ⟨⟨fun u v h => ⟨h.1, h.2.1⟩, fun v h0 hv => (h.parl v h0 hv).1, fun v h0 hv => ⟨by have := (h.parl v h0 hv).1; omega, hv, (h.parl v h0 hv).2⟩, fun u v he huv => h.up u v huv he.2.1 he.2.2, fun a b c => h.mid a b c⟩, h.plc, h.blk, fun p hp u => ⟨fun hu => ?_, fun hu => ?_⟩, fun b hb => ⟨fun hr => ?_, fun hp => ?_⟩, ⟨hk, h.first.1 hk⟩, h.kn, fun p hp => by have := h.few p hp; omega⟩
  · have := h.ahd p hp u hu; exact ⟨this.1, hp, this.2⟩
  · obtain ⟨q, h1, h2, h3, h4⟩ := hdone u hu.1 _ hu.2.2
    have := (h.blk p hp).2
    obtain rfl : q = p := by omega
    exact h4
  · have key : ∀ x, Reach nx 0 x → ∃ p : Nat, p < k ∧ pl x = (p : Int) ∧ bl p = x := by
      intro x hx
      induction hx with
      | refl => exact ⟨0, hk, by have := (h.blk 0 hk).2; rw [h.first.1 hk] at this; simpa using this, h.first.1 hk⟩
      | @step x y _ hxy ih =>
        obtain ⟨p, h1, h2, h3⟩ := ih
        obtain ⟨q, h4, h5, h6, _⟩ := hdone p h1 y (by rw [h3]; exact hxy)
        exact ⟨q, h4, h5, h6⟩
    obtain ⟨p, -, h2, -⟩ := key b hr
    omega
  · obtain ⟨p, h1, -, h3⟩ := h.placed hb hp
    rw [← h3]
    clear h3
    induction p using Nat.strongRecOn with
    | _ p ih =>
      rcases Nat.eq_zero_or_pos p with h0 | h0
      · subst h0; rw [h.first.1 hk]; exact .refl
      · obtain ⟨h4, h5⟩ := h.parl p h0 h1
        exact .step (ih _ h4 (by omega)) h5
end Go.Proofs.Ytbhndfknjkeilaa

/- A region that draws its order, whose last operation waits for all others: the others first, in whatever order, with a condition on the world that need not hold behind the last one. Over any program. -/
namespace Go.Proofs.Ytbhndfknjkeilaa
open Go
set_option linter.unusedVariables false

section
variable {P : Program} {ops : Array Oper} {Q : Exit → Act → World → Prop} {md : Region.Mode} {S : World → Prop}

/-- Edges lead to what stands ahead in the text. -/
def downB (md : Region.Mode) (ops : Array Oper) : Bool :=
  (List.range ops.size).all fun i => ((ops[i]?).map fun o => o.after.all fun e => !Region.binds md e || decide (e.on < i)).getD true
/-- Each but number L is waited for by one behind it. -/
def feedsB (md : Region.Mode) (ops : Array Oper) (L : Nat) : Bool :=
  (List.range L).all fun i => (List.range (L + 1)).any fun j => decide (i < j) && ((ops[j]?).map fun o => o.after.any fun e => Region.binds md e && decide (e.on = i)).getD false

theorem downB_spec (h : downB md ops = true) {i : Nat} {o : Oper} (ho : ops[i]? = some o) : ∀ e ∈ o.after, Region.binds md e = true → e.on < i := by
  intro e he hb
  unfold downB at h
  have hi : i < ops.size := (Array.getElem?_eq_some_iff.1 ho).1
  have h1 := List.all_eq_true.1 h i (List.mem_range.2 hi)
  rw [ho] at h1
  simp only [Option.map_some, Option.getD_some, Array.all_eq_true_iff_forall_mem] at h1
  have h2 := h1 e he
  simpa [hb] using h2
theorem feedsB_spec {L : Nat} (h : feedsB md ops L = true) {i : Nat} (hi : i < L) : ∃ j o e, i < j ∧ j ≤ L ∧ ops[j]? = some o ∧ e ∈ o.after ∧ Region.binds md e = true ∧ e.on = i := by
  unfold feedsB at h
  have h1 := List.all_eq_true.1 h i (List.mem_range.2 hi)
  obtain ⟨j, hj, h2⟩ := List.any_eq_true.1 h1
  rw [Bool.and_eq_true] at h2
  obtain ⟨h3, h4⟩ := h2
  cases ho : ops[j]? with
  | none => rw [ho] at h4; simp at h4
  | some o =>
    rw [ho] at h4
    simp only [Option.map_some, Option.getD_some, Array.any_eq_true'] at h4
    obtain ⟨e, he, hb⟩ := h4
    rw [Bool.and_eq_true] at hb
    exact ⟨j, o, e, of_decide_eq_true h3, by have := List.mem_range.1 hj; omega, ho, he, hb.1, of_decide_eq_true hb.2⟩

/-- What has come up had all that it waits for. -/
def Closed (md : Region.Mode) (ops : Array Oper) (listed : Array Bool) : Prop :=
  ∀ i o, ops[i]? = some o → listed.getD i true = true → ∀ e ∈ o.after, Region.binds md e = true → listed.getD e.on false = true

theorem getD_two {l : Array Bool} {i : Nat} (h : i < l.size) (a b : Bool) : l.getD i a = l.getD i b := by
  simp [Array.getD, h]
theorem getD_set_self {l : Array Bool} {i : Nat} (h : i < l.size) (d : Bool) : (l.setIfInBounds i true).getD i d = true := by
  simp [Array.getD, h]

theorem Closed.set {listed : Array Bool} (hc : Closed md ops listed) (hs : listed.size = ops.size) {i : Nat} (hi : i ∈ Region.ready md ops listed) : Closed md ops (listed.setIfInBounds i true) := by
  intro j o ho hj e he hb
  by_cases hji : j = i
  · subst hji
    obtain ⟨_, o', ho', hall⟩ := mem_ready.1 hi
    rw [ho] at ho'
    cases ho'
    exact getD_set_true (hall e he hb)
  · rw [getD_set_ne true (Ne.symm hji)] at hj
    exact getD_set_true (hc j o ho hj e he hb)

/-- When the last one may come up, all others have. -/
theorem all_of_last {L : Nat} {listed : Array Bool} (hsz : ops.size = L + 1) (hs : listed.size = ops.size) (hf : feedsB md ops L = true) (hc : Closed md ops listed) (hL : L ∈ Region.ready md ops listed) : ∀ i, i < L → listed.getD i true = true := by
  have key : ∀ n i, L - i ≤ n → i < L → listed.getD i true = true := by
    intro n
    induction n with
    | zero => intro i h1 h2; omega
    | succ n ih =>
      intro i h1 h2
      obtain ⟨j, o, e, hij, hjL, ho, he, hb, hei⟩ := feedsB_spec hf h2
      have h3 : listed.getD e.on false = true := by
        by_cases hj : j = L
        · subst hj
          obtain ⟨_, o', ho', hall⟩ := mem_ready.1 hL
          rw [ho] at ho'
          cases ho'
          exact hall e he hb
        · exact hc j o ho (ih j (by omega) (by omega)) e he hb
      rw [hei] at h3
      rw [getD_two (by omega) true false]
      exact h3
  exact fun i hi => key (L - i) i (Nat.le_refl _) hi
/-- While the last one has not come up, one may. -/
theorem ready_some {L : Nat} {listed : Array Bool} (hsz : ops.size = L + 1) (hs : listed.size = ops.size) (hd : downB md ops = true) (hL : listed.getD L true = false) : Region.ready md ops listed ≠ [] := by
  have key : ∀ n i, i ≤ n → i ≤ L → listed.getD i true = false → ∃ k, k ∈ Region.ready md ops listed := by
    intro n
    induction n with
    | zero =>
      intro i h1 h2 h3
      obtain rfl : i = 0 := by omega
      have ho : ops[0]? = some ops[0] := Array.getElem?_eq_getElem (by omega)
      exact ⟨0, mem_ready.2 ⟨h3, _, ho, fun e he hb => absurd (downB_spec hd ho e he hb) (by omega)⟩⟩
    | succ n ih =>
      intro i h1 h2 h3
      have ho : ops[i]? = some ops[i] := Array.getElem?_eq_getElem (by omega)
      by_cases hall : ∀ e ∈ ops[i].after, Region.binds md e = true → listed.getD e.on false = true
      · exact ⟨i, mem_ready.2 ⟨h3, _, ho, hall⟩⟩
      · simp only [Classical.not_forall] at hall
        obtain ⟨e, he, hb, hno⟩ := hall
        have hlt := downB_spec hd ho e he hb
        refine ih e.on (by omega) (by omega) ?_
        rw [getD_two (by omega) true false]
        simpa using hno
  obtain ⟨k, hk⟩ := key L L (Nat.le_refl _) (Nat.le_refl _) hL
  intro h0
  rw [h0] at hk
  cases hk

/-- The post behind all but the last: the last one's turn. -/
def LastQ (P : Program) (ops : Array Oper) (Q : Exit → Act → World → Prop) (L : Nat) : Exit → Act → World → Prop
  | .normal, a, w => wpOp P ops Q L (Q .normal) a w
  | e, a, w => Q e a w

theorem upon_last {L : Nat} {o : Oper} {a : Act} {K : Act → World → Prop} {r : Result Next} (h : o.upon P a K (LastQ P ops Q L) r) : o.upon P a K Q r := by
  cases r with
  | ok n w' =>
    cases n <;> simp only [Oper.upon] at h ⊢ <;> exact h
  | halt x w' => cases x <;> simp only [Oper.upon] at h ⊢ <;> exact h
theorem wpOp_last {L i : Nat} {K : Act → World → Prop} {a : Act} {w : World} (h : wpOp P ops (LastQ P ops Q L) i K a w) : wpOp P ops Q i K a w := by
  unfold wpOp at *
  split
  · rename_i ho; simp only [ho] at h; exact h
  · rename_i o ho
    simp only [ho] at h
    split
    · rename_i hw; simp only [hw, if_true] at h; exact h.imp (fun h => by unfold Oper.wp at *; exact upon_last h) (fun h => ⟨h.1, h.2⟩)
    · rename_i hw; simp only [hw] at h; exact h

theorem wpAny_last {L : Nat} (hsz : ops.size = L + 1) (hd : downB md ops = true) (hf : feedsB md ops L = true) :
    ∀ (fuel : Nat) (listed : Array Bool) (a : Act) (w : World), listed.size = ops.size → Closed md ops listed → listed.getD L true = false →
      wpAnyH P md ops (LastQ P ops Q L) S fuel (listed.setIfInBounds L true) a w → wpAny P md ops Q (fuel + 1) listed a w := by
  intro fuel
  induction fuel with
  | zero =>
    intro listed a w hs hc hL H
    refine ⟨fun h0 => absurd h0 (ready_some hsz hs hd hL), fun i hi => ?_⟩
    by_cases hiL : i = L
    · subst hiL
      exact wpOp_mono (fun a' w' h' => ⟨H.1, h'⟩) (show wpOp P ops Q i (Q .normal) a w from H.2)
    · have := ready_mono hi hiL
      rw [H.1] at this
      cases this
  | succ fuel ih =>
    intro listed a w hs hc hL H
    refine ⟨fun h0 => absurd h0 (ready_some hsz hs hd hL), fun i hi => ?_⟩
    by_cases hiL : i = L
    · subst hiL
      have hall := all_of_last hsz hs hf hc hi
      have hr : Region.ready md ops (listed.setIfInBounds i true) = [] := by
        rw [List.eq_nil_iff_forall_not_mem]
        intro k hk
        obtain ⟨h0, o, ho, _⟩ := mem_ready.1 hk
        have hkl : k < ops.size := (Array.getElem?_eq_some_iff.1 ho).1
        by_cases hki : k = i
        · subst hki
          rw [getD_set_self (by omega)] at h0
          cases h0
        · rw [getD_set_ne true (Ne.symm hki), hall k (by omega)] at h0
          cases h0
      exact wpOp_mono (fun a' w' h' => wpAny_done hr h' _) (show wpOp P ops Q i (Q .normal) a w from H.1 hr)
    · have h1 := wpOp_last (H.2 i (ready_mono hi hiL))
      refine wpOp_mono (fun a' w' h' => ih (listed.setIfInBounds i true) a' w' (by simpa using hs) (hc.set hs hi) ?_ ?_) h1
      · rw [getD_set_ne true hiL]; exact hL
      · rw [Array.setIfInBounds_comm _ _ hiL]; exact h'.2

/-- THE LAW. -/
theorem wp_region_last {id L : Nat} {a : Act} {w : World} (hm : P.follows .mixedOrders = true) (hsz : ops.size = L + 1) (hd : downB .any ops = true) (hf : feedsB .any ops L = true)
    (h : wpAnyH P .any ops (LastQ P ops Q L) S L ((Array.replicate ops.size false).setIfInBounds L true) a { w with drawn := w.drawn + 1 }) : (Code.region id ops true).wp P Q a w := by
  refine wp_region_any hm ?_
  have h2 := wpAny_last (md := .any) (Q := Q) (S := S) hsz hd hf L (Array.replicate ops.size false) a { w with drawn := w.drawn + 1 } (by simp) (fun i o ho hi => ?_) (by simp [Array.getD, hsz]) h
  · rwa [← hsz] at h2
  · have hlt := (Array.getElem?_eq_some_iff.1 ho).1
    simp [Array.getD, hlt] at hi

/-- Take number i first: what it writes to is said by the caller. -/
theorem takeH {i : Nat} (d : Option Tmp) {v : Value} {fuel : Nat} {listed : Array Bool} {a : Act} {w : World} (hd : (ops[i]?).map (·.dst) = some d)
    (hs : Region.noSelect ops = true) (hf : Region.free md ops listed i = true) (hr : (Region.ready md ops listed).contains i = true)
    (hQ : ∀ c a w, Q (.panic c) (a.put d v) w → Q (.panic c) a w) (hS : S w) (hy : ∀ o, ops[i]? = some o → YieldsIf P ops S o v a)
    (h : wpAnyH P md ops Q S fuel (listed.setIfInBounds i true) (a.put d v) w) : wpAnyH P md ops Q S (fuel + 1) listed a w := by
  cases ho : ops[i]? with
  | none => rw [ho] at hd; cases hd
  | some o =>
    rw [ho] at hd
    obtain rfl := Option.some.inj hd
    exact wpAnyH_take ho hs hf hr hQ (hy o ho) hS h
/-- Number i alone may come up. -/
theorem oneH {i : Nat} {fuel : Nat} {listed : Array Bool} {a : Act} {w : World} (hr : Region.ready md ops listed = [i])
    (h : ∀ o, ops[i]? = some o → ∀ K : Act → World → Prop, RowKit.Hid (∀ a' w', S w' → wpAnyH P md ops Q S fuel (listed.setIfInBounds i true) a' w' → K a' w') → if Region.wanted o (yielded ops a.tmps) = true then Oper.wp P o a w K Q else K (a.put o.dst undef) w) :
    wpAnyH P md ops Q S (fuel + 1) listed a w := by
  refine wpAnyH_all hr (by simp) fun k hk => ?_
  obtain rfl := List.mem_singleton.1 hk
  unfold wpOp
  split
  · rename_i ho
    have : k ∈ Region.ready md ops listed := by rw [hr]; simp
    obtain ⟨_, o, ho', _⟩ := mem_ready.1 this
    rw [ho] at ho'; cases ho'
  · rename_i o ho
    have := h o ho (fun a' w' => S w' ∧ wpAnyH P md ops Q S fuel (listed.setIfInBounds k true) a' w') (Lib.hid (fun a' w' h1 h2 => ⟨h1, h2⟩))
    split
    · rename_i hw; rw [if_pos hw] at this; exact .inl this
    · rename_i hw; rw [if_neg hw] at this; exact this
/-- The last one. -/
theorem lastH {L : Nat} {a : Act} {w : World} (hL : L < ops.size)
    (h : ∀ o, ops[L]? = some o → ∀ K : Act → World → Prop, RowKit.Hid (∀ a' w', Q .normal a' w' → K a' w') → if Region.wanted o (yielded ops a.tmps) = true then Oper.wp P o a w K Q else K (a.put o.dst undef) w) : LastQ P ops Q L .normal a w := by
  show wpOp P ops Q L (Q .normal) a w
  have ho : ops[L]? = some ops[L] := Array.getElem?_eq_getElem hL
  have := h _ ho (Q .normal) (Lib.hid (fun a' w' h1 => h1))
  unfold wpOp
  simp only [ho]
  split
  · rename_i hw; rw [if_pos hw] at this; exact .inl this
  · rename_i hw; rw [if_neg hw] at this; exact this
end
end Go.Proofs.Ytbhndfknjkeilaa

/- The reference of layer 5: From. -/
namespace Go.Proofs.Ytbhndfknjkeilaa
open Go.ChangeShapes Go.WideShapes Go.RowKit Go.Deep
set_option linter.unusedVariables false

/-- What can be come to from a block without going by another one. -/
def fromB (bs : List BlkD) (b w : Int) (x : Nat) : Bool := if 0 ≤ b ∧ b < bs.length ∧ b ≠ w then fromN (nxF bs) w bs.length b.toNat bs.length x else false
theorem range_fold {nx : Nat → List Nat} {w : Int} {S : Nat → Bool} (a : Nat) : (List.range (a + 1)).foldl (fromA nx w) S = fromA nx w ((List.range a).foldl (fromA nx w) S) a := by
  rw [List.range_succ, List.foldl_append]; rfl
theorem mk_fold {w : Int} {S : Nat → Bool} {l : List Nat} {k q : Nat} (h : l[k]? = some q) : (l.take (k + 1)).foldl (mkW w) S = mkW w ((l.take k).foldl (mkW w) S) q := by
  rw [take_succ_of h, List.foldl_append]; rfl
def ToldF_ (bs : List BlkD) (b w : Int) (W : World) (e : Ending) (W' : World) : Prop :=
  (∃ H, e = .returned (.slice (some ⟨H, 0, none⟩) bs.length bs.length) ∧ W.heap.size ≤ H ∧ W'.rowIs H 4 bs.length (fun x => .bool (fromB bs b w x))) ∧ Below W.heap.size W W'

set_option maxRecDepth 100000 in
set_option maxHeartbeats 8000000 in
theorem from_any (f : FunD) (b z : Int) (v : Value) (w : World) (hv : VFun w v f) (hn : f.blocks.length ≤ 1000) :
    Calls Try.prog 26 #[v, .int .i64 b, .int .i64 z] w (ToldF_ f.blocks b z w) := by
  have hv0 := hv
  obtain ⟨Ar, cr, A, c, rfl, -, -, -, -⟩ := hv
  have hmk := run_make_row' (P := Try.prog) 36 4 (.bool false) 1 Try.underlying36 Try.info4 rfl .i64 .i64 f.blocks.length (by omega) (by omega)
  have HV := Lib.hid hv0
  clear hv0
  go_enter Try.func26, Try.ntmps26
  go_upto_region 2 with fail
  clear hmk
  obtain ⟨w1, hw1, hs1, hk1, hbel1, hc1, -⟩ := named w #[.int .i64 f.params, .int .i64 f.result, .slice Ar f.regs.length cr, .slice A f.blocks.length c] 25
  rw [← hw1]
  obtain ⟨H, hH⟩ : ∃ H, H = w.heap.size + 1 := ⟨_, rfl⟩
  have hrow := World.rowIs_made w1 (.bool false) f.blocks.length 4
  have hb2 : Below w1.heap.size w1 (w1.alloc (.cells (madeCells #[.bool false] f.blocks.length) 4)) := (Below.refl _ _).alloc (Nat.le_refl _) _
  have hz2 : (w1.alloc (.cells (madeCells #[.bool false] f.blocks.length) 4)).heap.size = w1.heap.size + 1 := by simp
  rw [hs1, ← hH] at hrow hb2 hz2
  rw [← hH]
  generalize w1.alloc (.cells (madeCells #[.bool false] f.blocks.length) 4) = w2 at *
  have hk2 := kept_below hb2 (by omega)
  have c0 := hk2 _ _ (hc1 0 _ rfl)
  have c1 := hk2 _ _ (hc1 1 _ rfl)
  have c2 := hk2 _ _ (hc1 2 _ rfl)
  have c3 := hk2 _ _ (hc1 3 _ rfl)
  have HHW : Hid (w.heap.size + 1 = H) := Lib.hid (by omega)
  have hhw : w.heap.size < H := by omega
  have hh2 : H < w2.heap.size := by omega
  have HB2 : Hid (Below w.heap.size w w2) := Lib.hid (hbel1.trans (hb2.mono (by omega)))
  have HV2 : Hid (VFun w2 (.agg #[.int .i64 f.params, .int .i64 f.result, .slice Ar f.regs.length cr, .slice A f.blocks.length c]) f) := Lib.hid (VFun.keep (hk1.trans hk2) HV.out)
  have HROW := Lib.hid hrow
  have HV0 := HV
  clear hw1 hs1 hk1 hbel1 hc1 hb2 hz2 hk2 hH hrow HV
  by_cases hok : 0 ≤ b ∧ b < f.blocks.length ∧ b ≠ z
  · obtain ⟨h1, h2, h3⟩ := hok
    obtain ⟨q, rfl⟩ : ∃ q : Nat, b = q := ⟨b.toNat, by omega⟩
    have hq : q < f.blocks.length := by omega
    have hne : ((q : Int) == z) = false := by rw [beq_eq_false_iff_ne]; exact h3
    have hge : ¬ ((f.blocks.length : Int) ≤ q) := by omega
    have hge' : decide ((f.blocks.length : Int) ≤ q) = false := decide_eq_false hge
    have HRES : Hid (∀ x, fromB f.blocks q z x = fromN (nxF f.blocks) z f.blocks.length q f.blocks.length x) := Lib.hid (fun x => by unfold fromB; rw [if_pos ⟨h1, h2, h3⟩]; simp)
    have hcell := HROW.out.cell hq
    have hfr := HROW.out.frozen q
    have hset := (HROW.out.set q (.bool true)).congr (g := fun x => .bool (mark noneSeen q x)) fun x _ => by unfold mark noneSeen; by_cases e : x = q <;> simp [e]
    have hbs : BB w2.heap.size H w2 (w2.setCell ⟨H, q, none⟩ (.bool true)) := (BB.refl w2.heap.size H w2).setCell (p := ⟨H, q, none⟩) (.inl rfl) _
    clear h3
    go_upto_region 5 with fail
    clear hcell hfr
    generalize hW3 : w2.setCell ⟨H, q, none⟩ (.bool true) = w3 at *
    clear hW3
    have HSET := Lib.hid hset
    have HBS := Lib.hid hbs
    clear hset hbs
    go_wp2_with fail
    go_loopw [8] (fun s8 wr => ∃ i : Nat, i ≤ f.blocks.length ∧ s8 = .int .i64 i ∧ wr.rowIs H 4 f.blocks.length (fun x => .bool (fromN (nxF f.blocks) z f.blocks.length q i x)) ∧ BB w2.heap.size H w2 wr) (fun s8 _ => f.blocks.length - (intOf s8).toNat)
    case atStart => exact ⟨0, Nat.zero_le _, rfl, HSET.out, HBS.out⟩
    case round =>
      obtain ⟨i, hi, rfl, hrw, hbb⟩ := hrel
      have HRW := Lib.hid hrw
      have HBB := Lib.hid hbb
      clear hrw hbb
      obtain ⟨wo, rfl⟩ : ∃ wo, wo = wr := ⟨wr, rfl⟩
      by_cases hlt : i < f.blocks.length
      · go_wp2_with fail
        go_loopw [9] (fun s9 wr => ∃ a : Nat, a ≤ f.blocks.length ∧ s9 = .int .i64 a ∧ wr.rowIs H 4 f.blocks.length (fun x => .bool ((List.range a).foldl (fromA (nxF f.blocks) z) (fromN (nxF f.blocks) z f.blocks.length q i) x)) ∧ BB w2.heap.size H w2 wr) (fun s9 _ => f.blocks.length - (intOf s9).toNat)
        case atStart => exact ⟨0, Nat.zero_le _, rfl, HRW.out, HBB.out⟩
        case round =>
          obtain ⟨a, ha, rfl, hrw, hbb⟩ := hrel
          obtain ⟨wm, rfl⟩ : ∃ wm, wm = wr := ⟨wr, rfl⟩
          have HSUC := Lib.hid (range_fold (nx := nxF f.blocks) (w := z) (S := fromN (nxF f.blocks) z f.blocks.length q i) a)
          obtain ⟨S, hS⟩ : ∃ S, S = (List.range a).foldl (fromA (nxF f.blocks) z) (fromN (nxF f.blocks) z f.blocks.length q i) := ⟨_, rfl⟩
          rw [← hS] at hrw HSUC
          have HS := Lib.hid hS
          clear hS HRW HBB
          have HRA := Lib.hid hrw
          have HBA := Lib.hid hbb
          by_cases hlta : a < f.blocks.length
          · have hsc := hrw.cell hlta
            have ha0 : (0 : Int) ≤ a := by omega
            have ha1 : (a : Int) < f.blocks.length := by omega
            cases hsa : S a
            · rw [hsa] at hsc
              have HSU : Hid ((List.range (a + 1)).foldl (fromA (nxF f.blocks) z) (fromN (nxF f.blocks) z f.blocks.length q i) = S) := Lib.hid (by rw [HSUC.out]; unfold fromA; rw [hsa]; rfl)
              clear hsa hrw hbb
              go_wp2_with fail
              go_roundw
              case rel => exact ⟨a + 1, by omega, by go_num, by rw [HSU.out]; exact HRA.out, HBA.out⟩
              case measure => simp [intOf]; omega
            · rw [hsa] at hsc
              have HSU : Hid ((List.range (a + 1)).foldl (fromA (nxF f.blocks) z) (fromN (nxF f.blocks) z f.blocks.length q i) = (nxF f.blocks a).foldl (mkW z) S) := Lib.hid (by rw [HSUC.out]; unfold fromA; rw [hsa]; rfl)
              have hkb : ∀ y o u, y < w2.heap.size → y ≠ H → w2.cell? ⟨y, o, none⟩ = some u → wm.cell? ⟨y, o, none⟩ = some u := fun y o u h1 h2 hu => (World.cell?_of_block (a := ⟨y, o, none⟩) (hbb.block y h1 h2)).trans hu
              have d0 := hkb _ _ _ (by omega) (by omega) c0
              have d1 := hkb _ _ _ (by omega) (by omega) c1
              have d2 := hkb _ _ _ (by omega) (by omega) c2
              have d3 := hkb _ _ _ (by omega) (by omega) c3
              have hzr := hbb.size
              have hbw : Below w2.heap.size w2 w2 := Below.refl _ _
              have HVR : Hid (VFun wm (.agg #[.int .i64 f.params, .int .i64 f.result, .slice Ar f.regs.length cr, .slice A f.blocks.length c]) f) := Lib.hid (VFun.keep (kept_of_below (HB2.out.trans (hbb.below (by omega) (by omega)))) HV0.out)
              have HN := Lib.hid (refNext_any f a _ wm HVR.out (by omega) hlta)
              clear hsa hrw hbb hkb
              go_wp2_with fail
              refine HN.out.mono ?_
              rintro e w5 ⟨⟨vl, rfl, hl⟩, hb5⟩
              have hk5 := kept_of_below hb5
              have d0 := hk5 _ _ d0
              have d1 := hk5 _ _ d1
              have d2 := hk5 _ _ d2
              have d3 := hk5 _ _ d3
              have HR5 := Lib.hid (HRA.out.of_block (hb5.block H HRA.out.lt))
              have HB5 : Hid (BB w2.heap.size H w2 w5) := Lib.hid (HBA.out.trans (BB.of_below hb5 hzr))
              have hll : (nxF f.blocks a).length ≤ f.blocks.length := by
                unfold nxF; split
                · exact nextN_few _ _
                · simp
              have HLT := Lib.hid (nxF_lt f.blocks a)
              have hz5 := hb5.size
              generalize nxF f.blocks a = l at *
              obtain ⟨Al, cl, rfl, hsl⟩ := slB_of_own (B := fun g => wm.heap.size ≤ g ∧ g < w5.heap.size) (xs := zs l) (by rw [zs_len]; exact hl) (fun y hy => by obtain ⟨t, ht, rfl⟩ := zs_mem hy; have := HLT.out t ht; unfold I64; omega) (fun _ h1 h2 => ⟨h1, h2⟩)
              rw [zs_len]
              have HSL := Lib.hid hsl
              have hHr : H < wm.heap.size := HRA.out.lt
              clear hl hb5 hk5 hsl HN hsc
              go_wp2_with fail
              go_loopw [11] (fun s11 wi => ∃ k : Nat, k ≤ l.length ∧ s11 = .int .i64 k ∧ wi.rowIs H 4 f.blocks.length (fun x => .bool ((l.take k).foldl (mkW z) S x)) ∧ BB w5.heap.size H w5 wi) (fun s11 _ => l.length - (intOf s11).toNat)
              case atStart => exact ⟨0, Nat.zero_le _, rfl, by simpa using HR5.out, BB.refl _ _ _⟩
              case round =>
                obtain ⟨k, hk, rfl, hri, hbi⟩ := hrel
                obtain ⟨wi, rfl⟩ : ∃ wi, wi = wr := ⟨wr, rfl⟩
                have hsi := SIntsB.go (B := fun g => wm.heap.size ≤ g ∧ g < w5.heap.size) (B' := fun _ => True) (w := w5) (w' := wi) (fun a v hb ha => (World.cell?_of_block (hbi.block a.block hb.2 (by have := hb.1; omega))).trans ha) (fun _ _ => trivial) HSL.out
                have HRI := Lib.hid hri
                have HBI := Lib.hid hbi
                by_cases hkl : k < l.length
                · obtain ⟨bl, ol, y, rfl, hy, -, hyc, -⟩ := hsi.at_ (k := k) (by rw [zs_len]; exact hkl)
                  obtain ⟨t, ht, rfl⟩ := zs_at hy.out
                  have htn : t < f.blocks.length := HLT.out t (List.mem_of_getElem? ht)
                  have hyc : wi.cell? ⟨bl, ol + k, none⟩ = some (.int .i64 (t : Int)) := by rw [Nat.mul_one] at hyc; exact hyc
                  have ht0 : (0 : Int) ≤ t := by omega
                  have ht1 : (t : Int) < f.blocks.length := by omega
                  have hk0 : (0 : Int) ≤ k := by omega
                  have hk1 : (k : Int) < l.length := by omega
                  have HMK := Lib.hid (mk_fold (w := z) (S := S) ht)
                  by_cases htz : (t : Int) = z
                  · have hbz : ((t : Int) != z) = false := by simp [htz]
                    have HS2 : Hid ((l.take (k + 1)).foldl (mkW z) S = (l.take k).foldl (mkW z) S) := Lib.hid (by rw [HMK.out]; unfold mkW; rw [if_pos htz])
                    clear htz ht hsi hri hbi
                    go_wp2_with fail
                    go_roundw
                    case rel => exact ⟨k + 1, by omega, by go_num, by rw [HS2.out]; exact HRI.out, HBI.out⟩
                    case measure => simp [intOf]; omega
                  · have hbz : ((t : Int) != z) = true := by simpa using htz
                    have HS2 : Hid ((l.take (k + 1)).foldl (mkW z) S = mark ((l.take k).foldl (mkW z) S) t) := Lib.hid (by rw [HMK.out]; unfold mkW; rw [if_neg htz])
                    have hcc := hri.cell htn
                    have hcf := hri.frozen t
                    have HR2 := Lib.hid ((hri.set t (.bool true)).congr (g := fun x => .bool ((l.take (k + 1)).foldl (mkW z) S x)) fun x _ => by rw [HS2.out]; unfold mark; by_cases e : x = t <;> simp [e])
                    clear htz ht hsi hri hbi
                    go_wp2_with fail
                    go_roundw
                    case rel => exact ⟨k + 1, by omega, by go_num, HR2.out, HBI.out.setCell (.inl rfl) _⟩
                    case measure => simp [intOf]; omega
                · have hfin : Hid ((List.range (a + 1)).foldl (fromA (nxF f.blocks) z) (fromN (nxF f.blocks) z f.blocks.length q i) = (l.take k).foldl (mkW z) S) := Lib.hid (by rw [HSU.out, List.take_of_length_le (by omega)])
                  have HBF : Hid (BB w2.heap.size H w2 wi) := Lib.hid (HB5.out.trans (HBI.out.mono (by omega)))
                  clear hsi hri hbi
                  go_wp2_with fail
                  go_roundw
                  case rel => exact ⟨a + 1, by omega, by go_num, by rw [hfin.out]; exact HRI.out, HBF.out⟩
                  case measure => simp [intOf]; omega
          · obtain rfl : a = f.blocks.length := by omega
            have hfin : Hid (fromN (nxF f.blocks) z f.blocks.length q (i + 1) = S) := Lib.hid HS.out.symm
            clear hrw hbb
            go_wp2_with fail
            go_roundw
            case rel => exact ⟨i + 1, by omega, by go_num, by rw [hfin.out]; exact HRA.out, HBA.out⟩
            case measure => simp [intOf]; omega
      · obtain rfl : i = f.blocks.length := by omega
        have HFIN := Lib.hid (HRW.out.congr (g := fun x => .bool (fromB f.blocks q z x)) fun x _ => by rw [HRES.out])
        go_wp2_with fail
        go_ret
        exact ⟨⟨H, rfl, by omega, HFIN.out⟩, HB2.out.trans (HBB.out.below (by omega) (by omega))⟩
  · have HRES : Hid (∀ x, fromB f.blocks b z x = false) := Lib.hid (fun x => by unfold fromB; rw [if_neg hok])
    have HFIN := Lib.hid (HROW.out.congr (g := fun x => .bool (fromB f.blocks b z x)) fun x _ => by rw [HRES.out])
    by_cases h0 : b < 0
    · clear hok
      go_wp2_with fail
      go_ret
      exact ⟨⟨H, rfl, by omega, HFIN.out⟩, HB2.out⟩
    · by_cases h1 : (f.blocks.length : Int) ≤ b
      · clear hok
        go_wp2_with fail
        go_ret
        exact ⟨⟨H, rfl, by omega, HFIN.out⟩, HB2.out⟩
      · have hbz : (b == z) = true := by rw [beq_iff_eq]; omega
        have h1' : decide ((f.blocks.length : Int) ≤ b) = false := decide_eq_false h1
        clear hok
        go_wp2_with fail
        go_ret
        exact ⟨⟨H, rfl, by omega, HFIN.out⟩, HB2.out⟩
end Go.Proofs.Ytbhndfknjkeilaa
