/- Going to all blocks that are reached, each by its place, in mathematics. No condition. -/
import Derived.Test.YtflbooopgjgkbaaGrTJ
import Derived.Test.YtflbooopgjgkbaaProg
import Derived.WalkKit
import Derived.WalkSmall
import Derived.Below
import Derived.Deep.Slices
import Derived.Lib.Hide
import Derived.OpenShut
namespace Go.Proofs.Ytflbooopgjgkbaa
set_option linter.unusedVariables false

def updF {α : Type} (f : Nat → α) (k : Nat) (x : α) : Nat → α := fun v => if v = k then x else f v
theorem updF_here {α : Type} (f : Nat → α) (k : Nat) (x : α) : updF f k x k = x := by simp [updF]
theorem updF_else {α : Type} (f : Nat → α) {k v : Nat} (x : α) (h : v ≠ k) : updF f k x v = f v := by simp [updF, h]
theorem AncP.congr {par par' : Nat → Nat} {k a c : Nat} (h : AncP par a c) (hc : c < k) (hlt : ∀ v, 0 < v → v < k → par v < v) (he : ∀ v, v < k → par' v = par v) : AncP par' a c := by
  induction h with
  | refl => exact .refl
  | @step v h0 _ ih =>
    have := hlt _ h0 hc
    exact .step h0 (by rw [he _ hc]; exact ih (by omega))

/-- How far it has gone: k places; what lies open, the last first. -/
structure TvI (nx : Nat → List Nat) (n k : Nat) (bl par : Nat → Nat) (ah : Nat → List Nat) (pl : Nat → Int) (op : List (Int × Nat)) (g : Nat) : Prop where
  plc : ∀ b, b < n → pl b = -1 ∨ ∃ p, p < k ∧ pl b = (p : Int) ∧ bl p = b
  blk : ∀ p, p < k → bl p < n ∧ pl (bl p) = (p : Int)
  parl : ∀ v, 0 < v → v < k → par v < v ∧ bl v ∈ nx (bl (par v))
  up : ∀ u v, u < v → v < k → bl v ∈ nx (bl u) → AncP par u v
  mid : ∀ a b c, AncP par a c → c < k → a ≤ b → b ≤ c → AncP par a b
  opn : ∀ e ∈ op, e.2 < n ∧ ((e.1 = -1 ∧ k = 0 ∧ e.2 = 0) ∨ ∃ u : Nat, u < k ∧ e.1 = (u : Int) ∧ e.2 ∈ nx (bl u) ∧ AncP par u (k - 1))
  sort : op.Pairwise (fun e e' => e.1 ≤ e'.1)
  done : ∀ u, u < k → ∀ t ∈ nx (bl u), ((u : Int), t) ∈ op ∨ ∃ p : Nat, pl t = (p : Int) ∧ u ∈ ah p
  ahd : ∀ p, p < k → ∀ u ∈ ah p, u < k ∧ bl p ∈ nx (bl u)
  first : (0 < k → bl 0 = 0) ∧ (k = 0 → op = [(-1, 0)])
  kn : k ≤ n
  num : g = (n - k) * (n + 1) + op.length
  few : ∀ p, p < k → (ah p).length + g ≤ n * (n + 1) + 1

variable {nx : Nat → List Nat} {n k : Nat} {bl par : Nat → Nat} {ah : Nat → List Nat} {pl : Nat → Int} {op : List (Int × Nat)} {g : Nat}
theorem TvI.start (nx : Nat → List Nat) {n : Nat} (hn : 0 < n) (bl par : Nat → Nat) (ah : Nat → List Nat) : TvI nx n 0 bl par ah (fun _ => -1) [(-1, 0)] (n * (n + 1) + 1) :=
  ⟨fun _ _ => .inl rfl, fun p h => by omega, fun v h1 h2 => by omega, fun u v h1 h2 => by omega, fun a b c _ h => by omega,
   fun e he => by rw [List.mem_singleton.1 he]; exact ⟨hn, .inl ⟨rfl, rfl, rfl⟩⟩, by simp, fun u h => by omega, fun p h => by omega, ⟨fun h => by omega, fun _ => rfl⟩, by omega, by simp, fun p h => by omega⟩
theorem TvI.placed (h : TvI nx n k bl par ah pl op g) {b : Nat} (hb : b < n) (hp : 0 ≤ pl b) : ∃ p, p < k ∧ pl b = (p : Int) ∧ bl p = b := by
  rcases h.plc b hb with h1 | h1
  · omega
  · exact h1
theorem mem_op {op : List (Int × Nat)} {e x : Int × Nat} (h : x ∈ op ++ [e]) : x ∈ op ∨ x = e := by simpa using h
/-- One that was come to already. -/
theorem TvI.old {e : Int × Nat} (h : TvI nx n k bl par ah pl (op ++ [e]) g) {p : Nat} (hp : pl e.2 = (p : Int)) :
    ∃ u : Nat, e.1 = (u : Int) ∧ p < k ∧ u < k ∧ ∃ g', g' < g ∧ TvI nx n k bl par (updF ah p (ah p ++ [u])) pl op g' := by
  obtain ⟨he2, he⟩ := h.opn e (by simp)
  obtain ⟨p', hp', hpe, hbl⟩ := h.placed he2 (by omega)
  obtain rfl : p' = p := by omega
  rcases he with ⟨h1, h2, h3⟩ | ⟨u, hu, hue, hun, hua⟩
  · omega
  refine ⟨u, hue, hp', hu, g - 1, by have := h.num; simp at this; omega, ?_⟩
  refine ⟨h.plc, h.blk, h.parl, h.up, h.mid, fun x hx => h.opn x (by simp [hx]), (List.pairwise_append.1 h.sort).1, fun v hv t ht => ?_, fun q hq x hx => ?_, ⟨h.first.1, fun h0 => by omega⟩, h.kn, by have := h.num; simp at this ⊢; omega, fun q hq => ?_⟩
  · rcases h.done v hv t ht with h1 | ⟨q, h1, h2⟩
    · rcases mem_op h1 with h1 | h1
      · exact .inl h1
      · right
        have h3 : (v : Int) = e.1 := by rw [← h1]
        have h4 : t = e.2 := by rw [← h1]
        refine ⟨p', by rw [h4]; exact hp, ?_⟩
        rw [updF_here]
        have : v = u := by omega
        subst this; simp
    · right
      refine ⟨q, h1, ?_⟩
      by_cases e : q = p'
      · subst e; rw [updF_here]; simp [h2]
      · rw [updF_else _ _ e]; exact h2
  · by_cases e1 : q = p'
    · subst e1
      rw [updF_here] at hx
      rcases List.mem_append.1 hx with hx | hx
      · exact h.ahd q hq x hx
      · rw [List.mem_singleton.1 hx, hbl]; exact ⟨hu, hun⟩
    · rw [updF_else _ _ e1] at hx; exact h.ahd q hq x hx
  · have h1 := h.few q hq
    have h2 := h.num
    by_cases e1 : q = p'
    · subst e1; rw [updF_here]; simp at h2 ⊢; omega
    · rw [updF_else _ _ e1]; omega
/-- One that is new. -/
theorem TvI.new {e : Int × Nat} (h : TvI nx n k bl par ah pl (op ++ [e]) g) (hnx : ∀ x, ∀ t ∈ nx x, t < n) (hlen : ∀ x, (nx x).length ≤ n) (hp : pl e.2 = -1) :
    k < n ∧ e.2 < n ∧ ∃ g', g' < g ∧ TvI nx n (k + 1) (updF bl k e.2) (updF par k e.1.toNat) (updF ah k (if e.1 < 0 then [] else [e.1.toNat])) (updF pl e.2 k) (op ++ (nx e.2).map fun t => ((k : Int), t)) g' := by
  obtain ⟨he2, he⟩ := h.opn e (by simp)
  have hk : k < n := by
    apply Classical.byContradiction
    intro hk
    -- all places would be taken
    have hkn : k = n := by have := h.kn; omega
    have hinj : ((List.range k).map bl).Nodup := by
      rw [List.nodup_iff_pairwise_ne, List.pairwise_map]
      refine List.Pairwise.imp_of_mem (fun {a b} ha hb hab hh => ?_) (List.nodup_range (n := k))
      have h1 := h.blk a (List.mem_range.1 ha)
      have h2 := h.blk b (List.mem_range.1 hb)
      rw [hh] at h1
      exact hab (by omega)
    have hni : e.2 ∉ (List.range k).map bl := fun hm => by
      obtain ⟨a, ha, hb⟩ := List.mem_map.1 hm
      have := h.blk a (List.mem_range.1 ha)
      rw [hb] at this; omega
    have := List.Nodup.length_le_of_subset (List.nodup_cons.2 ⟨hni, hinj⟩) (l₂ := List.range n) (fun x hx => by
      rcases List.mem_cons.1 hx with rfl | hx
      · exact List.mem_range.2 he2
      · obtain ⟨a, ha, rfl⟩ := List.mem_map.1 hx
        exact List.mem_range.2 (h.blk a (List.mem_range.1 ha)).1)
    simp at this; omega
  have hne : ∀ p, p < k → bl p ≠ e.2 := fun p hpk hh => by have := (h.blk p hpk).2; rw [hh] at this; omega
  have hcg : ∀ {a c : Nat}, AncP par a c → c < k → AncP (updF par k e.1.toNat) a c := fun ha hc => ha.congr hc (fun v h1 h2 => (h.parl v h1 h2).1) (fun v hv => updF_else _ _ (by omega))
  have hcg' : ∀ {a c : Nat}, AncP (updF par k e.1.toNat) a c → c < k → AncP par a c := fun ha hc => ha.congr hc (fun v h1 h2 => by rw [updF_else _ _ (by omega)]; exact (h.parl v h1 h2).1) (fun v hv => (updF_else _ _ (by omega)).symm)
  have hle : ∀ {a c : Nat}, AncP par a c → c < k → a ≤ c := by
    intro a c ha
    induction ha with
    | refl => intro _; omega
    | @step v h0 _ ih => intro hv; have := (h.parl v h0 hv).1; have := ih (by omega); omega
  -- the new one's tree
  have htop : 0 < k → e.1.toNat < k ∧ AncP par e.1.toNat (k - 1) ∧ e.2 ∈ nx (bl e.1.toNat) ∧ 0 ≤ e.1 := fun h0 => by
    rcases he with ⟨_, h2, _⟩ | ⟨u, hu, hue, hun, hua⟩
    · omega
    · have : e.1.toNat = u := by omega
      rw [this]; exact ⟨hu, hua, hun, by omega⟩
  have hsort : ∀ x ∈ op, x.1 ≤ e.1 := fun x hx => (List.pairwise_append.1 h.sort).2.2 x hx e (by simp)
  have hop0 : k = 0 → op = [] ∧ e = (-1, 0) := fun h0 => by
    have h1 := h.first.2 h0
    have h2 : op = [] := by
      have := congrArg List.length h1
      simp at this; exact this
    subst h2; simpa using h1
  -- whoever is above the last and not behind the top is above the new one
  have hanc : ∀ u, u < k → AncP par u (k - 1) → (u : Int) ≤ e.1 → AncP (updF par k e.1.toNat) u k := fun u hu ha hle' => by
    obtain ⟨h1, h2, h3, h4⟩ := htop (by omega)
    refine .step (by omega) ?_
    rw [updF_here]
    exact hcg (h.mid _ _ _ ha (by omega) (by omega) (by omega)) h1
  have hg := h.num
  have hgle : (n - k) * (n + 1) = (n - (k + 1)) * (n + 1) + (n + 1) := by
    rw [← Nat.succ_mul]; congr 1; omega
  have hl2 := hlen e.2
  refine ⟨hk, he2, (n - (k + 1)) * (n + 1) + (op.length + (nx e.2).length), by simp at hg; omega, ?_⟩
  refine ⟨fun b hb => ?_, fun p hpk => ?_, fun v h0 hv => ?_, fun u v huv hv hE => ?_, fun a b c ha hc hab hbc => ?_, fun x hx => ?_, ?_, fun u hu t ht => ?_, fun p hpk x hx => ?_, ⟨fun _ => ?_, fun h0 => by omega⟩, by omega, by simp, fun p hpk => ?_⟩
  · by_cases e1 : b = e.2
    · subst e1; right; exact ⟨k, by omega, updF_here _ _ _, updF_here _ _ _⟩
    · rw [updF_else _ _ e1]
      rcases h.plc b hb with h1 | ⟨p, h1, h2, h3⟩
      · exact .inl h1
      · exact .inr ⟨p, by omega, h2, by rw [updF_else _ _ (by omega)]; exact h3⟩
  · by_cases e1 : p = k
    · subst e1; rw [updF_here]; exact ⟨he2, updF_here _ _ _⟩
    · have hpk' : p < k := by omega
      rw [updF_else _ _ e1, updF_else _ _ (hne p hpk')]
      exact h.blk p hpk'
  · by_cases e1 : v = k
    · subst e1
      obtain ⟨h1, h2, h3, h4⟩ := htop h0
      rw [updF_here, updF_here, updF_else _ _ (by omega)]
      exact ⟨h1, h3⟩
    · have := h.parl v h0 (by omega)
      rw [updF_else _ _ e1, updF_else _ _ e1, updF_else _ _ (by omega)]
      exact this
  · by_cases e1 : v = k
    · subst e1
      rw [updF_here, updF_else _ _ (by omega)] at hE
      rcases h.done u huv _ hE with h1 | ⟨p, h1, h2⟩
      · rcases mem_op h1 with h1 | h1
        · obtain ⟨-, hq⟩ := h.opn ((u : Int), e.2) (List.mem_append_left _ h1)
          rcases hq with ⟨h2, _⟩ | ⟨u', hu', hue', _, hua'⟩
          · have h2 : (u : Int) = -1 := h2; omega
          · have hue' : (u : Int) = (u' : Int) := hue'
            have : u' = u := by omega
            subst this
            exact hanc _ huv hua' (hsort _ h1)
        · obtain ⟨h2, h3, -, -⟩ := htop (by omega)
          have h4 : (u : Int) = e.1 := by rw [← h1]
          have : e.1.toNat = u := by omega
          rw [this] at h3
          exact hanc u huv h3 (by omega)
      · omega
    · rw [updF_else _ _ e1, updF_else _ _ (by omega)] at hE
      exact hcg (h.up u v huv (by omega) hE) (by omega)
  · by_cases e1 : c = k
    · subst e1
      by_cases e2 : b = c
      · subst e2; exact ha
      · cases ha with
        | refl => omega
        | step h0 ha =>
          obtain ⟨h1, h2, h3, h4⟩ := htop (by omega)
          rw [updF_here] at ha
          have ha' := hcg' ha h1
          have ha2 := ha'.trans h2
          exact hcg (h.mid a b (c - 1) ha2 (by omega) hab (by omega)) (by omega)
    · exact hcg (h.mid a b c (hcg' ha (by omega)) (by omega) hab hbc) (by omega)
  · rcases List.mem_append.1 hx with hx | hx
    · obtain ⟨h1, h2⟩ := h.opn x (by simp [hx])
      refine ⟨h1, ?_⟩
      rcases h2 with ⟨_, h3, _⟩ | ⟨u, hu, hue, hun, hua⟩
      · rw [(hop0 h3).1] at hx; cases hx
      · right
        refine ⟨u, by omega, hue, by rw [updF_else _ _ (by omega)]; exact hun, ?_⟩
        have := hsort x hx
        exact hanc u hu hua (by omega)
    · obtain ⟨t, ht, rfl⟩ := List.mem_map.1 hx
      exact ⟨hnx _ t ht, .inr ⟨k, by omega, rfl, by rw [updF_here]; exact ht, .refl⟩⟩
  · rw [List.pairwise_append]
    refine ⟨(List.pairwise_append.1 h.sort).1, ?_, fun x hx y hy => ?_⟩
    · rw [List.pairwise_map]
      exact List.pairwise_of_forall (fun _ _ => Int.le_refl _)
    · obtain ⟨t, ht, rfl⟩ := List.mem_map.1 hy
      obtain ⟨-, h2⟩ := h.opn x (by simp [hx])
      rcases h2 with ⟨h3, _⟩ | ⟨u, hu, hue, _⟩
      · show x.1 ≤ (k : Int); omega
      · show x.1 ≤ (k : Int); omega
  · by_cases e1 : u = k
    · subst e1
      rw [updF_here] at ht
      exact .inl (List.mem_append_right _ (List.mem_map.2 ⟨t, ht, rfl⟩))
    · have hu' : u < k := by omega
      rw [updF_else _ _ e1] at ht
      rcases h.done u hu' t ht with h1 | ⟨p, h1, h2⟩
      · rcases mem_op h1 with h1 | h1
        · exact .inl (List.mem_append_left _ h1)
        · right
          have h4 : (u : Int) = e.1 := by rw [← h1]
          have h5 : t = e.2 := by rw [← h1]
          refine ⟨k, by rw [h5]; exact updF_here _ _ _, ?_⟩
          rw [updF_here, if_neg (by omega)]
          simp; omega
      · right
        have h3 : t ≠ e.2 := fun e => by rw [e] at h1; omega
        refine ⟨p, by rw [updF_else _ _ h3]; exact h1, ?_⟩
        have hpk : p < k := by
          obtain ⟨p', h4, h5, -⟩ := h.placed (hnx _ t ht) (by omega); omega
        rw [updF_else _ _ (by omega)]; exact h2
  · by_cases e1 : p = k
    · subst e1
      rw [updF_here] at hx
      split at hx
      · cases hx
      · rename_i hge
        have h0 : 0 < p := by
          rcases Nat.eq_zero_or_pos p with h0 | h0
          · rw [(hop0 h0).2] at hge; simp at hge
          · exact h0
        obtain ⟨h1, h2, h3, h4⟩ := htop h0
        rw [List.mem_singleton.1 hx, updF_here, updF_else _ _ (by omega)]
        exact ⟨by omega, h3⟩
    · rw [updF_else _ _ e1] at hx
      have := h.ahd p (by omega) x hx
      rw [updF_else _ _ e1, updF_else _ _ (by omega)]
      exact ⟨by omega, this.2⟩
  · by_cases e1 : k = 0
    · subst e1; rw [updF_here, (hop0 rfl).2]
    · rw [updF_else _ _ (by omega)]; exact h.first.1 (by omega)
  · have hkk : (n - k) * (n + 1) ≤ n * (n + 1) := Nat.mul_le_mul_right _ (by omega)
    by_cases e1 : p = k
    · subst e1
      rw [updF_here]
      have h9 : (if e.1 < 0 then [] else [e.1.toNat] : List Nat).length ≤ 1 := by split <;> simp
      simp at hg
      rcases Nat.eq_zero_or_pos p with h6 | h6
      · subst h6
        have := (hop0 rfl).1
        subst this
        simp at hg ⊢
        have h10 : n * (n + 1) = (n - 1) * (n + 1) + (n + 1) := by rw [← Nat.succ_mul]; congr 1; omega
        omega
      · have h7 := h.few 0 h6
        omega
    · rw [updF_else _ _ e1]
      have := h.few p (by omega)
      simp at hg; omega

/-- All gone through. -/
def EdgeP (nx : Nat → List Nat) (k : Nat) (bl : Nat → Nat) (u v : Nat) : Prop := u < k ∧ v < k ∧ bl v ∈ nx (bl u)
structure TvE (nx : Nat → List Nat) (n k : Nat) (bl par : Nat → Nat) (ah : Nat → List Nat) (pl : Nat → Int) : Prop where
  tree : TreeP k (EdgeP nx k bl) par
  plc : ∀ b, b < n → pl b = -1 ∨ ∃ p, p < k ∧ pl b = (p : Int) ∧ bl p = b
  blk : ∀ p, p < k → bl p < n ∧ pl (bl p) = (p : Int)
  ahd : ∀ p, p < k → ∀ u, u ∈ ah p ↔ EdgeP nx k bl u p
  reach : ∀ b, b < n → (Reach nx 0 b ↔ 0 ≤ pl b)
  first : 0 < k ∧ bl 0 = 0
  kn : k ≤ n
  few : ∀ p, p < k → (ah p).length ≤ n * (n + 1) + 1
theorem TvI.all (h : TvI nx n k bl par ah pl [] g) (hnx : ∀ x, ∀ t ∈ nx x, t < n) (hn : 0 < n) : TvE nx n k bl par ah pl := by
  have hk : 0 < k := by
    rcases Nat.eq_zero_or_pos k with h0 | h0
    · have := h.first.2 h0; cases this
    · exact h0
  have hdone : ∀ u, u < k → ∀ t ∈ nx (bl u), ∃ p : Nat, p < k ∧ pl t = (p : Int) ∧ bl p = t ∧ u ∈ ah p := fun u hu t ht => by
    rcases h.done u hu t ht with h1 | ⟨p, h1, h2⟩
    · cases h1
    · obtain ⟨p', h4, h5, h6⟩ := h.placed (hnx _ t ht) (by omega)
      obtain rfl : p' = p := by omega
      exact ⟨p', h4, h5, h6, h2⟩
  refine ⟨⟨fun u v h => ⟨h.1, h.2.1⟩, fun v h0 hv => (h.parl v h0 hv).1, fun v h0 hv => ⟨by have := (h.parl v h0 hv).1; omega, hv, (h.parl v h0 hv).2⟩, fun u v he huv => h.up u v huv he.2.1 he.2.2, fun a b c => h.mid a b c⟩, h.plc, h.blk, fun p hp u => ⟨fun hu => ?_, fun hu => ?_⟩, fun b hb => ⟨fun hr => ?_, fun hp => ?_⟩, ⟨hk, h.first.1 hk⟩, h.kn, fun p hp => by have := h.few p hp; omega⟩
  · have := h.ahd p hp u hu; exact ⟨this.1, hp, this.2⟩
  · obtain ⟨q, h1, h2, h3, h4⟩ := hdone u hu.1 _ hu.2.2
    have := (h.blk p hp).2
    obtain rfl : q = p := by omega
    exact h4
  · have key : ∀ x, Reach nx 0 x → ∃ p : Nat, p < k ∧ pl x = (p : Int) ∧ bl p = x := by
      intro x hx
      induction hx with
      | refl => exact ⟨0, hk, by have := (h.blk 0 hk).2; rw [h.first.1 hk] at this; simpa using this, h.first.1 hk⟩
      | @step x y _ hxy ih =>
        obtain ⟨p, h1, h2, h3⟩ := ih
        obtain ⟨q, h4, h5, h6, _⟩ := hdone p h1 y (by rw [h3]; exact hxy)
        exact ⟨q, h4, h5, h6⟩
    obtain ⟨p, -, h2, -⟩ := key b hr
    omega
  · obtain ⟨p, h1, -, h3⟩ := h.placed hb hp
    rw [← h3]
    clear h3
    induction p using Nat.strongRecOn with
    | _ p ih =>
      rcases Nat.eq_zero_or_pos p with h0 | h0
      · subst h0; rw [h.first.1 hk]; exact .refl
      · obtain ⟨h4, h5⟩ := h.parl p h0 h1
        exact .step (ih _ h4 (by omega)) h5
end Go.Proofs.Ytflbooopgjgkbaa

/- What can be come to, by going round often enough, in mathematics. No condition. -/
namespace Go.Proofs.Ytflbooopgjgkbaa
set_option linter.unusedVariables false

def mkW (w : Int) (S : Nat → Bool) (t : Nat) : Nat → Bool := if (t : Int) = w then S else mark S t
def fromA (nx : Nat → List Nat) (w : Int) (S : Nat → Bool) (a : Nat) : Nat → Bool := if S a = true then (nx a).foldl (mkW w) S else S
def fromR (nx : Nat → List Nat) (w : Int) (n : Nat) (S : Nat → Bool) : Nat → Bool := (List.range n).foldl (fromA nx w) S
def fromN (nx : Nat → List Nat) (w : Int) (n b : Nat) : Nat → Nat → Bool
  | 0 => mark noneSeen b
  | i + 1 => fromR nx w n (fromN nx w n b i)
/-- Without going by one. -/
def nxW (nx : Nat → List Nat) (w : Int) (a : Nat) : List Nat := (nx a).filter fun t : Nat => decide ((t : Int) ≠ w)
theorem nxW_mem {nx : Nat → List Nat} {w : Int} {a t : Nat} : t ∈ nxW nx w a ↔ t ∈ nx a ∧ (t : Int) ≠ w := by
  unfold nxW; rw [List.mem_filter]; simp

theorem mkW_of {w : Int} {S : Nat → Bool} {t x : Nat} (h : S x = true) : mkW w S t x = true := by
  unfold mkW; split
  · exact h
  · exact mark_of h
theorem foldW_of {w : Int} {l : List Nat} : ∀ {S : Nat → Bool} {x : Nat}, S x = true → l.foldl (mkW w) S x = true := by
  induction l with
  | nil => exact fun h => h
  | cons t l ih => exact fun h => ih (mkW_of h)
theorem foldW_mem {w : Int} {l : List Nat} : ∀ {S : Nat → Bool} {t : Nat}, t ∈ l → (t : Int) ≠ w → l.foldl (mkW w) S t = true := by
  induction l with
  | nil => intro S t h; cases h
  | cons y l ih =>
    intro S t h hw
    rcases List.mem_cons.1 h with rfl | h
    · rw [List.foldl_cons]
      exact foldW_of (by unfold mkW; rw [if_neg hw]; exact mark_same _ _)
    · exact ih h hw
theorem foldW_inv {w : Int} {l : List Nat} : ∀ {S : Nat → Bool} {x : Nat}, l.foldl (mkW w) S x = true → S x = true ∨ (x ∈ l ∧ (x : Int) ≠ w) := by
  induction l with
  | nil => exact fun h => .inl h
  | cons y l ih =>
    intro S x h
    rcases ih h with h1 | ⟨h1, h2⟩
    · unfold mkW at h1
      split at h1
      · exact .inl h1
      · rename_i hne
        rcases mark_cases h1 with rfl | h1
        · exact .inr ⟨by simp, hne⟩
        · exact .inl h1
    · exact .inr ⟨by simp [h1], h2⟩
theorem fromA_of {nx : Nat → List Nat} {w : Int} {S : Nat → Bool} {a x : Nat} (h : S x = true) : fromA nx w S a x = true := by
  unfold fromA; split
  · exact foldW_of h
  · exact h
theorem foldA_of {nx : Nat → List Nat} {w : Int} {l : List Nat} : ∀ {S : Nat → Bool} {x : Nat}, S x = true → l.foldl (fromA nx w) S x = true := by
  induction l with
  | nil => exact fun h => h
  | cons t l ih => exact fun h => ih (fromA_of h)
theorem foldA_mem {nx : Nat → List Nat} {w : Int} {l : List Nat} : ∀ {S : Nat → Bool} {a t : Nat}, a ∈ l → S a = true → t ∈ nx a → (t : Int) ≠ w → l.foldl (fromA nx w) S t = true := by
  induction l with
  | nil => intro S a t h; cases h
  | cons y l ih =>
    intro S a t h hs ht hw
    rcases List.mem_cons.1 h with rfl | h
    · rw [List.foldl_cons]
      exact foldA_of (by unfold fromA; rw [if_pos hs]; exact foldW_mem ht hw)
    · exact ih h (fromA_of hs) ht hw
theorem foldA_inv {nx : Nat → List Nat} {w : Int} {p : Nat → Prop} {l : List Nat} : (∀ a t, a ∈ l → p a → t ∈ nx a → (t : Int) ≠ w → p t) → ∀ {S : Nat → Bool}, (∀ x, S x = true → p x) → ∀ x, l.foldl (fromA nx w) S x = true → p x := by
  induction l with
  | nil => exact fun _ _ h => h
  | cons y l ih =>
    intro hp S h
    refine ih (fun a t ha => hp a t (by simp [ha])) fun x hx => ?_
    unfold fromA at hx
    split at hx
    · rename_i hy
      rcases foldW_inv hx with h1 | ⟨h1, h2⟩
      · exact h x h1
      · exact hp y x (by simp) (h y hy) h1 h2
    · exact h x hx

def ClosedG (nx : Nat → List Nat) (w : Int) (n : Nat) (S : Nat → Bool) : Prop := ∀ a t, a < n → S a = true → t ∈ nx a → (t : Int) ≠ w → S t = true
theorem unseen_less {n : Nat} {S S' : Nat → Bool} (h : ∀ x, S x = true → S' x = true) {t : Nat} (ht : t < n) (h1 : S t = false) (h2 : S' t = true) : unseen n S' + 1 ≤ unseen n S := by
  rw [unseen_mark h1 ht]
  have : unseen n S' ≤ unseen n (mark S t) := unseen_mono fun x hx => by
    rcases mark_cases hx with rfl | hx
    · exact h2
    · exact h x hx
  omega
theorem from_step {nx : Nat → List Nat} {n : Nat} (hnx : ∀ x, ∀ t ∈ nx x, t < n) {w : Int} {b : Nat} (hb : b < n) : ∀ i : Nat, ClosedG nx w n (fromN nx w n b i) ∨ unseen n (fromN nx w n b i) + i + 1 ≤ n := by
  intro i
  induction i with
  | zero =>
    right
    have h := unseen_mark (S := noneSeen) (b := b) rfl hb
    have h2 := unseen_le n noneSeen
    show unseen n (mark noneSeen b) + 0 + 1 ≤ n
    omega
  | succ i ih =>
    generalize hS : fromN nx w n b i = S at ih
    have hS' : fromN nx w n b (i + 1) = fromR nx w n S := by rw [← hS]; rfl
    rw [hS']
    by_cases hc : ClosedG nx w n S
    · left
      have hup : ∀ x, fromR nx w n S x = true → S x = true :=
        foldA_inv (p := fun x => S x = true) (fun a t ha hs ht hw => hc a t (List.mem_range.1 ha) hs ht hw) (fun x hx => hx)
      intro a t ha hs ht hw
      exact foldA_of (hc a t ha (hup a hs) ht hw)
    · rcases ih with ih | ih
      · exact absurd ih hc
      · right
        have : ∃ a t, a < n ∧ S a = true ∧ t ∈ nx a ∧ (t : Int) ≠ w ∧ S t = false := by
          apply Classical.byContradiction
          intro h
          apply hc
          intro a t ha hs ht hw
          cases h2 : S t
          · exact absurd ⟨a, t, ha, hs, ht, hw, h2⟩ h
          · rfl
        obtain ⟨a, t, ha, hs, ht, hw, h2⟩ := this
        have := unseen_less (S := S) (S' := fromR nx w n S) (fun x hx => foldA_of hx) (hnx a t ht) h2 (foldA_mem (List.mem_range.2 ha) hs ht hw)
        omega
theorem fromN_of {nx : Nat → List Nat} {w : Int} {n b : Nat} : ∀ i : Nat, fromN nx w n b i b = true
  | 0 => mark_same _ _
  | i + 1 => foldA_of (fromN_of i)
theorem fromN_reach {nx : Nat → List Nat} {w : Int} {n b : Nat} : ∀ (i x : Nat), fromN nx w n b i x = true → Reach (nxW nx w) b x
  | 0, x, h => by
    rcases mark_cases h with rfl | h
    · exact .refl
    · cases h
  | i + 1, x, h => foldA_inv (p := Reach (nxW nx w) b) (fun a t _ ha ht hw => .step ha (nxW_mem.2 ⟨ht, hw⟩)) (fun y hy => fromN_reach i y hy) x h
/-- Gone round as often as there are blocks: what can be come to. -/
theorem fromN_iff {nx : Nat → List Nat} {n : Nat} (hnx : ∀ x, ∀ t ∈ nx x, t < n) {w : Int} {b : Nat} (hb : b < n) (x : Nat) : fromN nx w n b n x = true ↔ Reach (nxW nx w) b x := by
  refine ⟨fromN_reach n x, fun h => ?_⟩
  rcases from_step hnx (w := w) hb n with hc | hc
  · have hlt : ∀ y, Reach (nxW nx w) b y → y < n := fun y hy => by
      cases hy with
      | refl => exact hb
      | step _ h => exact hnx _ _ (nxW_mem.1 h).1
    induction h with
    | refl => exact fromN_of n
    | step h1 h2 ih => exact hc _ _ (hlt _ h1) ih (nxW_mem.1 h2).1 (nxW_mem.1 h2).2
  · omega
theorem nxW_any (nx : Nat → List Nat) (w : Int) (hw : w < 0) : nxW nx w = nx := by
  funext a
  unfold nxW
  rw [List.filter_eq_self]
  intro t _
  simp; omega
theorem fromN_reachB {nx : Nat → List Nat} {n : Nat} (hnx : ∀ x, ∀ t ∈ nx x, t < n) (hn : 0 < n) (x : Nat) : fromN nx (-1) n 0 n x = reachB nx n x := by
  have h1 := fromN_iff hnx (w := -1) (b := 0) hn x
  rw [nxW_any nx (-1) (by omega), ← orderL_mem hnx (by omega)] at h1
  unfold reachB
  rw [Bool.eq_iff_iff, decide_eq_true_iff]
  exact h1
end Go.Proofs.Ytflbooopgjgkbaa

/- Modules as lists, and what memory holds of them. No condition. -/
namespace Go.Proofs.Ytflbooopgjgkbaa
open Go.ChangeShapes Go.WideShapes Go.RowKit Go.Deep
set_option linter.unusedVariables false

/-! ### Data -/
structure PhiD where
  dst : Int
  args : List Int
structure InsD where
  op : Int
  dst : Int
  args : List Int
  imm : Int
  fn : Int
structure TermD where
  kind : Int
  arg : Int
  to : List Int
structure BlkD where
  phis : List PhiD
  ins : List InsD
  term : TermD
structure FunD where
  params : Int
  result : Int
  regs : List Int
  blocks : List BlkD

instance : Inhabited PhiD := ⟨⟨0, []⟩⟩
instance : Inhabited InsD := ⟨⟨0, 0, [], 0, 0⟩⟩
instance : Inhabited TermD := ⟨⟨0, 0, []⟩⟩
instance : Inhabited BlkD := ⟨⟨[], [], default⟩⟩
instance : Inhabited FunD := ⟨⟨0, 0, [], []⟩⟩

/-- It fits 64 bits, with a sign. -/
def I64 (x : Int) : Prop := -9223372036854775808 ≤ x ∧ x ≤ 9223372036854775807

/-! ### Readings -/
/-- All that could be read reads as it did. -/
def Kept (w w' : World) : Prop := ∀ a v, w.cell? a = some v → w'.cell? a = some v

theorem Kept.refl (w : World) : Kept w w := fun _ _ h => h
theorem Kept.trans {a b c : World} (h : Kept a b) (k : Kept b c) : Kept a c := fun x v hx => k x v (h x v hx)
theorem kept_of_below {w w' : World} (h : Below w.heap.size w w') : Kept w w' := fun a v ha => (h.cell (p := a) (block_lt_of_cell ha)).trans ha
theorem kept_below {B : Nat} {w w' : World} (h : Below B w w') (hB : w.heap.size ≤ B) : Kept w w' := kept_of_below (h.mono hB)
theorem kept_alloc (w : World) (o : Obj) : Kept w (w.alloc o) := fun a v ha => (World.cell?_alloc_lt _ _ _ (block_lt_of_cell ha)).trans ha

/-- A slice's elements read as a list: element i lies at i times sz cells from where it begins, and reads as R says. -/
def SL {α : Type} (w : World) (sz : Nat) (R : World → Nat → Nat → α → Prop) (A : Option Addr) (c : Nat) (xs : List α) : Prop :=
  xs.length ≤ c ∧ (c ≤ maxLen ∧ (A = none → c = 0)) ∧ (0 < xs.length → ∃ b o, A = some ⟨b, o, none⟩ ∧ ∀ i x, xs[i]? = some x → R w b (o + i * sz) x)
/-- A slice value reads as a list. -/
def VS {α : Type} (w : World) (sz : Nat) (R : World → Nat → Nat → α → Prop) (v : Value) (xs : List α) : Prop := ∃ A c, v = .slice A xs.length c ∧ SL w sz R A c xs
/-- A cell holds a slice that reads as a list. -/
def CS {α : Type} (w : World) (b o : Nat) (sz : Nat) (R : World → Nat → Nat → α → Prop) (xs : List α) : Prop := ∃ A c, w.cell? ⟨b, o, none⟩ = some (.slice A xs.length c) ∧ SL w sz R A c xs

def RInt (w : World) (b o : Nat) (x : Int) : Prop := w.cell? ⟨b, o, none⟩ = some (.int .i64 x) ∧ I64 x
def RPhi (w : World) (b o : Nat) (p : PhiD) : Prop := RInt w b o p.dst ∧ CS w b (o + 1) 1 RInt p.args
def RIns (w : World) (b o : Nat) (x : InsD) : Prop := RInt w b o x.op ∧ RInt w b (o + 1) x.dst ∧ CS w b (o + 2) 1 RInt x.args ∧ RInt w b (o + 3) x.imm ∧ RInt w b (o + 4) x.fn
def RBlk (w : World) (b o : Nat) (k : BlkD) : Prop := CS w b o 2 RPhi k.phis ∧ CS w b (o + 1) 5 RIns k.ins ∧ RInt w b (o + 2) k.term.kind ∧ RInt w b (o + 3) k.term.arg ∧ CS w b (o + 4) 1 RInt k.term.to
def RFun (w : World) (b o : Nat) (f : FunD) : Prop := RInt w b o f.params ∧ RInt w b (o + 1) f.result ∧ CS w b (o + 2) 1 RInt f.regs ∧ CS w b (o + 3) 5 RBlk f.blocks

/-- By value. -/
def VTerm (w : World) (v : Value) (t : TermD) : Prop := ∃ A c, v = .agg #[.int .i64 t.kind, .int .i64 t.arg, .slice A t.to.length c] ∧ SL w 1 RInt A c t.to ∧ I64 t.kind ∧ I64 t.arg
def VPhi (w : World) (v : Value) (p : PhiD) : Prop := ∃ A c, v = .agg #[.int .i64 p.dst, .slice A p.args.length c] ∧ SL w 1 RInt A c p.args ∧ I64 p.dst
def VIns (w : World) (v : Value) (x : InsD) : Prop :=
  ∃ A c, v = .agg #[.int .i64 x.op, .int .i64 x.dst, .slice A x.args.length c, .int .i64 x.imm, .int .i64 x.fn] ∧ SL w 1 RInt A c x.args ∧ I64 x.op ∧ I64 x.dst ∧ I64 x.imm ∧ I64 x.fn
def VBlk (w : World) (v : Value) (k : BlkD) : Prop :=
  ∃ Ap cp Ai ci At ct, v = .agg #[.slice Ap k.phis.length cp, .slice Ai k.ins.length ci, .int .i64 k.term.kind, .int .i64 k.term.arg, .slice At k.term.to.length ct] ∧
    SL w 2 RPhi Ap cp k.phis ∧ SL w 5 RIns Ai ci k.ins ∧ SL w 1 RInt At ct k.term.to ∧ I64 k.term.kind ∧ I64 k.term.arg
def VFun (w : World) (v : Value) (f : FunD) : Prop :=
  ∃ Ar cr Ab cb, v = .agg #[.int .i64 f.params, .int .i64 f.result, .slice Ar f.regs.length cr, .slice Ab f.blocks.length cb] ∧ SL w 1 RInt Ar cr f.regs ∧ SL w 5 RBlk Ab cb f.blocks ∧ I64 f.params ∧ I64 f.result
def VMod (w : World) (v : Value) (m : List FunD) : Prop := ∃ A c, v = .agg #[.slice A m.length c] ∧ SL w 4 RFun A c m

/-! ### Small enough to be gone through -/
def SmallB (b : BlkD) : Prop := b.ins.length ≤ 300 ∧ b.phis.length ≤ 300 ∧ b.term.to.length ≤ 70 ∧ (∀ x ∈ b.ins, x.args.length ≤ 300) ∧ (∀ x ∈ b.phis, x.args.length ≤ 300)
def SmallF (f : FunD) : Prop := f.blocks.length ≤ 70 ∧ f.regs.length ≤ 300 ∧ f.params ≤ 1000 ∧ ∀ b ∈ f.blocks, SmallB b
def SmallM (m : List FunD) : Prop := m.length ≤ 40 ∧ ∀ f ∈ m, SmallF f
/-- The first k are so. -/
def Upto {α : Type} (p : α → Prop) (l : List α) (k : Nat) : Prop := ∀ x ∈ l.take k, p x
theorem Upto.zero {α : Type} {p : α → Prop} {l : List α} : Upto p l 0 := fun x hx => absurd hx (by simp)
theorem Upto.all {α : Type} {p : α → Prop} {l : List α} {k : Nat} (h : Upto p l k) (hk : l.length ≤ k) : ∀ x ∈ l, p x := fun x hx => h x (by rwa [List.take_of_length_le hk])

/-! ### They are kept -/
section
variable {w w' : World} (h : Kept w w')
include h
theorem SL.keep {α : Type} {sz : Nat} {R : World → Nat → Nat → α → Prop} (hR : ∀ b o x, R w b o x → R w' b o x) {A : Option Addr} {c : Nat} {xs : List α} (hv : SL w sz R A c xs) : SL w' sz R A c xs := by
  have _ := h
  obtain ⟨h1, h2, h3⟩ := hv
  exact ⟨h1, h2, fun hp => by obtain ⟨b, o, e, hx⟩ := h3 hp; exact ⟨b, o, e, fun i x hi => hR _ _ _ (hx i x hi)⟩⟩
theorem VS.keep {α : Type} {sz : Nat} {R : World → Nat → Nat → α → Prop} (hR : ∀ b o x, R w b o x → R w' b o x) {v : Value} {xs : List α} (hv : VS w sz R v xs) : VS w' sz R v xs := by
  obtain ⟨A, c, e, h1⟩ := hv
  exact ⟨A, c, e, SL.keep h hR h1⟩
theorem CS.keep {α : Type} {sz : Nat} {R : World → Nat → Nat → α → Prop} (hR : ∀ b o x, R w b o x → R w' b o x) {b o : Nat} {xs : List α} (hv : CS w b o sz R xs) : CS w' b o sz R xs := by
  obtain ⟨A, c, e, h1⟩ := hv
  exact ⟨A, c, h _ _ e, SL.keep h hR h1⟩
theorem RInt.keep (b o : Nat) (x : Int) (hv : RInt w b o x) : RInt w' b o x := ⟨h _ _ hv.1, hv.2⟩
theorem RPhi.keep (b o : Nat) (x : PhiD) (hv : RPhi w b o x) : RPhi w' b o x := ⟨RInt.keep h _ _ _ hv.1, CS.keep h (RInt.keep h) hv.2⟩
theorem RIns.keep (b o : Nat) (x : InsD) (hv : RIns w b o x) : RIns w' b o x := by
  obtain ⟨h1, h2, h3, h5, h6⟩ := hv
  exact ⟨RInt.keep h _ _ _ h1, RInt.keep h _ _ _ h2, CS.keep h (RInt.keep h) h3, RInt.keep h _ _ _ h5, RInt.keep h _ _ _ h6⟩
theorem RBlk.keep (b o : Nat) (x : BlkD) (hv : RBlk w b o x) : RBlk w' b o x := by
  obtain ⟨h1, h2, h3, h4, h5⟩ := hv
  exact ⟨CS.keep h (RPhi.keep h) h1, CS.keep h (RIns.keep h) h2, RInt.keep h _ _ _ h3, RInt.keep h _ _ _ h4, CS.keep h (RInt.keep h) h5⟩
theorem RFun.keep (b o : Nat) (x : FunD) (hv : RFun w b o x) : RFun w' b o x := by
  obtain ⟨h1, h2, h3, h4⟩ := hv
  exact ⟨RInt.keep h _ _ _ h1, RInt.keep h _ _ _ h2, CS.keep h (RInt.keep h) h3, CS.keep h (RBlk.keep h) h4⟩
theorem SInts.keep {A : Option Addr} {c : Nat} {xs : List Int} (hv : SL w 1 RInt A c xs) : SL w' 1 RInt A c xs := SL.keep h (RInt.keep h) hv
theorem SPhis.keep {A : Option Addr} {c : Nat} {xs : List PhiD} (hv : SL w 2 RPhi A c xs) : SL w' 2 RPhi A c xs := SL.keep h (RPhi.keep h) hv
theorem SInss.keep {A : Option Addr} {c : Nat} {xs : List InsD} (hv : SL w 5 RIns A c xs) : SL w' 5 RIns A c xs := SL.keep h (RIns.keep h) hv
theorem SBlks.keep {A : Option Addr} {c : Nat} {xs : List BlkD} (hv : SL w 5 RBlk A c xs) : SL w' 5 RBlk A c xs := SL.keep h (RBlk.keep h) hv
theorem SFuns.keep {A : Option Addr} {c : Nat} {xs : List FunD} (hv : SL w 4 RFun A c xs) : SL w' 4 RFun A c xs := SL.keep h (RFun.keep h) hv
theorem VInts.keep {v : Value} {xs : List Int} (hv : VS w 1 RInt v xs) : VS w' 1 RInt v xs := VS.keep h (RInt.keep h) hv
theorem VTerm.keep {v : Value} {t : TermD} (hv : VTerm w v t) : VTerm w' v t := by
  obtain ⟨A, c, rfl, g1, g2⟩ := hv
  exact ⟨A, c, rfl, SInts.keep h g1, g2⟩
theorem VPhi.keep {v : Value} {t : PhiD} (hv : VPhi w v t) : VPhi w' v t := by
  obtain ⟨A, c, rfl, g1, g2⟩ := hv
  exact ⟨A, c, rfl, SInts.keep h g1, g2⟩
theorem VIns.keep {v : Value} {t : InsD} (hv : VIns w v t) : VIns w' v t := by
  obtain ⟨A, c, rfl, g1, g2⟩ := hv
  exact ⟨A, c, rfl, SInts.keep h g1, g2⟩
theorem VBlk.keep {v : Value} {t : BlkD} (hv : VBlk w v t) : VBlk w' v t := by
  obtain ⟨_, _, _, _, _, _, rfl, g1, g2, g3, g4⟩ := hv
  exact ⟨_, _, _, _, _, _, rfl, SPhis.keep h g1, SInss.keep h g2, SInts.keep h g3, g4⟩
theorem VFun.keep {v : Value} {t : FunD} (hv : VFun w v t) : VFun w' v t := by
  obtain ⟨_, _, _, _, rfl, g1, g2, g3⟩ := hv
  exact ⟨_, _, _, _, rfl, SInts.keep h g1, SBlks.keep h g2, g3⟩
theorem VMod.keep {v : Value} {t : List FunD} (hv : VMod w v t) : VMod w' v t := by
  obtain ⟨_, _, rfl, g1⟩ := hv
  exact ⟨_, _, rfl, SFuns.keep h g1⟩
end

/-! ### Elements -/
section
variable {α : Type} {w : World} {sz c : Nat} {R : World → Nat → Nat → α → Prop} {A : Option Addr} {xs : List α}
theorem SL.len (h : SL w sz R A c xs) : xs.length ≤ 9223372036854775807 := by
  obtain ⟨h1, ⟨h2, _⟩, _⟩ := h
  unfold maxLen at h2; omega
/-- Element k of a slice that is read. -/
theorem SL.at_ (h : SL w sz R A c xs) {k : Nat} (hk : k < xs.length) : ∃ b o x, A = some ⟨b, o, none⟩ ∧ Hid (xs[k]? = some x) ∧ R w b (o + k * sz) x := by
  obtain ⟨h1, h2, h3⟩ := h
  obtain ⟨b, o, e, hx⟩ := h3 (by omega)
  exact ⟨b, o, xs[k], e, Lib.hid (List.getElem?_eq_getElem hk), hx k _ (List.getElem?_eq_getElem hk)⟩
end
theorem SL.int {w : World} {c : Nat} {A : Option Addr} {xs : List Int} (h : SL w 1 RInt A c xs) {k : Nat} (hk : k < xs.length) :
    ∃ b o x, A = some ⟨b, o, none⟩ ∧ Hid (xs[k]? = some x) ∧ w.cell? ⟨b, o + k, none⟩ = some (.int .i64 x) ∧ I64 x := by
  obtain ⟨b, o, x, e, hx, h1, h2⟩ := h.at_ hk
  rw [Nat.mul_one] at h1
  exact ⟨b, o, x, e, hx, h1, h2⟩
theorem take_succ_of {α : Type} {l : List α} {j : Nat} {x : α} (h : l[j]? = some x) : l.take (j + 1) = l.take j ++ [x] := by
  obtain ⟨hj, rfl⟩ := List.getElem?_eq_some_iff.1 h
  exact List.take_succ_eq_append_getElem hj

theorem Upto.succ {α : Type} {p : α → Prop} {l : List α} {k : Nat} {y : α} (h : Upto p l k) (hy : l[k]? = some y) (hp : p y) : Upto p l (k + 1) := by
  intro x hx
  rw [take_succ_of hy] at hx
  rcases List.mem_append.1 hx with hx | hx
  · exact h x hx
  · rw [List.mem_singleton.1 hx]; exact hp

/-- A new block, and the world behind it by a name. -/
theorem named (w : World) (cs : Array Value) (t : TypeId) : ∃ w1, w1 = w.alloc (.cells cs t) ∧ w1.heap.size = w.heap.size + 1 ∧ Kept w w1 ∧ Below w.heap.size w w1 ∧
    (∀ i u, cs[i]? = some u → w1.cell? ⟨w.heap.size, i, none⟩ = some u) ∧ (∀ i, w1.frozen? ⟨w.heap.size, i, none⟩ = false) := by
  refine ⟨_, rfl, by simp, kept_alloc _ _, (Below.refl _ _).alloc (Nat.le_refl _) _, fun i u hu => (World.cell?_alloc_at (w := w) cs t w.heap.size i rfl).trans hu, fun i => by simp⟩

/-- A function's value laid in a block reads as that function. -/
theorem RFun.of_cells {w : World} {g : Nat} {f : FunD} {Ar Ab : Option Addr} {cr cb : Nat} (h : ∀ i u, #[Value.int .i64 f.params, .int .i64 f.result, .slice Ar f.regs.length cr, .slice Ab f.blocks.length cb][i]? = some u → w.cell? ⟨g, i, none⟩ = some u)
    (hr : SL w 1 RInt Ar cr f.regs) (hb : SL w 5 RBlk Ab cb f.blocks) (hp : I64 f.params) (hs : I64 f.result) : RFun w g 0 f :=
  ⟨⟨h 0 _ rfl, hp⟩, ⟨h 1 _ rfl, hs⟩, ⟨Ar, cr, h 2 _ rfl, hr⟩, ⟨Ab, cb, h 3 _ rfl, hb⟩⟩
/-- One element alone. -/
theorem SL.one {α : Type} {w : World} {sz b o : Nat} {R : World → Nat → Nat → α → Prop} {x : α} (h : R w b o x) : SL w sz R (some ⟨b, o, none⟩) 1 [x] := by
  refine ⟨Nat.le_refl _, ⟨by unfold maxLen; omega, fun e => by cases e⟩, fun _ => ⟨b, o, rfl, fun i y hi => ?_⟩⟩
  match i, hi with
  | 0, hi => obtain rfl := Option.some.inj hi; simpa using h
  | i + 1, hi => simp at hi

/-! ### Rows of the call's own -/
theorem news_one (w : World) (v : Value) (t : TypeId) {g : Nat} (hg : g = w.heap.size) : ∀ j u, [v][j]? = some u → (w.alloc (.cells #[v] t)).cell? ⟨g, j, none⟩ = some u := by
  intro j u hu
  subst hg
  rcases j with _ | j
  · obtain rfl := Option.some.inj hu
    exact (World.cell?_alloc_at (w := w) #[v] t w.heap.size 0 rfl).trans rfl
  · exact absurd hu (by simp)
theorem news_one_add (w : World) (v : Value) (t : TypeId) {g : Nat} (hg : g = w.heap.size) : ∀ j u, [v][j]? = some u → (w.alloc (.cells #[v] t)).cell? ((⟨g, 0, none⟩ : Addr).add j) = some u := fun j u hu => by
  have h := news_one w v t hg j u hu
  rwa [show (⟨g, 0, none⟩ : Addr).add j = ⟨g, j, none⟩ by unfold Addr.add; split <;> simp_all]
/-- A row of integers that the call owns reads as a list. -/
theorem vs_of_own {w : World} {base : Nat} {e : TypeId} {v : Value} {xs : List Int} (h : w.ownsRow base e 1 v xs.length (xs.map (Value.int .i64))) (hx : ∀ x ∈ xs, I64 x) : VS w 1 RInt v xs := by
  rcases h.2 with ⟨rfl, h0⟩ | ⟨g, c, cur, rfl, hb, hh, hn, hc, hsz, ht⟩
  · have : xs = [] := List.length_eq_zero_iff.1 h0
    subst this
    exact ⟨none, 0, rfl, Nat.le_refl _, ⟨by unfold maxLen; omega, fun _ => rfl⟩, fun hp => absurd hp (by simp)⟩
  · refine ⟨some ⟨g, 0, none⟩, c, rfl, hn, ⟨hc, fun e => by cases e⟩, fun _ => ⟨g, 0, rfl, fun i x hi => ⟨?_, hx x (List.mem_of_getElem? hi)⟩⟩⟩
    have := h.cells (g := g) rfl i (.int .i64 x) (by rw [List.getElem?_map, hi]; rfl)
    rw [Nat.mul_one]
    rwa [show (⟨g, 0, none⟩ : Addr).add i = ⟨g, 0 + i, none⟩ by unfold Addr.add; split <;> simp_all] at this

/-! ### A module that came in -/
section
variable {H : Type} {enc : TypeId × Value → H} {P : Program} {w : World} {base : Nat} {spare : Nat → Bool} {held : Bool}

/-- An element is read: its cells, from a place on. -/
def Opens {α : Type} (enc : TypeId × Value → H) (P : Program) (w : World) (base : Nat) (spare : Nat → Bool) (held : Bool) (e : TypeId) (sz : Nat) (R : World → Nat → Nat → α → Prop) : Prop :=
  ∀ n b o cs y, cs.length = sz → (∀ i, i < sz → w.cell? ⟨b, o + i, none⟩ = cs[i]?) → DataW.trod enc P w base spare held n e cs = some y → ∃ x, R w b o x

theorem add_plain' (b o i : Nat) : (⟨b, o, none⟩ : Addr).add i = ⟨b, o + i, none⟩ := by unfold Addr.add; split <;> simp_all

theorem open_vs {α : Type} [Inhabited α] {t e : TypeId} {fuel : Nat} {v : Value} {y : DataW H × List MemPlace} {sz : Nat} {R : World → Nat → Nat → α → Prop}
    (ht : P.underlying t = some (.slice e)) (hsz : P.cellsOf e = sz) (hpos : 0 < sz) (hR : Opens enc P w base spare held e sz R)
    (h : DataW.trod enc P w base spare held fuel t [v] = some y) : ∃ xs, VS w sz R v xs := by
  rcases open_slice ht h with ⟨hv, _⟩ | ⟨a, len, cap, m, n, D, Pl, hv, _, hl, hm, hmm, _, hx⟩
  · obtain rfl : v = .slice none 0 0 := by simpa using hv
    exact ⟨[], none, 0, rfl, Nat.le_refl _, ⟨by unfold maxLen; omega, fun _ => rfl⟩, fun hp => absurd hp (by simp)⟩
  · obtain rfl : v = .slice (some a) len cap := by simpa using hv
    rw [hsz] at hx
    by_cases h0 : len = 0
    · subst h0
      exact ⟨[], some a, cap, rfl, hl, ⟨hm, fun e => by cases e⟩, fun hp => absurd hp (by simp)⟩
    · have hml : len ≤ m := by rw [hmm]; split <;> omega
      obtain ⟨b, o, spot⟩ := a
      have hspot : spot = none := by
        obtain ⟨cs, hc, _⟩ := hx 0 (by omega)
        obtain ⟨_, hlen, hat⟩ := World.cells?_some hc
        have h1 := hat 0 hpos
        rw [List.getElem?_eq_getElem (by omega)] at h1
        have h2 := World.cell?_spot h1
        simpa [Addr.add] using h2
      subst hspot
      obtain ⟨f, hf⟩ := choose_lt (α := α) (n := len) (p := fun i x => R w b (o + i * sz) x) (fun i hi => by
        obtain ⟨cs, hc, hd⟩ := hx i (by omega)
        obtain ⟨_, hlen, hat⟩ := World.cells?_some hc
        exact hR n b (o + i * sz) cs _ hlen (fun j hj => by have := hat j hj; rwa [add_plain', add_plain'] at this) hd)
      refine ⟨(List.range len).map f, some ⟨b, o, none⟩, cap, by simp, by simpa using hl, ⟨hm, fun e => by cases e⟩, fun _ => ⟨b, o, rfl, fun i x hi => ?_⟩⟩
      obtain ⟨hi', rfl⟩ := List.getElem?_eq_some_iff.1 hi
      simp only [List.getElem_map, List.getElem_range]
      exact hf i (by simpa using hi')

theorem wf_i64 {x : Int} (h : (Lit.int .i64 x).wf = true) : I64 x := by
  unfold I64
  have h' := bounds_i64 h
  exact h'
end
end Go.Proofs.Ytflbooopgjgkbaa

/- The blocks ahead of one, as a list: plain mathematics. -/
namespace Go.Proofs.Ytflbooopgjgkbaa
open Go.ChangeShapes Go.WideShapes Go.RowKit Go.Deep
set_option linter.unusedVariables false

theorem Try.info3 : (Try.prog.info? 3).map (fun i => (i.zero, i.size, i.bytes)) = some (some (.int .i64 0), 1, 8) := by kernel_rfl

def hasTo (block : Int) (to : List Int) : Bool := to.any (· == block)
def aheadK : List BlkD → Nat → Int → List Int
  | [], _, _ => []
  | b :: r, i, block => (if hasTo block b.term.to then [(i : Int)] else []) ++ aheadK r (i + 1) block
/-- The blocks ahead of one. -/
def aheadL (bs : List BlkD) (block : Int) : List Int := aheadK bs 0 block

theorem aheadK_snoc (bs : List BlkD) (i : Nat) (block : Int) (x : BlkD) : aheadK (bs ++ [x]) i block = aheadK bs i block ++ (if hasTo block x.term.to then [((i + bs.length : Nat) : Int)] else []) := by
  induction bs generalizing i with
  | nil => simp [aheadK]
  | cons b r ih => simp only [List.cons_append, aheadK, ih, List.append_assoc, List.length_cons]; congr 3; simp; omega
theorem aheadL_step {bs : List BlkD} {k : Nat} {x : BlkD} (block : Int) (h : bs[k]? = some x) : aheadL (bs.take (k + 1)) block = aheadL (bs.take k) block ++ (if hasTo block x.term.to then [(k : Int)] else []) := by
  have hk : k < bs.length := (List.getElem?_eq_some_iff.1 h).1
  rw [aheadL, take_succ_of h, aheadK_snoc, List.length_take, Nat.min_eq_left (by omega), Nat.zero_add]; rfl
theorem aheadK_len (bs : List BlkD) (i : Nat) (block : Int) : (aheadK bs i block).length ≤ bs.length := by
  induction bs generalizing i with
  | nil => simp [aheadK]
  | cons b r ih => simp only [aheadK, List.length_append, List.length_cons]; have := ih (i + 1); split <;> simp <;> omega
theorem aheadK_mem (bs : List BlkD) (i : Nat) (block : Int) : ∀ x ∈ aheadK bs i block, (i : Int) ≤ x ∧ x < ((i + bs.length : Nat) : Int) := by
  induction bs generalizing i with
  | nil => simp [aheadK]
  | cons b r ih =>
    intro x hx
    simp only [aheadK, List.mem_append] at hx
    rcases hx with hx | hx
    · split at hx <;> simp at hx; subst hx; simp; omega
    · have := ih (i + 1) x hx; simp at this ⊢; omega
theorem aheadL_i64 (bs : List BlkD) (block : Int) (h : bs.length ≤ 9223372036854775807) : ∀ x ∈ aheadL bs block, I64 x := by
  intro x hx
  have := aheadK_mem bs 0 block x hx
  simp at this
  unfold I64; omega
theorem hasTo_step (block : Int) {t : List Int} {j : Nat} {x : Int} (h : t[j]? = some x) : hasTo block (t.take (j + 1)) = (hasTo block (t.take j) || (x == block)) := by
  rw [take_succ_of h]; simp [hasTo]
end Go.Proofs.Ytflbooopgjgkbaa
