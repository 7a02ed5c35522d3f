/- Going to all blocks that are reached, each by its place, in mathematics. No condition. -/
import Derived.Test.YtcjmhdneelmbhaaGrTJ
import Derived.Test.YtcjmhdneelmbhaaSpecJ
import Derived.Deep.AppendLies
import Derived.Deep.OwnRows
import Derived.Deep.DeepCutAuto
import Derived.Test.YtcjmhdneelmbhaaDmFrJ
import Derived.Laws.OwnMore
import Derived.Test.YtcjmhdneelmbhaaAheadGJ
namespace Go.Proofs.Ytcjmhdneelmbhaa
set_option linter.unusedVariables false

def updF {α : Type} (f : Nat → α) (k : Nat) (x : α) : Nat → α := fun v => if v = k then x else f v
theorem updF_here {α : Type} (f : Nat → α) (k : Nat) (x : α) : updF f k x k = x := by simp [updF]
theorem updF_else {α : Type} (f : Nat → α) {k v : Nat} (x : α) (h : v ≠ k) : updF f k x v = f v := by simp [updF, h]
theorem AncP.congr {par par' : Nat → Nat} {k a c : Nat} (h : AncP par a c) (hc : c < k) (hlt : ∀ v, 0 < v → v < k → par v < v) (he : ∀ v, v < k → par' v = par v) : AncP par' a c := by
  induction h with
  | refl => exact .refl
  | @step v h0 _ ih =>
    have := hlt _ h0 hc
    exact .step h0 (by rw [he _ hc]; exact ih (by omega))

/-- How far it has gone: k places; what lies open, the last first. -/
structure TvI (nx : Nat → List Nat) (n k : Nat) (bl par : Nat → Nat) (ah : Nat → List Nat) (pl : Nat → Int) (op : List (Int × Nat)) (g : Nat) : Prop where
  plc : ∀ b, b < n → pl b = -1 ∨ ∃ p, p < k ∧ pl b = (p : Int) ∧ bl p = b
  blk : ∀ p, p < k → bl p < n ∧ pl (bl p) = (p : Int)
  parl : ∀ v, 0 < v → v < k → par v < v ∧ bl v ∈ nx (bl (par v))
  up : ∀ u v, u < v → v < k → bl v ∈ nx (bl u) → AncP par u v
  mid : ∀ a b c, AncP par a c → c < k → a ≤ b → b ≤ c → AncP par a b
  opn : ∀ e ∈ op, e.2 < n ∧ ((e.1 = -1 ∧ k = 0 ∧ e.2 = 0) ∨ ∃ u : Nat, u < k ∧ e.1 = (u : Int) ∧ e.2 ∈ nx (bl u) ∧ AncP par u (k - 1))
  sort : op.Pairwise (fun e e' => e.1 ≤ e'.1)
  done : ∀ u, u < k → ∀ t ∈ nx (bl u), ((u : Int), t) ∈ op ∨ ∃ p : Nat, pl t = (p : Int) ∧ u ∈ ah p
  ahd : ∀ p, p < k → ∀ u ∈ ah p, u < k ∧ bl p ∈ nx (bl u)
  first : (0 < k → bl 0 = 0) ∧ (k = 0 → op = [(-1, 0)])
  kn : k ≤ n
  num : g = (n - k) * (n + 1) + op.length
  few : ∀ p, p < k → (ah p).length + g ≤ n * (n + 1) + 1

variable {nx : Nat → List Nat} {n k : Nat} {bl par : Nat → Nat} {ah : Nat → List Nat} {pl : Nat → Int} {op : List (Int × Nat)} {g : Nat}
theorem TvI.start (nx : Nat → List Nat) {n : Nat} (hn : 0 < n) (bl par : Nat → Nat) (ah : Nat → List Nat) : TvI nx n 0 bl par ah (fun _ => -1) [(-1, 0)] (n * (n + 1) + 1) :=
  ⟨fun _ _ => .inl rfl, fun p h => by omega, fun v h1 h2 => by omega, fun u v h1 h2 => by omega, fun a b c _ h => by omega,
   fun e he => by rw [List.mem_singleton.1 he]; exact ⟨hn, .inl ⟨rfl, rfl, rfl⟩⟩, by simp, fun u h => by omega, fun p h => by omega, ⟨fun h => by omega, fun _ => rfl⟩, by omega, by simp, fun p h => by omega⟩
theorem TvI.placed (h : TvI nx n k bl par ah pl op g) {b : Nat} (hb : b < n) (hp : 0 ≤ pl b) : ∃ p, p < k ∧ pl b = (p : Int) ∧ bl p = b := by
  rcases h.plc b hb with h1 | h1
  · omega
  · exact h1
theorem mem_op {op : List (Int × Nat)} {e x : Int × Nat} (h : x ∈ op ++ [e]) : x ∈ op ∨ x = e := by simpa using h
/-- One that was come to already. -/
theorem TvI.old {e : Int × Nat} (h : TvI nx n k bl par ah pl (op ++ [e]) g) {p : Nat} (hp : pl e.2 = (p : Int)) :
    ∃ u : Nat, e.1 = (u : Int) ∧ p < k ∧ u < k ∧ ∃ g', g' < g ∧ TvI nx n k bl par (updF ah p (ah p ++ [u])) pl op g' := by
  obtain ⟨he2, he⟩ := h.opn e (by simp)
  obtain ⟨p', hp', hpe, hbl⟩ := h.placed he2 (by omega)
  obtain rfl : p' = p := by omega
  rcases he with ⟨h1, h2, h3⟩ | ⟨u, hu, hue, hun, hua⟩
  · omega
  refine ⟨u, hue, hp', hu, g - 1, by have := h.num; simp at this; omega, ?_⟩
  refine ⟨h.plc, h.blk, h.parl, h.up, h.mid, fun x hx => h.opn x (by simp [hx]), (List.pairwise_append.1 h.sort).1, fun v hv t ht => ?_, fun q hq x hx => ?_, ⟨h.first.1, fun h0 => by omega⟩, h.kn, by have := h.num; simp at this ⊢; omega, fun q hq => ?_⟩
  · rcases h.done v hv t ht with h1 | ⟨q, h1, h2⟩
    · rcases mem_op h1 with h1 | h1
      · exact .inl h1
      · right
        have h3 : (v : Int) = e.1 := by rw [← h1]
        have h4 : t = e.2 := by rw [← h1]
        refine ⟨p', by rw [h4]; exact hp, ?_⟩
        rw [updF_here]
        have : v = u := by omega
        subst this; simp
    · right
      refine ⟨q, h1, ?_⟩
      by_cases e : q = p'
      · subst e; rw [updF_here]; simp [h2]
      · rw [updF_else _ _ e]; exact h2
  · by_cases e1 : q = p'
    · subst e1
      rw [updF_here] at hx
      rcases List.mem_append.1 hx with hx | hx
      · exact h.ahd q hq x hx
      · rw [List.mem_singleton.1 hx, hbl]; exact ⟨hu, hun⟩
    · rw [updF_else _ _ e1] at hx; exact h.ahd q hq x hx
  · have h1 := h.few q hq
    have h2 := h.num
    by_cases e1 : q = p'
    · subst e1; rw [updF_here]; simp at h2 ⊢; omega
    · rw [updF_else _ _ e1]; omega
/-- One that is new. -/
theorem TvI.new {e : Int × Nat} (h : TvI nx n k bl par ah pl (op ++ [e]) g) (hnx : ∀ x, ∀ t ∈ nx x, t < n) (hlen : ∀ x, (nx x).length ≤ n) (hp : pl e.2 = -1) :
    k < n ∧ e.2 < n ∧ ∃ g', g' < g ∧ TvI nx n (k + 1) (updF bl k e.2) (updF par k e.1.toNat) (updF ah k (if e.1 < 0 then [] else [e.1.toNat])) (updF pl e.2 k) (op ++ (nx e.2).map fun t => ((k : Int), t)) g' := by
  obtain ⟨he2, he⟩ := h.opn e (by simp)
  have hk : k < n := by
    apply Classical.byContradiction
    intro hk
    -- all places would be taken
    have hkn : k = n := by have := h.kn; omega
    have hinj : ((List.range k).map bl).Nodup := by
      rw [List.nodup_iff_pairwise_ne, List.pairwise_map]
      refine List.Pairwise.imp_of_mem (fun {a b} ha hb hab hh => ?_) (List.nodup_range (n := k))
      have h1 := h.blk a (List.mem_range.1 ha)
      have h2 := h.blk b (List.mem_range.1 hb)
      rw [hh] at h1
      exact hab (by omega)
    have hni : e.2 ∉ (List.range k).map bl := fun hm => by
      obtain ⟨a, ha, hb⟩ := List.mem_map.1 hm
      have := h.blk a (List.mem_range.1 ha)
      rw [hb] at this; omega
    have := List.Nodup.length_le_of_subset (List.nodup_cons.2 ⟨hni, hinj⟩) (l₂ := List.range n) (fun x hx => by
      rcases List.mem_cons.1 hx with rfl | hx
      · exact List.mem_range.2 he2
      · obtain ⟨a, ha, rfl⟩ := List.mem_map.1 hx
        exact List.mem_range.2 (h.blk a (List.mem_range.1 ha)).1)
    simp at this; omega
  have hne : ∀ p, p < k → bl p ≠ e.2 := fun p hpk hh => by have := (h.blk p hpk).2; rw [hh] at this; omega
  have hcg : ∀ {a c : Nat}, AncP par a c → c < k → AncP (updF par k e.1.toNat) a c := fun ha hc => ha.congr hc (fun v h1 h2 => (h.parl v h1 h2).1) (fun v hv => updF_else _ _ (by omega))
  have hcg' : ∀ {a c : Nat}, AncP (updF par k e.1.toNat) a c → c < k → AncP par a c := fun ha hc => ha.congr hc (fun v h1 h2 => by rw [updF_else _ _ (by omega)]; exact (h.parl v h1 h2).1) (fun v hv => (updF_else _ _ (by omega)).symm)
  have hle : ∀ {a c : Nat}, AncP par a c → c < k → a ≤ c := by
    intro a c ha
    induction ha with
    | refl => intro _; omega
    | @step v h0 _ ih => intro hv; have := (h.parl v h0 hv).1; have := ih (by omega); omega
  -- the new one's tree
  have htop : 0 < k → e.1.toNat < k ∧ AncP par e.1.toNat (k - 1) ∧ e.2 ∈ nx (bl e.1.toNat) ∧ 0 ≤ e.1 := fun h0 => by
    rcases he with ⟨_, h2, _⟩ | ⟨u, hu, hue, hun, hua⟩
    · omega
    · have : e.1.toNat = u := by omega
      rw [this]; exact ⟨hu, hua, hun, by omega⟩
  have hsort : ∀ x ∈ op, x.1 ≤ e.1 := fun x hx => (List.pairwise_append.1 h.sort).2.2 x hx e (by simp)
  have hop0 : k = 0 → op = [] ∧ e = (-1, 0) := fun h0 => by
    have h1 := h.first.2 h0
    have h2 : op = [] := by
      have := congrArg List.length h1
      simp at this; exact this
    subst h2; simpa using h1
  -- whoever is above the last and not behind the top is above the new one
  have hanc : ∀ u, u < k → AncP par u (k - 1) → (u : Int) ≤ e.1 → AncP (updF par k e.1.toNat) u k := fun u hu ha hle' => by
    obtain ⟨h1, h2, h3, h4⟩ := htop (by omega)
    refine .step (by omega) ?_
    rw [updF_here]
    exact hcg (h.mid _ _ _ ha (by omega) (by omega) (by omega)) h1
  have hg := h.num
  have hgle : (n - k) * (n + 1) = (n - (k + 1)) * (n + 1) + (n + 1) := by
    rw [← Nat.succ_mul]; congr 1; omega
  have hl2 := hlen e.2
  refine ⟨hk, he2, (n - (k + 1)) * (n + 1) + (op.length + (nx e.2).length), by simp at hg; omega, ?_⟩
  refine ⟨fun b hb => ?_, fun p hpk => ?_, fun v h0 hv => ?_, fun u v huv hv hE => ?_, fun a b c ha hc hab hbc => ?_, fun x hx => ?_, ?_, fun u hu t ht => ?_, fun p hpk x hx => ?_, ⟨fun _ => ?_, fun h0 => by omega⟩, by omega, by simp, fun p hpk => ?_⟩
  · by_cases e1 : b = e.2
    · subst e1; right; exact ⟨k, by omega, updF_here _ _ _, updF_here _ _ _⟩
    · rw [updF_else _ _ e1]
      rcases h.plc b hb with h1 | ⟨p, h1, h2, h3⟩
      · exact .inl h1
      · exact .inr ⟨p, by omega, h2, by rw [updF_else _ _ (by omega)]; exact h3⟩
  · by_cases e1 : p = k
    · subst e1; rw [updF_here]; exact ⟨he2, updF_here _ _ _⟩
    · have hpk' : p < k := by omega
      rw [updF_else _ _ e1, updF_else _ _ (hne p hpk')]
      exact h.blk p hpk'
  · by_cases e1 : v = k
    · subst e1
      obtain ⟨h1, h2, h3, h4⟩ := htop h0
      rw [updF_here, updF_here, updF_else _ _ (by omega)]
      exact ⟨h1, h3⟩
    · have := h.parl v h0 (by omega)
      rw [updF_else _ _ e1, updF_else _ _ e1, updF_else _ _ (by omega)]
      exact this
  · by_cases e1 : v = k
    · subst e1
      rw [updF_here, updF_else _ _ (by omega)] at hE
      rcases h.done u huv _ hE with h1 | ⟨p, h1, h2⟩
      · rcases mem_op h1 with h1 | h1
        · obtain ⟨-, hq⟩ := h.opn ((u : Int), e.2) (List.mem_append_left _ h1)
          rcases hq with ⟨h2, _⟩ | ⟨u', hu', hue', _, hua'⟩
          · have h2 : (u : Int) = -1 := h2; omega
          · have hue' : (u : Int) = (u' : Int) := hue'
            have : u' = u := by omega
            subst this
            exact hanc _ huv hua' (hsort _ h1)
        · obtain ⟨h2, h3, -, -⟩ := htop (by omega)
          have h4 : (u : Int) = e.1 := by rw [← h1]
          have : e.1.toNat = u := by omega
          rw [this] at h3
          exact hanc u huv h3 (by omega)
      · omega
    · rw [updF_else _ _ e1, updF_else _ _ (by omega)] at hE
      exact hcg (h.up u v huv (by omega) hE) (by omega)
  · by_cases e1 : c = k
    · subst e1
      by_cases e2 : b = c
      · subst e2; exact ha
      · cases ha with
        | refl => omega
        | step h0 ha =>
          obtain ⟨h1, h2, h3, h4⟩ := htop (by omega)
          rw [updF_here] at ha
          have ha' := hcg' ha h1
          have ha2 := ha'.trans h2
          exact hcg (h.mid a b (c - 1) ha2 (by omega) hab (by omega)) (by omega)
    · exact hcg (h.mid a b c (hcg' ha (by omega)) (by omega) hab hbc) (by omega)
  · rcases List.mem_append.1 hx with hx | hx
    · obtain ⟨h1, h2⟩ := h.opn x (by simp [hx])
      refine ⟨h1, ?_⟩
      rcases h2 with ⟨_, h3, _⟩ | ⟨u, hu, hue, hun, hua⟩
      · rw [(hop0 h3).1] at hx; cases hx
      · right
        refine ⟨u, by omega, hue, by rw [updF_else _ _ (by omega)]; exact hun, ?_⟩
        have := hsort x hx
        exact hanc u hu hua (by omega)
    · obtain ⟨t, ht, rfl⟩ := List.mem_map.1 hx
      exact ⟨hnx _ t ht, .inr ⟨k, by omega, rfl, by rw [updF_here]; exact ht, .refl⟩⟩
  · rw [List.pairwise_append]
    refine ⟨(List.pairwise_append.1 h.sort).1, ?_, fun x hx y hy => ?_⟩
    · rw [List.pairwise_map]
      exact List.pairwise_of_forall (fun _ _ => Int.le_refl _)
    · obtain ⟨t, ht, rfl⟩ := List.mem_map.1 hy
      obtain ⟨-, h2⟩ := h.opn x (by simp [hx])
      rcases h2 with ⟨h3, _⟩ | ⟨u, hu, hue, _⟩
      · show x.1 ≤ (k : Int); omega
      · show x.1 ≤ (k : Int); omega
  · by_cases e1 : u = k
    · subst e1
      rw [updF_here] at ht
      exact .inl (List.mem_append_right _ (List.mem_map.2 ⟨t, ht, rfl⟩))
    · have hu' : u < k := by omega
      rw [updF_else _ _ e1] at ht
      rcases h.done u hu' t ht with h1 | ⟨p, h1, h2⟩
      · rcases mem_op h1 with h1 | h1
        · exact .inl (List.mem_append_left _ h1)
        · right
          have h4 : (u : Int) = e.1 := by rw [← h1]
          have h5 : t = e.2 := by rw [← h1]
          refine ⟨k, by rw [h5]; exact updF_here _ _ _, ?_⟩
          rw [updF_here, if_neg (by omega)]
          simp; omega
      · right
        have h3 : t ≠ e.2 := fun e => by rw [e] at h1; omega
        refine ⟨p, by rw [updF_else _ _ h3]; exact h1, ?_⟩
        have hpk : p < k := by
          obtain ⟨p', h4, h5, -⟩ := h.placed (hnx _ t ht) (by omega); omega
        rw [updF_else _ _ (by omega)]; exact h2
  · by_cases e1 : p = k
    · subst e1
      rw [updF_here] at hx
      split at hx
      · cases hx
      · rename_i hge
        have h0 : 0 < p := by
          rcases Nat.eq_zero_or_pos p with h0 | h0
          · rw [(hop0 h0).2] at hge; simp at hge
          · exact h0
        obtain ⟨h1, h2, h3, h4⟩ := htop h0
        rw [List.mem_singleton.1 hx, updF_here, updF_else _ _ (by omega)]
        exact ⟨by omega, h3⟩
    · rw [updF_else _ _ e1] at hx
      have := h.ahd p (by omega) x hx
      rw [updF_else _ _ e1, updF_else _ _ (by omega)]
      exact ⟨by omega, this.2⟩
  · by_cases e1 : k = 0
    · subst e1; rw [updF_here, (hop0 rfl).2]
    · rw [updF_else _ _ (by omega)]; exact h.first.1 (by omega)
  · have hkk : (n - k) * (n + 1) ≤ n * (n + 1) := Nat.mul_le_mul_right _ (by omega)
    by_cases e1 : p = k
    · subst e1
      rw [updF_here]
      have h9 : (if e.1 < 0 then [] else [e.1.toNat] : List Nat).length ≤ 1 := by split <;> simp
      simp at hg
      rcases Nat.eq_zero_or_pos p with h6 | h6
      · subst h6
        have := (hop0 rfl).1
        subst this
        simp at hg ⊢
        have h10 : n * (n + 1) = (n - 1) * (n + 1) + (n + 1) := by rw [← Nat.succ_mul]; congr 1; omega
        omega
      · have h7 := h.few 0 h6
        omega
    · rw [updF_else _ _ e1]
      have := h.few p (by omega)
      simp at hg; omega

/-- All gone through. -/
def EdgeP (nx : Nat → List Nat) (k : Nat) (bl : Nat → Nat) (u v : Nat) : Prop := u < k ∧ v < k ∧ bl v ∈ nx (bl u)
structure TvE (nx : Nat → List Nat) (n k : Nat) (bl par : Nat → Nat) (ah : Nat → List Nat) (pl : Nat → Int) : Prop where
  tree : TreeP k (EdgeP nx k bl) par
  plc : ∀ b, b < n → pl b = -1 ∨ ∃ p, p < k ∧ pl b = (p : Int) ∧ bl p = b
  blk : ∀ p, p < k → bl p < n ∧ pl (bl p) = (p : Int)
  ahd : ∀ p, p < k → ∀ u, u ∈ ah p ↔ EdgeP nx k bl u p
  reach : ∀ b, b < n → (Reach nx 0 b ↔ 0 ≤ pl b)
  first : 0 < k ∧ bl 0 = 0
  kn : k ≤ n
  few : ∀ p, p < k → (ah p).length ≤ n * (n + 1) + 1
theorem TvI.all (h : TvI nx n k bl par ah pl [] g) (hnx : ∀ x, ∀ t ∈ nx x, t < n) (hn : 0 < n) : TvE nx n k bl par ah pl := by
  have hk : 0 < k := by
    rcases Nat.eq_zero_or_pos k with h0 | h0
    · have := h.first.2 h0; cases this
    · exact h0
  have hdone : ∀ u, u < k → ∀ t ∈ nx (bl u), ∃ p : Nat, p < k ∧ pl t = (p : Int) ∧ bl p = t ∧ u ∈ ah p := fun u hu t ht => by
    rcases h.done u hu t ht with h1 | ⟨p, h1, h2⟩
    · cases h1
    · obtain ⟨p', h4, h5, h6⟩ := h.placed (hnx _ t ht) (by omega)
      obtain rfl : p' = p := by omega
      exact ⟨p', h4, h5, h6, h2⟩
  refine ⟨⟨fun u v h => ⟨h.1, h.2.1⟩, fun v h0 hv => (h.parl v h0 hv).1, fun v h0 hv => ⟨by have := (h.parl v h0 hv).1; omega, hv, (h.parl v h0 hv).2⟩, fun u v he huv => h.up u v huv he.2.1 he.2.2, fun a b c => h.mid a b c⟩, h.plc, h.blk, fun p hp u => ⟨fun hu => ?_, fun hu => ?_⟩, fun b hb => ⟨fun hr => ?_, fun hp => ?_⟩, ⟨hk, h.first.1 hk⟩, h.kn, fun p hp => by have := h.few p hp; omega⟩
  · have := h.ahd p hp u hu; exact ⟨this.1, hp, this.2⟩
  · obtain ⟨q, h1, h2, h3, h4⟩ := hdone u hu.1 _ hu.2.2
    have := (h.blk p hp).2
    obtain rfl : q = p := by omega
    exact h4
  · have key : ∀ x, Reach nx 0 x → ∃ p : Nat, p < k ∧ pl x = (p : Int) ∧ bl p = x := by
      intro x hx
      induction hx with
      | refl => exact ⟨0, hk, by have := (h.blk 0 hk).2; rw [h.first.1 hk] at this; simpa using this, h.first.1 hk⟩
      | @step x y _ hxy ih =>
        obtain ⟨p, h1, h2, h3⟩ := ih
        obtain ⟨q, h4, h5, h6, _⟩ := hdone p h1 y (by rw [h3]; exact hxy)
        exact ⟨q, h4, h5, h6⟩
    obtain ⟨p, -, h2, -⟩ := key b hr
    omega
  · obtain ⟨p, h1, -, h3⟩ := h.placed hb hp
    rw [← h3]
    clear h3
    induction p using Nat.strongRecOn with
    | _ p ih =>
      rcases Nat.eq_zero_or_pos p with h0 | h0
      · subst h0; rw [h.first.1 hk]; exact .refl
      · obtain ⟨h4, h5⟩ := h.parl p h0 h1
        exact .step (ih _ h4 (by omega)) h5
end Go.Proofs.Ytcjmhdneelmbhaa

/- Rows of a call's own. No condition. -/
namespace Go.Proofs.Ytcjmhdneelmbhaa
open Go.ChangeShapes Go.WideShapes Go.RowKit Go.Deep
set_option linter.unusedVariables false

theorem ownsRow_block {w w' : World} {base n size : Nat} {e : TypeId} {v : Value} {xs : List Value} (h : w.ownsRow base e size v n xs) (hb : ∀ g, v.ownBlock = some g → w'.heap[g]? = w.heap[g]?) : w'.ownsRow base e size v n xs := by
  obtain ⟨h1, h2⟩ := h
  refine ⟨h1, ?_⟩
  rcases h2 with h2 | ⟨g, c, cur, rfl, h3, h4, h5⟩
  · exact .inl h2
  · exact .inr ⟨g, c, cur, rfl, h3, (hb g rfl).trans h4, h5⟩
theorem own_sliceL {w : World} {K n size : Nat} {e : TypeId} {v : Value} {xs : List Value} (h : w.ownsRow K e size v n xs) : ∃ A c, v = .slice A n c := by
  rcases h.2 with ⟨rfl, h0⟩ | ⟨g, c, cur, rfl, -⟩
  · exact ⟨none, 0, by rw [h0]⟩
  · exact ⟨_, _, rfl⟩
theorem owns_mono_ {w : World} {base base' n size : Nat} {e : TypeId} {v : Value} {xs : List Value} (h : w.ownsRow base e size v n xs) (hk : base' ≤ base) : w.ownsRow base' e size v n xs := by
  obtain ⟨h1, h2 | ⟨g, cap, cur, rfl, hb, h3⟩⟩ := h
  · exact ⟨h1, .inl h2⟩
  · exact ⟨h1, .inr ⟨g, cap, cur, rfl, Nat.le_trans hk hb, h3⟩⟩
theorem row_madeQ {w : World} {H k : Nat} (h : w.heap[H]? = some (.cells (madeCells #[.int .i64 0] k) 3)) : w.rowIs H 3 k (fun _ => .int .i64 0) :=
  ⟨_, h, size_madeCells _ _, fun i hi => by simp [madeCells, hi, Nat.mod_one]⟩
end Go.Proofs.Ytcjmhdneelmbhaa

/- Rows that a call owns, apart from one another. No condition. -/
namespace Go.Proofs.Ytcjmhdneelmbhaa
open Go.ChangeShapes Go.WideShapes Go.RowKit Go.Deep
set_option linter.unusedVariables false

/-- Of all that was there only the block of v may have changed; the value v' lies in that of v, or is new. -/
structure GroD (w w' : World) (v v' : Value) : Prop where
  os : w'.os = w.os
  tape : w'.tape = w.tape
  output : w'.output = w.output
  size : w.heap.size ≤ w'.heap.size
  block : ∀ k, k < w.heap.size → v.ownBlock ≠ some k → w'.heap[k]? = w.heap[k]?
  own : ∀ g, v'.ownBlock = some g → v.ownBlock = some g ∨ w.heap.size ≤ g
/-- One append of one element, which first lies in a block of its own. -/
theorem groD_append {w w1 : World} {o : Obj} {v : Value} {g n cap : Nat} (hg : (w.alloc o).grownBy w1 v.ownBlock) (hl : v.ownBlock = some g ∨ g = w.heap.size + 1) : GroD w w1 v (.slice (some ⟨g, 0, none⟩) n cap) :=
  ⟨hg.os, hg.tape, hg.output, Nat.le_trans (by simp) hg.size, fun k hk hv => (hg.block k (by simp; omega) (fun e => hv e.symm)).trans (Below.heap_alloc _ _ _ hk),
   fun x hx => by
    obtain rfl : g = x := Option.some.inj hx
    rcases hl with h | h
    · exact .inl h
    · exact .inr (by omega)⟩
theorem groD_drew {w w1 : World} {v v' : Value} (h : GroD w.drew w1 v v') : GroD w w1 v v' := ⟨h.os, h.tape, h.output, h.size, h.block, h.own⟩
/-- A store into an element of the row itself. -/
theorem groD_store (w : World) {g n cap j : Nat} (u : Value) : GroD w (w.setCell ⟨g, j, none⟩ u) (.slice (some ⟨g, 0, none⟩) n cap) (.slice (some ⟨g, 0, none⟩) n cap) :=
  ⟨rfl, rfl, rfl, by simp, fun k hk hv => Below.heap_setCell _ _ _ _ (fun e => hv (by show some g = some k; exact congrArg some e.symm)), fun x hx => .inl hx⟩
theorem GroD.fr {w w' : World} {v v' : Value} (h : GroD w w' v v') {X : Nat → Prop} {a : World} (ha : FrX X a w) (hv : ∀ g, v.ownBlock = some g → X g ∨ a.heap.size ≤ g) : FrX X a w' :=
  ⟨h.os.trans ha.os, h.tape.trans ha.tape, h.output.trans ha.output, Nat.le_trans ha.size h.size, fun k hk hx => (h.block k (Nat.lt_of_lt_of_le hk ha.size) (fun e => by
    rcases hv k e with h2 | h2
    · exact hx h2
    · omega)).trans (ha.block k hk hx)⟩

structure RowD where
  ty : TypeId
  size : Nat
  len : Nat
  xs : List Value
def OwnD (w : World) (K : Nat) (v : Value) (t : RowD) : Prop := w.ownsRow K t.ty t.size v t.len t.xs
/-- So many rows, apart from one another. -/
structure PoolD (w : World) (K m : Nat) (U : Nat → Value) (T : Nat → RowD) : Prop where
  own : ∀ i, i < m → OwnD w K (U i) (T i)
  ap : ∀ i j, i < m → j < m → i ≠ j → (U i).ownBlock = none ∨ (U i).ownBlock ≠ (U j).ownBlock
theorem PoolD.congr {w : World} {K m : Nat} {U U' : Nat → Value} {T T' : Nat → RowD} (h : PoolD w K m U T) (hu : ∀ i, i < m → U i = U' i) (ht : ∀ i, i < m → T i = T' i) : PoolD w K m U' T' :=
  ⟨fun i hi => by rw [← hu i hi, ← ht i hi]; exact h.own i hi, fun i j hi hj hij => by rw [← hu i hi, ← hu j hj]; exact h.ap i j hi hj hij⟩
theorem PoolD.go {w w' : World} {K m : Nat} {U : Nat → Value} {T : Nat → RowD} (h : PoolD w K m U T) (hb : ∀ k, K ≤ k → k < w.heap.size → w'.heap[k]? = w.heap[k]?) : PoolD w' K m U T :=
  ⟨fun i hi => ownsRow_block (h.own i hi) fun g hg => hb g ((h.own i hi).lt g hg).1 ((h.own i hi).lt g hg).2, h.ap⟩
theorem PoolD.gro {w w' : World} {K m t : Nat} {U : Nat → Value} {T : Nat → RowD} {v' : Value} {r : RowD} (h : PoolD w K m U T) (ht : t < m) (hg : GroD w w' (U t) v') (ho : OwnD w' K v' r) : PoolD w' K m (updF U t v') (updF T t r) := by
  have key : ∀ i, i < m → i ≠ t → (U i).ownBlock = none ∨ (U i).ownBlock ≠ v'.ownBlock := fun i hi hit => by
    cases hb : (U i).ownBlock with
    | none => exact .inl rfl
    | some b =>
      right
      intro e
      rcases hg.own b e.symm with h1 | h1
      · rcases h.ap i t hi ht hit with h2 | h2
        · rw [h2] at hb; cases hb
        · exact h2 (hb.trans h1.symm)
      · have := ((h.own i hi).lt b hb).2; omega
  refine ⟨fun i hi => ?_, fun i j hi hj hij => ?_⟩
  · by_cases e : i = t
    · subst e; rw [updF_here, updF_here]; exact ho
    · rw [updF_else _ _ e, updF_else _ _ e]
      refine ownsRow_block (h.own i hi) fun g hgi => hg.block g ((h.own i hi).lt g hgi).2 fun e2 => ?_
      rcases h.ap i t hi ht e with h2 | h2
      · rw [h2] at hgi; cases hgi
      · exact h2 (hgi.trans e2.symm)
  · by_cases ei : i = t
    · subst ei
      rw [updF_here, updF_else _ _ (Ne.symm hij)]
      rcases key j hj (Ne.symm hij) with h1 | h1
      · cases hv : v'.ownBlock with
        | none => exact .inl rfl
        | some b => right; rw [h1]; intro e; cases e
      · exact .inr (Ne.symm h1)
    · rw [updF_else _ _ ei]
      by_cases ej : j = t
      · subst ej; rw [updF_here]; exact key i hi ei
      · rw [updF_else _ _ ej]; exact h.ap i j hi hj hij
/-- One row more, with nothing in it. -/
theorem PoolD.more {w : World} {K m : Nat} {U : Nat → Value} {T : Nat → RowD} (h : PoolD w K m U T) (ty : TypeId) (size : Nat) : PoolD w K (m + 1) (updF U m (.slice none 0 0)) (updF T m ⟨ty, size, 0, []⟩) := by
  refine ⟨fun i hi => ?_, fun i j hi hj hij => ?_⟩
  · by_cases e : i = m
    · subst e; rw [updF_here, updF_here]; exact World.ownsRow_nil _ _ _ _
    · rw [updF_else _ _ e, updF_else _ _ e]; exact h.own i (by omega)
  · by_cases ei : i = m
    · subst ei; rw [updF_here]; exact .inl rfl
    · rw [updF_else _ _ ei]
      by_cases ej : j = m
      · subst ej; rw [updF_here]
        cases hb : (U i).ownBlock with
        | none => exact .inl rfl
        | some b => right; intro e; cases e
      · rw [updF_else _ _ ej]; exact h.ap i j (by omega) (by omega) hij
/-- An element of a row. -/
theorem own_cellD {w : World} {K n : Nat} {e : TypeId} {v : Value} {xs : List Value} (h : w.ownsRow K e 1 v n xs) {i : Nat} (hi : i < n) : ∃ g cap u, v = .slice (some ⟨g, 0, none⟩) n cap ∧ xs[i]? = some u ∧ w.cell? ⟨g, i, none⟩ = some u ∧ w.frozen? ⟨g, i, none⟩ = false ∧ K ≤ g ∧ g < w.heap.size := by
  obtain ⟨g, cap, rfl⟩ : ∃ g cap, v = .slice (some ⟨g, 0, none⟩) n cap := by
    rcases h.2 with ⟨_, h2⟩ | ⟨g, cap, cur, h2, _⟩
    · omega
    · exact ⟨g, cap, h2⟩
  have hl := h.1
  have hx : i < xs.length := by omega
  refine ⟨g, cap, xs[i], rfl, List.getElem?_eq_getElem hx, ?_, h.frozenAt i, (h.lt g rfl).1, (h.lt g rfl).2⟩
  rw [h.cellAt i (by omega)]; exact List.getElem?_eq_getElem hx
theorem map_range_snoc {α : Type} (f : Nat → α) (k : Nat) (x : α) : ((List.range k).map f ++ [x]) = (List.range (k + 1)).map (updF f k x) := by
  rw [List.range_succ, List.map_append, List.map_singleton, updF_here]
  congr 1
  exact List.map_congr_left fun v hv => (updF_else _ _ (by have := List.mem_range.1 hv; omega)).symm
theorem map_range_set {α : Type} (f : Nat → α) (k j : Nat) (x : α) : ((List.range k).map f).set j x = (List.range k).map (updF f j x) := by
  apply List.ext_getElem?
  intro i
  by_cases hik : i < k
  · by_cases e : i = j
    · subst e; simp [hik, updF]
    · simp [hik, updF, e, Ne.symm e]
  · simp [hik]
theorem map_range_at {α : Type} (f : Nat → α) {k i : Nat} {x : α} (h : ((List.range k).map f)[i]? = some x) : x = f i ∧ i < k := by
  rw [List.getElem?_map] at h
  obtain ⟨q, hq, rfl⟩ := Option.map_eq_some_iff.1 h
  obtain ⟨hl, rfl⟩ := List.getElem?_eq_some_iff.1 hq
  simp at hl ⊢; exact hl
end Go.Proofs.Ytcjmhdneelmbhaa

/- What the program holds of which registers are wanted, in memory. -/
namespace Go.Proofs.Ytcjmhdneelmbhaa
open Go.ChangeShapes Go.WideShapes Go.RowKit Go.Deep
set_option linter.unusedVariables false

/-! ### How many -/
def allP (n R : Nat) : List (Nat × Nat) := (List.range n).flatMap fun x => (List.range R).map fun y => (x, y)
theorem allP_mem {n R : Nat} {x : Nat × Nat} : x ∈ allP n R ↔ x.1 < n ∧ x.2 < R := by
  unfold allP
  rw [List.mem_flatMap]
  constructor
  · rintro ⟨a, ha, hx⟩
    obtain ⟨b, hb, rfl⟩ := List.mem_map.1 hx
    exact ⟨List.mem_range.1 ha, List.mem_range.1 hb⟩
  · rintro ⟨h1, h2⟩
    exact ⟨x.1, List.mem_range.2 h1, List.mem_map.2 ⟨x.2, List.mem_range.2 h2, rfl⟩⟩
theorem allP_len (n R : Nat) : (allP n R).length = n * R := by
  unfold allP
  induction n with
  | zero => simp
  | succ n ih => rw [List.range_succ, List.flatMap_append, List.length_append, ih]; simp [Nat.succ_mul]
theorem allP_nodup (n R : Nat) : (allP n R).Nodup := by
  unfold allP
  induction n with
  | zero => simp
  | succ n ih =>
    rw [List.range_succ, List.flatMap_append, List.nodup_append]
    refine ⟨ih, ?_, ?_⟩
    · simp only [List.flatMap_cons, List.flatMap_nil, List.append_nil]
      exact List.Pairwise.map _ (fun a b h e => h (by injection e)) List.nodup_range
    · intro a ha b hb e
      subst e
      obtain ⟨x, hx, h1⟩ := List.mem_flatMap.1 ha
      obtain ⟨y, hy, h2⟩ := List.mem_flatMap.1 hb
      obtain ⟨p, _, rfl⟩ := List.mem_map.1 h1
      obtain ⟨q, _, e⟩ := List.mem_map.1 h2
      have e1 : y = x := by injection e
      have := List.mem_range.1 hx
      have := List.mem_singleton.1 hy
      omega
theorem countP_one {α : Type} [DecidableEq α] {p q : α → Bool} {x : α} (hq : ∀ y, y ≠ x → q y = p y) (hp : p x = false) (hx : q x = true) : ∀ l : List α, l.Nodup → l.countP q = l.countP p + (if x ∈ l then 1 else 0) := by
  intro l
  induction l with
  | nil => intro _; simp
  | cons a l ih =>
    intro hn
    obtain ⟨h1, h2⟩ := List.nodup_cons.1 hn
    rw [List.countP_cons, List.countP_cons, ih h2]
    by_cases e : a = x
    · subst e
      have hm : a ∈ a :: l := by simp
      rw [if_neg h1, if_pos hm, hx, hp]; simp
    · rw [hq a e]
      have hm : (x ∈ a :: l) ↔ x ∈ l := by
        rw [List.mem_cons]
        exact ⟨fun h => by rcases h with h | h; exact absurd h.symm e; exact h, .inr⟩
      by_cases e2 : x ∈ l
      · rw [if_pos e2, if_pos (hm.2 e2)]; omega
      · rw [if_neg e2, if_neg (fun h => e2 (hm.1 h))]; omega
def cntA (n R : Nat) (M : Nat → Nat → Bool) : Nat := (allP n R).countP fun x => M x.1 x.2
theorem cntA_le (n R : Nat) (M : Nat → Nat → Bool) : cntA n R M ≤ n * R := by unfold cntA; rw [← allP_len]; exact List.countP_le_length
theorem cntA_set {n R : Nat} {M : Nat → Nat → Bool} {b r : Nat} (hb : b < n) (hr : r < R) (h : M b r = false) : cntA n R (setB M b r) = cntA n R M + 1 := by
  unfold cntA
  rw [countP_one (x := (b, r)) (p := fun x => M x.1 x.2) (fun y hy => by
    show setB M b r y.1 y.2 = M y.1 y.2
    unfold setB
    rw [if_neg (fun k => hy (Prod.ext k.1 k.2))]) h (setB_here _ _ _) _ (allP_nodup n R), if_pos (allP_mem.2 ⟨hb, hr⟩)]
/-- No more is open than was found; all that is open is some block's register. -/
def FewS (n R : Nat) (s : LvS) : Prop := s.op.length ≤ cntA n R s.A ∧ ∀ x ∈ s.op, x.1 < n ∧ x.2 < R
theorem FewS.le {n R : Nat} {s : LvS} (h : FewS n R s) : s.op.length ≤ n * R := Nat.le_trans h.1 (cntA_le _ _ _)
theorem FewS.atB {n R : Nat} {s : LvS} (h : FewS n R s) (ph : Nat → Nat → Bool) {b r : Nat} (hb : b < n) (hr : r < R) : FewS n R (atB ph s b r) := by
  unfold Go.Proofs.Ytcjmhdneelmbhaa.atB
  by_cases e : (s.A b r || ph b r) = true
  · rw [if_pos e]; exact h
  · rw [if_neg e]
    have hA : s.A b r = false := by cases hq : s.A b r; rfl; rw [hq] at e; simp at e
    refine ⟨by rw [List.length_append, cntA_set hb hr hA]; have := h.1; simp; omega, fun x hx => ?_⟩
    rcases List.mem_append.1 hx with hx | hx
    · exact h.2 x hx
    · rw [List.mem_singleton.1 hx]; exact ⟨hb, hr⟩
theorem FewS.atE {n R : Nat} {s : LvS} (h : FewS n R s) (mk ph : Nat → Nat → Bool) {b r : Nat} (hb : b < n) (hr : r < R) : FewS n R (atE mk ph s b r) := by
  unfold Go.Proofs.Ytcjmhdneelmbhaa.atE
  split
  · exact h
  · split
    · exact h
    · exact FewS.atB (s := ⟨s.A, setB s.E b r, s.op⟩) h ph hb hr
/-- What is left to do. -/
def msS (n R : Nat) (s : LvS) : Nat := s.op.length + (n * R - cntA n R s.A)
theorem msS_atB {n R : Nat} {s : LvS} (ph : Nat → Nat → Bool) {b r : Nat} (hb : b < n) (hr : r < R) : msS n R (atB ph s b r) = msS n R s := by
  unfold Go.Proofs.Ytcjmhdneelmbhaa.atB msS
  by_cases e : (s.A b r || ph b r) = true
  · rw [if_pos e]
  · rw [if_neg e]
    have hA : s.A b r = false := by cases hq : s.A b r; rfl; rw [hq] at e; simp at e
    have h1 := cntA_set hb hr hA
    have h2 := cntA_le n R (setB s.A b r)
    rw [List.length_append, h1]
    rw [h1] at h2
    simp; omega
theorem msS_atE {n R : Nat} {s : LvS} (mk ph : Nat → Nat → Bool) {b r : Nat} (hb : b < n) (hr : r < R) : msS n R (atE mk ph s b r) = msS n R s := by
  unfold Go.Proofs.Ytcjmhdneelmbhaa.atE
  split
  · rfl
  · split
    · rfl
    · rw [msS_atB (s := ⟨s.A, setB s.E b r, s.op⟩) ph hb hr]; rfl

/-! ### Rows of truths -/
structure BG1 (w : World) (G n R : Nat) (M : Nat → Nat → Bool) : Prop where
  row : w.rowIs G 33 n (fun a => .slice (some ⟨G + 1 + a, 0, none⟩) R R)
  cells : ∀ a, a < n → w.rowIs (G + 1 + a) 4 R (fun r => .bool (M a r))
theorem BG1.of_blocks {w w' : World} {G n R : Nat} {M : Nat → Nat → Bool} (h : BG1 w G n R M) (hb : ∀ y, G ≤ y → y ≤ G + n → w'.heap[y]? = w.heap[y]?) : BG1 w' G n R M :=
  ⟨h.row.of_block (hb G (by omega) (by omega)), fun a ha => (h.cells a ha).of_block (hb _ (by omega) (by omega))⟩
theorem BG1.congr {w : World} {G n R : Nat} {M M' : Nat → Nat → Bool} (h : BG1 w G n R M) (he : ∀ a b, a < n → b < R → M a b = M' a b) : BG1 w G n R M' :=
  ⟨h.row, fun a ha => (h.cells a ha).congr fun b hb => by rw [he a b ha hb]⟩
theorem BG1.set {w : World} {G n R : Nat} {M : Nat → Nat → Bool} (h : BG1 w G n R M) (a r : Nat) (ha : a < n) : BG1 (w.setCell ⟨G + 1 + a, r, none⟩ (.bool true)) G n R (setB M a r) := by
  have hs : ∀ y, y ≠ G + 1 + a → (w.setCell ⟨G + 1 + a, r, none⟩ (.bool true)).heap[y]? = w.heap[y]? := fun y hy => Below.heap_setCell _ _ _ _ hy
  refine ⟨h.row.of_block (hs G (by omega)), fun x hx => ?_⟩
  by_cases e : x = a
  · subst e
    exact ((h.cells x hx).set r (.bool true)).congr fun r' _ => by unfold setB; by_cases e2 : r' = r <;> simp [e2]
  · exact ((h.cells x hx).of_block (hs _ (by omega))).congr fun r' _ => by unfold setB; rw [if_neg (fun k => e k.1)]
/-- Its cells, as a walk reads them. -/
theorem BG1.at_ {w : World} {G n R : Nat} {M : Nat → Nat → Bool} (h : BG1 w G n R M) {a r : Nat} (ha : a < n) (hr : r < R) :
    w.cell? ⟨G, a, none⟩ = some (.slice (some ⟨G + 1 + a, 0, none⟩) R R) ∧ w.cell? ⟨G + 1 + a, r, none⟩ = some (.bool (M a r)) ∧ w.frozen? ⟨G + 1 + a, r, none⟩ = false :=
  ⟨h.row.cell ha, (h.cells a ha).cell hr, (h.cells a ha).frozen r⟩

/-! ### The whole -/
def opF (l : List (Nat × Nat)) : List Value := l.flatMap fun x => [.int .i64 (x.1 : Int), .int .i64 (x.2 : Int)]
theorem opF_snoc (l : List (Nat × Nat)) (b r : Nat) : opF (l ++ [(b, r)]) = opF l ++ [.int .i64 (b : Int), .int .i64 (r : Int)] := by unfold opF; rw [List.flatMap_append]; simp
theorem opF_len (l : List (Nat × Nat)) : (opF l).length = 2 * l.length := by
  unfold opF
  induction l with
  | nil => rfl
  | cons x l ih => rw [List.flatMap_cons, List.length_append, ih]; simp; omega
structure WsM (Wa : World) (H Ga n R K : Nat) (W : World) (vo : Value) (mk ph : Nat → Nat → Bool) (s : LvS) : Prop where
  hz : Wa.heap.size = H
  hk : H + 4 * (n + 1) < K
  box : W.heap[H + 4 * (n + 1)]? = some (.cells #[.slice (some ⟨Ga, 0, none⟩) n n, .slice (some ⟨H, 0, none⟩) n n, .slice (some ⟨H + (n + 1), 0, none⟩) n n, .slice (some ⟨H + 2 * (n + 1), 0, none⟩) n n, .slice (some ⟨H + 3 * (n + 1), 0, none⟩) n n, vo] 83)
  g1 : BG1 W H n R mk
  g2 : BG1 W (H + (n + 1)) n R ph
  g3 : BG1 W (H + 2 * (n + 1)) n R s.A
  g4 : BG1 W (H + 3 * (n + 1)) n R s.E
  op : W.ownsRow K 128 2 vo s.op.length (opF s.op)
  bel : Below H Wa W
  kw : K ≤ W.heap.size
/-- What a step may have changed: the truths, the box, and the row of what is open. -/
structure GroS (lo hi : Nat) (w w' : World) (v v' : Value) : Prop where
  os : w'.os = w.os
  tape : w'.tape = w.tape
  output : w'.output = w.output
  size : w.heap.size ≤ w'.heap.size
  block : ∀ k, k < w.heap.size → ¬ (lo ≤ k ∧ k ≤ hi) → v.ownBlock ≠ some k → w'.heap[k]? = w.heap[k]?
  own : ∀ g, v'.ownBlock = some g → v.ownBlock = some g ∨ w.heap.size ≤ g
theorem GroS.refl (lo hi : Nat) (w : World) (v : Value) : GroS lo hi w w v v := ⟨rfl, rfl, rfl, Nat.le_refl _, fun _ _ _ _ => rfl, fun _ h => .inl h⟩
theorem GroS.trans {lo hi : Nat} {a b c : World} {u v x : Value} (h : GroS lo hi a b u v) (k : GroS lo hi b c v x) : GroS lo hi a c u x :=
  ⟨k.os.trans h.os, k.tape.trans h.tape, k.output.trans h.output, Nat.le_trans h.size k.size,
    fun i hi1 hn hv => (k.block i (Nat.lt_of_lt_of_le hi1 h.size) hn (fun e => by rcases h.own i e with h1 | h1; exact hv h1; omega)).trans (h.block i hi1 hn hv),
    fun g hg => by
      rcases k.own g hg with h1 | h1
      · exact h.own g h1
      · exact .inr (Nat.le_trans h.size h1)⟩
theorem GroS.of_below {lo hi : Nat} {w w' : World} (h : Below w.heap.size w w') (v : Value) : GroS lo hi w w' v v := ⟨h.os, h.tape, h.output, h.size, fun k hk _ _ => h.block k hk, fun _ h => .inl h⟩
theorem GroS.mono {lo hi : Nat} {a b c : World} {u v : Value} (h : GroS lo hi a b u v) (k : Below b.heap.size b c) : GroS lo hi a c u v := h.trans (.of_below k v)
theorem WsM.below {Wa : World} {H Ga n R K : Nat} {W W' : World} {vo : Value} {mk ph : Nat → Nat → Bool} {s : LvS} (h : WsM Wa H Ga n R K W vo mk ph s) (hb : Below W.heap.size W W') : WsM Wa H Ga n R K W' vo mk ph s := by
  have hP : H + 4 * (n + 1) < W.heap.size := (Array.getElem?_eq_some_iff.1 h.box).1
  have hk : ∀ y, y ≤ H + 4 * (n + 1) → W'.heap[y]? = W.heap[y]? := fun y hy => hb.block y (by omega)
  exact ⟨h.hz, h.hk, (hk _ (by omega)).trans h.box, h.g1.of_blocks fun y _ hy => hk y (by omega), h.g2.of_blocks fun y _ hy => hk y (by omega), h.g3.of_blocks fun y _ hy => hk y (by omega), h.g4.of_blocks fun y _ hy => hk y (by omega),
    ownsRow_block h.op (fun g hg => hb.block g (h.op.lt g hg).2), h.bel.trans (hb.mono (by omega)), Nat.le_trans h.kw hb.size⟩
/-- The box's cells. -/
theorem WsM.cells {Wa : World} {H Ga n R K : Nat} {W : World} {vo : Value} {mk ph : Nat → Nat → Bool} {s : LvS} (h : WsM Wa H Ga n R K W vo mk ph s) {P : Nat} (hP : H + 4 * (n + 1) = P) :
    W.cell? ⟨P, 0, none⟩ = some (.slice (some ⟨Ga, 0, none⟩) n n) ∧ W.cell? ⟨P, 1, none⟩ = some (.slice (some ⟨H, 0, none⟩) n n) ∧ W.cell? ⟨P, 2, none⟩ = some (.slice (some ⟨H + (n + 1), 0, none⟩) n n) ∧ W.cell? ⟨P, 3, none⟩ = some (.slice (some ⟨H + 2 * (n + 1), 0, none⟩) n n) ∧
    W.cell? ⟨P, 4, none⟩ = some (.slice (some ⟨H + 3 * (n + 1), 0, none⟩) n n) ∧ W.cell? ⟨P, 5, none⟩ = some vo ∧ W.frozen? ⟨P, 5, none⟩ = false := by
  have hb := h.box
  rw [hP] at hb
  simp [World.cell?, World.frozen?, hb]
theorem WsM.setE {Wa : World} {H Ga n R K : Nat} {W : World} {vo : Value} {mk ph : Nat → Nat → Bool} {s : LvS} (h : WsM Wa H Ga n R K W vo mk ph s) {b : Nat} (r : Nat) (hb : b < n) :
    WsM Wa H Ga n R K (W.setCell ⟨H + 3 * (n + 1) + 1 + b, r, none⟩ (.bool true)) vo mk ph ⟨s.A, setB s.E b r, s.op⟩ := by
  have hs : ∀ y, y ≠ H + 3 * (n + 1) + 1 + b → (W.setCell ⟨H + 3 * (n + 1) + 1 + b, r, none⟩ (.bool true)).heap[y]? = W.heap[y]? := fun y hy => Below.heap_setCell _ _ _ _ hy
  have := h.hk
  refine ⟨h.hz, h.hk, (hs _ (by omega)).trans h.box, h.g1.of_blocks fun y _ hy => hs y (by omega), h.g2.of_blocks fun y _ hy => hs y (by omega), h.g3.of_blocks fun y _ hy => hs y (by omega), h.g4.set b r hb,
    ownsRow_block h.op (fun g hg => hs g (by have := (h.op.lt g hg).1; omega)), h.bel.setCell (by show H ≤ H + 3 * (n + 1) + 1 + b; omega) _, by have := h.kw; simpa using this⟩
theorem WsM.setA {Wa : World} {H Ga n R K : Nat} {W : World} {vo : Value} {mk ph : Nat → Nat → Bool} {s : LvS} (h : WsM Wa H Ga n R K W vo mk ph s) {b : Nat} (r : Nat) (hb : b < n) :
    WsM Wa H Ga n R K (W.setCell ⟨H + 2 * (n + 1) + 1 + b, r, none⟩ (.bool true)) vo mk ph ⟨setB s.A b r, s.E, s.op⟩ := by
  have hs : ∀ y, y ≠ H + 2 * (n + 1) + 1 + b → (W.setCell ⟨H + 2 * (n + 1) + 1 + b, r, none⟩ (.bool true)).heap[y]? = W.heap[y]? := fun y hy => Below.heap_setCell _ _ _ _ hy
  have := h.hk
  refine ⟨h.hz, h.hk, (hs _ (by omega)).trans h.box, h.g1.of_blocks fun y _ hy => hs y (by omega), h.g2.of_blocks fun y _ hy => hs y (by omega), h.g3.set b r hb, h.g4.of_blocks fun y _ hy => hs y (by omega),
    ownsRow_block h.op (fun g hg => hs g (by have := (h.op.lt g hg).1; omega)), h.bel.setCell (by show H ≤ H + 2 * (n + 1) + 1 + b; omega) _, by have := h.kw; simpa using this⟩
theorem GroS.store {lo hi : Nat} (w : World) (v : Value) {p : Addr} (hp : lo ≤ p.block ∧ p.block ≤ hi) (u : Value) : GroS lo hi w (w.setCell p u) v v :=
  ⟨rfl, rfl, rfl, by simp, fun k hk hn _ => Below.heap_setCell _ _ _ _ (fun e => hn (by subst e; exact hp)), fun _ h => .inl h⟩
/-- The row of what is open has grown, or shrunk, and the box holds it. -/
theorem WsM.setOp {Wa : World} {H Ga n R K : Nat} {W W7 : World} {vo v' : Value} {mk ph : Nat → Nat → Bool} {s : LvS} (h : WsM Wa H Ga n R K W vo mk ph s) (hg : GroD W W7 vo v') {l : List (Nat × Nat)}
    (ho : W7.ownsRow K 128 2 v' l.length (opF l)) : WsM Wa H Ga n R K (W7.setCell ⟨H + 4 * (n + 1), 5, none⟩ v') v' mk ph ⟨s.A, s.E, l⟩ := by
  have hP : H + 4 * (n + 1) < W.heap.size := (Array.getElem?_eq_some_iff.1 h.box).1
  have hk := h.hk
  have hno : ∀ y, y ≤ H + 4 * (n + 1) → W7.heap[y]? = W.heap[y]? := fun y hy => hg.block y (by omega) (fun e => by have := (h.op.lt y e).1; omega)
  have hs : ∀ y, y ≠ H + 4 * (n + 1) → (W7.setCell ⟨H + 4 * (n + 1), 5, none⟩ v').heap[y]? = W7.heap[y]? := fun y hy => Below.heap_setCell _ _ _ _ hy
  have hq : ∀ y, y < H + 4 * (n + 1) → (W7.setCell ⟨H + 4 * (n + 1), 5, none⟩ v').heap[y]? = W.heap[y]? := fun y hy => (hs y (by omega)).trans (hno y (by omega))
  have hbx : W7.heap[H + 4 * (n + 1)]? = _ := (hno _ (Nat.le_refl _)).trans h.box
  refine ⟨h.hz, h.hk, ?_, h.g1.of_blocks fun y _ hy => hq y (by omega), h.g2.of_blocks fun y _ hy => hq y (by omega), h.g3.of_blocks fun y _ hy => hq y (by omega), h.g4.of_blocks fun y _ hy => hq y (by omega),
    ownsRow_block ho (fun g hg1 => hs g (by have := (ho.lt g hg1).1; omega)), ?_, by have h1 := Nat.le_trans h.kw hg.size; simpa using h1⟩
  · simp [World.setCell, Array.getElem?_modify, hbx]
  · have hf : Below H W W7 := ⟨hg.os, hg.tape, hg.output, hg.size, fun y hy => hno y (by omega)⟩
    exact (h.bel.trans hf).setCell (by show H ≤ H + 4 * (n + 1); omega) _
theorem GroS.of_groD {lo hi : Nat} {w w' : World} {v v' : Value} (h : GroD w w' v v') : GroS lo hi w w' v v' := ⟨h.os, h.tape, h.output, h.size, fun k hk _ hv => h.block k hk hv, h.own⟩
end Go.Proofs.Ytcjmhdneelmbhaa
