/- Going to all blocks that are reached, each by its place, in mathematics. No condition. -/
import Derived.Test.YtcjmhdneelmbhaaGrTJ
import Derived.Test.YtcjmhdneelmbhaaTbTJ
import Derived.Deep.AppendLies
import Derived.Deep.OwnRows
import Derived.Deep.DeepCutAuto
import Derived.Test.YtcjmhdneelmbhaaDmFrJ
import Derived.Laws.OwnMore
import Derived.Test.YtcjmhdneelmbhaaAheadLJ
namespace Go.Proofs.Ytcjmhdneelmbhaa
set_option linter.unusedVariables false

def updF {α : Type} (f : Nat → α) (k : Nat) (x : α) : Nat → α := fun v => if v = k then x else f v
theorem updF_here {α : Type} (f : Nat → α) (k : Nat) (x : α) : updF f k x k = x := by simp [updF]
theorem updF_else {α : Type} (f : Nat → α) {k v : Nat} (x : α) (h : v ≠ k) : updF f k x v = f v := by simp [updF, h]
theorem AncP.congr {par par' : Nat → Nat} {k a c : Nat} (h : AncP par a c) (hc : c < k) (hlt : ∀ v, 0 < v → v < k → par v < v) (he : ∀ v, v < k → par' v = par v) : AncP par' a c := by
  induction h with
  | refl => exact .refl
  | @step v h0 _ ih =>
    have := hlt _ h0 hc
    exact .step h0 (by rw [he _ hc]; exact ih (by omega))

/-- How far it has gone: k places; what lies open, the last first. -/
structure TvI (nx : Nat → List Nat) (n k : Nat) (bl par : Nat → Nat) (ah : Nat → List Nat) (pl : Nat → Int) (op : List (Int × Nat)) (g : Nat) : Prop where
  plc : ∀ b, b < n → pl b = -1 ∨ ∃ p, p < k ∧ pl b = (p : Int) ∧ bl p = b
  blk : ∀ p, p < k → bl p < n ∧ pl (bl p) = (p : Int)
  parl : ∀ v, 0 < v → v < k → par v < v ∧ bl v ∈ nx (bl (par v))
  up : ∀ u v, u < v → v < k → bl v ∈ nx (bl u) → AncP par u v
  mid : ∀ a b c, AncP par a c → c < k → a ≤ b → b ≤ c → AncP par a b
  opn : ∀ e ∈ op, e.2 < n ∧ ((e.1 = -1 ∧ k = 0 ∧ e.2 = 0) ∨ ∃ u : Nat, u < k ∧ e.1 = (u : Int) ∧ e.2 ∈ nx (bl u) ∧ AncP par u (k - 1))
  sort : op.Pairwise (fun e e' => e.1 ≤ e'.1)
  done : ∀ u, u < k → ∀ t ∈ nx (bl u), ((u : Int), t) ∈ op ∨ ∃ p : Nat, pl t = (p : Int) ∧ u ∈ ah p
  ahd : ∀ p, p < k → ∀ u ∈ ah p, u < k ∧ bl p ∈ nx (bl u)
  first : (0 < k → bl 0 = 0) ∧ (k = 0 → op = [(-1, 0)])
  kn : k ≤ n
  num : g = (n - k) * (n + 1) + op.length
  few : ∀ p, p < k → (ah p).length + g ≤ n * (n + 1) + 1

variable {nx : Nat → List Nat} {n k : Nat} {bl par : Nat → Nat} {ah : Nat → List Nat} {pl : Nat → Int} {op : List (Int × Nat)} {g : Nat}
theorem TvI.start (nx : Nat → List Nat) {n : Nat} (hn : 0 < n) (bl par : Nat → Nat) (ah : Nat → List Nat) : TvI nx n 0 bl par ah (fun _ => -1) [(-1, 0)] (n * (n + 1) + 1) :=
  ⟨fun _ _ => .inl rfl, fun p h => by omega, fun v h1 h2 => by omega, fun u v h1 h2 => by omega, fun a b c _ h => by omega,
   fun e he => by rw [List.mem_singleton.1 he]; exact ⟨hn, .inl ⟨rfl, rfl, rfl⟩⟩, by simp, fun u h => by omega, fun p h => by omega, ⟨fun h => by omega, fun _ => rfl⟩, by omega, by simp, fun p h => by omega⟩
theorem TvI.placed (h : TvI nx n k bl par ah pl op g) {b : Nat} (hb : b < n) (hp : 0 ≤ pl b) : ∃ p, p < k ∧ pl b = (p : Int) ∧ bl p = b := by
  rcases h.plc b hb with h1 | h1
  · omega
  · exact h1
theorem mem_op {op : List (Int × Nat)} {e x : Int × Nat} (h : x ∈ op ++ [e]) : x ∈ op ∨ x = e := by simpa using h
/-- One that was come to already. -/
theorem TvI.old {e : Int × Nat} (h : TvI nx n k bl par ah pl (op ++ [e]) g) {p : Nat} (hp : pl e.2 = (p : Int)) :
    ∃ u : Nat, e.1 = (u : Int) ∧ p < k ∧ u < k ∧ ∃ g', g' < g ∧ TvI nx n k bl par (updF ah p (ah p ++ [u])) pl op g' := by
  obtain ⟨he2, he⟩ := h.opn e (by simp)
  obtain ⟨p', hp', hpe, hbl⟩ := h.placed he2 (by omega)
  obtain rfl : p' = p := by omega
  rcases he with ⟨h1, h2, h3⟩ | ⟨u, hu, hue, hun, hua⟩
  · omega
  refine ⟨u, hue, hp', hu, g - 1, by have := h.num; simp at this; omega, ?_⟩
  refine ⟨h.plc, h.blk, h.parl, h.up, h.mid, fun x hx => h.opn x (by simp [hx]), (List.pairwise_append.1 h.sort).1, fun v hv t ht => ?_, fun q hq x hx => ?_, ⟨h.first.1, fun h0 => by omega⟩, h.kn, by have := h.num; simp at this ⊢; omega, fun q hq => ?_⟩
  · rcases h.done v hv t ht with h1 | ⟨q, h1, h2⟩
    · rcases mem_op h1 with h1 | h1
      · exact .inl h1
      · right
        have h3 : (v : Int) = e.1 := by rw [← h1]
        have h4 : t = e.2 := by rw [← h1]
        refine ⟨p', by rw [h4]; exact hp, ?_⟩
        rw [updF_here]
        have : v = u := by omega
        subst this; simp
    · right
      refine ⟨q, h1, ?_⟩
      by_cases e : q = p'
      · subst e; rw [updF_here]; simp [h2]
      · rw [updF_else _ _ e]; exact h2
  · by_cases e1 : q = p'
    · subst e1
      rw [updF_here] at hx
      rcases List.mem_append.1 hx with hx | hx
      · exact h.ahd q hq x hx
      · rw [List.mem_singleton.1 hx, hbl]; exact ⟨hu, hun⟩
    · rw [updF_else _ _ e1] at hx; exact h.ahd q hq x hx
  · have h1 := h.few q hq
    have h2 := h.num
    by_cases e1 : q = p'
    · subst e1; rw [updF_here]; simp at h2 ⊢; omega
    · rw [updF_else _ _ e1]; omega
/-- One that is new. -/
theorem TvI.new {e : Int × Nat} (h : TvI nx n k bl par ah pl (op ++ [e]) g) (hnx : ∀ x, ∀ t ∈ nx x, t < n) (hlen : ∀ x, (nx x).length ≤ n) (hp : pl e.2 = -1) :
    k < n ∧ e.2 < n ∧ ∃ g', g' < g ∧ TvI nx n (k + 1) (updF bl k e.2) (updF par k e.1.toNat) (updF ah k (if e.1 < 0 then [] else [e.1.toNat])) (updF pl e.2 k) (op ++ (nx e.2).map fun t => ((k : Int), t)) g' := by
  obtain ⟨he2, he⟩ := h.opn e (by simp)
  have hk : k < n := by
    apply Classical.byContradiction
    intro hk
    -- all places would be taken
    have hkn : k = n := by have := h.kn; omega
    have hinj : ((List.range k).map bl).Nodup := by
      rw [List.nodup_iff_pairwise_ne, List.pairwise_map]
      refine List.Pairwise.imp_of_mem (fun {a b} ha hb hab hh => ?_) (List.nodup_range (n := k))
      have h1 := h.blk a (List.mem_range.1 ha)
      have h2 := h.blk b (List.mem_range.1 hb)
      rw [hh] at h1
      exact hab (by omega)
    have hni : e.2 ∉ (List.range k).map bl := fun hm => by
      obtain ⟨a, ha, hb⟩ := List.mem_map.1 hm
      have := h.blk a (List.mem_range.1 ha)
      rw [hb] at this; omega
    have := List.Nodup.length_le_of_subset (List.nodup_cons.2 ⟨hni, hinj⟩) (l₂ := List.range n) (fun x hx => by
      rcases List.mem_cons.1 hx with rfl | hx
      · exact List.mem_range.2 he2
      · obtain ⟨a, ha, rfl⟩ := List.mem_map.1 hx
        exact List.mem_range.2 (h.blk a (List.mem_range.1 ha)).1)
    simp at this; omega
  have hne : ∀ p, p < k → bl p ≠ e.2 := fun p hpk hh => by have := (h.blk p hpk).2; rw [hh] at this; omega
  have hcg : ∀ {a c : Nat}, AncP par a c → c < k → AncP (updF par k e.1.toNat) a c := fun ha hc => ha.congr hc (fun v h1 h2 => (h.parl v h1 h2).1) (fun v hv => updF_else _ _ (by omega))
  have hcg' : ∀ {a c : Nat}, AncP (updF par k e.1.toNat) a c → c < k → AncP par a c := fun ha hc => ha.congr hc (fun v h1 h2 => by rw [updF_else _ _ (by omega)]; exact (h.parl v h1 h2).1) (fun v hv => (updF_else _ _ (by omega)).symm)
  have hle : ∀ {a c : Nat}, AncP par a c → c < k → a ≤ c := by
    intro a c ha
    induction ha with
    | refl => intro _; omega
    | @step v h0 _ ih => intro hv; have := (h.parl v h0 hv).1; have := ih (by omega); omega
  -- the new one's tree
  have htop : 0 < k → e.1.toNat < k ∧ AncP par e.1.toNat (k - 1) ∧ e.2 ∈ nx (bl e.1.toNat) ∧ 0 ≤ e.1 := fun h0 => by
    rcases he with ⟨_, h2, _⟩ | ⟨u, hu, hue, hun, hua⟩
    · omega
    · have : e.1.toNat = u := by omega
      rw [this]; exact ⟨hu, hua, hun, by omega⟩
  have hsort : ∀ x ∈ op, x.1 ≤ e.1 := fun x hx => (List.pairwise_append.1 h.sort).2.2 x hx e (by simp)
  have hop0 : k = 0 → op = [] ∧ e = (-1, 0) := fun h0 => by
    have h1 := h.first.2 h0
    have h2 : op = [] := by
      have := congrArg List.length h1
      simp at this; exact this
    subst h2; simpa using h1
  -- whoever is above the last and not behind the top is above the new one
  have hanc : ∀ u, u < k → AncP par u (k - 1) → (u : Int) ≤ e.1 → AncP (updF par k e.1.toNat) u k := fun u hu ha hle' => by
    obtain ⟨h1, h2, h3, h4⟩ := htop (by omega)
    refine .step (by omega) ?_
    rw [updF_here]
    exact hcg (h.mid _ _ _ ha (by omega) (by omega) (by omega)) h1
  have hg := h.num
  have hgle : (n - k) * (n + 1) = (n - (k + 1)) * (n + 1) + (n + 1) := by
    rw [← Nat.succ_mul]; congr 1; omega
  have hl2 := hlen e.2
  refine ⟨hk, he2, (n - (k + 1)) * (n + 1) + (op.length + (nx e.2).length), by simp at hg; omega, ?_⟩
  refine ⟨fun b hb => ?_, fun p hpk => ?_, fun v h0 hv => ?_, fun u v huv hv hE => ?_, fun a b c ha hc hab hbc => ?_, fun x hx => ?_, ?_, fun u hu t ht => ?_, fun p hpk x hx => ?_, ⟨fun _ => ?_, fun h0 => by omega⟩, by omega, by simp, fun p hpk => ?_⟩
  · by_cases e1 : b = e.2
    · subst e1; right; exact ⟨k, by omega, updF_here _ _ _, updF_here _ _ _⟩
    · rw [updF_else _ _ e1]
      rcases h.plc b hb with h1 | ⟨p, h1, h2, h3⟩
      · exact .inl h1
      · exact .inr ⟨p, by omega, h2, by rw [updF_else _ _ (by omega)]; exact h3⟩
  · by_cases e1 : p = k
    · subst e1; rw [updF_here]; exact ⟨he2, updF_here _ _ _⟩
    · have hpk' : p < k := by omega
      rw [updF_else _ _ e1, updF_else _ _ (hne p hpk')]
      exact h.blk p hpk'
  · by_cases e1 : v = k
    · subst e1
      obtain ⟨h1, h2, h3, h4⟩ := htop h0
      rw [updF_here, updF_here, updF_else _ _ (by omega)]
      exact ⟨h1, h3⟩
    · have := h.parl v h0 (by omega)
      rw [updF_else _ _ e1, updF_else _ _ e1, updF_else _ _ (by omega)]
      exact this
  · by_cases e1 : v = k
    · subst e1
      rw [updF_here, updF_else _ _ (by omega)] at hE
      rcases h.done u huv _ hE with h1 | ⟨p, h1, h2⟩
      · rcases mem_op h1 with h1 | h1
        · obtain ⟨-, hq⟩ := h.opn ((u : Int), e.2) (List.mem_append_left _ h1)
          rcases hq with ⟨h2, _⟩ | ⟨u', hu', hue', _, hua'⟩
          · have h2 : (u : Int) = -1 := h2; omega
          · have hue' : (u : Int) = (u' : Int) := hue'
            have : u' = u := by omega
            subst this
            exact hanc _ huv hua' (hsort _ h1)
        · obtain ⟨h2, h3, -, -⟩ := htop (by omega)
          have h4 : (u : Int) = e.1 := by rw [← h1]
          have : e.1.toNat = u := by omega
          rw [this] at h3
          exact hanc u huv h3 (by omega)
      · omega
    · rw [updF_else _ _ e1, updF_else _ _ (by omega)] at hE
      exact hcg (h.up u v huv (by omega) hE) (by omega)
  · by_cases e1 : c = k
    · subst e1
      by_cases e2 : b = c
      · subst e2; exact ha
      · cases ha with
        | refl => omega
        | step h0 ha =>
          obtain ⟨h1, h2, h3, h4⟩ := htop (by omega)
          rw [updF_here] at ha
          have ha' := hcg' ha h1
          have ha2 := ha'.trans h2
          exact hcg (h.mid a b (c - 1) ha2 (by omega) hab (by omega)) (by omega)
    · exact hcg (h.mid a b c (hcg' ha (by omega)) (by omega) hab hbc) (by omega)
  · rcases List.mem_append.1 hx with hx | hx
    · obtain ⟨h1, h2⟩ := h.opn x (by simp [hx])
      refine ⟨h1, ?_⟩
      rcases h2 with ⟨_, h3, _⟩ | ⟨u, hu, hue, hun, hua⟩
      · rw [(hop0 h3).1] at hx; cases hx
      · right
        refine ⟨u, by omega, hue, by rw [updF_else _ _ (by omega)]; exact hun, ?_⟩
        have := hsort x hx
        exact hanc u hu hua (by omega)
    · obtain ⟨t, ht, rfl⟩ := List.mem_map.1 hx
      exact ⟨hnx _ t ht, .inr ⟨k, by omega, rfl, by rw [updF_here]; exact ht, .refl⟩⟩
  · rw [List.pairwise_append]
    refine ⟨(List.pairwise_append.1 h.sort).1, ?_, fun x hx y hy => ?_⟩
    · rw [List.pairwise_map]
      exact List.pairwise_of_forall (fun _ _ => Int.le_refl _)
    · obtain ⟨t, ht, rfl⟩ := List.mem_map.1 hy
      obtain ⟨-, h2⟩ := h.opn x (by simp [hx])
      rcases h2 with ⟨h3, _⟩ | ⟨u, hu, hue, _⟩
      · show x.1 ≤ (k : Int); omega
      · show x.1 ≤ (k : Int); omega
  · by_cases e1 : u = k
    · subst e1
      rw [updF_here] at ht
      exact .inl (List.mem_append_right _ (List.mem_map.2 ⟨t, ht, rfl⟩))
    · have hu' : u < k := by omega
      rw [updF_else _ _ e1] at ht
      rcases h.done u hu' t ht with h1 | ⟨p, h1, h2⟩
      · rcases mem_op h1 with h1 | h1
        · exact .inl (List.mem_append_left _ h1)
        · right
          have h4 : (u : Int) = e.1 := by rw [← h1]
          have h5 : t = e.2 := by rw [← h1]
          refine ⟨k, by rw [h5]; exact updF_here _ _ _, ?_⟩
          rw [updF_here, if_neg (by omega)]
          simp; omega
      · right
        have h3 : t ≠ e.2 := fun e => by rw [e] at h1; omega
        refine ⟨p, by rw [updF_else _ _ h3]; exact h1, ?_⟩
        have hpk : p < k := by
          obtain ⟨p', h4, h5, -⟩ := h.placed (hnx _ t ht) (by omega); omega
        rw [updF_else _ _ (by omega)]; exact h2
  · by_cases e1 : p = k
    · subst e1
      rw [updF_here] at hx
      split at hx
      · cases hx
      · rename_i hge
        have h0 : 0 < p := by
          rcases Nat.eq_zero_or_pos p with h0 | h0
          · rw [(hop0 h0).2] at hge; simp at hge
          · exact h0
        obtain ⟨h1, h2, h3, h4⟩ := htop h0
        rw [List.mem_singleton.1 hx, updF_here, updF_else _ _ (by omega)]
        exact ⟨by omega, h3⟩
    · rw [updF_else _ _ e1] at hx
      have := h.ahd p (by omega) x hx
      rw [updF_else _ _ e1, updF_else _ _ (by omega)]
      exact ⟨by omega, this.2⟩
  · by_cases e1 : k = 0
    · subst e1; rw [updF_here, (hop0 rfl).2]
    · rw [updF_else _ _ (by omega)]; exact h.first.1 (by omega)
  · have hkk : (n - k) * (n + 1) ≤ n * (n + 1) := Nat.mul_le_mul_right _ (by omega)
    by_cases e1 : p = k
    · subst e1
      rw [updF_here]
      have h9 : (if e.1 < 0 then [] else [e.1.toNat] : List Nat).length ≤ 1 := by split <;> simp
      simp at hg
      rcases Nat.eq_zero_or_pos p with h6 | h6
      · subst h6
        have := (hop0 rfl).1
        subst this
        simp at hg ⊢
        have h10 : n * (n + 1) = (n - 1) * (n + 1) + (n + 1) := by rw [← Nat.succ_mul]; congr 1; omega
        omega
      · have h7 := h.few 0 h6
        omega
    · rw [updF_else _ _ e1]
      have := h.few p (by omega)
      simp at hg; omega

/-- All gone through. -/
def EdgeP (nx : Nat → List Nat) (k : Nat) (bl : Nat → Nat) (u v : Nat) : Prop := u < k ∧ v < k ∧ bl v ∈ nx (bl u)
structure TvE (nx : Nat → List Nat) (n k : Nat) (bl par : Nat → Nat) (ah : Nat → List Nat) (pl : Nat → Int) : Prop where
  tree : TreeP k (EdgeP nx k bl) par
  plc : ∀ b, b < n → pl b = -1 ∨ ∃ p, p < k ∧ pl b = (p : Int) ∧ bl p = b
  blk : ∀ p, p < k → bl p < n ∧ pl (bl p) = (p : Int)
  ahd : ∀ p, p < k → ∀ u, u ∈ ah p ↔ EdgeP nx k bl u p
  reach : ∀ b, b < n → (Reach nx 0 b ↔ 0 ≤ pl b)
  first : 0 < k ∧ bl 0 = 0
  kn : k ≤ n
  few : ∀ p, p < k → (ah p).length ≤ n * (n + 1) + 1
theorem TvI.all (h : TvI nx n k bl par ah pl [] g) (hnx : ∀ x, ∀ t ∈ nx x, t < n) (hn : 0 < n) : TvE nx n k bl par ah pl := by
  have hk : 0 < k := by
    rcases Nat.eq_zero_or_pos k with h0 | h0
    · have := h.first.2 h0; cases this
    · exact h0
  have hdone : ∀ u, u < k → ∀ t ∈ nx (bl u), ∃ p : Nat, p < k ∧ pl t = (p : Int) ∧ bl p = t ∧ u ∈ ah p := fun u hu t ht => by
    rcases h.done u hu t ht with h1 | ⟨p, h1, h2⟩
    · cases h1
    · obtain ⟨p', h4, h5, h6⟩ := h.placed (hnx _ t ht) (by omega)
      obtain rfl : p' = p := by omega
      exact ⟨p', h4, h5, h6, h2⟩
  refine ⟨⟨fun u v h => ⟨h.1, h.2.1⟩, fun v h0 hv => (h.parl v h0 hv).1, fun v h0 hv => ⟨by have := (h.parl v h0 hv).1; omega, hv, (h.parl v h0 hv).2⟩, fun u v he huv => h.up u v huv he.2.1 he.2.2, fun a b c => h.mid a b c⟩, h.plc, h.blk, fun p hp u => ⟨fun hu => ?_, fun hu => ?_⟩, fun b hb => ⟨fun hr => ?_, fun hp => ?_⟩, ⟨hk, h.first.1 hk⟩, h.kn, fun p hp => by have := h.few p hp; omega⟩
  · have := h.ahd p hp u hu; exact ⟨this.1, hp, this.2⟩
  · obtain ⟨q, h1, h2, h3, h4⟩ := hdone u hu.1 _ hu.2.2
    have := (h.blk p hp).2
    obtain rfl : q = p := by omega
    exact h4
  · have key : ∀ x, Reach nx 0 x → ∃ p : Nat, p < k ∧ pl x = (p : Int) ∧ bl p = x := by
      intro x hx
      induction hx with
      | refl => exact ⟨0, hk, by have := (h.blk 0 hk).2; rw [h.first.1 hk] at this; simpa using this, h.first.1 hk⟩
      | @step x y _ hxy ih =>
        obtain ⟨p, h1, h2, h3⟩ := ih
        obtain ⟨q, h4, h5, h6, _⟩ := hdone p h1 y (by rw [h3]; exact hxy)
        exact ⟨q, h4, h5, h6⟩
    obtain ⟨p, -, h2, -⟩ := key b hr
    omega
  · obtain ⟨p, h1, -, h3⟩ := h.placed hb hp
    rw [← h3]
    clear h3
    induction p using Nat.strongRecOn with
    | _ p ih =>
      rcases Nat.eq_zero_or_pos p with h0 | h0
      · subst h0; rw [h.first.1 hk]; exact .refl
      · obtain ⟨h4, h5⟩ := h.parl p h0 h1
        exact .step (ih _ h4 (by omega)) h5
end Go.Proofs.Ytcjmhdneelmbhaa

/- Rows of a call's own. No condition. -/
namespace Go.Proofs.Ytcjmhdneelmbhaa
open Go.ChangeShapes Go.WideShapes Go.RowKit Go.Deep
set_option linter.unusedVariables false

theorem ownsRow_block {w w' : World} {base n size : Nat} {e : TypeId} {v : Value} {xs : List Value} (h : w.ownsRow base e size v n xs) (hb : ∀ g, v.ownBlock = some g → w'.heap[g]? = w.heap[g]?) : w'.ownsRow base e size v n xs := by
  obtain ⟨h1, h2⟩ := h
  refine ⟨h1, ?_⟩
  rcases h2 with h2 | ⟨g, c, cur, rfl, h3, h4, h5⟩
  · exact .inl h2
  · exact .inr ⟨g, c, cur, rfl, h3, (hb g rfl).trans h4, h5⟩
theorem own_sliceL {w : World} {K n size : Nat} {e : TypeId} {v : Value} {xs : List Value} (h : w.ownsRow K e size v n xs) : ∃ A c, v = .slice A n c := by
  rcases h.2 with ⟨rfl, h0⟩ | ⟨g, c, cur, rfl, -⟩
  · exact ⟨none, 0, by rw [h0]⟩
  · exact ⟨_, _, rfl⟩
theorem owns_mono_ {w : World} {base base' n size : Nat} {e : TypeId} {v : Value} {xs : List Value} (h : w.ownsRow base e size v n xs) (hk : base' ≤ base) : w.ownsRow base' e size v n xs := by
  obtain ⟨h1, h2 | ⟨g, cap, cur, rfl, hb, h3⟩⟩ := h
  · exact ⟨h1, .inl h2⟩
  · exact ⟨h1, .inr ⟨g, cap, cur, rfl, Nat.le_trans hk hb, h3⟩⟩
theorem row_madeQ {w : World} {H k : Nat} (h : w.heap[H]? = some (.cells (madeCells #[.int .i64 0] k) 3)) : w.rowIs H 3 k (fun _ => .int .i64 0) :=
  ⟨_, h, size_madeCells _ _, fun i hi => by simp [madeCells, hi, Nat.mod_one]⟩
end Go.Proofs.Ytcjmhdneelmbhaa

/- Rows that a call owns, apart from one another. No condition. -/
namespace Go.Proofs.Ytcjmhdneelmbhaa
open Go.ChangeShapes Go.WideShapes Go.RowKit Go.Deep
set_option linter.unusedVariables false

/-- Of all that was there only the block of v may have changed; the value v' lies in that of v, or is new. -/
structure GroD (w w' : World) (v v' : Value) : Prop where
  os : w'.os = w.os
  tape : w'.tape = w.tape
  output : w'.output = w.output
  size : w.heap.size ≤ w'.heap.size
  block : ∀ k, k < w.heap.size → v.ownBlock ≠ some k → w'.heap[k]? = w.heap[k]?
  own : ∀ g, v'.ownBlock = some g → v.ownBlock = some g ∨ w.heap.size ≤ g
/-- One append of one element, which first lies in a block of its own. -/
theorem groD_append {w w1 : World} {o : Obj} {v : Value} {g n cap : Nat} (hg : (w.alloc o).grownBy w1 v.ownBlock) (hl : v.ownBlock = some g ∨ g = w.heap.size + 1) : GroD w w1 v (.slice (some ⟨g, 0, none⟩) n cap) :=
  ⟨hg.os, hg.tape, hg.output, Nat.le_trans (by simp) hg.size, fun k hk hv => (hg.block k (by simp; omega) (fun e => hv e.symm)).trans (Below.heap_alloc _ _ _ hk),
   fun x hx => by
    obtain rfl : g = x := Option.some.inj hx
    rcases hl with h | h
    · exact .inl h
    · exact .inr (by omega)⟩
theorem groD_drew {w w1 : World} {v v' : Value} (h : GroD w.drew w1 v v') : GroD w w1 v v' := ⟨h.os, h.tape, h.output, h.size, h.block, h.own⟩
/-- A store into an element of the row itself. -/
theorem groD_store (w : World) {g n cap j : Nat} (u : Value) : GroD w (w.setCell ⟨g, j, none⟩ u) (.slice (some ⟨g, 0, none⟩) n cap) (.slice (some ⟨g, 0, none⟩) n cap) :=
  ⟨rfl, rfl, rfl, by simp, fun k hk hv => Below.heap_setCell _ _ _ _ (fun e => hv (by show some g = some k; exact congrArg some e.symm)), fun x hx => .inl hx⟩
theorem GroD.fr {w w' : World} {v v' : Value} (h : GroD w w' v v') {X : Nat → Prop} {a : World} (ha : FrX X a w) (hv : ∀ g, v.ownBlock = some g → X g ∨ a.heap.size ≤ g) : FrX X a w' :=
  ⟨h.os.trans ha.os, h.tape.trans ha.tape, h.output.trans ha.output, Nat.le_trans ha.size h.size, fun k hk hx => (h.block k (Nat.lt_of_lt_of_le hk ha.size) (fun e => by
    rcases hv k e with h2 | h2
    · exact hx h2
    · omega)).trans (ha.block k hk hx)⟩

structure RowD where
  ty : TypeId
  size : Nat
  len : Nat
  xs : List Value
def OwnD (w : World) (K : Nat) (v : Value) (t : RowD) : Prop := w.ownsRow K t.ty t.size v t.len t.xs
/-- So many rows, apart from one another. -/
structure PoolD (w : World) (K m : Nat) (U : Nat → Value) (T : Nat → RowD) : Prop where
  own : ∀ i, i < m → OwnD w K (U i) (T i)
  ap : ∀ i j, i < m → j < m → i ≠ j → (U i).ownBlock = none ∨ (U i).ownBlock ≠ (U j).ownBlock
theorem PoolD.congr {w : World} {K m : Nat} {U U' : Nat → Value} {T T' : Nat → RowD} (h : PoolD w K m U T) (hu : ∀ i, i < m → U i = U' i) (ht : ∀ i, i < m → T i = T' i) : PoolD w K m U' T' :=
  ⟨fun i hi => by rw [← hu i hi, ← ht i hi]; exact h.own i hi, fun i j hi hj hij => by rw [← hu i hi, ← hu j hj]; exact h.ap i j hi hj hij⟩
theorem PoolD.go {w w' : World} {K m : Nat} {U : Nat → Value} {T : Nat → RowD} (h : PoolD w K m U T) (hb : ∀ k, K ≤ k → k < w.heap.size → w'.heap[k]? = w.heap[k]?) : PoolD w' K m U T :=
  ⟨fun i hi => ownsRow_block (h.own i hi) fun g hg => hb g ((h.own i hi).lt g hg).1 ((h.own i hi).lt g hg).2, h.ap⟩
theorem PoolD.gro {w w' : World} {K m t : Nat} {U : Nat → Value} {T : Nat → RowD} {v' : Value} {r : RowD} (h : PoolD w K m U T) (ht : t < m) (hg : GroD w w' (U t) v') (ho : OwnD w' K v' r) : PoolD w' K m (updF U t v') (updF T t r) := by
  have key : ∀ i, i < m → i ≠ t → (U i).ownBlock = none ∨ (U i).ownBlock ≠ v'.ownBlock := fun i hi hit => by
    cases hb : (U i).ownBlock with
    | none => exact .inl rfl
    | some b =>
      right
      intro e
      rcases hg.own b e.symm with h1 | h1
      · rcases h.ap i t hi ht hit with h2 | h2
        · rw [h2] at hb; cases hb
        · exact h2 (hb.trans h1.symm)
      · have := ((h.own i hi).lt b hb).2; omega
  refine ⟨fun i hi => ?_, fun i j hi hj hij => ?_⟩
  · by_cases e : i = t
    · subst e; rw [updF_here, updF_here]; exact ho
    · rw [updF_else _ _ e, updF_else _ _ e]
      refine ownsRow_block (h.own i hi) fun g hgi => hg.block g ((h.own i hi).lt g hgi).2 fun e2 => ?_
      rcases h.ap i t hi ht e with h2 | h2
      · rw [h2] at hgi; cases hgi
      · exact h2 (hgi.trans e2.symm)
  · by_cases ei : i = t
    · subst ei
      rw [updF_here, updF_else _ _ (Ne.symm hij)]
      rcases key j hj (Ne.symm hij) with h1 | h1
      · cases hv : v'.ownBlock with
        | none => exact .inl rfl
        | some b => right; rw [h1]; intro e; cases e
      · exact .inr (Ne.symm h1)
    · rw [updF_else _ _ ei]
      by_cases ej : j = t
      · subst ej; rw [updF_here]; exact key i hi ei
      · rw [updF_else _ _ ej]; exact h.ap i j hi hj hij
/-- One row more, with nothing in it. -/
theorem PoolD.more {w : World} {K m : Nat} {U : Nat → Value} {T : Nat → RowD} (h : PoolD w K m U T) (ty : TypeId) (size : Nat) : PoolD w K (m + 1) (updF U m (.slice none 0 0)) (updF T m ⟨ty, size, 0, []⟩) := by
  refine ⟨fun i hi => ?_, fun i j hi hj hij => ?_⟩
  · by_cases e : i = m
    · subst e; rw [updF_here, updF_here]; exact World.ownsRow_nil _ _ _ _
    · rw [updF_else _ _ e, updF_else _ _ e]; exact h.own i (by omega)
  · by_cases ei : i = m
    · subst ei; rw [updF_here]; exact .inl rfl
    · rw [updF_else _ _ ei]
      by_cases ej : j = m
      · subst ej; rw [updF_here]
        cases hb : (U i).ownBlock with
        | none => exact .inl rfl
        | some b => right; intro e; cases e
      · rw [updF_else _ _ ej]; exact h.ap i j (by omega) (by omega) hij
/-- An element of a row. -/
theorem own_cellD {w : World} {K n : Nat} {e : TypeId} {v : Value} {xs : List Value} (h : w.ownsRow K e 1 v n xs) {i : Nat} (hi : i < n) : ∃ g cap u, v = .slice (some ⟨g, 0, none⟩) n cap ∧ xs[i]? = some u ∧ w.cell? ⟨g, i, none⟩ = some u ∧ w.frozen? ⟨g, i, none⟩ = false ∧ K ≤ g ∧ g < w.heap.size := by
  obtain ⟨g, cap, rfl⟩ : ∃ g cap, v = .slice (some ⟨g, 0, none⟩) n cap := by
    rcases h.2 with ⟨_, h2⟩ | ⟨g, cap, cur, h2, _⟩
    · omega
    · exact ⟨g, cap, h2⟩
  have hl := h.1
  have hx : i < xs.length := by omega
  refine ⟨g, cap, xs[i], rfl, List.getElem?_eq_getElem hx, ?_, h.frozenAt i, (h.lt g rfl).1, (h.lt g rfl).2⟩
  rw [h.cellAt i (by omega)]; exact List.getElem?_eq_getElem hx
theorem map_range_snoc {α : Type} (f : Nat → α) (k : Nat) (x : α) : ((List.range k).map f ++ [x]) = (List.range (k + 1)).map (updF f k x) := by
  rw [List.range_succ, List.map_append, List.map_singleton, updF_here]
  congr 1
  exact List.map_congr_left fun v hv => (updF_else _ _ (by have := List.mem_range.1 hv; omega)).symm
theorem map_range_set {α : Type} (f : Nat → α) (k j : Nat) (x : α) : ((List.range k).map f).set j x = (List.range k).map (updF f j x) := by
  apply List.ext_getElem?
  intro i
  by_cases hik : i < k
  · by_cases e : i = j
    · subst e; simp [hik, updF]
    · simp [hik, updF, e, Ne.symm e]
  · simp [hik]
theorem map_range_at {α : Type} (f : Nat → α) {k i : Nat} {x : α} (h : ((List.range k).map f)[i]? = some x) : x = f i ∧ i < k := by
  rw [List.getElem?_map] at h
  obtain ⟨q, hq, rfl⟩ := Option.map_eq_some_iff.1 h
  obtain ⟨hl, rfl⟩ := List.getElem?_eq_some_iff.1 hq
  simp at hl ⊢; exact hl
end Go.Proofs.Ytcjmhdneelmbhaa

/- What the document says of proper functions and modules, as functions over lists: plain mathematics. -/
namespace Go.Proofs.Ytcjmhdneelmbhaa
open Go.RowKit
set_option linter.unusedVariables false

/-- The first that is not 0. -/
def firstE : List Int → Int
  | [] => 0
  | x :: r => if x = 0 then firstE r else x
theorem firstE_append (a b : List Int) : firstE (a ++ b) = if firstE a = 0 then firstE b else firstE a := by
  induction a with
  | nil => simp [firstE]
  | cons x r ih =>
    simp only [List.cons_append, firstE]
    by_cases h : x = 0
    · simp only [if_pos h, ih]
    · simp only [if_neg h]
theorem firstE_snoc {l : List Int} {k : Nat} {x : Int} (h : l[k]? = some x) (h0 : firstE (l.take k) = 0) : firstE (l.take (k + 1)) = x := by
  rw [take_succ_of h, firstE_append, if_pos h0]
  simp only [firstE]
  split <;> simp_all
theorem firstE_stop {l : List Int} {k : Nat} {x : Int} (h : l[k]? = some x) (h0 : firstE (l.take k) = 0) (hx : x ≠ 0) : firstE l = x := by
  have e : l = l.take (k + 1) ++ l.drop (k + 1) := (List.take_append_drop _ _).symm
  rw [e, firstE_append, firstE_snoc h h0, if_neg hx]
theorem firstE_zero {l : List Int} : firstE l = 0 ↔ ∀ x ∈ l, x = 0 := by
  induction l with
  | nil => simp [firstE]
  | cons x r ih =>
    simp only [firstE, List.mem_cons, forall_eq_or_imp]
    by_cases h : x = 0
    · simp [h, ih]
    · simp [h]
theorem map_at {α β : Type} {l : List α} {k : Nat} {x : α} (f : α → β) (h : l[k]? = some x) : (l.map f)[k]? = some (f x) := by rw [List.getElem?_map, h]; rfl
theorem map_take {α β : Type} (l : List α) (k : Nat) (f : α → β) : (l.map f).take k = (l.take k).map f := List.map_take.symm

/-- Its type. -/
def reg (regs : List Int) (r : Int) : Int := regs.getD r.toNat 0

def itemsK (bs : List BlkD) : Nat := (bs.map fun b => b.phis.length + b.ins.length).sum
def withinB (f : FunD) : Bool := decide (1 ≤ f.blocks.length ∧ f.blocks.length ≤ 64 ∧ f.regs.length ≤ 256 ∧ f.blocks.length + itemsK f.blocks ≤ 256)
def isTy (t : Int) : Bool := decide (t = 1 ∨ t = 2)
def typedB (f : FunD) : Bool := f.regs.all isTy && decide (0 ≤ f.params ∧ f.params ≤ 8 ∧ f.params ≤ f.regs.length) && decide (f.result = 0 ∨ f.result = 1 ∨ f.result = 2)
def tosB (t : TermD) : Bool :=
  if t.kind = 1 then decide (t.to.length = 1) else if t.kind = 2 then decide (t.to.length = 2) && decide (t.to.getD 0 0 ≠ t.to.getD 1 0) else if t.kind = 3 then decide (t.to.length = 0) else false
def toB (n : Nat) (x : Int) : Bool := decide (x ≠ 0 ∧ 0 ≤ x ∧ x < n)
def shapeB (n : Nat) (t : TermD) : Bool := tosB t && t.to.all (toB n)
def endsWellB (f : FunD) : Bool := f.blocks.all fun b => shapeB f.blocks.length b.term
/-- Each phi of block i and those behind it has as many Args as there are blocks ahead. -/
def meetK (bs : List BlkD) : List BlkD → Nat → Bool
  | [], _ => true
  | b :: r, i => b.phis.all (fun p => decide (p.args.length = (aheadL bs i).length)) && meetK bs r (i + 1)
def meetB (f : FunD) : Bool := meetK f.blocks f.blocks 0
/-- The rules 1 to 4. -/
def outerE (f : FunD) : Int := if withinB f then (if typedB f then (if endsWellB f && meetB f then 0 else 6) else 3) else 5

def areAtB (l : List Int) (n : Int) : Bool := l.all fun a => decide (0 ≤ a ∧ a < n)
def phiE (f : FunD) (p : PhiD) : Int :=
  if decide (0 ≤ p.dst ∧ p.dst < f.regs.length) && areAtB p.args f.regs.length then (if p.args.all fun a => decide (reg f.regs a = reg f.regs p.dst) then 0 else 3) else 4
def wantOf (f : FunD) (t : TermD) : Int := if t.kind = 2 then 2 else if t.kind = 3 then f.result else 0
def termE (f : FunD) (t : TermD) : Int :=
  if wantOf f t = 0 then (if t.arg = -1 then 0 else 3) else if 0 ≤ t.arg ∧ t.arg < f.regs.length then (if reg f.regs t.arg = wantOf f t then 0 else 3) else 4

theorem itemsK_step {bs : List BlkD} {k : Nat} {b : BlkD} (h : bs[k]? = some b) : itemsK (bs.take (k + 1)) = itemsK (bs.take k) + (b.phis.length + b.ins.length) := by
  unfold itemsK; rw [take_succ_of h]; simp
theorem all_step {α : Type} {l : List α} {k : Nat} {x : α} {p : α → Bool} (h : l[k]? = some x) (h0 : (l.take k).all p = true) : (l.take (k + 1)).all p = p x := by
  rw [take_succ_of h, List.all_append, h0]; simp
theorem all_stop {α : Type} {l : List α} {k : Nat} {x : α} {p : α → Bool} (h : l[k]? = some x) (hx : p x = false) : l.all p = false := by
  rw [List.all_eq_false]
  exact ⟨x, List.mem_of_getElem? h, by simp [hx]⟩
theorem all_done {α : Type} {l : List α} {k : Nat} {p : α → Bool} (h : (l.take k).all p = true) (hk : l.length ≤ k) : l.all p = true := by rwa [List.take_of_length_le hk] at h

theorem meetK_append (bs l r : List BlkD) (i : Nat) : meetK bs (l ++ r) i = (meetK bs l i && meetK bs r (i + l.length)) := by
  induction l generalizing i with
  | nil => simp [meetK]
  | cons b l ih => simp only [List.cons_append, meetK, ih, List.length_cons, Bool.and_assoc]; congr 3; omega
def meetUp (bs : List BlkD) (k : Nat) : Bool := meetK bs (bs.take k) 0
theorem meetUp_zero (bs : List BlkD) : meetUp bs 0 = true := rfl
theorem meetUp_step {bs : List BlkD} {k : Nat} {b : BlkD} (h : bs[k]? = some b) (h0 : meetUp bs k = true) : meetUp bs (k + 1) = b.phis.all (fun p => decide (p.args.length = (aheadL bs k).length)) := by
  have hk : k < bs.length := (List.getElem?_eq_some_iff.1 h).1
  unfold meetUp at h0 ⊢
  rw [take_succ_of h, meetK_append, h0, List.length_take, Nat.min_eq_left (by omega), Nat.zero_add]
  simp [meetK]
theorem meetUp_stop {bs : List BlkD} {k : Nat} {b : BlkD} (h : bs[k]? = some b) (hb : b.phis.all (fun p => decide (p.args.length = (aheadL bs k).length)) = false) : meetK bs bs 0 = false := by
  have hk : k < bs.length := (List.getElem?_eq_some_iff.1 h).1
  have e : bs = bs.take (k + 1) ++ bs.drop (k + 1) := (List.take_append_drop _ _).symm
  have h2 : meetK bs (bs.take (k + 1)) 0 = false := by
    rw [take_succ_of h, meetK_append, List.length_take, Nat.min_eq_left (by omega), Nat.zero_add]
    simp only [meetK, hb, Bool.false_and, Bool.and_false]
  have h3 : meetK bs (bs.take (k + 1) ++ bs.drop (k + 1)) 0 = false := by rw [meetK_append, h2]; rfl
  rwa [← e] at h3
theorem meetUp_done {bs : List BlkD} {k : Nat} (h : meetUp bs k = true) (hk : bs.length ≤ k) : meetK bs bs 0 = true := by unfold meetUp at h; rwa [List.take_of_length_le hk] at h

theorem reg_of {regs : List Int} {r : Int} {x : Int} {k : Nat} (hr : r = k) (h : regs[k]? = some x) : reg regs r = x := by
  subst hr
  rw [reg, Int.toNat_natCast, List.getD_eq_getElem?_getD, h]; rfl
end Go.Proofs.Ytcjmhdneelmbhaa

/- What the document says of instructions, blocks, functions and modules: plain mathematics. -/
namespace Go.Proofs.Ytcjmhdneelmbhaa
open Go.RowKit
set_option linter.unusedVariables false

def isIn (n : Nat) (a : Int) : Bool := decide (0 ≤ a ∧ a < n)
/-- The type that stands for Dst's. -/
def dstT (f : FunD) (x : InsD) : Int := if isIn f.regs.length x.dst then reg f.regs x.dst else 1
/-- The types of an operation's arguments, and of its Dst (0: it has none); of a call nothing. -/
def sigOf (f : FunD) (x : InsD) : Option (List Int × Int) :=
  if x.op = 1 then some ([], dstT f x) else if x.op = 2 then some ([dstT f x], dstT f x) else if x.op = 12 ∨ x.op = 13 then some ([1, 1], 2) else if x.op = 14 then some ([2], 2)
  else if x.op = 15 then some ([1], 1) else if x.op = 16 then some ([1, 1], 0) else if x.op = 18 then some ([1], 0) else if 3 ≤ x.op ∧ x.op ≤ 11 then some ([1, 1], 1) else none
/-- Are the arguments of these types? -/
def typesB (regs : List Int) : List Int → List Int → Bool
  | a :: r, t :: s => decide (reg regs a = t) && typesB regs r s
  | _, _ => true
/-- What is amiss, where there are so many arguments: a register that isn't there, else a type. -/
def restE (f : FunD) (x : InsD) (ts : List Int) (d : Int) (bad : Bool) : Int :=
  if areAtB x.args f.regs.length && (decide (d = 0) || isIn f.regs.length x.dst) then
    (if typesB f.regs x.args ts && (if d = 0 then decide (x.dst = -1) else decide (0 < d ∧ reg f.regs x.dst = d)) && (decide (x.op = 1) || decide (x.imm = 0)) && (decide (x.op = 17) || decide (x.fn = 0)) && !bad then 0 else 3)
  else 4
def funAt (m : List FunD) (i : Int) : FunD := m.getD i.toNat default
def oddB (g : FunD) : Bool := decide (g.params < 0 ∨ (g.regs.length : Int) < g.params)
/-- The rules 5 and 6 of an instruction. -/
def insE (m : List FunD) (f : FunD) (x : InsD) : Int :=
  if x.op = 17 then
    (if isIn m.length x.fn then
      (if (x.args.length : Int) = (funAt m x.fn).params then restE f x (if oddB (funAt m x.fn) then [] else (funAt m x.fn).regs.take (funAt m x.fn).params.toNat) (funAt m x.fn).result (oddB (funAt m x.fn)) else 6) else 4)
  else match sigOf f x with
    | none => 6
    | some (ts, d) => if x.args.length = ts.length then restE f x ts d (decide (x.op = 1 ∧ d = 2 ∧ x.imm ≠ 0 ∧ x.imm ≠ 1)) else 6

def blockE (m : List FunD) (f : FunD) (b : BlkD) : Int :=
  if firstE (b.phis.map (phiE f)) = 0 then (if firstE (b.ins.map (insE m f)) = 0 then termE f b.term else firstE (b.ins.map (insE m f))) else firstE (b.phis.map (phiE f))
def funE (m : List FunD) (f : FunD) : Int := if outerE f = 0 then firstE (f.blocks.map (blockE m f)) else outerE f
/-- The first function that isn't proper, from number i on: its error, and its place; or 0 and -1. -/
def modK (m : List FunD) : List FunD → Nat → Int × Int
  | [], _ => (0, -1)
  | f :: r, i => if funE m f = 0 then modK m r (i + 1) else (funE m f, i)
def modE (m : List FunD) : Int × Int := if 32 < m.length then (5, -1) else modK m m 0
def noPhi (f : FunD) : Bool := f.blocks.all fun b => decide (b.phis.length = 0)
def plainK : List FunD → Nat → Int × Int
  | [], _ => (0, -1)
  | f :: r, i => if noPhi f then plainK r (i + 1) else (6, i)
def plainE (m : List FunD) : Int × Int := if (modE m).1 = 0 then plainK m 0 else modE m
def Proper (m : List FunD) : Prop := (modE m).1 = 0

theorem modK_append (m l r : List FunD) (i : Nat) : modK m (l ++ r) i = if (modK m l i).1 = 0 then modK m r (i + l.length) else modK m l i := by
  induction l generalizing i with
  | nil => simp [modK]
  | cons f l ih =>
    simp only [List.cons_append, modK]
    by_cases h : funE m f = 0
    · simp only [if_pos h, ih, List.length_cons]; congr 2; omega
    · simp only [if_neg h]
theorem modK_zero {m l : List FunD} {i : Nat} : (modK m l i).1 = 0 ↔ ∀ f ∈ l, funE m f = 0 := by
  induction l generalizing i with
  | nil => simp [modK]
  | cons f l ih =>
    simp only [modK, List.mem_cons, forall_eq_or_imp]
    by_cases h : funE m f = 0
    · simp [h, ih]
    · simp [h]
theorem modK_ok {m l : List FunD} {i : Nat} (h : (modK m l i).1 = 0) : modK m l i = (0, -1) := by
  induction l generalizing i with
  | nil => rfl
  | cons f l ih =>
    simp only [modK] at h ⊢
    by_cases hf : funE m f = 0
    · simp only [if_pos hf] at h ⊢; exact ih h
    · simp only [if_neg hf] at h; exact absurd h hf
theorem modK_step {m : List FunD} {k : Nat} {f : FunD} (h : m[k]? = some f) (h0 : (modK m (m.take k) 0).1 = 0) : modK m (m.take (k + 1)) 0 = if funE m f = 0 then (0, -1) else (funE m f, (k : Int)) := by
  have hk : k < m.length := (List.getElem?_eq_some_iff.1 h).1
  rw [take_succ_of h, modK_append, if_pos h0, List.length_take, Nat.min_eq_left (by omega), Nat.zero_add]
  simp [modK]
theorem modK_stop {m : List FunD} {k : Nat} {f : FunD} (h : m[k]? = some f) (h0 : (modK m (m.take k) 0).1 = 0) (hf : funE m f ≠ 0) : modK m m 0 = (funE m f, (k : Int)) := by
  have e : m = m.take (k + 1) ++ m.drop (k + 1) := (List.take_append_drop _ _).symm
  have h1 := modK_step h h0
  rw [if_neg hf] at h1
  have h2 : modK m (m.take (k + 1) ++ m.drop (k + 1)) 0 = (funE m f, (k : Int)) := by
    rw [modK_append, h1, if_neg (by exact hf)]
  rwa [← e] at h2
theorem plainK_append (l r : List FunD) (i : Nat) : plainK (l ++ r) i = if (plainK l i).1 = 0 then plainK r (i + l.length) else plainK l i := by
  induction l generalizing i with
  | nil => simp [plainK]
  | cons f l ih =>
    simp only [List.cons_append, plainK]
    by_cases h : noPhi f = true
    · simp only [if_pos h, ih, List.length_cons]; congr 2; omega
    · simp only [if_neg h]; simp
theorem plainK_step {m : List FunD} {k : Nat} {f : FunD} (h : m[k]? = some f) (h0 : plainK (m.take k) 0 = (0, -1)) : plainK (m.take (k + 1)) 0 = if noPhi f then (0, -1) else (6, (k : Int)) := by
  have hk : k < m.length := (List.getElem?_eq_some_iff.1 h).1
  rw [take_succ_of h, plainK_append, h0, List.length_take, Nat.min_eq_left (by omega), Nat.zero_add]
  simp [plainK]
theorem plainK_stop {m : List FunD} {k : Nat} {f : FunD} (h : m[k]? = some f) (h0 : plainK (m.take k) 0 = (0, -1)) (hf : noPhi f = false) : plainK m 0 = (6, (k : Int)) := by
  have e : m = m.take (k + 1) ++ m.drop (k + 1) := (List.take_append_drop _ _).symm
  have h1 := plainK_step h h0
  rw [hf] at h1
  have h2 : plainK (m.take (k + 1) ++ m.drop (k + 1)) 0 = (6, (k : Int)) := by
    rw [plainK_append, h1]; rfl
  rwa [← e] at h2

/-! ### A part of a module -/
theorem restE_congr (f : FunD) (x : InsD) (ts ts' : List Int) (d d' : Int) (b b' : Bool) (h1 : ts = ts') (h2 : d = d') (h3 : b = b') : restE f x ts d b = restE f x ts' d' b' := by rw [h1, h2, h3]
/-- An instruction that calls nothing beyond the part is told as in the whole. -/
theorem insE_part {m : List FunD} {n : Nat} (f : FunD) (x : InsD) (h : ¬ (x.op = 17 ∧ (n : Int) ≤ x.fn)) (hn : n ≤ m.length) : insE (m.take n) f x = insE m f x := by
  unfold insE
  by_cases h17 : x.op = 17
  · simp only [if_pos h17]
    have hlt : x.fn < n := by omega
    have h1 : isIn (m.take n).length x.fn = isIn m.length x.fn := by
      unfold isIn; rw [List.length_take, Nat.min_eq_left hn]; congr 1; rw [eq_iff_iff]; omega
    rw [h1]
    by_cases h0 : 0 ≤ x.fn
    · have h2 : funAt (m.take n) x.fn = funAt m x.fn := by
        unfold funAt; rw [List.getD_eq_getElem?_getD, List.getD_eq_getElem?_getD, List.getElem?_take_of_lt (by omega)]
      rw [h2]
    · have : isIn m.length x.fn = false := decide_eq_false (by omega)
      rw [this]; rfl
  · simp only [if_neg h17]
/-- One that does is refused. -/
theorem insE_beyond {m : List FunD} {n : Nat} (f : FunD) (x : InsD) (h : x.op = 17 ∧ (n : Int) ≤ x.fn) (hn : n ≤ m.length) : insE (m.take n) f x = 4 := by
  unfold insE
  rw [if_pos h.1, if_neg]
  unfold isIn
  rw [List.length_take, Nat.min_eq_left hn]
  simp; omega

def calls (n : Nat) (f : FunD) : Bool := f.blocks.any fun b => b.ins.any fun x => decide (x.op = 17 ∧ (n : Int) ≤ x.fn)

theorem blockE_zero {m : List FunD} {f : FunD} {b : BlkD} : blockE m f b = 0 ↔ (∀ p ∈ b.phis, phiE f p = 0) ∧ (∀ x ∈ b.ins, insE m f x = 0) ∧ termE f b.term = 0 := by
  unfold blockE
  have h1 : firstE (b.phis.map (phiE f)) = 0 ↔ ∀ p ∈ b.phis, phiE f p = 0 := by rw [firstE_zero]; simp
  have h2 : firstE (b.ins.map (insE m f)) = 0 ↔ ∀ x ∈ b.ins, insE m f x = 0 := by rw [firstE_zero]; simp
  rw [← h1, ← h2]
  split
  · split <;> simp_all
  · simp_all
theorem funE_zero {m : List FunD} {f : FunD} : funE m f = 0 ↔ outerE f = 0 ∧ ∀ b ∈ f.blocks, blockE m f b = 0 := by
  unfold funE
  have h1 : firstE (f.blocks.map (blockE m f)) = 0 ↔ ∀ b ∈ f.blocks, blockE m f b = 0 := by rw [firstE_zero]; simp
  rw [← h1]
  split <;> simp_all
theorem proper_iff {m : List FunD} : Proper m ↔ m.length ≤ 32 ∧ ∀ f ∈ m, funE m f = 0 := by
  unfold Proper modE
  split
  · simp; omega
  · rw [modK_zero]; simp; omega

/-- A PART of a proper module's functions is proper just where none of them calls one beyond it. -/
theorem part_proper {m : List FunD} {n : Nat} (h : Proper m) (hn : n ≤ m.length) : Proper (m.take n) ↔ (m.take n).any (calls n) = false := by
  obtain ⟨h1, h2⟩ := proper_iff.1 h
  rw [proper_iff]
  constructor
  · rintro ⟨_, h4⟩
    rw [List.any_eq_false]
    intro f hf hc
    unfold calls at hc
    obtain ⟨b, hb, hc⟩ := List.any_eq_true.1 hc
    obtain ⟨x, hx, hc⟩ := List.any_eq_true.1 hc
    have h5 := (funE_zero.1 (h4 f hf)).2 b hb
    have h6 := (blockE_zero.1 h5).2.1 x hx
    rw [insE_beyond f x (of_decide_eq_true hc) hn] at h6
    exact absurd h6 (by decide)
  · intro h3
    refine ⟨by rw [List.length_take]; omega, fun f hf => ?_⟩
    have hc := List.any_eq_false.1 h3 f hf
    obtain ⟨g1, g2⟩ := funE_zero.1 (h2 f (List.mem_of_mem_take hf))
    refine funE_zero.2 ⟨g1, fun b hb => ?_⟩
    obtain ⟨g3, g4, g5⟩ := blockE_zero.1 (g2 b hb)
    refine blockE_zero.2 ⟨g3, fun x hx => ?_, g5⟩
    rw [insE_part f x (fun hx2 => hc (List.any_eq_true.2 ⟨b, hb, List.any_eq_true.2 ⟨x, hx, decide_eq_true hx2⟩⟩)) hn]
    exact g4 x hx
end Go.Proofs.Ytcjmhdneelmbhaa
