/- Going to all blocks that are reached, each by its place, in mathematics. No condition. -/
import Derived.Test.YtcjmhdneelmbhaaGrTJ
import Derived.Test.YtcjmhdneelmbhaaTbTJ
import Derived.Deep.AppendLies
import Derived.Deep.OwnRows
import Derived.Deep.DeepCutAuto
import Derived.Test.YtcjmhdneelmbhaaDmFrJ
import Derived.Laws.OwnMore
import Derived.Test.YtcjmhdneelmbhaaAheadLJ
import Derived.WalkKit
import Derived.Maps.OwnSet
import Derived.BigQuiet
import Derived.IntWalk
import Derived.StillTailTactics
import Derived.Shelf.SlSortCmp.WholeK
import Derived.Test.YtcjmhdneelmbhaaChecked
namespace Go.Proofs.Ytcjmhdneelmbhaa
set_option linter.unusedVariables false

def updF {α : Type} (f : Nat → α) (k : Nat) (x : α) : Nat → α := fun v => if v = k then x else f v
theorem updF_here {α : Type} (f : Nat → α) (k : Nat) (x : α) : updF f k x k = x := by simp [updF]
theorem updF_else {α : Type} (f : Nat → α) {k v : Nat} (x : α) (h : v ≠ k) : updF f k x v = f v := by simp [updF, h]
theorem AncP.congr {par par' : Nat → Nat} {k a c : Nat} (h : AncP par a c) (hc : c < k) (hlt : ∀ v, 0 < v → v < k → par v < v) (he : ∀ v, v < k → par' v = par v) : AncP par' a c := by
  induction h with
  | refl => exact .refl
  | @step v h0 _ ih =>
    have := hlt _ h0 hc
    exact .step h0 (by rw [he _ hc]; exact ih (by omega))

/-- How far it has gone: k places; what lies open, the last first. -/
structure TvI (nx : Nat → List Nat) (n k : Nat) (bl par : Nat → Nat) (ah : Nat → List Nat) (pl : Nat → Int) (op : List (Int × Nat)) (g : Nat) : Prop where
  plc : ∀ b, b < n → pl b = -1 ∨ ∃ p, p < k ∧ pl b = (p : Int) ∧ bl p = b
  blk : ∀ p, p < k → bl p < n ∧ pl (bl p) = (p : Int)
  parl : ∀ v, 0 < v → v < k → par v < v ∧ bl v ∈ nx (bl (par v))
  up : ∀ u v, u < v → v < k → bl v ∈ nx (bl u) → AncP par u v
  mid : ∀ a b c, AncP par a c → c < k → a ≤ b → b ≤ c → AncP par a b
  opn : ∀ e ∈ op, e.2 < n ∧ ((e.1 = -1 ∧ k = 0 ∧ e.2 = 0) ∨ ∃ u : Nat, u < k ∧ e.1 = (u : Int) ∧ e.2 ∈ nx (bl u) ∧ AncP par u (k - 1))
  sort : op.Pairwise (fun e e' => e.1 ≤ e'.1)
  done : ∀ u, u < k → ∀ t ∈ nx (bl u), ((u : Int), t) ∈ op ∨ ∃ p : Nat, pl t = (p : Int) ∧ u ∈ ah p
  ahd : ∀ p, p < k → ∀ u ∈ ah p, u < k ∧ bl p ∈ nx (bl u)
  first : (0 < k → bl 0 = 0) ∧ (k = 0 → op = [(-1, 0)])
  kn : k ≤ n
  num : g = (n - k) * (n + 1) + op.length
  few : ∀ p, p < k → (ah p).length + g ≤ n * (n + 1) + 1

variable {nx : Nat → List Nat} {n k : Nat} {bl par : Nat → Nat} {ah : Nat → List Nat} {pl : Nat → Int} {op : List (Int × Nat)} {g : Nat}
theorem TvI.start (nx : Nat → List Nat) {n : Nat} (hn : 0 < n) (bl par : Nat → Nat) (ah : Nat → List Nat) : TvI nx n 0 bl par ah (fun _ => -1) [(-1, 0)] (n * (n + 1) + 1) :=
  ⟨fun _ _ => .inl rfl, fun p h => by omega, fun v h1 h2 => by omega, fun u v h1 h2 => by omega, fun a b c _ h => by omega,
   fun e he => by rw [List.mem_singleton.1 he]; exact ⟨hn, .inl ⟨rfl, rfl, rfl⟩⟩, by simp, fun u h => by omega, fun p h => by omega, ⟨fun h => by omega, fun _ => rfl⟩, by omega, by simp, fun p h => by omega⟩
theorem TvI.placed (h : TvI nx n k bl par ah pl op g) {b : Nat} (hb : b < n) (hp : 0 ≤ pl b) : ∃ p, p < k ∧ pl b = (p : Int) ∧ bl p = b := by
  rcases h.plc b hb with h1 | h1
  · omega
  · exact h1
theorem mem_op {op : List (Int × Nat)} {e x : Int × Nat} (h : x ∈ op ++ [e]) : x ∈ op ∨ x = e := by simpa using h
/-- One that was come to already. -/
theorem TvI.old {e : Int × Nat} (h : TvI nx n k bl par ah pl (op ++ [e]) g) {p : Nat} (hp : pl e.2 = (p : Int)) :
    ∃ u : Nat, e.1 = (u : Int) ∧ p < k ∧ u < k ∧ ∃ g', g' < g ∧ TvI nx n k bl par (updF ah p (ah p ++ [u])) pl op g' := by
  obtain ⟨he2, he⟩ := h.opn e (by simp)
  obtain ⟨p', hp', hpe, hbl⟩ := h.placed he2 (by omega)
  obtain rfl : p' = p := by omega
  rcases he with ⟨h1, h2, h3⟩ | ⟨u, hu, hue, hun, hua⟩
  · omega
  refine ⟨u, hue, hp', hu, g - 1, by have := h.num; simp at this; omega, ?_⟩
  refine ⟨h.plc, h.blk, h.parl, h.up, h.mid, fun x hx => h.opn x (by simp [hx]), (List.pairwise_append.1 h.sort).1, fun v hv t ht => ?_, fun q hq x hx => ?_, ⟨h.first.1, fun h0 => by omega⟩, h.kn, by have := h.num; simp at this ⊢; omega, fun q hq => ?_⟩
  · rcases h.done v hv t ht with h1 | ⟨q, h1, h2⟩
    · rcases mem_op h1 with h1 | h1
      · exact .inl h1
      · right
        have h3 : (v : Int) = e.1 := by rw [← h1]
        have h4 : t = e.2 := by rw [← h1]
        refine ⟨p', by rw [h4]; exact hp, ?_⟩
        rw [updF_here]
        have : v = u := by omega
        subst this; simp
    · right
      refine ⟨q, h1, ?_⟩
      by_cases e : q = p'
      · subst e; rw [updF_here]; simp [h2]
      · rw [updF_else _ _ e]; exact h2
  · by_cases e1 : q = p'
    · subst e1
      rw [updF_here] at hx
      rcases List.mem_append.1 hx with hx | hx
      · exact h.ahd q hq x hx
      · rw [List.mem_singleton.1 hx, hbl]; exact ⟨hu, hun⟩
    · rw [updF_else _ _ e1] at hx; exact h.ahd q hq x hx
  · have h1 := h.few q hq
    have h2 := h.num
    by_cases e1 : q = p'
    · subst e1; rw [updF_here]; simp at h2 ⊢; omega
    · rw [updF_else _ _ e1]; omega
/-- One that is new. -/
theorem TvI.new {e : Int × Nat} (h : TvI nx n k bl par ah pl (op ++ [e]) g) (hnx : ∀ x, ∀ t ∈ nx x, t < n) (hlen : ∀ x, (nx x).length ≤ n) (hp : pl e.2 = -1) :
    k < n ∧ e.2 < n ∧ ∃ g', g' < g ∧ TvI nx n (k + 1) (updF bl k e.2) (updF par k e.1.toNat) (updF ah k (if e.1 < 0 then [] else [e.1.toNat])) (updF pl e.2 k) (op ++ (nx e.2).map fun t => ((k : Int), t)) g' := by
  obtain ⟨he2, he⟩ := h.opn e (by simp)
  have hk : k < n := by
    apply Classical.byContradiction
    intro hk
    -- all places would be taken
    have hkn : k = n := by have := h.kn; omega
    have hinj : ((List.range k).map bl).Nodup := by
      rw [List.nodup_iff_pairwise_ne, List.pairwise_map]
      refine List.Pairwise.imp_of_mem (fun {a b} ha hb hab hh => ?_) (List.nodup_range (n := k))
      have h1 := h.blk a (List.mem_range.1 ha)
      have h2 := h.blk b (List.mem_range.1 hb)
      rw [hh] at h1
      exact hab (by omega)
    have hni : e.2 ∉ (List.range k).map bl := fun hm => by
      obtain ⟨a, ha, hb⟩ := List.mem_map.1 hm
      have := h.blk a (List.mem_range.1 ha)
      rw [hb] at this; omega
    have := List.Nodup.length_le_of_subset (List.nodup_cons.2 ⟨hni, hinj⟩) (l₂ := List.range n) (fun x hx => by
      rcases List.mem_cons.1 hx with rfl | hx
      · exact List.mem_range.2 he2
      · obtain ⟨a, ha, rfl⟩ := List.mem_map.1 hx
        exact List.mem_range.2 (h.blk a (List.mem_range.1 ha)).1)
    simp at this; omega
  have hne : ∀ p, p < k → bl p ≠ e.2 := fun p hpk hh => by have := (h.blk p hpk).2; rw [hh] at this; omega
  have hcg : ∀ {a c : Nat}, AncP par a c → c < k → AncP (updF par k e.1.toNat) a c := fun ha hc => ha.congr hc (fun v h1 h2 => (h.parl v h1 h2).1) (fun v hv => updF_else _ _ (by omega))
  have hcg' : ∀ {a c : Nat}, AncP (updF par k e.1.toNat) a c → c < k → AncP par a c := fun ha hc => ha.congr hc (fun v h1 h2 => by rw [updF_else _ _ (by omega)]; exact (h.parl v h1 h2).1) (fun v hv => (updF_else _ _ (by omega)).symm)
  have hle : ∀ {a c : Nat}, AncP par a c → c < k → a ≤ c := by
    intro a c ha
    induction ha with
    | refl => intro _; omega
    | @step v h0 _ ih => intro hv; have := (h.parl v h0 hv).1; have := ih (by omega); omega
  -- the new one's tree
  have htop : 0 < k → e.1.toNat < k ∧ AncP par e.1.toNat (k - 1) ∧ e.2 ∈ nx (bl e.1.toNat) ∧ 0 ≤ e.1 := fun h0 => by
    rcases he with ⟨_, h2, _⟩ | ⟨u, hu, hue, hun, hua⟩
    · omega
    · have : e.1.toNat = u := by omega
      rw [this]; exact ⟨hu, hua, hun, by omega⟩
  have hsort : ∀ x ∈ op, x.1 ≤ e.1 := fun x hx => (List.pairwise_append.1 h.sort).2.2 x hx e (by simp)
  have hop0 : k = 0 → op = [] ∧ e = (-1, 0) := fun h0 => by
    have h1 := h.first.2 h0
    have h2 : op = [] := by
      have := congrArg List.length h1
      simp at this; exact this
    subst h2; simpa using h1
  -- whoever is above the last and not behind the top is above the new one
  have hanc : ∀ u, u < k → AncP par u (k - 1) → (u : Int) ≤ e.1 → AncP (updF par k e.1.toNat) u k := fun u hu ha hle' => by
    obtain ⟨h1, h2, h3, h4⟩ := htop (by omega)
    refine .step (by omega) ?_
    rw [updF_here]
    exact hcg (h.mid _ _ _ ha (by omega) (by omega) (by omega)) h1
  have hg := h.num
  have hgle : (n - k) * (n + 1) = (n - (k + 1)) * (n + 1) + (n + 1) := by
    rw [← Nat.succ_mul]; congr 1; omega
  have hl2 := hlen e.2
  refine ⟨hk, he2, (n - (k + 1)) * (n + 1) + (op.length + (nx e.2).length), by simp at hg; omega, ?_⟩
  refine ⟨fun b hb => ?_, fun p hpk => ?_, fun v h0 hv => ?_, fun u v huv hv hE => ?_, fun a b c ha hc hab hbc => ?_, fun x hx => ?_, ?_, fun u hu t ht => ?_, fun p hpk x hx => ?_, ⟨fun _ => ?_, fun h0 => by omega⟩, by omega, by simp, fun p hpk => ?_⟩
  · by_cases e1 : b = e.2
    · subst e1; right; exact ⟨k, by omega, updF_here _ _ _, updF_here _ _ _⟩
    · rw [updF_else _ _ e1]
      rcases h.plc b hb with h1 | ⟨p, h1, h2, h3⟩
      · exact .inl h1
      · exact .inr ⟨p, by omega, h2, by rw [updF_else _ _ (by omega)]; exact h3⟩
  · by_cases e1 : p = k
    · subst e1; rw [updF_here]; exact ⟨he2, updF_here _ _ _⟩
    · have hpk' : p < k := by omega
      rw [updF_else _ _ e1, updF_else _ _ (hne p hpk')]
      exact h.blk p hpk'
  · by_cases e1 : v = k
    · subst e1
      obtain ⟨h1, h2, h3, h4⟩ := htop h0
      rw [updF_here, updF_here, updF_else _ _ (by omega)]
      exact ⟨h1, h3⟩
    · have := h.parl v h0 (by omega)
      rw [updF_else _ _ e1, updF_else _ _ e1, updF_else _ _ (by omega)]
      exact this
  · by_cases e1 : v = k
    · subst e1
      rw [updF_here, updF_else _ _ (by omega)] at hE
      rcases h.done u huv _ hE with h1 | ⟨p, h1, h2⟩
      · rcases mem_op h1 with h1 | h1
        · obtain ⟨-, hq⟩ := h.opn ((u : Int), e.2) (List.mem_append_left _ h1)
          rcases hq with ⟨h2, _⟩ | ⟨u', hu', hue', _, hua'⟩
          · have h2 : (u : Int) = -1 := h2; omega
          · have hue' : (u : Int) = (u' : Int) := hue'
            have : u' = u := by omega
            subst this
            exact hanc _ huv hua' (hsort _ h1)
        · obtain ⟨h2, h3, -, -⟩ := htop (by omega)
          have h4 : (u : Int) = e.1 := by rw [← h1]
          have : e.1.toNat = u := by omega
          rw [this] at h3
          exact hanc u huv h3 (by omega)
      · omega
    · rw [updF_else _ _ e1, updF_else _ _ (by omega)] at hE
      exact hcg (h.up u v huv (by omega) hE) (by omega)
  · by_cases e1 : c = k
    · subst e1
      by_cases e2 : b = c
      · subst e2; exact ha
      · cases ha with
        | refl => omega
        | step h0 ha =>
          obtain ⟨h1, h2, h3, h4⟩ := htop (by omega)
          rw [updF_here] at ha
          have ha' := hcg' ha h1
          have ha2 := ha'.trans h2
          exact hcg (h.mid a b (c - 1) ha2 (by omega) hab (by omega)) (by omega)
    · exact hcg (h.mid a b c (hcg' ha (by omega)) (by omega) hab hbc) (by omega)
  · rcases List.mem_append.1 hx with hx | hx
    · obtain ⟨h1, h2⟩ := h.opn x (by simp [hx])
      refine ⟨h1, ?_⟩
      rcases h2 with ⟨_, h3, _⟩ | ⟨u, hu, hue, hun, hua⟩
      · rw [(hop0 h3).1] at hx; cases hx
      · right
        refine ⟨u, by omega, hue, by rw [updF_else _ _ (by omega)]; exact hun, ?_⟩
        have := hsort x hx
        exact hanc u hu hua (by omega)
    · obtain ⟨t, ht, rfl⟩ := List.mem_map.1 hx
      exact ⟨hnx _ t ht, .inr ⟨k, by omega, rfl, by rw [updF_here]; exact ht, .refl⟩⟩
  · rw [List.pairwise_append]
    refine ⟨(List.pairwise_append.1 h.sort).1, ?_, fun x hx y hy => ?_⟩
    · rw [List.pairwise_map]
      exact List.pairwise_of_forall (fun _ _ => Int.le_refl _)
    · obtain ⟨t, ht, rfl⟩ := List.mem_map.1 hy
      obtain ⟨-, h2⟩ := h.opn x (by simp [hx])
      rcases h2 with ⟨h3, _⟩ | ⟨u, hu, hue, _⟩
      · show x.1 ≤ (k : Int); omega
      · show x.1 ≤ (k : Int); omega
  · by_cases e1 : u = k
    · subst e1
      rw [updF_here] at ht
      exact .inl (List.mem_append_right _ (List.mem_map.2 ⟨t, ht, rfl⟩))
    · have hu' : u < k := by omega
      rw [updF_else _ _ e1] at ht
      rcases h.done u hu' t ht with h1 | ⟨p, h1, h2⟩
      · rcases mem_op h1 with h1 | h1
        · exact .inl (List.mem_append_left _ h1)
        · right
          have h4 : (u : Int) = e.1 := by rw [← h1]
          have h5 : t = e.2 := by rw [← h1]
          refine ⟨k, by rw [h5]; exact updF_here _ _ _, ?_⟩
          rw [updF_here, if_neg (by omega)]
          simp; omega
      · right
        have h3 : t ≠ e.2 := fun e => by rw [e] at h1; omega
        refine ⟨p, by rw [updF_else _ _ h3]; exact h1, ?_⟩
        have hpk : p < k := by
          obtain ⟨p', h4, h5, -⟩ := h.placed (hnx _ t ht) (by omega); omega
        rw [updF_else _ _ (by omega)]; exact h2
  · by_cases e1 : p = k
    · subst e1
      rw [updF_here] at hx
      split at hx
      · cases hx
      · rename_i hge
        have h0 : 0 < p := by
          rcases Nat.eq_zero_or_pos p with h0 | h0
          · rw [(hop0 h0).2] at hge; simp at hge
          · exact h0
        obtain ⟨h1, h2, h3, h4⟩ := htop h0
        rw [List.mem_singleton.1 hx, updF_here, updF_else _ _ (by omega)]
        exact ⟨by omega, h3⟩
    · rw [updF_else _ _ e1] at hx
      have := h.ahd p (by omega) x hx
      rw [updF_else _ _ e1, updF_else _ _ (by omega)]
      exact ⟨by omega, this.2⟩
  · by_cases e1 : k = 0
    · subst e1; rw [updF_here, (hop0 rfl).2]
    · rw [updF_else _ _ (by omega)]; exact h.first.1 (by omega)
  · have hkk : (n - k) * (n + 1) ≤ n * (n + 1) := Nat.mul_le_mul_right _ (by omega)
    by_cases e1 : p = k
    · subst e1
      rw [updF_here]
      have h9 : (if e.1 < 0 then [] else [e.1.toNat] : List Nat).length ≤ 1 := by split <;> simp
      simp at hg
      rcases Nat.eq_zero_or_pos p with h6 | h6
      · subst h6
        have := (hop0 rfl).1
        subst this
        simp at hg ⊢
        have h10 : n * (n + 1) = (n - 1) * (n + 1) + (n + 1) := by rw [← Nat.succ_mul]; congr 1; omega
        omega
      · have h7 := h.few 0 h6
        omega
    · rw [updF_else _ _ e1]
      have := h.few p (by omega)
      simp at hg; omega

/-- All gone through. -/
def EdgeP (nx : Nat → List Nat) (k : Nat) (bl : Nat → Nat) (u v : Nat) : Prop := u < k ∧ v < k ∧ bl v ∈ nx (bl u)
structure TvE (nx : Nat → List Nat) (n k : Nat) (bl par : Nat → Nat) (ah : Nat → List Nat) (pl : Nat → Int) : Prop where
  tree : TreeP k (EdgeP nx k bl) par
  plc : ∀ b, b < n → pl b = -1 ∨ ∃ p, p < k ∧ pl b = (p : Int) ∧ bl p = b
  blk : ∀ p, p < k → bl p < n ∧ pl (bl p) = (p : Int)
  ahd : ∀ p, p < k → ∀ u, u ∈ ah p ↔ EdgeP nx k bl u p
  reach : ∀ b, b < n → (Reach nx 0 b ↔ 0 ≤ pl b)
  first : 0 < k ∧ bl 0 = 0
  kn : k ≤ n
  few : ∀ p, p < k → (ah p).length ≤ n * (n + 1) + 1
theorem TvI.all (h : TvI nx n k bl par ah pl [] g) (hnx : ∀ x, ∀ t ∈ nx x, t < n) (hn : 0 < n) : TvE nx n k bl par ah pl := by
  have hk : 0 < k := by
    rcases Nat.eq_zero_or_pos k with h0 | h0
    · have := h.first.2 h0; cases this
    · exact h0
  have hdone : ∀ u, u < k → ∀ t ∈ nx (bl u), ∃ p : Nat, p < k ∧ pl t = (p : Int) ∧ bl p = t ∧ u ∈ ah p := fun u hu t ht => by
    rcases h.done u hu t ht with h1 | ⟨p, h1, h2⟩
    · cases h1
    · obtain ⟨p', h4, h5, h6⟩ := h.placed (hnx _ t ht) (by omega)
      obtain rfl : p' = p := by omega
      exact ⟨p', h4, h5, h6, h2⟩
  refine ⟨⟨fun u v h => ⟨h.1, h.2.1⟩, fun v h0 hv => (h.parl v h0 hv).1, fun v h0 hv => ⟨by have := (h.parl v h0 hv).1; omega, hv, (h.parl v h0 hv).2⟩, fun u v he huv => h.up u v huv he.2.1 he.2.2, fun a b c => h.mid a b c⟩, h.plc, h.blk, fun p hp u => ⟨fun hu => ?_, fun hu => ?_⟩, fun b hb => ⟨fun hr => ?_, fun hp => ?_⟩, ⟨hk, h.first.1 hk⟩, h.kn, fun p hp => by have := h.few p hp; omega⟩
  · have := h.ahd p hp u hu; exact ⟨this.1, hp, this.2⟩
  · obtain ⟨q, h1, h2, h3, h4⟩ := hdone u hu.1 _ hu.2.2
    have := (h.blk p hp).2
    obtain rfl : q = p := by omega
    exact h4
  · have key : ∀ x, Reach nx 0 x → ∃ p : Nat, p < k ∧ pl x = (p : Int) ∧ bl p = x := by
      intro x hx
      induction hx with
      | refl => exact ⟨0, hk, by have := (h.blk 0 hk).2; rw [h.first.1 hk] at this; simpa using this, h.first.1 hk⟩
      | @step x y _ hxy ih =>
        obtain ⟨p, h1, h2, h3⟩ := ih
        obtain ⟨q, h4, h5, h6, _⟩ := hdone p h1 y (by rw [h3]; exact hxy)
        exact ⟨q, h4, h5, h6⟩
    obtain ⟨p, -, h2, -⟩ := key b hr
    omega
  · obtain ⟨p, h1, -, h3⟩ := h.placed hb hp
    rw [← h3]
    clear h3
    induction p using Nat.strongRecOn with
    | _ p ih =>
      rcases Nat.eq_zero_or_pos p with h0 | h0
      · subst h0; rw [h.first.1 hk]; exact .refl
      · obtain ⟨h4, h5⟩ := h.parl p h0 h1
        exact .step (ih _ h4 (by omega)) h5
end Go.Proofs.Ytcjmhdneelmbhaa

/- Rows of a call's own. No condition. -/
namespace Go.Proofs.Ytcjmhdneelmbhaa
open Go.ChangeShapes Go.WideShapes Go.RowKit Go.Deep
set_option linter.unusedVariables false

theorem ownsRow_block {w w' : World} {base n size : Nat} {e : TypeId} {v : Value} {xs : List Value} (h : w.ownsRow base e size v n xs) (hb : ∀ g, v.ownBlock = some g → w'.heap[g]? = w.heap[g]?) : w'.ownsRow base e size v n xs := by
  obtain ⟨h1, h2⟩ := h
  refine ⟨h1, ?_⟩
  rcases h2 with h2 | ⟨g, c, cur, rfl, h3, h4, h5⟩
  · exact .inl h2
  · exact .inr ⟨g, c, cur, rfl, h3, (hb g rfl).trans h4, h5⟩
theorem own_sliceL {w : World} {K n size : Nat} {e : TypeId} {v : Value} {xs : List Value} (h : w.ownsRow K e size v n xs) : ∃ A c, v = .slice A n c := by
  rcases h.2 with ⟨rfl, h0⟩ | ⟨g, c, cur, rfl, -⟩
  · exact ⟨none, 0, by rw [h0]⟩
  · exact ⟨_, _, rfl⟩
theorem owns_mono_ {w : World} {base base' n size : Nat} {e : TypeId} {v : Value} {xs : List Value} (h : w.ownsRow base e size v n xs) (hk : base' ≤ base) : w.ownsRow base' e size v n xs := by
  obtain ⟨h1, h2 | ⟨g, cap, cur, rfl, hb, h3⟩⟩ := h
  · exact ⟨h1, .inl h2⟩
  · exact ⟨h1, .inr ⟨g, cap, cur, rfl, Nat.le_trans hk hb, h3⟩⟩
theorem row_madeQ {w : World} {H k : Nat} (h : w.heap[H]? = some (.cells (madeCells #[.int .i64 0] k) 3)) : w.rowIs H 3 k (fun _ => .int .i64 0) :=
  ⟨_, h, size_madeCells _ _, fun i hi => by simp [madeCells, hi, Nat.mod_one]⟩
end Go.Proofs.Ytcjmhdneelmbhaa

/- Rows that a call owns, apart from one another. No condition. -/
namespace Go.Proofs.Ytcjmhdneelmbhaa
open Go.ChangeShapes Go.WideShapes Go.RowKit Go.Deep
set_option linter.unusedVariables false

/-- Of all that was there only the block of v may have changed; the value v' lies in that of v, or is new. -/
structure GroD (w w' : World) (v v' : Value) : Prop where
  os : w'.os = w.os
  tape : w'.tape = w.tape
  output : w'.output = w.output
  size : w.heap.size ≤ w'.heap.size
  block : ∀ k, k < w.heap.size → v.ownBlock ≠ some k → w'.heap[k]? = w.heap[k]?
  own : ∀ g, v'.ownBlock = some g → v.ownBlock = some g ∨ w.heap.size ≤ g
/-- One append of one element, which first lies in a block of its own. -/
theorem groD_append {w w1 : World} {o : Obj} {v : Value} {g n cap : Nat} (hg : (w.alloc o).grownBy w1 v.ownBlock) (hl : v.ownBlock = some g ∨ g = w.heap.size + 1) : GroD w w1 v (.slice (some ⟨g, 0, none⟩) n cap) :=
  ⟨hg.os, hg.tape, hg.output, Nat.le_trans (by simp) hg.size, fun k hk hv => (hg.block k (by simp; omega) (fun e => hv e.symm)).trans (Below.heap_alloc _ _ _ hk),
   fun x hx => by
    obtain rfl : g = x := Option.some.inj hx
    rcases hl with h | h
    · exact .inl h
    · exact .inr (by omega)⟩
theorem groD_drew {w w1 : World} {v v' : Value} (h : GroD w.drew w1 v v') : GroD w w1 v v' := ⟨h.os, h.tape, h.output, h.size, h.block, h.own⟩
/-- A store into an element of the row itself. -/
theorem groD_store (w : World) {g n cap j : Nat} (u : Value) : GroD w (w.setCell ⟨g, j, none⟩ u) (.slice (some ⟨g, 0, none⟩) n cap) (.slice (some ⟨g, 0, none⟩) n cap) :=
  ⟨rfl, rfl, rfl, by simp, fun k hk hv => Below.heap_setCell _ _ _ _ (fun e => hv (by show some g = some k; exact congrArg some e.symm)), fun x hx => .inl hx⟩
theorem GroD.fr {w w' : World} {v v' : Value} (h : GroD w w' v v') {X : Nat → Prop} {a : World} (ha : FrX X a w) (hv : ∀ g, v.ownBlock = some g → X g ∨ a.heap.size ≤ g) : FrX X a w' :=
  ⟨h.os.trans ha.os, h.tape.trans ha.tape, h.output.trans ha.output, Nat.le_trans ha.size h.size, fun k hk hx => (h.block k (Nat.lt_of_lt_of_le hk ha.size) (fun e => by
    rcases hv k e with h2 | h2
    · exact hx h2
    · omega)).trans (ha.block k hk hx)⟩

structure RowD where
  ty : TypeId
  size : Nat
  len : Nat
  xs : List Value
def OwnD (w : World) (K : Nat) (v : Value) (t : RowD) : Prop := w.ownsRow K t.ty t.size v t.len t.xs
/-- So many rows, apart from one another. -/
structure PoolD (w : World) (K m : Nat) (U : Nat → Value) (T : Nat → RowD) : Prop where
  own : ∀ i, i < m → OwnD w K (U i) (T i)
  ap : ∀ i j, i < m → j < m → i ≠ j → (U i).ownBlock = none ∨ (U i).ownBlock ≠ (U j).ownBlock
theorem PoolD.congr {w : World} {K m : Nat} {U U' : Nat → Value} {T T' : Nat → RowD} (h : PoolD w K m U T) (hu : ∀ i, i < m → U i = U' i) (ht : ∀ i, i < m → T i = T' i) : PoolD w K m U' T' :=
  ⟨fun i hi => by rw [← hu i hi, ← ht i hi]; exact h.own i hi, fun i j hi hj hij => by rw [← hu i hi, ← hu j hj]; exact h.ap i j hi hj hij⟩
theorem PoolD.go {w w' : World} {K m : Nat} {U : Nat → Value} {T : Nat → RowD} (h : PoolD w K m U T) (hb : ∀ k, K ≤ k → k < w.heap.size → w'.heap[k]? = w.heap[k]?) : PoolD w' K m U T :=
  ⟨fun i hi => ownsRow_block (h.own i hi) fun g hg => hb g ((h.own i hi).lt g hg).1 ((h.own i hi).lt g hg).2, h.ap⟩
theorem PoolD.gro {w w' : World} {K m t : Nat} {U : Nat → Value} {T : Nat → RowD} {v' : Value} {r : RowD} (h : PoolD w K m U T) (ht : t < m) (hg : GroD w w' (U t) v') (ho : OwnD w' K v' r) : PoolD w' K m (updF U t v') (updF T t r) := by
  have key : ∀ i, i < m → i ≠ t → (U i).ownBlock = none ∨ (U i).ownBlock ≠ v'.ownBlock := fun i hi hit => by
    cases hb : (U i).ownBlock with
    | none => exact .inl rfl
    | some b =>
      right
      intro e
      rcases hg.own b e.symm with h1 | h1
      · rcases h.ap i t hi ht hit with h2 | h2
        · rw [h2] at hb; cases hb
        · exact h2 (hb.trans h1.symm)
      · have := ((h.own i hi).lt b hb).2; omega
  refine ⟨fun i hi => ?_, fun i j hi hj hij => ?_⟩
  · by_cases e : i = t
    · subst e; rw [updF_here, updF_here]; exact ho
    · rw [updF_else _ _ e, updF_else _ _ e]
      refine ownsRow_block (h.own i hi) fun g hgi => hg.block g ((h.own i hi).lt g hgi).2 fun e2 => ?_
      rcases h.ap i t hi ht e with h2 | h2
      · rw [h2] at hgi; cases hgi
      · exact h2 (hgi.trans e2.symm)
  · by_cases ei : i = t
    · subst ei
      rw [updF_here, updF_else _ _ (Ne.symm hij)]
      rcases key j hj (Ne.symm hij) with h1 | h1
      · cases hv : v'.ownBlock with
        | none => exact .inl rfl
        | some b => right; rw [h1]; intro e; cases e
      · exact .inr (Ne.symm h1)
    · rw [updF_else _ _ ei]
      by_cases ej : j = t
      · subst ej; rw [updF_here]; exact key i hi ei
      · rw [updF_else _ _ ej]; exact h.ap i j hi hj hij
/-- One row more, with nothing in it. -/
theorem PoolD.more {w : World} {K m : Nat} {U : Nat → Value} {T : Nat → RowD} (h : PoolD w K m U T) (ty : TypeId) (size : Nat) : PoolD w K (m + 1) (updF U m (.slice none 0 0)) (updF T m ⟨ty, size, 0, []⟩) := by
  refine ⟨fun i hi => ?_, fun i j hi hj hij => ?_⟩
  · by_cases e : i = m
    · subst e; rw [updF_here, updF_here]; exact World.ownsRow_nil _ _ _ _
    · rw [updF_else _ _ e, updF_else _ _ e]; exact h.own i (by omega)
  · by_cases ei : i = m
    · subst ei; rw [updF_here]; exact .inl rfl
    · rw [updF_else _ _ ei]
      by_cases ej : j = m
      · subst ej; rw [updF_here]
        cases hb : (U i).ownBlock with
        | none => exact .inl rfl
        | some b => right; intro e; cases e
      · rw [updF_else _ _ ej]; exact h.ap i j (by omega) (by omega) hij
/-- An element of a row. -/
theorem own_cellD {w : World} {K n : Nat} {e : TypeId} {v : Value} {xs : List Value} (h : w.ownsRow K e 1 v n xs) {i : Nat} (hi : i < n) : ∃ g cap u, v = .slice (some ⟨g, 0, none⟩) n cap ∧ xs[i]? = some u ∧ w.cell? ⟨g, i, none⟩ = some u ∧ w.frozen? ⟨g, i, none⟩ = false ∧ K ≤ g ∧ g < w.heap.size := by
  obtain ⟨g, cap, rfl⟩ : ∃ g cap, v = .slice (some ⟨g, 0, none⟩) n cap := by
    rcases h.2 with ⟨_, h2⟩ | ⟨g, cap, cur, h2, _⟩
    · omega
    · exact ⟨g, cap, h2⟩
  have hl := h.1
  have hx : i < xs.length := by omega
  refine ⟨g, cap, xs[i], rfl, List.getElem?_eq_getElem hx, ?_, h.frozenAt i, (h.lt g rfl).1, (h.lt g rfl).2⟩
  rw [h.cellAt i (by omega)]; exact List.getElem?_eq_getElem hx
theorem map_range_snoc {α : Type} (f : Nat → α) (k : Nat) (x : α) : ((List.range k).map f ++ [x]) = (List.range (k + 1)).map (updF f k x) := by
  rw [List.range_succ, List.map_append, List.map_singleton, updF_here]
  congr 1
  exact List.map_congr_left fun v hv => (updF_else _ _ (by have := List.mem_range.1 hv; omega)).symm
theorem map_range_set {α : Type} (f : Nat → α) (k j : Nat) (x : α) : ((List.range k).map f).set j x = (List.range k).map (updF f j x) := by
  apply List.ext_getElem?
  intro i
  by_cases hik : i < k
  · by_cases e : i = j
    · subst e; simp [hik, updF]
    · simp [hik, updF, e, Ne.symm e]
  · simp [hik]
theorem map_range_at {α : Type} (f : Nat → α) {k i : Nat} {x : α} (h : ((List.range k).map f)[i]? = some x) : x = f i ∧ i < k := by
  rw [List.getElem?_map] at h
  obtain ⟨q, hq, rfl⟩ := Option.map_eq_some_iff.1 h
  obtain ⟨hl, rfl⟩ := List.getElem?_eq_some_iff.1 hq
  simp at hl ⊢; exact hl
end Go.Proofs.Ytcjmhdneelmbhaa

/- Tables in memory; New, Len, mayBe, drawerOf, Find. -/
namespace Go.Proofs.Ytcjmhdneelmbhaa
open Go.ChangeShapes Go.WideShapes Go.RowKit Go.Deep
set_option linter.unusedVariables false

def cellsV : List VD → List Value
  | [] => []
  | x :: r => .int .i64 x.1 :: .int .i64 x.2 :: cellsV r
theorem cellsV_len (l : List VD) : (cellsV l).length = l.length * 2 := by
  induction l with
  | nil => rfl
  | cons x r ih => simp [cellsV, ih]; omega
theorem cellsV_append (a b : List VD) : cellsV (a ++ b) = cellsV a ++ cellsV b := by
  induction a with
  | nil => rfl
  | cons x r ih => simp [cellsV, ih]
theorem cellsV_at {l : List VD} {i : Nat} {x : VD} (h : l[i]? = some x) : (cellsV l)[i * 2]? = some (.int .i64 x.1) ∧ (cellsV l)[i * 2 + 1]? = some (.int .i64 x.2) := by
  induction l generalizing i with
  | nil => cases h
  | cons a r ih =>
    cases i with
    | zero =>
      obtain rfl := Option.some.inj h
      exact ⟨rfl, rfl⟩
    | succ i =>
      have := ih (i := i) (by simpa using h)
      rw [show (i + 1) * 2 = i * 2 + 1 + 1 by omega]
      simpa [cellsV] using this
theorem cellsV_one {l : List VD} {v : Value} (h : v ∈ cellsV l) : v.oneCell' = true := by
  induction l with
  | nil => cases h
  | cons a r ih =>
    simp only [cellsV, List.mem_cons] at h
    rcases h with rfl | rfl | h
    · rfl
    · rfl
    · exact ih h
def drV (l : List VD) : RowD := ⟨69, 2, l.length, cellsV l⟩

/-- Block b is a table: its drawers' row in g, its map in bm; drawer d lies in U d. -/
structure TabM (w : World) (K b g bm n : Nat) (U : Nat → Value) (ds : List (List VD)) : Prop where
  ok : TbOk n ds
  iv : ∀ (d : Nat) l x, ds[d]? = some l → x ∈ l → IV x
  box : w.heap[b]? = some (.cells #[.slice (some ⟨g, 0, none⟩) n n, .map (some bm)] 92 (0, 0))
  row : w.rowIs g 59 n U
  pool : PoolD w K n U (fun d => drV (ds.getD d []))
  map : MpV w bm (totV ds) n ds
  lo : K ≤ b ∧ K ≤ g ∧ K ≤ bm
  ne : b ≠ g ∧ b ≠ bm ∧ g ≠ bm
  ap : ∀ d y, d < n → (U d).ownBlock = some y → y ≠ b ∧ y ≠ g ∧ y ≠ bm
/-- The blocks of a table. -/
def TabX (b g bm n : Nat) (U : Nat → Value) (y : Nat) : Prop := y = b ∨ y = g ∨ y = bm ∨ ∃ d, d < n ∧ (U d).ownBlock = some y
section
variable {w w' : World} {K b g bm n : Nat} {U : Nat → Value} {ds : List (List VD)}
theorem TabM.lt (h : TabM w K b g bm n U ds) {y : Nat} (hy : TabX b g bm n U y) : K ≤ y ∧ y < w.heap.size := by
  have := h.lo
  rcases hy with rfl | rfl | rfl | ⟨d, hd, e⟩
  · exact ⟨this.1, (Array.getElem?_eq_some_iff.1 h.box).1⟩
  · exact ⟨this.2.1, h.row.lt⟩
  · exact ⟨this.2.2, h.map.lt⟩
  · exact (h.pool.own d hd).lt y e
/-- Another world in which its blocks are as they were. -/
theorem TabM.go (h : TabM w K b g bm n U ds) (hb : ∀ y, TabX b g bm n U y → w'.heap[y]? = w.heap[y]?) : TabM w' K b g bm n U ds :=
  ⟨h.ok, h.iv, (hb b (.inl rfl)).trans h.box, h.row.of_block (hb g (.inr (.inl rfl))),
    ⟨fun d hd => ownsRow_block (h.pool.own d hd) fun y hy => hb y (.inr (.inr (.inr ⟨d, hd, hy⟩))), h.pool.ap⟩, h.map.kept (hb bm (.inr (.inr (.inl rfl)))), h.lo, h.ne, h.ap⟩
theorem TabM.below (h : TabM w K b g bm n U ds) (hb : Below w.heap.size w w') : TabM w' K b g bm n U ds := h.go fun y hy => hb.block y (h.lt hy).2
theorem TabM.cells (h : TabM w K b g bm n U ds) : w.cell? ⟨b, 0, none⟩ = some (.slice (some ⟨g, 0, none⟩) n n) ∧ w.cell? ⟨b, 1, none⟩ = some (.map (some bm)) := by
  have hb := h.box
  simp [World.cell?, hb]
theorem TabM.in_iv (h : TabM w K b g bm n U ds) {x : VD} (hx : inV n ds x = true) : IV x := by
  unfold inV at hx
  exact h.iv _ _ x (h.ok.here x) (of_decide_eq_true hx)
theorem TabM.tot (h : TabM w K b g bm n U ds) : totV ds ≤ 4096 := h.ok.tot
end

theorem Try.infoRow59 : (Try.prog.info? 59).map (fun i => (i.zero, i.size, i.bytes)) = some (some (.slice none 0 0), 1, 24) := by kernel_rfl
theorem Try.infoVal69 : (Try.prog.info? 69).map (fun i => (i.zero, i.size, i.bytes)) = some (some (.agg #[.int .i64 0, .int .i64 0]), 2, 16) := by kernel_rfl

theorem new_no (s : Int) (w : World) (h : s < 1 ∨ 16 < s) : Calls Try.prog 16 #[.int .i64 s] w fun e w' => e = .returned (.tuple #[.pointer none, .iface 57 (.int .i64 1)]) ∧ w' = w := by
  by_cases h1 : s < 1
  · have d1 : decide (s < 1) = true := decide_eq_true h1
    clear h
    go_enter Try.func16, Try.ntmps16
    go_wp2_with fail
    go_ret2
    exact ⟨rfl, rfl⟩
  · have d1 : decide (s < 1) = false := decide_eq_false h1
    have h2 : 16 < s := by omega
    have d2 : decide (16 < s) = true := decide_eq_true h2
    clear h
    go_enter Try.func16, Try.ntmps16
    go_wp2_with fail
    go_ret2
    exact ⟨rfl, rfl⟩
theorem new_yes (n : Nat) (w : World) (h1 : 1 ≤ n) (h2 : n ≤ 16) : Calls Try.prog 16 #[.int .i64 n] w fun e w' =>
    e = .returned (.tuple #[.pointer (some ⟨w.heap.size + 2, 0, none⟩), .nilIface]) ∧ Below w.heap.size w w' ∧ TabM w' w.heap.size (w.heap.size + 2) w.heap.size (w.heap.size + 1) n (fun _ => .slice none 0 0) (List.replicate n []) := by
  have d1 : decide ((n : Int) < 1) = false := decide_eq_false (by omega)
  have d2 : decide (16 < (n : Int)) = false := decide_eq_false (by omega)
  have e1 : ¬ ((n : Int) < 1) := by omega
  have e2 : ¬ (16 < (n : Int)) := by omega
  have hmk := run_make_row' (P := Try.prog) 89 59 (.slice none 0 0) 24 Try.underlying89 Try.infoRow59 rfl .i64 .i64 n (by omega) (by omega)
  have hmm := @run_makeMap Try.prog
  go_enter Try.func16, Try.ntmps16
  go_wp2_with fail
  go_ret2
  refine ⟨rfl, ((((Below.refl _ _).alloc (Nat.le_refl _) _).alloc (by simp) _).alloc (by simp; omega) _), ?_⟩
  obtain ⟨wA, hwA⟩ : ∃ wA, wA = w.alloc (.cells (madeCells #[Value.slice none 0 0] n) 59) := ⟨_, rfl⟩
  have hzA : wA.heap.size = w.heap.size + 1 := by rw [hwA]; simp
  have hrA : wA.rowIs w.heap.size 59 n (fun _ => .slice none 0 0) := by rw [hwA]; exact World.rowIs_made _ _ _ _
  rw [← hwA]
  obtain ⟨wB, hwB⟩ : ∃ wB, wB = wA.alloc (.map #[] 0) := ⟨_, rfl⟩
  have hzB : wB.heap.size = w.heap.size + 2 := by rw [hwB]; simp [hzA]
  have hmB : MpV wB (w.heap.size + 1) 0 n (List.replicate n []) := by
    have := MpV.made wA h1
    rw [hzA] at this
    rw [hwB]; exact this
  have hrB : wB.rowIs w.heap.size 59 n (fun _ => .slice none 0 0) := by rw [hwB]; exact hrA.alloc _
  rw [← hwB]
  have ht : totV (List.replicate n ([] : List VD)) = 0 := by unfold totV; simp
  have hd : ∀ d, d < n → (List.replicate n ([] : List VD)).getD d [] = [] := fun d hd => by
    rw [List.getD_eq_getElem?_getD, List.getElem?_replicate, if_pos hd]; rfl
  have hbox : (wB.alloc (.cells #[Value.slice (some { block := w.heap.size, off := 0 }) n n, Value.map (some (w.heap.size + 1))] 92)).heap[w.heap.size + 2]? = some (.cells #[Value.slice (some { block := w.heap.size, off := 0 }) n n, Value.map (some (w.heap.size + 1))] 92 (0, 0)) := by
    rw [← hzB]; exact heap_alloc_new wB _
  refine ⟨TbOk.new h1 h2, fun d l x hl hx => ?_, hbox, hrB.alloc _, ⟨fun d hd' => ?_, fun i j _ _ _ => .inl rfl⟩, ?_, ⟨by omega, by omega, by omega⟩, ⟨by omega, by omega, by omega⟩, fun d y _ e => by cases e⟩
  · have := List.eq_of_mem_replicate (List.mem_of_getElem? hl)
    subst this; cases hx
  · rw [hd d hd']
    exact World.ownsRow_nil _ _ _ _
  · rw [ht]
    exact hmB.kept (Below.heap_alloc _ _ _ (by omega))
/-- The walk at 'len(m)'. -/
theorem wpList_len_mp {w : World} {ops : Array Oper} {rest : List Oper} {o : Oper} {a : Act} {Q : Exit → Act → World → Prop} {b c n : Nat} {ds : List (List VD)} (h : MpV w b c n ds) (hg : o.guard = none) (m : Operand)
    (hop : o.op = Op.call { callee := Callee.builtin Builtin.len, args := #[m], argTypes := #[90] }) (hm : a.eval m = .map (some b))
    (hK : wpList Try.prog ops Q rest (a.put o.dst (.int .i64 (totV ds : Int))) w) : wpList Try.prog ops Q (o :: rest) a w := by
  obtain ⟨D, h1, -, h2⟩ := h
  rw [← h2] at hK
  exact wpList_len_own w hg m _ hop _ _ Try.underlying90 _ b c D hm h1 hK
theorem wpList_look_mp {w : World} {ops : Array Oper} {rest : List Oper} {o : Oper} {a : Act} {Q : Exit → Act → World → Prop} {b c n : Nat} {ds : List (List VD)} (h : MpV w b c n ds) {x : VD} (hx : IV x) (hg : o.guard = none) (m k : Operand)
    (hop : o.op = Op.lookup 90 m k true) (hm : a.eval m = .map (some b)) (hk : a.eval k = .agg #[.int .i64 x.1, .int .i64 x.2])
    {c' : Int} {i : Bool} (hc : c' = if inV n ds x = true then (hV n ds x : Int) else 0) (hi : i = inV n ds x) (hK : wpList Try.prog ops Q rest (a.put o.dst (.tuple #[.int .i64 c', .bool i])) w) : wpList Try.prog ops Q (o :: rest) a w := by
  subst hc hi
  refine wpList_plain hg fun K' hK' => ?_
  unfold Oper.wp
  simp [execOp, hop, hm, hk, h.look hx, Result.andThen]
  exact hK' _ _ (by simpa using hK)

theorem len_any {w : World} {K b g bm n : Nat} {U : Nat → Value} {ds : List (List VD)} (h : TabM w K b g bm n U ds) :
    Calls Try.prog 17 #[.pointer (some ⟨b, 0, none⟩)] w fun e w' => e = .returned (.int .i64 (totV ds : Int)) ∧ w' = w := by
  have c1 := h.cells.2
  have HM := Lib.hid h.map
  clear h
  go_enter Try.func17, Try.ntmps17
  go_wp2_with (at_len; refine wpList_len_mp HM.out rfl _ rfl rfl ?_)
  go_ret
  exact ⟨rfl, rfl⟩
theorem find_any {w : World} {K b g bm n : Nat} {U : Nat → Value} {ds : List (List VD)} (h : TabM w K b g bm n U ds) (k v : Int) (hk : I64 k) (hv : I64 v) :
    Calls Try.prog 21 #[.pointer (some ⟨b, 0, none⟩), .int .i64 k, .int .i64 v] w fun e w' => e = .returned (.tuple #[.int .i64 (if inV n ds (k, v) = true then (hV n ds (k, v) : Int) else 0), .bool (inV n ds (k, v))]) ∧ w' = w := by
  have c1 := h.cells.2
  have HM := Lib.hid h.map
  obtain ⟨c', hc⟩ : ∃ c' : Int, c' = if inV n ds (k, v) = true then (hV n ds (k, v) : Int) else 0 := ⟨_, rfl⟩
  obtain ⟨i, hi⟩ : ∃ i : Bool, i = inV n ds (k, v) := ⟨_, rfl⟩
  rw [← hc, ← hi]
  have HC := Lib.hid hc
  have HI := Lib.hid hi
  clear h hc hi
  go_enter Try.func21, Try.ntmps21
  go_wp2_with (at_lookup; refine wpList_look_mp HM.out (x := (k, v)) ⟨hk, hv⟩ rfl _ _ rfl rfl rfl HC.out HI.out ?_)
  go_ret2
  exact ⟨rfl, rfl⟩
theorem mayBe_any (k v : Int) (w : World) : Calls Try.prog 34 #[.agg #[.int .i64 k, .int .i64 v]] w fun e w' => e = .returned (.bool (mayV (k, v))) ∧ Below w.heap.size w w' := by
  by_cases h1 : k = 1
  · subst h1
    have HE : Hid (mayV (1, v) = true) := Lib.hid (by unfold mayV; simp)
    go_enter Try.func34, Try.ntmps34
    go_wp2_with fail
    go_ret
    exact ⟨by rw [HE.out]; rfl, (Below.refl _ _).alloc (Nat.le_refl _) _⟩
  · have d1 : (k == (1 : Int)) = false := by simpa using h1
    by_cases h2 : k = 2
    · subst h2
      by_cases h3 : v = 0
      · subst h3
        have HE : Hid (mayV (2, 0) = true) := Lib.hid (by decide)
        go_enter Try.func34, Try.ntmps34
        go_wp2_with fail
        go_ret
        exact ⟨by rw [HE.out]; rfl, (Below.refl _ _).alloc (Nat.le_refl _) _⟩
      · have d3 : (v == (0 : Int)) = false := by simpa using h3
        have HE : Hid (mayV (2, v) = (v == 1)) := Lib.hid (by unfold mayV; rw [Bool.eq_iff_iff]; simp [h3])
        go_enter Try.func34, Try.ntmps34
        go_wp2_with fail
        go_ret
        exact ⟨by rw [HE.out]; rfl, (Below.refl _ _).alloc (Nat.le_refl _) _⟩
    · have d2 : (k == (2 : Int)) = false := by simpa using h2
      have HE : Hid (mayV (k, v) = false) := Lib.hid (by unfold mayV; simp [h1, h2])
      go_enter Try.func34, Try.ntmps34
      go_wp2_with fail
      go_ret
      exact ⟨by rw [HE.out]; rfl, (Below.refl _ _).alloc (Nat.le_refl _) _⟩
theorem drawerOf_any {w : World} {K b g bm n : Nat} {U : Nat → Value} {ds : List (List VD)} (h : TabM w K b g bm n U ds) (k v : Int) (hk : k = 1 ∨ k = 2) (hv : I64 v) :
    Calls Try.prog 35 #[.pointer (some ⟨b, 0, none⟩), .agg #[.int .i64 k, .int .i64 v]] w fun e w' => e = .returned (.int .i64 (drwV n (k, v) : Int)) ∧ Below w.heap.size w w' := by
  have c0 := h.cells.1
  have hn1 := h.ok.n1
  have hn2 := h.ok.n16
  have hbl := (h.lt (.inl rfl)).2
  clear h
  have hk1 : 1 ≤ k := by omega
  have hk2 : k ≤ 2 := by omega
  have HE : Hid ((drwV n (k, v) : Int) = (v % 4294967296 + k) % (n : Int)) := Lib.hid (by
    unfold drwV
    exact Int.toNat_of_nonneg (Int.emod_nonneg _ (by omega)))
  have hl1 := Int.emod_nonneg (v % 4294967296 + k) (b := (n : Int)) (by omega)
  have hl2 := Int.emod_lt_of_pos (v % 4294967296 + k) (b := (n : Int)) (by omega)
  have HW : Hid (wrap64 ((v % 4294967296 + k) % (n : Int)) = (v % 4294967296 + k) % (n : Int)) := Lib.hid (IntWalk.wrap64_in _ (by omega))
  clear hk hl1 hl2
  go_enter Try.func35, Try.ntmps35
  go_wp2_with fail
  go_ret
  exact ⟨by rw [HE.out]; exact congrArg (fun z => Ending.returned (.int .i64 z)) HW.out, (Below.refl _ _).alloc (Nat.le_refl _) _⟩
end Go.Proofs.Ytcjmhdneelmbhaa

/- The library's sort of values at this program: its texts are those that the library's contracts speak of. -/
namespace Go.Proofs.Ytcjmhdneelmbhaa
open Go.Shelf
def sfv_ren : Go.Shelf.Ren := ⟨fun | 6 => 32 | 15 => 47 | 14 => 46 | 28 => 71 | 29 => 72 | 20 => 63 | 21 => 64 | 22 => 65 | 23 => 66 | 24 => 67 | 25 => 68 | 26 => 69 | 27 => 70 | 46 => 85 | 47 => 86 | 48 => 87 | 49 => 88 | 50 => 89 | 57 => 99 | n => n, fun | 22 => 59 | 24 => 69 | 25 => 95 | 3 => 3 | 39 => 119 | 0 => 0 | 53 => 124 | 55 => 123 | 4 => 4 | 46 => 136 | 45 => 135 | 50 => 65 | 5 => 5 | 9 => 9 | 66 => 154 | 70 => 158 | 76 => 171 | 77 => 172 | n => n, fun | n => n⟩
theorem sfv : Go.Proofs.SlLaysF0.n6 Try.prog sfv_ren := {
  mixed := by kernel_rfl,
  f6 := ⟨Try.f32.name, by decide, Try.func32.trans (congrArg some (by kernel_rfl))⟩,
  f14 := ⟨Try.f46.name, by decide, Try.func46.trans (congrArg some (by kernel_rfl))⟩,
  f15 := Try.func47.trans (congrArg some (by kernel_rfl)),
  f20 := ⟨Try.f63.name, by decide, Try.func63.trans (congrArg some (by kernel_rfl))⟩,
  f21 := ⟨Try.f64.name, by decide, Try.func64.trans (congrArg some (by kernel_rfl))⟩,
  f22 := ⟨Try.f65.name, by decide, Try.func65.trans (congrArg some (by kernel_rfl))⟩,
  f23 := ⟨Try.f66.name, by decide, Try.func66.trans (congrArg some (by kernel_rfl))⟩,
  f24 := ⟨Try.f67.name, by decide, Try.func67.trans (congrArg some (by kernel_rfl))⟩,
  f25 := ⟨Try.f68.name, by decide, Try.func68.trans (congrArg some (by kernel_rfl))⟩,
  f26 := ⟨Try.f69.name, by decide, Try.func69.trans (congrArg some (by kernel_rfl))⟩,
  f27 := ⟨Try.f70.name, by decide, Try.func70.trans (congrArg some (by kernel_rfl))⟩,
  f28 := Try.func71.trans (congrArg some (by kernel_rfl)),
  f29 := Try.func72.trans (congrArg some (by kernel_rfl)),
  f46 := ⟨Try.f85.name, by decide, Try.func85.trans (congrArg some (by kernel_rfl))⟩,
  f47 := Try.func86.trans (congrArg some (by kernel_rfl)),
  f48 := Try.func87.trans (congrArg some (by kernel_rfl)),
  f49 := ⟨Try.f88.name, by decide, Try.func88.trans (congrArg some (by kernel_rfl))⟩,
  f50 := ⟨Try.f89.name, by decide, Try.func89.trans (congrArg some (by kernel_rfl))⟩,
  f57 := ⟨Try.f99.name, by decide, Try.func99.trans (congrArg some (by kernel_rfl))⟩,
  t0 := Try.underlying0,
  a0 := Try.isAgg0,
  z0 := Try.sizeOf0,
  v0 := Try.zeroValue0,
  t3 := Try.underlying3,
  a3 := Try.isAgg3,
  z3 := Try.sizeOf3,
  v3 := Try.zeroValue3,
  t4 := Try.underlying4,
  a4 := Try.isAgg4,
  z4 := Try.sizeOf4,
  v4 := Try.zeroValue4,
  t5 := Try.underlying5,
  a5 := Try.isAgg5,
  z5 := Try.sizeOf5,
  v5 := Try.zeroValue5,
  t9 := Try.underlying9,
  a9 := Try.isAgg9,
  z9 := Try.sizeOf9,
  v9 := Try.zeroValue9,
  t22 := Try.underlying59,
  a22 := Try.isAgg59,
  z22 := Try.sizeOf59,
  v22 := Try.zeroValue59,
  t25 := Try.underlying95,
  a25 := Try.isAgg95,
  z25 := Try.sizeOf95,
  v25 := Try.zeroValue95,
  t39 := Try.underlying119,
  a39 := Try.isAgg119,
  z39 := Try.sizeOf119,
  v39 := Try.zeroValue119,
  t45 := Try.underlying135,
  a45 := Try.isAgg135,
  z45 := Try.sizeOf135,
  v45 := Try.zeroValue135,
  t46 := Try.underlying136,
  a46 := Try.isAgg136,
  z46 := Try.sizeOf136,
  v46 := Try.zeroValue136,
  t50 := Try.underlying65,
  a50 := Try.isAgg65,
  z50 := Try.sizeOf65,
  v50 := Try.zeroValue65,
  t53 := Try.underlying124,
  a53 := Try.isAgg124,
  z53 := Try.sizeOf124,
  v53 := Try.zeroValue124,
  t55 := Try.underlying123,
  a55 := Try.isAgg123,
  z55 := Try.sizeOf123,
  v55 := Try.zeroValue123,
  t66 := Try.underlying154,
  a66 := Try.isAgg154,
  z66 := Try.sizeOf154,
  v66 := Try.zeroValue154,
  t70 := Try.underlying158,
  a70 := Try.isAgg158,
  z70 := Try.sizeOf158,
  v70 := Try.zeroValue158,
  t76 := Try.underlying171,
  a76 := Try.isAgg171,
  z76 := Try.sizeOf171,
  v76 := Try.zeroValue171,
  t77 := Try.underlying172,
  a77 := Try.isAgg172,
  z77 := Try.sizeOf172,
  v77 := Try.zeroValue172 }
end Go.Proofs.Ytcjmhdneelmbhaa
