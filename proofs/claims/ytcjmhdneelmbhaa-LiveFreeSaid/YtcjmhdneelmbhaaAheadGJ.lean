/- Which registers are wanted where: what the program reckons, as functions, and what is wanted, by the document's words: plain mathematics. -/
import Derived.Test.YtcjmhdneelmbhaaPrpJ
import Derived.Test.YtcjmhdneelmbhaaSpecJ
import Derived.Deep.OwnRows
import Derived.Deep.AppendLies
namespace Go.Proofs.Ytcjmhdneelmbhaa
open Go.RowKit
set_option linter.unusedVariables false

/-! ### What a block uses and makes -/
def mkI (ins : List InsD) (i r : Nat) : Bool := (ins.take i).any fun x => decide (x.dst = (r : Int))
def usA (ins : List InsD) (i : Nat) (args : List Int) : List Nat := (args.map Int.toNat).filter fun r => !mkI ins i r
def usK (ins : List InsD) : Nat → List Nat
  | 0 => []
  | i + 1 => usK ins i ++ (match ins[i]? with | some x => usA ins i x.args | none => [])
def usE (k : BlkD) : List Nat := if 0 ≤ k.term.arg ∧ mkI k.ins k.ins.length k.term.arg.toNat = false then [k.term.arg.toNat] else []
/-- The registers that a block uses. -/
def usB (k : BlkD) : List Nat := usK k.ins k.ins.length ++ usE k
def mkB (bs : List BlkD) (b r : Nat) : Bool := match bs[b]? with | some k => mkI k.ins k.ins.length r | none => false
def phI (ps : List PhiD) (i r : Nat) : Bool := (ps.take i).any fun p => decide (p.dst = (r : Int))
def phB (bs : List BlkD) (b r : Nat) : Bool := match bs[b]? with | some k => phI k.phis k.phis.length r | none => false
theorem mkI_succ {ins : List InsD} {i : Nat} {x : InsD} (h : ins[i]? = some x) (r : Nat) : mkI ins (i + 1) r = (mkI ins i r || decide (x.dst = (r : Int))) := by
  unfold mkI; rw [take_succ_of h, List.any_append]; simp
theorem phI_succ {ps : List PhiD} {i : Nat} {x : PhiD} (h : ps[i]? = some x) (r : Nat) : phI ps (i + 1) r = (phI ps i r || decide (x.dst = (r : Int))) := by
  unfold phI; rw [take_succ_of h, List.any_append]; simp
theorem mkB_at {bs : List BlkD} {b : Nat} {k : BlkD} (h : bs[b]? = some k) (r : Nat) : mkB bs b r = mkI k.ins k.ins.length r := by unfold mkB; rw [h]
theorem phB_at {bs : List BlkD} {b : Nat} {k : BlkD} (h : bs[b]? = some k) (r : Nat) : phB bs b r = phI k.phis k.phis.length r := by unfold phB; rw [h]
theorem usK_succ {ins : List InsD} {i : Nat} {x : InsD} (h : ins[i]? = some x) : usK ins (i + 1) = usK ins i ++ usA ins i x.args := by
  show usK ins i ++ _ = _; rw [h]

/-! ### The program's state -/
structure LvS where
  A : Nat → Nat → Bool
  E : Nat → Nat → Bool
  op : List (Nat × Nat)
def setB (M : Nat → Nat → Bool) (b r : Nat) : Nat → Nat → Bool := fun x y => if x = b ∧ y = r then true else M x y
theorem setB_here (M : Nat → Nat → Bool) (b r : Nat) : setB M b r b r = true := by unfold setB; rw [if_pos ⟨rfl, rfl⟩]
theorem setB_mono {M : Nat → Nat → Bool} {b r x y : Nat} (h : M x y = true) : setB M b r x y = true := by unfold setB; split; rfl; exact h
theorem setB_inv {M : Nat → Nat → Bool} {b r x y : Nat} (h : setB M b r x y = true) : (x = b ∧ y = r) ∨ M x y = true := by
  unfold setB at h; split at h
  · exact .inl ‹_›
  · exact .inr h
def atB (ph : Nat → Nat → Bool) (s : LvS) (b r : Nat) : LvS := if (s.A b r || ph b r) = true then s else ⟨setB s.A b r, s.E, s.op ++ [(b, r)]⟩
def atE (mk ph : Nat → Nat → Bool) (s : LvS) (b r : Nat) : LvS :=
  if s.E b r = true then s else if mk b r = true then ⟨s.A, setB s.E b r, s.op⟩ else atB ph ⟨s.A, setB s.E b r, s.op⟩ b r
/-- Wanted at ends, one behind the other. -/
def atEs (mk ph : Nat → Nat → Bool) (s : LvS) (l : List (Nat × Nat)) : LvS := l.foldl (fun s x => atE mk ph s x.1 x.2) s
def atBs (ph : Nat → Nat → Bool) (s : LvS) (b : Nat) (l : List Nat) : LvS := l.foldl (fun s r => atB ph s b r) s
theorem atEs_snoc (mk ph : Nat → Nat → Bool) (s : LvS) (l : List (Nat × Nat)) (b r : Nat) : atEs mk ph s (l ++ [(b, r)]) = atE mk ph (atEs mk ph s l) b r := by unfold atEs; rw [List.foldl_append]; rfl
theorem atBs_snoc (ph : Nat → Nat → Bool) (s : LvS) (b : Nat) (l : List Nat) (r : Nat) : atBs ph s b (l ++ [r]) = atB ph (atBs ph s b l) b r := by unfold atBs; rw [List.foldl_append]; rfl
/-- What a phi uses along the edges: block ahead and register. -/
def prP (ah : List Int) (args : List Int) : List (Nat × Nat) := (List.zip ah args).map fun x => (x.1.toNat, x.2.toNat)
def alE (mk ph : Nat → Nat → Bool) (ah : List Int) (s : LvS) (ps : List PhiD) : LvS := ps.foldl (fun s p => atEs mk ph s (prP ah p.args)) s
theorem alE_snoc (mk ph : Nat → Nat → Bool) (ah : List Int) (s : LvS) (ps : List PhiD) (p : PhiD) : alE mk ph ah s (ps ++ [p]) = atEs mk ph (alE mk ph ah s ps) (prP ah p.args) := by unfold alE; rw [List.foldl_append]; rfl
/-- When the first k blocks were gone through. -/
def stL (bs : List BlkD) : Nat → LvS
  | 0 => ⟨fun _ _ => false, fun _ _ => false, []⟩
  | k + 1 => match bs[k]? with
    | some x => alE (mkB bs) (phB bs) (aheadL bs k) (atBs (phB bs) (stL bs k) k (usB x)) x.phis
    | none => stL bs k
theorem stL_succ {bs : List BlkD} {k : Nat} {x : BlkD} (h : bs[k]? = some x) : stL bs (k + 1) = alE (mkB bs) (phB bs) (aheadL bs k) (atBs (phB bs) (stL bs k) k (usB x)) x.phis := by
  show (match bs[k]? with | some x => _ | none => _) = _
  rw [h]

/-! ### What is wanted -/
def AlongP (bs : List BlkD) (b t r : Nat) : Prop := ∃ x, bs[t]? = some x ∧ ∃ p ∈ x.phis, (b, r) ∈ prP (aheadL bs t) p.args
/-- Wanted at a block's end (true), or beginning (false). -/
inductive Want (bs : List BlkD) : Bool → Nat → Nat → Prop
  | use {b r : Nat} {x : BlkD} : bs[b]? = some x → r ∈ usB x → phB bs b r = false → Want bs false b r
  | thru {b r : Nat} : b < bs.length → Want bs true b r → mkB bs b r = false → phB bs b r = false → Want bs false b r
  | along {b t r : Nat} : AlongP bs b t r → Want bs true b r
  | back {b t r : Nat} : t < bs.length → (b : Int) ∈ aheadL bs t → Want bs false t r → Want bs true b r
/-- All that is held so is wanted, and what follows of it is held or still open; Q: what is not gone through as yet. -/
structure InvS (bs : List BlkD) (s : LvS) : Prop where
  sa : ∀ b r, s.A b r = true → Want bs false b r
  se : ∀ b r, s.E b r = true → Want bs true b r
  ce : ∀ b r, s.E b r = true → mkB bs b r = false → s.A b r = true ∨ phB bs b r = true
  op : ∀ x ∈ s.op, s.A x.1 x.2 = true
theorem InvS.start (bs : List BlkD) : InvS bs ⟨fun _ _ => false, fun _ _ => false, []⟩ := ⟨fun _ _ h => by simp at h, fun _ _ h => by simp at h, fun _ _ h => by simp at h, fun _ h => by simp at h⟩
/-- What is held stays held; what is new at a beginning is open. -/
structure Mor (s s' : LvS) : Prop where
  a : ∀ b r, s.A b r = true → s'.A b r = true
  e : ∀ b r, s.E b r = true → s'.E b r = true
  op : ∃ l, s'.op = s.op ++ l ∧ ∀ b r, s'.A b r = true → s.A b r = true ∨ (b, r) ∈ l
theorem Mor.refl (s : LvS) : Mor s s := ⟨fun _ _ h => h, fun _ _ h => h, [], by simp, fun _ _ h => .inl h⟩
theorem Mor.trans {s t u : LvS} (h : Mor s t) (k : Mor t u) : Mor s u := by
  obtain ⟨l, e, h1⟩ := h.op
  obtain ⟨m, e2, h2⟩ := k.op
  refine ⟨fun b r x => k.a b r (h.a b r x), fun b r x => k.e b r (h.e b r x), l ++ m, by rw [e2, e, List.append_assoc], fun b r x => ?_⟩
  rcases h2 b r x with h3 | h3
  · rcases h1 b r h3 with h4 | h4
    · exact .inl h4
    · exact .inr (by simp [h4])
  · exact .inr (by simp [h3])
theorem atB_mor (ph : Nat → Nat → Bool) (s : LvS) (b r : Nat) : Mor s (atB ph s b r) := by
  unfold atB
  split
  · exact .refl s
  · refine ⟨fun x y h => setB_mono h, fun _ _ h => h, [(b, r)], rfl, fun x y h => ?_⟩
    rcases setB_inv h with ⟨rfl, rfl⟩ | h
    · exact .inr (by simp)
    · exact .inl h
theorem atB_has (ph : Nat → Nat → Bool) (s : LvS) (b r : Nat) : (atB ph s b r).A b r = true ∨ ph b r = true := by
  unfold atB
  by_cases h : (s.A b r || ph b r) = true
  · rw [if_pos h]; rw [Bool.or_eq_true] at h; exact h
  · rw [if_neg h]; exact .inl (setB_here _ _ _)
theorem atE_mor (mk ph : Nat → Nat → Bool) (s : LvS) (b r : Nat) : Mor s (atE mk ph s b r) := by
  have h0 : Mor s ⟨s.A, setB s.E b r, s.op⟩ := ⟨fun _ _ h => h, fun _ _ h => setB_mono h, [], by simp, fun _ _ h => .inl h⟩
  unfold atE
  split
  · exact .refl s
  · split
    · exact h0
    · exact h0.trans (atB_mor ph _ b r)
theorem atE_has (mk ph : Nat → Nat → Bool) (s : LvS) (b r : Nat) : (atE mk ph s b r).E b r = true := by
  unfold atE
  by_cases h : s.E b r = true
  · rw [if_pos h]; exact h
  · rw [if_neg h]
    split
    · exact setB_here _ _ _
    · exact (atB_mor ph _ b r).e b r (setB_here _ _ _)
theorem atB_E (ph : Nat → Nat → Bool) (s : LvS) (b r : Nat) : (atB ph s b r).E = s.E := by unfold atB; split <;> rfl
theorem InvS.atB {bs : List BlkD} {s : LvS} (h : InvS bs s) {b r : Nat} (hw : phB bs b r = false → Want bs false b r) : InvS bs (atB (phB bs) s b r) := by
  unfold Go.Proofs.Ytcjmhdneelmbhaa.atB
  by_cases e : (s.A b r || phB bs b r) = true
  · rw [if_pos e]; exact h
  · rw [if_neg e]
    rw [Bool.or_eq_true] at e
    have hp : phB bs b r = false := by cases hp : phB bs b r; rfl; exact absurd (.inr hp) e
    refine ⟨fun x y k => ?_, h.se, fun x y k hm => ?_, fun x hx => ?_⟩
    · rcases setB_inv k with ⟨rfl, rfl⟩ | k
      · exact hw hp
      · exact h.sa x y k
    · rcases h.ce x y k hm with k2 | k2
      · exact .inl (setB_mono k2)
      · exact .inr k2
    · rcases List.mem_append.1 hx with hx | hx
      · exact setB_mono (h.op x hx)
      · rw [List.mem_singleton.1 hx]; exact setB_here _ _ _
theorem InvS.atE {bs : List BlkD} {s : LvS} (h : InvS bs s) {b r : Nat} (hb : b < bs.length) (hw : Want bs true b r) : InvS bs (atE (mkB bs) (phB bs) s b r) := by
  unfold Go.Proofs.Ytcjmhdneelmbhaa.atE
  by_cases e : s.E b r = true
  · rw [if_pos e]; exact h
  · rw [if_neg e]
    by_cases hm : mkB bs b r = true
    · rw [if_pos hm]
      refine ⟨h.sa, fun x y k => ?_, fun x y k hm2 => ?_, h.op⟩
      · rcases setB_inv k with ⟨rfl, rfl⟩ | k
        · exact hw
        · exact h.se x y k
      · rcases setB_inv k with ⟨rfl, rfl⟩ | k
        · rw [hm] at hm2; cases hm2
        · exact h.ce x y k hm2
    · rw [if_neg hm]
      have hmf : mkB bs b r = false := by cases hq : mkB bs b r; rfl; exact absurd hq hm
      have hhas := atB_has (phB bs) ⟨s.A, setB s.E b r, s.op⟩ b r
      have hmor := atB_mor (phB bs) ⟨s.A, setB s.E b r, s.op⟩ b r
      have hE := atB_E (phB bs) ⟨s.A, setB s.E b r, s.op⟩ b r
      -- the state between holds all but the new end's own consequence
      refine ⟨fun x y k => ?_, fun x y k => ?_, fun x y k hm2 => ?_, fun x hx => ?_⟩
      · unfold Go.Proofs.Ytcjmhdneelmbhaa.atB at k
        by_cases e2 : (s.A b r || phB bs b r) = true
        · rw [if_pos e2] at k; exact h.sa x y k
        · rw [if_neg e2] at k
          rw [Bool.or_eq_true] at e2
          have hp : phB bs b r = false := by cases hp : phB bs b r; rfl; exact absurd (.inr hp) e2
          rcases setB_inv k with ⟨rfl, rfl⟩ | k
          · exact .thru hb hw hmf hp
          · exact h.sa x y k
      · rw [hE] at k
        rcases setB_inv k with ⟨rfl, rfl⟩ | k
        · exact hw
        · exact h.se x y k
      · rw [hE] at k
        rcases setB_inv k with ⟨rfl, rfl⟩ | k
        · exact hhas
        · rcases h.ce x y k hm2 with k2 | k2
          · exact .inl (hmor.a x y k2)
          · exact .inr k2
      · obtain ⟨l, e3, -⟩ := hmor.op
        unfold Go.Proofs.Ytcjmhdneelmbhaa.atB at hx ⊢
        by_cases e2 : (s.A b r || phB bs b r) = true
        · rw [if_pos e2] at hx ⊢; exact h.op x hx
        · rw [if_neg e2] at hx ⊢
          rcases List.mem_append.1 hx with hx | hx
          · exact setB_mono (h.op x hx)
          · rw [List.mem_singleton.1 hx]; exact setB_here _ _ _
theorem atEs_mor (mk ph : Nat → Nat → Bool) (l : List (Nat × Nat)) : ∀ s, Mor s (atEs mk ph s l) := by
  induction l with
  | nil => intro s; exact .refl s
  | cons x l ih => intro s; exact (atE_mor mk ph s x.1 x.2).trans (ih _)
theorem atEs_has (mk ph : Nat → Nat → Bool) (l : List (Nat × Nat)) : ∀ s, ∀ x ∈ l, (atEs mk ph s l).E x.1 x.2 = true := by
  induction l with
  | nil => intro s x hx; cases hx
  | cons y l ih =>
    intro s x hx
    rcases List.mem_cons.1 hx with rfl | hx
    · exact (atEs_mor mk ph l _).e _ _ (atE_has mk ph s x.1 x.2)
    · exact ih _ x hx
theorem InvS.atEs {bs : List BlkD} (l : List (Nat × Nat)) : ∀ {s : LvS}, InvS bs s → (∀ x ∈ l, x.1 < bs.length ∧ Want bs true x.1 x.2) → InvS bs (atEs (mkB bs) (phB bs) s l) := by
  induction l with
  | nil => intro s h _; exact h
  | cons y l ih => intro s h hw; exact ih (h.atE (hw y (by simp)).1 (hw y (by simp)).2) (fun x hx => hw x (by simp [hx]))
theorem atBs_mor (ph : Nat → Nat → Bool) (b : Nat) (l : List Nat) : ∀ s, Mor s (atBs ph s b l) := by
  induction l with
  | nil => intro s; exact .refl s
  | cons x l ih => intro s; exact (atB_mor ph s b x).trans (ih _)
theorem atBs_has (ph : Nat → Nat → Bool) (b : Nat) (l : List Nat) : ∀ s, ∀ r ∈ l, (atBs ph s b l).A b r = true ∨ ph b r = true := by
  induction l with
  | nil => intro s x hx; cases hx
  | cons y l ih =>
    intro s x hx
    rcases List.mem_cons.1 hx with rfl | hx
    · rcases atB_has ph s b x with h | h
      · exact .inl ((atBs_mor ph b l _).a _ _ h)
      · exact .inr h
    · exact ih _ x hx
theorem InvS.atBs {bs : List BlkD} {b : Nat} (l : List Nat) : ∀ {s : LvS}, InvS bs s → (∀ r ∈ l, phB bs b r = false → Want bs false b r) → InvS bs (atBs (phB bs) s b l) := by
  induction l with
  | nil => intro s h _; exact h
  | cons y l ih => intro s h hw; exact ih (h.atB (hw y (by simp))) (fun x hx => hw x (by simp [hx]))
theorem alE_mor (mk ph : Nat → Nat → Bool) (ah : List Int) (ps : List PhiD) : ∀ s, Mor s (alE mk ph ah s ps) := by
  induction ps with
  | nil => intro s; exact .refl s
  | cons x l ih => intro s; exact (atEs_mor mk ph _ s).trans (ih _)
theorem alE_has (mk ph : Nat → Nat → Bool) (ah : List Int) (ps : List PhiD) : ∀ s, ∀ p ∈ ps, ∀ x ∈ prP ah p.args, (alE mk ph ah s ps).E x.1 x.2 = true := by
  induction ps with
  | nil => intro s x hx; cases hx
  | cons y l ih =>
    intro s p hp x hx
    rcases List.mem_cons.1 hp with rfl | hp
    · exact (alE_mor mk ph ah l _).e _ _ (atEs_has mk ph _ s x hx)
    · exact ih _ p hp x hx
theorem InvS.alE {bs : List BlkD} {ah : List Int} (ps : List PhiD) : ∀ {s : LvS}, InvS bs s → (∀ p ∈ ps, ∀ x ∈ prP ah p.args, x.1 < bs.length ∧ Want bs true x.1 x.2) → InvS bs (alE (mkB bs) (phB bs) ah s ps) := by
  induction ps with
  | nil => intro s h _; exact h
  | cons y l ih => intro s h hw; exact ih (h.atEs _ (hw y (by simp))) (fun p hp => hw p (by simp [hp]))
theorem prP_lt {bs : List BlkD} {t : Nat} {args : List Int} : ∀ x ∈ prP (aheadL bs t) args, x.1 < bs.length ∧ (x.1 : Int) ∈ aheadL bs t := by
  intro x hx
  unfold prP at hx
  obtain ⟨y, hy, rfl⟩ := List.mem_map.1 hx
  have h1 := (List.of_mem_zip hy).1
  have h2 := aheadK_mem bs 0 t y.1 h1
  have e : ((y.1.toNat : Nat) : Int) = y.1 := by simp at h2; omega
  refine ⟨by simp at h2; omega, ?_⟩
  show ((y.1.toNat : Nat) : Int) ∈ _
  rw [e]; exact h1
theorem stL_mor (bs : List BlkD) (k : Nat) : Mor (stL bs k) (stL bs (k + 1)) := by
  cases h : bs[k]? with
  | none =>
    have : stL bs (k + 1) = stL bs k := by show (match bs[k]? with | some x => _ | none => _) = _; rw [h]
    rw [this]; exact .refl _
  | some x => rw [stL_succ h]; exact (atBs_mor _ _ _ _).trans (alE_mor _ _ _ _ _)
theorem stL_inv (bs : List BlkD) (k : Nat) : InvS bs (stL bs k) := by
  induction k with
  | zero => exact InvS.start bs
  | succ k ih =>
    cases h : bs[k]? with
    | none =>
      have : stL bs (k + 1) = stL bs k := by show (match bs[k]? with | some x => _ | none => _) = _; rw [h]
      rw [this]; exact ih
    | some x =>
      rw [stL_succ h]
      refine (ih.atBs _ (fun r hr hp => .use h hr hp)).alE _ (fun p hp y hy => ⟨(prP_lt y hy).1, .along ⟨x, h, p, hp, hy⟩⟩)
theorem stL_le {bs : List BlkD} {k j : Nat} (h : k ≤ j) : Mor (stL bs k) (stL bs j) := by
  induction j with
  | zero =>
    obtain rfl : k = 0 := by omega
    exact .refl _
  | succ j ih =>
    by_cases e : k = j + 1
    · subst e; exact .refl _
    · exact (ih (by omega)).trans (stL_mor bs j)
/-- All that is used or wanted along edges is held, when all blocks were gone through. -/
structure GotS (bs : List BlkD) (s : LvS) : Prop where
  inv : InvS bs s
  use : ∀ b r x, bs[b]? = some x → r ∈ usB x → s.A b r = true ∨ phB bs b r = true
  along : ∀ b t r, AlongP bs b t r → s.E b r = true
theorem GotS.more {bs : List BlkD} {s s' : LvS} (h : GotS bs s) (m : Mor s s') (i : InvS bs s') : GotS bs s' :=
  ⟨i, fun b r x h1 h2 => (h.use b r x h1 h2).imp (m.a b r) id, fun b t r h1 => m.e b r (h.along b t r h1)⟩
theorem stL_got (bs : List BlkD) : GotS bs (stL bs bs.length) := by
  refine ⟨stL_inv bs _, fun b r x hx hr => ?_, fun b t r ha => ?_⟩
  · have hb := (List.getElem?_eq_some_iff.1 hx).1
    have m := stL_le (bs := bs) (k := b + 1) (j := bs.length) (by omega)
    rw [stL_succ hx] at m
    rcases atBs_has (phB bs) b (usB x) (stL bs b) r hr with h | h
    · exact .inl (m.a b r ((alE_mor _ _ _ _ _).a b r h))
    · exact .inr h
  · obtain ⟨x, hx, p, hp, hm⟩ := ha
    have ht := (List.getElem?_eq_some_iff.1 hx).1
    have m := stL_le (bs := bs) (k := t + 1) (j := bs.length) (by omega)
    rw [stL_succ hx] at m
    exact m.e b r (alE_has _ _ _ _ _ p hp (b, r) hm)
/-- What is wanted at a beginning is told to all blocks ahead, but for what is open, and of one the blocks behind the first j. -/
def Tells (bs : List BlkD) (s : LvS) (op : List (Nat × Nat)) (q : Nat × Nat) (j : Nat) : Prop :=
  ∀ b r, s.A b r = true → (b, r) ∈ op ∨ ((b, r) = q ∧ ∀ i x, i < j → (aheadL bs b)[i]? = some x → s.E x.toNat r = true) ∨ ∀ x ∈ aheadL bs b, s.E x.toNat r = true
def ToldS (bs : List BlkD) (s : LvS) : Prop := ∀ b r, s.A b r = true → (b, r) ∈ s.op ∨ ∀ x ∈ aheadL bs b, s.E x.toNat r = true
theorem ToldS.more {bs : List BlkD} {s s' : LvS} (h : ToldS bs s) (m : Mor s s') : ToldS bs s' := fun b r ha => by
  obtain ⟨l, e, h1⟩ := m.op
  rcases h1 b r ha with h2 | h2
  · rcases h b r h2 with h3 | h3
    · exact .inl (by rw [e]; simp [h3])
    · exact .inr fun x hx => m.e _ _ (h3 x hx)
  · exact .inl (by rw [e]; simp [h2])
theorem ToldS.start (bs : List BlkD) : ToldS bs ⟨fun _ _ => false, fun _ _ => false, []⟩ := fun b r h => by simp at h
theorem stL_told (bs : List BlkD) (k : Nat) : ToldS bs (stL bs k) := (ToldS.start bs).more (stL_le (bs := bs) (k := 0) (j := k) (by omega))
/-- In the midst of a place taken back: what is open is s.op; q was taken. -/
structure MidS (bs : List BlkD) (q : Nat × Nat) (j : Nat) (s : LvS) : Prop where
  got : GotS bs s
  hq : s.A q.1 q.2 = true
  told : ∀ b r, s.A b r = true → (b, r) ∈ s.op ∨ ((b, r) = q ∧ ∀ i x, i < j → (aheadL bs b)[i]? = some x → s.E x.toNat r = true) ∨ ∀ x ∈ aheadL bs b, s.E x.toNat r = true
theorem MidS.start {bs : List BlkD} {s : LvS} {l : List (Nat × Nat)} {q : Nat × Nat} (g : GotS bs s) (t : ToldS bs s) (e : s.op = l ++ [q]) : MidS bs q 0 ⟨s.A, s.E, l⟩ := by
  have hq : s.A q.1 q.2 = true := g.inv.op q (by rw [e]; simp)
  refine ⟨⟨⟨g.inv.sa, g.inv.se, g.inv.ce, fun x hx => g.inv.op x (by rw [e]; simp [hx])⟩, g.use, g.along⟩, hq, fun b r ha => ?_⟩
  rcases t b r ha with h | h
  · rw [e] at h
    rcases List.mem_append.1 h with h | h
    · exact .inl h
    · exact .inr (.inl ⟨List.mem_singleton.1 h, fun i x hi => by omega⟩)
  · exact .inr (.inr h)
theorem MidS.step {bs : List BlkD} {q : Nat × Nat} {j : Nat} {s : LvS} {x : Int} (h : MidS bs q j s) (hq : q.1 < bs.length) (hx : (aheadL bs q.1)[j]? = some x) : MidS bs q (j + 1) (atE (mkB bs) (phB bs) s x.toNat q.2) := by
  have hm := List.mem_of_getElem? hx
  have h2 := aheadK_mem bs 0 q.1 x hm
  have hxn : x.toNat < bs.length := by simp at h2; omega
  have hxe : ((x.toNat : Nat) : Int) = x := by simp at h2; omega
  have mor := atE_mor (mkB bs) (phB bs) s x.toNat q.2
  have hw : Want bs true x.toNat q.2 := .back hq (by rw [hxe]; exact hm) (h.got.inv.sa _ _ h.hq)
  refine ⟨h.got.more mor (h.got.inv.atE hxn hw), mor.a _ _ h.hq, fun b r ha => ?_⟩
  obtain ⟨l, e, h1⟩ := mor.op
  rcases h1 b r ha with h3 | h3
  · rcases h.told b r h3 with h4 | ⟨h4, h5⟩ | h4
    · exact .inl (by rw [e]; simp [h4])
    · refine .inr (.inl ⟨h4, fun i y hi hy => ?_⟩)
      by_cases ei : i = j
      · subst ei
        have e1 : b = q.1 := by rw [← h4]
        have e2 : r = q.2 := by rw [← h4]
        subst e1 e2
        rw [hx] at hy; cases hy
        exact atE_has _ _ _ _ _
      · exact mor.e _ _ (h5 i y (by omega) hy)
    · exact .inr (.inr fun y hy => mor.e _ _ (h4 y hy))
  · exact .inl (by rw [e]; simp [h3])
theorem MidS.done {bs : List BlkD} {q : Nat × Nat} {j : Nat} {s : LvS} (h : MidS bs q j s) (hj : (aheadL bs q.1).length ≤ j) : GotS bs s ∧ ToldS bs s := by
  refine ⟨h.got, fun b r ha => ?_⟩
  rcases h.told b r ha with h4 | ⟨h4, h5⟩ | h4
  · exact .inl h4
  · refine .inr fun x hx => ?_
    obtain ⟨i, hi⟩ := List.mem_iff_getElem?.1 hx
    have e1 : b = q.1 := by rw [← h4]
    refine h5 i x ?_ hi
    have := (List.getElem?_eq_some_iff.1 hi).1
    rw [e1] at this; omega
  · exact .inr h4
/-- When nothing is open: all that is wanted is held. -/
theorem want_held {bs : List BlkD} {s : LvS} (g : GotS bs s) (t : ToldS bs s) (e : s.op = []) {z : Bool} {b r : Nat} (h : Want bs z b r) : (z = false → s.A b r = true) ∧ (z = true → s.E b r = true) := by
  induction h with
  | use hx hr hp =>
    refine ⟨fun _ => ?_, fun h => Bool.noConfusion h⟩
    rcases g.use _ _ _ hx hr with h | h
    · exact h
    · rw [hp] at h; cases h
  | thru hb _ hm hp ih =>
    refine ⟨fun _ => ?_, fun h => Bool.noConfusion h⟩
    rcases g.inv.ce _ _ (ih.2 rfl) hm with h | h
    · exact h
    · rw [hp] at h; cases h
  | along ha => exact ⟨fun h => Bool.noConfusion h, fun _ => g.along _ _ _ ha⟩
  | back ht hb _ ih =>
    refine ⟨fun h => Bool.noConfusion h, fun _ => ?_⟩
    rcases t _ _ (ih.1 rfl) with h | h
    · rw [e] at h; cases h
    · have := h _ hb; simpa using this
theorem want_A {bs : List BlkD} {s : LvS} (g : GotS bs s) (t : ToldS bs s) (e : s.op = []) (b r : Nat) : s.A b r = true ↔ Want bs false b r := ⟨g.inv.sa b r, fun h => (want_held g t e h).1 rfl⟩
theorem want_E {bs : List BlkD} {s : LvS} (g : GotS bs s) (t : ToldS bs s) (e : s.op = []) (b r : Nat) : s.E b r = true ↔ Want bs true b r := ⟨g.inv.se b r, fun h => (want_held g t e h).2 rfl⟩
end Go.Proofs.Ytcjmhdneelmbhaa

/- A row of rows; what the loops over a function's blocks come to. No condition. -/
namespace Go.Proofs.Ytcjmhdneelmbhaa
open Go.ChangeShapes Go.WideShapes Go.RowKit Go.Deep
set_option linter.unusedVariables false

/-- Is it the number of one of so many? -/
def isAtB (a : Int) (n : Int) : Bool := decide (0 ≤ a ∧ a < n)
/-- Is a list's last number n? -/
def endsB (l : List Int) (n : Int) : Bool := l.getLast? == some n

/-! ### The row of rows -/
structure Grid (w : World) (G n : Nat) (V : Nat → Value) (L : Nat → List Int) : Prop where
  row : w.rowIs G 34 n V
  own : ∀ i, i < n → w.ownsRow (G + 1) 3 1 (V i) (L i).length ((L i).map (Value.int .i64))
  apart : ∀ i j, i < n → j < n → i ≠ j → (V i).ownBlock = none ∨ (V i).ownBlock ≠ (V j).ownBlock

theorem Grid.congr {w : World} {G n : Nat} {V : Nat → Value} {L L' : Nat → List Int} (h : Grid w G n V L) (e : ∀ i, i < n → L i = L' i) : Grid w G n V L' :=
  ⟨h.row, fun i hi => by rw [← e i hi]; exact h.own i hi, h.apart⟩
theorem Grid.alloc {w : World} {G n : Nat} {V : Nat → Value} {L : Nat → List Int} (h : Grid w G n V L) (o : Obj) : Grid (w.alloc o) G n V L :=
  ⟨h.row.alloc o, fun i hi => (h.own i hi).alloc o, h.apart⟩
theorem Grid.drewN {w : World} {G n : Nat} {V : Nat → Value} {L : Nat → List Int} (h : Grid w G n V L) (k : Nat) : Grid (w.drewN k) G n V L := ⟨h.row, h.own, h.apart⟩
theorem Grid.made (w : World) (G n : Nat) (hG : G = w.heap.size) : Grid (w.alloc (.cells (madeCells #[.slice none 0 0] n) 34)) G n (fun _ => .slice none 0 0) (fun _ => []) := by
  subst hG
  exact ⟨World.rowIs_made w _ n _, fun i _ => World.ownsRow_nil _ _ _ _, fun i j _ _ _ => .inl rfl⟩
theorem Grid.push {w w3 : World} {G n : Nat} {V : Nat → Value} {L : Nat → List Int} (h : Grid w G n V L) {t : Nat} (ht : t < n) {g cap : Nat} {x : Int}
    (hown : w3.ownsRow (G + 1) 3 1 (.slice (some ⟨g, 0, none⟩) ((L t).length + 1) cap) ((L t).length + 1) ((L t).map (Value.int .i64) ++ [.int .i64 x]))
    (hgrow : w.grownBy w3 (V t).ownBlock) (hloc : (V t).ownBlock = some g ∨ g = w.heap.size) :
    Grid (w3.setCell ⟨G, t, none⟩ (.slice (some ⟨g, 0, none⟩) ((L t).length + 1) cap)) G n (fun j => if j = t then .slice (some ⟨g, 0, none⟩) ((L t).length + 1) cap else V j) (fun j => if j = t then L t ++ [x] else L j) := by
  have hblk : w3.heap[G]? = w.heap[G]? := hgrow.block G h.row.lt (fun e => by have := ((h.own t ht).lt G e.symm).1; omega)
  have hrow3 : w3.rowIs G 34 n V := h.row.of_block hblk
  refine ⟨hrow3.set t _, fun j hj => ?_, fun i j hi hj hij => ?_⟩
  · by_cases e : j = t
    · subst e
      simp only [if_true]
      have := ownsRow_setCell_below hown (a := ⟨G, j, none⟩) (by show G < G + 1; omega) (.slice (some ⟨g, 0, none⟩) ((L j).length + 1) cap)
      simpa using this
    · simp only [if_neg e]
      exact ownsRow_setCell_below ((h.own j hj).kept hgrow (h.apart j t hj ht e)) (a := ⟨G, t, none⟩) (by show G < G + 1; omega) _
  · have key : ∀ j, j < n → j ≠ t → (V j).ownBlock = none ∨ (V j).ownBlock ≠ some g := fun j hj hjt => by
      rcases hloc with e | e
      · rw [← e]; exact h.apart j t hj ht hjt
      · cases hb : (V j).ownBlock with
        | none => exact .inl rfl
        | some b => right; intro e2; have := ((h.own j hj).lt b hb).2; simp at e2; omega
    by_cases ei : i = t
    · subst ei
      simp only [if_true, if_neg (Ne.symm hij)]
      right
      rcases key j hj (Ne.symm hij) with e | e
      · rw [e]; simp [Value.ownBlock]
      · intro e2; exact e (e2.symm.trans rfl)
    · by_cases ej : j = t
      · subst ej
        simp only [if_true, if_neg ei]
        exact key i hi ei
      · simp only [if_neg ei, if_neg ej]
        exact h.apart i j hi hj hij

theorem Try.info34 : (Try.prog.info? 34).map (fun i => (i.zero, i.size, i.bytes)) = some (some (.slice none 0 0), 1, 24) := by kernel_rfl

/-! ### What the loops come to -/
def LJ (bs : List BlkD) (k : Nat) (t : List Int) (i : Nat) : List Int := aheadL (bs.take k) i ++ (if hasTo i t then [(k : Int)] else [])
theorem LJ_nil (bs : List BlkD) (k i : Nat) : LJ bs k [] i = aheadL (bs.take k) i := by simp [LJ, hasTo]
theorem LJ_all {bs : List BlkD} {k : Nat} {x : BlkD} (i : Nat) (h : bs[k]? = some x) : LJ bs k x.term.to i = aheadL (bs.take (k + 1)) i := (aheadL_step i h).symm
theorem LJ_ends (bs : List BlkD) (k : Nat) (t : List Int) (i : Nat) : endsB (LJ bs k t i) k = hasTo i t := by
  unfold LJ endsB
  cases h : hasTo i t
  · simp only [if_neg Bool.false_ne_true, List.append_nil]
    rw [beq_eq_false_iff_ne]
    intro e
    have hm := List.mem_of_getLast? e
    have := aheadK_mem (bs.take k) 0 i _ hm
    simp at this; omega
  · simp
theorem LJ_len (bs : List BlkD) (k : Nat) (t : List Int) (i : Nat) : (LJ bs k t i).length ≤ bs.length + 1 := by
  unfold LJ
  have := aheadK_len (bs.take k) 0 i
  rw [List.length_append, aheadL]
  have h2 : (bs.take k).length ≤ bs.length := by simp; omega
  split <;> simp <;> omega
theorem LJ_i64 (bs : List BlkD) (k : Nat) (t : List Int) (i : Nat) (hk : k ≤ 1000000) (h : bs.length ≤ 1000000) : ∀ x ∈ LJ bs k t i, I64 x := by
  intro x hx
  unfold LJ at hx
  rcases List.mem_append.1 hx with hx | hx
  · exact aheadL_i64 _ _ (by simp; omega) x hx
  · split at hx
    · rw [List.mem_singleton.1 hx]; unfold I64; omega
    · simp at hx
/-- A To that is no block's number changes nothing. -/
theorem LJ_out {bs : List BlkD} {k : Nat} {t : List Int} {j : Nat} {x : Int} (hx : t[j]? = some x) (i : Nat) (h : x ≠ i) : LJ bs k (t.take j) i = LJ bs k (t.take (j + 1)) i := by
  unfold LJ
  rw [hasTo_step _ hx, beq_eq_false_iff_ne.2 h, Bool.or_false]
theorem LJ_again {bs : List BlkD} {k : Nat} {t : List Int} {j : Nat} {x : Int} (hx : t[j]? = some x) (i : Nat) (h : hasTo x (t.take j) = true) : LJ bs k (t.take j) i = LJ bs k (t.take (j + 1)) i := by
  by_cases e : x = i
  · unfold LJ; rw [hasTo_step _ hx, ← e, h]; rfl
  · exact LJ_out hx i e
theorem LJ_new {bs : List BlkD} {k : Nat} {t : List Int} {j : Nat} {q : Nat} (hx : t[j]? = some (q : Int)) (i : Nat) (h : hasTo q (t.take j) = false) :
    (if i = q then LJ bs k (t.take j) q ++ [(k : Int)] else LJ bs k (t.take j) i) = LJ bs k (t.take (j + 1)) i := by
  by_cases e : i = q
  · subst e; rw [if_pos rfl]; unfold LJ; rw [hasTo_step _ hx, h]; simp
  · rw [if_neg e, LJ_out hx i (fun e2 => e (by omega))]

/-- A slice of slices reads as a list of lists. -/
def RRow (w : World) (b o : Nat) (xs : List Int) : Prop := CS w b o 1 RInt xs
def rows (bs : List BlkD) : List (List Int) := (List.range bs.length).map fun i => aheadL bs (i : Nat)

theorem rows_len (bs : List BlkD) : (rows bs).length = bs.length := by simp [rows]
theorem rows_at {bs : List BlkD} {k : Nat} {x : List Int} (h : (rows bs)[k]? = some x) : x = aheadL bs k := by
  unfold rows at h
  rw [List.getElem?_map] at h
  obtain ⟨i, hi, rfl⟩ := Option.map_eq_some_iff.1 h
  obtain ⟨hl, rfl⟩ := List.getElem?_eq_some_iff.1 hi
  simp
theorem RRow.keep {w w' : World} (h : Kept w w') (b o : Nat) (x : List Int) (hv : RRow w b o x) : RRow w' b o x := CS.keep h (RInt.keep h) hv
theorem Grid.reads {w : World} {G : Nat} {V : Nat → Value} {bs : List BlkD} (h : Grid w G bs.length V (fun i => aheadL bs i)) (hn : bs.length ≤ 1000000) : SL w 1 RRow (some ⟨G, 0, none⟩) bs.length (rows bs) := by
  refine ⟨by rw [rows_len]; omega, ⟨by unfold maxLen; omega, fun e => by cases e⟩, fun _ => ⟨G, 0, rfl, fun i x hi => ?_⟩⟩
  have hl : i < bs.length := by have := (List.getElem?_eq_some_iff.1 hi).1; rwa [rows_len] at this
  rw [rows_at hi, Nat.mul_one, Nat.zero_add]
  obtain ⟨A, c, e, hs⟩ := vs_of_own (h.own i hl) (aheadL_i64 _ _ (by omega))
  exact ⟨A, c, (h.row.cell hl).trans (congrArg some e), hs⟩

end Go.Proofs.Ytcjmhdneelmbhaa
