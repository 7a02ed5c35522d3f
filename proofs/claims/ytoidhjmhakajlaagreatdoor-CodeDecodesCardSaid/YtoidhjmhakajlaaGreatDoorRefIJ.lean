/- What the reference tells of an instruction is what the document says, where the function's registers are typed: mathematics. -/
import Derived.Test.YtoidhjmhakajlaaGreatDoorRefGJ
namespace Go.Proofs.YtoidhjmhakajlaaGreatDoor
open Go.RowKit
set_option linter.unusedVariables false

def Sev (a : Int) : Prop := a = 0 ∨ a = 3 ∨ a = 4
theorem isE_sev (regs : List Int) (r t : Int) : Sev (isE regs r t) := by
  unfold isE Sev; split
  · split <;> omega
  · omega
theorem worstE_sev {a b : Int} (ha : Sev a) (hb : Sev b) : Sev (worstE a b) := by
  unfold worstE Sev at *; split
  · omega
  · split <;> omega
theorem worstE_four {a b : Int} (ha : Sev a) (hb : Sev b) : worstE a b = 4 ↔ a = 4 ∨ b = 4 := by
  unfold worstE Sev at *; split
  · omega
  · split <;> omega
theorem worstE_zero_iff {a b : Int} : worstE a b = 0 ↔ a = 0 ∧ b = 0 := by
  constructor
  · exact worstE_zero
  · rintro ⟨rfl, rfl⟩; rfl
theorem isE_four {regs : List Int} {r t : Int} : isE regs r t = 4 ↔ isIn regs.length r = false := by
  unfold isE isIn; rw [decide_eq_false_iff_not]; split
  · split <;> simp_all
  · simp_all
theorem isE_zero {regs : List Int} {r t : Int} : isE regs r t = 0 ↔ isIn regs.length r = true ∧ (0 ≤ t → reg regs r = t) := by
  unfold isE isIn; rw [decide_eq_true_iff]; split
  · rename_i h
    split
    · rename_i h2; simp only [false_iff, not_and, show (3 : Int) ≠ 0 by decide]; intro _ h3; exact h2.2 (h3 h2.1)
    · rename_i h2; simp only [true_iff]; exact ⟨h, fun h3 => by by_cases h4 : reg regs r = t; exact h4; exact absurd ⟨h3, h4⟩ h2⟩
  · rename_i h; simp only [show (4 : Int) ≠ 0 by decide, false_iff, not_and]; exact fun h2 => absurd h2 h

/-- The fold, from the left, told by the elements. -/
theorem foldl_sev (regs : List Int) (l : List (Int × Int)) (b : Int) (hb : Sev b) :
    Sev (l.foldl (fun b p => worstE b (isE regs p.1 p.2)) b) ∧
    (l.foldl (fun b p => worstE b (isE regs p.1 p.2)) b = 4 ↔ b = 4 ∨ ∃ p ∈ l, isE regs p.1 p.2 = 4) ∧
    (l.foldl (fun b p => worstE b (isE regs p.1 p.2)) b = 0 ↔ b = 0 ∧ ∀ p ∈ l, isE regs p.1 p.2 = 0) := by
  induction l generalizing b with
  | nil => simp [hb]
  | cons p l ih =>
    have h1 := isE_sev regs p.1 p.2
    obtain ⟨i1, i2, i3⟩ := ih (worstE b (isE regs p.1 p.2)) (worstE_sev hb h1)
    simp only [List.foldl_cons]
    refine ⟨i1, ?_, ?_⟩
    · rw [i2, worstE_four hb h1]; simp [or_assoc]
    · rw [i3, worstE_zero_iff]; simp [and_assoc]
theorem foldB_sev (regs : List Int) (l : List (Int × Int)) : Sev (foldB regs l) := (foldl_sev regs l 0 (.inl rfl)).1
theorem foldB_four {regs args ts : List Int} (h : args.length = ts.length) : foldB regs (args.zip ts) = 4 ↔ areAtB args regs.length = false := by
  unfold foldB; rw [(foldl_sev regs _ 0 (.inl rfl)).2.1]
  simp only [show (0 : Int) ≠ 4 by decide, false_or]
  unfold areAtB
  rw [List.all_eq_false]
  constructor
  · rintro ⟨p, hp, h4⟩
    exact ⟨p.1, (List.of_mem_zip hp).1, by have := isE_four.1 h4; unfold isIn at this; simpa using this⟩
  · rintro ⟨a, ha, h4⟩
    obtain ⟨i, hi, rfl⟩ := List.getElem_of_mem ha
    have hz : i < (args.zip ts).length := by rw [List.length_zip]; omega
    refine ⟨(args.zip ts)[i], List.getElem_mem hz, ?_⟩
    rw [List.getElem_zip, isE_four]; unfold isIn; simpa using h4
theorem foldB_zero {regs args ts : List Int} (h : args.length = ts.length) (hat : areAtB args regs.length = true) :
    foldB regs (args.zip ts) = 0 ↔ ∀ (j : Nat) (a t : Int), args[j]? = some a → ts[j]? = some t → 0 ≤ t → reg regs a = t := by
  unfold foldB; rw [(foldl_sev regs _ 0 (.inl rfl)).2.2]
  simp only [true_and]
  constructor
  · intro hp j a t ha ht h0
    have := hp (a, t) (List.mem_of_getElem? (i := j) (List.getElem?_zip_eq_some.2 ⟨ha, ht⟩))
    exact (isE_zero.1 this).2 h0
  · intro hp p hpz
    obtain ⟨i, hi, rfl⟩ := List.getElem_of_mem hpz
    have hz := hi; rw [List.length_zip] at hz
    rw [List.getElem_zip, isE_zero]
    refine ⟨?_, fun h0 => hp i _ _ (List.getElem?_eq_getElem (by omega)) (List.getElem?_eq_getElem (by omega)) h0⟩
    have := List.all_eq_true.1 hat (args[i]'(by omega)) (List.getElem_mem _)
    unfold isIn; exact this

theorem sev_ext {a b : Int} (ha : Sev a) (hb : Sev b) (h4 : a = 4 ↔ b = 4) (h0 : a = 0 ↔ b = 0) : a = b := by
  unfold Sev at *; omega
theorem b1_sev {f : FunD} {dst d b0 : Int} (h : Sev b0) : Sev (b1R f dst d b0) := by
  unfold b1R; split
  · split
    · exact h
    · exact worstE_sev h (.inr (.inl rfl))
  · split
    · exact worstE_sev h (worstE_sev (isE_sev _ _ _) (.inr (.inl rfl)))
    · exact worstE_sev h (isE_sev _ _ _)
theorem b1_four {f : FunD} {dst d b0 : Int} (h : Sev b0) : b1R f dst d b0 = 4 ↔ b0 = 4 ∨ (d ≠ 0 ∧ isIn f.regs.length dst = false) := by
  unfold b1R; split
  · rename_i hd
    split
    · simp [hd]
    · rw [worstE_four h (.inr (.inl rfl))]; simp [hd]
  · rename_i hd
    split
    · rw [worstE_four h (worstE_sev (isE_sev _ _ _) (.inr (.inl rfl))), worstE_four (isE_sev _ _ _) (.inr (.inl rfl)), isE_four]; simp [hd]
    · rw [worstE_four h (isE_sev _ _ _), isE_four]; simp [hd]
theorem b1_zero {f : FunD} {dst d b0 : Int} : b1R f dst d b0 = 0 ↔ b0 = 0 ∧ (if d = 0 then dst = -1 else 0 < d ∧ isIn f.regs.length dst = true ∧ reg f.regs dst = d) := by
  unfold b1R; split
  · split
    · simp [*]
    · rw [worstE_zero_iff]; simp [*]
  · rename_i hd
    split
    · rename_i hn; rw [worstE_zero_iff, worstE_zero_iff]; simp only [show (3 : Int) ≠ 0 by decide, and_false, false_iff]; omega
    · rename_i hn; rw [worstE_zero_iff, isE_zero]
      constructor
      · rintro ⟨h1, h2, h3⟩; exact ⟨h1, by omega, h2, h3 (by omega)⟩
      · rintro ⟨h1, _, h2, h3⟩; exact ⟨h1, h2, fun _ => h3⟩
theorem b2_sev {x : InsD} {odd : Bool} {b1 : Int} (h : Sev b1) : Sev (b2R x odd b1) := by
  unfold b2R; split
  · exact worstE_sev h (.inr (.inl rfl))
  · exact h
theorem b2_four {x : InsD} {odd : Bool} {b1 : Int} (h : Sev b1) : b2R x odd b1 = 4 ↔ b1 = 4 := by
  unfold b2R; split
  · rw [worstE_four h (.inr (.inl rfl))]; simp
  · rfl
theorem b2_zero_iff {x : InsD} {odd : Bool} {b1 : Int} : b2R x odd b1 = 0 ↔ b1 = 0 ∧ wrongB x odd = false := by
  unfold b2R; split
  · rw [worstE_zero_iff]; simp [*]
  · simp_all
theorem rest_sev {f : FunD} {x : InsD} {ts : List Int} {d : Int} {odd : Bool} : Sev (restR f x ts d odd) := by
  unfold restR b3R; split
  · exact .inr (.inl rfl)
  · exact b2_sev (b1_sev (foldB_sev _ _))
theorem rest_four {f : FunD} {x : InsD} {ts : List Int} {d : Int} {odd : Bool} (h : x.args.length = ts.length) : restR f x ts d odd = 4 ↔ areAtB x.args f.regs.length = false ∨ (d ≠ 0 ∧ isIn f.regs.length x.dst = false) := by
  rw [← foldB_four h, ← b1_four (foldB_sev _ _), ← b2_four (x := x) (odd := odd) (b1_sev (foldB_sev _ _))]
  unfold restR b3R
  split
  · rename_i h2; rw [h2.2.1]; decide
  · rfl
theorem rest_zero {f : FunD} {x : InsD} {ts : List Int} {d : Int} {odd : Bool} : restR f x ts d odd = 0 ↔
    foldB f.regs (x.args.zip ts) = 0 ∧ (if d = 0 then x.dst = -1 else 0 < d ∧ isIn f.regs.length x.dst = true ∧ reg f.regs x.dst = d) ∧ wrongB x odd = false ∧ ¬ (x.op = 1 ∧ reg f.regs x.dst = 2 ∧ x.imm ≠ 0 ∧ x.imm ≠ 1) := by
  unfold restR b3R
  split
  · rename_i h
    simp only [show (3 : Int) ≠ 0 by decide, false_iff]
    rintro ⟨_, _, _, h2⟩
    exact h2 ⟨h.1, h.2.2⟩
  · rename_i h
    rw [b2_zero_iff, b1_zero]
    constructor
    · rintro ⟨⟨h1, h2⟩, h3⟩
      exact ⟨h1, h2, h3, fun h4 => h ⟨h4.1, b2_zero_iff.2 ⟨b1_zero.2 ⟨h1, h2⟩, h3⟩, h4.2⟩⟩
    · rintro ⟨h1, h2, h3, _⟩; exact ⟨⟨h1, h2⟩, h3⟩
theorem sev_if (c e : Prop) [Decidable c] [Decidable e] : Sev (if c then (if e then 0 else 3) else 4) := by
  unfold Sev; by_cases h : c <;> by_cases h2 : e <;> simp [h, h2]
theorem restE_sev {f : FunD} {x : InsD} {ts : List Int} {d : Int} {bad : Bool} : Sev (restE f x ts d bad) := by
  unfold restE; exact sev_if _ _
theorem restE_four {f : FunD} {x : InsD} {ts : List Int} {d : Int} {bad : Bool} : restE f x ts d bad = 4 ↔ areAtB x.args f.regs.length = false ∨ (d ≠ 0 ∧ isIn f.regs.length x.dst = false) := by
  unfold restE; split
  · rename_i h
    simp only [Bool.and_eq_true, Bool.or_eq_true, decide_eq_true_eq] at h
    constructor
    · intro h2; split at h2 <;> omega
    · rintro (h2 | ⟨h2, h3⟩)
      · rw [h.1] at h2; cases h2
      · rcases h.2 with h4 | h4
        · exact absurd h4 h2
        · rw [h4] at h3; cases h3
  · rename_i h
    simp only [Bool.and_eq_true, Bool.or_eq_true, decide_eq_true_eq, Classical.not_and_iff_not_or_not, not_or, Bool.not_eq_true] at h
    simp only [true_iff]
    exact h
theorem restE_zero {f : FunD} {x : InsD} {ts : List Int} {d : Int} {bad : Bool} : restE f x ts d bad = 0 ↔
    areAtB x.args f.regs.length = true ∧ typesB f.regs x.args ts = true ∧ (if d = 0 then x.dst = -1 else 0 < d ∧ isIn f.regs.length x.dst = true ∧ reg f.regs x.dst = d) ∧ (x.op = 1 ∨ x.imm = 0) ∧ (x.op = 17 ∨ x.fn = 0) ∧ bad = false := by
  unfold restE
  by_cases hd : d = 0
  · subst hd
    cases areAtB x.args f.regs.length <;> cases typesB f.regs x.args ts <;> cases bad <;> simp
    all_goals by_cases h1 : x.dst = -1 <;> by_cases h2 : (x.op = 1 ∨ x.imm = 0) <;> by_cases h3 : (x.op = 17 ∨ x.fn = 0) <;> simp [h1, h2, h3] <;> (first | omega | (intro a; omega) | (intro a b; exact absurd ⟨a, b⟩ h1))
  · cases areAtB x.args f.regs.length <;> cases typesB f.regs x.args ts <;> cases bad <;> cases isIn f.regs.length x.dst <;> simp [hd]
    all_goals by_cases h1 : (0 < d ∧ reg f.regs x.dst = d) <;> by_cases h2 : (x.op = 1 ∨ x.imm = 0) <;> by_cases h3 : (x.op = 17 ∨ x.fn = 0) <;> simp [h1, h2, h3] <;> (first | omega | (intro a; omega) | (intro a b; exact absurd ⟨a, b⟩ h1))

theorem rest_eq {f : FunD} {x : InsD} {ts ts' : List Int} {d : Int} {odd bad : Bool} (hl : x.args.length = ts'.length)
    (h0 : areAtB x.args f.regs.length = true → ((if d = 0 then x.dst = -1 else 0 < d ∧ isIn f.regs.length x.dst = true ∧ reg f.regs x.dst = d) →
      ((foldB f.regs (x.args.zip ts') = 0 ∧ wrongB x odd = false ∧ ¬ (x.op = 1 ∧ reg f.regs x.dst = 2 ∧ x.imm ≠ 0 ∧ x.imm ≠ 1)) ↔ (typesB f.regs x.args ts = true ∧ (x.op = 1 ∨ x.imm = 0) ∧ (x.op = 17 ∨ x.fn = 0) ∧ bad = false)))) :
    restR f x ts' d odd = restE f x ts d bad := by
  refine sev_ext rest_sev restE_sev ?_ ?_
  · rw [rest_four hl, restE_four]
  · rw [rest_zero, restE_zero]
    constructor
    · rintro ⟨h1, h2, h3, h4⟩
      have hat : areAtB x.args f.regs.length = true := by
        cases hq : areAtB x.args f.regs.length
        · have := (foldB_four hl).2 hq; omega
        · rfl
      obtain ⟨g1, g2, g3, g4⟩ := (h0 hat h2).1 ⟨h1, h3, h4⟩
      exact ⟨hat, g1, h2, g2, g3, g4⟩
    · rintro ⟨hat, g1, h2, g2, g3, g4⟩
      obtain ⟨h1, h3, h4⟩ := (h0 hat h2).2 ⟨g1, g2, g3, g4⟩
      exact ⟨h1, h2, h3, h4⟩
theorem wrongB_false {x : InsD} {odd : Bool} : wrongB x odd = false ↔ (x.op = 1 ∨ x.imm = 0) ∧ (x.op = 17 ∨ x.fn = 0) ∧ odd = false := by
  unfold wrongB
  cases odd <;> by_cases h1 : x.op = 1 <;> by_cases h2 : x.imm = 0 <;> by_cases h3 : x.op = 17 <;> by_cases h4 : x.fn = 0 <;> simp [h1, h2, h3, h4]
theorem tsF_none {l : List Int} (h : l.any (fun t => decide (t < 0)) = false) : tsF false l = l := by
  induction l with
  | nil => rfl
  | cons t l ih =>
    simp only [List.any_cons, Bool.or_eq_false_iff] at h
    simp only [tsF, h.1, Bool.or_false, Bool.false_eq_true, if_false]
    rw [ih h.2]
theorem sig_pos {f : FunD} (h : ∀ t ∈ f.regs, t = 1 ∨ t = 2) {x : InsD} {ts : List Int} {d : Int} (hs : sigOf f x = some (ts, d)) : (∀ t ∈ ts, 0 ≤ t) ∧ (x.op = 1 → d = dstT f x) ∧ x.op ≠ 17 := by
  have hd := dstT_ty h x
  unfold sigOf at hs
  repeat' split at hs
  all_goals first | (cases hs; done) | (obtain ⟨rfl, rfl⟩ := Prod.mk.inj (Option.some.inj hs); refine ⟨by simp; try omega, by omega, by omega⟩)

/-- THE SAME. -/
theorem insR_eq {m : List FunD} {f : FunD} (h : ∀ t ∈ f.regs, t = 1 ∨ t = 2) (x : InsD) : insR m f x = insE m f x := by
  unfold insR insE
  by_cases h17 : x.op = 17
  · rw [if_pos h17, if_pos h17]
    cases isIn m.length x.fn
    · rfl
    · simp only [if_true]
      generalize funAt m x.fn = g
      by_cases hp : (x.args.length : Int) = g.params
      · rw [if_pos hp, if_pos hp]
        have hcl : (callP g).length = x.args.length := by
          unfold callP
          split
          · simp; omega
          · rename_i h; unfold oddB at h; simp at h; simp; omega
        have hl : x.args.length = (tsF (oddB g) (callP g)).length := by rw [tsF_len, hcl]
        unfold tailR
        rw [if_pos rfl, if_pos hl]
        cases ho : oddB g
        · rw [ho] at hl
          have hc : callP g = g.regs.take g.params.toNat := by unfold callP; rw [ho]; rfl
          refine rest_eq hl (fun hat _ => ?_)
          rw [wrongB_false, foldB_zero hl hat]
          simp only [Bool.false_eq_true, if_false]
          constructor
          · rintro ⟨h1, ⟨h2, h3, h4⟩, _⟩
            have hn : (callP g).any (fun t => decide (t < 0)) = false := by unfold oddF at h4; simpa using h4
            refine ⟨typesB_iff.2 (fun j a t ha ht => ?_), h2, h3, by trivial⟩
            rw [← hc] at ht
            rw [tsF_none hn] at h1
            refine h1 j a t ha ht ?_
            have := List.any_eq_false.1 hn t (List.mem_of_getElem? ht)
            simpa using this
          · rintro ⟨h1, h2, h3, _⟩
            have h1 := typesB_iff.1 h1
            rw [← hc] at h1
            have hn : (callP g).any (fun t => decide (t < 0)) = false := by
              rw [List.any_eq_false]
              intro t ht
              obtain ⟨j, hj, rfl⟩ := List.getElem_of_mem ht
              have ha : x.args[j]? = some (x.args[j]'(by omega)) := List.getElem?_eq_getElem _
              have := h1 j _ _ ha (List.getElem?_eq_getElem hj)
              have h5 := List.all_eq_true.1 hat _ (List.getElem_mem (l := x.args) (n := j) (by omega))
              have h6 := reg_ty' h (r := x.args[j]'(by omega)) h5
              simp; omega
            refine ⟨fun j a t ha ht _ => ?_, ⟨h2, h3, by unfold oddF; rw [hn]; rfl⟩, fun h4 => by omega⟩
            rw [tsF_none hn] at ht
            exact h1 j a t ha ht
        · rw [ho] at hl
          refine rest_eq hl (fun hat _ => ?_)
          rw [wrongB_false]
          simp [oddF]
      · rw [if_neg hp, if_neg hp]
  · rw [if_neg h17, if_neg h17]
    unfold tailR kL kD kO
    cases hs : sigOf f x with
    | none => rfl
    | some q =>
      obtain ⟨ts, d⟩ := q
      simp only [Option.isSome_some, if_true, Option.getD_some]
      obtain ⟨hpos, hd1, -⟩ := sig_pos h hs
      by_cases hl : x.args.length = ts.length
      · rw [if_pos hl, if_pos hl]
        refine rest_eq hl (fun hat hdd => ?_)
        rw [wrongB_false, foldB_zero hl hat]
        have e1 : (∀ (j : Nat) (a t : Int), x.args[j]? = some a → ts[j]? = some t → 0 ≤ t → reg f.regs a = t) ↔ typesB f.regs x.args ts = true := by
          rw [typesB_iff]
          exact ⟨fun g j a t ha ht => g j a t ha ht (hpos t (List.mem_of_getElem? ht)), fun g j a t ha ht _ => g j a t ha ht⟩
        have hty := dstT_ty h x
        have e2 : (x.op = 1 ∧ reg f.regs x.dst = 2 ∧ x.imm ≠ 0 ∧ x.imm ≠ 1) ↔ (x.op = 1 ∧ d = 2 ∧ x.imm ≠ 0 ∧ x.imm ≠ 1) := by
          constructor
          · rintro ⟨g1, g2, g3⟩
            have := hd1 g1
            rw [if_neg (by omega)] at hdd
            exact ⟨g1, by omega, g3⟩
          · rintro ⟨g1, g2, g3⟩
            rw [if_neg (by omega)] at hdd
            exact ⟨g1, by omega, g3⟩
        rw [e1, e2, decide_eq_false_iff_not]
        simp only [and_true]
        constructor
        · rintro ⟨g1, ⟨g2, g3⟩, g4⟩; exact ⟨g1, g2, g3, g4⟩
        · rintro ⟨g1, g2, g3, g4⟩; exact ⟨g1, ⟨g2, g3⟩, g4⟩
      · rw [if_neg hl, if_neg hl]
end Go.Proofs.YtoidhjmhakajlaaGreatDoor
