/- A proper module's numbers can be written, in no more than so many bytes; what was read is small: plain mathematics. -/
import Derived.Test.YtmhodjbplohmiaaGreatDoorByt
import Derived.Test.YtmhodjbplohmiaaGreatDoorLim
namespace Go.Proofs.YtmhodjbplohmiaaGreatDoor
open Go.RowKit
set_option linter.unusedVariables false

theorem modE_ok {m : List FunD} (h : (modE m).1 = 0) : m.length ≤ 32 ∧ ∀ f ∈ m, funE m f = 0 := by
  unfold modE at h
  split at h
  · exact absurd h (by decide)
  · exact ⟨by omega, modK_zero.1 h⟩
theorem outer_ok {f : FunD} (h : outerE f = 0) : withinB f = true ∧ typedB f = true ∧ endsWellB f = true ∧ meetB f = true := by
  unfold outerE at h
  split at h
  · split at h
    · split at h
      · rename_i h1 h2 h3
        rw [Bool.and_eq_true] at h3
        exact ⟨h1, h2, h3.1, h3.2⟩
      · exact absurd h (by decide)
    · exact absurd h (by decide)
  · exact absurd h (by decide)
theorem items_at {bs : List BlkD} {b : BlkD} (h : b ∈ bs) : b.phis.length + b.ins.length ≤ itemsK bs := by
  unfold itemsK
  induction bs with
  | nil => cases h
  | cons x r ih =>
    simp only [List.map_cons, List.sum_cons]
    rcases List.mem_cons.1 h with rfl | h
    · omega
    · have := ih h; omega
theorem of_ite {c : Prop} [Decidable c] {a b : Int} (hb : b ≠ 0) (h : (if c then a else b) = 0) : c ∧ a = 0 := by
  split at h
  · exact ⟨‹c›, h⟩
  · exact absurd h hb
theorem meetK_at {bs l : List BlkD} {i : Nat} (h : meetK bs l i = true) : ∀ b ∈ l, ∀ p ∈ b.phis, p.args.length ≤ bs.length := by
  induction l generalizing i with
  | nil => simp
  | cons x r ih =>
    simp only [meetK, Bool.and_eq_true] at h
    intro b hb p hp
    rcases List.mem_cons.1 hb with rfl | hb
    · have := of_decide_eq_true (List.all_eq_true.1 h.1 p hp)
      rw [this]
      exact aheadK_len _ _ _
    · exact ih h.2 b hb p hp
theorem are_ok {l : List Int} {n : Nat} (h : areAtB l n = true) (hn : n ≤ 256) : ∀ x ∈ l, okN x := fun x hx => by
  have := of_decide_eq_true (List.all_eq_true.1 h x hx)
  unfold okN; omega
theorem phi_ok {f : FunD} {p : PhiD} (h : phiE f p = 0) (hr : f.regs.length ≤ 256) (hl : p.args.length ≤ 256) : okPhi p := by
  unfold phiE at h
  split at h
  · rename_i h1
    rw [Bool.and_eq_true] at h1
    have := of_decide_eq_true h1.1
    exact ⟨by unfold okN; omega, hl, are_ok h1.2 hr⟩
  · exact absurd h (by decide)
theorem rest_ok {f : FunD} {x : InsD} {ts : List Int} {d : Int} {bad : Bool} (h : restE f x ts d bad = 0) (hr : f.regs.length ≤ 256) : (∀ a ∈ x.args, okN a) ∧ okN (x.dst + 1) ∧ (x.op = 17 ∨ x.fn = 0) := by
  unfold restE at h
  obtain ⟨h1, h⟩ := of_ite (by decide) h
  obtain ⟨h2, -⟩ := of_ite (by decide) h
  simp only [Bool.and_eq_true, Bool.or_eq_true, decide_eq_true_eq] at h1 h2
  refine ⟨are_ok h1.1 hr, ?_, h2.1.2⟩
  rcases h1.2 with h3 | h3
  · have h4 := h2.1.1.1.2
    rw [if_pos h3] at h4
    have := of_decide_eq_true h4
    unfold okN; omega
  · have := of_decide_eq_true h3
    unfold okN; omega
theorem funAt_mem {m : List FunD} {i : Int} (h : isIn m.length i = true) : funAt m i ∈ m := by
  have := of_decide_eq_true h
  unfold funAt
  rw [List.getD_eq_getElem?_getD, List.getElem?_eq_getElem (by omega)]
  exact List.getElem_mem _
theorem sig_ok {f : FunD} {x : InsD} {ts : List Int} {d : Int} (h : sigOf f x = some (ts, d)) : 1 ≤ x.op ∧ x.op ≤ 18 ∧ ts.length ≤ 2 := by
  unfold sigOf at h
  repeat' split at h
  all_goals first | (cases h; done) | (simp only [Option.some.injEq, Prod.mk.injEq] at h; obtain ⟨rfl, rfl⟩ := h; simp; omega)
theorem ins_ok {m : List FunD} {f : FunD} {x : InsD} (h : insE m f x = 0) (hr : f.regs.length ≤ 256) (hm : m.length ≤ 32) (hp : ∀ g ∈ m, g.params ≤ 8) (hi : I64 x.imm) : okIns x := by
  unfold insE at h
  split at h
  · rename_i h17
    split at h
    · rename_i hin
      split at h
      · rename_i hl
        obtain ⟨g1, g2, g3⟩ := rest_ok h hr
        have h8 := hp _ (funAt_mem hin)
        have := of_decide_eq_true hin
        exact ⟨by unfold okN; omega, g2, ⟨by omega, g1⟩, hi, by unfold okN; omega⟩
      · exact absurd h (by decide)
    · exact absurd h (by decide)
  · rename_i h17
    split at h
    · exact absurd h (by decide)
    · rename_i ts d hs
      split at h
      · rename_i hl
        obtain ⟨g1, g2, g3⟩ := rest_ok h hr
        obtain ⟨s1, s2, s3⟩ := sig_ok hs
        exact ⟨by unfold okN; omega, g2, ⟨by omega, g1⟩, hi, by unfold okN; omega⟩
      · exact absurd h (by decide)
theorem term_ok {f : FunD} {t : TermD} (h : termE f t = 0) (hs : shapeB f.blocks.length t = true) (hr : f.regs.length ≤ 256) (hb : f.blocks.length ≤ 64) : okTerm t := by
  unfold shapeB at hs
  rw [Bool.and_eq_true] at hs
  obtain ⟨h1, h2⟩ := hs
  have hk : okN t.kind ∧ t.to.length ≤ 2 := by
    unfold tosB at h1
    split at h1
    · have := of_decide_eq_true h1; exact ⟨by unfold okN; omega, by omega⟩
    · split at h1
      · rw [Bool.and_eq_true] at h1
        have := of_decide_eq_true h1.1; exact ⟨by unfold okN; omega, by omega⟩
      · split at h1
        · have := of_decide_eq_true h1; exact ⟨by unfold okN; omega, by omega⟩
        · cases h1
  refine ⟨hk.1, ?_, by omega, fun x hx => ?_⟩
  · unfold termE at h
    split at h
    · split at h
      · unfold okN; omega
      · exact absurd h (by decide)
    · split at h
      · unfold okN; omega
      · exact absurd h (by decide)
  · have := of_decide_eq_true (List.all_eq_true.1 h2 x hx)
    unfold okN; omega
/-- All numbers of instructions have 64 bits. -/
def Imms (m : List FunD) : Prop := ∀ f ∈ m, ∀ b ∈ f.blocks, ∀ x ∈ b.ins, I64 x.imm
theorem typed_ok {f : FunD} (h : typedB f = true) : (∀ t ∈ f.regs, okN t) ∧ (0 ≤ f.params ∧ f.params ≤ 8) ∧ okN f.result := by
  unfold typedB at h
  rw [Bool.and_eq_true, Bool.and_eq_true] at h
  obtain ⟨⟨h1, h2⟩, h3⟩ := h
  have h2 := of_decide_eq_true h2
  have h3 := of_decide_eq_true h3
  refine ⟨fun t ht => ?_, ⟨h2.1, h2.2.1⟩, by unfold okN; omega⟩
  have := of_decide_eq_true (List.all_eq_true.1 h1 t ht)
  unfold okN; omega
/-- A proper module can be written. -/
theorem ok_of_proper {m : List FunD} (h : (modE m).1 = 0) (hi : Imms m) : okMod m := by
  obtain ⟨h32, hf⟩ := modE_ok h
  have hp : ∀ g ∈ m, g.params ≤ 8 := fun g hg => (typed_ok (outer_ok (funE_zero.1 (hf g hg)).1).2.1).2.1.2
  refine ⟨h32, fun f hfm => ?_⟩
  obtain ⟨ho, hb⟩ := funE_zero.1 (hf f hfm)
  obtain ⟨o1, o2, o3, o4⟩ := outer_ok ho
  have w1 := of_decide_eq_true o1
  obtain ⟨t1, t2, t3⟩ := typed_ok o2
  refine ⟨by unfold okN; omega, t3, ⟨by omega, t1⟩, by omega, fun b hbm => ?_⟩
  obtain ⟨b1, b2, b3⟩ := blockE_zero.1 (hb b hbm)
  have hit := items_at hbm
  refine ⟨⟨by omega, fun p hpm => phi_ok (b1 p hpm) (by omega) ?_⟩, ⟨by omega, fun x hx => ins_ok (b2 x hx) (by omega) h32 hp (hi f hfm b hbm x hx)⟩, term_ok b3 (List.all_eq_true.1 o3 b hbm) (by omega) (by omega)⟩
  have := meetK_at o4 b hbm p hpm
  omega

/-! ### How long -/
theorem flat_len {α : Type} {b : α → List UInt8} {n : Nat} {l : List α} (h : ∀ x ∈ l, (b x).length ≤ n) : (l.flatMap b).length ≤ l.length * n := by
  induction l with
  | nil => simp
  | cons x r ih =>
    rw [List.flatMap_cons, List.length_append, List.length_cons, Nat.succ_mul]
    have := h x (by simp)
    have := ih (fun y hy => h y (by simp [hy]))
    omega
theorem intB_len {x : Int} (h : okN x) : (intB x).length ≤ 10 := numB_len10 (by have := h.1; have := h.2; omega)
theorem ints_len {l : List Int} (h : okInts l) : (intsB l).length ≤ 2570 := by
  unfold intsB
  rw [List.length_append]
  have h1 := h.1
  have := flat_len (b := intB) (n := 10) (l := l) (fun x hx => intB_len (h.2 x hx))
  have := numB_len10 (n := l.length) (by omega)
  omega
theorem phi_len {p : PhiD} (h : okPhi p) : (phiB p).length ≤ 2580 := by
  unfold phiB
  rw [List.length_append]
  have := intB_len h.1
  have := ints_len h.2
  omega
theorem ins_len {x : InsD} (h : okIns x) : (insB x).length ≤ 2610 := by
  unfold insB
  simp only [List.length_append]
  have := intB_len h.1
  have := intB_len h.2.1
  have := ints_len h.2.2.1
  have := numB_len10 (zig_lt h.2.2.2.1)
  have := intB_len h.2.2.2.2
  omega
theorem term_len {t : TermD} (h : okTerm t) : (termB t).length ≤ 2590 := by
  unfold termB
  simp only [List.length_append]
  have := intB_len h.1
  have := intB_len h.2.1
  have := ints_len h.2.2
  omega
theorem blk_len {b : BlkD} (h : okBlk b) : (blkB b).length ≤ 1400000 := by
  unfold blkB phisB inssB
  simp only [List.length_append]
  obtain ⟨h1, h2, h3⟩ := h
  have := flat_len (b := phiB) (n := 2580) (l := b.phis) (fun x hx => phi_len (h1.2 x hx))
  have := flat_len (b := insB) (n := 2610) (l := b.ins) (fun x hx => ins_len (h2.2 x hx))
  have := numB_len10 (n := b.phis.length) (by omega)
  have := numB_len10 (n := b.ins.length) (by omega)
  have := term_len h3
  have h1 := h1.1
  have h2 := h2.1
  omega
theorem fun_len {f : FunD} (h : okFun f) : (funB f).length ≤ 90000000 := by
  unfold funB blksB
  simp only [List.length_append]
  obtain ⟨h1, h2, h3, h4, h5⟩ := h
  have := flat_len (b := blkB) (n := 1400000) (l := f.blocks) (fun x hx => blk_len (h5 x hx))
  have := numB_len10 (n := f.blocks.length) (by omega)
  have := intB_len h1
  have := intB_len h2
  have := ints_len h3
  omega
theorem mod_len {m : List FunD} (h : okMod m) : (modB m).length ≤ 3000000000 := by
  unfold modB funsB markB
  simp only [List.length_append]
  have := flat_len (b := funB) (n := 90000000) (l := m) (fun x hx => fun_len (h.2 x hx))
  have := numB_len10 (n := m.length) (by have := h.1; omega)
  have := h.1
  simp only [List.length_cons, List.length_nil]
  omega
theorem lim_of_ok {m : List FunD} (h : okMod m) : ∀ f ∈ m, Lim f := fun f hf b hb => by
  have := (h.2 f hf).2.2.2.2 b hb
  exact ⟨by have := this.1.1; omega, by have := this.2.1.1; omega⟩
end Go.Proofs.YtmhodjbplohmiaaGreatDoor
