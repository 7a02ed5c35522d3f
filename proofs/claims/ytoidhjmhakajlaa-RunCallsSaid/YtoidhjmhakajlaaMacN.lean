/- A step of the machine; a run stays all right. -/
import Derived.Test.YtoidhjmhakajlaaMacM
namespace Go.Proofs.Ytoidhjmhakajlaa
open Go.ChangeShapes Go.WideShapes Go.RowKit Go.Deep
set_option linter.unusedVariables false

/-! ### Mathematics -/
structure OkS (m : List FunD) (s : St) : Prop where
  cur : ∃ f kb, OkC m s.cur f kb
  stack : ∀ c ∈ s.stack, Waits m c
theorem upd_zero {r : Nat → Int} {n : Nat} {d : Int} {v : Int} (h : ∀ i, n ≤ i → r i = 0) (hd : InR n d) : ∀ i, n ≤ i → upd r d.toNat v i = 0 := fun i hi => by
  unfold upd; rw [if_neg (by have := hd.1; have := hd.2; omega)]; exact h i hi
theorem firstR_zero {l : List Int} {n : Nat} (h : l.length ≤ n) : ∀ i, n ≤ i → firstR l i = 0 := fun i hi => by
  unfold firstR; rw [List.getD_eq_getElem?_getD, List.getElem?_eq_none (by omega)]; rfl
theorem setAll_zero {n : Nat} : ∀ (l : List (Int × Int)) (r : Nat → Int), (∀ i, n ≤ i → r i = 0) → (∀ p ∈ l, InR n p.1) → ∀ i, n ≤ i → setAll r l i = 0 := by
  intro l
  induction l with
  | nil => intro r h _; exact h
  | cons p l ih =>
    intro r h hp
    exact ih _ (upd_zero h (hp p (List.mem_cons_self ..))) (fun q hq => hp q (List.mem_cons_of_mem _ hq))
theorem funAt_get {m : List FunD} {i : Int} (h : InR m.length i) : m[i.toNat]? = some (funAt m i) ∧ funAt m i ∈ m := by
  have hl : i.toNat < m.length := by have := h.1; have := h.2; omega
  have e : m[i.toNat]? = some m[i.toNat] := List.getElem?_eq_getElem hl
  have e2 : funAt m i = m[i.toNat] := by unfold funAt; rw [List.getD_eq_getElem?_getD, e]; rfl
  rw [e2]; exact ⟨e, List.getElem_mem hl⟩
theorem goTo_ok {m : List FunD} {s : St} {f : FunD} {kb : BlkD} (hF : FunOk m f) (h : OkC m s.cur f kb) {x : Int} (hx : x ∈ kb.term.to) : ∃ kt, OkC m (goToF f s.cur x.toNat) f kt := by
  obtain ⟨kt, he, hxn⟩ := enter_ok hF h hx
  refine ⟨kt, h.hf, he.hb, Nat.zero_le _, ?_⟩
  show ∀ i, _ → setAll s.cur.regs _ i = 0
  refine setAll_zero _ _ h.zero (fun p hp => ?_)
  obtain ⟨d, v⟩ := p
  have h1 := (List.of_mem_zip hp).1
  obtain ⟨ph, hph, rfl⟩ := List.mem_map.1 h1
  have e : blkAt f x.toNat = kt := getD_of he.hb
  rw [e] at hph
  exact (hF.phis _ kt he.hb ph hph).2.1
theorem give_ok {m : List FunD} {s : St} (h : OkS m s) (v : Int) : OkS m (giveS m s v) := by
  unfold giveS
  cases hs : s.stack with
  | nil => exact ⟨h.cur, fun c hc => by cases hc⟩
  | cons c r =>
    obtain ⟨f, kb, x, a, ha, hf, hb, hx, hd, hr, ha6, hz⟩ := h.stack c (by rw [hs]; exact List.mem_cons_self ..)
    refine ⟨⟨f, kb, ?_⟩, fun d hd => h.stack d (by rw [hs]; exact List.mem_cons_of_mem _ hd)⟩
    have hcall : callOf m c = x := by unfold callOf blkAt; rw [getD_of hf, getD_of hb, ha, Nat.add_sub_cancel, getD_of hx]
    have hlt := (List.getElem?_eq_some_iff.1 hx).1
    show OkC m (resumeF m c v) f kb
    unfold resumeF
    rw [hcall]
    by_cases h0 : 0 ≤ x.dst
    · rw [if_pos h0]
      refine ⟨hf, hb, by show c.at_ ≤ _; omega, upd_zero hz ?_⟩
      rcases hd with h | h
      · omega
      · exact h
    · rw [if_neg h0]; exact ⟨hf, hb, by omega, hz⟩
theorem step_ok {m : List FunD} {s : St} (hP : Proper m) (h : OkS m s) : OkS m (stepS m s) := by
  obtain ⟨h32, hall⟩ := proper_ok hP
  obtain ⟨f, kb, hc⟩ := h.cur
  have hF := hall f (List.mem_of_getElem? hc.hf)
  have hkb : blkOf m s.cur = kb := by unfold blkOf blkAt; rw [getD_of hc.hf, getD_of hc.hb]
  unfold stepS
  rw [hkb]
  by_cases hat : s.cur.at_ = kb.ins.length
  · rw [if_pos hat]
    unfold endS
    rcases hF.kind kb (List.mem_of_getElem? hc.hb) with ⟨hk, hl⟩ | ⟨hk, hl, harg⟩ | ⟨hk, hl, harg⟩
    · obtain ⟨x, hx⟩ := len_one hl
      rw [if_neg (by omega), if_neg (by omega), getD_of hc.hf]
      obtain ⟨kt, h1⟩ := goTo_ok (s := s) hF hc (x := x) (by rw [hx]; simp)
      exact ⟨⟨f, kt, by rw [hx]; exact h1⟩, h.stack⟩
    · obtain ⟨x, y, hx⟩ := len_two hl
      rw [if_neg (by omega)]
      by_cases hz : s.cur.regs kb.term.arg.toNat = 0
      · rw [if_pos ⟨hk, hz⟩, getD_of hc.hf]
        obtain ⟨kt, h1⟩ := goTo_ok (s := s) hF hc (x := y) (by rw [hx]; simp)
        exact ⟨⟨f, kt, by rw [hx]; exact h1⟩, h.stack⟩
      · rw [if_neg (fun h => hz h.2), getD_of hc.hf]
        obtain ⟨kt, h1⟩ := goTo_ok (s := s) hF hc (x := x) (by rw [hx]; simp)
        exact ⟨⟨f, kt, by rw [hx]; exact h1⟩, h.stack⟩
    · rw [if_pos hk]; exact give_ok h _
  · rw [if_neg hat]
    have hlt : s.cur.at_ < kb.ins.length := by have := hc.hat; omega
    have hx : kb.ins[s.cur.at_]? = some kb.ins[s.cur.at_] := List.getElem?_eq_getElem hlt
    rw [getD_of hx]
    generalize kb.ins[s.cur.at_] = x at hx
    have hI := hF.ins kb (List.mem_of_getElem? hc.hb) x (List.mem_of_getElem? hx)
    have keep : OkC m { s.cur with at_ := s.cur.at_ + 1 } f kb := ⟨hc.hf, hc.hb, by show s.cur.at_ + 1 ≤ _; omega, hc.zero⟩
    have hset : ∀ v, InR f.regs.length x.dst → OkS m (setR { s with cur := { s.cur with at_ := s.cur.at_ + 1 } } x.dst v) := fun v hd =>
      ⟨⟨f, kb, hc.hf, hc.hb, by show s.cur.at_ + 1 ≤ _; omega, upd_zero hc.zero hd⟩, h.stack⟩
    have htrap : ∀ t, OkS m (trapS { s with cur := { s.cur with at_ := s.cur.at_ + 1 } } t) := fun t => ⟨⟨f, kb, keep⟩, h.stack⟩
    unfold doS
    rcases hI.2 with ⟨ho, hd⟩ | ⟨ho1, ho2, hl, hd⟩ | ⟨ho, hl, hd⟩ | ⟨ho, hl⟩ | ⟨ho, hl⟩ | ⟨ho, hfn, hl, hd⟩
    · rw [if_pos ho]; exact hset _ hd
    · rw [if_neg (by omega), if_neg (by omega), if_neg (by omega), if_neg (by omega), if_neg (by omega)]
      split
      · exact hset _ hd
      · exact htrap _
    · rw [if_neg (by omega), if_pos ho]
      split
      · exact hset _ hd
      · exact htrap _
    · rw [if_neg (by omega), if_neg (by omega), if_pos ho]
      split
      · exact ⟨⟨f, kb, keep⟩, h.stack⟩
      · exact htrap _
    · rw [if_neg (by omega), if_neg (by omega), if_neg (by omega), if_pos ho]
      exact ⟨⟨f, kb, keep⟩, h.stack⟩
    · rw [if_neg (by omega), if_neg (by omega), if_neg (by omega), if_neg (by omega), if_pos ho]
      obtain ⟨e1, e2⟩ := funAt_get hfn
      have hG := hall _ e2
      have hb0 : 0 < (funAt m x.fn).blocks.length := hG.nb.1
      refine ⟨⟨funAt m x.fn, _, e1, List.getElem?_eq_getElem hb0, Nat.zero_le _, ?_⟩, ?_⟩
      · exact firstR_zero (by rw [argsV_len]; have := hG.par.2.2; omega)
      · intro c hcm
        rcases List.mem_cons.1 hcm with rfl | hcm
        · exact ⟨f, kb, x, s.cur.at_, rfl, hc.hf, hc.hb, hx, hd.imp id id, hF.nr, by have := hF.items kb (List.mem_of_getElem? hc.hb); omega, hc.zero⟩
        · exact h.stack c hcm
theorem step_lens (m : List FunD) (s : St) : (stepS m s).stack.length ≤ s.stack.length + 1 ∧ (stepS m s).out.length ≤ s.out.length + 1 := by
  constructor
  · unfold stepS endS giveS doS setR trapS enterS
    repeat' split
    all_goals simp_all
    all_goals omega
  · obtain ⟨r, hr, hl⟩ := stepS_out m s
    rw [hr, List.length_append]; omega
end Go.Proofs.Ytoidhjmhakajlaa
