/- One step of two runs side by side: plain mathematics. -/
import Derived.Test.YtcjmhdneelmbhaaLfNJ
import Derived.Test.YtcjmhdneelmbhaaArEJ
namespace Go.Proofs.Ytcjmhdneelmbhaa
open Go.RowKit
set_option linter.unusedVariables false

theorem doS_1 {s : St} {x : InsD} (h : x.op = 1) : doS s x = setR s x.dst x.imm := by unfold doS; rw [if_pos h]
theorem doS_15 {s : St} {x : InsD} (h : x.op = 15) : doS s x = if wordB (argsV s.cur.regs x.args) then setR s x.dst (s.mem ((argsV s.cur.regs x.args).getD 0 0).toNat) else trapS s 2 := by
  unfold doS; rw [if_neg (by omega), if_pos h]
theorem doS_16 {s : St} {x : InsD} (h : x.op = 16) : doS s x = if wordB (argsV s.cur.regs x.args) then { s with mem := upd s.mem ((argsV s.cur.regs x.args).getD 0 0).toNat ((argsV s.cur.regs x.args).getD 1 0) } else trapS s 2 := by
  unfold doS; rw [if_neg (by omega), if_neg (by omega), if_pos h]
theorem doS_18 {s : St} {x : InsD} (h : x.op = 18) : doS s x = { s with out := s.out ++ [(argsV s.cur.regs x.args).getD 0 0] } := by
  unfold doS; rw [if_neg (by omega), if_neg (by omega), if_neg (by omega), if_pos h]
theorem doS_17 {s : St} {x : InsD} (h : x.op = 17) : doS s x = enterS { s with stack := s.cur :: s.stack } x.fn.toNat (argsV s.cur.regs x.args) := by
  unfold doS; rw [if_neg (by omega), if_neg (by omega), if_neg (by omega), if_neg (by omega), if_pos h]
theorem doS_ev {s : St} {x : InsD} (h : 2 ≤ x.op ∧ x.op ≤ 14) : doS s x = match evalV x.op (argsV s.cur.regs x.args) with | some v => setR s x.dst v | none => trapS s 1 := by
  unfold doS; rw [if_neg (by omega), if_neg (by omega), if_neg (by omega), if_neg (by omega), if_neg (by omega)]; cases evalV x.op (argsV s.cur.regs x.args) <;> rfl
section
variable {m t : List FunD} {n B R : Nat} {f : FunD} {kB : BlkD} {c : InsD}
def onS (s : St) : St := { tickS s with cur := { s.cur with at_ := s.cur.at_ + 1 } }
/-- An instruction done by both. -/
theorem do_alike {s s' : St} {f0 : FunD} {kb : BlkD} {x : InsD} (hf : m[n]? = some f) (hr : RelS m n R f s s') (hd : s.done = false) (hc : OkC m s.cur f0 kb) (hx : kb.ins[s.cur.at_]? = some x)
    (hI : InsOk m f0.regs.length x) (hno : x.op = 16 ∨ x.op = 18 → x.dst = -1) : RelS m n R f (doS (onS s) x) (doS (onS s') x) := by
  have ha := hr.cur hd
  have hst := hr.stack hd
  have hb : s.cur.fn = n → f.blocks[s.cur.blk]? = some kb := fun e => by
    have h1 := hc.hf
    rw [e, hf] at h1
    cases h1
    exact hc.hb
  have hargs : argsV (onS s').cur.regs x.args = argsV (onS s).cur.regs x.args := args_alike ha hI.1 (fun hfn hmem hD => hD ((wantAt_step (hb hfn) hx).2 (.inl hmem)))
  have hset : ∀ v, 0 ≤ x.dst → RelS m n R f (setR (onS s) x.dst v) (setR (onS s') x.dst v) := fun v h0 =>
    ⟨hr.done, hr.trap, hr.value, hr.out, hr.mem, fun _ => AgF.made hb hx h0 ha v, fun _ => hst⟩
  have htrap : ∀ z, RelS m n R f (trapS (onS s) z) (trapS (onS s') z) := fun z => ⟨rfl, rfl, hr.value, hr.out, hr.mem, fun h => Bool.noConfusion h, fun h => Bool.noConfusion h⟩
  rcases hI.2 with ⟨ho, h1⟩ | ⟨ho1, ho2, hl, h1⟩ | ⟨ho, hl, h1⟩ | ⟨ho, hl⟩ | ⟨ho, hl⟩ | ⟨ho, hfn, hl, h1⟩
  · rw [doS_1 ho, doS_1 ho]; exact hset _ h1.1
  · rw [doS_ev ⟨ho1, ho2⟩, doS_ev ⟨ho1, ho2⟩, hargs]
    split
    · exact hset _ h1.1
    · exact htrap _
  · rw [doS_15 ho, doS_15 ho, hargs]
    have hm : (onS s').mem = (onS s).mem := hr.mem
    rw [hm]
    split
    · exact hset _ h1.1
    · exact htrap _
  · rw [doS_16 ho, doS_16 ho, hargs]
    have hm : (onS s').mem = (onS s).mem := hr.mem
    rw [hm]
    have hne : x.dst ≠ (R : Int) := by have := hno (.inl ho); omega
    split
    · exact ⟨hr.done, hr.trap, hr.value, hr.out, rfl, fun _ => AgF.next hb hx hne ha, fun _ => hst⟩
    · exact htrap _
  · rw [doS_18 ho, doS_18 ho, hargs]
    have hm : (onS s').out = (onS s).out := hr.out
    rw [hm]
    have hne : x.dst ≠ (R : Int) := by have := hno (.inr ho); omega
    exact ⟨hr.done, hr.trap, hr.value, rfl, hr.mem, fun _ => AgF.next hb hx hne ha, fun _ => hst⟩
  · rw [doS_17 ho, doS_17 ho, hargs]
    refine ⟨hr.done, hr.trap, hr.value, hr.out, hr.mem, fun _ => ⟨rfl, rfl, rfl, fun _ _ => rfl⟩, fun _ => .cons ⟨ha.fn, ha.blk, ?_, fun j hj => ha.regs j fun h => hj ⟨h.1, h.2.1, ?_⟩⟩ hst⟩
    · show s'.cur.at_ + 1 = s.cur.at_ + 1; rw [ha.at_]
    · have hcall : callOf m (onS s).cur = x := by
        show (blkAt (m.getD s.cur.fn default) s.cur.blk).ins.getD (s.cur.at_ + 1 - 1) default = x
        unfold blkAt; rw [getD_of hc.hf, getD_of hc.hb, Nat.add_sub_cancel, getD_of hx]
      by_cases e : x.dst = (R : Int)
      · left; show (callOf m (onS s).cur).dst = _; rw [hcall]; exact e
      · right; exact fun hw => h.2.2 ((wantAt_step (hb h.1) hx).2 (.inr ⟨e, hw⟩))
/-- The call that one waits at is the same. -/
theorem call_alike (T : TwoM m t n B R f kB c) {x y : Fr} (hw : Waits m x) (h1 : y.fn = x.fn) (h2 : y.blk = x.blk) (h3 : y.at_ = x.at_) : callOf t y = callOf m x := by
  obtain ⟨f1, kb, i, a, e, hf1, hb1, hi, -⟩ := hw
  have hcall : callOf m x = i := by unfold callOf blkAt; rw [getD_of hf1, getD_of hb1, e, Nat.add_sub_cancel, getD_of hi]
  rw [hcall]
  show (blkOf t y).ins.getD (y.at_ - 1) default = i
  rw [T.blk x y h1 h2, h3, e, Nat.add_sub_cancel]
  have hkb : blkOf m x = kb := by unfold blkOf blkAt; rw [getD_of hf1, getD_of hb1]
  by_cases hq : x.fn = n ∧ x.blk = B
  · rw [if_pos hq]
    have e2 : kB = kb := by rw [← hkb, T.blkB hq.1 hq.2]
    rw [e2]
    show (kb.ins ++ [c]).getD a default = i
    rw [List.getD_eq_getElem?_getD, List.getElem?_append_left (List.getElem?_eq_some_iff.1 hi).1, hi]; rfl
  · rw [if_neg hq, hkb, getD_of hi]
theorem resume_alike (T : TwoM m t n B R f kB c) {x y : Fr} (hw : Waits m x) (ha : AgF n R ((callOf m x).dst = (R : Int) ∨ ¬ wantAt f R x.blk x.at_) x y) (v : Int) : AgF n R (¬ wantAt f R (resumeF m x v).blk (resumeF m x v).at_) (resumeF m x v) (resumeF t y v) := by
  unfold resumeF
  rw [call_alike T hw ha.fn ha.blk ha.at_]
  by_cases h0 : 0 ≤ (callOf m x).dst
  · rw [if_pos h0, if_pos h0]
    refine ⟨ha.fn, ha.blk, ha.at_, fun j hj => ?_⟩
    show upd y.regs _ v j = upd x.regs _ v j
    unfold upd
    by_cases e : j = (callOf m x).dst.toNat
    · rw [if_pos e, if_pos e]
    · rw [if_neg e, if_neg e]
      refine ha.regs j fun h => ?_
      rcases h.2.2 with h3 | h3
      · exact e (by rw [h.2.1, h3]; simp)
      · exact hj ⟨h.1, h.2.1, h3⟩
  · rw [if_neg h0, if_neg h0]
    refine ⟨ha.fn, ha.blk, ha.at_, fun j hj => ha.regs j fun h => ?_⟩
    rcases h.2.2 with h3 | h3
    · omega
    · exact hj ⟨h.1, h.2.1, h3⟩
end
end Go.Proofs.Ytcjmhdneelmbhaa

/- Two runs side by side, to their ends: plain mathematics. -/
namespace Go.Proofs.Ytcjmhdneelmbhaa
open Go.RowKit
set_option linter.unusedVariables false

theorem endS_1 {m : List FunD} {s : St} {t : TermD} (h : t.kind ≠ 3) (h2 : ¬ (t.kind = 2 ∧ s.cur.regs t.arg.toNat = 0)) : endS m s t = { s with cur := goToF (m.getD s.cur.fn default) s.cur (t.to.getD 0 0).toNat } := by
  unfold endS; rw [if_neg h, if_neg h2]
theorem endS_2 {m : List FunD} {s : St} {t : TermD} (h2 : t.kind = 2 ∧ s.cur.regs t.arg.toNat = 0) : endS m s t = { s with cur := goToF (m.getD s.cur.fn default) s.cur (t.to.getD 1 0).toNat } := by
  unfold endS; rw [if_neg (by omega), if_pos h2]
theorem endS_3 {m : List FunD} {s : St} {t : TermD} (h : t.kind = 3) : endS m s t = giveS m s (if 0 ≤ t.arg then s.cur.regs t.arg.toNat else 0) := by
  unfold endS; rw [if_pos h]
section
variable {m t : List FunD} {n B R : Nat} {f : FunD} {kB : BlkD} {c : InsD}
/-- What is told at an end. -/
theorem give_alike (T : TwoM m t n B R f kB c) {s s' : St} (hr : RelS m n R f s s') (hd : s.done = false) (hok : OkS m s) (v : Int) : RelS m n R f (giveS m s v) (giveS t s' v) := by
  have hst := hr.stack hd
  unfold giveS
  cases hs : s.stack with
  | nil =>
    rw [hs] at hst
    cases hs' : s'.stack with
    | nil => exact ⟨rfl, hr.trap, rfl, hr.out, hr.mem, fun h => Bool.noConfusion h, fun h => Bool.noConfusion h⟩
    | cons a l => rw [hs'] at hst; cases hst
  | cons a l =>
    have hw := hok.stack a (by rw [hs]; exact List.mem_cons_self ..)
    rw [hs] at hst
    cases hs' : s'.stack with
    | nil => rw [hs'] at hst; cases hst
    | cons b k =>
      rw [hs'] at hst
      cases hst with
      | cons h1 h2 => exact ⟨hr.done, hr.trap, hr.value, hr.out, hr.mem, fun _ => resume_alike T hw h1 v, fun _ => h2⟩
/-- A block's end by both; of the second one the place is not asked. -/
theorem end_alike (T : TwoM m t n B R f kB c) (hP : Proper m) {s s' : St} (hr : RelS m n R f s s') (hd : s.done = false) (hok : OkS m s) {f0 : FunD} {kb : BlkD} (hc : OkC m s.cur f0 kb) (hat : s.cur.at_ = kb.ins.length)
    (y : Fr) (hy : y.fn = s'.cur.fn ∧ y.blk = s'.cur.blk) (hyr : ∀ i, ¬ (s.cur.fn = n ∧ i = R ∧ ¬ (kb.term.arg = (R : Int) ∨ Want f.blocks true s.cur.blk R)) → y.regs i = s.cur.regs i) :
    RelS m n R f (endS m (tickS s) kb.term) (endS t { tickS s' with cur := y } kb.term) := by
  have ha := hr.cur hd
  have hst := hr.stack hd
  have hall := (proper_ok hP).2
  have hF := hall f0 (List.mem_of_getElem? hc.hf)
  have hyf : y.fn = s.cur.fn := hy.1.trans ha.fn
  have hyb : y.blk = s.cur.blk := hy.2.trans ha.blk
  have hreg : ∀ a : Int, 0 ≤ a → kb.term.arg = a → y.regs a.toNat = s.cur.regs a.toNat := fun a h0 e => hyr _ fun h => h.2.2 (.inl (by rw [e]; have := h.2.1; omega))
  have hr2 : RelS m n R f (tickS s) { tickS s' with cur := s'.cur } := ⟨hr.done, hr.trap, hr.value, hr.out, hr.mem, hr.cur, hr.stack⟩
  have hgo : ∀ x : Int, x ∈ kb.term.to → RelS m n R f { tickS s with cur := goToF (m.getD s.cur.fn default) s.cur x.toNat } { tickS s' with cur := goToF (t.getD y.fn default) y x.toNat } := fun x hx => by
    have hx0 := hF.to kb (List.mem_of_getElem? hc.hb) x hx
    have hxn : ((x.toNat : Nat) : Int) ∈ kb.term.to := by rw [show ((x.toNat : Nat) : Int) = x by omega]; exact hx
    refine ⟨hr.done, hr.trap, hr.value, hr.out, hr.mem, fun _ => ?_, fun _ => hst⟩
    by_cases e : s.cur.fn = n
    · have e2 : f0 = f := by
        have h1 := hc.hf
        rw [e, T.hf] at h1
        exact (Option.some.inj h1).symm
      subst e2
      have hA : AgF n R (¬ (kb.term.arg = (R : Int) ∨ Want f0.blocks true s.cur.blk R)) s.cur { y with at_ := s.cur.at_ } := ⟨hyf, hyb, rfl, hyr⟩
      have h2 := goTo_alike hF hc.hb hxn hA
      show AgF n R (¬ wantAt f0 R x.toNat 0) (goToF (m.getD s.cur.fn default) s.cur x.toNat) (goToF (t.getD y.fn default) y x.toNat)
      rw [hyf, e, T.goTo, T.mere]
      exact h2
    · have hre : y.regs = s.cur.regs := funext fun i => hyr i fun h => e h.1
      have hgg : goToF (t.getD y.fn default) y x.toNat = goToF (m.getD s.cur.fn default) s.cur x.toNat := by
        rw [hyf, T.other e]
        unfold goToF phiVals
        rw [hre, hyb, hyf]
      show AgF n R _ (goToF (m.getD s.cur.fn default) s.cur x.toNat) (goToF (t.getD y.fn default) y x.toNat)
      rw [hgg]
      exact ⟨rfl, rfl, rfl, fun _ _ => rfl⟩
  rcases hF.kind kb (List.mem_of_getElem? hc.hb) with ⟨hk, hl⟩ | ⟨hk, hl, harg⟩ | ⟨hk, hl, harg⟩
  · obtain ⟨x, hx⟩ := len_one hl
    have h1 := hgo x (by rw [hx]; simp)
    rw [endS_1 (by omega) (by omega), endS_1 (by omega) (by omega), hx]
    exact h1
  · obtain ⟨x, z, hx⟩ := len_two hl
    have hcond : y.regs kb.term.arg.toNat = s.cur.regs kb.term.arg.toNat := hreg _ harg.1 rfl
    by_cases hz : s.cur.regs kb.term.arg.toNat = 0
    · have h1 := hgo z (by rw [hx]; simp)
      rw [endS_2 (s := tickS s) ⟨hk, hz⟩, endS_2 (s := { tickS s' with cur := y }) ⟨hk, hcond.trans hz⟩, hx]
      exact h1
    · have h1 := hgo x (by rw [hx]; simp)
      rw [endS_1 (s := tickS s) (by omega) (fun h => hz h.2), endS_1 (s := { tickS s' with cur := y }) (by omega) (fun h => hz (hcond.symm.trans h.2)), hx]
      exact h1
  · have hv : (if 0 ≤ kb.term.arg then y.regs kb.term.arg.toNat else 0) = (if 0 ≤ kb.term.arg then s.cur.regs kb.term.arg.toNat else 0) := by
      by_cases h0 : 0 ≤ kb.term.arg
      · rw [if_pos h0, if_pos h0]; exact hreg _ h0 rfl
      · rw [if_neg h0, if_neg h0]
    rw [endS_3 hk, endS_3 hk]
    show RelS m n R f (giveS m (tickS s) (if 0 ≤ kb.term.arg then s.cur.regs kb.term.arg.toNat else 0)) (giveS t { tickS s' with cur := y } (if 0 ≤ kb.term.arg then y.regs kb.term.arg.toNat else 0))
    rw [hv]
    have h3 := give_alike T hr2 hd ⟨hok.cur, hok.stack⟩ (if 0 ≤ kb.term.arg then s.cur.regs kb.term.arg.toNat else 0)
    have e : ∀ v, giveS t { tickS s' with cur := y } v = giveS t { tickS s' with cur := s'.cur } v ∨ (s'.stack = [] ∧ s.stack = []) := fun v => by
      cases hs' : s'.stack with
      | nil =>
        right
        rw [hs'] at hst
        cases hs : s.stack with
        | nil => exact ⟨rfl, rfl⟩
        | cons a l => rw [hs] at hst; cases hst
      | cons a l =>
        left
        unfold giveS
        show (match s'.stack with | [] => _ | c :: r => _) = (match s'.stack with | [] => _ | c :: r => _)
        rw [hs']
    rcases e (if 0 ≤ kb.term.arg then s.cur.regs kb.term.arg.toNat else 0) with e | ⟨e1, e2⟩
    · rw [e]; exact h3
    · unfold giveS
      show RelS m n R f (match s.stack with | [] => _ | c :: r => _) (match s'.stack with | [] => _ | c :: r => _)
      rw [e1, e2]
      exact ⟨rfl, hr.trap, rfl, hr.out, hr.mem, fun h => Bool.noConfusion h, fun h => Bool.noConfusion h⟩
end
end Go.Proofs.Ytcjmhdneelmbhaa

/- Two runs side by side, step by step: plain mathematics. -/
namespace Go.Proofs.Ytcjmhdneelmbhaa
open Go.RowKit
set_option linter.unusedVariables false

section
variable {m t : List FunD} {n B R : Nat} {f : FunD} {kB : BlkD} {c : InsD}
/-- What gives nothing names no register. -/
def NoDst (m : List FunD) : Prop := ∀ g ∈ m, ∀ b ∈ g.blocks, ∀ x ∈ b.ins, (x.op = 16 ∨ x.op = 18) → x.dst = -1
/-- A step of the one: one of the other, or two at the end of that block. -/
theorem step_alike (T : TwoM m t n B R f kB c) (hP : Proper m) (hN : NoDst m) {s s' : St} (hr : RelS m n R f s s') (hd : s.done = false) (hok : OkS m s) : ∃ j, j ≤ 2 ∧ RelS m n R f (stepS m (tickS s)) (loopS t j s') := by
  obtain ⟨f0, kb, hc⟩ := hok.cur
  have ha := hr.cur hd
  have hd' : s'.done = false := hr.done.trans hd
  have hkb : blkOf m s.cur = kb := by unfold blkOf blkAt; rw [getD_of hc.hf, getD_of hc.hb]
  have hfn : s.cur.fn = n → f0 = f := fun e => by
    have h1 := hc.hf
    rw [e, T.hf] at h1
    exact (Option.some.inj h1).symm
  have one : ∀ u : St, u.done = false → loopS t 1 u = stepS t (tickS u) := fun u hu => by simp [loopS, hu]
  have hblk := T.blk s.cur s'.cur ha.fn ha.blk
  rw [hkb] at hblk
  have hF := (proper_ok hP).2 f0 (List.mem_of_getElem? hc.hf)
  by_cases hat : s.cur.at_ = kb.ins.length
  · have hm : stepS m (tickS s) = endS m (tickS s) kb.term := by
      unfold stepS
      show (if s.cur.at_ = (blkOf m s.cur).ins.length then _ else _) = _
      rw [hkb, if_pos hat]
      show endS m (tickS s) (blkOf m s.cur).term = _
      rw [hkb]
    rw [hm]
    by_cases hq : s.cur.fn = n ∧ s.cur.blk = B
    · have e2 : kB = kb := by rw [← hkb, T.blkB hq.1 hq.2]
      rw [if_pos hq, e2] at hblk
      refine ⟨2, Nat.le_refl _, ?_⟩
      have h1 : stepS t (tickS s') = setR (onS s') c.dst c.imm := by
        unfold stepS
        show (if s'.cur.at_ = (blkOf t s'.cur).ins.length then _ else doS (onS s') ((blkOf t s'.cur).ins.getD s'.cur.at_ default)) = _
        rw [hblk, ha.at_, hat]
        rw [if_neg (by simp)]
        show doS (onS s') ((kb.ins ++ [c]).getD kb.ins.length default) = _
        rw [List.getD_eq_getElem?_getD, List.getElem?_append_right (Nat.le_refl _), Nat.sub_self]
        exact doS_1 T.op
      have h2 : loopS t 2 s' = stepS t (tickS (setR (onS s') c.dst c.imm)) := by
        rw [show (2 : Nat) = 1 + 1 from rfl, loopS_add, one s' hd', h1]
        exact one _ hd'
      have h3 : stepS t (tickS (setR (onS s') c.dst c.imm)) = endS t (tickS (setR (onS s') c.dst c.imm)) kb.term := by
        have hb2 : blkOf t (tickS (setR (onS s') c.dst c.imm)).cur = { kb with ins := kb.ins ++ [c] } := hblk
        unfold stepS
        rw [hb2]
        rw [if_pos (show (tickS (setR (onS s') c.dst c.imm)).cur.at_ = (kb.ins ++ [c]).length from by show s'.cur.at_ + 1 = _; rw [ha.at_, hat]; simp)]
      rw [h2, h3]
      have hr2 : RelS m n R f s { s' with steps := s'.steps + 1 } := ⟨hr.done, hr.trap, hr.value, hr.out, hr.mem, hr.cur, hr.stack⟩
      refine end_alike T hP hr2 hd hok hc hat { s'.cur with at_ := s'.cur.at_ + 1, regs := upd s'.cur.regs c.dst.toNat c.imm } ⟨rfl, rfl⟩ (fun i hi => ?_)
      have hdead : ¬ (kb.term.arg = (R : Int) ∨ Want f.blocks true s.cur.blk R) := by
        rintro (h | h)
        · exact T.arg (by rw [e2]; exact h)
        · rw [hq.2] at h; exact T.dead h
      have hiR : i ≠ R := fun e => hi ⟨hq.1, e, hdead⟩
      show upd s'.cur.regs c.dst.toNat c.imm i = s.cur.regs i
      unfold upd
      rw [if_neg (by rw [T.dst]; simpa using hiR)]
      exact ha.regs i fun h => hiR h.2.1
    · rw [if_neg hq] at hblk
      refine ⟨1, by omega, ?_⟩
      have h1 : stepS t (tickS s') = endS t (tickS s') kb.term := by
        unfold stepS
        show (if s'.cur.at_ = (blkOf t s'.cur).ins.length then endS t (tickS s') (blkOf t s'.cur).term else _) = _
        rw [hblk, if_pos (ha.at_.trans hat)]
      rw [one s' hd', h1]
      refine end_alike T hP hr hd hok hc hat s'.cur ⟨rfl, rfl⟩ (fun i hi => ha.regs i fun h => hi ⟨h.1, h.2.1, fun hw => h.2.2 ?_⟩)
      have hb2 : f.blocks[s.cur.blk]? = some kb := by rw [← hfn h.1]; exact hc.hb
      rw [hat]
      exact (wantAt_end hb2).2 hw
  · have hlt : s.cur.at_ < kb.ins.length := by have := hc.hat; omega
    have hx : kb.ins[s.cur.at_]? = some kb.ins[s.cur.at_] := List.getElem?_eq_getElem hlt
    generalize kb.ins[s.cur.at_] = x at hx
    have hI := hF.ins kb (List.mem_of_getElem? hc.hb) x (List.mem_of_getElem? hx)
    have hno := hN f0 (List.mem_of_getElem? hc.hf) kb (List.mem_of_getElem? hc.hb) x (List.mem_of_getElem? hx)
    have hm : stepS m (tickS s) = doS (onS s) x := by
      unfold stepS
      show (if s.cur.at_ = (blkOf m s.cur).ins.length then _ else doS (onS s) ((blkOf m s.cur).ins.getD s.cur.at_ default)) = _
      rw [hkb, if_neg hat, getD_of hx]
    have hins : (blkOf t s'.cur).ins[s.cur.at_]? = some x := by
      rw [hblk]
      by_cases hq : s.cur.fn = n ∧ s.cur.blk = B
      · have e2 : kB = kb := by rw [← hkb, T.blkB hq.1 hq.2]
        rw [if_pos hq, e2]
        show (kb.ins ++ [c])[s.cur.at_]? = some x
        rw [List.getElem?_append_left hlt, hx]
      · rw [if_neg hq]; exact hx
    have ht1 : stepS t (tickS s') = doS (onS s') x := by
      unfold stepS
      show (if s'.cur.at_ = (blkOf t s'.cur).ins.length then _ else doS (onS s') ((blkOf t s'.cur).ins.getD s'.cur.at_ default)) = _
      rw [ha.at_, if_neg (by have := (List.getElem?_eq_some_iff.1 hins).1; omega), getD_of hins]
    refine ⟨1, by omega, ?_⟩
    rw [hm, one s' hd', ht1]
    exact do_alike T.hf hr hd hc hx hI hno
theorem tick_ok {s : St} (h : OkS m s) : OkS m (tickS s) := ⟨h.cur, h.stack⟩
/-- So many steps of the one: at most twice as many of the other. -/
theorem loop_alike (T : TwoM m t n B R f kB c) (hP : Proper m) (hN : NoDst m) : ∀ (k : Nat) (s s' : St), RelS m n R f s s' → OkS m s → ∃ j, j ≤ 2 * k ∧ RelS m n R f (loopS m k s) (loopS t j s') := by
  intro k
  induction k with
  | zero => intro s s' hr _; exact ⟨0, by omega, hr⟩
  | succ k ih =>
    intro s s' hr hok
    cases hd : s.done with
    | true => exact ⟨0, by omega, by rw [loopS_done hd]; exact hr⟩
    | false =>
      obtain ⟨j, hj, h1⟩ := step_alike T hP hN hr hd hok
      obtain ⟨j2, hj2, h2⟩ := ih _ _ h1 (step_ok hP (tick_ok hok))
      refine ⟨j + j2, by omega, ?_⟩
      have e : loopS m (k + 1) s = loopS m k (stepS m (tickS s)) := by simp [loopS, hd]
      rw [e, loopS_add t]
      exact h2
/-- What a run does is what the other does, with twice as many steps. -/
theorem run_alike (T : TwoM m t n B R f kB c) (hP : Proper m) (hN : NoDst m) (f0 : Nat) (args : List Int) (k : Nat) (hok : OkS m (startS f0 args)) :
    ((runS m f0 args k).done = true → (runS t f0 args (2 * k)).done = true ∧ (runS t f0 args (2 * k)).trap = (runS m f0 args k).trap ∧ (runS t f0 args (2 * k)).value = (runS m f0 args k).value ∧ (runS t f0 args (2 * k)).out = (runS m f0 args k).out ∧ (runS t f0 args (2 * k)).mem = (runS m f0 args k).mem) ∧
    ∃ r, (runS t f0 args (2 * k)).out = (runS m f0 args k).out ++ r := by
  obtain ⟨j, hj, h⟩ := loop_alike T hP hN k _ _ (RelS.start f0 args) hok
  have e : runS t f0 args (2 * k) = loopS t (2 * k - j) (loopS t j (startS f0 args)) := by
    rw [← loopS_add]; unfold runS; congr 1; omega
  refine ⟨fun hd => ?_, ?_⟩
  · have hd2 : (loopS t j (startS f0 args)).done = true := h.done.trans hd
    rw [e, loopS_done hd2]
    exact ⟨hd2, h.trap, h.value, h.out, h.mem⟩
  · obtain ⟨r, hr⟩ := loopS_out t (2 * k - j) (loopS t j (startS f0 args))
    exact ⟨r, by rw [e, hr, h.out]; rfl⟩
end
end Go.Proofs.Ytcjmhdneelmbhaa

/- Of a proper module: what gives nothing names no register; two runs side by side, of proper modules: plain mathematics. -/
namespace Go.Proofs.Ytcjmhdneelmbhaa
open Go.ChangeShapes Go.WideShapes Go.RowKit Go.Deep
set_option linter.unusedVariables false

theorem ins_no {m : List FunD} {f : FunD} {x : InsD} (h : insE m f x = 0) (ho : x.op = 16 ∨ x.op = 18) : x.dst = -1 := by
  unfold insE at h
  rw [if_neg (by omega)] at h
  have hs : ∃ ts, sigOf f x = some (ts, 0) := by
    unfold sigOf
    rcases ho with ho | ho
    · rw [if_neg (by omega), if_neg (by omega), if_neg (by omega), if_neg (by omega), if_neg (by omega), if_pos ho]; exact ⟨_, rfl⟩
    · rw [if_neg (by omega), if_neg (by omega), if_neg (by omega), if_neg (by omega), if_neg (by omega), if_neg (by omega), if_pos ho]; exact ⟨_, rfl⟩
  obtain ⟨ts, hs⟩ := hs
  rw [hs] at h
  obtain ⟨-, h⟩ := ite_zero (by decide) h
  obtain ⟨-, g2⟩ := rest_in h
  rcases g2 with g2 | g2
  · exact g2.2
  · exact absurd g2.1 (by decide)
theorem noDst_of {m : List FunD} (hp : Proper m) : NoDst m := fun g hg b hb x hx ho => by
  have h0 : funE m g = 0 := (proper_iff.1 hp).2 g hg
  obtain ⟨-, hbs⟩ := funE_zero.1 h0
  exact ins_no ((blockE_zero.1 (hbs b hb)).2.1 x hx) ho
/-- What a run does is what the other does, with twice as many steps. -/
theorem runs_alike {m t : List FunD} {n B R : Nat} {f g : FunD} {kB : BlkD} {c : InsD} (T : TwoM m t n B R f kB c) (hP : Proper m) {f0 : Nat} (hg : m[f0]? = some g) {args : List Int} (ha : (args.length : Int) = g.params) (k : Nat) :
    ((runS m f0 args k).done = true → (runS t f0 args (2 * k)).done = true ∧ (runS t f0 args (2 * k)).trap = (runS m f0 args k).trap ∧ (runS t f0 args (2 * k)).value = (runS m f0 args k).value ∧ (runS t f0 args (2 * k)).out = (runS m f0 args k).out ∧ (runS t f0 args (2 * k)).mem = (runS m f0 args k).mem) ∧
    ∃ r, (runS t f0 args (2 * k)).out = (runS m f0 args k).out ++ r := by
  have hF := (proper_ok hP).2 g (List.mem_of_getElem? hg)
  have hb0 : 0 < g.blocks.length := hF.nb.1
  exact run_alike T hP (noDst_of hP) f0 args k ⟨⟨g, g.blocks[0], hg, List.getElem?_eq_getElem hb0, Nat.zero_le _, firstR_zero (by have := hF.par.2.2; omega)⟩, fun c hc => by cases hc⟩
/-- The other module is small too. -/
theorem TwoM.small {m t : List FunD} {n B R : Nat} {f : FunD} {kB : BlkD} {c : InsD} (T : TwoM m t n B R f kB c) (hP : Proper m) (hs : SmallM m) (hc : c.args.length ≤ 300) : SmallM t := by
  have hF := (proper_ok hP).2 f (List.mem_of_getElem? T.hf)
  have hi := hF.items kB (List.mem_of_getElem? T.hB)
  have hsf := hs.2 f (List.mem_of_getElem? T.hf)
  have hsb := hsf.2.2.2 kB (List.mem_of_getElem? T.hB)
  rw [T.ht]
  refine ⟨by rw [List.length_set]; exact hs.1, fun g hg => ?_⟩
  rcases List.mem_or_eq_of_mem_set hg with hg | rfl
  · exact hs.2 g hg
  · refine ⟨by show (f.blocks.set _ _).length ≤ 70; rw [List.length_set]; exact hsf.1, hsf.2.1, hsf.2.2.1, fun b hb => ?_⟩
    rcases List.mem_or_eq_of_mem_set hb with hb | rfl
    · exact hsf.2.2.2 b hb
    · refine ⟨by show (kB.ins ++ [c]).length ≤ 300; rw [List.length_append]; simp; omega, hsb.2.1, hsb.2.2.1, fun x hx => ?_, hsb.2.2.2.2⟩
      rcases List.mem_append.1 hx with hx | hx
      · exact hsb.2.2.2.1 x hx
      · rw [List.mem_singleton.1 hx]; exact hc
/-- It takes the same arguments. -/
theorem TwoM.same {m t : List FunD} {n B R : Nat} {f : FunD} {kB : BlkD} {c : InsD} (T : TwoM m t n B R f kB c) (i : Nat) : (t.getD i default).params = (m.getD i default).params ∧ (t.getD i default).regs = (m.getD i default).regs ∧ (t.getD i default).result = (m.getD i default).result := by
  by_cases e : i = n
  · subst e; rw [T.here, T.mere]; exact ⟨rfl, rfl, rfl⟩
  · rw [T.other e]; exact ⟨rfl, rfl, rfl⟩
end Go.Proofs.Ytcjmhdneelmbhaa
