/- The document's deque in memory: Step, Result, New. -/
import Derived.Test.YtacadgocoleaoaaDqRJ
import Derived.Test.YtacadgocoleaoaaAheadLJ
namespace Go.Proofs.Ytacadgocoleaoaa
open Go.ChangeShapes Go.WideShapes Go.RowKit Go.Deep
set_option linter.unusedVariables false

/-- Its number matters. -/
def NumC (o : OpS) : Prop := o.kind = 1 ∨ (3 ≤ o.next ∧ o.got ≠ 2)
def RfOp (w : World) (r : Nat) (o : OpS) (x : Int) : Prop := RfO w r o.kind o.next o.b o.t x o.got o.won
structure RfS (w : World) (M C : Nat) (s : DqS) (bz : Bool) : Prop where
  d : RfD w M C s.cells s.top s.bot bz
structure RfT (w : World) (M C r : Nat) (s : DqS) (o : OpS) (bz : Bool) (w' : World) : Prop where
  sd : RfS w' M C (stepD s o).1 (if (stepD s o).2.got ≠ 0 ∧ o.kind ≠ 3 then false else bz)
  od : ∃ x, RfOp w' r (stepD s o).2 x ∧ (NumC (stepD s o).2 → x = (stepD s o).2.x)
  fr : FrX (RfX M C r) w w'
section
variable {w : World} {M C r : Nat} {s : DqS} {o : OpS} {x : Int} {bz : Bool}
/-- What push, pop or steal makes of them. -/
structure RfK (w : World) (M C r : Nat) (s : DqS) (o : OpS) (bz : Bool) (w' : World) : Prop where
  sd : RfS w' M C (stepD s o).1 bz
  od : ∃ x, RfOp w' r (stepD s o).2 x ∧ (NumC (stepD s o).2 → x = (stepD s o).2.x)
  fr : FrX (RfX M C r) w w'
theorem refKind (i : Int) (hi : i < 1000000) (hbs : BdS s i) (hbo : BdO o i) (hsf : Safe s o) (ha : RfA M C r) (hd : RfS w M C s bz) (ho : RfO w r o.kind (o.next + 1) o.b o.t x 0 o.won) (hx : NumC o → x = o.x) :
    Calls Try.prog (if o.kind = 1 then 25 else if o.kind = 2 then 26 else 27) #[.pointer (some ⟨M, 0, none⟩), .pointer (some ⟨r, 0, none⟩)] w fun e w' => e = .returned (.tuple #[]) ∧ RfK w M C r s o bz w' := by
  obtain ⟨hg, hin⟩ := hsf.in_
  obtain ⟨b0, b1, t0, t1⟩ := hbs
  obtain ⟨x0, x1, y0, y1⟩ := hbo
  have hd := hd.d
  rcases hin with ⟨hk, hn⟩ | ⟨hk, hn⟩ | ⟨hk, hn⟩
  · rw [if_pos hk]
    have hx := hx (.inl hk)
    subst hx
    rcases (show o.next = 0 ∨ o.next = 1 ∨ o.next = 2 ∨ o.next = 3 by omega) with h | h | h | h
    · rw [h] at ho
      refine (rpush_a ha hd ho).mono ?_
      rintro e w' ⟨rfl, h1, h2, h3⟩
      have hs : stepD s o = (s, { o with next := 1, b := s.bot }) := by unfold stepD stepPush; rw [if_pos hk]; rw [if_pos h]
      exact ⟨rfl, by rw [hs]; exact ⟨h1⟩, ⟨o.x, by rw [hs]; unfold RfOp; dsimp only; rw [hg]; exact h2, fun _ => by rw [hs]⟩, h3⟩
    · rw [h] at ho
      refine (rpush_b ha hd ho (by omega) (by omega) (by omega) (by omega)).mono ?_
      rintro e w' ⟨rfl, h1, h2, h3⟩
      by_cases hc : 64 ≤ o.b - s.top
      · rw [if_pos hc] at h2
        have hs : stepD s o = (s, { o with next := 2, t := s.top, got := 3 }) := by unfold stepD stepPush; rw [if_pos hk]; rw [if_neg (by omega)]; rw [if_pos h]; rw [if_pos hc]
        exact ⟨rfl, by rw [hs]; exact ⟨h1⟩, ⟨o.x, by rw [hs]; unfold RfOp; dsimp only; exact h2, fun _ => by rw [hs]⟩, h3⟩
      · rw [if_neg hc] at h2
        have hs : stepD s o = (s, { o with next := 2, t := s.top, got := 0 }) := by unfold stepD stepPush; rw [if_pos hk]; rw [if_neg (by omega)]; rw [if_pos h]; rw [if_neg hc]
        exact ⟨rfl, by rw [hs]; exact ⟨h1⟩, ⟨o.x, by rw [hs]; unfold RfOp; dsimp only; exact h2, fun _ => by rw [hs]⟩, h3⟩
    · rw [h] at ho
      have hcell := hsf.cell hk h
      refine (rpush_c ha hd ho hcell).mono ?_
      rintro e w' ⟨rfl, h1, h2, h3⟩
      have hs : stepD s o = ({ s with cells := setC s.cells (cellI o.b) o.x }, { o with next := 3 }) := by unfold stepD stepPush; rw [if_pos hk]; rw [if_neg (by omega)]; rw [if_neg (by omega)]; rw [if_pos h]
      exact ⟨rfl, by rw [hs]; exact ⟨h1⟩, ⟨o.x, by rw [hs]; unfold RfOp; dsimp only; rw [hg]; exact h2, fun _ => by rw [hs]⟩, h3⟩
    · rw [h] at ho
      refine (rpush_d ha hd ho (by omega) (by omega)).mono ?_
      rintro e w' ⟨rfl, h1, h2, h3⟩
      have hs : stepD s o = ({ s with bot := o.b + 1 }, { o with next := 4, got := 1 }) := by unfold stepD stepPush; rw [if_pos hk]; rw [if_neg (by omega)]; rw [if_neg (by omega)]; rw [if_neg (by omega)]
      exact ⟨rfl, by rw [hs]; exact ⟨h1⟩, ⟨o.x, by rw [hs]; unfold RfOp; dsimp only; exact h2, fun _ => by rw [hs]⟩, h3⟩
  · rw [if_neg (by omega), if_pos hk]
    rcases (show o.next = 0 ∨ o.next = 1 ∨ o.next = 2 ∨ o.next = 3 ∨ o.next = 4 by omega) with h | h | h | h | h
    · rw [h] at ho
      refine (rpop_a ha hd ho (by omega) (by omega)).mono ?_
      rintro e w' ⟨rfl, h1, h2, h3⟩
      have hs : stepD s o = ({ s with bot := s.bot - 1 }, { o with next := 1, b := s.bot }) := by unfold stepD stepPop; rw [if_neg (by omega), if_pos hk]; rw [if_pos h]
      exact ⟨rfl, by rw [hs]; exact ⟨h1⟩, ⟨x, by rw [hs]; unfold RfOp; dsimp only; rw [hg]; exact h2, fun q => by rw [hs] at q; rcases q with q | ⟨q, q2⟩ <;> dsimp only at q <;> (try dsimp only at q2) <;> omega⟩, h3⟩
    · rw [h] at ho
      refine (rpop_b ha hd ho).mono ?_
      rintro e w' ⟨rfl, h1, h2, h3⟩
      have hs : stepD s o = (s, { o with next := 2, t := s.top }) := by unfold stepD stepPop; rw [if_neg (by omega), if_pos hk]; rw [if_neg (by omega)]; rw [if_pos h]
      exact ⟨rfl, by rw [hs]; exact ⟨h1⟩, ⟨x, by rw [hs]; unfold RfOp; dsimp only; rw [hg]; exact h2, fun q => by rw [hs] at q; rcases q with q | ⟨q, q2⟩ <;> dsimp only at q <;> (try dsimp only at q2) <;> omega⟩, h3⟩
    · rw [h] at ho
      by_cases hlt : o.b - 1 < o.t
      · refine (rpop_c1 ha hd ho (by omega) (by omega) (by omega) (by omega) hlt).mono ?_
        rintro e w' ⟨rfl, h1, h2, h3⟩
        have hs : stepD s o = ({ s with bot := o.b }, { o with next := 3, got := 2 }) := by unfold stepD stepPop; rw [if_neg (by omega), if_pos hk]; rw [if_neg (by omega)]; rw [if_neg (by omega)]; rw [if_pos h]; rw [if_pos hlt]
        exact ⟨rfl, by rw [hs]; exact ⟨h1⟩, ⟨x, by rw [hs]; unfold RfOp; dsimp only; exact h2, fun q => by rw [hs] at q; rcases q with q | ⟨q, q2⟩ <;> dsimp only at q <;> (try dsimp only at q2) <;> omega⟩, h3⟩
      · refine (rpop_c2 ha hd ho (by omega) (by omega) (by omega) (by omega) hlt).mono ?_
        rintro e w' ⟨rfl, h1, h2, h3⟩
        by_cases hf : o.t < o.b - 1
        · rw [if_pos hf] at h2
          have hs : stepD s o = (s, { o with next := 3, x := s.cells (cellI (o.b - 1)), got := 1 }) := by unfold stepD stepPop; rw [if_neg (by omega), if_pos hk]; rw [if_neg (by omega)]; rw [if_neg (by omega)]; rw [if_pos h]; rw [if_neg hlt, if_pos hf]
          exact ⟨rfl, by rw [hs]; exact ⟨h1⟩, ⟨_, by rw [hs]; unfold RfOp; dsimp only; exact h2, fun _ => by rw [hs]⟩, h3⟩
        · rw [if_neg hf] at h2
          have hs : stepD s o = (s, { o with next := 3, x := s.cells (cellI (o.b - 1)), got := 0 }) := by unfold stepD stepPop; rw [if_neg (by omega), if_pos hk]; rw [if_neg (by omega)]; rw [if_neg (by omega)]; rw [if_pos h]; rw [if_neg hlt, if_neg hf]
          exact ⟨rfl, by rw [hs]; exact ⟨h1⟩, ⟨_, by rw [hs]; unfold RfOp; dsimp only; exact h2, fun _ => by rw [hs]⟩, h3⟩
    · rw [h] at ho
      refine (rpop_d ha hd ho (by omega) (by omega)).mono ?_
      rintro e w' ⟨rfl, h1, h2, h3⟩
      by_cases hf : s.top = o.t
      · rw [if_pos hf] at h1
        rw [decide_eq_true hf] at h2
        have hs : stepD s o = ({ s with top := o.t + 1 }, { o with next := 4, won := true }) := by unfold stepD stepPop; rw [if_neg (by omega), if_pos hk]; rw [if_neg (by omega)]; rw [if_neg (by omega)]; rw [if_neg (by omega)]; rw [if_pos h]; rw [if_pos hf]
        exact ⟨rfl, by rw [hs]; exact ⟨h1⟩, ⟨x, by rw [hs]; unfold RfOp; dsimp only; rw [hg]; exact h2, fun _ => by rw [hs]; exact hx (.inr ⟨by omega, by omega⟩)⟩, h3⟩
      · rw [if_neg hf] at h1
        rw [decide_eq_false hf] at h2
        have hs : stepD s o = (s, { o with next := 4, won := false }) := by unfold stepD stepPop; rw [if_neg (by omega), if_pos hk]; rw [if_neg (by omega)]; rw [if_neg (by omega)]; rw [if_neg (by omega)]; rw [if_pos h]; rw [if_neg hf]
        exact ⟨rfl, by rw [hs]; exact ⟨h1⟩, ⟨x, by rw [hs]; unfold RfOp; dsimp only; rw [hg]; exact h2, fun _ => by rw [hs]; exact hx (.inr ⟨by omega, by omega⟩)⟩, h3⟩
    · rw [h] at ho
      refine (rpop_e ha hd ho).mono ?_
      rintro e w' ⟨rfl, h1, h2, h3⟩
      cases hwn : o.won
      · rw [hwn, if_neg (by decide)] at h2
        have hs : stepD s o = ({ s with bot := o.b }, { o with next := 5, got := 2 }) := by unfold stepD stepPop; rw [if_neg (by omega), if_pos hk]; rw [if_neg (by omega)]; rw [if_neg (by omega)]; rw [if_neg (by omega)]; rw [if_neg (by omega)]; rw [hwn, if_neg (by decide)]
        exact ⟨rfl, by rw [hs]; exact ⟨h1⟩, ⟨x, by rw [hs]; unfold RfOp; dsimp only; rw [hwn]; exact h2, fun _ => by rw [hs]; exact hx (.inr ⟨by omega, by omega⟩)⟩, h3⟩
      · rw [hwn, if_pos rfl] at h2
        have hs : stepD s o = ({ s with bot := o.b }, { o with next := 5, got := 1 }) := by unfold stepD stepPop; rw [if_neg (by omega), if_pos hk]; rw [if_neg (by omega)]; rw [if_neg (by omega)]; rw [if_neg (by omega)]; rw [if_neg (by omega)]; rw [hwn, if_pos rfl]
        exact ⟨rfl, by rw [hs]; exact ⟨h1⟩, ⟨x, by rw [hs]; unfold RfOp; dsimp only; rw [hwn]; exact h2, fun _ => by rw [hs]; exact hx (.inr ⟨by omega, by omega⟩)⟩, h3⟩
  · rw [if_neg (by omega), if_neg (by omega)]
    rcases (show o.next = 0 ∨ o.next = 1 ∨ o.next = 2 ∨ o.next = 3 by omega) with h | h | h | h
    · rw [h] at ho
      refine (rsteal_a ha hd ho).mono ?_
      rintro e w' ⟨rfl, h1, h2, h3⟩
      have hs : stepD s o = (s, { o with next := 1, t := s.top }) := by unfold stepD stepSteal; rw [if_neg (by omega), if_neg (by omega)]; rw [if_pos h]
      exact ⟨rfl, by rw [hs]; exact ⟨h1⟩, ⟨x, by rw [hs]; unfold RfOp; dsimp only; rw [hg]; exact h2, fun q => by rw [hs] at q; rcases q with q | ⟨q, q2⟩ <;> dsimp only at q <;> (try dsimp only at q2) <;> omega⟩, h3⟩
    · rw [h] at ho
      refine (rsteal_b ha hd ho).mono ?_
      rintro e w' ⟨rfl, h1, h2, h3⟩
      by_cases hc : s.bot ≤ o.t
      · rw [if_pos hc] at h2
        have hs : stepD s o = (s, { o with next := 2, b := s.bot, got := 2 }) := by unfold stepD stepSteal; rw [if_neg (by omega), if_neg (by omega)]; rw [if_neg (by omega)]; rw [if_pos h]; rw [if_pos hc]
        exact ⟨rfl, by rw [hs]; exact ⟨h1⟩, ⟨x, by rw [hs]; unfold RfOp; dsimp only; exact h2, fun q => by rw [hs] at q; rcases q with q | ⟨q, q2⟩ <;> dsimp only at q <;> (try dsimp only at q2) <;> omega⟩, h3⟩
      · rw [if_neg hc] at h2
        have hs : stepD s o = (s, { o with next := 2, b := s.bot, got := 0 }) := by unfold stepD stepSteal; rw [if_neg (by omega), if_neg (by omega)]; rw [if_neg (by omega)]; rw [if_pos h]; rw [if_neg hc]
        exact ⟨rfl, by rw [hs]; exact ⟨h1⟩, ⟨x, by rw [hs]; unfold RfOp; dsimp only; exact h2, fun q => by rw [hs] at q; rcases q with q | ⟨q, q2⟩ <;> dsimp only at q <;> (try dsimp only at q2) <;> omega⟩, h3⟩
    · rw [h] at ho
      refine (rsteal_c ha hd ho y0).mono ?_
      rintro e w' ⟨rfl, h1, h2, h3⟩
      have hs : stepD s o = (s, { o with next := 3, x := s.cells (cellI o.t) }) := by unfold stepD stepSteal; rw [if_neg (by omega), if_neg (by omega)]; rw [if_neg (by omega)]; rw [if_neg (by omega)]; rw [if_pos h]
      exact ⟨rfl, by rw [hs]; exact ⟨h1⟩, ⟨_, by rw [hs]; unfold RfOp; dsimp only; rw [hg]; exact h2, fun _ => by rw [hs]⟩, h3⟩
    · rw [h] at ho
      refine (rsteal_d ha hd ho (by omega) (by omega)).mono ?_
      rintro e w' ⟨rfl, h1, h2, h3⟩
      by_cases hf : s.top = o.t
      · rw [if_pos hf] at h1 h2
        have hs : stepD s o = ({ s with top := o.t + 1 }, { o with next := 4, got := 1 }) := by unfold stepD stepSteal; rw [if_neg (by omega), if_neg (by omega)]; rw [if_neg (by omega)]; rw [if_neg (by omega)]; rw [if_neg (by omega)]; rw [if_pos hf]
        exact ⟨rfl, by rw [hs]; exact ⟨h1⟩, ⟨x, by rw [hs]; unfold RfOp; dsimp only; exact h2, fun _ => by rw [hs]; exact hx (.inr ⟨by omega, by omega⟩)⟩, h3⟩
      · rw [if_neg hf] at h1 h2
        have hs : stepD s o = (s, { o with next := 4, got := 4 }) := by unfold stepD stepSteal; rw [if_neg (by omega), if_neg (by omega)]; rw [if_neg (by omega)]; rw [if_neg (by omega)]; rw [if_neg (by omega)]; rw [if_neg hf]
        exact ⟨rfl, by rw [hs]; exact ⟨h1⟩, ⟨x, by rw [hs]; unfold RfOp; dsimp only; exact h2, fun _ => by rw [hs]; exact hx (.inr ⟨by omega, by omega⟩)⟩, h3⟩
set_option maxHeartbeats 1000000 in
theorem refStep (i : Int) (hi : i < 1000000) (hbs : BdS s i) (hbo : BdO o i) (hsf : Safe s o) (ha : RfA M C r) (hd : RfS w M C s bz) (ho : RfOp w r o x) (hx : NumC o → x = o.x) :
    Calls Try.prog 12 #[.pointer (some ⟨M, 0, none⟩), .pointer (some ⟨r, 0, none⟩)] w fun e w' => e = .returned (.tuple #[]) ∧ RfT w M C r s o bz w' := by
  obtain ⟨hg, hin⟩ := hsf.in_
  have hnx := step_next s hsf.in_
  have hn4 : o.next ≤ 4 := by rcases hin with q | q | q <;> omega
  have hnI : (o.next : Int) ≤ 4 := by omega
  unfold RfOp at ho
  rw [hg] at ho
  have c0 : w.cell? ⟨r, 0, none⟩ = some (.int .i64 o.kind) := cell_of_block ho 0
  have c1 : w.cell? ⟨r, 1, none⟩ = some (.int .i64 o.next) := cell_of_block ho 1
  have f1 := free_of_block ho 1
  have ho1 : RfO (w.setCell ⟨r, 1, none⟩ (.int .i64 ((o.next : Int) + 1))) r o.kind (o.next + 1) o.b o.t x 0 o.won := RfO.nx1 (g := 0) ho _
  have HC := Lib.hid (refKind i hi hbs hbo hsf ha ⟨hd.d.setP ha 1 (.int .i64 ((o.next : Int) + 1))⟩ ho1 hx)
  have k0 : (w.setCell ⟨r, 1, none⟩ (.int .i64 ((o.next : Int) + 1))).cell? ⟨r, 0, none⟩ = some (.int .i64 o.kind) := cell_of_block ho1 0
  have hk3 : o.kind = 1 ∨ o.kind = 2 ∨ o.kind = 3 := by rcases hin with q | q | q <;> omega
  have HKD := Lib.hid hnx.2
  have hfr0 : FrX (RfX M C r) w (w.setCell ⟨r, 1, none⟩ (.int .i64 ((o.next : Int) + 1))) := frx_P (FrX.refl _ _) _ _
  clear ho ho1 hd hbs hbo hsf hin hx hnx hn4
  go_enter Try.func12, Try.ntmps12
  go_upto_region 1 with fail
  obtain ⟨wS, hwS⟩ : ∃ wS, wS = w.setCell ⟨r, 1, none⟩ (.int .i64 ((o.next : Int) + 1)) := ⟨_, rfl⟩
  rw [← hwS] at HC k0 hfr0 ⊢
  have HFR := Lib.hid hfr0
  clear hwS hfr0 c0 c1 f1
  rcases hk3 with hk | hk | hk
  · rw [if_pos hk] at HC
    rw [hk] at k0
    have HK := Lib.hid hk
    clear hk
    go_wp2_with fail
    refine HC.out.mono ?_
    rintro e w2 ⟨rfl, hS, ⟨x2, hO, hX⟩, hF⟩
    obtain ⟨g2, hg2⟩ : ∃ g2, (stepD s o).2.got = g2 := ⟨_, rfl⟩
    have HG2 := Lib.hid hg2
    have hO' := hO
    unfold RfOp at hO'
    rw [HKD.out, HK.out, hg2] at hO'
    have e0 : w2.cell? ⟨r, 0, none⟩ = some (.int .i64 1) := cell_of_block hO' 0
    have e5 : w2.cell? ⟨r, 5, none⟩ = some (.int .i64 g2) := cell_of_block hO' 5
    have e3 : w2.frozen? ⟨M, 3, none⟩ = false := free_of_block hS.d.box 3
    have e4 : w2.cell? ⟨M, 3, none⟩ = some (.bool bz) := cell_of_block hS.d.box 3
    have HS := Lib.hid hS
    have HO := Lib.hid hO
    have HX := Lib.hid hX
    have HF := Lib.hid (HFR.out.trans hF)
    clear hg2 hO hO' hX hF hS HC
    by_cases hz : g2 = 0
    · have hzI : ((g2 : Int) != 0) = false := by simp [hz]
      have HE : Hid ((if (stepD s o).2.got ≠ 0 ∧ o.kind ≠ 3 then false else bz) = bz) := Lib.hid (by rw [if_neg (fun q => q.1 (HG2.out.trans hz))])
      clear hz
      go_wp2_with fail
      go_end0
      exact ⟨rfl, ⟨by rw [HE.out]; exact HS.out, ⟨x2, HO.out, HX.out⟩, HF.out⟩⟩
    · have hzI : ((g2 : Int) != 0) = true := by simp; omega
      have HE : Hid ((if (stepD s o).2.got ≠ 0 ∧ o.kind ≠ 3 then false else bz) = false) := Lib.hid (by rw [if_pos ⟨by rw [HG2.out]; exact hz, by rw [HK.out]; decide⟩])
      clear hz
      go_wp2_with fail
      go_end0
      exact ⟨rfl, ⟨by rw [HE.out]; exact ⟨HS.out.d.setBusy ha false⟩, ⟨x2, RfO.setM HO.out ha 3 _, HX.out⟩, frx_M HF.out 3 _⟩⟩
  · rw [if_neg (by omega), if_pos hk] at HC
    rw [hk] at k0
    have HK := Lib.hid hk
    clear hk
    go_wp2_with fail
    refine HC.out.mono ?_
    rintro e w2 ⟨rfl, hS, ⟨x2, hO, hX⟩, hF⟩
    obtain ⟨g2, hg2⟩ : ∃ g2, (stepD s o).2.got = g2 := ⟨_, rfl⟩
    have HG2 := Lib.hid hg2
    have hO' := hO
    unfold RfOp at hO'
    rw [HKD.out, HK.out, hg2] at hO'
    have e0 : w2.cell? ⟨r, 0, none⟩ = some (.int .i64 2) := cell_of_block hO' 0
    have e5 : w2.cell? ⟨r, 5, none⟩ = some (.int .i64 g2) := cell_of_block hO' 5
    have e3 : w2.frozen? ⟨M, 3, none⟩ = false := free_of_block hS.d.box 3
    have e4 : w2.cell? ⟨M, 3, none⟩ = some (.bool bz) := cell_of_block hS.d.box 3
    have HS := Lib.hid hS
    have HO := Lib.hid hO
    have HX := Lib.hid hX
    have HF := Lib.hid (HFR.out.trans hF)
    clear hg2 hO hO' hX hF hS HC
    by_cases hz : g2 = 0
    · have hzI : ((g2 : Int) != 0) = false := by simp [hz]
      have HE : Hid ((if (stepD s o).2.got ≠ 0 ∧ o.kind ≠ 3 then false else bz) = bz) := Lib.hid (by rw [if_neg (fun q => q.1 (HG2.out.trans hz))])
      clear hz
      go_wp2_with fail
      go_end0
      exact ⟨rfl, ⟨by rw [HE.out]; exact HS.out, ⟨x2, HO.out, HX.out⟩, HF.out⟩⟩
    · have hzI : ((g2 : Int) != 0) = true := by simp; omega
      have HE : Hid ((if (stepD s o).2.got ≠ 0 ∧ o.kind ≠ 3 then false else bz) = false) := Lib.hid (by rw [if_pos ⟨by rw [HG2.out]; exact hz, by rw [HK.out]; decide⟩])
      clear hz
      go_wp2_with fail
      go_end0
      exact ⟨rfl, ⟨by rw [HE.out]; exact ⟨HS.out.d.setBusy ha false⟩, ⟨x2, RfO.setM HO.out ha 3 _, HX.out⟩, frx_M HF.out 3 _⟩⟩
  · rw [if_neg (by omega), if_neg (by omega)] at HC
    rw [hk] at k0
    have HK := Lib.hid hk
    clear hk
    go_wp2_with fail
    refine HC.out.mono ?_
    rintro e w2 ⟨rfl, hS, ⟨x2, hO, hX⟩, hF⟩
    obtain ⟨g2, hg2⟩ : ∃ g2, (stepD s o).2.got = g2 := ⟨_, rfl⟩
    have HG2 := Lib.hid hg2
    have hO' := hO
    unfold RfOp at hO'
    rw [HKD.out, HK.out, hg2] at hO'
    have e0 : w2.cell? ⟨r, 0, none⟩ = some (.int .i64 3) := cell_of_block hO' 0
    have e5 : w2.cell? ⟨r, 5, none⟩ = some (.int .i64 g2) := cell_of_block hO' 5
    have e3 : w2.frozen? ⟨M, 3, none⟩ = false := free_of_block hS.d.box 3
    have e4 : w2.cell? ⟨M, 3, none⟩ = some (.bool bz) := cell_of_block hS.d.box 3
    have HS := Lib.hid hS
    have HO := Lib.hid hO
    have HX := Lib.hid hX
    have HF := Lib.hid (HFR.out.trans hF)
    clear hg2 hO hO' hX hF hS HC
    by_cases hz : g2 = 0
    · have hzI : ((g2 : Int) != 0) = false := by simp [hz]
      have HE : Hid ((if (stepD s o).2.got ≠ 0 ∧ o.kind ≠ 3 then false else bz) = bz) := Lib.hid (by rw [if_neg (fun q => q.1 (HG2.out.trans hz))])
      clear hz
      go_wp2_with fail
      go_end0
      exact ⟨rfl, ⟨by rw [HE.out]; exact HS.out, ⟨x2, HO.out, HX.out⟩, HF.out⟩⟩
    · have hzI : ((g2 : Int) != 0) = true := by simp; omega
      have HE : Hid ((if (stepD s o).2.got ≠ 0 ∧ o.kind ≠ 3 then false else bz) = bz) := Lib.hid (by rw [if_neg (fun q => q.2 HK.out)])
      clear hz
      go_wp2_with fail
      go_end0
      exact ⟨rfl, ⟨by rw [HE.out]; exact HS.out, ⟨x2, HO.out, HX.out⟩, HF.out⟩⟩
end
end Go.Proofs.Ytacadgocoleaoaa

/- The document's deque in memory: New, Result. -/
namespace Go.Proofs.Ytacadgocoleaoaa
open Go.ChangeShapes Go.WideShapes Go.RowKit Go.Deep
set_option linter.unusedVariables false

theorem got_num {s : DqS} {o : OpS} (h : OpIn o) (hg : (stepD s o).2.got = 1) : NumC (stepD s o).2 := by
  have hn := step_next s h
  obtain ⟨h0, h | h | h⟩ := h
  · exact .inl (hn.2.trans h.1)
  · refine .inr ⟨?_, by omega⟩
    rw [hn.1]
    have hs : stepD s o = stepPop s o := by unfold stepD; rw [if_neg (by omega), if_pos h.1]
    rw [hs] at hg
    unfold stepPop at hg
    rcases (show o.next = 0 ∨ o.next = 1 ∨ 2 ≤ o.next by omega) with e | e | e
    · rw [if_pos e] at hg; have hg : o.got = 1 := hg; omega
    · rw [if_neg (by omega), if_pos e] at hg; have hg : o.got = 1 := hg; omega
    · omega
  · refine .inr ⟨?_, by omega⟩
    rw [hn.1]
    have hs : stepD s o = stepSteal s o := by unfold stepD; rw [if_neg (by omega), if_neg (by omega)]
    rw [hs] at hg
    unfold stepSteal at hg
    rcases (show o.next = 0 ∨ o.next = 1 ∨ 2 ≤ o.next by omega) with e | e | e
    · rw [if_pos e] at hg; have hg : o.got = 1 := hg; omega
    · rw [if_neg (by omega), if_pos e] at hg
      have hg : (if s.bot ≤ o.t then 2 else 0) = 1 := hg
      split at hg <;> omega
    · omega
theorem refResult {w : World} {r : Nat} {o : OpS} {x : Int} (ho : RfOp w r o x) (hx : o.got = 1 → x = o.x) : Calls Try.prog 14 #[.pointer (some ⟨r, 0, none⟩)] w fun e w' => e = .returned (.tuple #[.int .i64 (o.got : Int), .int .i64 (resI o)]) ∧ ∃ n, w' = w.drewN n := by
  unfold RfOp at ho
  have c4 : w.cell? ⟨r, 4, none⟩ = some (.int .i64 x) := cell_of_block ho 4
  have c5 : w.cell? ⟨r, 5, none⟩ = some (.int .i64 o.got) := cell_of_block ho 5
  clear ho
  by_cases hg : o.got = 1
  · have hxx := hx hg
    subst hxx
    have HR : Hid (resI o = o.x) := Lib.hid (by unfold resI; rw [if_pos hg])
    have HG := Lib.hid hg
    rw [hg] at c5
    clear hx hg
    go_enter Try.func14, Try.ntmps14
    go_upto_region 2 with fail
    go_quiet (fail)
    go_wp2_with fail
    go_ret2
    exact ⟨by rw [HR.out, HG.out]; rfl, _, rfl⟩
  · have HR : Hid (resI o = 0) := Lib.hid (by unfold resI; rw [if_neg hg])
    have e1 : ((o.got : Int) == 1) = false := by simp; omega
    clear hx hg
    go_enter Try.func14, Try.ntmps14
    go_wp2_with fail
    go_ret2
    exact ⟨by rw [HR.out]; rfl, 0, rfl⟩
theorem madeZ : madeCells #[Value.int .i64 0] 64 = rowC (fun _ => 0) := by
  apply Array.ext
  · simp [rowC, size_madeCells]
  · intro j h1 h2
    have hj : j < 64 := by simpa [rowC] using h2
    simp [rowC, madeCells, Nat.mod_one]
theorem refNew (w : World) : Calls Try.prog 8 #[] w fun e w' => e = .returned (.pointer (some ⟨w.heap.size + 1, 0, none⟩)) ∧ RfS w' (w.heap.size + 1) w.heap.size zeroQ false ∧ Below w.heap.size w w' := by
  have hmk := run_make_row' (P := Try.prog) 46 3 (.int .i64 0) 8 Try.underlying46 Try.info3 rfl .i64 .i64 64 (by omega) (by omega)
  rw [madeZ] at hmk
  have hm2 : ∀ w : World, (Instr.makeSlice 46 (.int .i64 64) (.int .i64 64)).run Try.prog w = .ok (.slice (some ⟨w.heap.size, 0, none⟩) 64 64) (w.alloc (.cells (rowC (fun _ => 0)) 3)) := hmk
  clear hmk
  go_enter Try.func8, Try.ntmps8
  go_wp2_with fail
  go_ret
  obtain ⟨wA, hwA⟩ : ∃ wA, wA = w.alloc (.cells (rowC (fun _ => 0)) 3) := ⟨_, rfl⟩
  have hzA : wA.heap.size = w.heap.size + 1 := by rw [hwA]; simp
  have hrA : wA.heap[w.heap.size]? = some (.cells (rowC (fun _ => 0)) 3 (0, 0)) := by rw [hwA]; exact heap_alloc_new _ _
  have hbA : Below w.heap.size w wA := by rw [hwA]; exact (Below.refl _ _).alloc (Nat.le_refl _) _
  rw [← hwA]
  refine ⟨rfl, ⟨⟨?_, alloc_old hrA⟩⟩, hbA.alloc hbA.size _⟩
  rw [← hzA]
  exact heap_alloc_new _ _
end Go.Proofs.Ytacadgocoleaoaa
