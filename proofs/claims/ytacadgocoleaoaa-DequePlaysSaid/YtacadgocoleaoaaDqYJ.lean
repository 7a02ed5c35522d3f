/- The steps of a deque's operations, in memory. -/
import Derived.Test.YtacadgocoleaoaaStQJ
import Derived.BigQuiet
namespace Go.Proofs.Ytacadgocoleaoaa
open Go.ChangeShapes Go.WideShapes Go.RowKit Go.Deep
set_option linter.unusedVariables false
set_option linter.unusedSimpArgs false

/-- What a step tells. -/
structure StepW (p D : Nat) (s : DqS) (o : OpS) (ov : Value) (w w' : World) : Prop where
  deq : DeqB w' D (stepD s o).1 ov
  op : OpB w' p D (stepD s o).2
  fr : FrX (DqX D p) w w'
def StepT (p D : Nat) (s : DqS) (o : OpS) (ov : Value) (w : World) (e : Ending) (w' : World) : Prop := e = .returned (.tuple #[]) ∧ StepW p D s o ov w w'
theorem OpB.func {w : World} {p D : Nat} {o : OpS} (h : OpB w p D o) (hg : o.got = 0) {F : Nat} (hF : nxN o = F) : w.cell? ⟨p, 1, none⟩ = some (.func (.func F) #[] #[]) := by
  rw [h.cs.c1]; unfold nxV; rw [if_pos hg, hF]
theorem FrX.setP {D p : Nat} {a w : World} (h : FrX (DqX D p) a w) (i : Nat) (v : Value) : FrX (DqX D p) a (w.setCell ⟨p, i, none⟩ v) := h.setCell (p := ⟨p, i, none⟩) (.inl (.inr rfl)) v
theorem FrX.setD {D p : Nat} {a w : World} (h : FrX (DqX D p) a w) (i : Nat) (v : Value) : FrX (DqX D p) a (w.setCell ⟨D, i, none⟩ v) := h.setCell (p := ⟨D, i, none⟩) (.inl (.inl rfl)) v
theorem FrX.drewN {D p : Nat} {a w : World} (h : FrX (DqX D p) a w) (k : Nat) : FrX (DqX D p) a (w.drewN k) := ⟨h.os, h.tape, h.output, h.size, h.block⟩
theorem FrX.drew1 {D p : Nat} {a w : World} (h : FrX (DqX D p) a w) : FrX (DqX D p) a w.drew := ⟨h.os, h.tape, h.output, h.size, h.block⟩
theorem setP_other {w : World} {p y : Nat} (hy : y ≠ p) (i : Nat) (v : Value) : (w.setCell ⟨p, i, none⟩ v).heap[y]? = w.heap[y]? := Below.heap_setCell _ _ _ _ hy
theorem heap_dN (w : World) (k : Nat) : (w.drewN k).heap = w.heap := rfl
theorem heap_d1 (w : World) : w.drew.heap = w.heap := rfl
section
variable {w : World} {p D : Nat} {s : DqS} {o : OpS} {ov : Value}
theorem step_a (i : Int) (hi : i < 4611686018427387904) (hbs : BdS s i) (hbo : BdO o i) (hsf : Safe s o) (ho : OpB w p D o) (hd : DeqB w D s ov) (hne : p ≠ D) (hg : o.got = 0) (hk : o.kind = 1) (hx : o.next = 0) : Calls Try.prog 29 #[.pointer (some ⟨p, 0, none⟩)] w (StepT p D s o ov w) := by
  obtain ⟨c0, -, c2, c3, c4, c5, f1, f2, f3, f4, f5⟩ := ho.cs
  have c1 := ho.func hg rfl
  have d1 := hd.top
  have d2 := hd.bot
  have g1 := hd.free 64
  have g2 := hd.free 65
  obtain ⟨b0, b1, t0, t1⟩ := hbs
  obtain ⟨x0, x1, y0, y1⟩ := hbo
  have HO := Lib.hid ho
  have HD := Lib.hid hd
  have hne' := Ne.symm hne
  ·
    have hs : Hid (stepD s o = (s, { o with next := 1, b := s.bot })) := Lib.hid (by unfold stepD; rw [if_pos hk]; unfold stepPush; rw [if_pos hx])
    clear ho hd hsf b0 b1 t0 t1 x0 x1 y0 y1
    go_enter Try.func29, Try.ntmps29
    go_wp2_with fail
    go_end0
    refine ⟨rfl, ⟨?_, ?_, ((FrX.refl _ _).setP _ _).setP _ _⟩⟩
    · rw [hs.out]; exact DeqB.go (DeqB.go (HD.out) (setP_other hne' _ _)) (setP_other hne' _ _)
    · rw [hs.out]
      refine OpB.of (set_of_block _ (set_of_block _ (HO.out))) ?_
      simp [nxV, nxN, gtI, hg, hk, hx]
theorem step_b (i : Int) (hi : i < 4611686018427387904) (hbs : BdS s i) (hbo : BdO o i) (hsf : Safe s o) (ho : OpB w p D o) (hd : DeqB w D s ov) (hne : p ≠ D) (hg : o.got = 0) (hk : o.kind = 1) (hx : o.next = 1) : Calls Try.prog 33 #[.pointer (some ⟨p, 0, none⟩)] w (StepT p D s o ov w) := by
  obtain ⟨c0, -, c2, c3, c4, c5, f1, f2, f3, f4, f5⟩ := ho.cs
  have c1 := ho.func hg rfl
  have d1 := hd.top
  have d2 := hd.bot
  have g1 := hd.free 64
  have g2 := hd.free 65
  obtain ⟨b0, b1, t0, t1⟩ := hbs
  obtain ⟨x0, x1, y0, y1⟩ := hbo
  have HO := Lib.hid ho
  have HD := Lib.hid hd
  have hne' := Ne.symm hne
  have hful := hsf.full hk hx
  have hw : wrap64 (o.b - s.top) = o.b - s.top := IntWalk.wrap64_in _ (by omega)
  by_cases hf : o.b - s.top = 64
  · have e1 : (o.b - s.top == 64) = true := by simpa using hf
    have hs : Hid (stepD s o = (s, { o with next := 2, t := s.top, got := 3 })) := Lib.hid (by unfold stepD; rw [if_pos hk]; unfold stepPush; rw [if_neg (by omega)]; rw [if_pos hx]; rw [if_pos (by omega)])
    clear ho hd hsf b0 b1 t0 t1 x0 x1 y0 y1
    clear hful hf
    go_enter Try.func33, Try.ntmps33
    go_wp2_with fail
    go_quiet (fail)
    go_wp2_with fail
    refine (end_any p (nxN o) (gtI o) _ 3 ?_ ?_ ?_ ?_).mono ?_
    · simp [go_sem, c1, hne, hne']
    · simp [go_sem, c5, hne, hne']
    · simp [f1]
    · simp [f5]
    rintro e w1 ⟨rfl, rfl⟩
    go_wp2_with fail
    go_end0
    refine ⟨rfl, ⟨?_, ?_, ((((FrX.refl _ _).setP _ _).drewN _).setP _ _).setP _ _⟩⟩
    · rw [hs.out]; exact DeqB.go (DeqB.go (DeqB.go (HD.out) (setP_other hne' _ _)) (setP_other hne' _ _)) (setP_other hne' _ _)
    · rw [hs.out]
      refine OpB.of (set_of_block _ (set_of_block _ (set_of_block _ (HO.out)))) ?_
      simp [nxV, nxN, gtI, hg, hk, hx]
  · have e1 : (o.b - s.top == 64) = false := by simpa using hf
    have hs : Hid (stepD s o = (s, { o with next := 2, t := s.top, got := 0 })) := Lib.hid (by unfold stepD; rw [if_pos hk]; unfold stepPush; rw [if_neg (by omega)]; rw [if_pos hx]; rw [if_neg (by omega)])
    clear ho hd hsf b0 b1 t0 t1 x0 x1 y0 y1
    clear hful hf
    go_enter Try.func33, Try.ntmps33
    go_wp2_with fail
    go_quiet (fail)
    go_wp2_with fail
    go_end0
    refine ⟨rfl, ⟨?_, ?_, (((FrX.refl _ _).setP _ _).drewN _).setP _ _⟩⟩
    · rw [hs.out]; exact DeqB.go (DeqB.go (HD.out) (setP_other hne' _ _)) (setP_other hne' _ _)
    · rw [hs.out]
      refine OpB.of (set_of_block _ (set_of_block _ (HO.out))) ?_
      simp [nxV, nxN, gtI, hg, hk, hx]
theorem step_c (i : Int) (hi : i < 4611686018427387904) (hbs : BdS s i) (hbo : BdO o i) (hsf : Safe s o) (ho : OpB w p D o) (hd : DeqB w D s ov) (hne : p ≠ D) (hg : o.got = 0) (hk : o.kind = 1) (hx : o.next = 2) : Calls Try.prog 37 #[.pointer (some ⟨p, 0, none⟩)] w (StepT p D s o ov w) := by
  obtain ⟨c0, -, c2, c3, c4, c5, f1, f2, f3, f4, f5⟩ := ho.cs
  have c1 := ho.func hg rfl
  have d1 := hd.top
  have d2 := hd.bot
  have g1 := hd.free 64
  have g2 := hd.free 65
  obtain ⟨b0, b1, t0, t1⟩ := hbs
  obtain ⟨x0, x1, y0, y1⟩ := hbo
  have HO := Lib.hid ho
  have HD := Lib.hid hd
  have hne' := Ne.symm hne
  have hb := hsf.cell hk hx
  obtain ⟨q, hq⟩ : ∃ q : Nat, o.b = (q : Int) := ⟨o.b.toNat, by omega⟩
  obtain ⟨j, hj⟩ : ∃ j : Nat, q % 64 = j := ⟨_, rfl⟩
  have hc : cellI o.b = j := by unfold cellI; omega
  have hj2 : j < 64 := by omega
  have d3 := hd.cell hj2
  have g3 := hd.free j
  rw [hq] at c3
  ·
    have hs : Hid (stepD s o = ({ s with cells := setC s.cells j o.x }, { o with next := 3 })) := Lib.hid (by unfold stepD; rw [if_pos hk]; unfold stepPush; rw [if_neg (by omega)]; rw [if_neg (by omega)]; rw [if_pos hx]; rw [hc])
    clear ho hd hsf b0 b1 t0 t1 x0 x1 y0 y1
    clear hb
    go_enter Try.func37, Try.ntmps37
    go_upto_region 0 with fail
    refine wp_region_still_tail 14 (by kernel_rfl) (by kernel_rfl) ?_
    simp only [List.take_succ_cons, List.take_zero, List.drop_succ_cons, List.drop_zero]
    refine still_of_quietT _ _ ?_
    change wpQuiet _ _ (fun w' => w' = World.drew w) (fun a' => wpList _ _ _ _ a' (World.drew w)) _ _
    repeat (go_big_quiet_step (fail))
    go_big_quiet_want
    go_big_quiet_op
    refine ⟨_, (cell_any D q j hj _), ?_⟩
    go_big_quiet_on
    repeat (go_big_quiet_step (fail))
    refine wpQuiet_nil ?_
    go_wp2_with fail
    go_end0
    refine ⟨rfl, ⟨?_, ?_, (((FrX.refl _ _).drew1).setD _ _).setP _ _⟩⟩
    · rw [hs.out]; exact DeqB.go ((HD.out).setCell hj2 _) (setP_other hne' _ _)
    · rw [hs.out]
      refine OpB.of (set_of_block _ ((setP_other hne _ _).trans (HO.out))) ?_
      simp [nxV, nxN, gtI, hg, hk, hx, hq]
theorem step_d (i : Int) (hi : i < 4611686018427387904) (hbs : BdS s i) (hbo : BdO o i) (hsf : Safe s o) (ho : OpB w p D o) (hd : DeqB w D s ov) (hne : p ≠ D) (hg : o.got = 0) (hk : o.kind = 1) (hx : o.next = 3) : Calls Try.prog 42 #[.pointer (some ⟨p, 0, none⟩)] w (StepT p D s o ov w) := by
  obtain ⟨c0, -, c2, c3, c4, c5, f1, f2, f3, f4, f5⟩ := ho.cs
  have c1 := ho.func hg rfl
  have d1 := hd.top
  have d2 := hd.bot
  have g1 := hd.free 64
  have g2 := hd.free 65
  obtain ⟨b0, b1, t0, t1⟩ := hbs
  obtain ⟨x0, x1, y0, y1⟩ := hbo
  have HO := Lib.hid ho
  have HD := Lib.hid hd
  have hne' := Ne.symm hne
  have hw : wrap64 (o.b + 1) = o.b + 1 := IntWalk.wrap64_in _ (by omega)
  ·
    have hs : Hid (stepD s o = ({ s with bot := o.b + 1 }, { o with next := 4, got := 1 })) := Lib.hid (by unfold stepD; rw [if_pos hk]; unfold stepPush; rw [if_neg (by omega)]; rw [if_neg (by omega)]; rw [if_neg (by omega)])
    clear ho hd hsf b0 b1 t0 t1 x0 x1 y0 y1
    go_enter Try.func42, Try.ntmps42
    go_upto_region 0 with fail
    refine wp_region_still_tail 11 (by kernel_rfl) (by kernel_rfl) ?_
    simp only [List.take_succ_cons, List.take_zero, List.drop_succ_cons, List.drop_zero]
    refine still_of_quietT _ _ ?_
    change wpQuiet _ _ (fun w' => w' = World.drew w) (fun a' => wpList _ _ _ _ a' (World.drew w)) _ _
    repeat (go_big_quiet_step (fail))
    refine wpQuiet_nil ?_
    go_wp2_with fail
    refine (end_any p (nxN o) (gtI o) _ 1 ?_ ?_ ?_ ?_).mono ?_
    · simp [go_sem, c1, hne, hne']
    · simp [go_sem, c5, hne, hne']
    · simp [f1]
    · simp [f5]
    rintro e w1 ⟨rfl, rfl⟩
    go_wp2_with fail
    go_end0
    refine ⟨rfl, ⟨?_, ?_, ((((FrX.refl _ _).drew1).setD _ _).setP _ _).setP _ _⟩⟩
    · rw [hs.out]; exact DeqB.go (DeqB.go ((HD.out).setBot _) (setP_other hne' _ _)) (setP_other hne' _ _)
    · rw [hs.out]
      refine OpB.of (set_of_block _ (set_of_block _ ((setP_other hne _ _).trans (HO.out)))) ?_
      simp [nxV, nxN, gtI, hg, hk, hx]
theorem step_e (i : Int) (hi : i < 4611686018427387904) (hbs : BdS s i) (hbo : BdO o i) (hsf : Safe s o) (ho : OpB w p D o) (hd : DeqB w D s ov) (hne : p ≠ D) (hg : o.got = 0) (hk : o.kind = 2) (hx : o.next = 0) : Calls Try.prog 31 #[.pointer (some ⟨p, 0, none⟩)] w (StepT p D s o ov w) := by
  obtain ⟨c0, -, c2, c3, c4, c5, f1, f2, f3, f4, f5⟩ := ho.cs
  have c1 := ho.func hg rfl
  have d1 := hd.top
  have d2 := hd.bot
  have g1 := hd.free 64
  have g2 := hd.free 65
  obtain ⟨b0, b1, t0, t1⟩ := hbs
  obtain ⟨x0, x1, y0, y1⟩ := hbo
  have HO := Lib.hid ho
  have HD := Lib.hid hd
  have hne' := Ne.symm hne
  have hw : wrap64 (s.bot - 1) = s.bot - 1 := IntWalk.wrap64_in _ (by omega)
  ·
    have hs : Hid (stepD s o = ({ s with bot := s.bot - 1 }, { o with next := 1, b := s.bot })) := Lib.hid (by unfold stepD; rw [if_neg (by omega), if_pos hk]; unfold stepPop; rw [if_pos hx])
    clear ho hd hsf b0 b1 t0 t1 x0 x1 y0 y1
    go_enter Try.func31, Try.ntmps31
    go_upto_region 1 with fail
    refine wp_region_still_tail 11 (by kernel_rfl) (by kernel_rfl) ?_
    simp only [List.take_succ_cons, List.take_zero, List.drop_succ_cons, List.drop_zero]
    refine still_of_quietT _ _ ?_
    change wpQuiet _ _ (fun w' => w' = World.drew (w.setCell ⟨p, 3, none⟩ (.int .i64 s.bot))) (fun a' => wpList _ _ _ _ a' (World.drew (w.setCell ⟨p, 3, none⟩ (.int .i64 s.bot)))) _ _
    repeat (go_big_quiet_step (fail))
    refine wpQuiet_nil ?_
    go_wp2_with fail
    go_end0
    refine ⟨rfl, ⟨?_, ?_, ((((FrX.refl _ _).setP _ _).drew1).setD _ _).setP _ _⟩⟩
    · rw [hs.out]; exact DeqB.go ((DeqB.go (HD.out) (setP_other hne' _ _)).setBot _) (setP_other hne' _ _)
    · rw [hs.out]
      refine OpB.of (set_of_block _ ((setP_other hne _ _).trans (set_of_block _ (HO.out)))) ?_
      simp [nxV, nxN, gtI, hg, hk, hx]
theorem step_f (i : Int) (hi : i < 4611686018427387904) (hbs : BdS s i) (hbo : BdO o i) (hsf : Safe s o) (ho : OpB w p D o) (hd : DeqB w D s ov) (hne : p ≠ D) (hg : o.got = 0) (hk : o.kind = 2) (hx : o.next = 1) : Calls Try.prog 35 #[.pointer (some ⟨p, 0, none⟩)] w (StepT p D s o ov w) := by
  obtain ⟨c0, -, c2, c3, c4, c5, f1, f2, f3, f4, f5⟩ := ho.cs
  have c1 := ho.func hg rfl
  have d1 := hd.top
  have d2 := hd.bot
  have g1 := hd.free 64
  have g2 := hd.free 65
  obtain ⟨b0, b1, t0, t1⟩ := hbs
  obtain ⟨x0, x1, y0, y1⟩ := hbo
  have HO := Lib.hid ho
  have HD := Lib.hid hd
  have hne' := Ne.symm hne
  have hw : wrap64 (o.b - 1) = o.b - 1 := IntWalk.wrap64_in _ (by omega)
  by_cases hf : o.b - 1 < s.top
  · have e1 : decide (o.b - 1 < s.top) = true := decide_eq_true hf
    have HF := Lib.hid hf
    have hs : Hid (stepD s o = (s, { o with next := 2, t := s.top })) := Lib.hid (by unfold stepD; rw [if_neg (by omega), if_pos hk]; unfold stepPop; rw [if_neg (by omega)]; rw [if_pos hx])
    clear ho hd hsf b0 b1 t0 t1 x0 x1 y0 y1
    clear hf
    go_enter Try.func35, Try.ntmps35
    go_wp2_with fail
    go_quiet (fail)
    go_wp2_with fail
    go_end0
    refine ⟨rfl, ⟨?_, ?_, ((((FrX.refl _ _).setP _ _).drewN _).setP _ _).setP _ _⟩⟩
    · rw [hs.out]; exact DeqB.go (DeqB.go (DeqB.go (HD.out) (setP_other hne' _ _)) (setP_other hne' _ _)) (setP_other hne' _ _)
    · rw [hs.out]
      refine OpB.of (set_of_block _ (set_of_block _ (set_of_block _ (HO.out)))) ?_
      simp [nxV, nxN, gtI, hg, hk, hx, HF.out]
  · have e1 : decide (o.b - 1 < s.top) = false := decide_eq_false hf
    have HF := Lib.hid hf
    have hs : Hid (stepD s o = (s, { o with next := 2, t := s.top })) := Lib.hid (by unfold stepD; rw [if_neg (by omega), if_pos hk]; unfold stepPop; rw [if_neg (by omega)]; rw [if_pos hx])
    clear ho hd hsf b0 b1 t0 t1 x0 x1 y0 y1
    clear hf
    go_enter Try.func35, Try.ntmps35
    go_wp2_with fail
    go_quiet (fail)
    go_wp2_with fail
    go_end0
    refine ⟨rfl, ⟨?_, ?_, (((FrX.refl _ _).setP _ _).drewN _).setP _ _⟩⟩
    · rw [hs.out]; exact DeqB.go (DeqB.go (HD.out) (setP_other hne' _ _)) (setP_other hne' _ _)
    · rw [hs.out]
      refine OpB.of (set_of_block _ (set_of_block _ (HO.out))) ?_
      simp [nxV, nxN, gtI, hg, hk, hx, HF.out]
theorem step_g (i : Int) (hi : i < 4611686018427387904) (hbs : BdS s i) (hbo : BdO o i) (hsf : Safe s o) (ho : OpB w p D o) (hd : DeqB w D s ov) (hne : p ≠ D) (hg : o.got = 0) (hk : o.kind = 2) (hx : o.next = 2) (hlt : ¬ o.b - 1 < o.t) : Calls Try.prog 40 #[.pointer (some ⟨p, 0, none⟩)] w (StepT p D s o ov w) := by
  obtain ⟨c0, -, c2, c3, c4, c5, f1, f2, f3, f4, f5⟩ := ho.cs
  have c1 := ho.func hg rfl
  have d1 := hd.top
  have d2 := hd.bot
  have g1 := hd.free 64
  have g2 := hd.free 65
  obtain ⟨b0, b1, t0, t1⟩ := hbs
  obtain ⟨x0, x1, y0, y1⟩ := hbo
  have HO := Lib.hid ho
  have HD := Lib.hid hd
  have hne' := Ne.symm hne
  obtain ⟨q, hq⟩ : ∃ q : Nat, o.b - 1 = (q : Int) := ⟨(o.b - 1).toNat, by omega⟩
  have hw : wrap64 (o.b - 1) = (q : Int) := by rw [← hq]; exact IntWalk.wrap64_in _ (by omega)
  obtain ⟨j, hj⟩ : ∃ j : Nat, q % 64 = j := ⟨_, rfl⟩
  have hc : cellI (o.b - 1) = j := by unfold cellI; omega
  have hj2 : j < 64 := by omega
  have d3 := hd.cell hj2
  have g3 := hd.free j
  have HL := Lib.hid hlt
  by_cases hf : o.t < o.b - 1
  · have e1 : decide (o.t < (q : Int)) = true := decide_eq_true (by rw [← hq]; exact hf)
    have HF := Lib.hid hf
    have hs : Hid (stepD s o = (s, { o with next := 3, x := s.cells j, got := 1 })) := Lib.hid (by unfold stepD; rw [if_neg (by omega), if_pos hk]; unfold stepPop; rw [if_neg (by omega)]; rw [if_neg (by omega)]; rw [if_pos hx]; rw [if_neg hlt, hc, if_pos hf])
    clear ho hd hsf b0 b1 t0 t1 x0 x1 y0 y1
    clear hlt hf hq
    go_enter Try.func40, Try.ntmps40
    go_upto_region 0 with fail
    refine wp_region_still_tail 15 (by kernel_rfl) (by kernel_rfl) ?_
    simp only [List.take_succ_cons, List.take_zero, List.drop_succ_cons, List.drop_zero]
    refine still_of_quietT _ _ ?_
    change wpQuiet _ _ (fun w' => w' = World.drew w) (fun a' => wpList _ _ _ _ a' (World.drew w)) _ _
    repeat (go_big_quiet_step (fail))
    go_big_quiet_want
    go_big_quiet_op
    refine ⟨_, by first | exact cell_any D q j hj _ | (rw [hw]; exact cell_any D q j hj _), ?_⟩
    go_big_quiet_on
    repeat (go_big_quiet_step (fail))
    refine wpQuiet_nil ?_
    go_wp2_with fail
    go_quiet (fail)
    go_wp2_with fail
    refine (end_any p (nxN o) (gtI o) _ 1 ?_ ?_ ?_ ?_).mono ?_
    · simp [go_sem, c1, hne, hne']
    · simp [go_sem, c5, hne, hne']
    · simp [f1]
    · simp [f5]
    rintro e w1 ⟨rfl, rfl⟩
    go_wp2_with fail
    go_end0
    refine ⟨rfl, ⟨?_, ?_, ((((FrX.refl _ _).setP _ _).drewN _).setP _ _).setP _ _⟩⟩
    · rw [hs.out]; exact DeqB.go (DeqB.go (DeqB.go (HD.out) (setP_other hne' _ _)) (setP_other hne' _ _)) (setP_other hne' _ _)
    · rw [hs.out]
      refine OpB.of (set_of_block _ (set_of_block _ (set_of_block _ (HO.out)))) ?_
      simp [nxV, nxN, gtI, hg, hk, hx, HL.out]
  · have e1 : decide (o.t < (q : Int)) = false := decide_eq_false (by rw [← hq]; exact hf)
    have HF := Lib.hid hf
    have hs : Hid (stepD s o = (s, { o with next := 3, x := s.cells j, got := 0 })) := Lib.hid (by unfold stepD; rw [if_neg (by omega), if_pos hk]; unfold stepPop; rw [if_neg (by omega)]; rw [if_neg (by omega)]; rw [if_pos hx]; rw [if_neg hlt, hc, if_neg hf])
    clear ho hd hsf b0 b1 t0 t1 x0 x1 y0 y1
    clear hlt hf hq
    go_enter Try.func40, Try.ntmps40
    go_upto_region 0 with fail
    refine wp_region_still_tail 15 (by kernel_rfl) (by kernel_rfl) ?_
    simp only [List.take_succ_cons, List.take_zero, List.drop_succ_cons, List.drop_zero]
    refine still_of_quietT _ _ ?_
    change wpQuiet _ _ (fun w' => w' = World.drew w) (fun a' => wpList _ _ _ _ a' (World.drew w)) _ _
    repeat (go_big_quiet_step (fail))
    go_big_quiet_want
    go_big_quiet_op
    refine ⟨_, by first | exact cell_any D q j hj _ | (rw [hw]; exact cell_any D q j hj _), ?_⟩
    go_big_quiet_on
    repeat (go_big_quiet_step (fail))
    refine wpQuiet_nil ?_
    go_wp2_with fail
    go_quiet (fail)
    go_wp2_with fail
    go_end0
    refine ⟨rfl, ⟨?_, ?_, (((FrX.refl _ _).setP _ _).drewN _).setP _ _⟩⟩
    · rw [hs.out]; exact DeqB.go (DeqB.go (HD.out) (setP_other hne' _ _)) (setP_other hne' _ _)
    · rw [hs.out]
      refine OpB.of (set_of_block _ (set_of_block _ (HO.out))) ?_
      simp [nxV, nxN, gtI, hg, hk, hx, HL.out]
theorem step_h (i : Int) (hi : i < 4611686018427387904) (hbs : BdS s i) (hbo : BdO o i) (hsf : Safe s o) (ho : OpB w p D o) (hd : DeqB w D s ov) (hne : p ≠ D) (hg : o.got = 0) (hk : o.kind = 2) (hx : o.next = 3) : Calls Try.prog 44 #[.pointer (some ⟨p, 0, none⟩)] w (StepT p D s o ov w) := by
  obtain ⟨c0, -, c2, c3, c4, c5, f1, f2, f3, f4, f5⟩ := ho.cs
  have c1 := ho.func hg rfl
  have d1 := hd.top
  have d2 := hd.bot
  have g1 := hd.free 64
  have g2 := hd.free 65
  obtain ⟨b0, b1, t0, t1⟩ := hbs
  obtain ⟨x0, x1, y0, y1⟩ := hbo
  have HO := Lib.hid ho
  have HD := Lib.hid hd
  have hne' := Ne.symm hne
  have HB := Lib.hid (BdS.mk b0 b1 t0 t1)
  by_cases hf : s.top = o.t
  · have HF := Lib.hid hf
    have HX : Hid (decide (s.top = o.t) = true) := Lib.hid (decide_eq_true hf)
    have hs : Hid (stepD s o = ({ s with top := o.t + 1 }, { o with next := 4, won := true })) := Lib.hid (by unfold stepD; rw [if_neg (by omega), if_pos hk]; unfold stepPop; rw [if_neg (by omega)]; rw [if_neg (by omega)]; rw [if_neg (by omega)]; rw [if_pos hx]; rw [if_pos hf])
    clear ho hd hsf b0 b1 t0 t1 x0 x1 y0 y1 hf
    go_enter Try.func44, Try.ntmps44
    go_upto_region 1 with fail
    refine wp_region_still_tail 8 (by kernel_rfl) (by kernel_rfl) ?_
    simp only [List.take_succ_cons, List.take_zero, List.drop_succ_cons, List.drop_zero]
    refine still_of_quietT _ _ ?_
    change wpQuiet _ _ (fun w' => w' = World.drew (w.setCell ⟨p, 5, none⟩ (.int .i64 2))) (fun a' => wpList _ _ _ _ a' (World.drew (w.setCell ⟨p, 5, none⟩ (.int .i64 2)))) _ _
    repeat (go_big_quiet_step (fail))
    refine wpQuiet_nil ?_
    go_wp2_with fail
    refine (raise_any D s ov o.t i (World.drew (w.setCell ⟨p, 5, none⟩ (.int .i64 2))) (DeqB.go (DeqB.go HD.out (setP_other hne' _ _)) rfl) HB.out hi).mono ?_
    rintro e w1 ⟨rfl, rfl⟩
    rw [HX.out, if_pos HF.out]
    go_wp2_with fail
    go_end0
    refine ⟨rfl, ⟨?_, ?_, (((((FrX.refl _ _).setP _ _).drew1).setD _ _).setP _ _).setP _ _⟩⟩
    · rw [hs.out]; exact DeqB.go (DeqB.go ((DeqB.go (HD.out) (setP_other hne' _ _)).setTop _) (setP_other hne' _ _)) (setP_other hne' _ _)
    · rw [hs.out]
      refine OpB.of (set_of_block _ (set_of_block _ ((setP_other hne _ _).trans (set_of_block _ (HO.out))))) ?_
      simp [nxV, nxN, gtI, hg, hk, hx]
  · have HF := Lib.hid hf
    have HX : Hid (decide (s.top = o.t) = false) := Lib.hid (decide_eq_false hf)
    have hs : Hid (stepD s o = (s, { o with next := 4, won := false })) := Lib.hid (by unfold stepD; rw [if_neg (by omega), if_pos hk]; unfold stepPop; rw [if_neg (by omega)]; rw [if_neg (by omega)]; rw [if_neg (by omega)]; rw [if_pos hx]; rw [if_neg hf])
    clear ho hd hsf b0 b1 t0 t1 x0 x1 y0 y1 hf
    go_enter Try.func44, Try.ntmps44
    go_upto_region 1 with fail
    refine wp_region_still_tail 8 (by kernel_rfl) (by kernel_rfl) ?_
    simp only [List.take_succ_cons, List.take_zero, List.drop_succ_cons, List.drop_zero]
    refine still_of_quietT _ _ ?_
    change wpQuiet _ _ (fun w' => w' = World.drew (w.setCell ⟨p, 5, none⟩ (.int .i64 2))) (fun a' => wpList _ _ _ _ a' (World.drew (w.setCell ⟨p, 5, none⟩ (.int .i64 2)))) _ _
    repeat (go_big_quiet_step (fail))
    refine wpQuiet_nil ?_
    go_wp2_with fail
    refine (raise_any D s ov o.t i (World.drew (w.setCell ⟨p, 5, none⟩ (.int .i64 2))) (DeqB.go (DeqB.go HD.out (setP_other hne' _ _)) rfl) HB.out hi).mono ?_
    rintro e w1 ⟨rfl, rfl⟩
    rw [HX.out, if_neg HF.out]
    go_wp2_with fail
    go_end0
    refine ⟨rfl, ⟨?_, ?_, (((FrX.refl _ _).setP _ _).drew1).setP _ _⟩⟩
    · rw [hs.out]; exact DeqB.go (DeqB.go (HD.out) (setP_other hne' _ _)) (setP_other hne' _ _)
    · rw [hs.out]
      refine OpB.of (set_of_block _ (set_of_block _ (HO.out))) ?_
      simp [nxV, nxN, gtI, hg, hk, hx]
theorem step_k (i : Int) (hi : i < 4611686018427387904) (hbs : BdS s i) (hbo : BdO o i) (hsf : Safe s o) (ho : OpB w p D o) (hd : DeqB w D s ov) (hne : p ≠ D) (hg : o.got = 0) (hk : o.kind = 2) (hx : o.next = 2) (hlt : o.b - 1 < o.t) : Calls Try.prog 39 #[.pointer (some ⟨p, 0, none⟩)] w (StepT p D s o ov w) := by
  obtain ⟨c0, -, c2, c3, c4, c5, f1, f2, f3, f4, f5⟩ := ho.cs
  have c1 := ho.func hg rfl
  have d1 := hd.top
  have d2 := hd.bot
  have g1 := hd.free 64
  have g2 := hd.free 65
  obtain ⟨b0, b1, t0, t1⟩ := hbs
  obtain ⟨x0, x1, y0, y1⟩ := hbo
  have HO := Lib.hid ho
  have HD := Lib.hid hd
  have hne' := Ne.symm hne
  have HL := Lib.hid hlt
  ·
    have hs : Hid (stepD s o = ({ s with bot := o.b }, { o with next := 3, got := 2 })) := Lib.hid (by unfold stepD; rw [if_neg (by omega), if_pos hk]; unfold stepPop; rw [if_neg (by omega)]; rw [if_neg (by omega)]; rw [if_pos hx]; rw [if_pos hlt])
    clear ho hd hsf b0 b1 t0 t1 x0 x1 y0 y1
    clear hlt
    go_enter Try.func39, Try.ntmps39
    go_upto_region 0 with fail
    refine wp_region_still_tail 10 (by kernel_rfl) (by kernel_rfl) ?_
    simp only [List.take_succ_cons, List.take_zero, List.drop_succ_cons, List.drop_zero]
    refine still_of_quietT _ _ ?_
    change wpQuiet _ _ (fun w' => w' = World.drew w) (fun a' => wpList _ _ _ _ a' (World.drew w)) _ _
    repeat (go_big_quiet_step (fail))
    refine wpQuiet_nil ?_
    go_wp2_with fail
    refine (end_any p (nxN o) (gtI o) _ (gtI o) ?_ ?_ ?_ ?_).mono ?_
    · simp [go_sem, c1, hne, hne']
    · simp [go_sem, c5, hne, hne']
    · simp [f1]
    · simp [f5]
    rintro e w1 ⟨rfl, rfl⟩
    go_wp2_with fail
    go_end0
    refine ⟨rfl, ⟨?_, ?_, ((((FrX.refl _ _).drew1).setD _ _).setP _ _).setP _ _⟩⟩
    · rw [hs.out]; exact DeqB.go (DeqB.go ((HD.out).setBot _) (setP_other hne' _ _)) (setP_other hne' _ _)
    · rw [hs.out]
      refine OpB.of (set_of_block _ (set_of_block _ ((setP_other hne _ _).trans (HO.out)))) ?_
      simp [nxV, nxN, gtI, hg, hk, hx, HL.out]
theorem step_k2 (i : Int) (hi : i < 4611686018427387904) (hbs : BdS s i) (hbo : BdO o i) (hsf : Safe s o) (ho : OpB w p D o) (hd : DeqB w D s ov) (hne : p ≠ D) (hg : o.got = 0) (hk : o.kind = 2) (hx : o.next = 4) : Calls Try.prog 39 #[.pointer (some ⟨p, 0, none⟩)] w (StepT p D s o ov w) := by
  obtain ⟨c0, -, c2, c3, c4, c5, f1, f2, f3, f4, f5⟩ := ho.cs
  have c1 := ho.func hg rfl
  have d1 := hd.top
  have d2 := hd.bot
  have g1 := hd.free 64
  have g2 := hd.free 65
  obtain ⟨b0, b1, t0, t1⟩ := hbs
  obtain ⟨x0, x1, y0, y1⟩ := hbo
  have HO := Lib.hid ho
  have HD := Lib.hid hd
  have hne' := Ne.symm hne
  ·
    have hs : Hid (stepD s o = ({ s with bot := o.b }, { o with next := 5, got := if o.won = true then 1 else 2 })) := Lib.hid (by unfold stepD; rw [if_neg (by omega), if_pos hk]; unfold stepPop; rw [if_neg (by omega)]; rw [if_neg (by omega)]; rw [if_neg (by omega)]; rw [if_neg (by omega)])
    clear ho hd hsf b0 b1 t0 t1 x0 x1 y0 y1
    go_enter Try.func39, Try.ntmps39
    go_upto_region 0 with fail
    refine wp_region_still_tail 10 (by kernel_rfl) (by kernel_rfl) ?_
    simp only [List.take_succ_cons, List.take_zero, List.drop_succ_cons, List.drop_zero]
    refine still_of_quietT _ _ ?_
    change wpQuiet _ _ (fun w' => w' = World.drew w) (fun a' => wpList _ _ _ _ a' (World.drew w)) _ _
    repeat (go_big_quiet_step (fail))
    refine wpQuiet_nil ?_
    go_wp2_with fail
    refine (end_any p (nxN o) (gtI o) _ (gtI o) ?_ ?_ ?_ ?_).mono ?_
    · simp [go_sem, c1, hne, hne']
    · simp [go_sem, c5, hne, hne']
    · simp [f1]
    · simp [f5]
    rintro e w1 ⟨rfl, rfl⟩
    go_wp2_with fail
    go_end0
    refine ⟨rfl, ⟨?_, ?_, ((((FrX.refl _ _).drew1).setD _ _).setP _ _).setP _ _⟩⟩
    · rw [hs.out]; exact DeqB.go (DeqB.go ((HD.out).setBot _) (setP_other hne' _ _)) (setP_other hne' _ _)
    · rw [hs.out]
      refine OpB.of (set_of_block _ (set_of_block _ ((setP_other hne _ _).trans (HO.out)))) ?_
      cases hwn : o.won <;> simp [nxV, nxN, gtI, hg, hk, hx, hwn]
theorem step_l (i : Int) (hi : i < 4611686018427387904) (hbs : BdS s i) (hbo : BdO o i) (hsf : Safe s o) (ho : OpB w p D o) (hd : DeqB w D s ov) (hne : p ≠ D) (hg : o.got = 0) (hk : o.kind = 3) (hx : o.next = 0) : Calls Try.prog 30 #[.pointer (some ⟨p, 0, none⟩)] w (StepT p D s o ov w) := by
  obtain ⟨c0, -, c2, c3, c4, c5, f1, f2, f3, f4, f5⟩ := ho.cs
  have c1 := ho.func hg rfl
  have d1 := hd.top
  have d2 := hd.bot
  have g1 := hd.free 64
  have g2 := hd.free 65
  obtain ⟨b0, b1, t0, t1⟩ := hbs
  obtain ⟨x0, x1, y0, y1⟩ := hbo
  have HO := Lib.hid ho
  have HD := Lib.hid hd
  have hne' := Ne.symm hne
  ·
    have hs : Hid (stepD s o = (s, { o with next := 1, t := s.top })) := Lib.hid (by unfold stepD; rw [if_neg (by omega), if_neg (by omega)]; unfold stepSteal; rw [if_pos hx])
    clear ho hd hsf b0 b1 t0 t1 x0 x1 y0 y1
    go_enter Try.func30, Try.ntmps30
    go_wp2_with fail
    go_end0
    refine ⟨rfl, ⟨?_, ?_, ((FrX.refl _ _).setP _ _).setP _ _⟩⟩
    · rw [hs.out]; exact DeqB.go (DeqB.go (HD.out) (setP_other hne' _ _)) (setP_other hne' _ _)
    · rw [hs.out]
      refine OpB.of (set_of_block _ (set_of_block _ (HO.out))) ?_
      simp [nxV, nxN, gtI, hg, hk, hx]
theorem step_m (i : Int) (hi : i < 4611686018427387904) (hbs : BdS s i) (hbo : BdO o i) (hsf : Safe s o) (ho : OpB w p D o) (hd : DeqB w D s ov) (hne : p ≠ D) (hg : o.got = 0) (hk : o.kind = 3) (hx : o.next = 1) : Calls Try.prog 34 #[.pointer (some ⟨p, 0, none⟩)] w (StepT p D s o ov w) := by
  obtain ⟨c0, -, c2, c3, c4, c5, f1, f2, f3, f4, f5⟩ := ho.cs
  have c1 := ho.func hg rfl
  have d1 := hd.top
  have d2 := hd.bot
  have g1 := hd.free 64
  have g2 := hd.free 65
  obtain ⟨b0, b1, t0, t1⟩ := hbs
  obtain ⟨x0, x1, y0, y1⟩ := hbo
  have HO := Lib.hid ho
  have HD := Lib.hid hd
  have hne' := Ne.symm hne
  by_cases hf : s.bot ≤ o.t
  · have e1 : decide (s.bot ≤ o.t) = true := decide_eq_true hf
    have hs : Hid (stepD s o = (s, { o with next := 2, b := s.bot, got := 2 })) := Lib.hid (by unfold stepD; rw [if_neg (by omega), if_neg (by omega)]; unfold stepSteal; rw [if_neg (by omega)]; rw [if_pos hx]; rw [if_pos hf])
    clear ho hd hsf b0 b1 t0 t1 x0 x1 y0 y1
    clear hf
    go_enter Try.func34, Try.ntmps34
    go_wp2_with fail
    go_quiet (fail)
    go_wp2_with fail
    refine (end_any p (nxN o) (gtI o) _ 2 ?_ ?_ ?_ ?_).mono ?_
    · simp [go_sem, c1, hne, hne']
    · simp [go_sem, c5, hne, hne']
    · simp [f1]
    · simp [f5]
    rintro e w1 ⟨rfl, rfl⟩
    go_wp2_with fail
    go_end0
    refine ⟨rfl, ⟨?_, ?_, ((((FrX.refl _ _).setP _ _).drewN _).setP _ _).setP _ _⟩⟩
    · rw [hs.out]; exact DeqB.go (DeqB.go (DeqB.go (HD.out) (setP_other hne' _ _)) (setP_other hne' _ _)) (setP_other hne' _ _)
    · rw [hs.out]
      refine OpB.of (set_of_block _ (set_of_block _ (set_of_block _ (HO.out)))) ?_
      simp [nxV, nxN, gtI, hg, hk, hx]
  · have e1 : decide (s.bot ≤ o.t) = false := decide_eq_false hf
    have hs : Hid (stepD s o = (s, { o with next := 2, b := s.bot, got := 0 })) := Lib.hid (by unfold stepD; rw [if_neg (by omega), if_neg (by omega)]; unfold stepSteal; rw [if_neg (by omega)]; rw [if_pos hx]; rw [if_neg hf])
    clear ho hd hsf b0 b1 t0 t1 x0 x1 y0 y1
    clear hf
    go_enter Try.func34, Try.ntmps34
    go_wp2_with fail
    go_quiet (fail)
    go_wp2_with fail
    go_end0
    refine ⟨rfl, ⟨?_, ?_, (((FrX.refl _ _).setP _ _).drewN _).setP _ _⟩⟩
    · rw [hs.out]; exact DeqB.go (DeqB.go (HD.out) (setP_other hne' _ _)) (setP_other hne' _ _)
    · rw [hs.out]
      refine OpB.of (set_of_block _ (set_of_block _ (HO.out))) ?_
      simp [nxV, nxN, gtI, hg, hk, hx]
theorem step_n (i : Int) (hi : i < 4611686018427387904) (hbs : BdS s i) (hbo : BdO o i) (hsf : Safe s o) (ho : OpB w p D o) (hd : DeqB w D s ov) (hne : p ≠ D) (hg : o.got = 0) (hk : o.kind = 3) (hx : o.next = 2) : Calls Try.prog 38 #[.pointer (some ⟨p, 0, none⟩)] w (StepT p D s o ov w) := by
  obtain ⟨c0, -, c2, c3, c4, c5, f1, f2, f3, f4, f5⟩ := ho.cs
  have c1 := ho.func hg rfl
  have d1 := hd.top
  have d2 := hd.bot
  have g1 := hd.free 64
  have g2 := hd.free 65
  obtain ⟨b0, b1, t0, t1⟩ := hbs
  obtain ⟨x0, x1, y0, y1⟩ := hbo
  have HO := Lib.hid ho
  have HD := Lib.hid hd
  have hne' := Ne.symm hne
  obtain ⟨q, hq⟩ : ∃ q : Nat, o.t = (q : Int) := ⟨o.t.toNat, by omega⟩
  obtain ⟨j, hj⟩ : ∃ j : Nat, q % 64 = j := ⟨_, rfl⟩
  have hc : cellI o.t = j := by unfold cellI; omega
  have hj2 : j < 64 := by omega
  have d3 := hd.cell hj2
  have g3 := hd.free j
  rw [hq] at c2
  ·
    have hs : Hid (stepD s o = (s, { o with next := 3, x := s.cells j })) := Lib.hid (by unfold stepD; rw [if_neg (by omega), if_neg (by omega)]; unfold stepSteal; rw [if_neg (by omega)]; rw [if_neg (by omega)]; rw [if_pos hx]; rw [hc])
    clear ho hd hsf b0 b1 t0 t1 x0 x1 y0 y1
    go_enter Try.func38, Try.ntmps38
    go_upto_region 0 with fail
    refine wp_region_still_tail 14 (by kernel_rfl) (by kernel_rfl) ?_
    simp only [List.take_succ_cons, List.take_zero, List.drop_succ_cons, List.drop_zero]
    refine still_of_quietT _ _ ?_
    change wpQuiet _ _ (fun w' => w' = World.drew w) (fun a' => wpList _ _ _ _ a' (World.drew w)) _ _
    repeat (go_big_quiet_step (fail))
    go_big_quiet_want
    go_big_quiet_op
    refine ⟨_, cell_any D q j hj _, ?_⟩
    go_big_quiet_on
    repeat (go_big_quiet_step (fail))
    refine wpQuiet_nil ?_
    go_wp2_with fail
    go_end0
    refine ⟨rfl, ⟨?_, ?_, (((FrX.refl _ _).drew1).setP _ _).setP _ _⟩⟩
    · rw [hs.out]; exact DeqB.go (DeqB.go (HD.out) (setP_other hne' _ _)) (setP_other hne' _ _)
    · rw [hs.out]
      refine OpB.of (set_of_block _ (set_of_block _ (HO.out))) ?_
      simp [nxV, nxN, gtI, hg, hk, hx, hq]
theorem step_o (i : Int) (hi : i < 4611686018427387904) (hbs : BdS s i) (hbo : BdO o i) (hsf : Safe s o) (ho : OpB w p D o) (hd : DeqB w D s ov) (hne : p ≠ D) (hg : o.got = 0) (hk : o.kind = 3) (hx : o.next = 3) : Calls Try.prog 43 #[.pointer (some ⟨p, 0, none⟩)] w (StepT p D s o ov w) := by
  obtain ⟨c0, -, c2, c3, c4, c5, f1, f2, f3, f4, f5⟩ := ho.cs
  have c1 := ho.func hg rfl
  have d1 := hd.top
  have d2 := hd.bot
  have g1 := hd.free 64
  have g2 := hd.free 65
  obtain ⟨b0, b1, t0, t1⟩ := hbs
  obtain ⟨x0, x1, y0, y1⟩ := hbo
  have HO := Lib.hid ho
  have HD := Lib.hid hd
  have hne' := Ne.symm hne
  have HB := Lib.hid (BdS.mk b0 b1 t0 t1)
  by_cases hf : s.top = o.t
  · have HF := Lib.hid hf
    have HX : Hid (decide (s.top = o.t) = true) := Lib.hid (decide_eq_true hf)
    have hs : Hid (stepD s o = ({ s with top := o.t + 1 }, { o with next := 4, got := 1 })) := Lib.hid (by unfold stepD; rw [if_neg (by omega), if_neg (by omega)]; unfold stepSteal; rw [if_neg (by omega)]; rw [if_neg (by omega)]; rw [if_neg (by omega)]; rw [if_pos hf])
    clear ho hd hsf b0 b1 t0 t1 x0 x1 y0 y1 hf
    go_enter Try.func43, Try.ntmps43
    go_upto_region 0 with fail
    refine wp_region_still_tail 8 (by kernel_rfl) (by kernel_rfl) ?_
    simp only [List.take_succ_cons, List.take_zero, List.drop_succ_cons, List.drop_zero]
    refine still_of_quietT _ _ ?_
    change wpQuiet _ _ (fun w' => w' = World.drew w) (fun a' => wpList _ _ _ _ a' (World.drew w)) _ _
    repeat (go_big_quiet_step (fail))
    refine wpQuiet_nil ?_
    go_wp2_with fail
    refine (raise_any D s ov o.t i (World.drew w) (DeqB.go HD.out rfl) HB.out hi).mono ?_
    rintro e w1 ⟨rfl, rfl⟩
    rw [HX.out, if_pos HF.out]
    go_wp2_with fail
    refine (end_any p (nxN o) (gtI o) _ 1 ?_ ?_ ?_ ?_).mono ?_
    · simp [go_sem, c1, hne, hne']
    · simp [go_sem, c5, hne, hne']
    · simp [f1]
    · simp [f5]
    rintro e w1 ⟨rfl, rfl⟩
    go_wp2_with fail
    go_end0
    refine ⟨rfl, ⟨?_, ?_, ((((FrX.refl _ _).drew1).setD _ _).setP _ _).setP _ _⟩⟩
    · rw [hs.out]; exact DeqB.go (DeqB.go ((HD.out).setTop _) (setP_other hne' _ _)) (setP_other hne' _ _)
    · rw [hs.out]
      refine OpB.of (set_of_block _ (set_of_block _ ((setP_other hne _ _).trans (HO.out)))) ?_
      simp [nxV, nxN, gtI, hg, hk, hx]
  · have HF := Lib.hid hf
    have HX : Hid (decide (s.top = o.t) = false) := Lib.hid (decide_eq_false hf)
    have hs : Hid (stepD s o = (s, { o with next := 4, got := 4 })) := Lib.hid (by unfold stepD; rw [if_neg (by omega), if_neg (by omega)]; unfold stepSteal; rw [if_neg (by omega)]; rw [if_neg (by omega)]; rw [if_neg (by omega)]; rw [if_neg hf])
    clear ho hd hsf b0 b1 t0 t1 x0 x1 y0 y1 hf
    go_enter Try.func43, Try.ntmps43
    go_upto_region 0 with fail
    refine wp_region_still_tail 8 (by kernel_rfl) (by kernel_rfl) ?_
    simp only [List.take_succ_cons, List.take_zero, List.drop_succ_cons, List.drop_zero]
    refine still_of_quietT _ _ ?_
    change wpQuiet _ _ (fun w' => w' = World.drew w) (fun a' => wpList _ _ _ _ a' (World.drew w)) _ _
    repeat (go_big_quiet_step (fail))
    refine wpQuiet_nil ?_
    go_wp2_with fail
    refine (raise_any D s ov o.t i (World.drew w) (DeqB.go HD.out rfl) HB.out hi).mono ?_
    rintro e w1 ⟨rfl, rfl⟩
    rw [HX.out, if_neg HF.out]
    go_wp2_with fail
    refine (end_any p (nxN o) (gtI o) _ 4 ?_ ?_ ?_ ?_).mono ?_
    · simp [go_sem, c1, hne, hne']
    · simp [go_sem, c5, hne, hne']
    · simp [f1]
    · simp [f5]
    rintro e w1 ⟨rfl, rfl⟩
    go_wp2_with fail
    go_end0
    refine ⟨rfl, ⟨?_, ?_, (((FrX.refl _ _).drew1).setP _ _).setP _ _⟩⟩
    · rw [hs.out]; exact DeqB.go (DeqB.go (HD.out) (setP_other hne' _ _)) (setP_other hne' _ _)
    · rw [hs.out]
      refine OpB.of (set_of_block _ (set_of_block _ (HO.out))) ?_
      simp [nxV, nxN, gtI, hg, hk, hx]
end
end Go.Proofs.Ytacadgocoleaoaa
