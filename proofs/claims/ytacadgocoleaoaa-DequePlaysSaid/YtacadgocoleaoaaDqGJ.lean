/- A deque's calls, in memory: Step, Push, Pop, Steal, State, Result, New. -/
import Derived.Test.YtacadgocoleaoaaDqYJ
import Derived.LaidEqlPtr
import Derived.Lib.Builder
import Derived.Laws.OwnMore
namespace Go.Proofs.Ytacadgocoleaoaa
open Go.ChangeShapes Go.WideShapes Go.RowKit Go.Deep
set_option linter.unusedVariables false

theorem neq_ptr_other {P : Program} (w : World) {tp te : TypeId} {j : TypeInfo} {a b : Addr} {ca cb : Array Value} {ta tb : TypeId} (hp : P.underlying tp = some (.pointer te)) (hte : P.info? te = some j) (hsz : j.size ≠ 0)
    (hne : a ≠ b) (ha : w.heap[a.block]? = some (.cells ca ta (0, 0))) (hb : w.heap[b.block]? = some (.cells cb tb (0, 0))) :
    (binOp .neq tp (.pointer (some a)) (.pointer (some b))).run P w = .ok (.bool true) w := by
  have h : ∀ d : Nat, (Op.equalIn (d + 1) tp (.pointer (some a)) (.pointer (some b))).run P w = .ok false w := fun d => by
    simp [Op.equalIn, run_underlying hp, sizeOf, typeInfo, hte, hsz, run_sameAddr_other w hne ha hb]
  simp only [binOp]
  simp [Op.equal, Op.maxDepth, h 9999]
theorem deqInfo : Try.prog.info? 66 = some ((Try.prog.info? 66).get!) := by kernel_rfl
theorem deqSize : ((Try.prog.info? 66).get!).size = 67 := by kernel_rfl
theorem opInfo : Try.prog.info? 71 = some ((Try.prog.info? 71).get!) := by kernel_rfl
theorem opSize : ((Try.prog.info? 71).get!).size = 6 := by kernel_rfl
section
variable {w : World} {p D : Nat} {s : DqS} {o : OpS} {ov : Value}
theorem next_any (i : Int) (hi : i < 4611686018427387904) (hbs : BdS s i) (hbo : BdO o i) (hsf : Safe s o) (ho : OpB w p D o) (hd : DeqB w D s ov) (hne : p ≠ D) : Calls Try.prog (nxN o) #[.pointer (some ⟨p, 0, none⟩)] w (StepT p D s o ov w) := by
  obtain ⟨hg, hin⟩ := hsf.in_
  rcases hin with ⟨hk, hn⟩ | ⟨hk, hn⟩ | ⟨hk, hn⟩
  · rcases (show o.next = 0 ∨ o.next = 1 ∨ o.next = 2 ∨ o.next = 3 by omega) with hx | hx | hx | hx
    · rw [show nxN o = 29 by simp [nxN, hk, hx]]; exact step_a i hi hbs hbo hsf ho hd hne hg hk hx
    · rw [show nxN o = 33 by simp [nxN, hk, hx]]; exact step_b i hi hbs hbo hsf ho hd hne hg hk hx
    · rw [show nxN o = 37 by simp [nxN, hk, hx]]; exact step_c i hi hbs hbo hsf ho hd hne hg hk hx
    · rw [show nxN o = 42 by simp [nxN, hk, hx]]; exact step_d i hi hbs hbo hsf ho hd hne hg hk hx
  · rcases (show o.next = 0 ∨ o.next = 1 ∨ o.next = 2 ∨ o.next = 3 ∨ o.next = 4 by omega) with hx | hx | hx | hx | hx
    · rw [show nxN o = 31 by simp [nxN, hk, hx]]; exact step_e i hi hbs hbo hsf ho hd hne hg hk hx
    · rw [show nxN o = 35 by simp [nxN, hk, hx]]; exact step_f i hi hbs hbo hsf ho hd hne hg hk hx
    · by_cases hlt : o.b - 1 < o.t
      · rw [show nxN o = 39 by simp [nxN, hk, hx, hlt]]; exact step_k i hi hbs hbo hsf ho hd hne hg hk hx hlt
      · rw [show nxN o = 40 by simp [nxN, hk, hx, hlt]]; exact step_g i hi hbs hbo hsf ho hd hne hg hk hx hlt
    · rw [show nxN o = 44 by simp [nxN, hk, hx]]; exact step_h i hi hbs hbo hsf ho hd hne hg hk hx
    · rw [show nxN o = 39 by simp [nxN, hk, hx]]; exact step_k2 i hi hbs hbo hsf ho hd hne hg hk hx
  · rcases (show o.next = 0 ∨ o.next = 1 ∨ o.next = 2 ∨ o.next = 3 by omega) with hx | hx | hx | hx
    · rw [show nxN o = 30 by simp [nxN, hk, hx]]; exact step_l i hi hbs hbo hsf ho hd hne hg hk hx
    · rw [show nxN o = 34 by simp [nxN, hk, hx]]; exact step_m i hi hbs hbo hsf ho hd hne hg hk hx
    · rw [show nxN o = 38 by simp [nxN, hk, hx]]; exact step_n i hi hbs hbo hsf ho hd hne hg hk hx
    · rw [show nxN o = 43 by simp [nxN, hk, hx]]; exact step_o i hi hbs hbo hsf ho hd hne hg hk hx
theorem next_calls (o : OpS) (args : Array Value) (w : World) : (callFunc (nxN o) args).run Try.prog w = .ok (.enter (nxN o) args) w := by
  unfold nxN
  repeat' split
  all_goals kernel_rfl
/-- The owner's operation: a pointer to its block, or none. -/
def ovV : Option Nat → Value
  | none => .pointer none
  | some p => .pointer (some ⟨p, 0, none⟩)
def ovE (p : Nat) (o' : OpS) (ow : Option Nat) : Option Nat := if o'.got ≠ 0 ∧ ow = some p then none else ow
structure StepR (p D : Nat) (s : DqS) (o : OpS) (ow : Option Nat) (w w' : World) : Prop where
  deq : DeqB w' D (stepD s o).1 (ovV (ovE p (stepD s o).2 ow))
  op : OpB w' p D (stepD s o).2
  fr : FrX (DqX D p) w w'
theorem step_nil (D : Nat) (w : World) : Calls Try.prog 11 #[.pointer (some ⟨D, 0, none⟩), .pointer none] w fun e w' => e = .returned (.tuple #[.bool false, .iface 45 (.int .i64 1)]) ∧ w' = w := by
  go_enter Try.func11, Try.ntmps11
  go_wp2_with fail
  go_ret2
  exact ⟨rfl, rfl⟩
theorem step_other {w : World} {p D D' : Nat} {o : OpS} {cs : Array Value} {t : TypeId} (ho : OpB w p D o) (hne : D ≠ D') {s : DqS} {ov : Value} (hd : DeqB w D s ov) (hd' : w.heap[D']? = some (.cells cs t (0, 0))) : Calls Try.prog 11 #[.pointer (some ⟨D', 0, none⟩), .pointer (some ⟨p, 0, none⟩)] w fun e w' => e = .returned (.tuple #[.bool false, .iface 45 (.int .i64 1)]) ∧ w' = w := by
  have c0 := ho.cs.c0
  have hq := neq_ptr_other w (tp := 24) (a := ⟨D, 0, none⟩) (b := ⟨D', 0, none⟩) Try.underlying24 deqInfo (by rw [deqSize]; decide) (by intro e; injection e with e; exact hne e) hd hd'
  clear ho hd hd'
  go_enter Try.func11, Try.ntmps11
  go_wp2_with fail
  go_ret2
  exact ⟨rfl, rfl⟩
theorem step_done (ho : OpB w p D o) (hg : o.got ≠ 0) : Calls Try.prog 11 #[.pointer (some ⟨D, 0, none⟩), .pointer (some ⟨p, 0, none⟩)] w fun e w' => e = .returned (.tuple #[.bool false, .iface 45 (.int .i64 7)]) ∧ w' = w := by
  have c0 := ho.cs.c0
  have hq := Lib.run_neq_ptr_same (P := Try.prog) w (tp := 24) ⟨D, 0, none⟩ Try.underlying24 deqInfo
  have HO := Lib.hid ho
  have hx : Hid (decide (o.got ≠ 0) = true) := Lib.hid (decide_eq_true hg)
  clear ho hg
  go_enter Try.func11, Try.ntmps11
  go_wp2_with fail
  refine (done_any p D o w HO.out).mono ?_
  rintro e w1 ⟨rfl, rfl⟩
  rw [hx.out]
  go_wp2_with fail
  go_ret2
  exact ⟨rfl, rfl⟩
theorem step_any {ow : Option Nat} (i : Int) (hi : i < 4611686018427387904) (hbs : BdS s i) (hbo : BdO o i) (hsf : Safe s o) (ho : OpB w p D o) (hd : DeqB w D s (ovV ow)) (hne : p ≠ D)
    (how : ∀ q, ow = some q → q ≠ D ∧ ∃ cs t, w.heap[q]? = some (.cells cs t (0, 0))) :
    Calls Try.prog 11 #[.pointer (some ⟨D, 0, none⟩), .pointer (some ⟨p, 0, none⟩)] w fun e w' => e = .returned (.tuple #[.bool (decide ((stepD s o).2.got ≠ 0)), .nilIface]) ∧ StepR p D s o ow w w' := by
  have c0 := ho.cs.c0
  have c1 := ho.func hsf.in_.1 rfl
  have hq := Lib.run_neq_ptr_same (P := Try.prog) w (tp := 24) ⟨D, 0, none⟩ Try.underlying24 deqInfo
  have HN := Lib.hid (next_any i hi hbs hbo hsf ho hd hne)
  have hx : Hid (decide (o.got ≠ 0) = false) := Lib.hid (decide_eq_false (fun q => q hsf.in_.1))
  have HO := Lib.hid ho
  have HOW := Lib.hid how
  have hcf := next_calls o
  clear ho hd hsf how hbs hbo
  go_enter Try.func11, Try.ntmps11
  go_wp2_with fail
  refine (done_any p D o w HO.out).mono ?_
  rintro e w1 ⟨rfl, rfl⟩
  rw [hx.out]
  go_wp2_with fail
  refine HN.out.mono ?_
  rintro e w2 ⟨rfl, hD2, hO2, hF2⟩
  clear HN HO c0 c1 hq hx hcf
  generalize hso : stepD s o = so at *
  obtain ⟨s', o'⟩ := so
  dsimp only at hD2 hO2 ⊢
  have HSO := Lib.hid hso
  have HD2 := Lib.hid hD2
  have HO2 := Lib.hid hO2
  have HF2 := Lib.hid hF2
  by_cases hg : o'.got = 0
  · have hx : Hid (decide (o'.got ≠ 0) = false) := Lib.hid (decide_eq_false (fun q => q hg))
    have hE : Hid (ovE p o' ow = ow) := Lib.hid (by unfold ovE; rw [if_neg (fun q => q.1 hg)])
    clear hg hD2 hO2 hF2 hso
    go_wp2_with fail
    refine (done_any p D o' w2 HO2.out).mono ?_
    rintro e w3 ⟨rfl, rfl⟩
    rw [hx.out]
    go_wp2_with fail
    refine (done_any p D o' w3 HO2.out).mono ?_
    rintro e w4 ⟨rfl, rfl⟩
    rw [hx.out]
    go_wp2_with fail
    go_ret2
    refine ⟨by rw [show decide ((stepD s o).2.got ≠ 0) = false by rw [HSO.out]; exact hx.out]; rfl, ?_, ?_, HF2.out⟩
    · rw [HSO.out]; show DeqB w4 D s' (ovV (ovE p o' ow)); rw [hE.out]; exact HD2.out
    · rw [HSO.out]; exact HO2.out
  · have hx : Hid (decide (o'.got ≠ 0) = true) := Lib.hid (decide_eq_true hg)
    have d0 := hD2.own
    have g0 := hD2.free 66
    have HG := Lib.hid hg
    clear hg hF2 hso
    rcases hcw : ow with _ | q
    · subst hcw
      have hE : Hid (ovE p o' none = none) := Lib.hid (by unfold ovE; rw [if_neg (fun q => by cases q.2)])
      replace d0 : w2.cell? ⟨D, 66, none⟩ = some (.pointer none) := d0
      clear hD2 hO2
      go_wp2_with fail
      refine (done_any p D o' w2 HO2.out).mono ?_
      rintro e w3 ⟨rfl, rfl⟩
      rw [hx.out]
      go_wp2_with fail
      refine (done_any p D o' w3 HO2.out).mono ?_
      rintro e w4 ⟨rfl, rfl⟩
      rw [hx.out]
      go_wp2_with fail
      go_ret2
      refine ⟨by rw [show decide ((stepD s o).2.got ≠ 0) = true by rw [HSO.out]; exact hx.out]; rfl, ?_, ?_, HF2.out⟩
      · rw [HSO.out]; show DeqB _ D s' (ovV (ovE p o' none)); rw [hE.out]; exact HD2.out
      · rw [HSO.out]; exact HO2.out
    · subst hcw
      replace d0 : w2.cell? ⟨D, 66, none⟩ = some (.pointer (some ⟨q, 0, none⟩)) := d0
      obtain ⟨hqD, cs, t, hqb⟩ := HOW.out q rfl
      by_cases hqp : q = p
      · subst hqp
        have hE : Hid (ovE q o' (some q) = none) := Lib.hid (by unfold ovE; rw [if_pos ⟨HG.out, rfl⟩])
        have hq := fun w => run_eql_ptr_same (P := Try.prog) w (tp := 32) ⟨q, 0, none⟩ Try.underlying32 opInfo
        clear hD2 hO2 hqb
        go_wp2_with fail
        refine (done_any q D o' w2 HO2.out).mono ?_
        rintro e w3 ⟨rfl, rfl⟩
        rw [hx.out]
        go_wp2_with fail
        have HDS : Hid (DeqB (w3.setCell ⟨D, 66, none⟩ (.pointer none)) D s' (ovV none)) := Lib.hid (HD2.out.setOwn _)
        have HOS : Hid (OpB (w3.setCell ⟨D, 66, none⟩ (.pointer none)) q D o') := Lib.hid (HO2.out.go (setP_other hne _ _))
        refine (done_any q D o' _ HOS.out).mono ?_
        rintro e w4 ⟨rfl, rfl⟩
        rw [hx.out]
        go_wp2_with fail
        go_ret2
        refine ⟨by rw [show decide ((stepD s o).2.got ≠ 0) = true by rw [HSO.out]; exact hx.out]; rfl, ?_, ?_, HF2.out.setD _ _⟩
        · rw [HSO.out]; show DeqB _ D s' (ovV (ovE q o' (some q))); rw [hE.out]; exact HDS.out
        · rw [HSO.out]; exact HOS.out
      · have hE : Hid (ovE p o' (some q) = some q) := Lib.hid (by unfold ovE; rw [if_neg (fun k => hqp (by injection k.2))])
        have hq2 : w2.heap[q]? = some (.cells cs t (0, 0)) := (HF2.out.block q (Array.getElem?_eq_some_iff.1 hqb).1 (fun k => by rcases k with k | k; exact hqD k; exact hqp k)).trans hqb
        have hq := run_eql_ptr_other (P := Try.prog) w2 (tp := 32) (a := ⟨p, 0, none⟩) (b := ⟨q, 0, none⟩) Try.underlying32 opInfo (by rw [opSize]; decide) (by intro e; injection e with e; exact hqp e.symm) hO2 hq2
        clear hD2 hO2 hqb hq2
        go_wp2_with fail
        refine (done_any p D o' w2 HO2.out).mono ?_
        rintro e w3 ⟨rfl, rfl⟩
        rw [hx.out]
        go_wp2_with fail
        refine (done_any p D o' w3 HO2.out).mono ?_
        rintro e w4 ⟨rfl, rfl⟩
        rw [hx.out]
        go_wp2_with fail
        go_ret2
        refine ⟨by rw [show decide ((stepD s o).2.got ≠ 0) = true by rw [HSO.out]; exact hx.out]; rfl, ?_, ?_, HF2.out⟩
        · rw [HSO.out]; show DeqB _ D s' (ovV (ovE p o' (some q))); rw [hE.out]; exact HD2.out
        · rw [HSO.out]; exact HO2.out
end
end Go.Proofs.Ytacadgocoleaoaa

/- A deque's calls, in memory: New, Push, Pop, Steal, State, Result. -/
namespace Go.Proofs.Ytacadgocoleaoaa
open Go.ChangeShapes Go.WideShapes Go.RowKit Go.Deep
set_option linter.unusedVariables false

theorem alloc_old {w : World} {k : Nat} {o o' : Obj} (h : w.heap[k]? = some o) : (w.alloc o').heap[k]? = some o := (Below.heap_alloc _ _ _ (Array.getElem?_eq_some_iff.1 h).1).trans h
def zeroQ : DqS := ⟨fun _ => 0, 0, 0⟩
theorem zero_q (w : World) : (zeroValue 66).run Try.prog w = .ok (.agg (deqC zeroQ (.pointer none))) w := by kernel_rfl
theorem new_any (w : World) : Calls Try.prog 7 #[] w fun e w' => e = .returned (.pointer (some ⟨w.heap.size, 0, none⟩)) ∧ DeqB w' w.heap.size zeroQ (ovV none) ∧ Below w.heap.size w w' := by
  have hz := zero_q
  go_enter Try.func7, Try.ntmps7
  go_wp2_with fail
  go_ret
  refine ⟨rfl, heap_alloc_new _ _, (Below.refl _ _).alloc (Nat.le_refl _) _⟩
section
variable {w : World} {p D : Nat} {s : DqS} {o : OpS} {ow : Option Nat}
theorem begin_no (q : Nat) (p : Nat) (hd : DeqB w D s (ovV (some q))) : Calls Try.prog 28 #[.pointer (some ⟨D, 0, none⟩), .pointer (some ⟨p, 0, none⟩)] w fun e w' => e = .returned (.tuple #[.pointer none, .iface 45 (.int .i64 7)]) ∧ w' = w := by
  have d0 : w.cell? ⟨D, 66, none⟩ = some (.pointer (some ⟨q, 0, none⟩)) := hd.own
  clear hd
  go_enter Try.func28, Try.ntmps28
  go_wp2_with fail
  go_ret2
  exact ⟨rfl, rfl⟩
theorem begin_yes (p : Nat) (hd : DeqB w D s (ovV none)) : Calls Try.prog 28 #[.pointer (some ⟨D, 0, none⟩), .pointer (some ⟨p, 0, none⟩)] w fun e w' => e = .returned (.tuple #[.pointer (some ⟨p, 0, none⟩), .nilIface]) ∧ w' = w.setCell ⟨D, 66, none⟩ (.pointer (some ⟨p, 0, none⟩)) := by
  have d0 : w.cell? ⟨D, 66, none⟩ = some (.pointer none) := hd.own
  have g0 := hd.free 66
  clear hd
  go_enter Try.func28, Try.ntmps28
  go_wp2_with fail
  go_ret2
  exact ⟨rfl, rfl⟩
theorem push_no (q : Nat) (v : Int) (hd : DeqB w D s (ovV (some q))) : Calls Try.prog 20 #[.pointer (some ⟨D, 0, none⟩), .int .i64 v] w fun e w' => e = .returned (.tuple #[.pointer none, .iface 45 (.int .i64 7)]) ∧ Below w.heap.size w w' := by
  have HD := Lib.hid hd
  clear hd
  go_enter Try.func20, Try.ntmps20
  go_wp2_with fail
  refine (begin_no q _ (alloc_old HD.out)).mono ?_
  rintro e w1 ⟨rfl, rfl⟩
  go_wp2_with fail
  go_ret2
  exact ⟨rfl, (Below.refl _ _).alloc (Nat.le_refl _) _⟩
theorem push_yes (v : Int) (hd : DeqB w D s (ovV none)) : Calls Try.prog 20 #[.pointer (some ⟨D, 0, none⟩), .int .i64 v] w fun e w' => e = .returned (.tuple #[.pointer (some ⟨w.heap.size, 0, none⟩), .nilIface]) ∧
    DeqB w' D s (ovV (some w.heap.size)) ∧ OpB w' w.heap.size D (opB 1 v) ∧ FrX (fun y => y = D) w w' := by
  have HD := Lib.hid hd
  clear hd
  go_enter Try.func20, Try.ntmps20
  go_wp2_with fail
  refine (begin_yes _ (alloc_old HD.out)).mono ?_
  rintro e w1 ⟨rfl, rfl⟩
  go_wp2_with fail
  go_ret2
  have hlt := HD.out.lt
  exact ⟨rfl, DeqB.setOwn (alloc_old HD.out) _, (setP_other (by omega) _ _).trans (heap_alloc_new _ _), FrX.setCell (X := fun y => y = D) (p := ⟨D, 66, none⟩) ((FrX.refl _ _).alloc _) (.inl rfl) _⟩
theorem pop_no (q : Nat) (hd : DeqB w D s (ovV (some q))) : Calls Try.prog 23 #[.pointer (some ⟨D, 0, none⟩)] w fun e w' => e = .returned (.tuple #[.pointer none, .iface 45 (.int .i64 7)]) ∧ Below w.heap.size w w' := by
  have HD := Lib.hid hd
  clear hd
  go_enter Try.func23, Try.ntmps23
  go_wp2_with fail
  refine (begin_no q _ (alloc_old HD.out)).mono ?_
  rintro e w1 ⟨rfl, rfl⟩
  go_wp2_with fail
  go_ret2
  exact ⟨rfl, (Below.refl _ _).alloc (Nat.le_refl _) _⟩
theorem pop_yes (hd : DeqB w D s (ovV none)) : Calls Try.prog 23 #[.pointer (some ⟨D, 0, none⟩)] w fun e w' => e = .returned (.tuple #[.pointer (some ⟨w.heap.size, 0, none⟩), .nilIface]) ∧
    DeqB w' D s (ovV (some w.heap.size)) ∧ OpB w' w.heap.size D (opB 2 0) ∧ FrX (fun y => y = D) w w' := by
  have HD := Lib.hid hd
  clear hd
  go_enter Try.func23, Try.ntmps23
  go_wp2_with fail
  refine (begin_yes _ (alloc_old HD.out)).mono ?_
  rintro e w1 ⟨rfl, rfl⟩
  go_wp2_with fail
  go_ret2
  have hlt := HD.out.lt
  exact ⟨rfl, DeqB.setOwn (alloc_old HD.out) _, (setP_other (by omega) _ _).trans (heap_alloc_new _ _), FrX.setCell (X := fun y => y = D) (p := ⟨D, 66, none⟩) ((FrX.refl _ _).alloc _) (.inl rfl) _⟩
theorem steal_any (D : Nat) (w : World) : Calls Try.prog 22 #[.pointer (some ⟨D, 0, none⟩)] w fun e w' => e = .returned (.pointer (some ⟨w.heap.size, 0, none⟩)) ∧
    OpB w' w.heap.size D (opB 3 0) ∧ Below w.heap.size w w' := by
  go_enter Try.func22, Try.ntmps22
  go_wp2_with fail
  go_ret
  exact ⟨rfl, heap_alloc_new _ _, (Below.refl _ _).alloc (Nat.le_refl _) _⟩
theorem state_any {ov : Value} (hd : DeqB w D s ov) : Calls Try.prog 15 #[.pointer (some ⟨D, 0, none⟩)] w fun e w' => e = .returned (.tuple #[.int .i64 s.top, .int .i64 s.bot]) ∧ ∃ n, w' = w.drewN n := by
  have d0 := hd.top
  have d1 := hd.bot
  clear hd
  go_enter Try.func15, Try.ntmps15
  go_upto_region 1 with fail
  go_quiet (fail)
  go_wp2_with fail
  go_ret2
  exact ⟨rfl, _, rfl⟩
def resI (o : OpS) : Int := if o.got = 1 then o.x else 0
theorem result_any (ho : OpB w p D o) : Calls Try.prog 13 #[.pointer (some ⟨p, 0, none⟩)] w fun e w' => e = .returned (.tuple #[.int .i64 (o.got : Int), .int .i64 (resI o)]) ∧ ∃ n, w' = w.drewN n := by
  have c4 := ho.cs.c4
  have c5 := ho.cs.c5
  have HO := Lib.hid ho
  clear ho
  by_cases hg : o.got = 0
  · have hx : Hid (decide (o.got ≠ 0) = false) := Lib.hid (decide_eq_false (fun q => q hg))
    have hr : Hid (resI o = 0) := Lib.hid (by unfold resI; rw [if_neg (by omega)])
    have HG := Lib.hid hg
    clear hg c4 c5
    go_enter Try.func13, Try.ntmps13
    go_wp2_with fail
    refine (done_any p D o w HO.out).mono ?_
    rintro e w1 ⟨rfl, rfl⟩
    rw [hx.out]
    go_wp2_with fail
    go_ret2
    exact ⟨by rw [HG.out, hr.out]; rfl, 0, rfl⟩
  · have hx : Hid (decide (o.got ≠ 0) = true) := Lib.hid (decide_eq_true hg)
    rw [show gtI o = (o.got : Int) by unfold gtI; rw [if_neg hg]] at c5
    by_cases h1 : o.got = 1
    · have hr : Hid (resI o = o.x) := Lib.hid (by unfold resI; rw [if_pos h1])
      rw [h1]
      rw [h1] at c5
      clear hg h1
      go_enter Try.func13, Try.ntmps13
      go_wp2_with fail
      refine (done_any p D o w HO.out).mono ?_
      rintro e w1 ⟨rfl, rfl⟩
      rw [hx.out]
      go_upto_region 5 with fail
      go_quiet (fail)
      go_wp2_with fail
      go_ret2
      exact ⟨by rw [hr.out]; rfl, _, rfl⟩
    · have hr : Hid (resI o = 0) := Lib.hid (by unfold resI; rw [if_neg h1])
      have e1 : ((o.got : Int) == 1) = false := by simp; omega
      clear hg h1
      go_enter Try.func13, Try.ntmps13
      go_wp2_with fail
      refine (done_any p D o w HO.out).mono ?_
      rintro e w1 ⟨rfl, rfl⟩
      rw [hx.out]
      go_wp2_with fail
      go_ret2
      exact ⟨by rw [hr.out]; rfl, 0, rfl⟩
end
end Go.Proofs.Ytacadgocoleaoaa

/- The law's 'done' and its example. -/
namespace Go.Proofs.Ytacadgocoleaoaa
open Go.ChangeShapes Go.WideShapes Go.RowKit Go.Deep
set_option linter.unusedVariables false

/-- Where 'done' is, behind j steps. -/
structure DnL (w : World) (p D : Nat) (ow : Option Nat) (ib : Int) (k : Nat) (s' : DqS) (o' : OpS) (j : Nat) (wr : World) : Prop where
  ex : ∃ s o, Ends (k - j) s o s' o' ∧ Al s o ∧ BdS s (ib + j) ∧ BdO o (ib + j) ∧ DeqB wr D s (ovV ow) ∧ OpB wr p D o
  jk : j < k
  fr : FrX (DqX D p) w wr
/-- What 'done' tells. -/
structure DnT (w : World) (p D : Nat) (ow : Option Nat) (ib : Int) (s' : DqS) (o' : OpS) (w' : World) : Prop where
  deq : DeqB w' D s' (ovV (ovE p o' ow))
  op : OpB w' p D o'
  fr : FrX (DqX D p) w w'
  bd : BdS s' (ib + 6)
theorem frx_heap {w w' : World} {D p : Nat} {ow : Option Nat} (h : FrX (DqX D p) w w') (how : ∀ q, ow = some q → q ≠ D ∧ ∃ cs t, w.heap[q]? = some (.cells cs t (0, 0))) {o : OpS} (hp : OpB w' p D o) : ∀ q, ow = some q → q ≠ D ∧ ∃ cs t, w'.heap[q]? = some (.cells cs t (0, 0)) := fun q hq => by
  obtain ⟨h1, cs, t, h2⟩ := how q hq
  refine ⟨h1, ?_⟩
  by_cases e : q = p
  · subst e; exact ⟨_, _, hp⟩
  · exact ⟨cs, t, (h.block q (Array.getElem?_eq_some_iff.1 h2).1 (fun k => by rcases k with k | k; exact h1 k; exact e k)).trans h2⟩
set_option maxHeartbeats 1000000 in
theorem lawDone {w : World} {p D : Nat} {s s' : DqS} {o o' : OpS} {ow : Option Nat} (ib : Int) (hib : ib < 1000000) (k : Nat) (hk : k ≤ 6) (hE : Ends k s o s' o') (hal : Al s o) (hbs : BdS s ib) (hbo : BdO o ib) (hd : DeqB w D s (ovV ow)) (ho : OpB w p D o) (hne : p ≠ D)
    (how : ∀ q, ow = some q → q ≠ D ∧ ∃ cs t, w.heap[q]? = some (.cells cs t (0, 0))) :
    Calls Try.prog 21 #[.pointer (some ⟨D, 0, none⟩), .pointer (some ⟨p, 0, none⟩)] w fun e w' => e = .returned (.bool true) ∧ DnT w p D ow ib s' o' w' := by
  have hk0 : 0 < k := by
    cases k with
    | zero => exact hE.elim
    | succ k => omega
  have H0 : Hid (DnL w p D ow ib k s' o' 0 w) := Lib.hid ⟨⟨s, o, hE, hal, by simpa using hbs, by simpa using hbo, hd, ho⟩, hk0, FrX.refl _ _⟩
  have HW := Lib.hid how
  clear hE hal hbs hbo hd ho how hk0
  go_enter Try.func21, Try.ntmps21
  go_wp2_with fail
  go_loopw [5] (fun i wr => ∃ j : Nat, i = .int .i64 (j : Int) ∧ Hid (DnL w p D ow ib k s' o' j wr)) (fun i _ => 6 - (intOf i).toNat)
  case atStart => exact ⟨0, rfl, H0⟩
  case round =>
    obtain ⟨j, rfl, hL⟩ := hrel
    obtain ⟨⟨sj, oj, hEj, hAj, hBj, hOj, hdj, hoj⟩, hjk, hfr⟩ := hL.out
    have hj6 : (j : Int) < 6 := by omega
    have HC := Lib.hid (step_any (ib + j) (by omega) hBj hOj hAj.safe hoj hdj hne (frx_heap hfr HW.out hoj))
    obtain ⟨m, hm⟩ : ∃ m, k - j = m + 1 := ⟨k - j - 1, by omega⟩
    rw [hm] at hEj
    have HB := Lib.hid (bd_step hBj hOj hAj.safe)
    have HF := Lib.hid hfr
    have HM := Lib.hid hm
    have HK := Lib.hid hk
    rcases hEj with ⟨hm0, hg, hst⟩ | ⟨hg, hE2⟩
    · have hx : Hid (decide ((stepD sj oj).2.got ≠ 0) = true) := Lib.hid (decide_eq_true hg)
      have HST := Lib.hid hst
      clear hdj hoj hBj hOj hAj hg hst hm hfr hm0 hk hL
      go_wp2_with fail
      refine HC.out.mono ?_
      rintro e w2 ⟨rfl, hR⟩
      rw [hx.out]
      have HR := Lib.hid hR
      clear hR HC
      go_wp2_with fail
      go_ret
      have e1 : (stepD sj oj).1 = s' := by rw [HST.out]
      have e2 : (stepD sj oj).2 = o' := by rw [HST.out]
      have h1 := HR.out.deq
      have h2 := HR.out.op
      have h3 := HB.out.1
      rw [e1] at h1 h3
      rw [e2] at h1 h2
      exact ⟨rfl, h1, h2, HF.out.trans HR.out.fr, h3.more (by have := HM.out; have := HK.out; omega)⟩
    · have hx : Hid (decide ((stepD sj oj).2.got ≠ 0) = false) := Lib.hid (decide_eq_false (fun q => q hg))
      have HN : Hid (Ends (k - (j + 1)) (stepD sj oj).1 (stepD sj oj).2 s' o') := Lib.hid (by rw [show k - (j + 1) = m by omega]; exact hE2)
      have HA := Lib.hid (hAj.step hg)
      have HV : Hid (ovE p (stepD sj oj).2 ow = ow) := Lib.hid (by unfold ovE; rw [if_neg (fun q => q.1 hg)])
      have hj2 : j + 1 < k := by
        cases m with
        | zero => exact hE2.elim
        | succ m => omega
      clear hdj hoj hBj hOj hAj hg hm hfr hE2 hk hL hjk
      go_wp2_with fail
      refine HC.out.mono ?_
      rintro e w2 ⟨rfl, hR⟩
      rw [hx.out]
      have HR := Lib.hid hR
      clear hR HC
      go_wp2_with fail
      go_roundw
      case rel =>
        refine ⟨j + 1, by go_num, Lib.hid ⟨⟨_, _, HN.out, HA.out, ?_, ?_, ?_, HR.out.op⟩, hj2, HF.out.trans HR.out.fr⟩⟩
        · have := HB.out.1; rw [show ib + ((j + 1 : Nat) : Int) = ib + j + 1 by omega]; exact this
        · have := HB.out.2; rw [show ib + ((j + 1 : Nat) : Int) = ib + j + 1 by omega]; exact this
        · have := HR.out.deq; rw [HV.out] at this; exact this
      case measure => simp [intOf]; omega
end Go.Proofs.Ytacadgocoleaoaa

/- A deque at rest; the law's 'left' and its example. -/
namespace Go.Proofs.Ytacadgocoleaoaa
open Go.ChangeShapes Go.WideShapes Go.RowKit Go.Deep
set_option linter.unusedVariables false

/-- A deque with nothing under way: what is left in it. -/
structure Rst (w : World) (D : Nat) (s : DqS) (inn : List Int) (ib : Int) : Prop where
  deq : DeqB w D s (ovV none)
  own : ∃ B SB, Own s none inn B SB
  bd : BdS s ib
theorem Rst.len {w : World} {D : Nat} {s : DqS} {inn : List Int} {ib : Int} (h : Rst w D s inn ib) : inn.length ≤ 64 := by
  obtain ⟨B, SB, h1⟩ := h.own
  obtain ⟨rfl, rfl, h2, h3, h4, h5⟩ := own_idle h1
  have := h5.len
  omega
theorem Rst.new {w : World} {D : Nat} (h : DeqB w D zeroQ (ovV none)) : Rst w D zeroQ [] 0 :=
  ⟨h, ⟨_, _, Own.idle (Int.le_refl _) (Int.le_refl _) (by show (0 : Int) - 0 ≤ 64; omega) ⟨rfl, fun k x h => (by cases h)⟩⟩, ⟨by decide, by decide, by decide, by decide⟩⟩
theorem Rst.go {w w' : World} {D : Nat} {s : DqS} {inn : List Int} {ib : Int} (h : Rst w D s inn ib) (hb : w'.heap[D]? = w.heap[D]?) : Rst w' D s inn ib := ⟨h.deq.go hb, h.own, h.bd⟩
theorem Rst.more {w : World} {D : Nat} {s : DqS} {inn : List Int} {ib jb : Int} (h : Rst w D s inn ib) (hj : ib ≤ jb) : Rst w D s inn jb := ⟨h.deq, h.own, h.bd.more hj⟩
/-- One operation of the owner's, begun and done to its end. -/
theorem rst_own {w1 w2 : World} {D p : Nat} {s' : DqS} {o' : OpS} {r : List Int} {ib : Int} (h : DnT w1 p D (some p) ib s' o' w2) (hg : o'.got ≠ 0) (ho : ∃ B SB, Own s' none r B SB) : Rst w2 D s' r (ib + 6) :=
  ⟨by have := h.deq; rw [show ovE p o' (some p) = none by unfold ovE; rw [if_pos ⟨hg, rfl⟩]] at this; exact this, ho, h.bd⟩
theorem rst_th {w1 w2 : World} {D p : Nat} {s' : DqS} {o' : OpS} {r : List Int} {ib : Int} (h : DnT w1 p D none ib s' o' w2) (ho : ∃ B SB, Own s' none r B SB) : Rst w2 D s' r (ib + 6) :=
  ⟨by have := h.deq; rw [show ovE p o' none = none by unfold ovE; rw [if_neg (fun q => by cases q.2)]] at this; exact this, ho, h.bd⟩
theorem Rst.alPop {w : World} {D : Nat} {s : DqS} {inn : List Int} {ib : Int} (h : Rst w D s inn ib) (k : Nat) (hk : k = 1 ∨ k = 2) (x : Int) : Al s (opB k x) := by
  obtain ⟨B, SB, h1⟩ := h.own
  exact .own (own_begin h1 k hk x)
theorem Rst.alSteal {w : World} {D : Nat} {s : DqS} {inn : List Int} {ib : Int} (h : Rst w D s inn ib) : Al s (opB 3 0) := by
  obtain ⟨B, SB, h1⟩ := h.own
  exact .th h1 th_new
theorem Rst.low {w : World} {D : Nat} {s : DqS} {inn : List Int} {ib : Int} (h : Rst w D s inn ib) : 0 ≤ ib := by have := h.bd; have := this.t0; have := h.bd.t1; omega
/-- What has changed, over an operation's begin and its steps. -/
theorem frx_own {w w1 w2 : World} {D p : Nat} (h : FrX (fun y => y = D) w w1) (h2 : FrX (DqX D p) w1 w2) (hp : w.heap.size ≤ p) : FrX (fun y => y = D) w w2 :=
  ⟨h2.os.trans h.os, h2.tape.trans h.tape, h2.output.trans h.output, Nat.le_trans h.size h2.size, fun k hk hx => (h2.block k (Nat.lt_of_lt_of_le hk h.size) (fun q => by rcases q with q | q; exact hx q; omega)).trans (h.block k hk hx)⟩
theorem frx_of {X : Nat → Prop} {w w' : World} (h : Below w.heap.size w w') : FrX X w w' := FrX.of_below h
theorem frx_dN {X : Nat → Prop} {a w : World} (h : FrX X a w) (n : Nat) : FrX X a (w.drewN n) := ⟨h.os, h.tape, h.output, h.size, h.block⟩
theorem heap_drewN (w : World) (n k : Nat) : (w.drewN n).heap[k]? = w.heap[k]? := rfl
theorem how_one {w : World} {D p : Nat} {o : OpS} (h : OpB w p D o) (hne : p ≠ D) : ∀ q, some p = some q → q ≠ D ∧ ∃ cs t, w.heap[q]? = some (.cells cs t (0, 0)) := fun q e => by
  injection e with e
  subst e
  exact ⟨hne, _, _, h⟩
theorem how_none {w : World} {D : Nat} : ∀ q, (none : Option Nat) = some q → q ≠ D ∧ ∃ cs t, w.heap[q]? = some (.cells cs t (0, 0)) := fun q e => by cases e
/-- A Push that was begun on a deque at rest, done to its end. -/
def PushD (w : World) (D p : Nat) (inn : List Int) (v ib : Int) (s' : DqS) (o' : OpS) (e : Ending) (w2 : World) : Prop :=
  e = .returned (.bool true) ∧ OpB w2 p D o' ∧ FrX (fun y => y = D) w w2 ∧ ((inn.length < 64 ∧ o'.got = 1 ∧ o'.x = v ∧ Rst w2 D s' (inn ++ [v]) (ib + 6)) ∨ (inn.length = 64 ∧ o'.got = 3 ∧ Rst w2 D s' inn (ib + 6)))
def TakeD (w : World) (D p : Nat) (P : Int → List Int → Prop) (inn : List Int) (ib : Int) (s' : DqS) (o' : OpS) (e : Ending) (w2 : World) : Prop :=
  e = .returned (.bool true) ∧ OpB w2 p D o' ∧ FrX (fun y => y = D) w w2 ∧ ((∃ r, P o'.x r ∧ o'.got = 1 ∧ Rst w2 D s' r (ib + 6)) ∨ (inn = [] ∧ o'.got = 2 ∧ Rst w2 D s' inn (ib + 6)))
section
variable {w w1 : World} {D p : Nat} {s : DqS} {inn : List Int} {ib : Int}
theorem Rst.push {v : Int} (h : Rst w D s inn ib) (hD : DeqB w1 D s (ovV (some p))) (hO : OpB w1 p D (opB 1 v)) (hF : FrX (fun y => y = D) w w1) (hp : w.heap.size ≤ p) (hib : ib < 1000000) :
    ∃ s' o', Calls Try.prog 21 #[.pointer (some ⟨D, 0, none⟩), .pointer (some ⟨p, 0, none⟩)] w1 (PushD w D p inn v ib s' o') := by
  have hne : p ≠ D := by have := h.deq.lt; omega
  obtain ⟨B, SB, hOw⟩ := h.own
  obtain ⟨k, s', o', hk1, hk2, hE, hC⟩ := push_alone hOw v
  refine ⟨s', o', (lawDone ib hib k (by omega) hE (h.alPop 1 (.inl rfl) v) h.bd (bdO_new _ _ _ h.low) hD hO hne (how_one hO hne)).mono ?_⟩
  rintro e w2 ⟨rfl, hT⟩
  refine ⟨rfl, hT.op, frx_own hF hT.fr hp, ?_⟩
  rcases hC with ⟨c1, c2, c3, c4⟩ | ⟨c1, c2, c3⟩
  · exact .inl ⟨c1, c2, c3, rst_own hT (by omega) c4⟩
  · exact .inr ⟨c1, c2, rst_own hT (by omega) c3⟩
theorem Rst.pop (h : Rst w D s inn ib) (hD : DeqB w1 D s (ovV (some p))) (hO : OpB w1 p D (opB 2 0)) (hF : FrX (fun y => y = D) w w1) (hp : w.heap.size ≤ p) (hib : ib < 1000000) :
    ∃ s' o', Calls Try.prog 21 #[.pointer (some ⟨D, 0, none⟩), .pointer (some ⟨p, 0, none⟩)] w1 (TakeD w D p (fun x r => inn = r ++ [x]) inn ib s' o') := by
  have hne : p ≠ D := by have := h.deq.lt; omega
  obtain ⟨B, SB, hOw⟩ := h.own
  obtain ⟨k, s', o', hk1, hk2, hE, hC⟩ := pop_alone hOw
  refine ⟨s', o', (lawDone ib hib k (by omega) hE (h.alPop 2 (.inr rfl) 0) h.bd (bdO_new _ _ _ h.low) hD hO hne (how_one hO hne)).mono ?_⟩
  rintro e w2 ⟨rfl, hT⟩
  refine ⟨rfl, hT.op, frx_own hF hT.fr hp, ?_⟩
  rcases hC with ⟨r, c1, c2, c3⟩ | ⟨c1, c2, c3⟩
  · exact .inl ⟨r, c1, c2, rst_own hT (by omega) c3⟩
  · exact .inr ⟨c1, c2, rst_own hT (by omega) c3⟩
theorem Rst.steal (h : Rst w D s inn ib) (hO : OpB w1 p D (opB 3 0)) (hF : Below w.heap.size w w1) (hp : w.heap.size ≤ p) (hib : ib < 1000000) :
    ∃ s' o', Calls Try.prog 21 #[.pointer (some ⟨D, 0, none⟩), .pointer (some ⟨p, 0, none⟩)] w1 (TakeD w D p (fun x r => inn = x :: r) inn ib s' o') := by
  have hne : p ≠ D := by have := h.deq.lt; omega
  obtain ⟨B, SB, hOw⟩ := h.own
  obtain ⟨k, s', o', hk1, hk2, hE, hC⟩ := steal_alone hOw
  refine ⟨s', o', (lawDone ib hib k (by omega) hE h.alSteal h.bd (bdO_new _ _ _ h.low) (h.deq.go (hF.block D h.deq.lt)) hO hne how_none).mono ?_⟩
  rintro e w2 ⟨rfl, hT⟩
  refine ⟨rfl, hT.op, frx_own (frx_of hF) hT.fr hp, ?_⟩
  rcases hC with ⟨r, c1, c2, c3⟩ | ⟨c1, c2, c3⟩
  · exact .inl ⟨r, c1, c2, rst_th hT c3⟩
  · exact .inr ⟨c1, c2, rst_th hT c3⟩
end
set_option maxHeartbeats 1000000 in
theorem up11_any (w : World) : Calls Try.prog 6 #[] w fun e w' => e = .returned (.bool true) ∧ Below w.heap.size w w' := by
  go_enter Try.func6, Try.ntmps6
  go_wp2_with fail
  refine (new_any w).mono ?_
  rintro e w1 ⟨rfl, hD1, hb1⟩
  generalize hDd : w.heap.size = D at *
  have HR1 := Lib.hid (Rst.new hD1)
  have HZ1 := Lib.hid hD1.lt
  have HB1 := Lib.hid hb1
  clear hD1 hb1
  go_wp2_with fail
  refine (push_yes 7 HR1.out.deq).mono ?_
  rintro e w2 ⟨rfl, hD2, hO2, hF2⟩
  obtain ⟨s3, o3, hC3⟩ := HR1.out.push hD2 hO2 hF2 (Nat.le_refl _) (by omega)
  generalize hPp : w1.heap.size = p at *
  have HP := Lib.hid hPp
  have HDd := Lib.hid hDd
  have HC3 := Lib.hid hC3
  clear hC3 hD2 hO2 hF2 hPp hDd
  go_wp2_with fail
  refine HC3.out.mono ?_
  rintro e w3 ⟨rfl, hO3, hF3, hR3⟩
  have hR3 : ∃ ib, Hid (Rst w3 D s3 [7] ib) ∧ ib < 1000000 := by
    rcases hR3 with ⟨-, -, -, h⟩ | ⟨h, -⟩
    · exact ⟨_, Lib.hid h, by omega⟩
    · simp at h
  obtain ⟨ib, HR3, hib⟩ := hR3
  have HF3 := Lib.hid hF3
  clear hO3 hF3 HC3
  go_wp2_with fail
  refine (pop_yes HR3.out.deq).mono ?_
  rintro e w4 ⟨rfl, hD4, hO4, hF4⟩
  obtain ⟨s5, o5, hC5⟩ := HR3.out.pop hD4 hO4 hF4 (Nat.le_refl _) hib
  generalize hPp : w3.heap.size = q at *
  have HC5 := Lib.hid hC5
  clear hC5 hD4 hO4 hF4 hPp hib
  go_wp2_with fail
  refine HC5.out.mono ?_
  rintro e w5 ⟨rfl, hO5, hF5, hR5⟩
  have hx : Hid (o5.got = 1 ∧ o5.x = 7) := by
    rcases hR5 with ⟨r, h, h2, -⟩ | ⟨h, -⟩
    · have : r = [] ∧ o5.x = 7 := by
        cases r with
        | nil => injection h with h; exact ⟨rfl, h.symm⟩
        | cons a r => injection h with h1 h2; cases r <;> simp at h2
      exact Lib.hid ⟨h2, this.2⟩
    · cases h
  have HO5 := Lib.hid hO5
  have HF5 := Lib.hid hF5
  clear hO5 hF5 hR5 HC5
  go_wp2_with fail
  refine (result_any HO5.out).mono ?_
  rintro e w6 ⟨rfl, n6, rfl⟩
  have hr : resI o5 = 7 := by unfold resI; rw [if_pos hx.out.1]; exact hx.out.2
  rw [hr, hx.out.1]
  clear hr
  go_wp2_with fail
  go_ret
  have HZ := HZ1.out
  have HP := HP.out
  refine ⟨rfl, ?_⟩
  rw [HDd.out]
  exact HB1.out.trans ((frx_dN (HF3.out.trans HF5.out) n6).below (by omega) (fun k hk => by omega))
end Go.Proofs.Ytacadgocoleaoaa

/- The law's 'left'. -/
namespace Go.Proofs.Ytacadgocoleaoaa
open Go.ChangeShapes Go.WideShapes Go.RowKit Go.Deep
set_option linter.unusedVariables false

def intsQ (l : List Int) : List Value := l.map (Value.int .i64)
theorem frx_row {w w' : World} {D K n : Nat} {v : Value} {xs : List Value} (h : w.ownsRow K 3 1 v n xs) (hf : FrX (fun y => y = D) w w') (hK : D < K) : w'.ownsRow K 3 1 v n xs :=
  ownsRow_block h fun g hg => hf.block g ((h.lt g hg).2) (fun e => by have := (h.lt g hg).1; omega)
/-- Where 'left' is: k numbers are left. -/
structure LfL (w : World) (D : Nat) (inn : List Int) (ib : Int) (k : Nat) (wr : World) : Prop where
  ex : ∃ s jb, Rst wr D s (inn.take k) jb ∧ jb + 6 * k ≤ ib + 6 * inn.length
  le : k ≤ inn.length
  fr : FrX (fun y => y = D) w wr
theorem take_succ_eq {l r : List Int} {m : Nat} {x y : Int} (hy : l[m]? = some y) (h : l.take (m + 1) = r ++ [x]) : r = l.take m ∧ x = y := by
  rw [List.take_add_one, hy] at h
  have h : l.take m ++ [y] = r ++ [x] := h
  obtain ⟨h1, h2⟩ := List.append_inj' h rfl
  exact ⟨h1.symm, by injection h2 with h2; exact h2.symm⟩
set_option maxHeartbeats 1000000 in
theorem left_any {w : World} {D K : Nat} {s : DqS} {inn : List Int} {ib : Int} {v : Value} (h : Rst w D s inn ib) (hib : ib < 900000) (hown : w.ownsRow K 3 1 v inn.length (intsQ inn)) (hK : D < K) :
    Calls Try.prog 19 #[.pointer (some ⟨D, 0, none⟩), v] w fun e w' => e = .returned (.bool true) ∧ FrX (fun y => y = D) w w' := by
  obtain ⟨A, c, rfl⟩ := own_sliceL hown
  have hl64 := h.len
  have H0 : Hid (LfL w D inn ib inn.length w) := Lib.hid ⟨⟨s, ib, by rw [List.take_length]; exact h, by omega⟩, Nat.le_refl _, FrX.refl _ _⟩
  have HOWN := Lib.hid hown
  have HL64 := Lib.hid hl64
  have hlm : (inn.length : Int) ≤ 64 := by omega
  clear h hown hl64
  go_enter Try.func19, Try.ntmps19
  go_wp2_with fail
  go_loopw [5] (fun i wr => ∃ k : Nat, i = .int .i64 (k : Int) ∧ Hid (LfL w D inn ib k wr)) (fun i _ => (intOf i).toNat)
  case atStart => exact ⟨inn.length, rfl, H0⟩
  case round =>
    obtain ⟨k, rfl, hL⟩ := hrel
    obtain ⟨⟨s1, jb, hR, hjb⟩, hkl, hfr⟩ := hL.out
    have h64 := HL64.out
    have hjb2 : jb < 1000000 := by omega
    have HR := Lib.hid hR
    have HF := Lib.hid hfr
    have HJ := Lib.hid hjb
    have HKL := Lib.hid hkl
    have HJB := Lib.hid hjb2
    have hk0 : (0 : Int) ≤ (k : Int) := by omega
    have HPOP := Lib.hid (pop_yes hR.deq)
    clear hR hfr hjb hkl hjb2 hL h64
    go_upto_region 4 with fail
    go_wp2_with fail
    refine HPOP.out.mono ?_
    rintro e w2 ⟨rfl, hD2, hO2, hF2⟩
    obtain ⟨s3, o3, hC3⟩ := HR.out.pop hD2 hO2 hF2 (Nat.le_refl _) HJB.out
    generalize hPp : wr.heap.size = p at *
    have HC3 := Lib.hid hC3
    clear hC3 hD2 hO2 hF2 hPp HPOP
    go_wp2_with fail
    refine HC3.out.mono ?_
    rintro e w3 ⟨rfl, hO3, hF3, hR3⟩
    have HO3 := Lib.hid hO3
    have HF3 := Lib.hid hF3
    have HR3 := Lib.hid hR3
    clear hO3 hF3 hR3 HC3
    go_wp2_with fail
    refine (result_any HO3.out).mono ?_
    rintro e w4 ⟨rfl, n4, rfl⟩
    cases k with
    | zero =>
      have hx : o3.got = 2 := by
        rcases HR3.out with ⟨r, h, -⟩ | ⟨-, h, -⟩
        · simp at h
        · exact h
      rw [hx]
      clear hx
      go_wp2_with fail
      go_ret
      exact ⟨rfl, frx_dN (HF.out.trans HF3.out) n4⟩
    | succ m =>
      obtain ⟨y, hy⟩ : ∃ y, inn[m]? = some y := ⟨inn[m]'(by have := HKL.out; omega), List.getElem?_eq_getElem _⟩
      have hx : o3.got = 1 ∧ o3.x = y ∧ Rst w3 D s3 (inn.take m) (jb + 6) := by
        rcases HR3.out with ⟨r, h, h2, h3⟩ | ⟨h, -⟩
        · obtain ⟨rfl, e2⟩ := take_succ_eq hy h
          exact ⟨h2, e2, h3⟩
        · have := congrArg List.length h
          rw [List.length_take, Nat.min_eq_left HKL.out] at this
          cases this
      obtain ⟨hg, hxv, hR4⟩ := hx
      have hrs : resI o3 = y := by unfold resI; rw [if_pos hg]; exact hxv
      rw [hg, hrs]
      have HR4 : Hid (Rst (w3.drewN n4) D s3 (inn.take m) (jb + 6)) := Lib.hid (hR4.go rfl)
      have HFN : Hid (FrX (fun y => y = D) w (w3.drewN n4)) := Lib.hid (frx_dN (HF.out.trans HF3.out) n4)
      have hoN := frx_row HOWN.out HFN.out hK
      obtain ⟨g, cap, hA, -, -⟩ := hoN.form (by have := HKL.out; omega)
      have hce := hA
      injection hA with hA1 hA2 hA3
      subst hA1 hA3
      have hcell : (w3.drewN n4).cell? ⟨g, m, none⟩ = some (.int .i64 y) := by
        rw [hoN.cellAt m (by have := HKL.out; omega)]
        unfold intsQ
        rw [List.getElem?_map, hy]; rfl
      have hm1 : (m : Int) < inn.length := by have := HKL.out; omega
      have hw : wrap64 ((m : Int) + 1 - 1) = (m : Int) := by rw [show (m : Int) + 1 - 1 = m by omega]; exact IntWalk.wrap64_in _ (by omega)
      clear hg hrs hxv hR4 hoN hce hy
      go_wp2_with fail
      go_roundw
      case rel => exact ⟨m, by go_num, Lib.hid ⟨⟨_, _, HR4.out, by have := HJ.out; omega⟩, by have := HKL.out; omega, HFN.out⟩⟩
      case measure => simp [intOf]
end Go.Proofs.Ytacadgocoleaoaa

/- Which of n things a raw number speaks of. -/
namespace Go.Proofs.Ytacadgocoleaoaa
open Go.ChangeShapes Go.WideShapes Go.RowKit Go.Deep
set_option linter.unusedVariables false

def pickQ (c : Int) (m : Nat) : Nat := ((if c < 0 then -(c + 1) else c) % m).toNat
theorem pickQ_lt (c : Int) {m : Nat} (hm : 1 ≤ m) : pickQ c m < m := by
  unfold pickQ
  have := Int.emod_nonneg (if c < 0 then -(c + 1) else c) (b := (m : Int)) (by omega)
  have := Int.emod_lt_of_pos (if c < 0 then -(c + 1) else c) (b := (m : Int)) (by omega)
  omega
theorem pick11 (c : Int) (hc : I64 c) (m : Nat) (hm : 1 ≤ m) (hm2 : m < 1000000) (w : World) : Calls Try.prog 9 #[.int .i64 c, .int .i64 (m : Int)] w fun e w' => e = .returned (.int .i64 (pickQ c m : Int)) ∧ w' = w := by
  obtain ⟨h1, h2⟩ := hc
  have hm0 : ((m : Int) == 0) = false := by simp; omega
  have hmne : ¬ (m : Int) = 0 := by omega
  by_cases h : c < 0
  · obtain ⟨q, hq⟩ : ∃ q : Nat, -(c + 1) = (q : Int) := ⟨(-(c + 1)).toNat, by omega⟩
    obtain ⟨r, hr⟩ : ∃ r : Nat, q % m = r := ⟨_, rfl⟩
    have hr1 : r < m := by rw [← hr]; exact Nat.mod_lt _ (by omega)
    have hr2 : (q : Int) % (m : Int) = (r : Int) := by rw [← hr]; exact Int.natCast_emod q m
    have hr3 : (q : Int).tmod (m : Int) = (r : Int) := by rw [← hr]; rfl
    have HE : Hid ((pickQ c m : Int) = r) := Lib.hid (by unfold pickQ; rw [if_pos h, hq, hr2]; omega)
    have d : decide (c < 0) = true := decide_eq_true h
    clear hr
    go_enter Try.func9, Try.ntmps9
    go_wp2_with fail
    go_ret
    exact ⟨by rw [HE.out]; rfl, rfl⟩
  · obtain ⟨q, hq⟩ : ∃ q : Nat, c = (q : Int) := ⟨c.toNat, by omega⟩
    subst hq
    obtain ⟨r, hr⟩ : ∃ r : Nat, q % m = r := ⟨_, rfl⟩
    have hr1 : r < m := by rw [← hr]; exact Nat.mod_lt _ (by omega)
    have hr2 : (q : Int) % (m : Int) = (r : Int) := by rw [← hr]; exact Int.natCast_emod q m
    have hr3 : (q : Int).tmod (m : Int) = (r : Int) := by rw [← hr]; rfl
    have HE : Hid ((pickQ q m : Int) = r) := Lib.hid (by unfold pickQ; rw [if_neg h, hr2]; omega)
    have d : decide ((q : Int) < 0) = false := decide_eq_false h
    clear hr
    go_enter Try.func9, Try.ntmps9
    go_wp2_with fail
    go_ret
    exact ⟨by rw [HE.out]; rfl, rfl⟩
end Go.Proofs.Ytacadgocoleaoaa
