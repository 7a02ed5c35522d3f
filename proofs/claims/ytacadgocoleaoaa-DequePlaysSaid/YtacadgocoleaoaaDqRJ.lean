/- The document's deque in memory: its steps. -/
import Derived.Test.YtacadgocoleaoaaDqGJ
import Derived.Test.YtacadgocoleaoaaStQJ
import Derived.BigQuiet
namespace Go.Proofs.Ytacadgocoleaoaa
open Go.ChangeShapes Go.WideShapes Go.RowKit Go.Deep
set_option linter.unusedVariables false
set_option linter.unusedSimpArgs false

/-- Cells as numbers. -/
def rowC (f : Nat → Int) : Array Value := Array.ofFn (n := 64) fun i => .int .i64 (f i.val)
theorem rowC_get (f : Nat → Int) {i : Nat} (hi : i < 64) : (rowC f)[i]? = some (.int .i64 (f i)) := by
  unfold rowC; rw [Array.getElem?_ofFn, dif_pos hi]
theorem rowC_set (f : Nat → Int) {i : Nat} (hi : i < 64) (v : Int) : (rowC f).setIfInBounds i (.int .i64 v) = rowC (setC f i v) := by
  apply Array.ext
  · simp [rowC]
  · intro j h1 h2
    have hj : j < 64 := by simpa [rowC] using h1
    rw [Array.getElem_setIfInBounds (by simpa [rowC] using hj)]
    simp only [rowC, Array.getElem_ofFn, setC]
    by_cases hij : i = j
    · rw [if_pos hij, if_pos hij.symm]
    · rw [if_neg hij, if_neg (fun e => hij e.symm)]
/-- The document's deque, and one of its operations. -/
structure RfD (w : World) (M C : Nat) (f : Nat → Int) (top bot : Int) (bz : Bool) : Prop where
  box : w.heap[M]? = some (.cells #[.slice (some ⟨C, 0, none⟩) 64 64, .int .i64 top, .int .i64 bot, .bool bz] 48 (0, 0))
  row : w.heap[C]? = some (.cells (rowC f) 3 (0, 0))
def RfO (w : World) (r : Nat) (kd nx b t x g : Int) (wn : Bool) : Prop := w.heap[r]? = some (.cells #[.int .i64 kd, .int .i64 nx, .int .i64 b, .int .i64 t, .int .i64 x, .int .i64 g, .bool wn] 68 (0, 0))
def RfX (M C r : Nat) (y : Nat) : Prop := y = M ∨ y = C ∨ y = r
structure RfA (M C r : Nat) : Prop where
  mc : M ≠ C
  mr : M ≠ r
  cr : C ≠ r
structure RfW (w w' : World) (M C r : Nat) (f : Nat → Int) (top bot : Int) (bz : Bool) (kd nx b t x g : Int) (wn : Bool) : Prop where
  d : RfD w' M C f top bot bz
  o : RfO w' r kd nx b t x g wn
  fr : FrX (RfX M C r) w w'
section
variable {w : World} {M C r : Nat} {f : Nat → Int} {top bot kd nx b t x g : Int} {bz wn : Bool}
theorem RfD.go (h : RfD w M C f top bot bz) {w' : World} (h1 : w'.heap[M]? = w.heap[M]?) (h2 : w'.heap[C]? = w.heap[C]?) : RfD w' M C f top bot bz := ⟨h1.trans h.box, h2.trans h.row⟩
theorem RfD.setP (h : RfD w M C f top bot bz) (ha : RfA M C r) (i : Nat) (v : Value) : RfD (w.setCell ⟨r, i, none⟩ v) M C f top bot bz := h.go (setP_other ha.mr _ _) (setP_other ha.cr _ _)
theorem RfD.setTop (h : RfD w M C f top bot bz) (ha : RfA M C r) (v : Int) : RfD (w.setCell ⟨M, 1, none⟩ (.int .i64 v)) M C f v bot bz := ⟨set_of_block _ h.box, (setP_other (Ne.symm ha.mc) _ _).trans h.row⟩
theorem RfD.setBot (h : RfD w M C f top bot bz) (ha : RfA M C r) (v : Int) : RfD (w.setCell ⟨M, 2, none⟩ (.int .i64 v)) M C f top v bz := ⟨set_of_block _ h.box, (setP_other (Ne.symm ha.mc) _ _).trans h.row⟩
theorem RfD.setBusy (h : RfD w M C f top bot bz) (ha : RfA M C r) (v : Bool) : RfD (w.setCell ⟨M, 3, none⟩ (.bool v)) M C f top bot v := ⟨set_of_block _ h.box, (setP_other (Ne.symm ha.mc) _ _).trans h.row⟩
theorem RfD.setRow (h : RfD w M C f top bot bz) (ha : RfA M C r) {j : Nat} (hj : j < 64) (v : Int) : RfD (w.setCell ⟨C, j, none⟩ (.int .i64 v)) M C (setC f j v) top bot bz := ⟨(setP_other ha.mc _ _).trans h.box, (set_of_block _ h.row).trans (by rw [rowC_set f hj])⟩
theorem RfD.dN (h : RfD w M C f top bot bz) (k : Nat) : RfD (w.drewN k) M C f top bot bz := ⟨h.box, h.row⟩
theorem RfD.d1 (h : RfD w M C f top bot bz) : RfD w.drew M C f top bot bz := ⟨h.box, h.row⟩
theorem RfO.dN (h : RfO w r kd nx b t x g wn) (k : Nat) : RfO (w.drewN k) r kd nx b t x g wn := h
theorem RfO.d1 (h : RfO w r kd nx b t x g wn) : RfO w.drew r kd nx b t x g wn := h
theorem RfO.setM (h : RfO w r kd nx b t x g wn) (ha : RfA M C r) (i : Nat) (v : Value) : RfO (w.setCell ⟨M, i, none⟩ v) r kd nx b t x g wn := (setP_other (Ne.symm ha.mr) _ _).trans h
theorem RfO.setRw (h : RfO w r kd nx b t x g wn) (ha : RfA M C r) (i : Nat) (v : Value) : RfO (w.setCell ⟨C, i, none⟩ v) r kd nx b t x g wn := (setP_other (Ne.symm ha.cr) _ _).trans h
theorem RfO.nx1 (h : RfO w r kd nx b t x g wn) (v : Int) : RfO (w.setCell ⟨r, 1, none⟩ (.int .i64 v)) r kd v b t x g wn := set_of_block _ h
theorem RfO.b2 (h : RfO w r kd nx b t x g wn) (v : Int) : RfO (w.setCell ⟨r, 2, none⟩ (.int .i64 v)) r kd nx v t x g wn := set_of_block _ h
theorem RfO.t3 (h : RfO w r kd nx b t x g wn) (v : Int) : RfO (w.setCell ⟨r, 3, none⟩ (.int .i64 v)) r kd nx b v x g wn := set_of_block _ h
theorem RfO.x4 (h : RfO w r kd nx b t x g wn) (v : Int) : RfO (w.setCell ⟨r, 4, none⟩ (.int .i64 v)) r kd nx b t v g wn := set_of_block _ h
theorem RfO.g5 (h : RfO w r kd nx b t x g wn) (v : Int) : RfO (w.setCell ⟨r, 5, none⟩ (.int .i64 v)) r kd nx b t x v wn := set_of_block _ h
theorem RfO.w6 (h : RfO w r kd nx b t x g wn) (v : Bool) : RfO (w.setCell ⟨r, 6, none⟩ (.bool v)) r kd nx b t x g v := set_of_block _ h
theorem frx_d1 {X : Nat → Prop} {a w : World} (h : FrX X a w) : FrX X a w.drew := ⟨h.os, h.tape, h.output, h.size, h.block⟩
theorem frx_P {a w : World} (h : FrX (RfX M C r) a w) (i : Nat) (v : Value) : FrX (RfX M C r) a (w.setCell ⟨r, i, none⟩ v) := h.setCell (p := ⟨r, i, none⟩) (.inl (.inr (.inr rfl))) v
theorem frx_M {a w : World} (h : FrX (RfX M C r) a w) (i : Nat) (v : Value) : FrX (RfX M C r) a (w.setCell ⟨M, i, none⟩ v) := h.setCell (p := ⟨M, i, none⟩) (.inl (.inl rfl)) v
theorem frx_C {a w : World} (h : FrX (RfX M C r) a w) (i : Nat) (v : Value) : FrX (RfX M C r) a (w.setCell ⟨C, i, none⟩ v) := h.setCell (p := ⟨C, i, none⟩) (.inl (.inr (.inl rfl))) v
end
theorem refCell_any (n : Nat) (i : Nat) (hn : n % 64 = i) (w : World) : Calls Try.prog 32 #[.int .i64 (n : Int)] w fun e w' => e = .returned (.int .i64 (i : Int)) ∧ w' = w := by
  have hi : i < 64 := by omega
  have e1 : ((n : Int) % 64) = (i : Int) := by omega
  have HE := Lib.hid e1
  clear hn
  go_enter Try.func32, Try.ntmps32
  go_wp2_with fail
  go_ret
  exact ⟨by show Ending.returned (.int .i64 ((n : Int) % 64)) = _; rw [HE.out], rfl⟩
section
variable {w : World} {M C r : Nat} {f : Nat → Int} {top bot kd b t x : Int} {bz wn : Bool}
theorem rpush_a (ha : RfA M C r) (hd : RfD w M C f top bot bz) (ho : RfO w r kd 1 b t x 0 wn) : Calls Try.prog 25 #[.pointer (some ⟨M, 0, none⟩), .pointer (some ⟨r, 0, none⟩)] w fun e w' => e = .returned (.tuple #[]) ∧ RfW w w' M C r f top bot bz kd 1 bot t x 0 wn := by
  have c0 := cell_of_block ho 0
  have c1 : w.cell? ⟨r, 1, none⟩ = some (.int .i64 1) := cell_of_block ho 1
  have c2 : w.cell? ⟨r, 2, none⟩ = some (.int .i64 b) := cell_of_block ho 2
  have c3 : w.cell? ⟨r, 3, none⟩ = some (.int .i64 t) := cell_of_block ho 3
  have c4 : w.cell? ⟨r, 4, none⟩ = some (.int .i64 x) := cell_of_block ho 4
  have c5 : w.cell? ⟨r, 5, none⟩ = some (.int .i64 0) := cell_of_block ho 5
  have c6 : w.cell? ⟨r, 6, none⟩ = some (.bool wn) := cell_of_block ho 6
  have f2 := free_of_block ho 2
  have f3 := free_of_block ho 3
  have f4 := free_of_block ho 4
  have f5 := free_of_block ho 5
  have f6 := free_of_block ho 6
  have d0 : w.cell? ⟨M, 0, none⟩ = some (.slice (some ⟨C, 0, none⟩) 64 64) := cell_of_block hd.box 0
  have d1 : w.cell? ⟨M, 1, none⟩ = some (.int .i64 top) := cell_of_block hd.box 1
  have d2 : w.cell? ⟨M, 2, none⟩ = some (.int .i64 bot) := cell_of_block hd.box 2
  have g1 := free_of_block hd.box 1
  have g2 := free_of_block hd.box 2
  have n1 := ha.mc
  have n2 := ha.mr
  have n3 := ha.cr
  have n4 := Ne.symm ha.mc
  have n5 := Ne.symm ha.mr
  have n6 := Ne.symm ha.cr
  have HD := Lib.hid hd
  have HO := Lib.hid ho
  ·
    clear hd ho
    go_enter Try.func25, Try.ntmps25
    go_wp2_with fail
    first | go_end0 | refine bodyPost_ret (results_none rfl _ _ _) rfl ?_
    exact ⟨rfl, ⟨(HD.out).setP ha _ _, (HO.out).b2 _, frx_P (FrX.refl _ _) _ _⟩⟩
theorem rpush_b (ha : RfA M C r) (hd : RfD w M C f top bot bz) (ho : RfO w r kd 2 b t x 0 wn) (h1 : -1 ≤ b) (h2 : b < 1000000) (h3 : 0 ≤ top) (h4 : top < 1000000) : Calls Try.prog 25 #[.pointer (some ⟨M, 0, none⟩), .pointer (some ⟨r, 0, none⟩)] w fun e w' => e = .returned (.tuple #[]) ∧ RfW w w' M C r f top bot bz kd 2 b top x (if 64 ≤ b - top then 3 else 0) wn := by
  have c0 := cell_of_block ho 0
  have c1 : w.cell? ⟨r, 1, none⟩ = some (.int .i64 2) := cell_of_block ho 1
  have c2 : w.cell? ⟨r, 2, none⟩ = some (.int .i64 b) := cell_of_block ho 2
  have c3 : w.cell? ⟨r, 3, none⟩ = some (.int .i64 t) := cell_of_block ho 3
  have c4 : w.cell? ⟨r, 4, none⟩ = some (.int .i64 x) := cell_of_block ho 4
  have c5 : w.cell? ⟨r, 5, none⟩ = some (.int .i64 0) := cell_of_block ho 5
  have c6 : w.cell? ⟨r, 6, none⟩ = some (.bool wn) := cell_of_block ho 6
  have f2 := free_of_block ho 2
  have f3 := free_of_block ho 3
  have f4 := free_of_block ho 4
  have f5 := free_of_block ho 5
  have f6 := free_of_block ho 6
  have d0 : w.cell? ⟨M, 0, none⟩ = some (.slice (some ⟨C, 0, none⟩) 64 64) := cell_of_block hd.box 0
  have d1 : w.cell? ⟨M, 1, none⟩ = some (.int .i64 top) := cell_of_block hd.box 1
  have d2 : w.cell? ⟨M, 2, none⟩ = some (.int .i64 bot) := cell_of_block hd.box 2
  have g1 := free_of_block hd.box 1
  have g2 := free_of_block hd.box 2
  have n1 := ha.mc
  have n2 := ha.mr
  have n3 := ha.cr
  have n4 := Ne.symm ha.mc
  have n5 := Ne.symm ha.mr
  have n6 := Ne.symm ha.cr
  have HD := Lib.hid hd
  have HO := Lib.hid ho
  have hw : wrap64 (b - top) = b - top := IntWalk.wrap64_in _ (by omega)
  by_cases hc : 64 ≤ b - top
  · rw [if_pos hc]
    have e1 : decide (64 ≤ b - top) = true := decide_eq_true hc
    clear h1 h2 h3 h4 hc
    clear hd ho
    go_enter Try.func25, Try.ntmps25
    go_wp2_with fail
    go_quiet (fail)
    go_wp2_with fail
    first | go_end0 | refine bodyPost_ret (results_none rfl _ _ _) rfl ?_
    exact ⟨rfl, ⟨(RfD.dN ((HD.out).setP ha _ _) _).setP ha _ _, (RfO.dN ((HO.out).t3 _) _).g5 _, frx_P (frx_dN (frx_P (FrX.refl _ _) _ _) _) _ _⟩⟩
  · rw [if_neg hc]
    have e1 : decide (64 ≤ b - top) = false := decide_eq_false hc
    clear h1 h2 h3 h4 hc
    clear hd ho
    go_enter Try.func25, Try.ntmps25
    go_wp2_with fail
    go_quiet (fail)
    go_wp2_with fail
    first | go_end0 | refine bodyPost_ret (results_none rfl _ _ _) rfl ?_
    exact ⟨rfl, ⟨RfD.dN ((HD.out).setP ha _ _) _, RfO.dN ((HO.out).t3 _) _, frx_dN (frx_P (FrX.refl _ _) _ _) _⟩⟩
theorem rpush_c (ha : RfA M C r) (hd : RfD w M C f top bot bz) (ho : RfO w r kd 3 b t x 0 wn) (h1 : 0 ≤ b) : Calls Try.prog 25 #[.pointer (some ⟨M, 0, none⟩), .pointer (some ⟨r, 0, none⟩)] w fun e w' => e = .returned (.tuple #[]) ∧ RfW w w' M C r (setC f (cellI b) x) top bot bz kd 3 b t x 0 wn := by
  have c0 := cell_of_block ho 0
  have c1 : w.cell? ⟨r, 1, none⟩ = some (.int .i64 3) := cell_of_block ho 1
  have c2 : w.cell? ⟨r, 2, none⟩ = some (.int .i64 b) := cell_of_block ho 2
  have c3 : w.cell? ⟨r, 3, none⟩ = some (.int .i64 t) := cell_of_block ho 3
  have c4 : w.cell? ⟨r, 4, none⟩ = some (.int .i64 x) := cell_of_block ho 4
  have c5 : w.cell? ⟨r, 5, none⟩ = some (.int .i64 0) := cell_of_block ho 5
  have c6 : w.cell? ⟨r, 6, none⟩ = some (.bool wn) := cell_of_block ho 6
  have f2 := free_of_block ho 2
  have f3 := free_of_block ho 3
  have f4 := free_of_block ho 4
  have f5 := free_of_block ho 5
  have f6 := free_of_block ho 6
  have d0 : w.cell? ⟨M, 0, none⟩ = some (.slice (some ⟨C, 0, none⟩) 64 64) := cell_of_block hd.box 0
  have d1 : w.cell? ⟨M, 1, none⟩ = some (.int .i64 top) := cell_of_block hd.box 1
  have d2 : w.cell? ⟨M, 2, none⟩ = some (.int .i64 bot) := cell_of_block hd.box 2
  have g1 := free_of_block hd.box 1
  have g2 := free_of_block hd.box 2
  have n1 := ha.mc
  have n2 := ha.mr
  have n3 := ha.cr
  have n4 := Ne.symm ha.mc
  have n5 := Ne.symm ha.mr
  have n6 := Ne.symm ha.cr
  have HD := Lib.hid hd
  have HO := Lib.hid ho
  obtain ⟨q, hq⟩ : ∃ q : Nat, b = (q : Int) := ⟨(b).toNat, by omega⟩
  obtain ⟨j, hj⟩ : ∃ j : Nat, q % 64 = j := ⟨_, rfl⟩
  have hc : cellI (b) = j := by unfold cellI; omega
  have hj2 : j < 64 := by omega
  have hjI : (j : Int) < 64 := by omega
  have r3 : w.cell? ⟨C, j, none⟩ = some (.int .i64 (f j)) := (cell_of_block hd.row j).trans (rowC_get f hj2)
  have s3 := free_of_block hd.row j
  rw [hc]
  rw [hq] at c2
  ·
    clear h1
    clear hd ho
    go_enter Try.func25, Try.ntmps25
    go_upto_region 8 with fail
    refine wp_region_still_tail 14 (by kernel_rfl) (by kernel_rfl) ?_
    simp only [List.take_succ_cons, List.take_zero, List.drop_succ_cons, List.drop_zero]
    refine still_of_quietT _ _ ?_
    change wpQuiet _ _ (fun w' => w' = World.drew w) (fun a' => wpList _ _ _ _ a' (World.drew w)) _ _
    repeat (go_big_quiet_step (fail))
    go_big_quiet_want
    go_big_quiet_op
    refine ⟨_, refCell_any q j hj _, ?_⟩
    go_big_quiet_on
    repeat (go_big_quiet_step (fail))
    refine wpQuiet_nil ?_
    go_wp2_with fail
    first | go_end0 | refine bodyPost_ret (results_none rfl _ _ _) rfl ?_
    exact ⟨rfl, ⟨RfD.d1 ((HD.out).setRow ha hj2 _), RfO.d1 ((HO.out).setRw ha _ _), frx_d1 (frx_C (FrX.refl _ _) _ _)⟩⟩
theorem rpush_d (ha : RfA M C r) (hd : RfD w M C f top bot bz) (ho : RfO w r kd 4 b t x 0 wn) (h1 : -1 ≤ b) (h2 : b < 1000000) : Calls Try.prog 25 #[.pointer (some ⟨M, 0, none⟩), .pointer (some ⟨r, 0, none⟩)] w fun e w' => e = .returned (.tuple #[]) ∧ RfW w w' M C r f top (b + 1) bz kd 4 b t x 1 wn := by
  have c0 := cell_of_block ho 0
  have c1 : w.cell? ⟨r, 1, none⟩ = some (.int .i64 4) := cell_of_block ho 1
  have c2 : w.cell? ⟨r, 2, none⟩ = some (.int .i64 b) := cell_of_block ho 2
  have c3 : w.cell? ⟨r, 3, none⟩ = some (.int .i64 t) := cell_of_block ho 3
  have c4 : w.cell? ⟨r, 4, none⟩ = some (.int .i64 x) := cell_of_block ho 4
  have c5 : w.cell? ⟨r, 5, none⟩ = some (.int .i64 0) := cell_of_block ho 5
  have c6 : w.cell? ⟨r, 6, none⟩ = some (.bool wn) := cell_of_block ho 6
  have f2 := free_of_block ho 2
  have f3 := free_of_block ho 3
  have f4 := free_of_block ho 4
  have f5 := free_of_block ho 5
  have f6 := free_of_block ho 6
  have d0 : w.cell? ⟨M, 0, none⟩ = some (.slice (some ⟨C, 0, none⟩) 64 64) := cell_of_block hd.box 0
  have d1 : w.cell? ⟨M, 1, none⟩ = some (.int .i64 top) := cell_of_block hd.box 1
  have d2 : w.cell? ⟨M, 2, none⟩ = some (.int .i64 bot) := cell_of_block hd.box 2
  have g1 := free_of_block hd.box 1
  have g2 := free_of_block hd.box 2
  have n1 := ha.mc
  have n2 := ha.mr
  have n3 := ha.cr
  have n4 := Ne.symm ha.mc
  have n5 := Ne.symm ha.mr
  have n6 := Ne.symm ha.cr
  have HD := Lib.hid hd
  have HO := Lib.hid ho
  have hw : wrap64 (b + 1) = b + 1 := IntWalk.wrap64_in _ (by omega)
  ·
    clear h1 h2
    clear hd ho
    go_enter Try.func25, Try.ntmps25
    go_wp2_with fail
    first | go_end0 | refine bodyPost_ret (results_none rfl _ _ _) rfl ?_
    exact ⟨rfl, ⟨((HD.out).setBot ha _).setP ha _ _, ((HO.out).setM ha _ _).g5 _, frx_P (frx_M (FrX.refl _ _) _ _) _ _⟩⟩
theorem rpop_a (ha : RfA M C r) (hd : RfD w M C f top bot bz) (ho : RfO w r kd 1 b t x 0 wn) (h1 : -1 ≤ bot) (h2 : bot < 1000000) : Calls Try.prog 26 #[.pointer (some ⟨M, 0, none⟩), .pointer (some ⟨r, 0, none⟩)] w fun e w' => e = .returned (.tuple #[]) ∧ RfW w w' M C r f top (bot - 1) bz kd 1 bot t x 0 wn := by
  have c0 := cell_of_block ho 0
  have c1 : w.cell? ⟨r, 1, none⟩ = some (.int .i64 1) := cell_of_block ho 1
  have c2 : w.cell? ⟨r, 2, none⟩ = some (.int .i64 b) := cell_of_block ho 2
  have c3 : w.cell? ⟨r, 3, none⟩ = some (.int .i64 t) := cell_of_block ho 3
  have c4 : w.cell? ⟨r, 4, none⟩ = some (.int .i64 x) := cell_of_block ho 4
  have c5 : w.cell? ⟨r, 5, none⟩ = some (.int .i64 0) := cell_of_block ho 5
  have c6 : w.cell? ⟨r, 6, none⟩ = some (.bool wn) := cell_of_block ho 6
  have f2 := free_of_block ho 2
  have f3 := free_of_block ho 3
  have f4 := free_of_block ho 4
  have f5 := free_of_block ho 5
  have f6 := free_of_block ho 6
  have d0 : w.cell? ⟨M, 0, none⟩ = some (.slice (some ⟨C, 0, none⟩) 64 64) := cell_of_block hd.box 0
  have d1 : w.cell? ⟨M, 1, none⟩ = some (.int .i64 top) := cell_of_block hd.box 1
  have d2 : w.cell? ⟨M, 2, none⟩ = some (.int .i64 bot) := cell_of_block hd.box 2
  have g1 := free_of_block hd.box 1
  have g2 := free_of_block hd.box 2
  have n1 := ha.mc
  have n2 := ha.mr
  have n3 := ha.cr
  have n4 := Ne.symm ha.mc
  have n5 := Ne.symm ha.mr
  have n6 := Ne.symm ha.cr
  have HD := Lib.hid hd
  have HO := Lib.hid ho
  have hw : wrap64 (bot - 1) = bot - 1 := IntWalk.wrap64_in _ (by omega)
  ·
    clear h1 h2
    clear hd ho
    go_enter Try.func26, Try.ntmps26
    go_wp2_with fail
    first | go_end0 | refine bodyPost_ret (results_none rfl _ _ _) rfl ?_
    exact ⟨rfl, ⟨((HD.out).setP ha _ _).setBot ha _, ((HO.out).b2 _).setM ha _ _, frx_M (frx_P (FrX.refl _ _) _ _) _ _⟩⟩
theorem rpop_b (ha : RfA M C r) (hd : RfD w M C f top bot bz) (ho : RfO w r kd 2 b t x 0 wn) : Calls Try.prog 26 #[.pointer (some ⟨M, 0, none⟩), .pointer (some ⟨r, 0, none⟩)] w fun e w' => e = .returned (.tuple #[]) ∧ RfW w w' M C r f top bot bz kd 2 b top x 0 wn := by
  have c0 := cell_of_block ho 0
  have c1 : w.cell? ⟨r, 1, none⟩ = some (.int .i64 2) := cell_of_block ho 1
  have c2 : w.cell? ⟨r, 2, none⟩ = some (.int .i64 b) := cell_of_block ho 2
  have c3 : w.cell? ⟨r, 3, none⟩ = some (.int .i64 t) := cell_of_block ho 3
  have c4 : w.cell? ⟨r, 4, none⟩ = some (.int .i64 x) := cell_of_block ho 4
  have c5 : w.cell? ⟨r, 5, none⟩ = some (.int .i64 0) := cell_of_block ho 5
  have c6 : w.cell? ⟨r, 6, none⟩ = some (.bool wn) := cell_of_block ho 6
  have f2 := free_of_block ho 2
  have f3 := free_of_block ho 3
  have f4 := free_of_block ho 4
  have f5 := free_of_block ho 5
  have f6 := free_of_block ho 6
  have d0 : w.cell? ⟨M, 0, none⟩ = some (.slice (some ⟨C, 0, none⟩) 64 64) := cell_of_block hd.box 0
  have d1 : w.cell? ⟨M, 1, none⟩ = some (.int .i64 top) := cell_of_block hd.box 1
  have d2 : w.cell? ⟨M, 2, none⟩ = some (.int .i64 bot) := cell_of_block hd.box 2
  have g1 := free_of_block hd.box 1
  have g2 := free_of_block hd.box 2
  have n1 := ha.mc
  have n2 := ha.mr
  have n3 := ha.cr
  have n4 := Ne.symm ha.mc
  have n5 := Ne.symm ha.mr
  have n6 := Ne.symm ha.cr
  have HD := Lib.hid hd
  have HO := Lib.hid ho
  ·
    clear hd ho
    go_enter Try.func26, Try.ntmps26
    go_wp2_with fail
    first | go_end0 | refine bodyPost_ret (results_none rfl _ _ _) rfl ?_
    exact ⟨rfl, ⟨(HD.out).setP ha _ _, (HO.out).t3 _, frx_P (FrX.refl _ _) _ _⟩⟩
theorem rpop_c1 (ha : RfA M C r) (hd : RfD w M C f top bot bz) (ho : RfO w r kd 3 b t x 0 wn) (h1 : -1 ≤ b) (h2 : b < 1000000) (h3 : 0 ≤ t) (h4 : t < 1000000) (hlt : b - 1 < t) : Calls Try.prog 26 #[.pointer (some ⟨M, 0, none⟩), .pointer (some ⟨r, 0, none⟩)] w fun e w' => e = .returned (.tuple #[]) ∧ RfW w w' M C r f top b bz kd 3 b t x 2 wn := by
  have c0 := cell_of_block ho 0
  have c1 : w.cell? ⟨r, 1, none⟩ = some (.int .i64 3) := cell_of_block ho 1
  have c2 : w.cell? ⟨r, 2, none⟩ = some (.int .i64 b) := cell_of_block ho 2
  have c3 : w.cell? ⟨r, 3, none⟩ = some (.int .i64 t) := cell_of_block ho 3
  have c4 : w.cell? ⟨r, 4, none⟩ = some (.int .i64 x) := cell_of_block ho 4
  have c5 : w.cell? ⟨r, 5, none⟩ = some (.int .i64 0) := cell_of_block ho 5
  have c6 : w.cell? ⟨r, 6, none⟩ = some (.bool wn) := cell_of_block ho 6
  have f2 := free_of_block ho 2
  have f3 := free_of_block ho 3
  have f4 := free_of_block ho 4
  have f5 := free_of_block ho 5
  have f6 := free_of_block ho 6
  have d0 : w.cell? ⟨M, 0, none⟩ = some (.slice (some ⟨C, 0, none⟩) 64 64) := cell_of_block hd.box 0
  have d1 : w.cell? ⟨M, 1, none⟩ = some (.int .i64 top) := cell_of_block hd.box 1
  have d2 : w.cell? ⟨M, 2, none⟩ = some (.int .i64 bot) := cell_of_block hd.box 2
  have g1 := free_of_block hd.box 1
  have g2 := free_of_block hd.box 2
  have n1 := ha.mc
  have n2 := ha.mr
  have n3 := ha.cr
  have n4 := Ne.symm ha.mc
  have n5 := Ne.symm ha.mr
  have n6 := Ne.symm ha.cr
  have HD := Lib.hid hd
  have HO := Lib.hid ho
  have hw : wrap64 (b - 1) = b - 1 := IntWalk.wrap64_in _ (by omega)
  have e1 : decide (b - 1 < t) = true := decide_eq_true hlt
  ·
    clear h1 h2 h3 h4 hlt
    clear hd ho
    go_enter Try.func26, Try.ntmps26
    go_wp2_with fail
    go_quiet (fail)
    go_wp2_with fail
    first | go_end0 | refine bodyPost_ret (results_none rfl _ _ _) rfl ?_
    exact ⟨rfl, ⟨((RfD.dN (HD.out) _).setBot ha _).setP ha _ _, ((RfO.dN (HO.out) _).setM ha _ _).g5 _, frx_P (frx_M (frx_dN (FrX.refl _ _) _) _ _) _ _⟩⟩
theorem rpop_c2 (ha : RfA M C r) (hd : RfD w M C f top bot bz) (ho : RfO w r kd 3 b t x 0 wn) (h1 : -1 ≤ b) (h2 : b < 1000000) (h3 : 0 ≤ t) (h4 : t < 1000000) (hlt : ¬ b - 1 < t) : Calls Try.prog 26 #[.pointer (some ⟨M, 0, none⟩), .pointer (some ⟨r, 0, none⟩)] w fun e w' => e = .returned (.tuple #[]) ∧ RfW w w' M C r f top bot bz kd 3 b t (f (cellI (b - 1))) (if t < b - 1 then 1 else 0) wn := by
  have c0 := cell_of_block ho 0
  have c1 : w.cell? ⟨r, 1, none⟩ = some (.int .i64 3) := cell_of_block ho 1
  have c2 : w.cell? ⟨r, 2, none⟩ = some (.int .i64 b) := cell_of_block ho 2
  have c3 : w.cell? ⟨r, 3, none⟩ = some (.int .i64 t) := cell_of_block ho 3
  have c4 : w.cell? ⟨r, 4, none⟩ = some (.int .i64 x) := cell_of_block ho 4
  have c5 : w.cell? ⟨r, 5, none⟩ = some (.int .i64 0) := cell_of_block ho 5
  have c6 : w.cell? ⟨r, 6, none⟩ = some (.bool wn) := cell_of_block ho 6
  have f2 := free_of_block ho 2
  have f3 := free_of_block ho 3
  have f4 := free_of_block ho 4
  have f5 := free_of_block ho 5
  have f6 := free_of_block ho 6
  have d0 : w.cell? ⟨M, 0, none⟩ = some (.slice (some ⟨C, 0, none⟩) 64 64) := cell_of_block hd.box 0
  have d1 : w.cell? ⟨M, 1, none⟩ = some (.int .i64 top) := cell_of_block hd.box 1
  have d2 : w.cell? ⟨M, 2, none⟩ = some (.int .i64 bot) := cell_of_block hd.box 2
  have g1 := free_of_block hd.box 1
  have g2 := free_of_block hd.box 2
  have n1 := ha.mc
  have n2 := ha.mr
  have n3 := ha.cr
  have n4 := Ne.symm ha.mc
  have n5 := Ne.symm ha.mr
  have n6 := Ne.symm ha.cr
  have HD := Lib.hid hd
  have HO := Lib.hid ho
  obtain ⟨q, hq⟩ : ∃ q : Nat, b - 1 = (q : Int) := ⟨(b - 1).toNat, by omega⟩
  obtain ⟨j, hj⟩ : ∃ j : Nat, q % 64 = j := ⟨_, rfl⟩
  have hc : cellI (b - 1) = j := by unfold cellI; omega
  have hj2 : j < 64 := by omega
  have hjI : (j : Int) < 64 := by omega
  have r3 : w.cell? ⟨C, j, none⟩ = some (.int .i64 (f j)) := (cell_of_block hd.row j).trans (rowC_get f hj2)
  have s3 := free_of_block hd.row j
  rw [hc]
  have hw : wrap64 (b - 1) = (q : Int) := by rw [← hq]; exact IntWalk.wrap64_in _ (by omega)
  have e1 : decide ((q : Int) < t) = false := decide_eq_false (by omega)
  by_cases hf : t < b - 1
  · rw [if_pos hf]
    have e2 : decide (t < (q : Int)) = true := decide_eq_true (by rw [← hq]; exact hf)
    clear h1 h2 h3 h4 hlt hf hq
    clear hd ho
    go_enter Try.func26, Try.ntmps26
    go_wp2_with fail
    go_quiet (fail)
    go_upto_region 10 with fail
    refine wp_region_still_tail 15 (by kernel_rfl) (by kernel_rfl) ?_
    simp only [List.take_succ_cons, List.take_zero, List.drop_succ_cons, List.drop_zero]
    refine still_of_quietT _ _ ?_
    change wpQuiet _ _ (fun w' => w' = World.drew (w.drewN nq)) (fun a' => wpList _ _ _ _ a' (World.drew (w.drewN nq))) _ _
    repeat (go_big_quiet_step (fail))
    go_big_quiet_want
    go_big_quiet_op
    refine ⟨_, by first | exact refCell_any q j hj _ | (rw [hw]; exact refCell_any q j hj _), ?_⟩
    go_big_quiet_on
    repeat (go_big_quiet_step (fail))
    refine wpQuiet_nil ?_
    go_wp2_with fail
    go_quiet (fail)
    go_wp2_with fail
    first | go_end0 | refine bodyPost_ret (results_none rfl _ _ _) rfl ?_
    exact ⟨rfl, ⟨(RfD.dN ((RfD.dN (HD.out) _).setP ha _ _) _).setP ha _ _, (RfO.dN ((RfO.dN (HO.out) _).x4 _) _).g5 _, frx_P (frx_dN (frx_P (frx_dN (FrX.refl _ _) _) _ _) _) _ _⟩⟩
  · rw [if_neg hf]
    have e2 : decide (t < (q : Int)) = false := decide_eq_false (by rw [← hq]; exact hf)
    clear h1 h2 h3 h4 hlt hf hq
    clear hd ho
    go_enter Try.func26, Try.ntmps26
    go_wp2_with fail
    go_quiet (fail)
    go_upto_region 10 with fail
    refine wp_region_still_tail 15 (by kernel_rfl) (by kernel_rfl) ?_
    simp only [List.take_succ_cons, List.take_zero, List.drop_succ_cons, List.drop_zero]
    refine still_of_quietT _ _ ?_
    change wpQuiet _ _ (fun w' => w' = World.drew (w.drewN nq)) (fun a' => wpList _ _ _ _ a' (World.drew (w.drewN nq))) _ _
    repeat (go_big_quiet_step (fail))
    go_big_quiet_want
    go_big_quiet_op
    refine ⟨_, by first | exact refCell_any q j hj _ | (rw [hw]; exact refCell_any q j hj _), ?_⟩
    go_big_quiet_on
    repeat (go_big_quiet_step (fail))
    refine wpQuiet_nil ?_
    go_wp2_with fail
    go_quiet (fail)
    go_wp2_with fail
    first | go_end0 | refine bodyPost_ret (results_none rfl _ _ _) rfl ?_
    exact ⟨rfl, ⟨RfD.dN ((RfD.dN (HD.out) _).setP ha _ _) _, RfO.dN ((RfO.dN (HO.out) _).x4 _) _, frx_dN (frx_P (frx_dN (FrX.refl _ _) _) _ _) _⟩⟩
theorem rpop_d (ha : RfA M C r) (hd : RfD w M C f top bot bz) (ho : RfO w r kd 4 b t x 0 wn) (h3 : 0 ≤ t) (h4 : t < 1000000) : Calls Try.prog 26 #[.pointer (some ⟨M, 0, none⟩), .pointer (some ⟨r, 0, none⟩)] w fun e w' => e = .returned (.tuple #[]) ∧ RfW w w' M C r f (if top = t then t + 1 else top) bot bz kd 4 b t x 0 (decide (top = t)) := by
  have c0 := cell_of_block ho 0
  have c1 : w.cell? ⟨r, 1, none⟩ = some (.int .i64 4) := cell_of_block ho 1
  have c2 : w.cell? ⟨r, 2, none⟩ = some (.int .i64 b) := cell_of_block ho 2
  have c3 : w.cell? ⟨r, 3, none⟩ = some (.int .i64 t) := cell_of_block ho 3
  have c4 : w.cell? ⟨r, 4, none⟩ = some (.int .i64 x) := cell_of_block ho 4
  have c5 : w.cell? ⟨r, 5, none⟩ = some (.int .i64 0) := cell_of_block ho 5
  have c6 : w.cell? ⟨r, 6, none⟩ = some (.bool wn) := cell_of_block ho 6
  have f2 := free_of_block ho 2
  have f3 := free_of_block ho 3
  have f4 := free_of_block ho 4
  have f5 := free_of_block ho 5
  have f6 := free_of_block ho 6
  have d0 : w.cell? ⟨M, 0, none⟩ = some (.slice (some ⟨C, 0, none⟩) 64 64) := cell_of_block hd.box 0
  have d1 : w.cell? ⟨M, 1, none⟩ = some (.int .i64 top) := cell_of_block hd.box 1
  have d2 : w.cell? ⟨M, 2, none⟩ = some (.int .i64 bot) := cell_of_block hd.box 2
  have g1 := free_of_block hd.box 1
  have g2 := free_of_block hd.box 2
  have n1 := ha.mc
  have n2 := ha.mr
  have n3 := ha.cr
  have n4 := Ne.symm ha.mc
  have n5 := Ne.symm ha.mr
  have n6 := Ne.symm ha.cr
  have HD := Lib.hid hd
  have HO := Lib.hid ho
  have hw : wrap64 (t + 1) = t + 1 := IntWalk.wrap64_in _ (by omega)
  by_cases hf : top = t
  · rw [if_pos hf, show decide (top = t) = true from decide_eq_true hf]
    have e1 : (top == t) = true := by simpa using hf
    clear h3 h4 hf
    clear hd ho
    go_enter Try.func26, Try.ntmps26
    go_upto_region 14 with fail
    refine wp_region_still_tail 12 (by kernel_rfl) (by kernel_rfl) ?_
    simp only [List.take_succ_cons, List.take_zero, List.drop_succ_cons, List.drop_zero]
    refine still_of_quietT _ _ ?_
    change wpQuiet _ _ (fun w' => w' = World.drew w) (fun a' => wpList _ _ _ _ a' (World.drew w)) _ _
    repeat (go_big_quiet_step (fail))
    refine wpQuiet_nil ?_
    go_wp2_with fail
    first | go_end0 | refine bodyPost_ret (results_none rfl _ _ _) rfl ?_
    exact ⟨rfl, ⟨RfD.d1 (((HD.out).setP ha _ _).setTop ha _), RfO.d1 (((HO.out).w6 _).setM ha _ _), frx_d1 (frx_M (frx_P (FrX.refl _ _) _ _) _ _)⟩⟩
  · rw [if_neg hf, show decide (top = t) = false from decide_eq_false hf]
    have e1 : (top == t) = false := by simpa using hf
    clear h3 h4 hf
    clear hd ho
    go_enter Try.func26, Try.ntmps26
    go_upto_region 14 with fail
    refine wp_region_still_tail 12 (by kernel_rfl) (by kernel_rfl) ?_
    simp only [List.take_succ_cons, List.take_zero, List.drop_succ_cons, List.drop_zero]
    refine still_of_quietT _ _ ?_
    change wpQuiet _ _ (fun w' => w' = World.drew w) (fun a' => wpList _ _ _ _ a' (World.drew w)) _ _
    repeat (go_big_quiet_step (fail))
    refine wpQuiet_nil ?_
    go_wp2_with fail
    first | go_end0 | refine bodyPost_ret (results_none rfl _ _ _) rfl ?_
    exact ⟨rfl, ⟨RfD.d1 ((HD.out).setP ha _ _), RfO.d1 ((HO.out).w6 _), frx_d1 (frx_P (FrX.refl _ _) _ _)⟩⟩
theorem rpop_e (ha : RfA M C r) (hd : RfD w M C f top bot bz) (ho : RfO w r kd 5 b t x 0 wn) : Calls Try.prog 26 #[.pointer (some ⟨M, 0, none⟩), .pointer (some ⟨r, 0, none⟩)] w fun e w' => e = .returned (.tuple #[]) ∧ RfW w w' M C r f top b bz kd 5 b t x (if wn = true then 1 else 2) wn := by
  have c0 := cell_of_block ho 0
  have c1 : w.cell? ⟨r, 1, none⟩ = some (.int .i64 5) := cell_of_block ho 1
  have c2 : w.cell? ⟨r, 2, none⟩ = some (.int .i64 b) := cell_of_block ho 2
  have c3 : w.cell? ⟨r, 3, none⟩ = some (.int .i64 t) := cell_of_block ho 3
  have c4 : w.cell? ⟨r, 4, none⟩ = some (.int .i64 x) := cell_of_block ho 4
  have c5 : w.cell? ⟨r, 5, none⟩ = some (.int .i64 0) := cell_of_block ho 5
  have c6 : w.cell? ⟨r, 6, none⟩ = some (.bool wn) := cell_of_block ho 6
  have f2 := free_of_block ho 2
  have f3 := free_of_block ho 3
  have f4 := free_of_block ho 4
  have f5 := free_of_block ho 5
  have f6 := free_of_block ho 6
  have d0 : w.cell? ⟨M, 0, none⟩ = some (.slice (some ⟨C, 0, none⟩) 64 64) := cell_of_block hd.box 0
  have d1 : w.cell? ⟨M, 1, none⟩ = some (.int .i64 top) := cell_of_block hd.box 1
  have d2 : w.cell? ⟨M, 2, none⟩ = some (.int .i64 bot) := cell_of_block hd.box 2
  have g1 := free_of_block hd.box 1
  have g2 := free_of_block hd.box 2
  have n1 := ha.mc
  have n2 := ha.mr
  have n3 := ha.cr
  have n4 := Ne.symm ha.mc
  have n5 := Ne.symm ha.mr
  have n6 := Ne.symm ha.cr
  have HD := Lib.hid hd
  have HO := Lib.hid ho
  cases wn
  ·
    clear hd ho
    go_enter Try.func26, Try.ntmps26
    go_wp2_with fail
    first | go_end0 | refine bodyPost_ret (results_none rfl _ _ _) rfl ?_
    exact ⟨rfl, ⟨((HD.out).setBot ha _).setP ha _ _, ((HO.out).setM ha _ _).g5 _, frx_P (frx_M (FrX.refl _ _) _ _) _ _⟩⟩
  ·
    clear hd ho
    go_enter Try.func26, Try.ntmps26
    go_wp2_with fail
    first | go_end0 | refine bodyPost_ret (results_none rfl _ _ _) rfl ?_
    exact ⟨rfl, ⟨(((HD.out).setBot ha _).setP ha _ _).setP ha _ _, (((HO.out).setM ha _ _).g5 _).g5 _, frx_P (frx_P (frx_M (FrX.refl _ _) _ _) _ _) _ _⟩⟩
theorem rsteal_a (ha : RfA M C r) (hd : RfD w M C f top bot bz) (ho : RfO w r kd 1 b t x 0 wn) : Calls Try.prog 27 #[.pointer (some ⟨M, 0, none⟩), .pointer (some ⟨r, 0, none⟩)] w fun e w' => e = .returned (.tuple #[]) ∧ RfW w w' M C r f top bot bz kd 1 b top x 0 wn := by
  have c0 := cell_of_block ho 0
  have c1 : w.cell? ⟨r, 1, none⟩ = some (.int .i64 1) := cell_of_block ho 1
  have c2 : w.cell? ⟨r, 2, none⟩ = some (.int .i64 b) := cell_of_block ho 2
  have c3 : w.cell? ⟨r, 3, none⟩ = some (.int .i64 t) := cell_of_block ho 3
  have c4 : w.cell? ⟨r, 4, none⟩ = some (.int .i64 x) := cell_of_block ho 4
  have c5 : w.cell? ⟨r, 5, none⟩ = some (.int .i64 0) := cell_of_block ho 5
  have c6 : w.cell? ⟨r, 6, none⟩ = some (.bool wn) := cell_of_block ho 6
  have f2 := free_of_block ho 2
  have f3 := free_of_block ho 3
  have f4 := free_of_block ho 4
  have f5 := free_of_block ho 5
  have f6 := free_of_block ho 6
  have d0 : w.cell? ⟨M, 0, none⟩ = some (.slice (some ⟨C, 0, none⟩) 64 64) := cell_of_block hd.box 0
  have d1 : w.cell? ⟨M, 1, none⟩ = some (.int .i64 top) := cell_of_block hd.box 1
  have d2 : w.cell? ⟨M, 2, none⟩ = some (.int .i64 bot) := cell_of_block hd.box 2
  have g1 := free_of_block hd.box 1
  have g2 := free_of_block hd.box 2
  have n1 := ha.mc
  have n2 := ha.mr
  have n3 := ha.cr
  have n4 := Ne.symm ha.mc
  have n5 := Ne.symm ha.mr
  have n6 := Ne.symm ha.cr
  have HD := Lib.hid hd
  have HO := Lib.hid ho
  ·
    clear hd ho
    go_enter Try.func27, Try.ntmps27
    go_wp2_with fail
    first | go_end0 | refine bodyPost_ret (results_none rfl _ _ _) rfl ?_
    exact ⟨rfl, ⟨(HD.out).setP ha _ _, (HO.out).t3 _, frx_P (FrX.refl _ _) _ _⟩⟩
theorem rsteal_b (ha : RfA M C r) (hd : RfD w M C f top bot bz) (ho : RfO w r kd 2 b t x 0 wn) : Calls Try.prog 27 #[.pointer (some ⟨M, 0, none⟩), .pointer (some ⟨r, 0, none⟩)] w fun e w' => e = .returned (.tuple #[]) ∧ RfW w w' M C r f top bot bz kd 2 bot t x (if bot ≤ t then 2 else 0) wn := by
  have c0 := cell_of_block ho 0
  have c1 : w.cell? ⟨r, 1, none⟩ = some (.int .i64 2) := cell_of_block ho 1
  have c2 : w.cell? ⟨r, 2, none⟩ = some (.int .i64 b) := cell_of_block ho 2
  have c3 : w.cell? ⟨r, 3, none⟩ = some (.int .i64 t) := cell_of_block ho 3
  have c4 : w.cell? ⟨r, 4, none⟩ = some (.int .i64 x) := cell_of_block ho 4
  have c5 : w.cell? ⟨r, 5, none⟩ = some (.int .i64 0) := cell_of_block ho 5
  have c6 : w.cell? ⟨r, 6, none⟩ = some (.bool wn) := cell_of_block ho 6
  have f2 := free_of_block ho 2
  have f3 := free_of_block ho 3
  have f4 := free_of_block ho 4
  have f5 := free_of_block ho 5
  have f6 := free_of_block ho 6
  have d0 : w.cell? ⟨M, 0, none⟩ = some (.slice (some ⟨C, 0, none⟩) 64 64) := cell_of_block hd.box 0
  have d1 : w.cell? ⟨M, 1, none⟩ = some (.int .i64 top) := cell_of_block hd.box 1
  have d2 : w.cell? ⟨M, 2, none⟩ = some (.int .i64 bot) := cell_of_block hd.box 2
  have g1 := free_of_block hd.box 1
  have g2 := free_of_block hd.box 2
  have n1 := ha.mc
  have n2 := ha.mr
  have n3 := ha.cr
  have n4 := Ne.symm ha.mc
  have n5 := Ne.symm ha.mr
  have n6 := Ne.symm ha.cr
  have HD := Lib.hid hd
  have HO := Lib.hid ho
  by_cases hc : bot ≤ t
  · rw [if_pos hc]
    have e1 : decide (bot ≤ t) = true := decide_eq_true hc
    clear hc
    clear hd ho
    go_enter Try.func27, Try.ntmps27
    go_wp2_with fail
    go_quiet (fail)
    go_wp2_with fail
    first | go_end0 | refine bodyPost_ret (results_none rfl _ _ _) rfl ?_
    exact ⟨rfl, ⟨(RfD.dN ((HD.out).setP ha _ _) _).setP ha _ _, (RfO.dN ((HO.out).b2 _) _).g5 _, frx_P (frx_dN (frx_P (FrX.refl _ _) _ _) _) _ _⟩⟩
  · rw [if_neg hc]
    have e1 : decide (bot ≤ t) = false := decide_eq_false hc
    clear hc
    clear hd ho
    go_enter Try.func27, Try.ntmps27
    go_wp2_with fail
    go_quiet (fail)
    go_wp2_with fail
    first | go_end0 | refine bodyPost_ret (results_none rfl _ _ _) rfl ?_
    exact ⟨rfl, ⟨RfD.dN ((HD.out).setP ha _ _) _, RfO.dN ((HO.out).b2 _) _, frx_dN (frx_P (FrX.refl _ _) _ _) _⟩⟩
theorem rsteal_c (ha : RfA M C r) (hd : RfD w M C f top bot bz) (ho : RfO w r kd 3 b t x 0 wn) (h1 : 0 ≤ t) : Calls Try.prog 27 #[.pointer (some ⟨M, 0, none⟩), .pointer (some ⟨r, 0, none⟩)] w fun e w' => e = .returned (.tuple #[]) ∧ RfW w w' M C r f top bot bz kd 3 b t (f (cellI t)) 0 wn := by
  have c0 := cell_of_block ho 0
  have c1 : w.cell? ⟨r, 1, none⟩ = some (.int .i64 3) := cell_of_block ho 1
  have c2 : w.cell? ⟨r, 2, none⟩ = some (.int .i64 b) := cell_of_block ho 2
  have c3 : w.cell? ⟨r, 3, none⟩ = some (.int .i64 t) := cell_of_block ho 3
  have c4 : w.cell? ⟨r, 4, none⟩ = some (.int .i64 x) := cell_of_block ho 4
  have c5 : w.cell? ⟨r, 5, none⟩ = some (.int .i64 0) := cell_of_block ho 5
  have c6 : w.cell? ⟨r, 6, none⟩ = some (.bool wn) := cell_of_block ho 6
  have f2 := free_of_block ho 2
  have f3 := free_of_block ho 3
  have f4 := free_of_block ho 4
  have f5 := free_of_block ho 5
  have f6 := free_of_block ho 6
  have d0 : w.cell? ⟨M, 0, none⟩ = some (.slice (some ⟨C, 0, none⟩) 64 64) := cell_of_block hd.box 0
  have d1 : w.cell? ⟨M, 1, none⟩ = some (.int .i64 top) := cell_of_block hd.box 1
  have d2 : w.cell? ⟨M, 2, none⟩ = some (.int .i64 bot) := cell_of_block hd.box 2
  have g1 := free_of_block hd.box 1
  have g2 := free_of_block hd.box 2
  have n1 := ha.mc
  have n2 := ha.mr
  have n3 := ha.cr
  have n4 := Ne.symm ha.mc
  have n5 := Ne.symm ha.mr
  have n6 := Ne.symm ha.cr
  have HD := Lib.hid hd
  have HO := Lib.hid ho
  obtain ⟨q, hq⟩ : ∃ q : Nat, t = (q : Int) := ⟨(t).toNat, by omega⟩
  obtain ⟨j, hj⟩ : ∃ j : Nat, q % 64 = j := ⟨_, rfl⟩
  have hc : cellI (t) = j := by unfold cellI; omega
  have hj2 : j < 64 := by omega
  have hjI : (j : Int) < 64 := by omega
  have r3 : w.cell? ⟨C, j, none⟩ = some (.int .i64 (f j)) := (cell_of_block hd.row j).trans (rowC_get f hj2)
  have s3 := free_of_block hd.row j
  rw [hc]
  rw [hq] at c3
  ·
    clear h1
    clear hd ho
    go_enter Try.func27, Try.ntmps27
    go_upto_region 8 with fail
    refine wp_region_still_tail 14 (by kernel_rfl) (by kernel_rfl) ?_
    simp only [List.take_succ_cons, List.take_zero, List.drop_succ_cons, List.drop_zero]
    refine still_of_quietT _ _ ?_
    change wpQuiet _ _ (fun w' => w' = World.drew w) (fun a' => wpList _ _ _ _ a' (World.drew w)) _ _
    repeat (go_big_quiet_step (fail))
    go_big_quiet_want
    go_big_quiet_op
    refine ⟨_, refCell_any q j hj _, ?_⟩
    go_big_quiet_on
    repeat (go_big_quiet_step (fail))
    refine wpQuiet_nil ?_
    go_wp2_with fail
    first | go_end0 | refine bodyPost_ret (results_none rfl _ _ _) rfl ?_
    exact ⟨rfl, ⟨RfD.d1 ((HD.out).setP ha _ _), RfO.d1 ((HO.out).x4 _), frx_d1 (frx_P (FrX.refl _ _) _ _)⟩⟩
theorem rsteal_d (ha : RfA M C r) (hd : RfD w M C f top bot bz) (ho : RfO w r kd 4 b t x 0 wn) (h3 : 0 ≤ t) (h4 : t < 1000000) : Calls Try.prog 27 #[.pointer (some ⟨M, 0, none⟩), .pointer (some ⟨r, 0, none⟩)] w fun e w' => e = .returned (.tuple #[]) ∧ RfW w w' M C r f (if top = t then t + 1 else top) bot bz kd 4 b t x (if top = t then 1 else 4) wn := by
  have c0 := cell_of_block ho 0
  have c1 : w.cell? ⟨r, 1, none⟩ = some (.int .i64 4) := cell_of_block ho 1
  have c2 : w.cell? ⟨r, 2, none⟩ = some (.int .i64 b) := cell_of_block ho 2
  have c3 : w.cell? ⟨r, 3, none⟩ = some (.int .i64 t) := cell_of_block ho 3
  have c4 : w.cell? ⟨r, 4, none⟩ = some (.int .i64 x) := cell_of_block ho 4
  have c5 : w.cell? ⟨r, 5, none⟩ = some (.int .i64 0) := cell_of_block ho 5
  have c6 : w.cell? ⟨r, 6, none⟩ = some (.bool wn) := cell_of_block ho 6
  have f2 := free_of_block ho 2
  have f3 := free_of_block ho 3
  have f4 := free_of_block ho 4
  have f5 := free_of_block ho 5
  have f6 := free_of_block ho 6
  have d0 : w.cell? ⟨M, 0, none⟩ = some (.slice (some ⟨C, 0, none⟩) 64 64) := cell_of_block hd.box 0
  have d1 : w.cell? ⟨M, 1, none⟩ = some (.int .i64 top) := cell_of_block hd.box 1
  have d2 : w.cell? ⟨M, 2, none⟩ = some (.int .i64 bot) := cell_of_block hd.box 2
  have g1 := free_of_block hd.box 1
  have g2 := free_of_block hd.box 2
  have n1 := ha.mc
  have n2 := ha.mr
  have n3 := ha.cr
  have n4 := Ne.symm ha.mc
  have n5 := Ne.symm ha.mr
  have n6 := Ne.symm ha.cr
  have HD := Lib.hid hd
  have HO := Lib.hid ho
  have hw : wrap64 (t + 1) = t + 1 := IntWalk.wrap64_in _ (by omega)
  by_cases hf : top = t
  · rw [if_pos hf, if_pos hf]
    have e1 : (top == t) = true := by simpa using hf
    clear h3 h4 hf
    clear hd ho
    go_enter Try.func27, Try.ntmps27
    go_wp2_with fail
    go_quiet (fail)
    go_wp2_with fail
    first | go_end0 | refine bodyPost_ret (results_none rfl _ _ _) rfl ?_
    exact ⟨rfl, ⟨((RfD.dN ((HD.out).setP ha _ _) _).setTop ha _).setP ha _ _, ((RfO.dN ((HO.out).g5 _) _).setM ha _ _).g5 _, frx_P (frx_M (frx_dN (frx_P (FrX.refl _ _) _ _) _) _ _) _ _⟩⟩
  · rw [if_neg hf, if_neg hf]
    have e1 : (top == t) = false := by simpa using hf
    clear h3 h4 hf
    clear hd ho
    go_enter Try.func27, Try.ntmps27
    go_wp2_with fail
    go_quiet (fail)
    go_wp2_with fail
    first | go_end0 | refine bodyPost_ret (results_none rfl _ _ _) rfl ?_
    exact ⟨rfl, ⟨RfD.dN ((HD.out).setP ha _ _) _, RfO.dN ((HO.out).g5 _) _, frx_dN (frx_P (FrX.refl _ _) _ _) _⟩⟩
end
end Go.Proofs.Ytacadgocoleaoaa
