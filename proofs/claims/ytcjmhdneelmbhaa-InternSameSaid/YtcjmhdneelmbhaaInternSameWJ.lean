/- The law's example, its drawers, the document's Less. -/
import Derived.Test.YtcjmhdneelmbhaaTbRJ
import Derived.Test.YtcjmhdneelmbhaaEqEJ
import Derived.Test.YtcjmhdneelmbhaaTbTJ
import Derived.Laws.StructEq
import Derived.BigQuiet
import Derived.StillTailTactics
namespace Go.Proofs.Ytcjmhdneelmbhaa
open Go.ChangeShapes Go.WideShapes Go.RowKit Go.Deep
set_option linter.unusedVariables false

theorem TabM.frame_below {w w' : World} {K b g bm n : Nat} {U : Nat → Value} {ds : List (List VD)} (h : TabM w K b g bm n U ds) (hf : FrX (TabX b g bm n U) w w') : Below K w w' :=
  ⟨hf.os, hf.tape, hf.output, hf.size, fun y hy => hf.block y (by have := h.lo; have := (h.lt (.inl rfl)).2; omega) (fun hx => by have := (h.lt hx).1; omega)⟩
def dsA : List (List VD) := List.replicate 2 []
def dsB : List (List VD) := putV 2 dsA (1, 4)
theorem res_a : resV 2 dsA (1, 4) = (1, 0) := by decide
theorem res_b : resV 2 dsB (1, 7) = (0, 0) := by decide
theorem in_c : inV 2 (putV 2 dsB (1, 7)) (1, 4) = true := by decide
theorem h_c : hV 2 (putV 2 dsB (1, 7)) (1, 4) = 1 := by decide
set_option maxRecDepth 100000 in
set_option maxHeartbeats 4000000 in
theorem up10_any (w : World) : Calls Try.prog 15 #[] w fun e w' => e = .returned (.bool true) ∧ Below w.heap.size w w' := by
  go_enter Try.func15, Try.ntmps15
  go_wp2_with fail
  refine (new_yes 2 w (by omega) (by omega)).mono ?_
  rintro e w1 ⟨rfl, hb1, hT1⟩
  have HB1 := Lib.hid hb1
  have HT1 : Hid (TabM w1 w.heap.size (w.heap.size + 2) w.heap.size (w.heap.size + 1) 2 (fun _ => .slice none 0 0) dsA) := Lib.hid hT1
  clear hb1 hT1
  go_wp2_with fail
  refine (put_any HT1.out 1 4 (by unfold I64; omega)).mono ?_
  rintro e w2 ⟨rfl, U2, hT2, hf2, hx2⟩
  rw [res_a]
  have HT2 : Hid (TabM w2 w.heap.size (w.heap.size + 2) w.heap.size (w.heap.size + 1) 2 U2 dsB) := Lib.hid hT2
  have HB2 : Hid (Below w.heap.size w w2) := Lib.hid (HB1.out.trans (HT1.out.frame_below hf2))
  clear hT2 hf2 hx2
  have hE : errV 0 = .nilIface := rfl
  rw [hE]
  go_wp2_with fail
  refine (put_any HT2.out 1 7 (by unfold I64; omega)).mono ?_
  rintro e w3 ⟨rfl, U3, hT3, hf3, hx3⟩
  rw [res_b, hE]
  have HT3 := Lib.hid hT3
  have HB3 : Hid (Below w.heap.size w w3) := Lib.hid (HB2.out.trans (HT2.out.frame_below hf3))
  clear hT3 hf3 hx3 hE
  go_wp2_with fail
  refine (find_any HT3.out 1 4 (by unfold I64; omega) (by unfold I64; omega)).mono ?_
  rintro e w4 ⟨rfl, rfl⟩
  rw [in_c, h_c]
  go_wp2_with fail
  go_ret
  exact ⟨rfl, HB3.out⟩
/-- How many drawers a number speaks of. -/
def pickN (c : Int) : Nat := 1 + ((if c < 0 then -(c + 1) else c) % 16).toNat
theorem pickN_in (c : Int) : 1 ≤ pickN c ∧ pickN c ≤ 16 := by
  unfold pickN
  have := Int.emod_nonneg (if c < 0 then -(c + 1) else c) (b := 16) (by omega)
  have := Int.emod_lt_of_pos (if c < 0 then -(c + 1) else c) (b := 16) (by omega)
  omega
theorem pick_any (c : Int) (hc : I64 c) (w : World) : Calls Try.prog 19 #[.int .i64 c] w fun e w' => e = .returned (.int .i64 (pickN c : Int)) ∧ w' = w := by
  obtain ⟨h1, h2⟩ := hc
  by_cases h : c < 0
  · obtain ⟨q, hq⟩ : ∃ q : Nat, -(c + 1) = (q : Int) := ⟨(-(c + 1)).toNat, by omega⟩
    obtain ⟨r, hr, hr1⟩ : ∃ r : Nat, (q : Int) % 16 = r ∧ r < 16 := ⟨q % 16, by omega, by omega⟩
    have HE : Hid ((pickN c : Int) = 1 + r) := Lib.hid (by unfold pickN; rw [if_pos h, hq, hr]; omega)
    have d : decide (c < 0) = true := decide_eq_true h
    go_enter Try.func19, Try.ntmps19
    go_wp2_with fail
    go_ret
    exact ⟨by rw [HE.out]; rfl, rfl⟩
  · have HE : Hid ((pickN c : Int) = 1 + c % 16) := Lib.hid (by unfold pickN; rw [if_neg h]; omega)
    have d : decide (c < 0) = false := decide_eq_false h
    go_enter Try.func19, Try.ntmps19
    go_wp2_with fail
    go_ret
    exact ⟨by rw [HE.out]; rfl, rfl⟩
theorem less_any (x y : VD) (w : World) : Calls Try.prog 23 #[.agg #[.int .i64 x.1, .int .i64 x.2], .agg #[.int .i64 y.1, .int .i64 y.2]] w fun e w' => e = .returned (.bool (ltV x y)) ∧ Below w.heap.size w w' := by
  obtain ⟨x1, x2⟩ := x
  obtain ⟨y1, y2⟩ := y
  dsimp only
  have hB : ∀ A B, Below w.heap.size w ((w.alloc A).alloc B) := fun A B => ((Below.refl _ _).alloc (Nat.le_refl _) _).alloc (by simp) _
  by_cases h1 : x1 < y1
  · have d1 : decide (x1 < y1) = true := decide_eq_true h1
    have HE : Hid (ltV (x1, x2) (y1, y2) = true) := Lib.hid (by unfold ltV; exact decide_eq_true (.inl h1))
    clear h1
    go_enter Try.func23, Try.ntmps23
    go_wp2_with fail
    go_ret
    exact ⟨by rw [HE.out]; rfl, hB _ _⟩
  · have d1 : decide (x1 < y1) = false := decide_eq_false h1
    by_cases h2 : x1 = y1
    · have d2 : (x1 == y1) = true := by simpa using h2
      have HE : Hid (ltV (x1, x2) (y1, y2) = decide (x2 < y2)) := Lib.hid (by unfold ltV; rw [Bool.eq_iff_iff, decide_eq_true_iff, decide_eq_true_iff]; dsimp only; omega)
      clear h1 h2
      go_enter Try.func23, Try.ntmps23
      go_wp2_with fail
      go_ret
      exact ⟨by rw [HE.out]; rfl, hB _ _⟩
    · have d2 : (x1 == y1) = false := by simpa using h2
      have HE : Hid (ltV (x1, x2) (y1, y2) = false) := Lib.hid (by unfold ltV; apply decide_eq_false; dsimp only; omega)
      clear h1 h2
      go_enter Try.func23, Try.ntmps23
      go_wp2_with fail
      go_ret
      exact ⟨by rw [HE.out]; rfl, hB _ _⟩
end Go.Proofs.Ytcjmhdneelmbhaa

/- Values compared by '=='. -/
namespace Go.Proofs.Ytcjmhdneelmbhaa
open Go.ChangeShapes Go.WideShapes Go.RowKit Go.Deep
set_option linter.unusedVariables false

theorem valHeld : Try.prog.stoodInHeld 69 = false := by kernel_rfl
theorem valGuard : Try.prog.eqGuardType Try.prog.depth 69 = false := by kernel_rfl
theorem neqVal (x y : VD) (w : World) : (binOp .neq 69 (.agg #[.int .i64 x.1, .int .i64 x.2]) (.agg #[.int .i64 y.1, .int .i64 y.2])).run Try.prog w = .ok (.bool (!(decide (x = y)))) w := by
  have h1 : Try.prog.underlying 69 = some (.struct (Try.prog.fieldsOf 69)) := by rw [Try.underlying69]; kernel_rfl
  rw [run_neq_struct, run_equalIn_agg w 9999 _ _ _ h1 valHeld]
  rw [Try.underlying69] at h1
  simp only [Option.some.injEq, TypeDesc.struct.injEq] at h1
  rw [← h1]
  obtain ⟨x1, x2⟩ := x
  obtain ⟨y1, y2⟩ := y
  have e1 : ∀ w, (Op.equalIn 9999 3 (.int .i64 x1) (.int .i64 y1)).run Try.prog w = .ok (x1 == y1) w := fun w => run_equalIn_int w 9998 3 .i64 .i64 x1 y1 Try.underlying3
  have e2 : ∀ w, (Op.equalIn 9999 2 (.int .i64 x2) (.int .i64 y2)).run Try.prog w = .ok (x2 == y2) w := fun w => run_equalIn_int w 9998 2 .i64 .i64 x2 y2 Try.underlying2
  have p1 : ∀ w, (part 3 #[.int .i64 x1, .int .i64 x2] 0).run Try.prog w = .ok (.int .i64 x1) w := fun w => by kernel_rfl
  have p2 : ∀ w, (part 3 #[.int .i64 y1, .int .i64 y2] 0).run Try.prog w = .ok (.int .i64 y1) w := fun w => by kernel_rfl
  have p3 : ∀ w, (part 2 #[.int .i64 x1, .int .i64 x2] 1).run Try.prog w = .ok (.int .i64 x2) w := fun w => by kernel_rfl
  have p4 : ∀ w, (part 2 #[.int .i64 y1, .int .i64 y2] 1).run Try.prog w = .ok (.int .i64 y2) w := fun w => by kernel_rfl
  by_cases h2 : x1 = y1
  · subst h2
    by_cases h3 : x2 = y2
    · subst h3
      simp [Op.eqFields, e1, e2, p1, p3, Result.andThen]
    · simp [Op.eqFields, e1, e2, p1, p2, p3, p4, Result.andThen, h3]
  · simp [Op.eqFields, e1, p1, p2, Result.andThen, h2]
/-- A cell of a row of the caller's own is written over. -/
theorem own_setV {w : World} {K size g cap n j : Nat} {e : TypeId} {xs : List Value} (h : w.ownsRow K e size (.slice (some ⟨g, 0, none⟩) n cap) n xs) (hj : j < n * size) (u : Value) : (w.setCell ⟨g, j, none⟩ u).ownsRow K e size (.slice (some ⟨g, 0, none⟩) n cap) n (xs.set j u) := by
  obtain ⟨h1, ⟨h0, _⟩ | ⟨g', c', cur, hv, hb, hh, hn, hc, hsz, ht⟩⟩ := h
  · cases h0
  · injection hv with hv1 hv2 hv3
    injection hv1 with hv1
    injection hv1 with hv1
    subst hv1 hv3
    refine ⟨by rw [List.length_set]; exact h1, .inr ⟨g, cap, cur.setIfInBounds j u, rfl, hb, ?_, hn, hc, by simpa using hsz, ?_⟩⟩
    · simp [World.setCell, Array.getElem?_modify, hh]
    · rw [← ht]
      rw [Array.toList_setIfInBounds, List.take_set]
end Go.Proofs.Ytcjmhdneelmbhaa

/- A region's quiet beginning, walked as a still one. -/
namespace Go.Proofs.Ytcjmhdneelmbhaa
open Go
section
variable {P : Program} {ops : Array Oper} {w : World}
theorem still_of_quietT {Q : Act → Prop} : ∀ (l : List Oper) (a : Act), wpQuiet P ops (fun w' => w' = w) Q l a → wpStill P ops w Q l a := by
  intro l
  induction l with
  | nil => exact fun a h => h
  | cons o rest ih =>
    intro a h
    unfold wpQuiet at h
    unfold wpStill
    split at h
    · rename_i hw
      rw [if_pos hw]
      obtain ⟨v, h1, h2⟩ := h
      have h3 := h1 w rfl
      unfold Oper.quietAt at h3
      unfold Oper.still
      cases hr : (execOp a.eval o).run P w with
      | halt h w' => rw [hr] at h3; exact absurd h3 (by simp [Oper.quietUpon])
      | ok x w' =>
        rw [hr] at h3
        cases x with
        | value u => obtain ⟨rfl, rfl⟩ := h3; exact ⟨rfl, ih _ h2⟩
        | skip => obtain ⟨rfl, rfl⟩ := h3; exact ⟨rfl, ih _ h2⟩
        | enter f args => obtain ⟨rfl, h4⟩ := h3; exact ⟨rfl, v, h4, ih _ h2⟩
        | _ => exact absurd h3 (by simp [Oper.quietUpon])
    · rename_i hw
      rw [if_neg hw]
      exact ih _ h
end
end Go.Proofs.Ytcjmhdneelmbhaa

/- The walk of InternSame. -/
namespace Go.Proofs.Ytcjmhdneelmbhaa
open Go.ChangeShapes Go.WideShapes Go.RowKit Go.Deep
set_option linter.unusedVariables false

def DisX (P Q : Nat → Prop) : Prop := ∀ y, P y → Q y → False
theorem TabM.beside {w w' : World} {K b g bm n : Nat} {U : Nat → Value} {ds : List (List VD)} {X : Nat → Prop} (h : TabM w K b g bm n U ds) (hd : DisX X (TabX b g bm n U)) (hf : FrX X w w') : TabM w' K b g bm n U ds :=
  h.go fun y hy => hf.block y (h.lt hy).2 fun hx => hd y hx hy
theorem DisX.step {w : World} {K b g bm n : Nat} {U : Nat → Value} {ds : List (List VD)} {X X' : Nat → Prop} (h : TabM w K b g bm n U ds) (hd : DisX X (TabX b g bm n U)) (hx : ∀ y, X' y → X y ∨ w.heap.size ≤ y) : DisX X' (TabX b g bm n U) := fun y h1 h2 => by
  rcases hx y h1 with h3 | h3
  · exact hd y h3 h2
  · have := (h.lt h2).2; omega
theorem DisX.symm {P Q : Nat → Prop} (h : DisX P Q) : DisX Q P := fun y a b => h y b a
/-- Two tables, apart; what was put of the row, and of the row coming round. -/
structure TwoT (w : World) (K1 b1 g1 m1 n1 K2 b2 g2 m2 n2 : Nat) (puts : List VD) (r i : Nat) (U1 U2 : Nat → Value) (ds1 ds2 : List (List VD)) : Prop where
  t1 : TabM w K1 b1 g1 m1 n1 U1 ds1
  t2 : TabM w K2 b2 g2 m2 n2 U2 ds2
  dis : DisX (TabX b1 g1 m1 n1 U1) (TabX b2 g2 m2 n2 U2)
  p1 : PutsOk n1 ds1 (fun y => y ∈ puts.take i) i
  p2 : PutsOk n2 ds2 (rotP puts r i) i
/-- In the midst of a round. -/
structure TwoH (w : World) (K1 b1 g1 m1 n1 K2 b2 g2 m2 n2 : Nat) (puts : List VD) (r i : Nat) (U1 U2 : Nat → Value) (ds1 ds2 : List (List VD)) : Prop where
  t1 : TabM w K1 b1 g1 m1 n1 U1 ds1
  t2 : TabM w K2 b2 g2 m2 n2 U2 ds2
  dis : DisX (TabX b1 g1 m1 n1 U1) (TabX b2 g2 m2 n2 U2)
  p1 : PutsOk n1 ds1 (fun y => y ∈ puts.take (i + 1)) (i + 1)
  p2 : PutsOk n2 ds2 (rotP puts r i) i
section
variable {w w' : World} {K1 b1 g1 m1 n1 K2 b2 g2 m2 n2 : Nat} {puts : List VD} {r i : Nat} {U1 U2 : Nat → Value} {ds1 ds2 : List (List VD)}
theorem TwoT.below (h : TwoT w K1 b1 g1 m1 n1 K2 b2 g2 m2 n2 puts r i U1 U2 ds1 ds2) (hb : Below w.heap.size w w') : TwoT w' K1 b1 g1 m1 n1 K2 b2 g2 m2 n2 puts r i U1 U2 ds1 ds2 := ⟨h.t1.below hb, h.t2.below hb, h.dis, h.p1, h.p2⟩
theorem TwoH.below (h : TwoH w K1 b1 g1 m1 n1 K2 b2 g2 m2 n2 puts r i U1 U2 ds1 ds2) (hb : Below w.heap.size w w') : TwoH w' K1 b1 g1 m1 n1 K2 b2 g2 m2 n2 puts r i U1 U2 ds1 ds2 := ⟨h.t1.below hb, h.t2.below hb, h.dis, h.p1, h.p2⟩
theorem TwoT.one (h : TwoT w K1 b1 g1 m1 n1 K2 b2 g2 m2 n2 puts r i U1 U2 ds1 ds2) (hi : i < 4096) {x : VD} (hx : puts[i]? = some x) {U' : Nat → Value} (ht : TabM w' K1 b1 g1 m1 n1 U' (putV n1 ds1 x)) (hf : FrX (TabX b1 g1 m1 n1 U1) w w') (hn : ∀ y, TabX b1 g1 m1 n1 U' y → TabX b1 g1 m1 n1 U1 y ∨ w.heap.size ≤ y) :
    TwoH w' K1 b1 g1 m1 n1 K2 b2 g2 m2 n2 puts r i U' U2 (putV n1 ds1 x) ds2 :=
  ⟨ht, h.t2.beside h.dis hf, h.dis.step h.t2 hn, h.p1.step h.t1.ok hi (take_step hx), h.p2⟩
theorem TwoH.two (h : TwoH w K1 b1 g1 m1 n1 K2 b2 g2 m2 n2 puts r i U1 U2 ds1 ds2) (hi : i < 4096) {x : VD} (hx : puts[(i + r) % puts.length]? = some x) {U' : Nat → Value} (ht : TabM w' K2 b2 g2 m2 n2 U' (putV n2 ds2 x)) (hf : FrX (TabX b2 g2 m2 n2 U2) w w') (hn : ∀ y, TabX b2 g2 m2 n2 U' y → TabX b2 g2 m2 n2 U2 y ∨ w.heap.size ≤ y) :
    TwoT w' K1 b1 g1 m1 n1 K2 b2 g2 m2 n2 puts r (i + 1) U1 U' ds1 (putV n2 ds2 x) :=
  ⟨h.t1.beside h.dis.symm hf, ht, (h.dis.symm.step h.t1 hn).symm, h.p1, h.p2.step h.t2.ok hi (rot_step hx)⟩
/-- When all are put: by content the two are alike. -/
theorem TwoT.same (h : TwoT w K1 b1 g1 m1 n1 K2 b2 g2 m2 n2 puts r puts.length U1 U2 ds1 ds2) (hr : r < puts.length) : valsV ds1 = valsV ds2 :=
  vals_same h.t1.ok h.t2.ok fun x => by rw [h.p1.in_, h.p2.in_, rot_all hr, List.take_length]
end
theorem TwoT.start {w1 w2 w3 : World} {n1 n2 : Nat} {puts : List VD} {r : Nat} (hb : Below w2.heap.size w2 w3) (h1 : TabM w2 w1.heap.size (w1.heap.size + 2) w1.heap.size (w1.heap.size + 1) n1 (fun _ => .slice none 0 0) (List.replicate n1 []))
    (h2 : TabM w3 w2.heap.size (w2.heap.size + 2) w2.heap.size (w2.heap.size + 1) n2 (fun _ => .slice none 0 0) (List.replicate n2 [])) (hn1 : 1 ≤ n1) (hn2 : 1 ≤ n2) :
    TwoT w3 w1.heap.size (w1.heap.size + 2) w1.heap.size (w1.heap.size + 1) n1 w2.heap.size (w2.heap.size + 2) w2.heap.size (w2.heap.size + 1) n2 puts r 0 (fun _ => .slice none 0 0) (fun _ => .slice none 0 0) (List.replicate n1 []) (List.replicate n2 []) :=
  ⟨h1.below hb, h2, fun y a b => by have := (h1.lt a).2; have := (h2.lt b).1; omega, PutsOk.start hn1 (by simp), PutsOk.start hn2 (fun x => by rintro ⟨i, hi, -⟩; omega)⟩
set_option maxRecDepth 100000 in
set_option maxHeartbeats 16000000 in
theorem internSame_walk (a c : Int) (puts : List VD) (v : Value) (fr : Int) (w : World) (ha : I64 a) (hc : I64 c) (hv : VS w 2 RVal v puts) (hfr : I64 fr) : Calls Try.prog 6 #[.int .i64 a, .int .i64 c, v, .int .i64 fr] w fun e w' => e = .returned (.bool true) ∧ Below w.heap.size w w' := by
  obtain ⟨Ap, cp, rfl, hs⟩ := hv
  have hpl := hs.len
  have HS := Lib.hid hs
  have HA := Lib.hid ha
  have HC := Lib.hid hc
  obtain ⟨hf1, hf2⟩ := hfr
  obtain ⟨n1, hn1⟩ : ∃ n1, n1 = pickN a := ⟨_, rfl⟩
  obtain ⟨n2, hn2⟩ : ∃ n2, n2 = pickN c := ⟨_, rfl⟩
  have HN1 : Hid (n1 = pickN a ∧ 1 ≤ n1 ∧ n1 ≤ 16) := Lib.hid ⟨hn1, by rw [hn1]; exact pickN_in a⟩
  have HN2 : Hid (n2 = pickN c ∧ 1 ≤ n2 ∧ n2 ≤ 16) := Lib.hid ⟨hn2, by rw [hn2]; exact pickN_in c⟩
  obtain ⟨M, hM⟩ : ∃ M, M = puts.length := ⟨_, rfl⟩
  have HM := Lib.hid hM
  rw [← hM] at hpl ⊢
  clear ha hc hs hM hn1 hn2
  go_enter Try.func6, Try.ntmps6
  go_wp2_with fail
  refine (up10_any w).mono ?_
  rintro e w1 ⟨rfl, hb1⟩
  have HB1 := Lib.hid hb1
  clear hb1
  go_wp2_with fail
  refine (pick_any a HA.out w1).mono ?_
  rintro e w2 ⟨rfl, rfl⟩
  rw [← HN1.out.1]
  go_wp2_with fail
  refine (new_yes n1 w2 HN1.out.2.1 HN1.out.2.2).mono ?_
  rintro e w3 ⟨rfl, hb3, hT1⟩
  have HT1 := Lib.hid hT1
  have HB3 : Hid (Below w.heap.size w w3) := Lib.hid (HB1.out.trans (hb3.mono HB1.out.size))
  have HZ3 : Hid (w.heap.size ≤ w2.heap.size ∧ w2.heap.size ≤ w3.heap.size) := Lib.hid ⟨HB1.out.size, hb3.size⟩
  clear hb3 hT1
  go_wp2_with fail
  refine (pick_any c HC.out w3).mono ?_
  rintro e w4 ⟨rfl, rfl⟩
  rw [← HN2.out.1]
  go_wp2_with fail
  refine (new_yes n2 w4 HN2.out.2.1 HN2.out.2.2).mono ?_
  rintro e w5 ⟨rfl, hb5, hT2⟩
  have HB5 : Hid (Below w.heap.size w w5) := Lib.hid (HB3.out.trans (hb5.mono HB3.out.size))
  have HTW : Hid (∀ r, TwoT w5 w2.heap.size (w2.heap.size + 2) w2.heap.size (w2.heap.size + 1) n1 w4.heap.size (w4.heap.size + 2) w4.heap.size (w4.heap.size + 1) n2 puts r 0 (fun _ => .slice none 0 0) (fun _ => .slice none 0 0) (List.replicate n1 []) (List.replicate n2 [])) := Lib.hid fun r => TwoT.start hb5 HT1.out hT2 HN1.out.2.1 HN2.out.2.1
  obtain ⟨K1, hK1⟩ : ∃ K1, K1 = w2.heap.size := ⟨_, rfl⟩
  obtain ⟨K2, hK2⟩ : ∃ K2, K2 = w4.heap.size := ⟨_, rfl⟩
  rw [← hK1, ← hK2] at HTW
  rw [← hK1, ← hK2]
  have HKK : Hid (w.heap.size ≤ K1 ∧ w.heap.size ≤ K2) := Lib.hid ⟨by rw [hK1]; exact HZ3.out.1, by rw [hK2]; have := HZ3.out; omega⟩
  clear hb5 hT2 hK1 hK2
  by_cases hM0 : M = 0
  · have d0 : ((M : Int) == 0) = true := by simp [hM0]
    clear hM0 HTW
    go_wp2_with fail
    go_ret
    exact ⟨rfl, HB5.out⟩
  by_cases hM60 : 60 < M
  · have d0 : ((M : Int) == 0) = false := by simp [hM0]
    have d1 : decide (60 < (M : Int)) = true := decide_eq_true (by omega)
    have d2 : (60 : Int) < M := by omega
    clear hM0 HTW
    go_wp2_with fail
    go_ret
    exact ⟨rfl, HB5.out⟩
  have d0 : ((M : Int) == 0) = false := by simp [hM0]
  have d1 : decide (60 < (M : Int)) = false := decide_eq_false (by omega)
  have d2 : ¬ (60 : Int) < M := by omega
  have hMp : 0 < M := by omega
  have hMle : M ≤ 60 := by omega
  clear hM0 hM60
  go_upto_if 72 with fail
  clear d0 d1 d2
  go_cut [3] (fun s3 wx => ∃ q : Nat, s3 = .int .i64 q ∧ (q : Int) ≤ 9223372036854775807 ∧ wx = w5)
  case first =>
    by_cases hn : fr < 0
    · obtain ⟨q, hq⟩ : ∃ q : Nat, -(fr + 1) = (q : Int) := ⟨(-(fr + 1)).toNat, by omega⟩
      have d : decide (fr < 0) = true := decide_eq_true hn
      go_wp2_with fail
      go_meet
      exact ⟨q, by rfl, by omega, rfl⟩
    · obtain ⟨q, rfl⟩ : ∃ q : Nat, fr = (q : Int) := ⟨fr.toNat, by omega⟩
      have d : decide ((q : Int) < 0) = false := decide_eq_false hn
      go_wp2_with fail
      go_meet
      exact ⟨q, rfl, hf2, rfl⟩
  case rest =>
  obtain ⟨q, rfl, hq, hwc⟩ := hcut
  obtain rfl : w5 = wc := hwc.symm
  obtain ⟨r, hr0⟩ : ∃ r : Nat, r = q % M := ⟨_, rfl⟩
  have hrM : r < M := by rw [hr0]; exact Nat.mod_lt _ hMp
  have hr : (q : Int) % (M : Int) = (r : Int) := by rw [hr0]; rfl
  have HRM := Lib.hid hrM
  clear hf1 hf2 hr0
  go_wp2_with fail
  go_loopw [14] (fun s14 wr => ∃ (i : Nat) (U1 U2 : Nat → Value) (ds1 ds2 : List (List VD)), i ≤ M ∧ s14 = .int .i64 i ∧ Hid (TwoT wr K1 (K1 + 2) K1 (K1 + 1) n1 K2 (K2 + 2) K2 (K2 + 1) n2 puts r i U1 U2 ds1 ds2) ∧ Hid (Below w.heap.size w wr)) (fun s14 _ => M - (intOf s14).toNat)
  case atStart => exact ⟨0, _, _, _, _, Nat.zero_le _, rfl, Lib.hid (HTW.out r), HB5⟩
  case round =>
    obtain ⟨i, U1, U2, ds1, ds2, hiM, rfl, HTr, HBr⟩ := hrel
    by_cases hlt : i < M
    · obtain ⟨bp, op, x, rfl, hx, h0, h1⟩ := HS.out.at_ (k := i) (by rw [← HM.out]; exact hlt)
      have HX := Lib.hid (And.intro h0.2 h1.2)
      have HXX := hx
      have e0 := kept_of_below HBr.out _ _ h0.1
      have e1 := kept_of_below HBr.out _ _ h1.1
      have hi0 : (0 : Int) ≤ i := by omega
      have hi1 : (i : Int) < M := by omega
      clear h0 h1 hx
      go_wp2_with fail
      go_still_tail 11, (by kernel_rfl)
      change wpList _ _ _ _ _ wr.drew
      go_wp2_with fail
      refine (put_any (HTr.out.t1.go (w' := wr.drew) (fun _ _ => rfl)) x.1 x.2 HX.out.2).mono ?_
      rintro e w6 ⟨rfl, U3, hT6, hf6, hx6⟩
      have HT6 := Lib.hid ((HTr.out.below ((Below.refl _ wr).drew)).one (by omega) HXX.out hT6 hf6 hx6)
      have HB6 : Hid (Below w.heap.size w w6) := Lib.hid ((HBr.out.drew).trans (((HTr.out.t1.go (w' := wr.drew) (fun _ _ => rfl)).frame_below hf6).mono HKK.out.1))
      clear hT6 hf6 hx6 e0 e1
      obtain ⟨d, hd0⟩ : ∃ d : Nat, d = (i + r) % M := ⟨_, rfl⟩
      have hdM : d < M := by rw [hd0]; exact Nat.mod_lt _ hMp
      have hd : ((i : Int) + (r : Int)) % (M : Int) = (d : Int) := by rw [hd0]; rfl
      obtain ⟨bp2, op2, z, hbz, hz, h0, h1⟩ := HS.out.at_ (k := d) (by rw [← HM.out]; exact hdM)
      obtain ⟨rfl, rfl⟩ : bp = bp2 ∧ op = op2 := by
        simp only [Option.some.injEq, Addr.mk.injEq, and_true] at hbz
        exact hbz
      have HZ := Lib.hid (And.intro h0.2 h1.2)
      have HZZ : Hid (puts[(i + r) % puts.length]? = some z) := Lib.hid (by rw [← HM.out, ← hd0]; exact hz.out)
      have e0 := kept_of_below HB6.out _ _ h0.1
      have e1 := kept_of_below HB6.out _ _ h1.1
      have hdd0 : (0 : Int) ≤ d := by omega
      have hdd1 : (d : Int) < M := by omega
      have hr0 : (0 : Int) ≤ r := by omega
      have hr1 : (r : Int) ≤ 60 := by omega
      clear h0 h1 hz hbz hd0
      go_upto_region 13 with fail
      obtain ⟨w7, hw7⟩ : ∃ w7, w7 = w6.alloc (.cells #[.int .i64 z.1, .int .i64 z.2] 69) := ⟨_, rfl⟩
      have hb7 : Below w6.heap.size w6 w7 := by rw [hw7]; exact (Below.refl _ _).alloc (Nat.le_refl _) _
      have g0 : w7.cell? ⟨w6.heap.size, 0, none⟩ = some (.int .i64 z.1) := by rw [hw7]; simp
      have g1 : w7.cell? ⟨w6.heap.size, 1, none⟩ = some (.int .i64 z.2) := by rw [hw7]; simp
      rw [← hw7]
      have HT7 := Lib.hid (HT6.out.below hb7)
      have HB7 : Hid (Below w.heap.size w w7) := Lib.hid (HB6.out.trans (hb7.mono HB6.out.size))
      clear hw7 hb7 hd hr0 hr1 hdd0 hdd1 e0 e1
      go_wp2_with fail
      refine (put_any HT7.out.t2 z.1 z.2 HZ.out.2).mono ?_
      rintro e w8 ⟨rfl, U4, hT8, hf8, hx8⟩
      have HT8 := Lib.hid (HT7.out.two (by omega) HZZ.out hT8 hf8 hx8)
      have HB8 : Hid (Below w.heap.size w w8) := Lib.hid (HB7.out.trans ((HT7.out.t2.frame_below hf8).mono HKK.out.2))
      clear hT8 hf8 hx8 g0 g1
      go_wp2_with fail
      go_roundw
      case rel => exact ⟨i + 1, U3, U4, _, _, hlt, by go_num, HT8, HB8⟩
      case measure => simp [intOf]; omega
    · obtain rfl : i = M := by omega
      have hsame : valsV ds1 = valsV ds2 := by
        have h1 := HTr.out
        rw [HM.out] at h1
        exact h1.same (by rw [← HM.out]; exact HRM.out)
      obtain ⟨L, hL⟩ : ∃ L, L = totV ds1 := ⟨_, rfl⟩
      have hL2 : totV ds2 = L := by rw [← vals_len, ← hsame, vals_len, hL]
      have HL : Hid (L = totV ds1 ∧ totV ds2 = L ∧ L ≤ 4096 ∧ (valsV ds1).length = L ∧ valsV ds2 = valsV ds1) := Lib.hid ⟨hL, hL2, by rw [hL]; exact HTr.out.t1.tot, by rw [vals_len, hL], hsame.symm⟩
      clear hiM hlt hr hsame hL hL2
      obtain ⟨wL, rfl⟩ : ∃ wL, wL = wr := ⟨_, rfl⟩
      go_wp2_with fail
      refine (values_any HTr.out.t1).mono ?_
      rintro e w6 ⟨vu, rfl, hown6, hb6⟩
      rw [HL.out.2.2.2.1] at hown6
      obtain ⟨Au, cu, hvu⟩ := own_sliceL hown6
      subst hvu
      have HO6 := Lib.hid hown6
      have HT6 := Lib.hid (HTr.out.below hb6)
      have HB6 : Hid (Below w.heap.size w w6) := Lib.hid (HBr.out.trans (hb6.mono HBr.out.size))
      clear hown6 hb6
      go_wp2_with fail
      refine (values_any HT6.out.t2).mono ?_
      rintro e w7 ⟨vv, rfl, hown7, hb7⟩
      rw [HL.out.2.2.2.2, HL.out.2.2.2.1] at hown7
      obtain ⟨Av, cv, hvv⟩ := own_sliceL hown7
      subst hvv
      have HO7 := Lib.hid hown7
      have HO67 : Hid (w7.ownsRow wL.heap.size 69 2 (.slice Au L cu) L (cellsV (valsV ds1))) := Lib.hid (ownsRow_block HO6.out fun y hy => hb7.block y (HO6.out.lt y hy).2)
      have HT7 := Lib.hid (HT6.out.below hb7)
      have HB7 : Hid (Below w.heap.size w w7) := Lib.hid (HB6.out.trans (hb7.mono HB6.out.size))
      clear hown7 hb7
      go_wp2_with fail
      refine (ranks_any HT7.out.t1).mono ?_
      rintro e w8 ⟨bp, cp8, fp, rfl, -, -, hmp, hrp, hb8⟩
      rw [← HL.out.1] at hmp hrp
      have HP8 := Lib.hid (And.intro hmp hrp)
      have HT8 := Lib.hid (HT7.out.below hb8)
      have HB78 := Lib.hid hb8
      have HB8 : Hid (Below w.heap.size w w8) := Lib.hid (HB7.out.trans (hb8.mono HB7.out.size))
      clear hmp hrp hb8
      go_wp2_with fail
      refine (ranks_any HT8.out.t2).mono ?_
      rintro e w9 ⟨bq, cq, fq, rfl, -, -, hmq, hrq, hb9⟩
      rw [HL.out.2.1] at hmq hrq
      have HQ9 := Lib.hid (And.intro hmq hrq)
      have HP9 : Hid (MpI w9 bp cp8 fp L) := Lib.hid (HP8.out.1.kept (hb9.block bp HP8.out.1.lt))
      have HB79 : Hid (Below w7.heap.size w7 w9) := Lib.hid (HB78.out.trans (hb9.mono HB78.out.size))
      have HT9 := Lib.hid (HT8.out.below hb9)
      have HB9 : Hid (Below w.heap.size w w9) := Lib.hid (HB8.out.trans (hb9.mono HB8.out.size))
      have HOu : Hid (w9.ownsRow wL.heap.size 69 2 (.slice Au L cu) L (cellsV (valsV ds1))) := Lib.hid (ownsRow_block HO67.out fun y hy => HB79.out.block y (HO67.out.lt y hy).2)
      have HOv : Hid (w9.ownsRow w6.heap.size 69 2 (.slice Av L cv) L (cellsV (valsV ds1))) := Lib.hid (ownsRow_block HO7.out fun y hy => HB79.out.block y (HO7.out.lt y hy).2)
      have hlp : ∀ ty, (Builtin.len_ #[70] ty #[.map (some bp)]).run Try.prog w9 = .ok (.int .i64 (L : Int)) w9 := fun ty => HP9.out.len ty
      have hlq : ∀ ty, (Builtin.len_ #[70] ty #[.map (some bq)]).run Try.prog w9 = .ok (.int .i64 (L : Int)) w9 := fun ty => HQ9.out.1.len ty
      have hdL : ((L : Int) != (L : Int)) = false := by simp
      clear hmq hrq hb9
      go_wp2_with fail
      clear hlp hlq hdL
      go_loopw [20] (fun s20 wr => ∃ (j : Nat), j ≤ L ∧ s20 = .int .i64 j ∧ Hid (Below w9.heap.size w9 wr)) (fun s20 _ => L - (intOf s20).toNat)
      case atStart => exact ⟨0, Nat.zero_le _, rfl, Lib.hid (Below.refl _ _)⟩
      case round =>
        obtain ⟨j, hjL, rfl, HBj⟩ := hrel
        by_cases hlj : j < L
        · obtain ⟨x, hx⟩ : ∃ x, (valsV ds1)[j]? = some x := ⟨_, List.getElem?_eq_getElem (by rw [HL.out.2.2.2.1]; exact hlj)⟩
          obtain ⟨gu, hAu⟩ : ∃ gu, Au = some ⟨gu, 0, none⟩ := by
            rcases HOu.out.2 with ⟨_, h0⟩ | ⟨gu, c', cur, e, -⟩
            · omega
            · simp only [Value.slice.injEq] at e
              exact ⟨gu, e.1⟩
          obtain ⟨gv, hAv⟩ : ∃ gv, Av = some ⟨gv, 0, none⟩ := by
            rcases HOv.out.2 with ⟨_, h0⟩ | ⟨gv, c', cur, e, -⟩
            · omega
            · simp only [Value.slice.injEq] at e
              exact ⟨gv, e.1⟩
          subst hAu hAv
          have hin1 : inV n1 ds1 x = true := HT9.out.t1.ok.mem_vals.1 (List.mem_of_getElem? hx)
          have hin2 : inV n2 ds2 x = true := HT9.out.t2.ok.mem_vals.1 (by rw [HL.out.2.2.2.2]; exact List.mem_of_getElem? hx)
          obtain ⟨h1, hh1⟩ : ∃ h1 : Int, h1 = (hV n1 ds1 x : Int) := ⟨_, rfl⟩
          obtain ⟨h2, hh2⟩ : ∃ h2 : Int, h2 = (hV n2 ds2 x : Int) := ⟨_, rfl⟩
          have hiv := HT9.out.t1.in_iv hin1
          have hrk1 : fp h1 = some (j : Int) := by rw [hh1]; exact HP8.out.2.at_ j x hlj hx
          have hrk2 : fq h2 = some (j : Int) := by rw [hh2]; exact HQ9.out.2.at_ j x hlj (by rw [HL.out.2.2.2.2]; exact hx)
          have hI1 : I64 h1 := by have := HT9.out.t1.ok.h_lt hin1; rw [hh1]; unfold I64; omega
          have hI2 : I64 h2 := by have := HT9.out.t2.ok.h_lt hin2; rw [hh2]; unfold I64; omega
          have hgul := (HOu.out.lt gu rfl).2
          have hgvl := (HOv.out.lt gv rfl).2
          have FND1 : Hid (∀ W, Below w9.heap.size w9 W → Calls Try.prog 21 #[.pointer (some ⟨K1 + 2, 0, none⟩), .int .i64 x.1, .int .i64 x.2] W fun e w' => e = .returned (.tuple #[.int .i64 h1, .bool true]) ∧ w' = W) := Lib.hid fun W hW => by
            have := find_any (HT9.out.t1.below hW) x.1 x.2 hiv.1 hiv.2
            rw [show ((x.1, x.2) : VD) = x from rfl, hin1, if_pos rfl, ← hh1] at this
            exact this
          have FND2 : Hid (∀ W, Below w9.heap.size w9 W → Calls Try.prog 21 #[.pointer (some ⟨K2 + 2, 0, none⟩), .int .i64 x.1, .int .i64 x.2] W fun e w' => e = .returned (.tuple #[.int .i64 h2, .bool true]) ∧ w' = W) := Lib.hid fun W hW => by
            have := find_any (HT9.out.t2.below hW) x.1 x.2 hiv.1 hiv.2
            rw [show ((x.1, x.2) : VD) = x from rfl, hin2, if_pos rfl, ← hh2] at this
            exact this
          have RKP : Hid (∀ W, Below w9.heap.size w9 W → (Instr.lookup 70 (.map (some bp)) (.int .i64 h1) false).run Try.prog W = .ok (.int .i64 (j : Int)) W) := Lib.hid fun W hW => by
            have := (HP9.out.kept (hW.block bp HP9.out.lt)).look1 hI1
            rw [hrk1] at this
            exact this
          have RKQ : Hid (∀ W, Below w9.heap.size w9 W → (Instr.lookup 70 (.map (some bq)) (.int .i64 h2) false).run Try.prog W = .ok (.int .i64 (j : Int)) W) := Lib.hid fun W hW => by
            have := (HQ9.out.1.kept (hW.block bq HQ9.out.1.lt)).look1 hI2
            rw [hrk2] at this
            exact this
          have ROWS : Hid (∀ (W : World) (i : Nat) (y : VD), Below w9.heap.size w9 W → (valsV ds1)[i]? = some y → W.cell? ⟨gu, i * 2, none⟩ = some (.int .i64 y.1) ∧ W.cell? ⟨gu, i * 2 + 1, none⟩ = some (.int .i64 y.2) ∧ W.cell? ⟨gv, i * 2, none⟩ = some (.int .i64 y.1) ∧ W.cell? ⟨gv, i * 2 + 1, none⟩ = some (.int .i64 y.2)) := Lib.hid fun W i y hW hy => by
            have hiL : i < L := by rw [← HL.out.2.2.2.1]; exact (List.getElem?_eq_some_iff.1 hy).1
            obtain ⟨hy1, hy2⟩ := cellsV_at hy
            exact ⟨(World.cell?_of_block (a := ⟨gu, i * 2, none⟩) (hW.block gu hgul)).trans ((HOu.out.cellAt (i * 2) (by omega)).trans hy1), (World.cell?_of_block (a := ⟨gu, i * 2 + 1, none⟩) (hW.block gu hgul)).trans ((HOu.out.cellAt (i * 2 + 1) (by omega)).trans hy2),
              (World.cell?_of_block (a := ⟨gv, i * 2, none⟩) (hW.block gv hgvl)).trans ((HOv.out.cellAt (i * 2) (by omega)).trans hy1), (World.cell?_of_block (a := ⟨gv, i * 2 + 1, none⟩) (hW.block gv hgvl)).trans ((HOv.out.cellAt (i * 2 + 1) (by omega)).trans hy2)⟩
          have HX := Lib.hid hx
          have hj0 : (0 : Int) ≤ j := by omega
          have hj1 : (j : Int) < L := by omega
          clear hin1 hin2 hh1 hh2 hiv hrk1 hrk2 hI1 hI2 hgul hgvl hx
          obtain ⟨q0, q1, -, -⟩ := ROWS.out wr j x HBj.out HX.out
          have HF1 : Hid (∀ n, Calls Try.prog 21 #[.pointer (some ⟨K1 + 2, 0, none⟩), .int .i64 x.1, .int .i64 x.2] (wr.drewN n) fun e w' => e = .returned (.tuple #[.int .i64 h1, .bool true]) ∧ w' = wr.drewN n) := Lib.hid fun n => FND1.out _ (below_drewN HBj.out n)
          go_wp2_with fail
          go_quiet ((go_at_call 21; exact Calls.quiet_of_same (HF1.out _)))
          obtain ⟨wA, hwA⟩ : ∃ wA, wA = wr.drewN nq := ⟨_, rfl⟩
          have HBA : Hid (Below w9.heap.size w9 wA) := Lib.hid (by rw [hwA]; exact below_drewN HBj.out nq)
          rw [← hwA]
          clear hwA q0 q1
          obtain ⟨q0, q1, -, -⟩ := ROWS.out wA j x HBA.out HX.out
          have HF2 : Hid (∀ n, Calls Try.prog 21 #[.pointer (some ⟨K2 + 2, 0, none⟩), .int .i64 x.1, .int .i64 x.2] (wA.drewN n) fun e w' => e = .returned (.tuple #[.int .i64 h2, .bool true]) ∧ w' = wA.drewN n) := Lib.hid fun n => FND2.out _ (below_drewN HBA.out n)
          go_upto_region 24 with fail
          go_quiet ((go_at_call 21; exact Calls.quiet_of_same (HF2.out _)))
          obtain ⟨wB, hwB⟩ : ∃ wB, wB = wA.drewN nq := ⟨_, rfl⟩
          have HBB : Hid (Below w9.heap.size w9 wB) := Lib.hid (by rw [hwB]; exact below_drewN HBA.out nq)
          rw [← hwB]
          clear hwB q0 q1
          go_upto_region 25 with fail
          have hneq : ∀ u, (binOp .neq 69 (.agg #[.int .i64 x.1, .int .i64 x.2]) (.agg #[.int .i64 x.1, .int .i64 x.2])).run Try.prog u = .ok (.bool false) u := fun u => by
            have := neqVal x x u
            rw [decide_eq_true rfl] at this
            exact this
          have hgu := valGuard
          have hself : ((j : Int) != (j : Int)) = false := by simp
          by_cases hjz : 0 < j
          · have hd0 : decide (0 < j) = true := decide_eq_true hjz
            obtain ⟨jm, hjm0⟩ : ∃ jm : Nat, jm + 1 = j := ⟨j - 1, by omega⟩
            have hjm : (j : Int) - 1 = (jm : Int) := by omega
            have hL5 : (L : Int) ≤ 4096 := by have := HL.out.2.2.1; omega
            have hwj : wrap64 (jm : Int) = (jm : Int) := IntWalk.wrap64_in _ (by have := HL.out.2.2.1; omega)
            have hm0 : (0 : Int) ≤ jm := by omega
            have hm1 : (jm : Int) < L := by omega
            obtain ⟨y, hy⟩ : ∃ y, (valsV ds1)[jm]? = some y := ⟨_, List.getElem?_eq_getElem (by rw [HL.out.2.2.2.1]; omega)⟩
            have HLT : Hid (ltV y x = true) := Lib.hid (HT9.out.t1.ok.vals_lt hy (by rw [hjm0]; exact HX.out))
            obtain ⟨wD, hwD⟩ : ∃ wD, wD = wB.drew := ⟨_, rfl⟩
            have HWD := Lib.hid hwD
            have HBD : Hid (Below w9.heap.size w9 wD) := Lib.hid (by rw [hwD]; exact HBB.out.drew)
            obtain ⟨q0, q1, q2, q3⟩ := ROWS.out wD j x HBD.out HX.out
            obtain ⟨q4, q5, -, -⟩ := ROWS.out wD jm y HBD.out hy
            have hlp := RKP.out wD HBD.out
            have hlq := RKQ.out wD HBD.out
            clear hwD hy hjm0 hjz
            refine wp_region_still_tail 44 (by kernel_rfl) (by kernel_rfl) ?_
            simp only [List.take_succ_cons, List.take_zero, List.drop_succ_cons, List.drop_zero]
            refine still_of_quietT _ _ ?_
            change wpQuiet _ _ (fun w' => w' = wB.drew) (fun a' => wpList _ _ _ _ a' wB.drew) _ _
            rw [← HWD.out]
            repeat (go_big_quiet_step (fail))
            refine wpQuiet_nil ?_
            go_wp2_with fail
            refine (less_any y x wD).mono ?_
            rintro e w12 ⟨rfl, hb12⟩
            rw [HLT.out]
            have HB12 : Hid (Below w9.heap.size w9 w12) := Lib.hid (HBD.out.trans (hb12.mono HBD.out.size))
            clear hb12
            go_wp2_with fail
            go_roundw
            case rel => exact ⟨j + 1, hlj, by go_num, HB12⟩
            case measure => simp [intOf]; omega
          · have hd0 : decide ((0 : Int) < (j : Int)) = false := decide_eq_false (by omega)
            have hd1 : ¬ (0 : Int) < (j : Int) := by omega
            have hd2 : decide (0 < j) = false := decide_eq_false hjz
            have hd3 : ¬ 0 < j := hjz
            obtain ⟨q0, q1, q2, q3⟩ := ROWS.out wB j x HBB.out HX.out
            have hlp : ∀ n, (Instr.lookup 70 (.map (some bp)) (.int .i64 h1) false).run Try.prog (wB.drewN n) = .ok (.int .i64 (j : Int)) (wB.drewN n) := fun n => RKP.out _ (below_drewN HBB.out n)
            have hlq : ∀ n, (Instr.lookup 70 (.map (some bq)) (.int .i64 h2) false).run Try.prog (wB.drewN n) = .ok (.int .i64 (j : Int)) (wB.drewN n) := fun n => RKQ.out _ (below_drewN HBB.out n)
            clear hjz
            go_big_quiet (fail)
            go_wp2_with fail
            go_roundw
            case rel => exact ⟨j + 1, hlj, by go_num, Lib.hid (below_drewN HBB.out _)⟩
            case measure => simp [intOf]; omega
        · obtain rfl : j = L := by omega
          clear hjL hlj
          go_wp2_with fail
          go_ret
          exact ⟨rfl, HB9.out.trans (HBj.out.mono HB9.out.size)⟩
end Go.Proofs.Ytcjmhdneelmbhaa
