/- What the program holds of which registers are wanted, in memory. -/
import Derived.Test.YtflbooopgjgkbaaLvMJ
import Derived.Test.YtflbooopgjgkbaaDmFrJ
import Derived.Test.YtflbooopgjgkbaaOwnSJ
import Derived.OrdersHeld
import Derived.RegionTactic
import Derived.Lib.Hide
namespace Go.Proofs.Ytflbooopgjgkbaa
open Go.ChangeShapes Go.WideShapes Go.RowKit Go.Deep
set_option linter.unusedVariables false

/-! ### How many -/
def allP (n R : Nat) : List (Nat × Nat) := (List.range n).flatMap fun x => (List.range R).map fun y => (x, y)
theorem allP_mem {n R : Nat} {x : Nat × Nat} : x ∈ allP n R ↔ x.1 < n ∧ x.2 < R := by
  unfold allP
  rw [List.mem_flatMap]
  constructor
  · rintro ⟨a, ha, hx⟩
    obtain ⟨b, hb, rfl⟩ := List.mem_map.1 hx
    exact ⟨List.mem_range.1 ha, List.mem_range.1 hb⟩
  · rintro ⟨h1, h2⟩
    exact ⟨x.1, List.mem_range.2 h1, List.mem_map.2 ⟨x.2, List.mem_range.2 h2, rfl⟩⟩
theorem allP_len (n R : Nat) : (allP n R).length = n * R := by
  unfold allP
  induction n with
  | zero => simp
  | succ n ih => rw [List.range_succ, List.flatMap_append, List.length_append, ih]; simp [Nat.succ_mul]
theorem allP_nodup (n R : Nat) : (allP n R).Nodup := by
  unfold allP
  induction n with
  | zero => simp
  | succ n ih =>
    rw [List.range_succ, List.flatMap_append, List.nodup_append]
    refine ⟨ih, ?_, ?_⟩
    · simp only [List.flatMap_cons, List.flatMap_nil, List.append_nil]
      exact List.Pairwise.map _ (fun a b h e => h (by injection e)) List.nodup_range
    · intro a ha b hb e
      subst e
      obtain ⟨x, hx, h1⟩ := List.mem_flatMap.1 ha
      obtain ⟨y, hy, h2⟩ := List.mem_flatMap.1 hb
      obtain ⟨p, _, rfl⟩ := List.mem_map.1 h1
      obtain ⟨q, _, e⟩ := List.mem_map.1 h2
      have e1 : y = x := by injection e
      have := List.mem_range.1 hx
      have := List.mem_singleton.1 hy
      omega
theorem countP_one {α : Type} [DecidableEq α] {p q : α → Bool} {x : α} (hq : ∀ y, y ≠ x → q y = p y) (hp : p x = false) (hx : q x = true) : ∀ l : List α, l.Nodup → l.countP q = l.countP p + (if x ∈ l then 1 else 0) := by
  intro l
  induction l with
  | nil => intro _; simp
  | cons a l ih =>
    intro hn
    obtain ⟨h1, h2⟩ := List.nodup_cons.1 hn
    rw [List.countP_cons, List.countP_cons, ih h2]
    by_cases e : a = x
    · subst e
      have hm : a ∈ a :: l := by simp
      rw [if_neg h1, if_pos hm, hx, hp]; simp
    · rw [hq a e]
      have hm : (x ∈ a :: l) ↔ x ∈ l := by
        rw [List.mem_cons]
        exact ⟨fun h => by rcases h with h | h; exact absurd h.symm e; exact h, .inr⟩
      by_cases e2 : x ∈ l
      · rw [if_pos e2, if_pos (hm.2 e2)]; omega
      · rw [if_neg e2, if_neg (fun h => e2 (hm.1 h))]; omega
def cntA (n R : Nat) (M : Nat → Nat → Bool) : Nat := (allP n R).countP fun x => M x.1 x.2
theorem cntA_le (n R : Nat) (M : Nat → Nat → Bool) : cntA n R M ≤ n * R := by unfold cntA; rw [← allP_len]; exact List.countP_le_length
theorem cntA_set {n R : Nat} {M : Nat → Nat → Bool} {b r : Nat} (hb : b < n) (hr : r < R) (h : M b r = false) : cntA n R (setB M b r) = cntA n R M + 1 := by
  unfold cntA
  rw [countP_one (x := (b, r)) (p := fun x => M x.1 x.2) (fun y hy => by
    show setB M b r y.1 y.2 = M y.1 y.2
    unfold setB
    rw [if_neg (fun k => hy (Prod.ext k.1 k.2))]) h (setB_here _ _ _) _ (allP_nodup n R), if_pos (allP_mem.2 ⟨hb, hr⟩)]
/-- No more is open than was found; all that is open is some block's register. -/
def FewS (n R : Nat) (s : LvS) : Prop := s.op.length ≤ cntA n R s.A ∧ ∀ x ∈ s.op, x.1 < n ∧ x.2 < R
theorem FewS.le {n R : Nat} {s : LvS} (h : FewS n R s) : s.op.length ≤ n * R := Nat.le_trans h.1 (cntA_le _ _ _)
theorem FewS.atB {n R : Nat} {s : LvS} (h : FewS n R s) (ph : Nat → Nat → Bool) {b r : Nat} (hb : b < n) (hr : r < R) : FewS n R (atB ph s b r) := by
  unfold Go.Proofs.Ytflbooopgjgkbaa.atB
  by_cases e : (s.A b r || ph b r) = true
  · rw [if_pos e]; exact h
  · rw [if_neg e]
    have hA : s.A b r = false := by cases hq : s.A b r; rfl; rw [hq] at e; simp at e
    refine ⟨by rw [List.length_append, cntA_set hb hr hA]; have := h.1; simp; omega, fun x hx => ?_⟩
    rcases List.mem_append.1 hx with hx | hx
    · exact h.2 x hx
    · rw [List.mem_singleton.1 hx]; exact ⟨hb, hr⟩
theorem FewS.atE {n R : Nat} {s : LvS} (h : FewS n R s) (mk ph : Nat → Nat → Bool) {b r : Nat} (hb : b < n) (hr : r < R) : FewS n R (atE mk ph s b r) := by
  unfold Go.Proofs.Ytflbooopgjgkbaa.atE
  split
  · exact h
  · split
    · exact h
    · exact FewS.atB (s := ⟨s.A, setB s.E b r, s.op⟩) h ph hb hr
/-- What is left to do. -/
def msS (n R : Nat) (s : LvS) : Nat := s.op.length + (n * R - cntA n R s.A)
theorem msS_atB {n R : Nat} {s : LvS} (ph : Nat → Nat → Bool) {b r : Nat} (hb : b < n) (hr : r < R) : msS n R (atB ph s b r) = msS n R s := by
  unfold Go.Proofs.Ytflbooopgjgkbaa.atB msS
  by_cases e : (s.A b r || ph b r) = true
  · rw [if_pos e]
  · rw [if_neg e]
    have hA : s.A b r = false := by cases hq : s.A b r; rfl; rw [hq] at e; simp at e
    have h1 := cntA_set hb hr hA
    have h2 := cntA_le n R (setB s.A b r)
    rw [List.length_append, h1]
    rw [h1] at h2
    simp; omega
theorem msS_atE {n R : Nat} {s : LvS} (mk ph : Nat → Nat → Bool) {b r : Nat} (hb : b < n) (hr : r < R) : msS n R (atE mk ph s b r) = msS n R s := by
  unfold Go.Proofs.Ytflbooopgjgkbaa.atE
  split
  · rfl
  · split
    · rfl
    · rw [msS_atB (s := ⟨s.A, setB s.E b r, s.op⟩) ph hb hr]; rfl

/-! ### Rows of truths -/
structure BG1 (w : World) (G n R : Nat) (M : Nat → Nat → Bool) : Prop where
  row : w.rowIs G 46 n (fun a => .slice (some ⟨G + 1 + a, 0, none⟩) R R)
  cells : ∀ a, a < n → w.rowIs (G + 1 + a) 4 R (fun r => .bool (M a r))
theorem BG1.of_blocks {w w' : World} {G n R : Nat} {M : Nat → Nat → Bool} (h : BG1 w G n R M) (hb : ∀ y, G ≤ y → y ≤ G + n → w'.heap[y]? = w.heap[y]?) : BG1 w' G n R M :=
  ⟨h.row.of_block (hb G (by omega) (by omega)), fun a ha => (h.cells a ha).of_block (hb _ (by omega) (by omega))⟩
theorem BG1.congr {w : World} {G n R : Nat} {M M' : Nat → Nat → Bool} (h : BG1 w G n R M) (he : ∀ a b, a < n → b < R → M a b = M' a b) : BG1 w G n R M' :=
  ⟨h.row, fun a ha => (h.cells a ha).congr fun b hb => by rw [he a b ha hb]⟩
theorem BG1.set {w : World} {G n R : Nat} {M : Nat → Nat → Bool} (h : BG1 w G n R M) (a r : Nat) (ha : a < n) : BG1 (w.setCell ⟨G + 1 + a, r, none⟩ (.bool true)) G n R (setB M a r) := by
  have hs : ∀ y, y ≠ G + 1 + a → (w.setCell ⟨G + 1 + a, r, none⟩ (.bool true)).heap[y]? = w.heap[y]? := fun y hy => Below.heap_setCell _ _ _ _ hy
  refine ⟨h.row.of_block (hs G (by omega)), fun x hx => ?_⟩
  by_cases e : x = a
  · subst e
    exact ((h.cells x hx).set r (.bool true)).congr fun r' _ => by unfold setB; by_cases e2 : r' = r <;> simp [e2]
  · exact ((h.cells x hx).of_block (hs _ (by omega))).congr fun r' _ => by unfold setB; rw [if_neg (fun k => e k.1)]
/-- Its cells, as a walk reads them. -/
theorem BG1.at_ {w : World} {G n R : Nat} {M : Nat → Nat → Bool} (h : BG1 w G n R M) {a r : Nat} (ha : a < n) (hr : r < R) :
    w.cell? ⟨G, a, none⟩ = some (.slice (some ⟨G + 1 + a, 0, none⟩) R R) ∧ w.cell? ⟨G + 1 + a, r, none⟩ = some (.bool (M a r)) ∧ w.frozen? ⟨G + 1 + a, r, none⟩ = false :=
  ⟨h.row.cell ha, (h.cells a ha).cell hr, (h.cells a ha).frozen r⟩

/-! ### The whole -/
def opF (l : List (Nat × Nat)) : List Value := l.flatMap fun x => [.int .i64 (x.1 : Int), .int .i64 (x.2 : Int)]
theorem opF_snoc (l : List (Nat × Nat)) (b r : Nat) : opF (l ++ [(b, r)]) = opF l ++ [.int .i64 (b : Int), .int .i64 (r : Int)] := by unfold opF; rw [List.flatMap_append]; simp
theorem opF_len (l : List (Nat × Nat)) : (opF l).length = 2 * l.length := by
  unfold opF
  induction l with
  | nil => rfl
  | cons x l ih => rw [List.flatMap_cons, List.length_append, ih]; simp; omega
structure WsM (Wa : World) (H Ga n R K : Nat) (W : World) (vo : Value) (mk ph : Nat → Nat → Bool) (s : LvS) : Prop where
  hz : Wa.heap.size = H
  hk : H + 4 * (n + 1) < K
  box : W.heap[H + 4 * (n + 1)]? = some (.cells #[.slice (some ⟨Ga, 0, none⟩) n n, .slice (some ⟨H, 0, none⟩) n n, .slice (some ⟨H + (n + 1), 0, none⟩) n n, .slice (some ⟨H + 2 * (n + 1), 0, none⟩) n n, .slice (some ⟨H + 3 * (n + 1), 0, none⟩) n n, vo] 90)
  g1 : BG1 W H n R mk
  g2 : BG1 W (H + (n + 1)) n R ph
  g3 : BG1 W (H + 2 * (n + 1)) n R s.A
  g4 : BG1 W (H + 3 * (n + 1)) n R s.E
  op : W.ownsRow K 137 2 vo s.op.length (opF s.op)
  bel : Below H Wa W
  kw : K ≤ W.heap.size
/-- What a step may have changed: the truths, the box, and the row of what is open. -/
structure GroS (lo hi : Nat) (w w' : World) (v v' : Value) : Prop where
  os : w'.os = w.os
  tape : w'.tape = w.tape
  output : w'.output = w.output
  size : w.heap.size ≤ w'.heap.size
  block : ∀ k, k < w.heap.size → ¬ (lo ≤ k ∧ k ≤ hi) → v.ownBlock ≠ some k → w'.heap[k]? = w.heap[k]?
  own : ∀ g, v'.ownBlock = some g → v.ownBlock = some g ∨ w.heap.size ≤ g
theorem GroS.refl (lo hi : Nat) (w : World) (v : Value) : GroS lo hi w w v v := ⟨rfl, rfl, rfl, Nat.le_refl _, fun _ _ _ _ => rfl, fun _ h => .inl h⟩
theorem GroS.trans {lo hi : Nat} {a b c : World} {u v x : Value} (h : GroS lo hi a b u v) (k : GroS lo hi b c v x) : GroS lo hi a c u x :=
  ⟨k.os.trans h.os, k.tape.trans h.tape, k.output.trans h.output, Nat.le_trans h.size k.size,
    fun i hi1 hn hv => (k.block i (Nat.lt_of_lt_of_le hi1 h.size) hn (fun e => by rcases h.own i e with h1 | h1; exact hv h1; omega)).trans (h.block i hi1 hn hv),
    fun g hg => by
      rcases k.own g hg with h1 | h1
      · exact h.own g h1
      · exact .inr (Nat.le_trans h.size h1)⟩
theorem GroS.of_below {lo hi : Nat} {w w' : World} (h : Below w.heap.size w w') (v : Value) : GroS lo hi w w' v v := ⟨h.os, h.tape, h.output, h.size, fun k hk _ _ => h.block k hk, fun _ h => .inl h⟩
theorem GroS.mono {lo hi : Nat} {a b c : World} {u v : Value} (h : GroS lo hi a b u v) (k : Below b.heap.size b c) : GroS lo hi a c u v := h.trans (.of_below k v)
theorem WsM.below {Wa : World} {H Ga n R K : Nat} {W W' : World} {vo : Value} {mk ph : Nat → Nat → Bool} {s : LvS} (h : WsM Wa H Ga n R K W vo mk ph s) (hb : Below W.heap.size W W') : WsM Wa H Ga n R K W' vo mk ph s := by
  have hP : H + 4 * (n + 1) < W.heap.size := (Array.getElem?_eq_some_iff.1 h.box).1
  have hk : ∀ y, y ≤ H + 4 * (n + 1) → W'.heap[y]? = W.heap[y]? := fun y hy => hb.block y (by omega)
  exact ⟨h.hz, h.hk, (hk _ (by omega)).trans h.box, h.g1.of_blocks fun y _ hy => hk y (by omega), h.g2.of_blocks fun y _ hy => hk y (by omega), h.g3.of_blocks fun y _ hy => hk y (by omega), h.g4.of_blocks fun y _ hy => hk y (by omega),
    ownsRow_block h.op (fun g hg => hb.block g (h.op.lt g hg).2), h.bel.trans (hb.mono (by omega)), Nat.le_trans h.kw hb.size⟩
/-- The box's cells. -/
theorem WsM.cells {Wa : World} {H Ga n R K : Nat} {W : World} {vo : Value} {mk ph : Nat → Nat → Bool} {s : LvS} (h : WsM Wa H Ga n R K W vo mk ph s) {P : Nat} (hP : H + 4 * (n + 1) = P) :
    W.cell? ⟨P, 0, none⟩ = some (.slice (some ⟨Ga, 0, none⟩) n n) ∧ W.cell? ⟨P, 1, none⟩ = some (.slice (some ⟨H, 0, none⟩) n n) ∧ W.cell? ⟨P, 2, none⟩ = some (.slice (some ⟨H + (n + 1), 0, none⟩) n n) ∧ W.cell? ⟨P, 3, none⟩ = some (.slice (some ⟨H + 2 * (n + 1), 0, none⟩) n n) ∧
    W.cell? ⟨P, 4, none⟩ = some (.slice (some ⟨H + 3 * (n + 1), 0, none⟩) n n) ∧ W.cell? ⟨P, 5, none⟩ = some vo ∧ W.frozen? ⟨P, 5, none⟩ = false := by
  have hb := h.box
  rw [hP] at hb
  simp [World.cell?, World.frozen?, hb]
theorem WsM.setE {Wa : World} {H Ga n R K : Nat} {W : World} {vo : Value} {mk ph : Nat → Nat → Bool} {s : LvS} (h : WsM Wa H Ga n R K W vo mk ph s) {b : Nat} (r : Nat) (hb : b < n) :
    WsM Wa H Ga n R K (W.setCell ⟨H + 3 * (n + 1) + 1 + b, r, none⟩ (.bool true)) vo mk ph ⟨s.A, setB s.E b r, s.op⟩ := by
  have hs : ∀ y, y ≠ H + 3 * (n + 1) + 1 + b → (W.setCell ⟨H + 3 * (n + 1) + 1 + b, r, none⟩ (.bool true)).heap[y]? = W.heap[y]? := fun y hy => Below.heap_setCell _ _ _ _ hy
  have := h.hk
  refine ⟨h.hz, h.hk, (hs _ (by omega)).trans h.box, h.g1.of_blocks fun y _ hy => hs y (by omega), h.g2.of_blocks fun y _ hy => hs y (by omega), h.g3.of_blocks fun y _ hy => hs y (by omega), h.g4.set b r hb,
    ownsRow_block h.op (fun g hg => hs g (by have := (h.op.lt g hg).1; omega)), h.bel.setCell (by show H ≤ H + 3 * (n + 1) + 1 + b; omega) _, by have := h.kw; simpa using this⟩
theorem WsM.setA {Wa : World} {H Ga n R K : Nat} {W : World} {vo : Value} {mk ph : Nat → Nat → Bool} {s : LvS} (h : WsM Wa H Ga n R K W vo mk ph s) {b : Nat} (r : Nat) (hb : b < n) :
    WsM Wa H Ga n R K (W.setCell ⟨H + 2 * (n + 1) + 1 + b, r, none⟩ (.bool true)) vo mk ph ⟨setB s.A b r, s.E, s.op⟩ := by
  have hs : ∀ y, y ≠ H + 2 * (n + 1) + 1 + b → (W.setCell ⟨H + 2 * (n + 1) + 1 + b, r, none⟩ (.bool true)).heap[y]? = W.heap[y]? := fun y hy => Below.heap_setCell _ _ _ _ hy
  have := h.hk
  refine ⟨h.hz, h.hk, (hs _ (by omega)).trans h.box, h.g1.of_blocks fun y _ hy => hs y (by omega), h.g2.of_blocks fun y _ hy => hs y (by omega), h.g3.set b r hb, h.g4.of_blocks fun y _ hy => hs y (by omega),
    ownsRow_block h.op (fun g hg => hs g (by have := (h.op.lt g hg).1; omega)), h.bel.setCell (by show H ≤ H + 2 * (n + 1) + 1 + b; omega) _, by have := h.kw; simpa using this⟩
theorem GroS.store {lo hi : Nat} (w : World) (v : Value) {p : Addr} (hp : lo ≤ p.block ∧ p.block ≤ hi) (u : Value) : GroS lo hi w (w.setCell p u) v v :=
  ⟨rfl, rfl, rfl, by simp, fun k hk hn _ => Below.heap_setCell _ _ _ _ (fun e => hn (by subst e; exact hp)), fun _ h => .inl h⟩
/-- The row of what is open has grown, or shrunk, and the box holds it. -/
theorem WsM.setOp {Wa : World} {H Ga n R K : Nat} {W W7 : World} {vo v' : Value} {mk ph : Nat → Nat → Bool} {s : LvS} (h : WsM Wa H Ga n R K W vo mk ph s) (hg : GroD W W7 vo v') {l : List (Nat × Nat)}
    (ho : W7.ownsRow K 137 2 v' l.length (opF l)) : WsM Wa H Ga n R K (W7.setCell ⟨H + 4 * (n + 1), 5, none⟩ v') v' mk ph ⟨s.A, s.E, l⟩ := by
  have hP : H + 4 * (n + 1) < W.heap.size := (Array.getElem?_eq_some_iff.1 h.box).1
  have hk := h.hk
  have hno : ∀ y, y ≤ H + 4 * (n + 1) → W7.heap[y]? = W.heap[y]? := fun y hy => hg.block y (by omega) (fun e => by have := (h.op.lt y e).1; omega)
  have hs : ∀ y, y ≠ H + 4 * (n + 1) → (W7.setCell ⟨H + 4 * (n + 1), 5, none⟩ v').heap[y]? = W7.heap[y]? := fun y hy => Below.heap_setCell _ _ _ _ hy
  have hq : ∀ y, y < H + 4 * (n + 1) → (W7.setCell ⟨H + 4 * (n + 1), 5, none⟩ v').heap[y]? = W.heap[y]? := fun y hy => (hs y (by omega)).trans (hno y (by omega))
  have hbx : W7.heap[H + 4 * (n + 1)]? = _ := (hno _ (Nat.le_refl _)).trans h.box
  refine ⟨h.hz, h.hk, ?_, h.g1.of_blocks fun y _ hy => hq y (by omega), h.g2.of_blocks fun y _ hy => hq y (by omega), h.g3.of_blocks fun y _ hy => hq y (by omega), h.g4.of_blocks fun y _ hy => hq y (by omega),
    ownsRow_block ho (fun g hg1 => hs g (by have := (ho.lt g hg1).1; omega)), ?_, by have h1 := Nat.le_trans h.kw hg.size; simpa using h1⟩
  · simp [World.setCell, Array.getElem?_modify, hbx]
  · have hf : Below H W W7 := ⟨hg.os, hg.tape, hg.output, hg.size, fun y hy => hno y (by omega)⟩
    exact (h.bel.trans hf).setCell (by show H ≤ H + 4 * (n + 1); omega) _
theorem GroS.of_groD {lo hi : Nat} {w w' : World} {v v' : Value} (h : GroD w w' v v') : GroS lo hi w w' v v' := ⟨h.os, h.tape, h.output, h.size, fun k hk _ hv => h.block k hk hv, h.own⟩
end Go.Proofs.Ytflbooopgjgkbaa

/- A region that draws its order, whose last operation waits for all others: the others first, in whatever order, with a condition on the world that need not hold behind the last one. Over any program. -/
namespace Go.Proofs.Ytflbooopgjgkbaa
open Go
set_option linter.unusedVariables false

section
variable {P : Program} {ops : Array Oper} {Q : Exit → Act → World → Prop} {md : Region.Mode} {S : World → Prop}

/-- Edges lead to what stands ahead in the text. -/
def downB (md : Region.Mode) (ops : Array Oper) : Bool :=
  (List.range ops.size).all fun i => ((ops[i]?).map fun o => o.after.all fun e => !Region.binds md e || decide (e.on < i)).getD true
/-- Each but number L is waited for by one behind it. -/
def feedsB (md : Region.Mode) (ops : Array Oper) (L : Nat) : Bool :=
  (List.range L).all fun i => (List.range (L + 1)).any fun j => decide (i < j) && ((ops[j]?).map fun o => o.after.any fun e => Region.binds md e && decide (e.on = i)).getD false

theorem downB_spec (h : downB md ops = true) {i : Nat} {o : Oper} (ho : ops[i]? = some o) : ∀ e ∈ o.after, Region.binds md e = true → e.on < i := by
  intro e he hb
  unfold downB at h
  have hi : i < ops.size := (Array.getElem?_eq_some_iff.1 ho).1
  have h1 := List.all_eq_true.1 h i (List.mem_range.2 hi)
  rw [ho] at h1
  simp only [Option.map_some, Option.getD_some, Array.all_eq_true_iff_forall_mem] at h1
  have h2 := h1 e he
  simpa [hb] using h2
theorem feedsB_spec {L : Nat} (h : feedsB md ops L = true) {i : Nat} (hi : i < L) : ∃ j o e, i < j ∧ j ≤ L ∧ ops[j]? = some o ∧ e ∈ o.after ∧ Region.binds md e = true ∧ e.on = i := by
  unfold feedsB at h
  have h1 := List.all_eq_true.1 h i (List.mem_range.2 hi)
  obtain ⟨j, hj, h2⟩ := List.any_eq_true.1 h1
  rw [Bool.and_eq_true] at h2
  obtain ⟨h3, h4⟩ := h2
  cases ho : ops[j]? with
  | none => rw [ho] at h4; simp at h4
  | some o =>
    rw [ho] at h4
    simp only [Option.map_some, Option.getD_some, Array.any_eq_true'] at h4
    obtain ⟨e, he, hb⟩ := h4
    rw [Bool.and_eq_true] at hb
    exact ⟨j, o, e, of_decide_eq_true h3, by have := List.mem_range.1 hj; omega, ho, he, hb.1, of_decide_eq_true hb.2⟩

/-- What has come up had all that it waits for. -/
def Closed (md : Region.Mode) (ops : Array Oper) (listed : Array Bool) : Prop :=
  ∀ i o, ops[i]? = some o → listed.getD i true = true → ∀ e ∈ o.after, Region.binds md e = true → listed.getD e.on false = true

theorem getD_two {l : Array Bool} {i : Nat} (h : i < l.size) (a b : Bool) : l.getD i a = l.getD i b := by
  simp [Array.getD, h]
theorem getD_set_self {l : Array Bool} {i : Nat} (h : i < l.size) (d : Bool) : (l.setIfInBounds i true).getD i d = true := by
  simp [Array.getD, h]

theorem Closed.set {listed : Array Bool} (hc : Closed md ops listed) (hs : listed.size = ops.size) {i : Nat} (hi : i ∈ Region.ready md ops listed) : Closed md ops (listed.setIfInBounds i true) := by
  intro j o ho hj e he hb
  by_cases hji : j = i
  · subst hji
    obtain ⟨_, o', ho', hall⟩ := mem_ready.1 hi
    rw [ho] at ho'
    cases ho'
    exact getD_set_true (hall e he hb)
  · rw [getD_set_ne true (Ne.symm hji)] at hj
    exact getD_set_true (hc j o ho hj e he hb)

/-- When the last one may come up, all others have. -/
theorem all_of_last {L : Nat} {listed : Array Bool} (hsz : ops.size = L + 1) (hs : listed.size = ops.size) (hf : feedsB md ops L = true) (hc : Closed md ops listed) (hL : L ∈ Region.ready md ops listed) : ∀ i, i < L → listed.getD i true = true := by
  have key : ∀ n i, L - i ≤ n → i < L → listed.getD i true = true := by
    intro n
    induction n with
    | zero => intro i h1 h2; omega
    | succ n ih =>
      intro i h1 h2
      obtain ⟨j, o, e, hij, hjL, ho, he, hb, hei⟩ := feedsB_spec hf h2
      have h3 : listed.getD e.on false = true := by
        by_cases hj : j = L
        · subst hj
          obtain ⟨_, o', ho', hall⟩ := mem_ready.1 hL
          rw [ho] at ho'
          cases ho'
          exact hall e he hb
        · exact hc j o ho (ih j (by omega) (by omega)) e he hb
      rw [hei] at h3
      rw [getD_two (by omega) true false]
      exact h3
  exact fun i hi => key (L - i) i (Nat.le_refl _) hi
/-- While the last one has not come up, one may. -/
theorem ready_some {L : Nat} {listed : Array Bool} (hsz : ops.size = L + 1) (hs : listed.size = ops.size) (hd : downB md ops = true) (hL : listed.getD L true = false) : Region.ready md ops listed ≠ [] := by
  have key : ∀ n i, i ≤ n → i ≤ L → listed.getD i true = false → ∃ k, k ∈ Region.ready md ops listed := by
    intro n
    induction n with
    | zero =>
      intro i h1 h2 h3
      obtain rfl : i = 0 := by omega
      have ho : ops[0]? = some ops[0] := Array.getElem?_eq_getElem (by omega)
      exact ⟨0, mem_ready.2 ⟨h3, _, ho, fun e he hb => absurd (downB_spec hd ho e he hb) (by omega)⟩⟩
    | succ n ih =>
      intro i h1 h2 h3
      have ho : ops[i]? = some ops[i] := Array.getElem?_eq_getElem (by omega)
      by_cases hall : ∀ e ∈ ops[i].after, Region.binds md e = true → listed.getD e.on false = true
      · exact ⟨i, mem_ready.2 ⟨h3, _, ho, hall⟩⟩
      · simp only [Classical.not_forall] at hall
        obtain ⟨e, he, hb, hno⟩ := hall
        have hlt := downB_spec hd ho e he hb
        refine ih e.on (by omega) (by omega) ?_
        rw [getD_two (by omega) true false]
        simpa using hno
  obtain ⟨k, hk⟩ := key L L (Nat.le_refl _) (Nat.le_refl _) hL
  intro h0
  rw [h0] at hk
  cases hk

/-- The post behind all but the last: the last one's turn. -/
def LastQ (P : Program) (ops : Array Oper) (Q : Exit → Act → World → Prop) (L : Nat) : Exit → Act → World → Prop
  | .normal, a, w => wpOp P ops Q L (Q .normal) a w
  | e, a, w => Q e a w

theorem upon_last {L : Nat} {o : Oper} {a : Act} {K : Act → World → Prop} {r : Result Next} (h : o.upon P a K (LastQ P ops Q L) r) : o.upon P a K Q r := by
  cases r with
  | ok n w' =>
    cases n <;> simp only [Oper.upon] at h ⊢ <;> exact h
  | halt x w' => cases x <;> simp only [Oper.upon] at h ⊢ <;> exact h
theorem wpOp_last {L i : Nat} {K : Act → World → Prop} {a : Act} {w : World} (h : wpOp P ops (LastQ P ops Q L) i K a w) : wpOp P ops Q i K a w := by
  unfold wpOp at *
  split
  · rename_i ho; simp only [ho] at h; exact h
  · rename_i o ho
    simp only [ho] at h
    split
    · rename_i hw; simp only [hw, if_true] at h; exact h.imp (fun h => by unfold Oper.wp at *; exact upon_last h) (fun h => ⟨h.1, h.2⟩)
    · rename_i hw; simp only [hw] at h; exact h

theorem wpAny_last {L : Nat} (hsz : ops.size = L + 1) (hd : downB md ops = true) (hf : feedsB md ops L = true) :
    ∀ (fuel : Nat) (listed : Array Bool) (a : Act) (w : World), listed.size = ops.size → Closed md ops listed → listed.getD L true = false →
      wpAnyH P md ops (LastQ P ops Q L) S fuel (listed.setIfInBounds L true) a w → wpAny P md ops Q (fuel + 1) listed a w := by
  intro fuel
  induction fuel with
  | zero =>
    intro listed a w hs hc hL H
    refine ⟨fun h0 => absurd h0 (ready_some hsz hs hd hL), fun i hi => ?_⟩
    by_cases hiL : i = L
    · subst hiL
      exact wpOp_mono (fun a' w' h' => ⟨H.1, h'⟩) (show wpOp P ops Q i (Q .normal) a w from H.2)
    · have := ready_mono hi hiL
      rw [H.1] at this
      cases this
  | succ fuel ih =>
    intro listed a w hs hc hL H
    refine ⟨fun h0 => absurd h0 (ready_some hsz hs hd hL), fun i hi => ?_⟩
    by_cases hiL : i = L
    · subst hiL
      have hall := all_of_last hsz hs hf hc hi
      have hr : Region.ready md ops (listed.setIfInBounds i true) = [] := by
        rw [List.eq_nil_iff_forall_not_mem]
        intro k hk
        obtain ⟨h0, o, ho, _⟩ := mem_ready.1 hk
        have hkl : k < ops.size := (Array.getElem?_eq_some_iff.1 ho).1
        by_cases hki : k = i
        · subst hki
          rw [getD_set_self (by omega)] at h0
          cases h0
        · rw [getD_set_ne true (Ne.symm hki), hall k (by omega)] at h0
          cases h0
      exact wpOp_mono (fun a' w' h' => wpAny_done hr h' _) (show wpOp P ops Q i (Q .normal) a w from H.1 hr)
    · have h1 := wpOp_last (H.2 i (ready_mono hi hiL))
      refine wpOp_mono (fun a' w' h' => ih (listed.setIfInBounds i true) a' w' (by simpa using hs) (hc.set hs hi) ?_ ?_) h1
      · rw [getD_set_ne true hiL]; exact hL
      · rw [Array.setIfInBounds_comm _ _ hiL]; exact h'.2

/-- THE LAW. -/
theorem wp_region_last {id L : Nat} {a : Act} {w : World} (hm : P.follows .mixedOrders = true) (hsz : ops.size = L + 1) (hd : downB .any ops = true) (hf : feedsB .any ops L = true)
    (h : wpAnyH P .any ops (LastQ P ops Q L) S L ((Array.replicate ops.size false).setIfInBounds L true) a { w with drawn := w.drawn + 1 }) : (Code.region id ops true).wp P Q a w := by
  refine wp_region_any hm ?_
  have h2 := wpAny_last (md := .any) (Q := Q) (S := S) hsz hd hf L (Array.replicate ops.size false) a { w with drawn := w.drawn + 1 } (by simp) (fun i o ho hi => ?_) (by simp [Array.getD, hsz]) h
  · rwa [← hsz] at h2
  · have hlt := (Array.getElem?_eq_some_iff.1 ho).1
    simp [Array.getD, hlt] at hi

/-- Take number i first: what it writes to is said by the caller. -/
theorem takeH {i : Nat} (d : Option Tmp) {v : Value} {fuel : Nat} {listed : Array Bool} {a : Act} {w : World} (hd : (ops[i]?).map (·.dst) = some d)
    (hs : Region.noSelect ops = true) (hf : Region.free md ops listed i = true) (hr : (Region.ready md ops listed).contains i = true)
    (hQ : ∀ c a w, Q (.panic c) (a.put d v) w → Q (.panic c) a w) (hS : S w) (hy : ∀ o, ops[i]? = some o → YieldsIf P ops S o v a)
    (h : wpAnyH P md ops Q S fuel (listed.setIfInBounds i true) (a.put d v) w) : wpAnyH P md ops Q S (fuel + 1) listed a w := by
  cases ho : ops[i]? with
  | none => rw [ho] at hd; cases hd
  | some o =>
    rw [ho] at hd
    obtain rfl := Option.some.inj hd
    exact wpAnyH_take ho hs hf hr hQ (hy o ho) hS h
/-- Number i alone may come up. -/
theorem oneH {i : Nat} {fuel : Nat} {listed : Array Bool} {a : Act} {w : World} (hr : Region.ready md ops listed = [i])
    (h : ∀ o, ops[i]? = some o → ∀ K : Act → World → Prop, RowKit.Hid (∀ a' w', S w' → wpAnyH P md ops Q S fuel (listed.setIfInBounds i true) a' w' → K a' w') → if Region.wanted o (yielded ops a.tmps) = true then Oper.wp P o a w K Q else K (a.put o.dst undef) w) :
    wpAnyH P md ops Q S (fuel + 1) listed a w := by
  refine wpAnyH_all hr (by simp) fun k hk => ?_
  obtain rfl := List.mem_singleton.1 hk
  unfold wpOp
  split
  · rename_i ho
    have : k ∈ Region.ready md ops listed := by rw [hr]; simp
    obtain ⟨_, o, ho', _⟩ := mem_ready.1 this
    rw [ho] at ho'; cases ho'
  · rename_i o ho
    have := h o ho (fun a' w' => S w' ∧ wpAnyH P md ops Q S fuel (listed.setIfInBounds k true) a' w') (Lib.hid (fun a' w' h1 h2 => ⟨h1, h2⟩))
    split
    · rename_i hw; rw [if_pos hw] at this; exact .inl this
    · rename_i hw; rw [if_neg hw] at this; exact this
/-- The last one. -/
theorem lastH {L : Nat} {a : Act} {w : World} (hL : L < ops.size)
    (h : ∀ o, ops[L]? = some o → ∀ K : Act → World → Prop, RowKit.Hid (∀ a' w', Q .normal a' w' → K a' w') → if Region.wanted o (yielded ops a.tmps) = true then Oper.wp P o a w K Q else K (a.put o.dst undef) w) : LastQ P ops Q L .normal a w := by
  show wpOp P ops Q L (Q .normal) a w
  have ho : ops[L]? = some ops[L] := Array.getElem?_eq_getElem hL
  have := h _ ho (Q .normal) (Lib.hid (fun a' w' h1 => h1))
  unfold wpOp
  simp only [ho]
  split
  · rename_i hw; rw [if_pos hw] at this; exact .inl this
  · rename_i hw; rw [if_neg hw] at this; exact this
end
end Go.Proofs.Ytflbooopgjgkbaa

/- The program's atBeginning, atEnd. -/
namespace Go.Proofs.Ytflbooopgjgkbaa
open Go.ChangeShapes Go.WideShapes Go.RowKit Go.Deep
set_option linter.unusedVariables false

theorem Try.info137 : (Try.prog.info? 137).map (fun i => (i.zero, i.size, i.bytes)) = some (some (.agg #[.int .i64 0, .int .i64 0]), 2, 16) := by kernel_rfl
theorem Try.underlying88 : Try.prog.underlying 88 = some (.slice 137) := by kernel_rfl
def ToldW (Wa : World) (H Ga n R K : Nat) (W : World) (vo : Value) (mk ph : Nat → Nat → Bool) (s' : LvS) (e : Ending) (W' : World) : Prop :=
  e = .returned (.tuple #[]) ∧ ∃ vo', WsM Wa H Ga n R K W' vo' mk ph s' ∧ GroS H (H + 4 * (n + 1)) W W' vo vo'
set_option maxRecDepth 100000 in
set_option maxHeartbeats 8000000 in
theorem atBeginning_any (Wa : World) (H Ga n R K : Nat) (W : World) (vo : Value) (mk ph : Nat → Nat → Bool) (s : LvS) (h : WsM Wa H Ga n R K W vo mk ph s) (hf : FewS n R s) (hn : n ≤ 64) (hR : R ≤ 256) (b r : Nat) (hb : b < n) (hr : r < R) :
    Calls Try.prog 57 #[.pointer (some ⟨H + 4 * (n + 1), 0, none⟩), .int .i64 (b : Int), .int .i64 (r : Int)] W (ToldW Wa H Ga n R K W vo mk ph (atB ph s b r)) := by
  obtain ⟨i1, hi, hz0, hz1, hz2⟩ := info_parts Try.info137
  have HI1 := Lib.hid (And.intro hi (And.intro hz0 (And.intro hz1 hz2)))
  clear hi hz0 hz1 hz2
  have hnR : n * R ≤ 16384 := by have := Nat.mul_le_mul hn hR; omega
  have hol : s.op.length ≤ 16384 := Nat.le_trans hf.le hnR
  obtain ⟨P, hP⟩ : ∃ P, H + 4 * (n + 1) = P := ⟨_, rfl⟩
  obtain ⟨G2, hG2⟩ : ∃ G2, H + (n + 1) = G2 := ⟨_, rfl⟩
  obtain ⟨G3, hG3⟩ : ∃ G3, H + 2 * (n + 1) = G3 := ⟨_, rfl⟩
  obtain ⟨p0, p1, p2, p3, p4, p5, p6⟩ := h.cells hP
  obtain ⟨a1, a2, a3⟩ := h.g3.at_ hb hr
  obtain ⟨q1, q2, -⟩ := h.g2.at_ hb hr
  rw [hG2] at q1 q2 p2
  rw [hG3] at a1 a2 a3 p3
  have HM := Lib.hid h
  have HH := Lib.hid (And.intro hP (And.intro hG2 hG3))
  have hPG : G3 < P ∧ G2 < G3 ∧ G3 + 1 + b < P := by omega
  obtain ⟨hPG1, hPG2, hPG3⟩ := hPG
  have hb0 : (0 : Int) ≤ b := by omega
  have hb1 : (b : Int) < n := by omega
  have hr0 : (0 : Int) ≤ r := by omega
  have hr1 : (r : Int) < R := by omega
  rw [hP]
  clear h hf hP hG2 hG3 hnR p0 p1 p4
  go_enter Try.func57, Try.ntmps57
  cases hA : s.A b r
  · cases hph : ph b r
    · rw [hA] at a2
      rw [hph] at q2
      have HS : Hid (atB ph s b r = ⟨setB s.A b r, s.E, s.op ++ [(b, r)]⟩) := Lib.hid (by unfold atB; rw [hA, hph]; rfl)
      clear hA hph
      obtain ⟨W1, hW1⟩ : ∃ W1, W.setCell ⟨G3 + 1 + b, r, none⟩ (.bool true) = W1 := ⟨_, rfl⟩
      have hM1 : WsM Wa H Ga n R K W1 vo mk ph ⟨setB s.A b r, s.E, s.op⟩ := by rw [← hW1, ← HH.out.2.2]; exact HM.out.setA r hb
      obtain ⟨-, -, -, -, -, t5, t6⟩ := hM1.cells HH.out.1
      have HM1 := Lib.hid hM1
      have HO : Hid (W1.ownsRow K 137 2 vo s.op.length (opF s.op)) := Lib.hid hM1.op
      have hz1 : W.heap.size = W1.heap.size := by rw [← hW1]; simp
      obtain ⟨Av, cv, hvo⟩ := own_sliceL hM1.op
      have HW1 := Lib.hid hW1
      obtain ⟨lo, hlo⟩ : ∃ lo, s.op.length = lo := ⟨_, rfl⟩
      have HLO := Lib.hid hlo
      rw [hlo] at hol hvo
      have HOV : Hid (W1.ownsRow K 137 2 (.slice Av lo cv) lo (opF s.op)) := Lib.hid (by have h1 := HO.out; rw [hlo, hvo] at h1; exact h1)
      have HVO := Lib.hid hvo
      rw [hvo] at t5
      clear hM1 hlo hvo HO
      go_wp2_with (first | rw [hW1] |
        (at_builtin; refine wpList_append_lies _ rfl (.tmp 41) (.tmp 45) 88 rfl K 137 i1 (.agg #[.int .i64 0, .int .i64 0]) 2 16 Try.underlying88 HI1.out.1 HI1.out.2.1 HI1.out.2.2.1 HI1.out.2.2.2 rfl (by decide) _ lo (opF s.op) rfl (HOV.out.alloc _) ⟨W1.heap.size, 0, none⟩ 1 1 [.int .i64 (b : Int), .int .i64 (r : Int)] rfl rfl (news_cells W1 #[.int .i64 (b : Int), .int .i64 (r : Int)] _ rfl) (by simp [Value.oneCell']) (by decide) ?e3 ?e4 ?e5 (W1.heap.size + 1) ?e6 ?_))
      case e3 => unfold maxLen; omega
      case e4 => omega
      case e5 => have := HM1.out.kw; simp; omega
      case e6 => simp
      intro g cap w6 hown6 hgrow6 hloc6 hlt6
      have hgr : GroD W1 w6 vo (.slice (some ⟨g, 0, none⟩) (lo + 1) cap) := by rw [HVO.out]; exact groD_append hgrow6 hloc6
      have hbxC : w6.heap[P]? = W1.heap[P]? := hgr.block P (by have h1 := HM1.out.box; rw [HH.out.1] at h1; exact (Array.getElem?_eq_some_iff.1 h1).1) (fun e => by have := (HM1.out.op.lt P e).1; have := HM1.out.hk; have := HH.out.1; omega)
      have hMN := WsM.setOp HM1.out hgr (l := s.op ++ [(b, r)]) (by rw [List.length_append, HLO.out, opF_snoc]; simpa using hown6)
      rw [HH.out.1] at hMN
      have hGR : GroS H (H + 4 * (n + 1)) W (w6.setCell ⟨P, 5, none⟩ (.slice (some ⟨g, 0, none⟩) (lo + 1) cap)) vo (.slice (some ⟨g, 0, none⟩) (lo + 1) cap) := by
        refine GroS.trans (b := W1) (v := vo) ?_ (GroS.trans (b := w6) (v := .slice (some ⟨g, 0, none⟩) (lo + 1) cap) (.of_groD hgr) (GroS.store _ _ (by have := HH.out; show H ≤ P ∧ P ≤ _; omega) _))
        rw [← HW1.out]
        exact GroS.store _ _ (by have := HH.out; show H ≤ G3 + 1 + b ∧ G3 + 1 + b ≤ _; omega) _
      have HMN := Lib.hid hMN
      have HGR := Lib.hid hGR
      have r5 := (World.cell?_of_block (a := ⟨P, 5, none⟩) hbxC).trans t5
      have r6 := (World.frozen?_of_block (a := ⟨P, 5, none⟩) hbxC).trans t6
      clear hown6 hgrow6 hloc6 hlt6 hgr hbxC hMN hGR t5 t6
      go_wp2_with fail
      go_end0
      exact ⟨rfl, _, by rw [HS.out]; exact HMN.out, HGR.out⟩
    · rw [hA] at a2
      rw [hph] at q2
      have HS : Hid (atB ph s b r = s) := Lib.hid (by unfold atB; rw [hA, hph]; rfl)
      clear hA hph
      go_wp2_with fail
      go_end0
      exact ⟨rfl, vo, by rw [HS.out]; exact HM.out, GroS.refl _ _ _ _⟩
  · rw [hA] at a2
    have HS : Hid (atB ph s b r = s) := Lib.hid (by unfold atB; rw [hA]; rfl)
    clear hA
    go_wp2_with fail
    go_end0
    exact ⟨rfl, vo, by rw [HS.out]; exact HM.out, GroS.refl _ _ _ _⟩
set_option maxRecDepth 100000 in
set_option maxHeartbeats 8000000 in
theorem atEnd_any (Wa : World) (H Ga n R K : Nat) (W : World) (vo : Value) (mk ph : Nat → Nat → Bool) (s : LvS) (h : WsM Wa H Ga n R K W vo mk ph s) (hf : FewS n R s) (hn : n ≤ 64) (hR : R ≤ 256) (b r : Nat) (hb : b < n) (hr : r < R) :
    Calls Try.prog 74 #[.pointer (some ⟨H + 4 * (n + 1), 0, none⟩), .int .i64 (b : Int), .int .i64 (r : Int)] W (ToldW Wa H Ga n R K W vo mk ph (atE mk ph s b r)) := by
  obtain ⟨P, hP⟩ : ∃ P, H + 4 * (n + 1) = P := ⟨_, rfl⟩
  obtain ⟨G4, hG4⟩ : ∃ G4, H + 3 * (n + 1) = G4 := ⟨_, rfl⟩
  obtain ⟨p0, p1, p2, p3, p4, p5, p6⟩ := h.cells hP
  obtain ⟨a1, a2, a3⟩ := h.g4.at_ hb hr
  rw [hG4] at a1 a2 a3 p4
  have HM := Lib.hid h
  have HF := Lib.hid hf
  have HH := Lib.hid (And.intro hP hG4)
  have hPG : G4 < P ∧ G4 + 1 + b < P := by omega
  obtain ⟨hPG1, hPG2⟩ := hPG
  have hb0 : (0 : Int) ≤ b := by omega
  have hb1 : (b : Int) < n := by omega
  have hr0 : (0 : Int) ≤ r := by omega
  have hr1 : (r : Int) < R := by omega
  rw [hP]
  cases hE : s.E b r
  · rw [hE] at a2
    obtain ⟨W1, hW1⟩ : ∃ W1, W.setCell ⟨G4 + 1 + b, r, none⟩ (.bool true) = W1 := ⟨_, rfl⟩
    have hM1 : WsM Wa H Ga n R K W1 vo mk ph ⟨s.A, setB s.E b r, s.op⟩ := by rw [← hW1, ← hG4]; exact h.setE r hb
    have hF1 : FewS n R ⟨s.A, setB s.E b r, s.op⟩ := hf
    obtain ⟨-, t1, -⟩ := hM1.cells hP
    obtain ⟨q1, q2, -⟩ := hM1.g1.at_ hb hr
    have HM1 := Lib.hid hM1
    have HG1 : Hid (GroS H (H + 4 * (n + 1)) W W1 vo vo) := Lib.hid (by rw [← hW1]; exact GroS.store _ _ (by show H ≤ G4 + 1 + b ∧ G4 + 1 + b ≤ _; omega) _)
    cases hmk : mk b r
    · rw [hmk] at q2
      have hcl := atBeginning_any Wa H Ga n R K W1 vo mk ph ⟨s.A, setB s.E b r, s.op⟩ hM1 hF1 hn hR b r hb hr
      rw [hP] at hcl
      have HCL := Lib.hid hcl
      have HS : Hid (atE mk ph s b r = atB ph ⟨s.A, setB s.E b r, s.op⟩ b r) := Lib.hid (by unfold atE; rw [if_neg (by rw [hE]; simp), if_neg (by rw [hmk]; simp)])
      clear h hf hP hG4 hE hmk hM1 hF1 hcl p0 p1 p2 p3 p5 p6
      go_enter Try.func74, Try.ntmps74
      go_wp2_with (first | rw [hW1] | (go_at_call 57; refine HCL.out.mono ?_; rintro e w2 ⟨rfl, vo', hM2, hG2⟩))
      go_end0
      exact ⟨rfl, vo', by rw [HS.out]; exact hM2, HG1.out.trans hG2⟩
    · rw [hmk] at q2
      have HS : Hid (atE mk ph s b r = ⟨s.A, setB s.E b r, s.op⟩) := Lib.hid (by unfold atE; rw [if_neg (by rw [hE]; simp), if_pos hmk])
      clear h hf hP hG4 hE hmk hM1 hF1 p0 p1 p2 p3 p5 p6
      go_enter Try.func74, Try.ntmps74
      go_wp2_with (rw [hW1])
      go_end0
      exact ⟨rfl, vo, by rw [HS.out]; exact HM1.out, HG1.out⟩
  · rw [hE] at a2
    have HS : Hid (atE mk ph s b r = s) := Lib.hid (by unfold atE; rw [if_pos hE])
    clear h hf hP hG4 hE p0 p1 p2 p3 p5 p6
    go_enter Try.func74, Try.ntmps74
    go_wp2_with fail
    go_end0
    exact ⟨rfl, vo, by rw [HS.out]; exact HM.out, GroS.refl _ _ _ _⟩
end Go.Proofs.Ytflbooopgjgkbaa
