/- The search for rings, in memory. -/
import Derived.Test.YtdfiflbkamhchaaCaMJ
import Derived.Test.YtdfiflbkamhchaaAheadGJ
namespace Go.Proofs.Ytdfiflbkamhchaa
open Go.ChangeShapes Go.WideShapes Go.RowKit Go.Deep
set_option linter.unusedVariables false

def natV (l : List Nat) : List Value := l.map fun y : Nat => .int .i64 (y : Int)
def natI (l : List Nat) : List Int := l.map fun y : Nat => (y : Int)
theorem natI_v (l : List Nat) : (natI l).map (Value.int .i64) = natV l := by unfold natI natV; rw [List.map_map]; rfl
theorem natV_len (l : List Nat) : (natV l).length = l.length := List.length_map _
theorem natI_len (l : List Nat) : (natI l).length = l.length := List.length_map _
theorem natV_snoc (l : List Nat) (x : Nat) : natV (l ++ [x]) = natV l ++ [.int .i64 (x : Int)] := by unfold natV; rw [List.map_append]; rfl
def caR (l : List Nat) : RowD := ⟨3, 1, l.length, natV l⟩

structure TsM (Wa : World) (H n K L C F P cl : Nat) (W : World) (lv : Nat → Value) (m : Nat) (U : Nat → Value) (T : Nat → RowD) (s : TsS) : Prop where
  hz : Wa.heap.size = H
  nb : (H ≤ L ∧ L < K) ∧ (H ≤ C ∧ C < K) ∧ (H ≤ F ∧ F < K) ∧ H ≤ P ∧ P < K
  ne : L ≠ C ∧ L ≠ F ∧ L ≠ P ∧ C ≠ F ∧ C ≠ P ∧ F ≠ P
  nl : n ≤ cl ∧ cl ≤ maxLen
  box : W.heap[P]? = some (.cells #[.slice (some ⟨L, 0, none⟩) n cl, .slice (some ⟨C, 0, none⟩) n n, .slice (some ⟨F, 0, none⟩) n n, U 0, U 1, .int .i64 (s.many : Int), U 2] 107)
  lr : W.rowIs L 34 cl lv
  lq : ∀ f, f < n → VS Wa 1 RInt (lv f) (natI (s.left f))
  cr : W.rowIs C 3 n (fun f => .int .i64 (s.come f : Int))
  fr : W.rowIs F 3 n (fun f => .int .i64 (s.first f : Int))
  pool : PoolD W K m U T
  mm : 3 + s.rings.length ≤ m
  t0 : T 0 = caR s.way
  t1 : T 1 = caR s.op
  t2 : T 2 = ⟨34, 1, s.rings.length, (List.range s.rings.length).map fun i => U (3 + i)⟩
  t3 : ∀ i r, s.rings[i]? = some r → T (3 + i) = caR r
  bel : Below H Wa W
  kw : K ≤ W.heap.size

section
variable {Wa : World} {H n K L C F P cl : Nat} {W : World} {lv : Nat → Value} {m : Nat} {U : Nat → Value} {T : Nat → RowD} {s : TsS}
theorem TsM.below {W' : World} (h : TsM Wa H n K L C F P cl W lv m U T s) (hb : Below W.heap.size W W') : TsM Wa H n K L C F P cl W' lv m U T s := by
  have hk : ∀ y, y < K → W'.heap[y]? = W.heap[y]? := fun y hy => hb.block y (by have := h.kw; omega)
  have := h.nb
  exact ⟨h.hz, h.nb, h.ne, h.nl, (hk P (by omega)).trans h.box, h.lr.of_block (hk L (by omega)), h.lq, h.cr.of_block (hk C (by omega)), h.fr.of_block (hk F (by omega)),
    h.pool.go fun y _ hy => hb.block y hy, h.mm, h.t0, h.t1, h.t2, h.t3, h.bel.trans (hb.mono (by have := h.kw; omega)), Nat.le_trans h.kw hb.size⟩
/-- The box's cells. -/
theorem TsM.cells (h : TsM Wa H n K L C F P cl W lv m U T s) :
    W.cell? ⟨P, 0, none⟩ = some (.slice (some ⟨L, 0, none⟩) n cl) ∧ W.cell? ⟨P, 1, none⟩ = some (.slice (some ⟨C, 0, none⟩) n n) ∧ W.cell? ⟨P, 2, none⟩ = some (.slice (some ⟨F, 0, none⟩) n n) ∧ W.cell? ⟨P, 3, none⟩ = some (U 0) ∧
    W.cell? ⟨P, 4, none⟩ = some (U 1) ∧ W.cell? ⟨P, 5, none⟩ = some (.int .i64 (s.many : Int)) ∧ W.cell? ⟨P, 6, none⟩ = some (U 2) ∧ ∀ i, W.frozen? ⟨P, i, none⟩ = false := by
  have hb := h.box
  simp [World.cell?, World.frozen?, hb]
theorem TsM.lt (h : TsM Wa H n K L C F P cl W lv m U T s) : L < W.heap.size ∧ C < W.heap.size ∧ F < W.heap.size ∧ P < W.heap.size := by
  have := h.nb; have := h.kw; omega
/-- A store into one of its own blocks: what else is there stays. -/
theorem TsM.pool_set (h : TsM Wa H n K L C F P cl W lv m U T s) {p : Addr} (hp : p.block < K) (u : Value) : PoolD (W.setCell p u) K m U T :=
  h.pool.go fun y hy _ => Below.heap_setCell _ _ _ _ (by omega)
theorem TsM.setCome (h : TsM Wa H n K L C F P cl W lv m U T s) (f v : Nat) : TsM Wa H n K L C F P cl (W.setCell ⟨C, f, none⟩ (.int .i64 (v : Int))) lv m U T { s with come := updN s.come f v } := by
  have hs : ∀ y, y ≠ C → (W.setCell ⟨C, f, none⟩ (.int .i64 (v : Int))).heap[y]? = W.heap[y]? := fun y hy => Below.heap_setCell _ _ _ _ hy
  have h1 := h.nb
  have h2 := h.ne
  refine ⟨h.hz, h.nb, h.ne, h.nl, (hs P (by omega)).trans h.box, h.lr.of_block (hs L (by omega)), h.lq, (h.cr.set f _).congr fun x _ => ?_, h.fr.of_block (hs F (by omega)), h.pool_set (by show C < K; omega) _, h.mm, h.t0, h.t1, h.t2, h.t3,
    h.bel.setCell (by show H ≤ C; omega) _, by have := h.kw; simpa using this⟩
  show _ = Value.int .i64 ((updN s.come f v x : Nat) : Int)
  by_cases e : x = f
  · subst e; simp [updN]
  · simp [updN, e]
theorem TsM.setFirst (h : TsM Wa H n K L C F P cl W lv m U T s) (f v : Nat) : TsM Wa H n K L C F P cl (W.setCell ⟨F, f, none⟩ (.int .i64 (v : Int))) lv m U T { s with first := updN s.first f v } := by
  have hs : ∀ y, y ≠ F → (W.setCell ⟨F, f, none⟩ (.int .i64 (v : Int))).heap[y]? = W.heap[y]? := fun y hy => Below.heap_setCell _ _ _ _ hy
  have h1 := h.nb
  have h2 := h.ne
  refine ⟨h.hz, h.nb, h.ne, h.nl, (hs P (by omega)).trans h.box, h.lr.of_block (hs L (by omega)), h.lq, h.cr.of_block (hs C (by omega)), (h.fr.set f _).congr fun x _ => ?_, h.pool_set (by show F < K; omega) _, h.mm, h.t0, h.t1, h.t2, h.t3,
    h.bel.setCell (by show H ≤ F; omega) _, by have := h.kw; simpa using this⟩
  show _ = Value.int .i64 ((updN s.first f v x : Nat) : Int)
  by_cases e : x = f
  · subst e; simp [updN]
  · simp [updN, e]
theorem TsM.setLeft (h : TsM Wa H n K L C F P cl W lv m U T s) {f : Nat} {v : Value} {l : List Nat} (hv : VS Wa 1 RInt v (natI l)) : TsM Wa H n K L C F P cl (W.setCell ⟨L, f, none⟩ v) (updN lv f v) m U T (dropS s f l) := by
  have hs : ∀ y, y ≠ L → (W.setCell ⟨L, f, none⟩ v).heap[y]? = W.heap[y]? := fun y hy => Below.heap_setCell _ _ _ _ hy
  have h1 := h.nb
  have h2 := h.ne
  refine ⟨h.hz, h.nb, h.ne, h.nl, (hs P (by omega)).trans h.box, (h.lr.set f _).congr fun x _ => ?_, fun x hx => ?_, h.cr.of_block (hs C (by omega)), h.fr.of_block (hs F (by omega)), h.pool_set (by show L < K; omega) _, h.mm, h.t0, h.t1, h.t2, h.t3,
    h.bel.setCell (by show H ≤ L; omega) _, by have := h.kw; simpa using this⟩
  · by_cases e : x = f
    · subst e; simp [updN]
    · simp [updN, e]
  · show VS Wa 1 RInt (updN lv f v x) (natI (updN s.left f l x))
    by_cases e : x = f
    · subst e; rw [updN_here, updN_here]; exact hv
    · rw [updN_else _ _ e, updN_else _ _ e]; exact h.lq x hx
theorem TsM.setMany (h : TsM Wa H n K L C F P cl W lv m U T s) (v : Nat) : TsM Wa H n K L C F P cl (W.setCell ⟨P, 5, none⟩ (.int .i64 (v : Int))) lv m U T { s with many := v } := by
  have hs : ∀ y, y ≠ P → (W.setCell ⟨P, 5, none⟩ (.int .i64 (v : Int))).heap[y]? = W.heap[y]? := fun y hy => Below.heap_setCell _ _ _ _ hy
  have h1 := h.nb
  have h2 := h.ne
  refine ⟨h.hz, h.nb, h.ne, h.nl, ?_, h.lr.of_block (hs L (by omega)), h.lq, h.cr.of_block (hs C (by omega)), h.fr.of_block (hs F (by omega)), h.pool_set (by show P < K; omega) _, h.mm, h.t0, h.t1, h.t2, h.t3,
    h.bel.setCell (by show H ≤ P; omega) _, by have := h.kw; simpa using this⟩
  have hbx := h.box
  simp [World.setCell, Array.getElem?_modify, hbx]
/-- What all changes of rows share. -/
theorem TsM.rows_ {W7 : World} {t : Nat} {v' : Value} (h : TsM Wa H n K L C F P cl W lv m U T s) (ht : t < m) (hg : GroD W W7 (U t) v') : (∀ y, y < K → W7.heap[y]? = W.heap[y]?) ∧ Below H Wa W7 ∧ K ≤ W7.heap.size := by
  have h1 := h.nb
  have hno : ∀ y, y < K → W7.heap[y]? = W.heap[y]? := fun y hy => hg.block y (by have := h.kw; omega) (fun e => by have := ((h.pool.own t ht).lt y e).1; omega)
  have hf : Below H W W7 := ⟨hg.os, hg.tape, hg.output, hg.size, fun y hy => hno y (by omega)⟩
  exact ⟨hno, h.bel.trans hf, Nat.le_trans h.kw hg.size⟩
/-- The way has turned, and the box holds it. -/
theorem TsM.way {W7 : World} {v' : Value} {l : List Nat} (h : TsM Wa H n K L C F P cl W lv m U T s) (hg : GroD W W7 (U 0) v') (ho : OwnD W7 K v' (caR l)) :
    TsM Wa H n K L C F P cl (W7.setCell ⟨P, 3, none⟩ v') lv m (updF U 0 v') (updF T 0 (caR l)) { s with way := l } := by
  have hm := h.mm
  have h1 := h.nb
  have h2 := h.ne
  obtain ⟨hno, hb, hk⟩ := h.rows_ (by omega) hg
  have hs : ∀ y, y ≠ P → (W7.setCell ⟨P, 3, none⟩ v').heap[y]? = W7.heap[y]? := fun y hy => Below.heap_setCell _ _ _ _ hy
  have hbx := (hno P (by omega)).trans h.box
  refine ⟨h.hz, h.nb, h.ne, h.nl, ?_, h.lr.of_block ((hs L (by omega)).trans (hno L (by omega))), h.lq, h.cr.of_block ((hs C (by omega)).trans (hno C (by omega))), h.fr.of_block ((hs F (by omega)).trans (hno F (by omega))),
    (h.pool.gro (by omega) hg ho).go fun y hy _ => hs y (by omega), h.mm, updF_here _ _ _, ?_, ?_, fun i r hi => ?_, hb.setCell (by show H ≤ P; omega) _, by simpa using hk⟩
  · rw [updF_here, updF_else _ _ (by decide), updF_else _ _ (by decide)]
    simp [World.setCell, Array.getElem?_modify, hbx]
  · rw [updF_else _ _ (by decide)]; exact h.t1
  · rw [updF_else _ _ (by decide), h.t2]
    congr 1
    exact List.map_congr_left fun i _ => (updF_else _ _ (by omega)).symm
  · rw [updF_else _ _ (by omega)]; exact h.t3 i r hi
/-- What is open has turned. -/
theorem TsM.open_ {W7 : World} {v' : Value} {l : List Nat} (h : TsM Wa H n K L C F P cl W lv m U T s) (hg : GroD W W7 (U 1) v') (ho : OwnD W7 K v' (caR l)) :
    TsM Wa H n K L C F P cl (W7.setCell ⟨P, 4, none⟩ v') lv m (updF U 1 v') (updF T 1 (caR l)) { s with op := l } := by
  have hm := h.mm
  have h1 := h.nb
  have h2 := h.ne
  obtain ⟨hno, hb, hk⟩ := h.rows_ (by omega) hg
  have hs : ∀ y, y ≠ P → (W7.setCell ⟨P, 4, none⟩ v').heap[y]? = W7.heap[y]? := fun y hy => Below.heap_setCell _ _ _ _ hy
  have hbx := (hno P (by omega)).trans h.box
  refine ⟨h.hz, h.nb, h.ne, h.nl, ?_, h.lr.of_block ((hs L (by omega)).trans (hno L (by omega))), h.lq, h.cr.of_block ((hs C (by omega)).trans (hno C (by omega))), h.fr.of_block ((hs F (by omega)).trans (hno F (by omega))),
    (h.pool.gro (by omega) hg ho).go fun y hy _ => hs y (by omega), h.mm, ?_, updF_here _ _ _, ?_, fun i r hi => ?_, hb.setCell (by show H ≤ P; omega) _, by simpa using hk⟩
  · rw [updF_here, updF_else _ _ (by decide), updF_else _ _ (by decide)]
    simp [World.setCell, Array.getElem?_modify, hbx]
  · rw [updF_else _ _ (by decide)]; exact h.t0
  · rw [updF_else _ _ (by decide), h.t2]
    congr 1
    exact List.map_congr_left fun i _ => (updF_else _ _ (by omega)).symm
  · rw [updF_else _ _ (by omega)]; exact h.t3 i r hi
/-- A row of the caller's own has turned, beside all. -/
theorem TsM.side {W7 : World} {v' : Value} {t : Nat} {r : RowD} (h : TsM Wa H n K L C F P cl W lv m U T s) (ht : t < m) (ht2 : 3 + s.rings.length ≤ t) (hg : GroD W W7 (U t) v') (ho : OwnD W7 K v' r) :
    TsM Wa H n K L C F P cl W7 lv m (updF U t v') (updF T t r) s := by
  have h1 := h.nb
  obtain ⟨hno, hb, hk⟩ := h.rows_ ht hg
  refine ⟨h.hz, h.nb, h.ne, h.nl, ?_, h.lr.of_block (hno L (by omega)), h.lq, h.cr.of_block (hno C (by omega)), h.fr.of_block (hno F (by omega)), h.pool.gro ht hg ho, h.mm, ?_, ?_, ?_, fun i r hi => ?_, hb, hk⟩
  · rw [updF_else _ _ (by omega), updF_else _ _ (by omega), updF_else _ _ (by omega)]
    exact (hno P (by omega)).trans h.box
  · rw [updF_else _ _ (by omega)]; exact h.t0
  · rw [updF_else _ _ (by omega)]; exact h.t1
  · rw [updF_else _ _ (by omega), h.t2]
    congr 1
    exact List.map_congr_left fun i hi => (updF_else _ _ (by have := List.mem_range.1 hi; omega)).symm
  · have := (List.getElem?_eq_some_iff.1 hi).1
    rw [updF_else _ _ (by omega)]; exact h.t3 i r hi
/-- One row more beside all, with nothing in it. -/
theorem TsM.more (h : TsM Wa H n K L C F P cl W lv m U T s) : TsM Wa H n K L C F P cl W lv (m + 1) (updF U m (.slice none 0 0)) (updF T m (caR [])) s := by
  have hm := h.mm
  refine ⟨h.hz, h.nb, h.ne, h.nl, ?_, h.lr, h.lq, h.cr, h.fr, h.pool.more 3 1, by omega, ?_, ?_, ?_, fun i r hi => ?_, h.bel, h.kw⟩
  · rw [updF_else _ _ (by omega), updF_else _ _ (by omega), updF_else _ _ (by omega)]; exact h.box
  · rw [updF_else _ _ (by omega)]; exact h.t0
  · rw [updF_else _ _ (by omega)]; exact h.t1
  · rw [updF_else _ _ (by omega), h.t2]
    congr 1
    exact List.map_congr_left fun i hi => (updF_else _ _ (by have := List.mem_range.1 hi; omega)).symm
  · have := (List.getElem?_eq_some_iff.1 hi).1
    rw [updF_else _ _ (by omega)]; exact h.t3 i r hi
/-- The row that stands next beside all becomes a ring. -/
theorem TsM.ring {W7 : World} {v' : Value} {r : List Nat} (h : TsM Wa H n K L C F P cl W lv m U T s) (hr : T (3 + s.rings.length) = caR r) (hm2 : 3 + s.rings.length < m) (hg : GroD W W7 (U 2) v')
    (ho : W7.ownsRow K 34 1 v' (s.rings.length + 1) ((List.range s.rings.length).map (fun i => U (3 + i)) ++ [U (3 + s.rings.length)])) :
    TsM Wa H n K L C F P cl (W7.setCell ⟨P, 6, none⟩ v') lv m (updF U 2 v') (updF T 2 ⟨34, 1, s.rings.length + 1, (List.range (s.rings.length + 1)).map fun i => U (3 + i)⟩) { s with rings := s.rings ++ [r] } := by
  have h1 := h.nb
  have h2 := h.ne
  obtain ⟨hno, hb, hk⟩ := h.rows_ (by omega) hg
  have hs : ∀ y, y ≠ P → (W7.setCell ⟨P, 6, none⟩ v').heap[y]? = W7.heap[y]? := fun y hy => Below.heap_setCell _ _ _ _ hy
  have hbx := (hno P (by omega)).trans h.box
  have hsn : (List.range s.rings.length).map (fun i => U (3 + i)) ++ [U (3 + s.rings.length)] = (List.range (s.rings.length + 1)).map fun i => U (3 + i) := by
    rw [List.range_succ, List.map_append]; rfl
  rw [hsn] at ho
  have hpl := h.pool.gro (t := 2) (by omega) hg (r := ⟨34, 1, s.rings.length + 1, (List.range (s.rings.length + 1)).map fun i => U (3 + i)⟩) ho
  refine ⟨h.hz, h.nb, h.ne, h.nl, ?_, h.lr.of_block ((hs L (by omega)).trans (hno L (by omega))), h.lq, h.cr.of_block ((hs C (by omega)).trans (hno C (by omega))), h.fr.of_block ((hs F (by omega)).trans (hno F (by omega))),
    hpl.go fun y hy _ => hs y (by omega), by simp; omega, ?_, ?_, ?_, fun i q hi => ?_, hb.setCell (by show H ≤ P; omega) _, by simpa using hk⟩
  · rw [updF_here, updF_else _ _ (by decide), updF_else _ _ (by decide)]
    simp [World.setCell, Array.getElem?_modify, hbx]
  · rw [updF_else _ _ (by decide)]; exact h.t0
  · rw [updF_else _ _ (by decide)]; exact h.t1
  · rw [updF_here]
    have e1 : (s.rings ++ [r]).length = s.rings.length + 1 := by simp
    show RowD.mk _ _ _ _ = RowD.mk _ _ (s.rings ++ [r]).length ((List.range (s.rings ++ [r]).length).map _)
    rw [e1]
    congr 1
    exact List.map_congr_left fun i hi => (updF_else _ _ (by omega)).symm
  · rw [updF_else _ _ (by omega)]
    have hi' : (s.rings ++ [r])[i]? = some q := hi
    rcases Nat.lt_or_ge i s.rings.length with k | k
    · rw [List.getElem?_append_left k] at hi'; exact h.t3 i q hi'
    · rw [List.getElem?_append_right k] at hi'
      have : i = s.rings.length := by
        have := (List.getElem?_eq_some_iff.1 hi').1
        simp at this; omega
      subst this
      simp at hi'
      rw [← hi']; exact hr
end
end Go.Proofs.Ytdfiflbkamhchaa

/- RgA and waves: what the document says of them, and what comes of the search's rings. -/
namespace Go.Proofs.Ytdfiflbkamhchaa
set_option linter.unusedVariables false

theorem strict_ext {α : Type} (k : α → Nat) : ∀ l l' : List α, l.Pairwise (fun a b => k a < k b) → l'.Pairwise (fun a b => k a < k b) → (∀ x, x ∈ l ↔ x ∈ l') → l = l'
  | [], [], _, _, _ => rfl
  | a :: l, [], _, _, h => by have := (h a).1 (by simp); simp at this
  | [], b :: l, _, _, h => by have := (h b).2 (by simp); simp at this
  | a :: l, b :: l', h1, h2, h => by
    obtain ⟨h3, h4⟩ := List.pairwise_cons.1 h1
    obtain ⟨h5, h6⟩ := List.pairwise_cons.1 h2
    have hab : a = b := by
      rcases List.mem_cons.1 ((h a).1 (by simp)) with k1 | k1
      · exact k1
      · rcases List.mem_cons.1 ((h b).2 (by simp)) with k2 | k2
        · exact k2.symm
        · have := h5 a k1; have := h3 b k2; omega
    subst hab
    rw [strict_ext k l l' h4 h6 (fun x => ⟨fun hx => by
      rcases List.mem_cons.1 ((h x).1 (List.mem_cons_of_mem _ hx)) with k1 | k1
      · have := h3 x hx; rw [k1] at this; omega
      · exact k1, fun hx => by
      rcases List.mem_cons.1 ((h x).2 (List.mem_cons_of_mem _ hx)) with k1 | k1
      · have := h5 x hx; rw [k1] at this; omega
      · exact k1⟩)]

/-! ### Which ring one is in -/
theorem RgO.down {c : Nat → List Nat} {rs : List (List Nat)} (H : RgO c rs) {a b : Nat} (h : CR c a b) : ∀ (i : Nat) (r : List Nat), rs[i]? = some r → a ∈ r → ∃ (j : Nat) (q : List Nat), j ≤ i ∧ rs[j]? = some q ∧ b ∈ q := by
  induction h with
  | refl a => exact fun i r h1 h2 => ⟨i, r, Nat.le_refl _, h1, h2⟩
  | step e _ ih =>
    intro i r h1 h2
    obtain ⟨j, q, h3, h4, h5⟩ := H.cl i r h1 _ h2 _ e
    obtain ⟨k, p, h6, h7, h8⟩ := ih j q h4 h5
    exact ⟨k, p, by omega, h7, h8⟩
theorem RgA.lt {n : Nat} {c : Nat → List Nat} {rs : List (List Nat)} (H : RgA n c rs) {r : List Nat} (hr : r ∈ rs) {f : Nat} (hf : f ∈ r) : f < n := (H.all f).2 ⟨r, hr, hf⟩
theorem RgO.one {c : Nat → List Nat} {rs : List (List Nat)} (H : RgO c rs) {r q : List Nat} (hr : r ∈ rs) (hq : q ∈ rs) {f : Nat} (h1 : f ∈ r) (h2 : f ∈ q) : r = q := by
  obtain ⟨i, hi, e1⟩ := List.mem_iff_getElem.1 hr
  obtain ⟨j, hj, e2⟩ := List.mem_iff_getElem.1 hq
  have := H.dj i j r q f (by rw [List.getElem?_eq_getElem hi, e1]) (by rw [List.getElem?_eq_getElem hj, e2]) h1 h2
  subst this
  rw [← e1, ← e2]
theorem RgA.mem_iff {n : Nat} {c : Nat → List Nat} {rs : List (List Nat)} (H : RgA n c rs) {r : List Nat} (hr : r ∈ rs) {a b : Nat} (ha : a ∈ r) : b ∈ r ↔ b < n ∧ CR c a b ∧ CR c b a := by
  constructor
  · exact fun h => ⟨H.lt hr h, H.o.cr r hr a ha b h, H.o.cr r hr b h a ha⟩
  · rintro ⟨h1, h2, h3⟩
    obtain ⟨i, hi, e1⟩ := List.mem_iff_getElem.1 hr
    have g1 : rs[i]? = some r := by rw [List.getElem?_eq_getElem hi, e1]
    obtain ⟨j, q, h4, g2, h5⟩ := H.o.down h2 i r g1 ha
    obtain ⟨k, p, h6, g3, h7⟩ := H.o.down h3 j q g2 h5
    have e : k = i := H.o.dj k i p r a g3 g1 h7 ha
    have e2 : j = i := by omega
    subst e2
    rw [g1] at g2
    rw [Option.some.inj g2]; exact h5

/-! ### By their first functions -/
def ringF (n : Nat) (M : Nat → Nat → Bool) (a : Nat) : List Nat := (List.range n).filter (M a)
def docR (n : Nat) (M : Nat → Nat → Bool) : List (List Nat) := ((List.range n).filter fun a => (ringF n M a).headD n == a).map (ringF n M)
def MtOk (n : Nat) (c : Nat → List Nat) (M : Nat → Nat → Bool) : Prop := ∀ a b, a < n → b < n → (M a b = true ↔ CR c a b ∧ CR c b a)
theorem range_sorted (n : Nat) : (List.range n).Pairwise (· < ·) := List.pairwise_lt_range
theorem RgA.ringF_ {n : Nat} {c : Nat → List Nat} {rs : List (List Nat)} {M : Nat → Nat → Bool} (H : RgA n c rs) (hM : MtOk n c M) {r : List Nat} (hr : r ∈ rs) {a : Nat} (ha : a ∈ r) : ringF n M a = r := by
  refine strict_ext id _ _ ((range_sorted n).filter _) (H.o.st r hr) fun b => ?_
  unfold ringF
  rw [List.mem_filter, List.mem_range, H.mem_iff hr ha]
  constructor
  · rintro ⟨h1, h2⟩
    exact ⟨h1, (hM a b (H.lt hr ha) h1).1 h2⟩
  · rintro ⟨h1, h2⟩
    exact ⟨h1, (hM a b (H.lt hr ha) h1).2 h2⟩
def kyR (r : List Nat) : Nat := r.headD 0
theorem kyR_mem {r : List Nat} (h : r ≠ []) : kyR r ∈ r := by
  cases r with
  | nil => exact absurd rfl h
  | cons a l => exact List.mem_cons_self
theorem kyR_n {r : List Nat} (h : r ≠ []) (n : Nat) : r.headD n = kyR r := by
  cases r with
  | nil => exact absurd rfl h
  | cons a l => rfl
theorem docR_mem {n : Nat} {c : Nat → List Nat} {rs : List (List Nat)} {M : Nat → Nat → Bool} (H : RgA n c rs) (hM : MtOk n c M) (r : List Nat) : r ∈ docR n M ↔ r ∈ rs := by
  unfold docR
  rw [List.mem_map]
  constructor
  · rintro ⟨a, ha, rfl⟩
    obtain ⟨h1, h2⟩ := List.mem_filter.1 ha
    obtain ⟨r, hr, h3⟩ := (H.all a).1 (List.mem_range.1 h1)
    rw [H.ringF_ hM hr h3]; exact hr
  · intro hr
    have hk := kyR_mem (H.o.ne r hr)
    have he := H.ringF_ hM hr hk
    refine ⟨kyR r, List.mem_filter.2 ⟨List.mem_range.2 (H.lt hr hk), ?_⟩, he⟩
    rw [he, kyR_n (H.o.ne r hr)]; simp
theorem docR_sorted {n : Nat} {c : Nat → List Nat} {rs : List (List Nat)} {M : Nat → Nat → Bool} (H : RgA n c rs) (hM : MtOk n c M) : (docR n M).Pairwise fun a b => kyR a < kyR b := by
  unfold docR
  rw [List.pairwise_map]
  have kyR_of : ∀ a ∈ (List.range n).filter (fun a => (ringF n M a).headD n == a), kyR (ringF n M a) = a := by
    intro a ha
    obtain ⟨h1, h2⟩ := List.mem_filter.1 ha
    obtain ⟨r, hr, h3⟩ := (H.all a).1 (List.mem_range.1 h1)
    rw [H.ringF_ hM hr h3] at h2 ⊢
    rw [kyR_n (H.o.ne r hr)] at h2
    simpa using h2
  refine ((range_sorted n).filter _).imp_of_mem fun {a b} ha hb h => ?_
  rw [kyR_of a ha, kyR_of b hb]; exact h
/-- RgA that were put in order. -/
structure ByKey (l l' : List (List Nat)) : Prop where
  mem : ∀ r, r ∈ l' ↔ r ∈ l
  len : l'.length = l.length
  st : l'.Pairwise fun a b => kyR a < kyR b
theorem ByKey.docR {n : Nat} {c : Nat → List Nat} {rs l : List (List Nat)} {M : Nat → Nat → Bool} (B : ByKey rs l) (H : RgA n c rs) (hM : MtOk n c M) : l = docR n M :=
  strict_ext kyR _ _ B.st (docR_sorted H hM) fun r => (B.mem r).trans (docR_mem H hM r).symm
theorem ByKey.filter {n : Nat} {c : Nat → List Nat} {rs l : List (List Nat)} {M : Nat → Nat → Bool} {p : List Nat → Bool} (B : ByKey (rs.filter p) l) (H : RgA n c rs) (hM : MtOk n c M) : l = (Go.Proofs.Ytdfiflbkamhchaa.docR n M).filter p :=
  strict_ext kyR _ _ B.st ((docR_sorted H hM).filter _) fun r => by rw [B.mem, List.mem_filter, List.mem_filter, docR_mem H hM]
/-- RgA' first functions are unlike. -/
theorem RgO.keys {c : Nat → List Nat} {rs : List (List Nat)} (H : RgO c rs) {r q : List Nat} (hr : r ∈ rs) (hq : q ∈ rs) (h : kyR r = kyR q) : r = q :=
  H.one hr hq (kyR_mem (H.ne r hr)) (h ▸ kyR_mem (H.ne q hq))

/-! ### Waves -/
def maxL (v : Nat → Nat) (l : List Nat) (m : Nat) : Nat := l.foldl (fun m h => max m (v h)) m
theorem maxL_ge (v : Nat → Nat) : ∀ (l : List Nat) (m : Nat), m ≤ maxL v l m
  | [], m => Nat.le_refl _
  | a :: l, m => Nat.le_trans (Nat.le_max_left _ _) (maxL_ge v l (max m (v a)))
theorem maxL_all (v : Nat → Nat) : ∀ (l : List Nat) (m : Nat), ∀ h ∈ l, v h ≤ maxL v l m
  | [], m, h, hh => by cases hh
  | a :: l, m, h, hh => by
    rcases List.mem_cons.1 hh with k | k
    · rw [k]; exact Nat.le_trans (Nat.le_max_right _ _) (maxL_ge v l (max m (v a)))
    · exact maxL_all v l _ h k
theorem maxL_is (v : Nat → Nat) : ∀ (l : List Nat) (m : Nat), maxL v l m = m ∨ ∃ h ∈ l, maxL v l m = v h
  | [], m => .inl rfl
  | a :: l, m => by
    rcases maxL_is v l (max m (v a)) with k | ⟨h, k1, k2⟩
    · by_cases e : v a ≤ m
      · left; show maxL v l (max m (v a)) = m; rw [k]; omega
      · right; exact ⟨a, by simp, by show maxL v l (max m (v a)) = v a; rw [k]; omega⟩
    · right; exact ⟨h, List.mem_cons_of_mem _ k1, k2⟩
theorem maxL_snoc (v : Nat → Nat) (l : List Nat) (h m : Nat) : maxL v (l ++ [h]) m = max (maxL v l m) (v h) := by unfold maxL; rw [List.foldl_append]; rfl
theorem maxL_append (v : Nat → Nat) (l k : List Nat) (m : Nat) : maxL v (l ++ k) m = maxL v k (maxL v l m) := by unfold maxL; rw [List.foldl_append]
def ringW (c : Nat → List Nat) (v : Nat → Nat) (r : List Nat) : Nat := maxL v (r.flatMap c) 0
def wvS (c : Nat → List Nat) (v : Nat → Nat) (r : List Nat) : Nat → Nat := fun x => if x ∈ r then ringW c v r + 1 else v x
def wsS (ws : List (List (List Nat))) (w : Nat) (r : List Nat) : List (List (List Nat)) := if w = ws.length then ws ++ [[r]] else ws.set w ((ws[w]?).getD [] ++ [r])

structure WvO (c : Nat → List Nat) (rs : List (List Nat)) (v : Nat → Nat) (ws : List (List (List Nat))) : Prop where
  z : ∀ f, (∀ r ∈ rs, f ∉ r) → v f = 0
  eq : ∀ r ∈ rs, ∀ f ∈ r, ∀ g ∈ r, v f = v g
  pos : ∀ r ∈ rs, ∀ f ∈ r, 1 ≤ v f ∧ v f ≤ ws.length
  lt : ∀ r ∈ rs, ∀ f ∈ r, ∀ h ∈ c f, h ∉ r → v h < v f
  ex : ∀ r ∈ rs, ∀ f ∈ r, v f = 1 ∨ ∃ f' ∈ r, ∃ h ∈ c f', h ∉ r ∧ v h + 1 = v f
  ws_ : ∀ w, w < ws.length → ws[w]? = some (rs.filter fun r => v (kyR r) == w + 1)
  wn : ∀ w, w < ws.length → ∃ r ∈ rs, v (kyR r) = w + 1
  few : ws.length ≤ rs.length
theorem WvO.nil (c : Nat → List Nat) : WvO c [] (fun _ => 0) [] := ⟨by simp, by simp, by simp, by simp, by simp, by simp, by simp, by simp⟩
theorem WvO.le {c : Nat → List Nat} {rs : List (List Nat)} {v : Nat → Nat} {ws : List (List (List Nat))} (H : WvO c rs v ws) (f : Nat) : v f ≤ ws.length := by
  by_cases h : ∃ r ∈ rs, f ∈ r
  · obtain ⟨r, h1, h2⟩ := h
    exact (H.pos r h1 f h2).2
  · rw [H.z f (fun r h1 h2 => h ⟨r, h1, h2⟩)]; omega
theorem WvO.ring_le {c : Nat → List Nat} {rs : List (List Nat)} {v : Nat → Nat} {ws : List (List (List Nat))} (H : WvO c rs v ws) (r : List Nat) : ringW c v r ≤ ws.length := by
  rcases maxL_is v (r.flatMap c) 0 with k | ⟨h, _, k⟩
  · unfold ringW; rw [k]; omega
  · unfold ringW; rw [k]; exact H.le h
theorem WvO.step {c : Nat → List Nat} {rs : List (List Nat)} {v : Nat → Nat} {ws : List (List (List Nat))} {r : List Nat} (H : WvO c rs v ws) (hc : RgO c (rs ++ [r])) :
    WvO c (rs ++ [r]) (wvS c v r) (wsS ws (ringW c v r) r) := by
  have hr : r ∈ rs ++ [r] := by simp
  have old : ∀ q ∈ rs, ∀ f ∈ q, f ∉ r := by
    intro q hq f hf hfr
    obtain ⟨i, hi, e1⟩ := List.mem_iff_getElem.1 hq
    have := hc.dj i rs.length q r f (by rw [List.getElem?_append_left hi, List.getElem?_eq_getElem hi, e1]) (by rw [List.getElem?_append_right (Nat.le_refl _)]; simp) hf hfr
    omega
  have vo : ∀ f, f ∉ r → wvS c v r f = v f := fun f h => if_neg h
  have vi : ∀ f, f ∈ r → wvS c v r f = ringW c v r + 1 := fun f h => if_pos h
  have voq : ∀ q ∈ rs, ∀ f ∈ q, wvS c v r f = v f := fun q hq f hf => vo f (old q hq f hf)
  have vz : ∀ f ∈ r, v f = 0 := fun f hf => H.z f fun q hq k => old q hq f k hf
  have wle := H.ring_le r
  have hlen : (wsS ws (ringW c v r) r).length = if ringW c v r = ws.length then ws.length + 1 else ws.length := by
    unfold wsS; split
    · simp
    · simp
  have hlw : ws.length ≤ (wsS ws (ringW c v r) r).length ∧ ringW c v r < (wsS ws (ringW c v r) r).length ∧ (wsS ws (ringW c v r) r).length ≤ ws.length + 1 := by rw [hlen]; split <;> omega
  have kr : kyR r ∈ r := kyR_mem (hc.ne r hr)
  have ko : ∀ q ∈ rs, kyR q ∈ q := fun q hq => kyR_mem (hc.ne q (List.mem_append_left _ hq))
  refine ⟨fun f hf => ?_, fun q hq f hf g hg => ?_, fun q hq f hf => ?_, fun q hq f hf h hh hn => ?_, fun q hq f hf => ?_, fun w hw => ?_, fun w hw => ?_, ?_⟩
  · rw [vo f (hf r hr)]; exact H.z f fun q hq => hf q (List.mem_append_left _ hq)
  · rcases List.mem_append.1 hq with k | k
    · rw [voq q k f hf, voq q k g hg]; exact H.eq q k f hf g hg
    · rw [List.mem_singleton.1 k] at hf hg
      rw [vi f hf, vi g hg]
  · rcases List.mem_append.1 hq with k | k
    · rw [voq q k f hf]; have := H.pos q k f hf; omega
    · rw [List.mem_singleton.1 k] at hf
      rw [vi f hf]; omega
  · rcases List.mem_append.1 hq with k | k
    · rw [voq q k f hf]
      by_cases e : h ∈ r
      · exfalso
        obtain ⟨i, hi, e1⟩ := List.mem_iff_getElem.1 k
        obtain ⟨j, p, h3, h4, h5⟩ := hc.cl i q (by rw [List.getElem?_append_left hi, List.getElem?_eq_getElem hi, e1]) f hf h hh
        rw [List.getElem?_append_left (by omega)] at h4
        exact old p (List.mem_of_getElem? h4) h h5 e
      · rw [vo h e]; exact H.lt q k f hf h hh hn
    · rw [List.mem_singleton.1 k] at hf hn
      rw [vi f hf, vo h hn]
      have : v h ≤ ringW c v r := maxL_all v _ 0 h (List.mem_flatMap.2 ⟨f, hf, hh⟩)
      omega
  · rcases List.mem_append.1 hq with k | k
    · rw [voq q k f hf]
      rcases H.ex q k f hf with h | ⟨f', h1, h, h2, h3, h4⟩
      · exact .inl h
      · refine .inr ⟨f', h1, h, h2, h3, ?_⟩
        by_cases e : h ∈ r
        · exfalso
          obtain ⟨i, hi, e1⟩ := List.mem_iff_getElem.1 k
          obtain ⟨j, p, h5, h6, h7⟩ := hc.cl i q (by rw [List.getElem?_append_left hi, List.getElem?_eq_getElem hi, e1]) f' h1 h h2
          rw [List.getElem?_append_left (by omega)] at h6
          exact old p (List.mem_of_getElem? h6) h h7 e
        · rw [vo h e]; exact h4
    · rw [List.mem_singleton.1 k] at hf ⊢
      rw [vi f hf]
      rcases maxL_is v (r.flatMap c) 0 with e | ⟨h, h1, h2⟩
      · left; unfold ringW; rw [e]
      · obtain ⟨f', h3, h4⟩ := List.mem_flatMap.1 h1
        by_cases e : h ∈ r
        · left; unfold ringW; rw [h2, vz h e]
        · right; exact ⟨f', h3, h, h4, e, by rw [vo h e]; unfold ringW; rw [h2]⟩
  · have hfl : (rs.filter fun q => wvS c v r (kyR q) == w + 1) = rs.filter fun q => v (kyR q) == w + 1 := by
      refine List.filter_congr fun q hq => ?_
      rw [voq q hq _ (ko q hq)]
    rw [List.filter_append, hfl]
    have hsing : ([r].filter fun q => wvS c v r (kyR q) == w + 1) = if ringW c v r = w then [r] else [] := by
      rw [List.filter_cons, vi _ kr, List.filter_nil]
      by_cases e : ringW c v r = w
      · simp [e]
      · have : (ringW c v r + 1 == w + 1) = false := by simp; exact e
        rw [this, if_neg e]; rfl
    rw [hsing]
    unfold wsS
    by_cases e : ringW c v r = ws.length
    · rw [if_pos e]
      rw [hlen, if_pos e] at hw
      by_cases e2 : w < ws.length
      · rw [List.getElem?_append_left e2, H.ws_ w e2, if_neg (by omega), List.append_nil]
      · have e3 : w = ws.length := by omega
        subst e3
        rw [List.getElem?_append_right (Nat.le_refl _), if_pos e]
        have : (rs.filter fun q => v (kyR q) == ws.length + 1) = [] := by
          rw [List.filter_eq_nil_iff]
          intro q hq k
          have := (H.pos q hq _ (ko q hq)).2
          have := beq_iff_eq.1 k
          omega
        rw [this]; simp
    · rw [if_neg e]
      rw [hlen, if_neg e] at hw
      by_cases e2 : ringW c v r = w
      · rw [if_pos e2, ← e2, List.getElem?_set_self (by omega), e2, H.ws_ w hw]; rfl
      · rw [if_neg e2, List.getElem?_set_ne e2, H.ws_ w hw, List.append_nil]
  · by_cases e : w = ringW c v r
    · exact ⟨r, hr, by rw [vi _ kr, e]⟩
    · obtain ⟨q, h1, h2⟩ := H.wn w (by rw [hlen] at hw; split at hw <;> omega)
      exact ⟨q, List.mem_append_left _ h1, by rw [voq q h1 _ (ko q h1)]; exact h2⟩
  · rw [hlen, List.length_append]; have := H.few; simp; split <;> omega
end Go.Proofs.Ytdfiflbkamhchaa

/- Which functions call which: mathematics, and the program's rows in memory. -/
namespace Go.Proofs.Ytdfiflbkamhchaa
open Go.ChangeShapes Go.WideShapes Go.RowKit Go.Deep
set_option linter.unusedVariables false

/-- An instruction that calls a function of so many: its number. -/
def isC (n : Nat) (x : InsD) : Prop := x.op = 17 ∧ 0 ≤ x.fn ∧ x.fn < n
instance (n : Nat) (x : InsD) : Decidable (isC n x) := by unfold isC; exact inferInstance
def accS (n : Nat) (l : List Nat) (x : InsD) : List Nat := if isC n x ∧ x.fn.toNat ∉ l then l ++ [x.fn.toNat] else l
def accC (n : Nat) (xs : List InsD) : List Nat := xs.foldl (accS n) []
theorem accC_snoc (n : Nat) (xs : List InsD) (x : InsD) : accC n (xs ++ [x]) = accS n (accC n xs) x := by unfold accC; rw [List.foldl_append]; rfl
theorem snocInd {α : Type} {p : List α → Prop} (h0 : p []) (h1 : ∀ l x, p l → p (l ++ [x])) (l : List α) : p l := by
  have h : ∀ l : List α, p l.reverse := by
    intro l
    induction l with
    | nil => exact h0
    | cons a l ih => rw [List.reverse_cons]; exact h1 _ _ ih
  have := h l.reverse
  rwa [List.reverse_reverse] at this
theorem accC_mem {n : Nat} {g : Nat} : ∀ {xs : List InsD}, g ∈ accC n xs ↔ g < n ∧ ∃ x ∈ xs, x.op = 17 ∧ x.fn = (g : Int) := by
  intro xs
  refine snocInd (p := fun xs => g ∈ accC n xs ↔ g < n ∧ ∃ x ∈ xs, x.op = 17 ∧ x.fn = (g : Int)) ?_ ?_ xs
  · simp [accC]
  · intro xs x ih
    rw [accC_snoc]
    unfold accS
    constructor
    · intro h
      split at h
      · rename_i hc
        obtain ⟨⟨h1, h2, h3⟩, h4⟩ := hc
        rcases List.mem_append.1 h with h | h
        · obtain ⟨h5, y, h6, h7⟩ := ih.1 h
          exact ⟨h5, y, List.mem_append_left _ h6, h7⟩
        · have := List.mem_singleton.1 h
          exact ⟨by omega, x, by simp, h1, by omega⟩
      · obtain ⟨h5, y, h6, h7⟩ := ih.1 h
        exact ⟨h5, y, List.mem_append_left _ h6, h7⟩
    · rintro ⟨h1, y, h2, h3, h4⟩
      have key : g ∈ accC n xs ∨ y = x := by
        rcases List.mem_append.1 h2 with h2 | h2
        · exact .inl (ih.2 ⟨h1, y, h2, h3, h4⟩)
        · exact .inr (List.mem_singleton.1 h2)
      split
      · rcases key with k | k
        · exact List.mem_append_left _ k
        · subst k; exact List.mem_append_right _ (by simp; omega)
      · rename_i hc
        rcases key with k | k
        · exact k
        · subst k
          refine Decidable.byContradiction fun q => hc ⟨⟨h3, by omega, by omega⟩, ?_⟩
          rw [show y.fn.toNat = g by omega]; exact q
theorem accC_nodup (n : Nat) (xs : List InsD) : (accC n xs).Nodup := by
  refine snocInd (p := fun xs => (accC n xs).Nodup) ?_ ?_ xs
  · simp [accC]
  · intro xs x ih
    rw [accC_snoc]
    unfold accS
    split
    · rename_i hc
      rw [List.nodup_append]
      refine ⟨ih, by simp, fun a ha b hb e => ?_⟩
      rw [List.mem_singleton.1 hb] at e
      subst e
      exact hc.2 ha
    · exact ih
theorem accC_lt {n : Nat} {xs : List InsD} {g : Nat} (h : g ∈ accC n xs) : g < n := (accC_mem.1 h).1
theorem nodup_lt : ∀ {n : Nat} {l : List Nat}, l.Nodup → (∀ x ∈ l, x < n) → l.length ≤ n := by
  intro n
  induction n with
  | zero =>
    intro l _ h
    cases l with
    | nil => simp
    | cons a l => have := h a (by simp); omega
  | succ n ih =>
    intro l hd h
    have h1 : (l.filter fun x => decide (x ≠ n)).length ≤ n := ih (hd.filter _) fun x hx => by
      obtain ⟨h2, h3⟩ := List.mem_filter.1 hx
      have := h x h2
      have := of_decide_eq_true h3
      omega
    have h2 : ∀ l : List Nat, l.Nodup → l.length ≤ (l.filter fun x => decide (x ≠ n)).length + 1 := by
      intro l
      induction l with
      | nil => intro _; simp
      | cons a l ih2 =>
        intro hd
        obtain ⟨h3, h4⟩ := List.nodup_cons.1 hd
        by_cases e : a = n
        · subst e
          have h5 : l.filter (fun x => decide (x ≠ a)) = l := List.filter_eq_self.2 fun x hx => by simp; intro e; exact h3 (e ▸ hx)
          rw [List.filter_cons, h5]; simp
        · rw [List.filter_cons, if_pos (by simpa using e)]
          have := ih2 h4
          simp only [List.length_cons]; omega
    have := h2 l hd
    omega
theorem accC_len (n : Nat) (xs : List InsD) : (accC n xs).length ≤ n := nodup_lt (accC_nodup n xs) fun x hx => accC_lt hx

/-- All instructions of a function, and its calls. -/
def insF (f : FunD) : List InsD := f.blocks.flatMap fun b => b.ins
def callB (f : FunD) (g : Nat) : Bool := (insF f).any fun x => decide (x.op = 17 ∧ x.fn = (g : Int))
def cF (m : List FunD) (f : Nat) : List Nat := match m[f]? with | some x => (List.range m.length).filter (callB x) | none => []
theorem callB_iff {f : FunD} {g : Nat} : callB f g = true ↔ ∃ x ∈ insF f, x.op = 17 ∧ x.fn = (g : Int) := by
  unfold callB
  rw [List.any_eq_true]
  constructor
  · rintro ⟨x, h1, h2⟩; exact ⟨x, h1, of_decide_eq_true h2⟩
  · rintro ⟨x, h1, h2⟩; exact ⟨x, h1, decide_eq_true h2⟩
theorem cF_lt {m : List FunD} (f g : Nat) (h : g ∈ cF m f) : g < m.length := by
  unfold cF at h
  split at h
  · exact List.mem_range.1 (List.mem_filter.1 h).1
  · cases h
theorem cF_sort {m : List FunD} {f : Nat} {x : FunD} (h : m[f]? = some x) : sortN (accC m.length (insF x)) = cF m f := by
  unfold cF
  rw [h]
  refine strict_ext id _ _ (sortN_sorted (accC_nodup _ _)) ((range_sorted _).filter _) fun g => ?_
  rw [sortN_mem, accC_mem, List.mem_filter, List.mem_range, callB_iff]
theorem cF_len (m : List FunD) (f : Nat) : (cF m f).length ≤ m.length := by
  unfold cF
  split
  · rename_i x _
    have := List.length_filter_le (callB x) (List.range m.length)
    rw [List.length_range] at this; exact this
  · simp

/-! ### The rows -/
structure CpM (w : World) (n : Nat) (vm : Value) (V : Nat → Value) (C : Nat → List Nat) (LA : Nat → Nat) (wq : World) : Prop where
  bel : Below w.heap.size w wq
  bx : wq.cell? ⟨w.heap.size, 0, none⟩ = some vm
  gr : wq.rowIs (w.heap.size + 1) 34 n V
  la : wq.rowIs (w.heap.size + 2) 3 n (fun g => .int .i64 (LA g : Int))
  pool : PoolD wq (w.heap.size + 3) n V (fun i => caR (C i))
  kw : w.heap.size + 3 ≤ wq.heap.size
section
variable {w wq : World} {n : Nat} {vm : Value} {V : Nat → Value} {C : Nat → List Nat} {LA : Nat → Nat}
theorem CpM.below {w' : World} (h : CpM w n vm V C LA wq) (hb : Below wq.heap.size wq w') : CpM w n vm V C LA w' := by
  have := h.kw
  exact ⟨h.bel.trans (hb.mono (by omega)), (hb.cell (p := ⟨w.heap.size, 0, none⟩) (by show w.heap.size < _; omega)).trans h.bx, h.gr.of_block (hb.block _ (by omega)), h.la.of_block (hb.block _ (by omega)), h.pool.go fun k _ hk => hb.block k hk, by have := hb.size; omega⟩
theorem CpM.setLa (h : CpM w n vm V C LA wq) (g v : Nat) : CpM w n vm V C (updN LA g v) (wq.setCell ⟨w.heap.size + 2, g, none⟩ (.int .i64 (v : Int))) := by
  have hs : ∀ y, y ≠ w.heap.size + 2 → (wq.setCell ⟨w.heap.size + 2, g, none⟩ (.int .i64 (v : Int))).heap[y]? = wq.heap[y]? := fun y hy => Below.heap_setCell _ _ _ _ hy
  refine ⟨h.bel.setCell (by show w.heap.size ≤ w.heap.size + 2; omega) _, (World.cell?_of_block (hs _ (by show w.heap.size ≠ _; omega))).trans h.bx, h.gr.of_block (hs _ (by omega)), (h.la.set g _).congr fun x _ => ?_, h.pool.go fun k hk _ => hs k (by omega), by have := h.kw; simpa using this⟩
  by_cases e : x = g
  · subst e; simp [updN]
  · simp [updN, e]
/-- A row of calls has turned. -/
theorem CpM.row_ {w7 : World} {t : Nat} {v' : Value} {l : List Nat} (h : CpM w n vm V C LA wq) (ht : t < n) (hg : GroD wq w7 (V t) v') (ho : OwnD w7 (w.heap.size + 3) v' (caR l)) :
    (∀ y, y < w.heap.size + 3 → w7.heap[y]? = wq.heap[y]?) ∧ Below w.heap.size w w7 ∧ w.heap.size + 3 ≤ w7.heap.size ∧ PoolD w7 (w.heap.size + 3) n (updN V t v') (fun i => caR (updN C t l i)) := by
  have hk := h.kw
  have hno : ∀ y, y < w.heap.size + 3 → w7.heap[y]? = wq.heap[y]? := fun y hy => hg.block y (by omega) (fun e => by have := ((h.pool.own t ht).lt y e).1; omega)
  have hf : Below w.heap.size wq w7 := ⟨hg.os, hg.tape, hg.output, hg.size, fun y hy => hno y (by omega)⟩
  refine ⟨hno, h.bel.trans hf, by have := hg.size; omega, (h.pool.gro ht hg ho).congr (fun i _ => rfl) fun i _ => ?_⟩
  by_cases e : i = t
  · subst e; rw [updF_here, updN_here]
  · rw [updF_else _ _ e, updN_else _ _ e]
theorem CpM.push {w7 : World} {t : Nat} {v' : Value} {l : List Nat} (h : CpM w n vm V C LA wq) (ht : t < n) (hg : GroD wq w7 (V t) v') (ho : OwnD w7 (w.heap.size + 3) v' (caR l)) :
    CpM w n vm (updN V t v') (updN C t l) LA (w7.setCell ⟨w.heap.size + 1, t, none⟩ v') := by
  obtain ⟨hno, hb, hk, hp⟩ := h.row_ ht hg ho
  have hs : ∀ y, y ≠ w.heap.size + 1 → (w7.setCell ⟨w.heap.size + 1, t, none⟩ v').heap[y]? = w7.heap[y]? := fun y hy => Below.heap_setCell _ _ _ _ hy
  refine ⟨hb.setCell (by show w.heap.size ≤ w.heap.size + 1; omega) _, (World.cell?_of_block ((hs _ (by show w.heap.size ≠ _; omega)).trans (hno _ (by show w.heap.size < _; omega)))).trans h.bx, ((h.gr.of_block (hno _ (by omega))).set t v').congr fun i _ => ?_,
    h.la.of_block ((hs _ (by omega)).trans (hno _ (by omega))), hp.go fun k hk _ => hs k (by omega), by simpa using hk⟩
  by_cases e : i = t
  · subst e; simp [updN]
  · simp [updN, e]
theorem CpM.sorted {w7 : World} {t : Nat} {l : List Nat} (h : CpM w n vm V C LA wq) (ht : t < n) (hg : GroD wq w7 (V t) (V t)) (ho : OwnD w7 (w.heap.size + 3) (V t) (caR l)) :
    CpM w n vm V (updN C t l) LA w7 := by
  obtain ⟨hno, hb, hk, hp⟩ := h.row_ ht hg ho
  refine ⟨hb, (World.cell?_of_block (hno _ (by show w.heap.size < _; omega))).trans h.bx, h.gr.of_block (hno _ (by omega)), h.la.of_block (hno _ (by omega)), hp.congr (fun i _ => ?_) fun _ _ => rfl, hk⟩
  by_cases e : i = t
  · subst e; rw [updN_here]
  · rw [updN_else _ _ e]
theorem CpM.congr {C' LA' : Nat → _} (h : CpM w n vm V C LA wq) (hC : ∀ i, i < n → C i = C' i) (hL : ∀ i, i < n → LA i = LA' i) : CpM w n vm V C' LA' wq :=
  ⟨h.bel, h.bx, h.gr, h.la.congr fun i hi => by rw [hL i hi], h.pool.congr (fun _ _ => rfl) fun i hi => by rw [hC i hi], h.kw⟩
end
end Go.Proofs.Ytdfiflbkamhchaa
