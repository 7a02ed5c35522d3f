/- The document's example of layer 9. -/
import Derived.Test.YtdfiflbkamhchaaIntSJ
namespace Go.Proofs.Ytdfiflbkamhchaa
open Go.ChangeShapes Go.WideShapes Go.RowKit Go.Deep
set_option linter.unusedVariables false

theorem boxes3C (w : World) (A B C : Obj) : ∃ w4, w4 = ((w.alloc A).alloc B).alloc C ∧ w.heap.size + 1 + 1 < w4.heap.size ∧ Below w.heap.size w w4 ∧
    w4.heap[w.heap.size]? = some A ∧ w4.heap[w.heap.size + 1]? = some B ∧ w4.heap[w.heap.size + 1 + 1]? = some C := by
  refine ⟨_, rfl, by simp, (((Below.refl _ w).alloc (Nat.le_refl _) _).alloc (by simp) _).alloc (by simp; omega) _, ?_, ?_, ?_⟩
  · show (((w.heap.push A).push B).push C)[w.heap.size]? = some A
    rw [Array.getElem?_push, if_neg (by simp; omega), Array.getElem?_push, if_neg (by simp), Array.getElem?_push, if_pos rfl]
  · show (((w.heap.push A).push B).push C)[w.heap.size + 1]? = some B
    rw [Array.getElem?_push, if_neg (by simp), Array.getElem?_push, if_pos (by simp)]
  · show (((w.heap.push A).push B).push C)[w.heap.size + 1 + 1]? = some C
    rw [Array.getElem?_push, if_pos (by simp)]
/-- A function that calls another one. -/
def fC (n : Int) : FunD := ⟨0, 0, [], [⟨[], [⟨17, 0, [], 0, n⟩], ⟨0, 0, []⟩⟩]⟩
theorem sl_nil9 {α : Type} {w : World} {sz : Nat} {R : World → Nat → Nat → α → Prop} : SL w sz R none 0 [] := ⟨Nat.le_refl _, ⟨by unfold maxLen; omega, fun _ => rfl⟩, fun h => absurd h (by simp)⟩
set_option maxRecDepth 100000 in
set_option maxHeartbeats 4000000 in
theorem callF_any (n : Int) (hn : I64 n) (w : World) : Calls Try.prog 31 #[.int .i64 n] w fun e w' => ∃ b, e = .returned (.agg #[.int .i64 0, .int .i64 0, .slice none 0 0, .slice (some ⟨b, 0, none⟩) 1 1]) ∧ SL w' 5 RBlk (some ⟨b, 0, none⟩) 1 (fC n).blocks ∧ Below w.heap.size w w' := by
  go_enter Try.func31, Try.ntmps31
  go_wp2_with fail
  obtain ⟨w4, hw4, hs, hb, b0, b1, b2⟩ := boxes3C w (.cells #[.int .i64 0, .int .i64 0, .slice none 0 0, .slice (some ⟨w.heap.size + 1 + 1, 0, none⟩) 1 1] 43) (.cells #[.int .i64 17, .int .i64 0, .slice none 0 0, .int .i64 0, .int .i64 n] 46) (.cells #[.slice none 0 0, .slice (some ⟨w.heap.size + 1, 0, none⟩) 1 1, .int .i64 0, .int .i64 0, .slice none 0 0] 40)
  rw [← hw4]
  have i0 : I64 0 := by unfold I64; omega
  have i17 : I64 17 := by unfold I64; omega
  refine bodyPost_ret (results_cell_row rfl _ _ w.heap.size 43 #[.int .i64 0, .int .i64 0, .slice none 0 0, .slice (some ⟨w.heap.size + 1 + 1, 0, none⟩) 1 1] (0, 0) _ (by rfl) b0 Try.underlying43 (by rfl) (by obtain ⟨i, h1, _, h3, _⟩ := info_parts Try.info43; rw [h1]; exact congrArg some h3)) rfl ?_
  refine ⟨_, rfl, SL.one ⟨⟨none, 0, cell_of_block b2 0, sl_nil9⟩, ⟨some ⟨w.heap.size + 1, 0, none⟩, 1, cell_of_block b2 1, SL.one ⟨⟨cell_of_block b1 0, i17⟩, ⟨cell_of_block b1 1, i0⟩, ⟨none, 0, cell_of_block b1 2, sl_nil9⟩, ⟨cell_of_block b1 3, i0⟩, ⟨cell_of_block b1 4, hn⟩⟩⟩, ⟨cell_of_block b2 2, i0⟩, ⟨cell_of_block b2 3, i0⟩, ⟨none, 0, cell_of_block b2 4, sl_nil9⟩⟩, hb⟩

/-! ### What comes of the example -/
def m9 : List FunD := [fC 1, fC 1, ⟨0, 0, [], []⟩]
theorem cF9 : cF m9 0 = [1] ∧ cF m9 1 = [1] ∧ ∀ f, 2 ≤ f → cF m9 f = [] := by
  refine ⟨by decide, by decide, fun f hf => ?_⟩
  rcases Nat.lt_or_ge f 3 with h | h
  · obtain rfl : f = 2 := by omega
    decide
  · unfold cF
    have : m9[f]? = none := List.getElem?_eq_none (by show 3 ≤ f; exact h)
    rw [this]
theorem cr9 {a b : Nat} (h : CR (cF m9) a b) : a = b ∨ (a = 0 ∧ b = 1) := by
  induction h with
  | refl a => exact .inl rfl
  | @step a x d e _ ih =>
    rcases (by omega : a = 0 ∨ a = 1 ∨ 2 ≤ a) with rfl | rfl | h
    · rw [cF9.1] at e
      have := List.mem_singleton.1 e
      omega
    · rw [cF9.2.1] at e
      have := List.mem_singleton.1 e
      omega
    · rw [cF9.2.2 a h] at e; cases e
theorem mt9 : MtOk 3 (cF m9) (fun a b => a == b) := by
  intro a b _ _
  rw [beq_iff_eq]
  constructor
  · rintro rfl; exact ⟨.refl _, .refl _⟩
  · rintro ⟨h1, h2⟩
    have := cr9 h1
    have := cr9 h2
    omega
theorem doc9 : docR 3 (fun a b => a == b) = [[0], [1], [2]] := by decide
theorem small9 : SmallM m9 := ⟨by decide, fun f hf => by
  have : f = fC 1 ∨ f = ⟨0, 0, [], []⟩ := by simp [m9] at hf; exact hf
  rcases this with rfl | rfl
  · exact ⟨by decide, by decide, by decide, fun b hb => by
      have : b = ⟨[], [⟨17, 0, [], 0, 1⟩], ⟨0, 0, []⟩⟩ := by simp [fC] at hb; exact hb
      subst this
      exact ⟨by decide, by decide, by decide, by simp, by simp⟩⟩
  · exact ⟨by decide, by decide, by decide, by simp⟩⟩
/-- The waves of the example. -/
theorem waves9 {rs : List (List Nat)} {wv : Nat → Nat} {ix lx : List (List Nat)} (hR : RgA 3 (cF m9) rs) (hO : WvO (cF m9) rs wv (ofIx rs ix)) (hl : lx.length = ix.length)
    (hx : ∀ (W : Nat) (l k : List Nat), ix[W]? = some l → lx[W]? = some k → k.Perm l ∧ ByKey (l.map fun i => rs.getD i []) (k.map fun i => rs.getD i [])) :
    ∃ a b c, lx = [[a, b], [c]] ∧ rs.getD a [] = [1] ∧ rs.getD b [] = [2] ∧ rs.getD c [] = [0] := by
  have mem : ∀ r, r ∈ rs ↔ r = [0] ∨ r = [1] ∨ r = [2] := fun r => by
    rw [← docR_mem hR mt9, doc9]; simp
  have w1 : wv 1 = 1 := by
    rcases hO.ex [1] ((mem _).2 (by simp)) 1 (by simp) with h | ⟨f', h1, h, h2, h3, _⟩
    · exact h
    · have := List.mem_singleton.1 h1
      subst this
      rw [cF9.2.1] at h2
      exact absurd h2 h3
  have w2 : wv 2 = 1 := by
    rcases hO.ex [2] ((mem _).2 (by simp)) 2 (by simp) with h | ⟨f', h1, h, h2, h3, _⟩
    · exact h
    · have := List.mem_singleton.1 h1
      subst this
      rw [cF9.2.2 2 (by omega)] at h2
      cases h2
  have w0 : wv 0 = 2 := by
    have h9 := hO.lt [0] ((mem _).2 (by simp)) 0 (by simp) 1 (by rw [cF9.1]; simp) (by simp)
    rcases hO.ex [0] ((mem _).2 (by simp)) 0 (by simp) with h | ⟨f', h1, h, h2, h3, h4⟩
    · omega
    · have := List.mem_singleton.1 h1
      subst this
      rw [cF9.1] at h2
      have := List.mem_singleton.1 h2
      subst this
      omega
  have hlen : ix.length = 2 := by
    have h1 := (hO.pos [0] ((mem _).2 (by simp)) 0 (by simp)).2
    rw [ofIx_len, w0] at h1
    rcases Nat.lt_or_ge 2 ix.length with h | h
    · obtain ⟨r, h2, h3⟩ := hO.wn 2 (by rw [ofIx_len]; exact h)
      rcases (mem r).1 h2 with rfl | rfl | rfl
      · simp [kyR, w0] at h3
      · simp [kyR, w1] at h3
      · simp [kyR, w2] at h3
    · omega
  have hws : ∀ W, W < 2 → ∃ k, lx[W]? = some k ∧ (k.map fun i => rs.getD i []) = ([[0], [1], [2]] : List (List Nat)).filter (fun r => wv (kyR r) == W + 1) := fun W hW => by
    have h1 : ix[W]? = some ix[W] := List.getElem?_eq_getElem (by omega)
    have h2 : lx[W]? = some lx[W] := List.getElem?_eq_getElem (by omega)
    refine ⟨_, h2, ?_⟩
    have h3 := (hx W _ _ h1 h2).2
    have h4 := hO.ws_ W (by rw [ofIx_len]; omega)
    unfold ofIx at h4
    rw [List.getElem?_map, h1] at h4
    have h5 : (ix[W].map fun i => rs.getD i []) = _ := Option.some.inj h4
    rw [h5] at h3
    have h6 := h3.filter hR mt9
    rw [doc9] at h6
    exact h6
  obtain ⟨k0, e0, f0⟩ := hws 0 (by omega)
  obtain ⟨k1, e1, f1⟩ := hws 1 (by omega)
  have g0 : ([[0], [1], [2]] : List (List Nat)).filter (fun r => wv (kyR r) == 0 + 1) = [[1], [2]] := by simp [kyR, w0, w1, w2]
  have g1 : ([[0], [1], [2]] : List (List Nat)).filter (fun r => wv (kyR r) == 1 + 1) = [[0]] := by simp [kyR, w0, w1, w2]
  rw [g0] at f0
  rw [g1] at f1
  obtain ⟨a, b, rfl⟩ : ∃ a b, k0 = [a, b] := by
    rcases k0 with _ | ⟨a, _ | ⟨b, _ | ⟨c, l⟩⟩⟩
    · simp at f0
    · simp at f0
    · exact ⟨a, b, rfl⟩
    · simp at f0
  obtain ⟨c, rfl⟩ : ∃ c, k1 = [c] := by
    rcases k1 with _ | ⟨c, _ | ⟨d, l⟩⟩
    · simp at f1
    · exact ⟨c, rfl⟩
    · simp at f1
  simp only [List.map_cons, List.map_nil, List.cons.injEq, and_true] at f0 f1
  refine ⟨a, b, c, ?_, f0.1, f0.2, f1⟩
  apply List.ext_getElem?
  intro i
  match i with
  | 0 => exact e0
  | 1 => exact e1
  | i + 2 => rw [List.getElem?_eq_none (by omega)]; simp
theorem lit9 (W : World) {g : Nat} (hg : g = W.heap.size) (x : Int) (hx : I64 x) : VS (W.alloc (.cells #[.int .i64 x] 3)) 1 RInt (.slice (some ⟨g, 0, none⟩) 1 1) [x] := by
  subst hg
  exact ⟨_, _, rfl, SL.one ⟨cell_of_block (heap_alloc_new _ _) 0, hx⟩⟩
theorem below_dN {B : Nat} {a w : World} (h : Below B a w) (n : Nat) : Below B a (w.drewN n) := h.trans ⟨rfl, rfl, rfl, Nat.le_refl _, fun _ _ => rfl⟩
theorem size_dN (w : World) (n : Nat) : (w.drewN n).heap.size = w.heap.size := rfl
set_option maxRecDepth 100000 in
set_option maxHeartbeats 8000000 in
theorem up9_any (w : World) : Calls Try.prog 14 #[] w fun e w' => e = .returned (.bool true) ∧ Below w.heap.size w w' := by
  have i0 : I64 0 := by unfold I64; omega
  have i1 : I64 1 := by unfold I64; omega
  have i2 : I64 2 := by unfold I64; omega
  go_enter Try.func14, Try.ntmps14
  go_wp2_with fail
  refine (callF_any 1 i1 _).mono ?_
  rintro e w1 ⟨b1, rfl, hs1, hb1⟩
  go_wp2_with fail
  refine (callF_any 1 i1 _).mono ?_
  rintro e w2 ⟨b2, rfl, hs2, hb2⟩
  have hs1' := SBlks.keep (kept_of_below hb2) hs1
  have hB2 : Below w.heap.size w w2 := hb1.trans (hb2.mono hb1.size)
  obtain ⟨w3, hw3⟩ : ∃ w3, w3 = w2.alloc (.cells #[.int .i64 0, .int .i64 0, .slice none 0 0, .slice (some ⟨b1, 0, none⟩) 1 1, .int .i64 0, .int .i64 0, .slice none 0 0, .slice (some ⟨b2, 0, none⟩) 1 1, .int .i64 0, .int .i64 0, .slice none 0 0, .slice none 0 0] 43) := ⟨_, rfl⟩
  have hb3 : Below w2.heap.size w2 w3 := by rw [hw3]; exact (Below.refl _ _).alloc (Nat.le_refl _) _
  have hh3 : w3.heap[w2.heap.size]? = some (.cells #[.int .i64 0, .int .i64 0, .slice none 0 0, .slice (some ⟨b1, 0, none⟩) 1 1, .int .i64 0, .int .i64 0, .slice none 0 0, .slice (some ⟨b2, 0, none⟩) 1 1, .int .i64 0, .int .i64 0, .slice none 0 0, .slice none 0 0] 43) := by rw [hw3]; exact heap_alloc_new _ _
  have hV : VMod w3 (.agg #[.slice (some ⟨w2.heap.size, 0, none⟩) 3 3]) m9 := by
    have q1 := SBlks.keep (kept_of_below hb3) hs1'
    have q2 := SBlks.keep (kept_of_below hb3) hs2
    refine ⟨some ⟨w2.heap.size, 0, none⟩, 3, rfl, ⟨by decide, ⟨by unfold maxLen; omega, fun e => by cases e⟩, fun _ => ⟨w2.heap.size, 0, rfl, fun i x hi => ?_⟩⟩⟩
    match i, hi with
    | 0, hi =>
      obtain rfl := Option.some.inj hi
      exact ⟨⟨cell_of_block hh3 0, i0⟩, ⟨cell_of_block hh3 1, i0⟩, ⟨none, 0, cell_of_block hh3 2, sl_nil9⟩, ⟨some ⟨b1, 0, none⟩, 1, cell_of_block hh3 3, q1⟩⟩
    | 1, hi =>
      obtain rfl := Option.some.inj hi
      exact ⟨⟨cell_of_block hh3 4, i0⟩, ⟨cell_of_block hh3 5, i0⟩, ⟨none, 0, cell_of_block hh3 6, sl_nil9⟩, ⟨some ⟨b2, 0, none⟩, 1, cell_of_block hh3 7, q2⟩⟩
    | 2, hi =>
      obtain rfl := Option.some.inj hi
      exact ⟨⟨cell_of_block hh3 8, i0⟩, ⟨cell_of_block hh3 9, i0⟩, ⟨none, 0, cell_of_block hh3 10, sl_nil9⟩, ⟨none, 0, cell_of_block hh3 11, sl_nil9⟩⟩
    | i + 3, hi => simp [m9] at hi
  have HWV := Lib.hid (waves_any m9 _ w3 hV small9)
  have HB3 : Hid (Below w.heap.size w w3) := Lib.hid (hB2.trans (hb3.mono hB2.size))
  obtain ⟨N3, hN3⟩ : ∃ N3, N3 = w2.heap.size := ⟨_, rfl⟩
  rw [← hN3] at HWV
  clear hs1 hs2 hb1 hb2 hs1' hB2 hb3 hh3 hV
  go_upto_region 2 with (first | (rw [← hw3, ← hN3]) | (go_at_call 17; refine HWV.out.mono ?_; rintro e w5 ⟨K2, U, Vr, rs, wv, ix, lx, rfl, hK2, hK3, hRA, hO, -, hll, hlx, hP, hrg, hb5⟩))
  obtain ⟨a, b, c, rfl, ea, eb, ec⟩ := waves9 hRA hO hll hlx
  have hB5 : Below w.heap.size w w5 := HB3.out.trans (hb5.mono HB3.out.size)
  have r0 : w5.ownsRow K2 54 1 (U 0) 2 [U 1, U 2] := hP.own 0 (by simp)
  have r1 : w5.ownsRow K2 34 1 (U 1) 2 [Vr a, Vr b] := hP.own 1 (by simp)
  have r2 : w5.ownsRow K2 34 1 (U 2) 1 [Vr c] := hP.own 2 (by simp)
  have ring : ∀ i x, rs.getD i [] = [x] → x ≤ 2 → VS w5 1 RInt (Vr i) [(x : Int)] := fun i x h hx => by
    have hil : i < rs.length := by
      refine Decidable.byContradiction fun k => ?_
      rw [List.getD_eq_getElem?_getD, List.getElem?_eq_none (by omega)] at h
      cases h
    have h1 := (hrg i [x] (by rw [← h]; exact getD_at [] hil)).1
    exact vs_of_own (xs := [(x : Int)]) h1 (fun y hy => by rw [List.mem_singleton.1 hy]; unfold I64; omega)
  have ra := ring a 1 ea (by omega)
  have rb := ring b 2 eb (by omega)
  have rc := ring c 0 ec (by omega)
  obtain ⟨g0, c0, hU0⟩ : ∃ g c, U 0 = .slice (some ⟨g, 0, none⟩) 2 c := by
    rcases r0.2 with ⟨_, h⟩ | ⟨g, c, cur, e, -⟩
    · cases h
    · exact ⟨g, c, e⟩
  obtain ⟨g1, c1, hU1⟩ : ∃ g c, U 1 = .slice (some ⟨g, 0, none⟩) 2 c := by
    rcases r1.2 with ⟨_, h⟩ | ⟨g, c, cur, e, -⟩
    · cases h
    · exact ⟨g, c, e⟩
  obtain ⟨g2, c2, hU2⟩ : ∃ g c, U 2 = .slice (some ⟨g, 0, none⟩) 1 c := by
    rcases r2.2 with ⟨_, h⟩ | ⟨g, c, cur, e, -⟩
    · cases h
    · exact ⟨g, c, e⟩
  rw [hU0] at r0
  rw [hU1] at r1
  rw [hU2] at r2
  have d0 : w5.cell? ⟨g0, 0, none⟩ = some (.slice (some ⟨g1, 0, none⟩) 2 c1) := by rw [← hU1]; exact (r0.cellAt 0 (by decide)).trans rfl
  have d1 : w5.cell? ⟨g0, 1, none⟩ = some (.slice (some ⟨g2, 0, none⟩) 1 c2) := by rw [← hU2]; exact (r0.cellAt 1 (by decide)).trans rfl
  have d2 : w5.cell? ⟨g1, 0, none⟩ = some (Vr a) := (r1.cellAt 0 (by decide)).trans rfl
  have d3 : w5.cell? ⟨g1, 1, none⟩ = some (Vr b) := (r1.cellAt 1 (by decide)).trans rfl
  have d4 : w5.cell? ⟨g2, 0, none⟩ = some (Vr c) := (r2.cellAt 0 (by decide)).trans rfl
  have HR : Hid (∀ W, Below w5.heap.size w5 W → VS W 1 RInt (Vr a) [1] ∧ VS W 1 RInt (Vr b) [2] ∧ VS W 1 RInt (Vr c) [0]) := Lib.hid (fun W hW => by
    have hk := kept_of_below hW
    obtain ⟨A1, k1, e1, s1⟩ := ra
    obtain ⟨A2, k2, e2, s2⟩ := rb
    obtain ⟨A3, k3, e3, s3⟩ := rc
    exact ⟨⟨A1, k1, e1, SInts.keep hk s1⟩, ⟨A2, k2, e2, SInts.keep hk s2⟩, ⟨A3, k3, e3, SInts.keep hk s3⟩⟩)
  have HB5 := Lib.hid hB5
  obtain ⟨va, hva⟩ : ∃ va, va = Vr a := ⟨_, rfl⟩
  obtain ⟨vb, hvb⟩ : ∃ vb, vb = Vr b := ⟨_, rfl⟩
  obtain ⟨vc, hvc⟩ : ∃ vc, vc = Vr c := ⟨_, rfl⟩
  rw [← hva, ← hvb, ← hvc] at HR
  rw [← hva] at d2
  rw [← hvb] at d3
  rw [← hvc] at d4
  obtain ⟨g0l, g1l, g2l⟩ : g0 < w5.heap.size ∧ g1 < w5.heap.size ∧ g2 < w5.heap.size := ⟨(r0.lt g0 rfl).2, (r1.lt g1 rfl).2, (r2.lt g2 rfl).2⟩
  have HI0 := Lib.hid (And.intro i0 (And.intro i1 i2))
  rw [hU0]
  clear ra rb rc r0 r1 r2 ring ea eb ec hU0 hU1 hU2 hva hvb hvc hRA hO hll hlx hP hrg hb5 hB5 hK2 hK3 i0 i1 i2
  have HD := Lib.hid (And.intro d0 (And.intro d1 (And.intro d2 (And.intro d3 d4))))
  go_wp2_with fail
  obtain ⟨W1, hW1⟩ : ∃ W, W = w5.alloc (.cells #[.int .i64 1] 3) := ⟨_, rfl⟩
  have hv1 : VS W1 1 RInt (.slice (some ⟨w5.heap.size, 0, none⟩) 1 1) [1] := by rw [hW1]; exact lit9 _ rfl 1 HI0.out.2.1
  have hbl1 : Below w5.heap.size w5 W1 := by rw [hW1]; exact (Below.refl _ w5).alloc (Nat.le_refl _) _
  rw [← hW1]
  clear hW1
  refine (intsS_any [1] [1] _ _ _ (HR.out _ hbl1).1 hv1).mono ?_
  rw [show decide (([1] : List Int) = [1]) = true from by decide]
  rintro e w6 ⟨rfl, q1, rfl⟩
  obtain ⟨V1, hV1⟩ : ∃ V, V = W1.drewN q1 := ⟨_, rfl⟩
  have hbv1 : Below w5.heap.size w5 V1 := by rw [hV1]; exact below_dN hbl1 _
  rw [← hV1]
  clear hV1 hbl1 hv1
  clear d0 d1 d2 d3 d4
  have d0 := (kept_of_below hbv1) _ _ HD.out.1
  have d1 := (kept_of_below hbv1) _ _ HD.out.2.1
  have d2 := (kept_of_below hbv1) _ _ HD.out.2.2.1
  have d3 := (kept_of_below hbv1) _ _ HD.out.2.2.2.1
  have d4 := (kept_of_below hbv1) _ _ HD.out.2.2.2.2
  go_wp2_with fail
  obtain ⟨W2, hW2⟩ : ∃ W, W = V1.alloc (.cells #[.int .i64 2] 3) := ⟨_, rfl⟩
  have hv2 : VS W2 1 RInt (.slice (some ⟨V1.heap.size, 0, none⟩) 1 1) [2] := by rw [hW2]; exact lit9 _ rfl 2 HI0.out.2.2
  have hbl2 : Below w5.heap.size w5 W2 := by rw [hW2]; exact (hbv1).alloc hbv1.size _
  rw [← hW2]
  clear hW2
  refine (intsS_any [2] [2] _ _ _ (HR.out _ hbl2).2.1 hv2).mono ?_
  rw [show decide (([2] : List Int) = [2]) = true from by decide]
  rintro e w6 ⟨rfl, q2, rfl⟩
  obtain ⟨V2, hV2⟩ : ∃ V, V = W2.drewN q2 := ⟨_, rfl⟩
  have hbv2 : Below w5.heap.size w5 V2 := by rw [hV2]; exact below_dN hbl2 _
  rw [← hV2]
  clear hV2 hbl2 hv2
  clear d0 d1 d2 d3 d4
  have d0 := (kept_of_below hbv2) _ _ HD.out.1
  have d1 := (kept_of_below hbv2) _ _ HD.out.2.1
  have d2 := (kept_of_below hbv2) _ _ HD.out.2.2.1
  have d3 := (kept_of_below hbv2) _ _ HD.out.2.2.2.1
  have d4 := (kept_of_below hbv2) _ _ HD.out.2.2.2.2
  go_wp2_with fail
  obtain ⟨W3, hW3⟩ : ∃ W, W = V2.alloc (.cells #[.int .i64 0] 3) := ⟨_, rfl⟩
  have hv3 : VS W3 1 RInt (.slice (some ⟨V2.heap.size, 0, none⟩) 1 1) [0] := by rw [hW3]; exact lit9 _ rfl 0 HI0.out.1
  have hbl3 : Below w5.heap.size w5 W3 := by rw [hW3]; exact (hbv2).alloc hbv2.size _
  rw [← hW3]
  clear hW3
  refine (intsS_any [0] [0] _ _ _ (HR.out _ hbl3).2.2 hv3).mono ?_
  rw [show decide (([0] : List Int) = [0]) = true from by decide]
  rintro e w6 ⟨rfl, q3, rfl⟩
  obtain ⟨V3, hV3⟩ : ∃ V, V = W3.drewN q3 := ⟨_, rfl⟩
  have hbv3 : Below w5.heap.size w5 V3 := by rw [hV3]; exact below_dN hbl3 _
  rw [← hV3]
  clear hV3 hbl3 hv3
  clear d0 d1 d2 d3 d4
  have d0 := (kept_of_below hbv3) _ _ HD.out.1
  have d1 := (kept_of_below hbv3) _ _ HD.out.2.1
  have d2 := (kept_of_below hbv3) _ _ HD.out.2.2.1
  have d3 := (kept_of_below hbv3) _ _ HD.out.2.2.2.1
  have d4 := (kept_of_below hbv3) _ _ HD.out.2.2.2.2
  go_wp2_with fail
  go_ret
  exact ⟨rfl, HB5.out.trans (hbv3.mono HB5.out.size)⟩
end Go.Proofs.Ytdfiflbkamhchaa

/- Waves, as they are told: all functions, one behind the other; and as lists of lists of lists in memory. -/
namespace Go.Proofs.Ytdfiflbkamhchaa
open Go.ChangeShapes Go.WideShapes Go.RowKit Go.Deep
set_option linter.unusedVariables false

/-- What is told of waves, without memory. -/
structure WvF (n : Nat) (c : Nat → List Nat) (rs : List (List Nat)) (wv : Nat → Nat) (lx : List (List Nat)) : Prop where
  ra : RgA n c rs
  wo : ∃ ws, WvO c rs wv ws ∧ ws.length = lx.length
  lt : ∀ l ∈ lx, ∀ j ∈ l, j < rs.length
  nd : ∀ l ∈ lx, l.Nodup
  at_ : ∀ (W : Nat) (l : List Nat), lx[W]? = some l → ∀ j, j < rs.length → (j ∈ l ↔ wv (kyR (rs.getD j [])) = W + 1)
theorem WvF.of {n : Nat} {c : Nat → List Nat} {rs : List (List Nat)} {wv : Nat → Nat} {ix lx : List (List Nat)} (hR : RgA n c rs) (hO : WvO c rs wv (ofIx rs ix)) (hX : IxOk ix rs.length) (hl : lx.length = ix.length)
    (hx : ∀ (W : Nat) (l k : List Nat), ix[W]? = some l → lx[W]? = some k → k.Perm l ∧ ByKey (l.map fun i => rs.getD i []) (k.map fun i => rs.getD i [])) : WvF n c rs wv lx := by
  have hp : ∀ (W : Nat) (k : List Nat), lx[W]? = some k → ∃ l, ix[W]? = some l ∧ k.Perm l := fun W k hk => by
    have h1 := (List.getElem?_eq_some_iff.1 hk).1
    have h2 : ix[W]? = some ix[W] := List.getElem?_eq_getElem (by omega)
    exact ⟨_, h2, (hx W _ k h2 hk).1⟩
  have hp2 : ∀ k ∈ lx, ∃ l ∈ ix, k.Perm l := fun k hk => by
    obtain ⟨W, hW, e⟩ := List.mem_iff_getElem.1 hk
    obtain ⟨l, h1, h2⟩ := hp W k (by rw [List.getElem?_eq_getElem hW, e])
    exact ⟨l, List.mem_of_getElem? h1, h2⟩
  refine ⟨hR, ⟨_, hO, by rw [ofIx_len, hl]⟩, fun k hk j hj => ?_, fun k hk => ?_, fun W k hk j hj => ?_⟩
  · obtain ⟨l, h1, h2⟩ := hp2 k hk
    exact hX.lt l h1 j (h2.mem_iff.1 hj)
  · obtain ⟨l, h1, h2⟩ := hp2 k hk
    exact h2.nodup_iff.2 (hX.nd l h1)
  · obtain ⟨l, h1, h2⟩ := hp W k hk
    rw [h2.mem_iff]
    have hW := (List.getElem?_eq_some_iff.1 h1).1
    have h3 := hO.ws_ W (by rw [ofIx_len]; exact hW)
    unfold ofIx at h3
    rw [List.getElem?_map, h1] at h3
    have h4 : (l.map fun i => rs.getD i []) = rs.filter fun r => wv (kyR r) == W + 1 := Option.some.inj h3
    have hr : rs[j]? = some (rs.getD j []) := getD_at [] hj
    constructor
    · intro h
      have h5 : rs.getD j [] ∈ l.map fun i => rs.getD i [] := List.mem_map.2 ⟨j, h, rfl⟩
      rw [h4] at h5
      exact beq_iff_eq.1 (List.mem_filter.1 h5).2
    · intro h
      have h5 : rs.getD j [] ∈ rs.filter fun r => wv (kyR r) == W + 1 := List.mem_filter.2 ⟨List.mem_of_getElem? hr, by rw [h]; simp⟩
      rw [← h4] at h5
      obtain ⟨i, h6, h7⟩ := List.mem_map.1 h5
      have hil := hX.lt l (List.mem_of_getElem? h1) i h6
      have hri : rs[i]? = some (rs.getD i []) := getD_at [] hil
      have hk := kyR_mem (hR.o.ne _ (List.mem_of_getElem? hr))
      have h7' : rs.getD i [] = rs.getD j [] := h7
      have := hR.o.dj i j _ _ _ hri hr (by rw [h7']; exact hk) hk
      rw [← this]; exact h6
section
variable {n : Nat} {c : Nat → List Nat} {rs : List (List Nat)} {wv : Nat → Nat} {lx : List (List Nat)}
def elW (rs : List (List Nat)) (l : List Nat) : List Nat := l.flatMap fun j => rs.getD j []
theorem WvF.ring (h : WvF n c rs wv lx) {j : Nat} (hj : j < rs.length) : rs.getD j [] ∈ rs := List.mem_of_getElem? (getD_at [] hj)
theorem WvF.wave (h : WvF n c rs wv lx) {W : Nat} {l : List Nat} (hl : lx[W]? = some l) {f : Nat} (hf : f ∈ elW rs l) : wv f = W + 1 := by
  obtain ⟨j, h1, h2⟩ := List.mem_flatMap.1 hf
  have hj := h.lt l (List.mem_of_getElem? hl) j h1
  have h3 := (h.at_ W l hl j hj).1 h1
  obtain ⟨ws, hw, -⟩ := h.wo
  have hr := h.ring hj
  rw [hw.eq _ hr f h2 _ (kyR_mem (h.ra.o.ne _ hr))]; exact h3
theorem WvF.nodup (h : WvF n c rs wv lx) : (lx.flatMap (elW rs)).Nodup := by
  unfold List.Nodup
  rw [List.pairwise_flatMap]
  refine ⟨fun l hl => ?_, ?_⟩
  · unfold elW
    rw [List.pairwise_flatMap]
    refine ⟨fun j hj => (h.ra.o.st _ (h.ring (h.lt l hl j hj))).imp (fun {a b} q e => by omega), ?_⟩
    refine (h.nd l hl).imp_of_mem fun {a b} ha hb hab x hx y hy e => ?_
    subst e
    exact hab (h.ra.o.dj a b _ _ x (getD_at [] (h.lt l hl a ha)) (getD_at [] (h.lt l hl b hb)) hx hy)
  · rw [List.pairwise_iff_getElem]
    intro i j hi hj hij x hx y hy e
    have h1 := h.wave (List.getElem?_eq_getElem hi) hx
    have h2 := h.wave (List.getElem?_eq_getElem hj) hy
    rw [e] at h1
    omega
theorem WvF.mem (h : WvF n c rs wv lx) (f : Nat) : f ∈ lx.flatMap (elW rs) ↔ f < n := by
  rw [List.mem_flatMap]
  constructor
  · rintro ⟨l, h1, h2⟩
    obtain ⟨j, h3, h4⟩ := List.mem_flatMap.1 h2
    exact h.ra.lt (h.ring (h.lt l h1 j h3)) h4
  · intro hf
    obtain ⟨r, h1, h2⟩ := (h.ra.all f).1 hf
    obtain ⟨j, hj, e⟩ := List.mem_iff_getElem.1 h1
    obtain ⟨ws, hw, hwl⟩ := h.wo
    obtain ⟨p1, p2⟩ := hw.pos r h1 f h2
    have hW : wv f - 1 < lx.length := by omega
    have hr : rs.getD j [] = r := by rw [List.getD_eq_getElem?_getD, List.getElem?_eq_getElem hj, e]; rfl
    have hk := hw.eq r h1 f h2 _ (kyR_mem (h.ra.o.ne r h1))
    refine ⟨lx[wv f - 1], List.getElem_mem hW, List.mem_flatMap.2 ⟨j, ?_, by rw [hr]; exact h2⟩⟩
    refine (h.at_ _ _ (List.getElem?_eq_getElem hW) j hj).2 ?_
    rw [hr, ← hk]; omega
theorem WvF.len (h : WvF n c rs wv lx) : (lx.flatMap (elW rs)).length = n := by
  have h1 : (lx.flatMap (elW rs)).Perm (List.range n) := (List.perm_ext_iff_of_nodup h.nodup List.nodup_range).2 fun f => by rw [h.mem, List.mem_range]
  rw [h1.length_eq, List.length_range]
/-- The first function of the ring that one is in. -/
def kyF (rs : List (List Nat)) (f : Nat) : Nat := kyR ((rs.find? fun r => decide (f ∈ r)).getD [])
theorem WvF.ky (h : WvF n c rs wv lx) {r : List Nat} (hr : r ∈ rs) {f : Nat} (hf : f ∈ r) : kyF rs f = kyR r := by
  unfold kyF
  cases hq : rs.find? fun r => decide (f ∈ r) with
  | none =>
    have := List.find?_eq_none.1 hq r hr
    simp at this
    exact absurd hf this
  | some q =>
    have h1 := List.mem_of_find?_eq_some hq
    have h2 : f ∈ q := by have := List.find?_some hq; simpa using this
    rw [h.ra.o.one hr h1 hf h2]; rfl
/-- What is told of two functions of which the one calls the other. -/
theorem WvF.call (h : WvF n c rs wv lx) {a b : Nat} (ha : a < n) (hb : b ∈ c a) (hbn : b < n) : wv b ≤ wv a ∧ (wv b = wv a → kyF rs b = kyF rs a) := by
  obtain ⟨r, h1, h2⟩ := (h.ra.all a).1 ha
  obtain ⟨ws, hw, -⟩ := h.wo
  by_cases k : b ∈ r
  · exact ⟨Nat.le_of_eq (hw.eq r h1 b k a h2), fun _ => by rw [h.ky h1 k, h.ky h1 h2]⟩
  · have := hw.lt r h1 a h2 b hb k
    exact ⟨by omega, fun e => by omega⟩
end

/-! ### In memory -/
def R2 (w : World) (b o : Nat) (x : List (List Int)) : Prop := CS w b o 1 RRow x
theorem R2.keep {w w' : World} (h : Kept w w') (b o : Nat) (x : List (List Int)) (hv : R2 w b o x) : R2 w' b o x := CS.keep h (fun b o x => RRow.keep h b o x) hv
def wzL (rs : List (List Nat)) (l : List Nat) : List (List Int) := l.map fun j => natI (rs.getD j [])
def wz (rs : List (List Nat)) (lx : List (List Nat)) : List (List (List Int)) := lx.map (wzL rs)
/-- A row of the call's own, whose values each read as what stands in a list. -/
theorem vs_rows {α : Type} {w : World} {K : Nat} {e : TypeId} {v : Value} {vs : List Value} {xs : List α} {R : World → Nat → Nat → α → Prop} (h : w.ownsRow K e 1 v vs.length vs) (hl : vs.length = xs.length)
    (hR : ∀ (i : Nat) (u : Value) (x : α) (b o : Nat), vs[i]? = some u → xs[i]? = some x → w.cell? ⟨b, o, none⟩ = some u → R w b o x) : VS w 1 R v xs := by
  rcases h.2 with ⟨rfl, h0⟩ | ⟨g, cap, cur, rfl, hb, hh, hn, hc, hsz, ht⟩
  · refine ⟨none, 0, by rw [← hl, h0], by omega, ⟨by omega, fun _ => rfl⟩, fun hp => by omega⟩
  · refine ⟨some ⟨g, 0, none⟩, cap, by rw [hl], by omega, ⟨hc, fun e => by cases e⟩, fun _ => ⟨g, 0, rfl, fun i x hi => ?_⟩⟩
    have hil : i < vs.length := by rw [hl]; exact (List.getElem?_eq_some_iff.1 hi).1
    have hv := List.getElem?_eq_getElem hil
    refine hR i vs[i] x g (0 + i * 1) hv hi ?_
    rw [Nat.zero_add, Nat.mul_one, h.cellAt i (by omega)]; exact hv
theorem told_waves {w : World} {K K2 n : Nat} {U Vr : Nat → Value} {rs lx : List (List Nat)} (hP : PoolD w K2 (1 + lx.length) U (wvT Vr lx U)) (hr : ∀ (i : Nat) (r : List Nat), rs[i]? = some r → w.ownsRow K 3 1 (Vr i) r.length (natV r))
    (hlt : ∀ l ∈ lx, ∀ j ∈ l, j < rs.length) (hn : ∀ r ∈ rs, ∀ f ∈ r, f < n) (hn2 : n ≤ 1000) : VS w 1 R2 (U 0) (wz rs lx) := by
  have h0 : w.ownsRow K2 54 1 (U 0) ((List.range lx.length).map fun j => U (1 + j)).length ((List.range lx.length).map fun j => U (1 + j)) := by
    have h1 := hP.own 0 (by omega)
    rw [List.length_map, List.length_range]
    exact h1
  refine vs_rows h0 (by unfold wz; simp) fun i u x b o hu hx hc => ?_
  unfold wz at hx
  rw [List.getElem?_map] at hx
  obtain ⟨l, hl, rfl⟩ := Option.map_eq_some_iff.1 hx
  have hil := (List.getElem?_eq_some_iff.1 hl).1
  rw [List.getElem?_map, List.getElem?_range hil] at hu
  obtain rfl := Option.some.inj hu
  have h1 : w.ownsRow K2 34 1 (U (1 + i)) (l.map Vr).length (l.map Vr) := by
    have h2 := hP.own (1 + i) (by omega)
    have e : wvT Vr lx U (1 + i) = ⟨34, 1, l.length, l.map Vr⟩ := by
      unfold wvT
      rw [if_neg (by omega), show 1 + i - 1 = i by omega, List.getD_eq_getElem?_getD, hl]; rfl
    rw [e] at h2
    rw [List.length_map]
    exact h2
  obtain ⟨A, c, e, hs⟩ := vs_rows (R := RRow) (xs := wzL rs l) h1 (by unfold wzL; simp) fun i u x b o hu hx hc => by
    unfold wzL at hx
    rw [List.getElem?_map] at hx hu
    obtain ⟨j, hj, rfl⟩ := Option.map_eq_some_iff.1 hx
    rw [hj] at hu
    obtain rfl := Option.some.inj hu
    have hjl := hlt l (List.mem_of_getElem? hl) j (List.mem_of_getElem? hj)
    have h3 := hr j _ (getD_at [] hjl)
    rw [← natI_v, ← natI_len] at h3
    obtain ⟨A, c, e, hs⟩ := vs_of_own h3 (fun x hx => by
      unfold natI at hx
      obtain ⟨y, hy, rfl⟩ := List.mem_map.1 hx
      have := hn _ (List.mem_of_getElem? (getD_at [] hjl)) y hy
      unfold I64; omega)
    exact ⟨A, c, by rw [← e]; exact hc, hs⟩
  exact ⟨A, c, by rw [← e]; exact hc, hs⟩
end Go.Proofs.Ytdfiflbkamhchaa

/- How many waves and rings there are: the same, however they were found. -/
namespace Go.Proofs.Ytdfiflbkamhchaa
set_option linter.unusedVariables false

theorem TcC.ne {c : Nat → List Nat} {a b : Nat} (h : TcC c a b) (hn : ¬ TcC c b a) : ¬ CR c b a := fun k => by
  cases k with
  | refl => exact hn h
  | step q r => exact hn ⟨_, q, r⟩
theorem WvV.le_of {n : Nat} {c : Nat → List Nat} {V V' : Nat → Nat} (h : WvV n c V) (h' : WvV n c V') : ∀ (k a : Nat), a < n → V a = k → V a ≤ V' a := by
  intro k
  induction k with
  | zero => intro a _ e; omega
  | succ k ih =>
    intro a ha e
    rcases h.ex a ha with h0 | ⟨b, h1, h2, h3, h4⟩
    · omega
    · have h5 := ih b h1 (by omega)
      rcases (h'.le a b ha h2.cr).2 with h6 | h6
      · omega
      · exact absurd h6 (h2.ne h3)
theorem WvO.len_le {n : Nat} {c : Nat → List Nat} {rs rs' : List (List Nat)} {v v' : Nat → Nat} {ws ws' : List (List (List Nat))} (hc : ∀ f g, g ∈ c f → g < n) (H : WvO c rs v ws) (R : RgA n c rs) (H' : WvO c rs' v' ws') (R' : RgA n c rs') : ws.length ≤ ws'.length := by
  rcases Nat.eq_zero_or_pos ws.length with h0 | h0
  · omega
  · obtain ⟨r, h1, h2⟩ := H.wn (ws.length - 1) (by omega)
    have hk := R.lt h1 (kyR_mem (R.o.ne r h1))
    have h3 := (H.v R hc).le_of (H'.v R' hc) _ (kyR r) hk rfl
    obtain ⟨r', h4, h5⟩ := (R'.all _).1 hk
    have h6 := H'.pos r' h4 _ h5
    have h3' : v (kyR r) - 1 ≤ v' (kyR r) - 1 := h3
    omega
theorem WvF.len_eq {n : Nat} {c : Nat → List Nat} {rs rs' : List (List Nat)} {wv wv' : Nat → Nat} {lx lx' : List (List Nat)} (hc : ∀ f g, g ∈ c f → g < n) (h : WvF n c rs wv lx) (h' : WvF n c rs' wv' lx') : lx.length = lx'.length := by
  obtain ⟨ws, h1, h2⟩ := h.wo
  obtain ⟨ws', h3, h4⟩ := h'.wo
  have := h1.len_le hc h.ra h3 h'.ra
  have := h3.len_le hc h'.ra h1 h.ra
  omega
open Classical in
noncomputable def mtC (c : Nat → List Nat) : Nat → Nat → Bool := fun a b => decide (CR c a b ∧ CR c b a)
theorem mtC_ok (n : Nat) (c : Nat → List Nat) : MtOk n c (mtC c) := fun a b _ _ => by unfold mtC; simp
theorem ByKey.len_eq {n : Nat} {c : Nat → List Nat} {rs rs' l l' : List (List Nat)} (R : RgA n c rs) (R' : RgA n c rs') (B : ByKey rs l) (B' : ByKey rs' l') : l.length = l'.length := by
  rw [B.docR R (mtC_ok n c), B'.docR R' (mtC_ok n c)]
/-- No wave is empty, and no ring. -/
theorem WvF.full {n : Nat} {c : Nat → List Nat} {rs : List (List Nat)} {wv : Nat → Nat} {lx : List (List Nat)} (h : WvF n c rs wv lx) {W : Nat} {l : List Nat} (hl : lx[W]? = some l) : ∃ j t, l = j :: t ∧ rs.getD j [] ≠ [] := by
  obtain ⟨ws, h1, h2⟩ := h.wo
  have hW := (List.getElem?_eq_some_iff.1 hl).1
  obtain ⟨r, h3, h4⟩ := h1.wn W (by omega)
  obtain ⟨j, hj, e⟩ := List.mem_iff_getElem.1 h3
  have hr : rs.getD j [] = r := by rw [List.getD_eq_getElem?_getD, List.getElem?_eq_getElem hj, e]; rfl
  have hm : j ∈ l := (h.at_ W l hl j hj).2 (by rw [hr]; exact h4)
  cases l with
  | nil => cases hm
  | cons a t => exact ⟨a, t, rfl, h.ra.o.ne _ (h.ring (h.lt _ (List.mem_of_getElem? hl) a (by simp)))⟩
section
open Go.ChangeShapes Go.WideShapes Go.RowKit Go.Deep
/-- Waves told, and readable. -/
def ToldWR (m : List FunD) (w : World) (e : Ending) (w' : World) : Prop :=
  ∃ (v : Value) (rs lx : List (List Nat)) (wv : Nat → Nat), e = .returned v ∧ WvF m.length (cF m) rs wv lx ∧ VS w' 1 R2 v (wz rs lx) ∧ Below w.heap.size w w'
theorem waves_told (m : List FunD) (v : Value) (w : World) (hv : VMod w v m) (hsm : SmallM m) : Calls Try.prog 17 #[v] w (ToldWR m w) := by
  refine (waves_any m v w hv hsm).mono ?_
  rintro e w' ⟨K2, U, Vr, rs, wv, ix, lx, rfl, hK2, hK3, hRA, hO, hX, hll, hlx, hP, hrg, hb5⟩
  have hF := WvF.of hRA hO hX hll hlx
  exact ⟨U 0, rs, lx, wv, rfl, hF, told_waves (n := m.length) hP (fun i r hi => (hrg i r hi).1) hF.lt (fun r hr f hf => hRA.lt hr hf) (by have := hsm.1; omega), hb5⟩
end
end Go.Proofs.Ytdfiflbkamhchaa
