/- The document's example of layer 9. -/
import Derived.Test.YtdfiflbkamhchaaIntSJ
import Derived.Test.YtdfiflbkamhchaaCdAJ
import Derived.Test.YtdfiflbkamhchaaCaVJ
import Derived.Test.YtdfiflbkamhchaaAheadLJ
import Derived.BigQuiet
import Derived.StillTailTactics
namespace Go.Proofs.Ytdfiflbkamhchaa
open Go.ChangeShapes Go.WideShapes Go.RowKit Go.Deep
set_option linter.unusedVariables false

theorem boxes3C (w : World) (A B C : Obj) : ∃ w4, w4 = ((w.alloc A).alloc B).alloc C ∧ w.heap.size + 1 + 1 < w4.heap.size ∧ Below w.heap.size w w4 ∧
    w4.heap[w.heap.size]? = some A ∧ w4.heap[w.heap.size + 1]? = some B ∧ w4.heap[w.heap.size + 1 + 1]? = some C := by
  refine ⟨_, rfl, by simp, (((Below.refl _ w).alloc (Nat.le_refl _) _).alloc (by simp) _).alloc (by simp; omega) _, ?_, ?_, ?_⟩
  · show (((w.heap.push A).push B).push C)[w.heap.size]? = some A
    rw [Array.getElem?_push, if_neg (by simp; omega), Array.getElem?_push, if_neg (by simp), Array.getElem?_push, if_pos rfl]
  · show (((w.heap.push A).push B).push C)[w.heap.size + 1]? = some B
    rw [Array.getElem?_push, if_neg (by simp), Array.getElem?_push, if_pos (by simp)]
  · show (((w.heap.push A).push B).push C)[w.heap.size + 1 + 1]? = some C
    rw [Array.getElem?_push, if_pos (by simp)]
/-- A function that calls another one. -/
def fC (n : Int) : FunD := ⟨0, 0, [], [⟨[], [⟨17, 0, [], 0, n⟩], ⟨0, 0, []⟩⟩]⟩
theorem sl_nil9 {α : Type} {w : World} {sz : Nat} {R : World → Nat → Nat → α → Prop} : SL w sz R none 0 [] := ⟨Nat.le_refl _, ⟨by unfold maxLen; omega, fun _ => rfl⟩, fun h => absurd h (by simp)⟩
set_option maxRecDepth 100000 in
set_option maxHeartbeats 4000000 in
theorem callF_any (n : Int) (hn : I64 n) (w : World) : Calls Try.prog 31 #[.int .i64 n] w fun e w' => ∃ b, e = .returned (.agg #[.int .i64 0, .int .i64 0, .slice none 0 0, .slice (some ⟨b, 0, none⟩) 1 1]) ∧ SL w' 5 RBlk (some ⟨b, 0, none⟩) 1 (fC n).blocks ∧ Below w.heap.size w w' := by
  go_enter Try.func31, Try.ntmps31
  go_wp2_with fail
  obtain ⟨w4, hw4, hs, hb, b0, b1, b2⟩ := boxes3C w (.cells #[.int .i64 0, .int .i64 0, .slice none 0 0, .slice (some ⟨w.heap.size + 1 + 1, 0, none⟩) 1 1] 43) (.cells #[.int .i64 17, .int .i64 0, .slice none 0 0, .int .i64 0, .int .i64 n] 46) (.cells #[.slice none 0 0, .slice (some ⟨w.heap.size + 1, 0, none⟩) 1 1, .int .i64 0, .int .i64 0, .slice none 0 0] 40)
  rw [← hw4]
  have i0 : I64 0 := by unfold I64; omega
  have i17 : I64 17 := by unfold I64; omega
  refine bodyPost_ret (results_cell_row rfl _ _ w.heap.size 43 #[.int .i64 0, .int .i64 0, .slice none 0 0, .slice (some ⟨w.heap.size + 1 + 1, 0, none⟩) 1 1] (0, 0) _ (by rfl) b0 Try.underlying43 (by rfl) (by obtain ⟨i, h1, _, h3, _⟩ := info_parts Try.info43; rw [h1]; exact congrArg some h3)) rfl ?_
  refine ⟨_, rfl, SL.one ⟨⟨none, 0, cell_of_block b2 0, sl_nil9⟩, ⟨some ⟨w.heap.size + 1, 0, none⟩, 1, cell_of_block b2 1, SL.one ⟨⟨cell_of_block b1 0, i17⟩, ⟨cell_of_block b1 1, i0⟩, ⟨none, 0, cell_of_block b1 2, sl_nil9⟩, ⟨cell_of_block b1 3, i0⟩, ⟨cell_of_block b1 4, hn⟩⟩⟩, ⟨cell_of_block b2 2, i0⟩, ⟨cell_of_block b2 3, i0⟩, ⟨none, 0, cell_of_block b2 4, sl_nil9⟩⟩, hb⟩

/-! ### What comes of the example -/
def m9 : List FunD := [fC 1, fC 1, ⟨0, 0, [], []⟩]
theorem cF9 : cF m9 0 = [1] ∧ cF m9 1 = [1] ∧ ∀ f, 2 ≤ f → cF m9 f = [] := by
  refine ⟨by decide, by decide, fun f hf => ?_⟩
  rcases Nat.lt_or_ge f 3 with h | h
  · obtain rfl : f = 2 := by omega
    decide
  · unfold cF
    have : m9[f]? = none := List.getElem?_eq_none (by show 3 ≤ f; exact h)
    rw [this]
theorem cr9 {a b : Nat} (h : CR (cF m9) a b) : a = b ∨ (a = 0 ∧ b = 1) := by
  induction h with
  | refl a => exact .inl rfl
  | @step a x d e _ ih =>
    rcases (by omega : a = 0 ∨ a = 1 ∨ 2 ≤ a) with rfl | rfl | h
    · rw [cF9.1] at e
      have := List.mem_singleton.1 e
      omega
    · rw [cF9.2.1] at e
      have := List.mem_singleton.1 e
      omega
    · rw [cF9.2.2 a h] at e; cases e
theorem mt9 : MtOk 3 (cF m9) (fun a b => a == b) := by
  intro a b _ _
  rw [beq_iff_eq]
  constructor
  · rintro rfl; exact ⟨.refl _, .refl _⟩
  · rintro ⟨h1, h2⟩
    have := cr9 h1
    have := cr9 h2
    omega
theorem doc9 : docR 3 (fun a b => a == b) = [[0], [1], [2]] := by decide
theorem small9 : SmallM m9 := ⟨by decide, fun f hf => by
  have : f = fC 1 ∨ f = ⟨0, 0, [], []⟩ := by simp [m9] at hf; exact hf
  rcases this with rfl | rfl
  · exact ⟨by decide, by decide, by decide, fun b hb => by
      have : b = ⟨[], [⟨17, 0, [], 0, 1⟩], ⟨0, 0, []⟩⟩ := by simp [fC] at hb; exact hb
      subst this
      exact ⟨by decide, by decide, by decide, by simp, by simp⟩⟩
  · exact ⟨by decide, by decide, by decide, by simp⟩⟩
/-- The waves of the example. -/
theorem waves9 {rs : List (List Nat)} {wv : Nat → Nat} {ix lx : List (List Nat)} (hR : RgA 3 (cF m9) rs) (hO : WvO (cF m9) rs wv (ofIx rs ix)) (hl : lx.length = ix.length)
    (hx : ∀ (W : Nat) (l k : List Nat), ix[W]? = some l → lx[W]? = some k → k.Perm l ∧ ByKey (l.map fun i => rs.getD i []) (k.map fun i => rs.getD i [])) :
    ∃ a b c, lx = [[a, b], [c]] ∧ rs.getD a [] = [1] ∧ rs.getD b [] = [2] ∧ rs.getD c [] = [0] := by
  have mem : ∀ r, r ∈ rs ↔ r = [0] ∨ r = [1] ∨ r = [2] := fun r => by
    rw [← docR_mem hR mt9, doc9]; simp
  have w1 : wv 1 = 1 := by
    rcases hO.ex [1] ((mem _).2 (by simp)) 1 (by simp) with h | ⟨f', h1, h, h2, h3, _⟩
    · exact h
    · have := List.mem_singleton.1 h1
      subst this
      rw [cF9.2.1] at h2
      exact absurd h2 h3
  have w2 : wv 2 = 1 := by
    rcases hO.ex [2] ((mem _).2 (by simp)) 2 (by simp) with h | ⟨f', h1, h, h2, h3, _⟩
    · exact h
    · have := List.mem_singleton.1 h1
      subst this
      rw [cF9.2.2 2 (by omega)] at h2
      cases h2
  have w0 : wv 0 = 2 := by
    have h9 := hO.lt [0] ((mem _).2 (by simp)) 0 (by simp) 1 (by rw [cF9.1]; simp) (by simp)
    rcases hO.ex [0] ((mem _).2 (by simp)) 0 (by simp) with h | ⟨f', h1, h, h2, h3, h4⟩
    · omega
    · have := List.mem_singleton.1 h1
      subst this
      rw [cF9.1] at h2
      have := List.mem_singleton.1 h2
      subst this
      omega
  have hlen : ix.length = 2 := by
    have h1 := (hO.pos [0] ((mem _).2 (by simp)) 0 (by simp)).2
    rw [ofIx_len, w0] at h1
    rcases Nat.lt_or_ge 2 ix.length with h | h
    · obtain ⟨r, h2, h3⟩ := hO.wn 2 (by rw [ofIx_len]; exact h)
      rcases (mem r).1 h2 with rfl | rfl | rfl
      · simp [kyR, w0] at h3
      · simp [kyR, w1] at h3
      · simp [kyR, w2] at h3
    · omega
  have hws : ∀ W, W < 2 → ∃ k, lx[W]? = some k ∧ (k.map fun i => rs.getD i []) = ([[0], [1], [2]] : List (List Nat)).filter (fun r => wv (kyR r) == W + 1) := fun W hW => by
    have h1 : ix[W]? = some ix[W] := List.getElem?_eq_getElem (by omega)
    have h2 : lx[W]? = some lx[W] := List.getElem?_eq_getElem (by omega)
    refine ⟨_, h2, ?_⟩
    have h3 := (hx W _ _ h1 h2).2
    have h4 := hO.ws_ W (by rw [ofIx_len]; omega)
    unfold ofIx at h4
    rw [List.getElem?_map, h1] at h4
    have h5 : (ix[W].map fun i => rs.getD i []) = _ := Option.some.inj h4
    rw [h5] at h3
    have h6 := h3.filter hR mt9
    rw [doc9] at h6
    exact h6
  obtain ⟨k0, e0, f0⟩ := hws 0 (by omega)
  obtain ⟨k1, e1, f1⟩ := hws 1 (by omega)
  have g0 : ([[0], [1], [2]] : List (List Nat)).filter (fun r => wv (kyR r) == 0 + 1) = [[1], [2]] := by simp [kyR, w0, w1, w2]
  have g1 : ([[0], [1], [2]] : List (List Nat)).filter (fun r => wv (kyR r) == 1 + 1) = [[0]] := by simp [kyR, w0, w1, w2]
  rw [g0] at f0
  rw [g1] at f1
  obtain ⟨a, b, rfl⟩ : ∃ a b, k0 = [a, b] := by
    rcases k0 with _ | ⟨a, _ | ⟨b, _ | ⟨c, l⟩⟩⟩
    · simp at f0
    · simp at f0
    · exact ⟨a, b, rfl⟩
    · simp at f0
  obtain ⟨c, rfl⟩ : ∃ c, k1 = [c] := by
    rcases k1 with _ | ⟨c, _ | ⟨d, l⟩⟩
    · simp at f1
    · exact ⟨c, rfl⟩
    · simp at f1
  simp only [List.map_cons, List.map_nil, List.cons.injEq, and_true] at f0 f1
  refine ⟨a, b, c, ?_, f0.1, f0.2, f1⟩
  apply List.ext_getElem?
  intro i
  match i with
  | 0 => exact e0
  | 1 => exact e1
  | i + 2 => rw [List.getElem?_eq_none (by omega)]; simp
theorem lit9 (W : World) {g : Nat} (hg : g = W.heap.size) (x : Int) (hx : I64 x) : VS (W.alloc (.cells #[.int .i64 x] 3)) 1 RInt (.slice (some ⟨g, 0, none⟩) 1 1) [x] := by
  subst hg
  exact ⟨_, _, rfl, SL.one ⟨cell_of_block (heap_alloc_new _ _) 0, hx⟩⟩
theorem below_dN {B : Nat} {a w : World} (h : Below B a w) (n : Nat) : Below B a (w.drewN n) := h.trans ⟨rfl, rfl, rfl, Nat.le_refl _, fun _ _ => rfl⟩
theorem size_dN (w : World) (n : Nat) : (w.drewN n).heap.size = w.heap.size := rfl
set_option maxRecDepth 100000 in
set_option maxHeartbeats 8000000 in
theorem up9_any (w : World) : Calls Try.prog 14 #[] w fun e w' => e = .returned (.bool true) ∧ Below w.heap.size w w' := by
  have i0 : I64 0 := by unfold I64; omega
  have i1 : I64 1 := by unfold I64; omega
  have i2 : I64 2 := by unfold I64; omega
  go_enter Try.func14, Try.ntmps14
  go_wp2_with fail
  refine (callF_any 1 i1 _).mono ?_
  rintro e w1 ⟨b1, rfl, hs1, hb1⟩
  go_wp2_with fail
  refine (callF_any 1 i1 _).mono ?_
  rintro e w2 ⟨b2, rfl, hs2, hb2⟩
  have hs1' := SBlks.keep (kept_of_below hb2) hs1
  have hB2 : Below w.heap.size w w2 := hb1.trans (hb2.mono hb1.size)
  obtain ⟨w3, hw3⟩ : ∃ w3, w3 = w2.alloc (.cells #[.int .i64 0, .int .i64 0, .slice none 0 0, .slice (some ⟨b1, 0, none⟩) 1 1, .int .i64 0, .int .i64 0, .slice none 0 0, .slice (some ⟨b2, 0, none⟩) 1 1, .int .i64 0, .int .i64 0, .slice none 0 0, .slice none 0 0] 43) := ⟨_, rfl⟩
  have hb3 : Below w2.heap.size w2 w3 := by rw [hw3]; exact (Below.refl _ _).alloc (Nat.le_refl _) _
  have hh3 : w3.heap[w2.heap.size]? = some (.cells #[.int .i64 0, .int .i64 0, .slice none 0 0, .slice (some ⟨b1, 0, none⟩) 1 1, .int .i64 0, .int .i64 0, .slice none 0 0, .slice (some ⟨b2, 0, none⟩) 1 1, .int .i64 0, .int .i64 0, .slice none 0 0, .slice none 0 0] 43) := by rw [hw3]; exact heap_alloc_new _ _
  have hV : VMod w3 (.agg #[.slice (some ⟨w2.heap.size, 0, none⟩) 3 3]) m9 := by
    have q1 := SBlks.keep (kept_of_below hb3) hs1'
    have q2 := SBlks.keep (kept_of_below hb3) hs2
    refine ⟨some ⟨w2.heap.size, 0, none⟩, 3, rfl, ⟨by decide, ⟨by unfold maxLen; omega, fun e => by cases e⟩, fun _ => ⟨w2.heap.size, 0, rfl, fun i x hi => ?_⟩⟩⟩
    match i, hi with
    | 0, hi =>
      obtain rfl := Option.some.inj hi
      exact ⟨⟨cell_of_block hh3 0, i0⟩, ⟨cell_of_block hh3 1, i0⟩, ⟨none, 0, cell_of_block hh3 2, sl_nil9⟩, ⟨some ⟨b1, 0, none⟩, 1, cell_of_block hh3 3, q1⟩⟩
    | 1, hi =>
      obtain rfl := Option.some.inj hi
      exact ⟨⟨cell_of_block hh3 4, i0⟩, ⟨cell_of_block hh3 5, i0⟩, ⟨none, 0, cell_of_block hh3 6, sl_nil9⟩, ⟨some ⟨b2, 0, none⟩, 1, cell_of_block hh3 7, q2⟩⟩
    | 2, hi =>
      obtain rfl := Option.some.inj hi
      exact ⟨⟨cell_of_block hh3 8, i0⟩, ⟨cell_of_block hh3 9, i0⟩, ⟨none, 0, cell_of_block hh3 10, sl_nil9⟩, ⟨none, 0, cell_of_block hh3 11, sl_nil9⟩⟩
    | i + 3, hi => simp [m9] at hi
  have HWV := Lib.hid (waves_any m9 _ w3 hV small9)
  have HB3 : Hid (Below w.heap.size w w3) := Lib.hid (hB2.trans (hb3.mono hB2.size))
  obtain ⟨N3, hN3⟩ : ∃ N3, N3 = w2.heap.size := ⟨_, rfl⟩
  rw [← hN3] at HWV
  clear hs1 hs2 hb1 hb2 hs1' hB2 hb3 hh3 hV
  go_upto_region 2 with (first | (rw [← hw3, ← hN3]) | (go_at_call 17; refine HWV.out.mono ?_; rintro e w5 ⟨K2, U, Vr, rs, wv, ix, lx, rfl, hK2, hK3, hRA, hO, -, hll, hlx, hP, hrg, hb5⟩))
  obtain ⟨a, b, c, rfl, ea, eb, ec⟩ := waves9 hRA hO hll hlx
  have hB5 : Below w.heap.size w w5 := HB3.out.trans (hb5.mono HB3.out.size)
  have r0 : w5.ownsRow K2 54 1 (U 0) 2 [U 1, U 2] := hP.own 0 (by simp)
  have r1 : w5.ownsRow K2 34 1 (U 1) 2 [Vr a, Vr b] := hP.own 1 (by simp)
  have r2 : w5.ownsRow K2 34 1 (U 2) 1 [Vr c] := hP.own 2 (by simp)
  have ring : ∀ i x, rs.getD i [] = [x] → x ≤ 2 → VS w5 1 RInt (Vr i) [(x : Int)] := fun i x h hx => by
    have hil : i < rs.length := by
      refine Decidable.byContradiction fun k => ?_
      rw [List.getD_eq_getElem?_getD, List.getElem?_eq_none (by omega)] at h
      cases h
    have h1 := (hrg i [x] (by rw [← h]; exact getD_at [] hil)).1
    exact vs_of_own (xs := [(x : Int)]) h1 (fun y hy => by rw [List.mem_singleton.1 hy]; unfold I64; omega)
  have ra := ring a 1 ea (by omega)
  have rb := ring b 2 eb (by omega)
  have rc := ring c 0 ec (by omega)
  obtain ⟨g0, c0, hU0⟩ : ∃ g c, U 0 = .slice (some ⟨g, 0, none⟩) 2 c := by
    rcases r0.2 with ⟨_, h⟩ | ⟨g, c, cur, e, -⟩
    · cases h
    · exact ⟨g, c, e⟩
  obtain ⟨g1, c1, hU1⟩ : ∃ g c, U 1 = .slice (some ⟨g, 0, none⟩) 2 c := by
    rcases r1.2 with ⟨_, h⟩ | ⟨g, c, cur, e, -⟩
    · cases h
    · exact ⟨g, c, e⟩
  obtain ⟨g2, c2, hU2⟩ : ∃ g c, U 2 = .slice (some ⟨g, 0, none⟩) 1 c := by
    rcases r2.2 with ⟨_, h⟩ | ⟨g, c, cur, e, -⟩
    · cases h
    · exact ⟨g, c, e⟩
  rw [hU0] at r0
  rw [hU1] at r1
  rw [hU2] at r2
  have d0 : w5.cell? ⟨g0, 0, none⟩ = some (.slice (some ⟨g1, 0, none⟩) 2 c1) := by rw [← hU1]; exact (r0.cellAt 0 (by decide)).trans rfl
  have d1 : w5.cell? ⟨g0, 1, none⟩ = some (.slice (some ⟨g2, 0, none⟩) 1 c2) := by rw [← hU2]; exact (r0.cellAt 1 (by decide)).trans rfl
  have d2 : w5.cell? ⟨g1, 0, none⟩ = some (Vr a) := (r1.cellAt 0 (by decide)).trans rfl
  have d3 : w5.cell? ⟨g1, 1, none⟩ = some (Vr b) := (r1.cellAt 1 (by decide)).trans rfl
  have d4 : w5.cell? ⟨g2, 0, none⟩ = some (Vr c) := (r2.cellAt 0 (by decide)).trans rfl
  have HR : Hid (∀ W, Below w5.heap.size w5 W → VS W 1 RInt (Vr a) [1] ∧ VS W 1 RInt (Vr b) [2] ∧ VS W 1 RInt (Vr c) [0]) := Lib.hid (fun W hW => by
    have hk := kept_of_below hW
    obtain ⟨A1, k1, e1, s1⟩ := ra
    obtain ⟨A2, k2, e2, s2⟩ := rb
    obtain ⟨A3, k3, e3, s3⟩ := rc
    exact ⟨⟨A1, k1, e1, SInts.keep hk s1⟩, ⟨A2, k2, e2, SInts.keep hk s2⟩, ⟨A3, k3, e3, SInts.keep hk s3⟩⟩)
  have HB5 := Lib.hid hB5
  obtain ⟨va, hva⟩ : ∃ va, va = Vr a := ⟨_, rfl⟩
  obtain ⟨vb, hvb⟩ : ∃ vb, vb = Vr b := ⟨_, rfl⟩
  obtain ⟨vc, hvc⟩ : ∃ vc, vc = Vr c := ⟨_, rfl⟩
  rw [← hva, ← hvb, ← hvc] at HR
  rw [← hva] at d2
  rw [← hvb] at d3
  rw [← hvc] at d4
  obtain ⟨g0l, g1l, g2l⟩ : g0 < w5.heap.size ∧ g1 < w5.heap.size ∧ g2 < w5.heap.size := ⟨(r0.lt g0 rfl).2, (r1.lt g1 rfl).2, (r2.lt g2 rfl).2⟩
  have HI0 := Lib.hid (And.intro i0 (And.intro i1 i2))
  rw [hU0]
  clear ra rb rc r0 r1 r2 ring ea eb ec hU0 hU1 hU2 hva hvb hvc hRA hO hll hlx hP hrg hb5 hB5 hK2 hK3 i0 i1 i2
  have HD := Lib.hid (And.intro d0 (And.intro d1 (And.intro d2 (And.intro d3 d4))))
  go_wp2_with fail
  obtain ⟨W1, hW1⟩ : ∃ W, W = w5.alloc (.cells #[.int .i64 1] 3) := ⟨_, rfl⟩
  have hv1 : VS W1 1 RInt (.slice (some ⟨w5.heap.size, 0, none⟩) 1 1) [1] := by rw [hW1]; exact lit9 _ rfl 1 HI0.out.2.1
  have hbl1 : Below w5.heap.size w5 W1 := by rw [hW1]; exact (Below.refl _ w5).alloc (Nat.le_refl _) _
  rw [← hW1]
  clear hW1
  refine (intsS_any [1] [1] _ _ _ (HR.out _ hbl1).1 hv1).mono ?_
  rw [show decide (([1] : List Int) = [1]) = true from by decide]
  rintro e w6 ⟨rfl, q1, rfl⟩
  obtain ⟨V1, hV1⟩ : ∃ V, V = W1.drewN q1 := ⟨_, rfl⟩
  have hbv1 : Below w5.heap.size w5 V1 := by rw [hV1]; exact below_dN hbl1 _
  rw [← hV1]
  clear hV1 hbl1 hv1
  clear d0 d1 d2 d3 d4
  have d0 := (kept_of_below hbv1) _ _ HD.out.1
  have d1 := (kept_of_below hbv1) _ _ HD.out.2.1
  have d2 := (kept_of_below hbv1) _ _ HD.out.2.2.1
  have d3 := (kept_of_below hbv1) _ _ HD.out.2.2.2.1
  have d4 := (kept_of_below hbv1) _ _ HD.out.2.2.2.2
  go_wp2_with fail
  obtain ⟨W2, hW2⟩ : ∃ W, W = V1.alloc (.cells #[.int .i64 2] 3) := ⟨_, rfl⟩
  have hv2 : VS W2 1 RInt (.slice (some ⟨V1.heap.size, 0, none⟩) 1 1) [2] := by rw [hW2]; exact lit9 _ rfl 2 HI0.out.2.2
  have hbl2 : Below w5.heap.size w5 W2 := by rw [hW2]; exact (hbv1).alloc hbv1.size _
  rw [← hW2]
  clear hW2
  refine (intsS_any [2] [2] _ _ _ (HR.out _ hbl2).2.1 hv2).mono ?_
  rw [show decide (([2] : List Int) = [2]) = true from by decide]
  rintro e w6 ⟨rfl, q2, rfl⟩
  obtain ⟨V2, hV2⟩ : ∃ V, V = W2.drewN q2 := ⟨_, rfl⟩
  have hbv2 : Below w5.heap.size w5 V2 := by rw [hV2]; exact below_dN hbl2 _
  rw [← hV2]
  clear hV2 hbl2 hv2
  clear d0 d1 d2 d3 d4
  have d0 := (kept_of_below hbv2) _ _ HD.out.1
  have d1 := (kept_of_below hbv2) _ _ HD.out.2.1
  have d2 := (kept_of_below hbv2) _ _ HD.out.2.2.1
  have d3 := (kept_of_below hbv2) _ _ HD.out.2.2.2.1
  have d4 := (kept_of_below hbv2) _ _ HD.out.2.2.2.2
  go_wp2_with fail
  obtain ⟨W3, hW3⟩ : ∃ W, W = V2.alloc (.cells #[.int .i64 0] 3) := ⟨_, rfl⟩
  have hv3 : VS W3 1 RInt (.slice (some ⟨V2.heap.size, 0, none⟩) 1 1) [0] := by rw [hW3]; exact lit9 _ rfl 0 HI0.out.1
  have hbl3 : Below w5.heap.size w5 W3 := by rw [hW3]; exact (hbv2).alloc hbv2.size _
  rw [← hW3]
  clear hW3
  refine (intsS_any [0] [0] _ _ _ (HR.out _ hbl3).2.2 hv3).mono ?_
  rw [show decide (([0] : List Int) = [0]) = true from by decide]
  rintro e w6 ⟨rfl, q3, rfl⟩
  obtain ⟨V3, hV3⟩ : ∃ V, V = W3.drewN q3 := ⟨_, rfl⟩
  have hbv3 : Below w5.heap.size w5 V3 := by rw [hV3]; exact below_dN hbl3 _
  rw [← hV3]
  clear hV3 hbl3 hv3
  clear d0 d1 d2 d3 d4
  have d0 := (kept_of_below hbv3) _ _ HD.out.1
  have d1 := (kept_of_below hbv3) _ _ HD.out.2.1
  have d2 := (kept_of_below hbv3) _ _ HD.out.2.2.1
  have d3 := (kept_of_below hbv3) _ _ HD.out.2.2.2.1
  have d4 := (kept_of_below hbv3) _ _ HD.out.2.2.2.2
  go_wp2_with fail
  go_ret
  exact ⟨rfl, HB5.out.trans (hbv3.mono HB5.out.size)⟩
end Go.Proofs.Ytdfiflbkamhchaa

/- The document's Ring and Rings. -/
namespace Go.Proofs.Ytdfiflbkamhchaa
open Go.ChangeShapes Go.WideShapes Go.RowKit Go.Deep
set_option linter.unusedVariables false

def ringK (M : Nat → Nat → Bool) (a k : Nat) : List Nat := (List.range k).filter (M a)
theorem ringK_yes {M : Nat → Nat → Bool} {a k : Nat} (h : M a k = true) : ringK M a (k + 1) = ringK M a k ++ [k] := by
  unfold ringK; rw [List.range_succ, List.filter_append]; simp [h]
theorem ringK_no {M : Nat → Nat → Bool} {a k : Nat} (h : M a k = false) : ringK M a (k + 1) = ringK M a k := by
  unfold ringK; rw [List.range_succ, List.filter_append]; simp [h]
theorem ringK_len (M : Nat → Nat → Bool) (a k : Nat) : (ringK M a k).length ≤ k := by
  unfold ringK
  have := List.length_filter_le (M a) (List.range k)
  rw [List.length_range] at this; exact this
def ToldRi (l : List Nat) (w : World) (e : Ending) (w' : World) : Prop :=
  ∃ v, e = .returned v ∧ w'.ownsRow w.heap.size 3 1 v l.length (natV l) ∧ Below w.heap.size w w'
set_option maxRecDepth 100000 in
set_option maxHeartbeats 8000000 in
theorem refRing_any {n : Nat} {v : Value} {M : Nat → Nat → Bool} (w : World) (h : MtR w n v M) (hn : n ≤ 40) {a : Nat} (ha : a < n) :
    Calls Try.prog 36 #[v, .int .i64 (a : Int)] w (ToldRi (ringF n (mtF M) a) w) := by
  obtain ⟨A, c0, rfl, hA⟩ := h
  obtain ⟨g, qa, rfl, eA, eAB⟩ := hA a ha
  have HA := Lib.hid hA
  have HEA := Lib.hid (And.intro eA eAB)
  obtain ⟨i0, hi, hz0, hz1, hz2⟩ := info_parts Try.info3
  have HI := Lib.hid (And.intro hi (And.intro hz0 (And.intro hz1 hz2)))
  have ha0 : (0 : Int) ≤ a := by omega
  have ha1 : (a : Int) < n := by omega
  clear hA eA eAB hi hz0 hz1 hz2
  go_enter Try.func36, Try.ntmps36
  go_upto_region 3 with fail
  go_loopw [5, 6] (fun s5 s6 wq => ∃ (b : Nat) (vo : Value), b ≤ n ∧ s6 = .int .i64 (b : Int) ∧ s5 = vo ∧ wq.ownsRow w.heap.size 3 1 vo (ringK (mtF M) a b).length (natV (ringK (mtF M) a b)) ∧ Below w.heap.size w wq) (fun _ s6 _ => n - (intOf s6).toNat)
  case atStart => exact ⟨0, _, Nat.zero_le _, rfl, rfl, World.ownsRow_nil _ _ _ _, Below.refl _ _⟩
  case round =>
    obtain ⟨b, vo, hb, rfl, rfl, hown, hB⟩ := hrel
    obtain ⟨wc, rfl⟩ : ∃ wc, wc = wr := ⟨_, rfl⟩
    have HOW := Lib.hid (And.intro hown hB)
    by_cases hbl : b < n
    · have hlen := ringK_len (mtF M) a b
      obtain ⟨g', qb, e1, eB, eBA⟩ := HA.out b hbl
      simp only [Option.some.injEq, Addr.mk.injEq, and_true] at e1
      subst e1
      have hkp := kept_of_below hB
      have dA := hkp _ _ HEA.out.1
      have dAB := hkp _ _ (HEA.out.2 b hbl)
      have dB := hkp _ _ eB
      have dBA := hkp _ _ (eBA a ha)
      have hb0 : (0 : Int) ≤ b := by omega
      have hb1 : (b : Int) < n := by omega
      by_cases e : a = b
      · subst e
        have HNX : Hid (ringK (mtF M) a (a + 1) = ringK (mtF M) a a ++ [a]) := Lib.hid (ringK_yes (by unfold mtF; simp))
        clear hown hB hkp eB eBA
        go_wp2_with (at_builtin; refine wpList_append_lies _ rfl (.tmp 34) (.tmp 36) 34 rfl w.heap.size 3 i0 (.int .i64 0) 1 8 Try.underlying34 HI.out.1 HI.out.2.1 HI.out.2.2.1 HI.out.2.2.2 rfl (by decide) _ _ _ rfl (HOW.out.1.alloc _) ⟨wc.heap.size, 0, none⟩ 1 1 [.int .i64 (a : Int)] rfl rfl ?a1 ?a2 (by decide) ?a3 ?a4 ?a5 (wc.heap.size + 1) ?a6 ?_)
        case a1 => exact news_one_add wc _ _ rfl
        case a2 => exact ints_oneCell .i64 [(a : Int)]
        case a3 => unfold maxLen; omega
        case a4 => omega
        case a5 => have := HOW.out.2.size; simp; omega
        case a6 => simp
        intro g6 cap6 w6 hown6 hgrow6 hloc6 hlt6
        have HB6 : Hid (Below w.heap.size w w6) := Lib.hid ((HOW.out.2.alloc HOW.out.2.size _).grown hgrow6 (by have h1 := HOW.out.2.size; simp; omega) (fun g' hg' => (HOW.out.1.lt g' hg').1))
        have HO6 := Lib.hid hown6
        clear hown6 hgrow6 hloc6 hlt6
        go_wp2_with fail
        go_roundw
        case rel =>
          refine ⟨a + 1, _, by omega, by go_num, rfl, ?_, HB6.out⟩
          rw [HNX.out]
          simpa [natV] using HO6.out
        case measure => simp [intOf]; omega
      · have hd : ((a : Int) == (b : Int)) = false := by simp; omega
        have hd2 : ¬ (a : Int) = (b : Int) := by omega
        have he : (a == b) = false := by simpa using e
        cases hAB : M a b
        · have HNX : Hid (ringK (mtF M) a (b + 1) = ringK (mtF M) a b) := Lib.hid (ringK_no (by unfold mtF; rw [he, hAB]; rfl))
          rw [hAB] at dAB
          clear hown hB hkp eB eBA hAB he
          go_wp2_with fail
          go_roundw
          case rel => exact ⟨b + 1, _, by omega, by go_num, rfl, by rw [HNX.out]; exact HOW.out.1, HOW.out.2⟩
          case measure => simp [intOf]; omega
        · cases hBA : M b a
          · have HNX : Hid (ringK (mtF M) a (b + 1) = ringK (mtF M) a b) := Lib.hid (ringK_no (by unfold mtF; rw [he, hAB, hBA]; rfl))
            rw [hAB] at dAB
            rw [hBA] at dBA
            clear hown hB hkp eB eBA hAB hBA he
            go_wp2_with fail
            go_roundw
            case rel => exact ⟨b + 1, _, by omega, by go_num, rfl, by rw [HNX.out]; exact HOW.out.1, HOW.out.2⟩
            case measure => simp [intOf]; omega
          · have HNX : Hid (ringK (mtF M) a (b + 1) = ringK (mtF M) a b ++ [b]) := Lib.hid (ringK_yes (by unfold mtF; rw [he, hAB, hBA]; rfl))
            rw [hAB] at dAB
            rw [hBA] at dBA
            clear hown hB hkp eB eBA hAB hBA he
            go_wp2_with (at_builtin; refine wpList_append_lies _ rfl (.tmp 34) (.tmp 36) 34 rfl w.heap.size 3 i0 (.int .i64 0) 1 8 Try.underlying34 HI.out.1 HI.out.2.1 HI.out.2.2.1 HI.out.2.2.2 rfl (by decide) _ _ _ rfl (HOW.out.1.alloc _) ⟨wc.heap.size, 0, none⟩ 1 1 [.int .i64 (b : Int)] rfl rfl ?b1 ?b2 (by decide) ?b3 ?b4 ?b5 (wc.heap.size + 1) ?b6 ?_)
            case b1 => exact news_one_add wc _ _ rfl
            case b2 => exact ints_oneCell .i64 [(b : Int)]
            case b3 => unfold maxLen; omega
            case b4 => omega
            case b5 => have := HOW.out.2.size; simp; omega
            case b6 => simp
            intro g6 cap6 w6 hown6 hgrow6 hloc6 hlt6
            have HB6 : Hid (Below w.heap.size w w6) := Lib.hid ((HOW.out.2.alloc HOW.out.2.size _).grown hgrow6 (by have h1 := HOW.out.2.size; simp; omega) (fun g' hg' => (HOW.out.1.lt g' hg').1))
            have HO6 := Lib.hid hown6
            clear hown6 hgrow6 hloc6 hlt6
            go_wp2_with fail
            go_roundw
            case rel =>
              refine ⟨b + 1, _, by omega, by go_num, rfl, ?_, HB6.out⟩
              rw [HNX.out]
              simpa [natV] using HO6.out
            case measure => simp [intOf]; omega
    · obtain rfl : n = b := by omega
      clear hown hB
      go_wp2_with fail
      go_ret
      exact ⟨_, rfl, HOW.out.1, HOW.out.2⟩

theorem RowsM.nil (w : World) (K : Nat) (V : Nat → Value) : RowsM w K (.slice none 0 0) V [] := ⟨World.ownsRow_nil _ _ _ _, fun i r h => by simp at h, fun i h => absurd h (Nat.not_lt_zero i)⟩
theorem RowsM.go {w w' : World} {K : Nat} {v : Value} {V : Nat → Value} {rs : List (List Nat)} (h : RowsM w K v V rs) (hb : ∀ k, k < w.heap.size → w'.heap[k]? = w.heap[k]?) : RowsM w' K v V rs :=
  ⟨ownsRow_block h.row fun g hg => hb g (h.row.lt g hg).2, fun i r hr => ownsRow_block (h.own i r hr) fun g hg => hb g ((h.own i r hr).lt g hg).2, h.ap⟩
theorem RowsM.push {w w' : World} {K : Nat} {v v' u : Value} {V : Nat → Value} {rs : List (List Nat)} {r : List Nat} (h : RowsM w K v V rs) (hu : w.ownsRow K 3 1 u r.length (natV r)) (hap : u.ownBlock = none ∨ u.ownBlock ≠ v.ownBlock) (hg : GroD w w' v v')
    (ho : w'.ownsRow K 34 1 v' (rs.length + 1) ((List.range rs.length).map V ++ [u])) : RowsM w' K v' (updF V rs.length u) (rs ++ [r]) := by
  have key : ∀ (x : Value) (k : Nat) (xs : List Value), w.ownsRow K 3 1 x k xs → (x.ownBlock = none ∨ x.ownBlock ≠ v.ownBlock) → w'.ownsRow K 3 1 x k xs ∧ (x.ownBlock = none ∨ x.ownBlock ≠ v'.ownBlock) := by
    intro x k xs hx hn
    refine ⟨ownsRow_block hx fun g hgx => hg.block g (hx.lt g hgx).2 fun e => ?_, ?_⟩
    · rcases hn with hn | hn
      · rw [hn] at hgx; cases hgx
      · exact hn (hgx.trans e.symm)
    · cases hb : x.ownBlock with
      | none => exact .inl rfl
      | some b =>
        right
        intro e
        rcases hg.own b e.symm with h1 | h1
        · rcases hn with hn | hn
          · rw [hn] at hb; cases hb
          · exact hn (hb.trans h1.symm)
        · have := (hx.lt b hb).2; omega
  have hlen : (rs ++ [r]).length = rs.length + 1 := by simp
  refine ⟨?_, fun i q hq => ?_, fun i hi => ?_⟩
  · rw [hlen]
    have e : (List.range (rs.length + 1)).map (updF V rs.length u) = (List.range rs.length).map V ++ [u] := by
      rw [List.range_succ, List.map_append, List.map_cons, List.map_nil, updF_here]
      congr 1
      exact List.map_congr_left fun i hi => updF_else _ _ (by have := List.mem_range.1 hi; omega)
    rw [e]; exact ho
  · by_cases e : i < rs.length
    · rw [List.getElem?_append_left e] at hq
      rw [updF_else _ _ (by omega)]
      exact (key _ _ _ (h.own i q hq) (h.ap i e)).1
    · rw [List.getElem?_append_right (by omega)] at hq
      have e1 : i = rs.length := by
        have := (List.getElem?_eq_some_iff.1 hq).1
        simp at this; omega
      subst e1
      rw [Nat.sub_self] at hq
      rw [← Option.some.inj hq, updF_here]
      exact (key _ _ _ hu hap).1
  · rw [hlen] at hi
    by_cases e : i < rs.length
    · rw [updF_else _ _ (by omega)]
      exact (key _ _ _ (h.own i _ (List.getElem?_eq_getElem e)) (h.ap i e)).2
    · obtain rfl : i = rs.length := by omega
      rw [updF_here]
      exact (key _ _ _ hu hap).2

def docK (n : Nat) (M : Nat → Nat → Bool) (k : Nat) : List (List Nat) := ((List.range k).filter fun a => (ringF n M a).headD n == a).map (ringF n M)
theorem docK_yes {n : Nat} {M : Nat → Nat → Bool} {k : Nat} (h : (ringF n M k).headD n = k) : docK n M (k + 1) = docK n M k ++ [ringF n M k] := by
  unfold docK
  rw [List.range_succ, List.filter_append, List.map_append, List.filter_cons_of_pos (by rw [h]; exact beq_self_eq_true k)]; rfl
theorem docK_no {n : Nat} {M : Nat → Nat → Bool} {k : Nat} (h : ¬ (ringF n M k).headD n = k) : docK n M (k + 1) = docK n M k := by
  unfold docK
  rw [List.range_succ, List.filter_append, List.map_append, List.filter_cons_of_neg (by rw [beq_iff_eq]; exact h), List.filter_nil, List.map_nil, List.append_nil]
theorem docK_len (n : Nat) (M : Nat → Nat → Bool) (k : Nat) : (docK n M k).length ≤ k := by
  unfold docK
  rw [List.length_map]
  have := List.length_filter_le (fun a => (ringF n M a).headD n == a) (List.range k)
  rw [List.length_range] at this; exact this
theorem ringF_self {n : Nat} (M : Nat → Nat → Bool) {a : Nat} (ha : a < n) : ∃ x t, ringF n (mtF M) a = x :: t := by
  have h1 : a ∈ ringF n (mtF M) a := List.mem_filter.2 ⟨List.mem_range.2 ha, by unfold mtF; simp⟩
  cases hq : ringF n (mtF M) a with
  | nil => rw [hq] at h1; cases h1
  | cons x t => exact ⟨x, t, rfl⟩
def ToldRS (l : List (List Nat)) (w : World) (e : Ending) (w' : World) : Prop :=
  ∃ v V, e = .returned v ∧ RowsM w' w.heap.size v V l ∧ Below w.heap.size w w'
set_option maxRecDepth 100000 in
set_option maxHeartbeats 8000000 in
theorem refRings_any {n : Nat} {v : Value} {M : Nat → Nat → Bool} (w : World) (h : MtR w n v M) (hn : n ≤ 40) :
    Calls Try.prog 19 #[v] w (ToldRS (docR n (mtF M)) w) := by
  have HMR := Lib.hid h
  obtain ⟨A, c0, rfl, hA⟩ := h
  obtain ⟨i0, hi, hz0, hz1, hz2⟩ := info_parts Try.info34
  have HI := Lib.hid (And.intro hi (And.intro hz0 (And.intro hz1 hz2)))
  clear hA hi hz0 hz1 hz2
  go_enter Try.func19, Try.ntmps19
  go_upto_region 3 with fail
  go_loopw [3, 4] (fun s3 s4 wq => ∃ (a : Nat) (vo : Value) (V : Nat → Value), a ≤ n ∧ s4 = .int .i64 (a : Int) ∧ s3 = vo ∧ RowsM wq w.heap.size vo V (docK n (mtF M) a) ∧ Below w.heap.size w wq) (fun _ s4 _ => n - (intOf s4).toNat)
  case atStart => exact ⟨0, _, fun _ => undef, Nat.zero_le _, rfl, rfl, RowsM.nil _ _ _, Below.refl _ _⟩
  case round =>
    obtain ⟨a, vo, V, ha, rfl, hvo, hM, hB⟩ := hrel
    obtain rfl := hvo.symm
    obtain ⟨wc, rfl⟩ : ∃ wc, wc = wr := ⟨_, rfl⟩
    have HMB := Lib.hid (And.intro hM hB)
    by_cases hal : a < n
    · have hlen := docK_len n (mtF M) a
      have ha0 : (0 : Int) ≤ a := by omega
      have ha1 : (a : Int) < n := by omega
      clear hM hB
      go_wp2_with fail
      refine (refRing_any wc (HMR.out.keep (kept_of_below HMB.out.2)) hn hal).mono ?_
      rintro e w5 ⟨u, rfl, hu, hb5⟩
      obtain ⟨x, t, hxt⟩ := ringF_self M hal
      have hhd : (ringF n (mtF M) a).headD n = x := by rw [hxt]; rfl
      have HU := Lib.hid hu
      have HB5 : Hid (Below w.heap.size w w5) := Lib.hid (HMB.out.2.trans (hb5.mono HMB.out.2.size))
      have HM5 : Hid (RowsM w5 w.heap.size vo V (docK n (mtF M) a)) := Lib.hid (HMB.out.1.go fun k hk => hb5.block k hk)
      have HAP : Hid (u.ownBlock = none ∨ u.ownBlock ≠ vo.ownBlock) := Lib.hid (by
        cases hq : u.ownBlock with
        | none => exact .inl rfl
        | some b =>
          right
          intro e
          have h1 := (hu.lt b hq).1
          have h2 := (HMB.out.1.row.lt b e.symm).2
          omega)
      obtain ⟨gu, cu, u0, rfl, hu0, huc, -⟩ := own_cellD hu (i := 0) (by rw [hxt]; simp)
      have hu0' : u0 = .int .i64 (x : Int) := by
        rw [hxt] at hu0
        exact (Option.some.inj hu0).symm
      subst hu0'
      obtain ⟨lu, hlu⟩ : ∃ lu, lu = (ringF n (mtF M) a).length := ⟨_, rfl⟩
      have hlu0 : (0 : Int) < lu := by rw [hlu, hxt]; simp
      have hlu40 : lu ≤ 40 := by
        rw [hlu]
        have := ringK_len (mtF M) a n
        show (ringK (mtF M) a n).length ≤ 40
        omega
      have HLU := Lib.hid hlu
      rw [← hlu]
      clear hu hb5 hu0 hlu hxt
      by_cases e : x = a
      · subst e
        have HNX : Hid (docK n (mtF M) (x + 1) = docK n (mtF M) x ++ [ringF n (mtF M) x]) := Lib.hid (docK_yes hhd)
        have hd : ((x : Int) == (x : Int)) = true := by simp
        clear hhd
        go_wp2_with (at_builtin; refine wpList_append_lies _ rfl (.tmp 20) (.tmp 22) 54 rfl w.heap.size 34 i0 (.slice none 0 0) 1 24 Try.underlyingC54 HI.out.1 HI.out.2.1 HI.out.2.2.1 HI.out.2.2.2 rfl (by decide) _ _ _ rfl (HM5.out.row.alloc _) ⟨w5.heap.size, 0, none⟩ 1 1 [.slice (some ⟨gu, 0, none⟩) lu cu] rfl rfl ?x1 ?x2 ?x0 ?x3 ?x4 ?x5 (w5.heap.size + 1) ?x6 ?_)
        case x1 => exact news_one_add w5 _ _ rfl
        case x2 => (intro u hu; rw [List.mem_singleton.1 hu]; rfl)
        case x0 => omega
        case x3 => unfold maxLen; omega
        case x4 => omega
        case x5 => have := HB5.out.size; simp; omega
        case x6 => simp
        intro g7 cap7 w7 hown7 hgrow7 hloc7 hlt7
        have hgd : GroD w5 w7 vo (.slice (some ⟨g7, 0, none⟩) ((docK n (mtF M) x).length + 1) cap7) := groD_append hgrow7 hloc7
        have HM7 := Lib.hid (HM5.out.push (r := ringF n (mtF M) x) (u := .slice (some ⟨gu, 0, none⟩) lu cu) (by rw [HLU.out]; exact owns_mono_ HU.out HMB.out.2.size) HAP.out hgd hown7)
        have HB7 : Hid (Below w.heap.size w w7) := Lib.hid ((HB5.out.alloc HB5.out.size _).grown hgrow7 (by have := HB5.out.size; simp; omega) (fun g' hg' => (HM5.out.row.lt g' hg').1))
        clear hown7 hgrow7 hloc7 hlt7 hgd
        go_wp2_with fail
        go_roundw
        case rel => exact ⟨x + 1, _, _, by omega, by go_num, rfl, by rw [HNX.out]; exact HM7.out, HB7.out⟩
        case measure => simp [intOf]; omega
      · have HNX : Hid (docK n (mtF M) (a + 1) = docK n (mtF M) a) := Lib.hid (docK_no (by rw [hhd]; exact e))
        have hd : ((x : Int) == (a : Int)) = false := by simp; omega
        have hd2 : ¬ (x : Int) = (a : Int) := by omega
        clear hhd
        go_wp2_with fail
        go_roundw
        case rel => exact ⟨a + 1, _, V, by omega, by go_num, rfl, by rw [HNX.out]; exact HM5.out, HB5.out⟩
        case measure => simp [intOf]; omega
    · obtain rfl : n = a := by omega
      clear hM hB
      go_wp2_with fail
      go_ret
      exact ⟨_, V, rfl, HMB.out.1, HMB.out.2⟩
end Go.Proofs.Ytdfiflbkamhchaa

/- What a truth is in memory. -/
namespace Go.Proofs.Ytdfiflbkamhchaa
theorem Try.info4 : (Try.prog.info? 4).map (fun i => (i.zero, i.size, i.bytes)) = some (some (.bool false), 1, 1) := by kernel_rfl
end Go.Proofs.Ytdfiflbkamhchaa

/- The document's To. -/
namespace Go.Proofs.Ytdfiflbkamhchaa
open Go.ChangeShapes Go.WideShapes Go.RowKit Go.Deep
set_option linter.unusedVariables false

def rwV (n : Nat) (G : Nat → Nat) (i : Nat) : Value := .slice (some ⟨G i, 0, none⟩) n n
/-- A square of truths while it is made: so many rows. -/
structure MtI (W : World) (K n k : Nat) (v : Value) (G : Nat → Nat) (M : Nat → Nat → Bool) : Prop where
  row : W.ownsRow K 33 1 v k ((List.range k).map (rwV n G))
  vs : ∀ i, i < k → K ≤ G i ∧ W.rowIs (G i) 4 n (fun j => .bool (M i j)) ∧ v.ownBlock ≠ some (G i)
  inj : ∀ i j, i < k → j < k → G i = G j → i = j
theorem MtI.nil (W : World) (K n : Nat) (G : Nat → Nat) (M : Nat → Nat → Bool) : MtI W K n 0 (.slice none 0 0) G M := ⟨World.ownsRow_nil _ _ _ _, fun i h => absurd h (Nat.not_lt_zero i), fun i j h => absurd h (Nat.not_lt_zero i)⟩
theorem MtI.go {W W' : World} {K n k : Nat} {v : Value} {G : Nat → Nat} {M : Nat → Nat → Bool} (h : MtI W K n k v G M) (hb : ∀ b, b < W.heap.size → W'.heap[b]? = W.heap[b]?) : MtI W' K n k v G M :=
  ⟨ownsRow_block h.row fun g hg => hb g (h.row.lt g hg).2, fun i hi => ⟨(h.vs i hi).1, (h.vs i hi).2.1.of_block (hb _ (h.vs i hi).2.1.lt), (h.vs i hi).2.2⟩, h.inj⟩
theorem MtI.push {W W' : World} {K n k g0 : Nat} {v v' : Value} {G : Nat → Nat} {M : Nat → Nat → Bool} (h : MtI W K n k v G M) (h0 : K ≤ g0) (hr : W.rowIs g0 4 n (fun j => .bool (M k j))) (hv : v.ownBlock ≠ some g0) (hG : ∀ i, i < k → G i ≠ g0) (hg : GroD W W' v v')
    (ho : W'.ownsRow K 33 1 v' (k + 1) ((List.range k).map (rwV n G) ++ [.slice (some ⟨g0, 0, none⟩) n n])) : MtI W' K n (k + 1) v' (updF G k g0) M := by
  have key : ∀ g f, W.rowIs g 4 n f → v.ownBlock ≠ some g → W'.rowIs g 4 n f ∧ v'.ownBlock ≠ some g := by
    intro g f hx hn
    refine ⟨hx.of_block (hg.block g hx.lt hn), fun e => ?_⟩
    rcases hg.own g e with h1 | h1
    · exact hn h1
    · have := hx.lt; omega
  refine ⟨?_, fun i hi => ?_, fun i j hi hj e => ?_⟩
  · have e : (List.range (k + 1)).map (rwV n (updF G k g0)) = (List.range k).map (rwV n G) ++ [.slice (some ⟨g0, 0, none⟩) n n] := by
      rw [List.range_succ, List.map_append, List.map_cons, List.map_nil]
      congr 1
      · exact List.map_congr_left fun i hi => by unfold rwV; rw [updF_else _ _ (by have := List.mem_range.1 hi; omega)]
      · unfold rwV; rw [updF_here]
    rw [e]; exact ho
  · by_cases e : i = k
    · subst e
      rw [updF_here]
      exact ⟨h0, key _ _ hr hv⟩
    · rw [updF_else _ _ e]
      obtain ⟨h1, h2, h3⟩ := h.vs i (by omega)
      exact ⟨h1, key _ _ h2 h3⟩
  · by_cases ei : i = k
    · by_cases ej : j = k
      · omega
      · rw [ei, updF_here, updF_else _ _ ej] at e
        exact absurd e.symm (hG j (by omega))
    · by_cases ej : j = k
      · rw [ej, updF_here, updF_else _ _ ei] at e
        exact absurd e (hG i (by omega))
      · rw [updF_else _ _ ei, updF_else _ _ ej] at e
        exact h.inj i j (by omega) (by omega) e
theorem MtI.set {W : World} {K n a b : Nat} {v : Value} {G : Nat → Nat} {M : Nat → Nat → Bool} (h : MtI W K n n v G M) (ha : a < n) (x : Bool) : MtI (W.setCell ⟨G a, b, none⟩ (.bool x)) K n n v G (setT M a b x) := by
  obtain ⟨h1, h2, h3⟩ := h.vs a ha
  refine ⟨ownsRow_block h.row fun g hg => Below.heap_setCell _ _ _ _ (fun e => h3 (by rw [hg, e])), fun i hi => ?_, h.inj⟩
  obtain ⟨k1, k2, k3⟩ := h.vs i hi
  refine ⟨k1, ?_, k3⟩
  by_cases e : i = a
  · subst e
    refine (k2.set b _).congr fun j _ => ?_
    by_cases ej : j = b
    · subst ej; rw [setT_here]; simp
    · rw [setT_else _ _ (fun q => ej q.2), if_neg ej]
  · refine (k2.of_block (Below.heap_setCell _ _ _ _ (fun q => e (h.inj i a hi ha q)))).congr fun j _ => ?_
    rw [setT_else _ _ (fun q => e q.1)]
theorem MtI.row_ {W : World} {K n a : Nat} {v : Value} {G : Nat → Nat} {M : Nat → Nat → Bool} (h : MtI W K n n v G M) (ha : a < n) : ∃ g c, v = .slice (some ⟨g, 0, none⟩) n c ∧ W.cell? ⟨g, a, none⟩ = some (.slice (some ⟨G a, 0, none⟩) n n) := by
  obtain ⟨g, c, u, e1, e2, e3, -⟩ := own_cellD h.row ha
  rw [List.getElem?_map, List.getElem?_range ha] at e2
  exact ⟨g, c, e1, by rw [e3, ← Option.some.inj e2]; rfl⟩
theorem MtI.mtr {W : World} {K n : Nat} {v : Value} {G : Nat → Nat} {M : Nat → Nat → Bool} (h : MtI W K n n v G M) : MtR W n v M := by
  obtain ⟨A, c, hv⟩ := own_sliceL h.row
  subst hv
  refine ⟨A, c, rfl, fun i hi => ?_⟩
  obtain ⟨g, c', e1, e2⟩ := h.row_ hi
  simp only [Value.slice.injEq] at e1
  exact ⟨g, G i, e1.1, e2, fun j hj => (h.vs i hi).2.1.cell hj⟩

def toM (m : List FunD) (a b : Nat) : Bool := match m[a]? with | some f => callB f b | none => false
theorem toM_iff {m : List FunD} {a b : Nat} (hb : b < m.length) : toM m a b = true ↔ b ∈ cF m a := by
  unfold toM cF
  cases m[a]? with
  | none => simp
  | some f => simp [List.mem_filter, hb]
def ToldTo (m : List FunD) (w : World) (e : Ending) (w' : World) : Prop :=
  ∃ v M, e = .returned v ∧ ToOk m.length (cF m) M ∧ MtR w' m.length v M ∧ Below w.heap.size w w'
end Go.Proofs.Ytdfiflbkamhchaa
