/- What backwards keeps while it goes through blocks, and the closures that do it: enter, goOn. -/
import Derived.Test.YtooblmiffgjmjaaGrN
import Derived.Test.YtooblmiffgjmjaaModB
import Derived.StillTailTactics
namespace Go.Proofs.Ytooblmiffgjmjaa
open Go.ChangeShapes Go.WideShapes Go.RowKit Go.Deep
set_option linter.unusedVariables false

theorem mono_of {α : Type} (a b : α) (h : a = b) : b = a := h.symm

/-- What backwards keeps: next, gone, open, done, enter, goOn. -/
structure BW (w : World) (M G n : Nat) (S : Nat → Bool) (R : Nat → List Nat) (V : Nat → Value) (op dn : List Nat) (vo vd : Value) : Prop where
  nbox : w.heap[M]? = some (.cells #[.slice (some ⟨G, 0, none⟩) n n] 35 (0, 0))
  gbox : w.heap[M + 2]? = some (.cells #[.slice (some ⟨M + 1, 0, none⟩) n n] 37 (0, 0))
  dbox : w.heap[M + 3]? = some (.cells #[vd] 22 (0, 0))
  obox : w.heap[M + 4]? = some (.cells #[vo] 22 (0, 0))
  ebox : w.heap[M + 5]? = some (.cells #[.func (.func 52) #[] #[.pointer (some ⟨M + 2, 0, none⟩), .pointer (some ⟨M + 4, 0, none⟩)]] 82 (0, 0))
  rbox : w.heap[M + 6]? = some (.cells #[.func (.func 53) #[] #[.pointer (some ⟨M, 0, none⟩), .pointer (some ⟨M + 2, 0, none⟩), .pointer (some ⟨M + 5, 0, none⟩), .pointer (some ⟨M + 6, 0, none⟩), .pointer (some ⟨M + 4, 0, none⟩), .pointer (some ⟨M + 3, 0, none⟩)]] 83 (0, 0))
  grow : w.rowIs (M + 1) 4 n (fun x => .bool (S x))
  nrow : w.rowIs G 22 n V
  lists : ∀ x, x < n → ∃ A c, V x = .slice A (R x).length c ∧ SL w 1 (RIntB (fun b => b < M ∧ b ≠ G)) A c (zs (R x))
  ownO : w.ownsRow (M + 7) 3 1 vo op.length ((zs op).map (Value.int .i64))
  ownD : w.ownsRow (M + 7) 3 1 vd dn.length ((zs dn).map (Value.int .i64))
  apart : vo.ownBlock = none ∨ vo.ownBlock ≠ vd.ownBlock
  inR : ∀ x, x < n → ∀ t ∈ R x, t < n
  gm : G < M

theorem BW.size {w : World} {M G n : Nat} {S : Nat → Bool} {R : Nat → List Nat} {V : Nat → Value} {op dn : List Nat} {vo vd : Value} (h : BW w M G n S R V op dn vo vd) : M + 6 < w.heap.size := block_lt h.rbox
/-- Where the blocks are as they were. -/
theorem BW.of_blocks {w w' : World} {M G n : Nat} {S : Nat → Bool} {R : Nat → List Nat} {V : Nat → Value} {op dn : List Nat} {vo vd : Value} (h : BW w M G n S R V op dn vo vd)
    (hk : ∀ k, k < M + 7 → w'.heap[k]? = w.heap[k]?) (ho : ∀ g, vo.ownBlock = some g → w'.heap[g]? = w.heap[g]?) (hd : ∀ g, vd.ownBlock = some g → w'.heap[g]? = w.heap[g]?) : BW w' M G n S R V op dn vo vd := by
  have hgm := h.gm
  refine ⟨(hk _ (by omega)).trans h.nbox, (hk _ (by omega)).trans h.gbox, (hk _ (by omega)).trans h.dbox, (hk _ (by omega)).trans h.obox, (hk _ (by omega)).trans h.ebox, (hk _ (by omega)).trans h.rbox, h.grow.of_block (hk _ (by omega)), h.nrow.of_block (hk _ (by omega)), fun x hx => ?_, ownsRow_block h.ownO ho, ownsRow_block h.ownD hd, h.apart, h.inR, h.gm⟩
  obtain ⟨A, c, e, hs⟩ := h.lists x hx
  exact ⟨A, c, e, SIntsB.go (fun a v hb ha => (World.cell?_of_block (hk _ (by have := hb.1; omega))).trans ha) (fun _ hb => hb) hs⟩
theorem BW.below {w w' : World} {M G n : Nat} {S : Nat → Bool} {R : Nat → List Nat} {V : Nat → Value} {op dn : List Nat} {vo vd : Value} (h : BW w M G n S R V op dn vo vd) (hb : Below w.heap.size w w') : BW w' M G n S R V op dn vo vd :=
  h.of_blocks (fun k hk => hb.block k (by have := h.size; omega)) (fun g hg => hb.block g (h.ownO.lt g hg).2) (fun g hg => hb.block g (h.ownD.lt g hg).2)
theorem BW.drewN {w : World} {M G n : Nat} {S : Nat → Bool} {R : Nat → List Nat} {V : Nat → Value} {op dn : List Nat} {vo vd : Value} (h : BW w M G n S R V op dn vo vd) (k : Nat) : BW (w.drewN k) M G n S R V op dn vo vd :=
  h.of_blocks (fun _ _ => rfl) (fun _ _ => rfl) (fun _ _ => rfl)
theorem BW.congr {w : World} {M G n : Nat} {S S' : Nat → Bool} {R : Nat → List Nat} {V : Nat → Value} {op dn : List Nat} {vo vd : Value} (h : BW w M G n S R V op dn vo vd) (e : ∀ x, x < n → S x = S' x) : BW w M G n S' R V op dn vo vd :=
  ⟨h.nbox, h.gbox, h.dbox, h.obox, h.ebox, h.rbox, h.grow.congr fun x hx => by rw [e x hx], h.nrow, h.lists, h.ownO, h.ownD, h.apart, h.inR, h.gm⟩
/-- A block is marked. -/
theorem BW.gone {w : World} {M G n : Nat} {S : Nat → Bool} {R : Nat → List Nat} {V : Nat → Value} {op dn : List Nat} {vo vd : Value} (h : BW w M G n S R V op dn vo vd) (b : Nat) : BW (w.setCell ⟨M + 1, b, none⟩ (.bool true)) M G n (mark S b) R V op dn vo vd := by
  have hgm := h.gm
  have hk : ∀ k, k ≠ M + 1 → (w.setCell ⟨M + 1, b, none⟩ (.bool true)).heap[k]? = w.heap[k]? := fun k hk => Below.heap_setCell _ _ _ _ hk
  refine ⟨(hk _ (by omega)).trans h.nbox, (hk _ (by omega)).trans h.gbox, (hk _ (by omega)).trans h.dbox, (hk _ (by omega)).trans h.obox, (hk _ (by omega)).trans h.ebox, (hk _ (by omega)).trans h.rbox, (h.grow.set b (.bool true)).congr fun x hx => ?_, h.nrow.of_block (hk _ (by omega)), fun x hx => ?_, ownsRow_block h.ownO (fun g hg => hk g (by have := (h.ownO.lt g hg).1; omega)), ownsRow_block h.ownD (fun g hg => hk g (by have := (h.ownD.lt g hg).1; omega)), h.apart, h.inR, h.gm⟩
  · unfold mark; split <;> simp_all
  · obtain ⟨A, c, e, hs⟩ := h.lists x hx
    exact ⟨A, c, e, SIntsB.go (fun a v hb ha => (World.cell?_of_block (hk _ (by have := hb.1; omega))).trans ha) (fun _ hb => hb) hs⟩
/-- The row of open ones is another one. -/
theorem BW.open_ {w w2 : World} {M G n : Nat} {S : Nat → Bool} {R : Nat → List Nat} {V : Nat → Value} {op dn op' : List Nat} {vo vd vo' : Value} (h : BW w M G n S R V op dn vo vd)
    (hk : ∀ k, k < M + 7 → w2.heap[k]? = w.heap[k]?) (hd : ∀ g, vd.ownBlock = some g → w2.heap[g]? = w.heap[g]?)
    (hown : w2.ownsRow (M + 7) 3 1 vo' op'.length ((zs op').map (Value.int .i64))) (ha : vo'.ownBlock = none ∨ vo'.ownBlock ≠ vd.ownBlock) : BW (w2.setCell ⟨M + 4, 0, none⟩ vo') M G n S R V op' dn vo' vd := by
  have hgm := h.gm
  have hs : ∀ k, k ≠ M + 4 → (w2.setCell ⟨M + 4, 0, none⟩ vo').heap[k]? = w2.heap[k]? := fun k hk => Below.heap_setCell _ _ _ _ hk
  have hk' : ∀ k, k < M + 7 → k ≠ M + 4 → (w2.setCell ⟨M + 4, 0, none⟩ vo').heap[k]? = w.heap[k]? := fun k h1 h2 => (hs k h2).trans (hk k h1)
  refine ⟨(hk' _ (by omega) (by omega)).trans h.nbox, (hk' _ (by omega) (by omega)).trans h.gbox, (hk' _ (by omega) (by omega)).trans h.dbox, set_of_block (i := 0) vo' ((hk _ (by omega)).trans h.obox), (hk' _ (by omega) (by omega)).trans h.ebox, (hk' _ (by omega) (by omega)).trans h.rbox, h.grow.of_block (hk' _ (by omega) (by omega)), h.nrow.of_block (hk' _ (by omega) (by omega)), fun x hx => ?_,
    ownsRow_block hown (fun g hg => hs g (by have := (hown.lt g hg).1; omega)), ownsRow_block h.ownD (fun g hg => (hs g (by have := (h.ownD.lt g hg).1; omega)).trans (hd g hg)), ha, h.inR, h.gm⟩
  obtain ⟨A, c, e, hsl⟩ := h.lists x hx
  exact ⟨A, c, e, SIntsB.go (fun a v hb ha => (World.cell?_of_block (hk' _ (by have := hb.1; omega) (by have := hb.1; omega))).trans ha) (fun _ hb => hb) hsl⟩
/-- The row of done ones is another one. -/
theorem BW.done_ {w w2 : World} {M G n : Nat} {S : Nat → Bool} {R : Nat → List Nat} {V : Nat → Value} {op dn dn' : List Nat} {vo vd vd' : Value} (h : BW w M G n S R V op dn vo vd)
    (hk : ∀ k, k < M + 7 → w2.heap[k]? = w.heap[k]?) (ho : ∀ g, vo.ownBlock = some g → w2.heap[g]? = w.heap[g]?)
    (hown : w2.ownsRow (M + 7) 3 1 vd' dn'.length ((zs dn').map (Value.int .i64))) (ha : vo.ownBlock = none ∨ vo.ownBlock ≠ vd'.ownBlock) : BW (w2.setCell ⟨M + 3, 0, none⟩ vd') M G n S R V op dn' vo vd' := by
  have hgm := h.gm
  have hs : ∀ k, k ≠ M + 3 → (w2.setCell ⟨M + 3, 0, none⟩ vd').heap[k]? = w2.heap[k]? := fun k hk => Below.heap_setCell _ _ _ _ hk
  have hk' : ∀ k, k < M + 7 → k ≠ M + 3 → (w2.setCell ⟨M + 3, 0, none⟩ vd').heap[k]? = w.heap[k]? := fun k h1 h2 => (hs k h2).trans (hk k h1)
  refine ⟨(hk' _ (by omega) (by omega)).trans h.nbox, (hk' _ (by omega) (by omega)).trans h.gbox, set_of_block (i := 0) vd' ((hk _ (by omega)).trans h.dbox), (hk' _ (by omega) (by omega)).trans h.obox, (hk' _ (by omega) (by omega)).trans h.ebox, (hk' _ (by omega) (by omega)).trans h.rbox, h.grow.of_block (hk' _ (by omega) (by omega)), h.nrow.of_block (hk' _ (by omega) (by omega)), fun x hx => ?_,
    ownsRow_block h.ownO (fun g hg => (hs g (by have := (h.ownO.lt g hg).1; omega)).trans (ho g hg)), ownsRow_block hown (fun g hg => hs g (by have := (hown.lt g hg).1; omega)), ha, h.inR, h.gm⟩
  obtain ⟨A, c, e, hsl⟩ := h.lists x hx
  exact ⟨A, c, e, SIntsB.go (fun a v hb ha => (World.cell?_of_block (hk' _ (by have := hb.1; omega) (by have := hb.1; omega))).trans ha) (fun _ hb => hb) hsl⟩
/-- A block's list is another one. -/
theorem BW.next_ {w : World} {M G n b : Nat} {S : Nat → Bool} {R : Nat → List Nat} {V : Nat → Value} {op dn l : List Nat} {vo vd : Value} {A : Option Addr} {c : Nat} (h : BW w M G n S R V op dn vo vd) (hl : ∀ t ∈ l, t < n)
    (hs : SL w 1 (RIntB (fun b => b < M ∧ b ≠ G)) A c (zs l)) : BW (w.setCell ⟨G, b, none⟩ (.slice A l.length c)) M G n S (fun x => if x = b then l else R x) (fun x => if x = b then .slice A l.length c else V x) op dn vo vd := by
  have hgm := h.gm
  have hk : ∀ k, k ≠ G → (w.setCell ⟨G, b, none⟩ (.slice A l.length c)).heap[k]? = w.heap[k]? := fun k hk => Below.heap_setCell _ _ _ _ hk
  have hkb : KeptB (fun y => y < M ∧ y ≠ G) w (w.setCell ⟨G, b, none⟩ (.slice A l.length c)) := fun a v hb ha => (World.cell?_of_block (hk _ hb.2)).trans ha
  refine ⟨(hk _ (by omega)).trans h.nbox, (hk _ (by omega)).trans h.gbox, (hk _ (by omega)).trans h.dbox, (hk _ (by omega)).trans h.obox, (hk _ (by omega)).trans h.ebox, (hk _ (by omega)).trans h.rbox, h.grow.of_block (hk _ (by omega)), h.nrow.set b _, fun x hx => ?_, ownsRow_block h.ownO (fun g hg => hk g (by have := (h.ownO.lt g hg).1; omega)), ownsRow_block h.ownD (fun g hg => hk g (by have := (h.ownD.lt g hg).1; omega)), h.apart, fun x hx => ?_, h.gm⟩
  · by_cases e : x = b
    · simp only [if_pos e]; exact ⟨A, c, rfl, SIntsB.go hkb (fun _ hb => hb) hs⟩
    · simp only [if_neg e]
      obtain ⟨A', c', e', hs'⟩ := h.lists x hx
      exact ⟨A', c', e', SIntsB.go hkb (fun _ hb => hb) hs'⟩
  · by_cases e : x = b
    · simp only [if_pos e]; exact hl
    · simp only [if_neg e]; exact h.inR x hx

theorem size_int (w : World) : (sizeOf (Try.prog.elem 22)).run Try.prog w = .ok 1 w := by kernel_rfl
theorem elem_ints : Try.prog.underlying 22 = some (.slice (Try.prog.elem 22)) := by kernel_rfl
/-- The first of a list is cut off. -/
theorem cut_first {B : Nat → Prop} {w : World} {A : Option Addr} {c : Nat} {x : Int} {xs : List Int} (h : SL w 1 (RIntB B) A c (x :: xs)) :
    ∃ A' c', (∀ W, (Instr.slice 22 (.slice A (xs.length + 1) c) (some (.int .i64 1)) none none).run Try.prog W = .ok (.slice A' xs.length c') W) ∧ SL w 1 (RIntB B) A' c' xs := by
  obtain ⟨h1, ⟨h2, _⟩, h3⟩ := h
  obtain ⟨b, o, rfl, hx⟩ := h3 (by simp)
  simp only [List.length_cons] at h1
  have hrun : ∀ W, (Instr.slice 22 (.slice (some ⟨b, o, none⟩) (xs.length + 1) c) (some (.int .i64 1)) none none).run Try.prog W = .ok (sliced (some ⟨b, o, none⟩) 1 (xs.length + 1) c 1) W := fun W => by
    rw [run_slice_l W 22 (some ⟨b, o, none⟩) (xs.length + 1) c elem_ints .i64 1 (by omega) (by omega), size_int]
    simp [Result.andThen]
  by_cases hc : c = 1
  · obtain rfl : xs = [] := List.length_eq_zero_iff.1 (by omega)
    refine ⟨some ⟨b, o, none⟩, c - 1, fun W => (hrun W).trans (by unfold sliced; rw [if_pos hc]; simp), Nat.zero_le _, ⟨by omega, fun e => by cases e⟩, fun h => absurd h (by simp)⟩
  · refine ⟨some ⟨b, o + 1, none⟩, c - 1, fun W => (hrun W).trans (by unfold sliced; rw [if_neg hc, Option.map_some]; unfold Addr.add; simp), by omega, ⟨by omega, fun e => by cases e⟩, fun _ => ⟨b, o + 1, rfl, fun i y hi => ?_⟩⟩
    have := hx (i + 1) y (by simpa using hi)
    rwa [show o + (i + 1) * 1 = o + 1 + i * 1 by omega] at this
/-- The last of a row that the call owns is cut off. -/
theorem own_pop {w : World} {base : Nat} {v : Value} {xs : List Nat} {x : Nat} (h : w.ownsRow base 3 1 v (xs ++ [x]).length ((zs (xs ++ [x])).map (Value.int .i64))) :
    ∃ g cap, v = .slice (some ⟨g, 0, none⟩) (xs.length + 1) cap ∧ w.cell? ⟨g, xs.length, none⟩ = some (.int .i64 x) ∧ xs.length + 1 ≤ cap ∧ cap ≤ maxLen ∧
      (∀ W, (Instr.slice 22 (.slice (some ⟨g, 0, none⟩) (xs.length + 1) cap) none (some (.int .i64 xs.length)) none).run Try.prog W = .ok (.slice (some ⟨g, 0, none⟩) xs.length cap) W) ∧
      w.ownsRow base 3 1 (.slice (some ⟨g, 0, none⟩) xs.length cap) xs.length ((zs xs).map (Value.int .i64)) := by
  have hl : (xs ++ [x]).length = xs.length + 1 := by simp
  have h0 := h
  obtain ⟨h1, ⟨-, h2⟩ | ⟨g, cap, cur, rfl, hb, hh, hn, hc, hsz, ht⟩⟩ := h
  · rw [hl] at h2; omega
  · rw [hl] at hn ht
    refine ⟨g, cap, by rw [hl], ?_, hn, hc, fun W => ?_, ⟨by simp [zs], .inr ⟨g, cap, cur, rfl, hb, hh, by omega, hc, hsz, ?_⟩⟩⟩
    · have := h0.cells (g := g) rfl xs.length (.int .i64 x) (by simp [zs])
      rwa [show (⟨g, 0, none⟩ : Addr).add xs.length = ⟨g, xs.length, none⟩ by unfold Addr.add; split <;> simp_all] at this
    · rw [run_slice_h W 22 (some ⟨g, 0, none⟩) (xs.length + 1) cap elem_ints .i64 xs.length (by omega) (by omega), size_int]
      have hc0 : cap ≠ 0 := by omega
      simp [Result.andThen, sliced, hc0, Addr.add]
    · have : cur.toList.take (xs.length * 1) = (cur.toList.take ((xs.length + 1) * 1)).take xs.length := by rw [List.take_take]; congr 1; omega
      rw [this, ht, zs_snoc, List.map_append, List.take_left' (by simp [zs])]
theorem own_bound {w : World} {base n : Nat} {v : Value} {xs : List Value} (h : w.ownsRow base 3 1 v n xs) : n ≤ maxLen := by
  obtain ⟨-, ⟨-, rfl⟩ | ⟨g, cap, cur, -, -, -, hn, hc, -, -⟩⟩ := h
  · exact Nat.zero_le _
  · omega

def ToldB (M G n : Nat) (S : Nat → Bool) (R : Nat → List Nat) (V : Nat → Value) (op dn : List Nat) (vd : Value) (w : World) (e : Ending) (w' : World) : Prop :=
  e = .returned (.tuple #[]) ∧ (∃ vo', BW w' M G n S R V op dn vo' vd) ∧ BB M G w w'

set_option maxHeartbeats 4000000 in
theorem enterG_any (M G n b : Nat) (S : Nat → Bool) (R : Nat → List Nat) (V : Nat → Value) (op dn : List Nat) (vo vd : Value) (w : World) (h : BW w M G n S R V op dn vo vd) (hb : b < n) (hn : n ≤ 1000000) (ho : op.length ≤ 1000000) :
    Calls Try.prog 52 #[.int .i64 b, .pointer (some ⟨M + 2, 0, none⟩), .pointer (some ⟨M + 4, 0, none⟩)] w (ToldB M G n (mark S b) R V (op ++ [b]) dn vd w) := by
  obtain ⟨i0, hi, hz0, hz1, hz2⟩ := info_parts Try.info3
  have HI := Lib.hid (And.intro hi (And.intro hz0 (And.intro hz1 hz2)))
  clear hi hz0 hz1 hz2
  have hM := h.size
  have hgm := h.gm
  have c1 : w.cell? ⟨M + 2, 0, none⟩ = some (.slice (some ⟨M + 1, 0, none⟩) n n) := cell_of_block h.gbox 0
  have c2 := h.grow.cell hb
  have f2 := h.grow.frozen b
  have hg := h.gone b
  have hbb : BB M G w (w.setCell ⟨M + 1, b, none⟩ (.bool true)) := (BB.refl M G w).setCell (.inr (by show M ≤ M + 1; omega)) _
  have hz : (w.setCell ⟨M + 1, b, none⟩ (.bool true)).heap.size = w.heap.size := by simp
  have HH := Lib.hid h
  clear h
  go_enter Try.func52, Try.ntmps52
  go_upto_region 1 with fail
  clear c1 c2 f2
  generalize w.setCell ⟨M + 1, b, none⟩ (.bool true) = w1 at *
  have hM1 : M + 6 < w1.heap.size := by omega
  have c3 : w1.cell? ⟨M + 4, 0, none⟩ = some vo := cell_of_block hg.obox 0
  have HBB := Lib.hid hbb
  have HZ := Lib.hid hz
  clear hbb hz
  go_wp2_with (at_builtin; refine wpList_append_lies _ rfl (.tmp 7) (.tmp 9) 22 rfl (M + 7) 3 i0 (.int .i64 0) 1 8 Try.underlying22 HI.out.1 HI.out.2.1 HI.out.2.2.1 HI.out.2.2.2 rfl (by decide) vo _ _ rfl (hg.ownO.alloc _) ⟨w1.heap.size, 0, none⟩ 1 1 [.int .i64 b] rfl rfl ?c1 ?c2 ?c0 ?c3 ?c4 ?c5 (w1.heap.size + 1) ?c6 ?_)
  case c1 => exact news_one_add w1 _ _ rfl
  case c2 => exact ints_oneCell .i64 [(b : Int)]
  case c0 => omega
  case c3 => unfold maxLen; omega
  case c4 => omega
  case c5 => simp; omega
  case c6 => simp
  intro g cap w2 hown hgrow hloc hlt
  have hk : ∀ k, k < w1.heap.size → some k ≠ vo.ownBlock → w2.heap[k]? = w1.heap[k]? := fun k hk hne => (hgrow.block k (by simp; omega) hne).trans (Below.heap_alloc _ _ _ hk)
  have hlow : ∀ k, k < M + 7 → w2.heap[k]? = w1.heap[k]? := fun k hk' => hk k (by omega) (fun e => by have := (hg.ownO.lt k e.symm).1; omega)
  have hnew := hg.open_ (op' := op ++ [b]) (vo' := .slice (some ⟨g, 0, none⟩) (op.length + 1) cap) hlow (fun x hx => hk x (hg.ownD.lt x hx).2 (fun e => by
      rcases hg.apart with h | h
      · rw [h] at e; cases e
      · exact h (e.symm.trans hx.symm))) (by simpa [zs] using hown) (by
    right
    intro e
    have hgd : vd.ownBlock = some g := by rw [← e]; rfl
    rcases hloc with h | h
    · rcases hg.apart with h2 | h2
      · rw [h] at h2; cases h2
      · exact h2 (h.trans hgd.symm)
    · have := (hg.ownD.lt g hgd).2; omega)
  have c4 : w2.cell? ⟨M + 4, 0, none⟩ = some vo := (World.cell?_of_block (a := ⟨M + 4, 0, none⟩) (hlow (M + 4) (by omega))).trans c3
  have f4 : w2.frozen? ⟨M + 4, 0, none⟩ = false := free_of_block ((hlow (M + 4) (by omega)).trans hg.obox) 0
  have hbb2 : BB M G w w2 := (HBB.out.alloc (by have := HZ.out; omega) _).grown hgrow (by have := HZ.out; simp; omega) (fun k hk => .inr (by have := (hg.ownO.lt k hk).1; omega))
  have HN := Lib.hid hnew
  have HB2 := Lib.hid hbb2
  clear hown hgrow hloc hk hlow hnew hbb2 hg c3
  go_wp2_with fail
  go_end0
  exact ⟨rfl, ⟨_, HN.out⟩, HB2.out.setCell (.inr (by show M ≤ M + 4; omega)) _⟩
end Go.Proofs.Ytooblmiffgjmjaa
