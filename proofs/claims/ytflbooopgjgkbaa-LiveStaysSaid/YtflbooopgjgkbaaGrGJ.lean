/- What backwards keeps while it goes through blocks, and the closures that do it: enter, goOn. -/
import Derived.Test.YtflbooopgjgkbaaOwnSJ
import Derived.Test.YtflbooopgjgkbaaDmFrJ
import Derived.StillTailTactics
namespace Go.Proofs.Ytflbooopgjgkbaa
open Go.ChangeShapes Go.WideShapes Go.RowKit Go.Deep
set_option linter.unusedVariables false

theorem mono_of {α : Type} (a b : α) (h : a = b) : b = a := h.symm

/-- What backwards keeps: next, gone, open, done, enter, goOn. -/
structure BW (w : World) (M G n : Nat) (S : Nat → Bool) (R : Nat → List Nat) (V : Nat → Value) (op dn : List Nat) (vo vd : Value) : Prop where
  nbox : w.heap[M]? = some (.cells #[.slice (some ⟨G, 0, none⟩) n n] 68 (0, 0))
  gbox : w.heap[M + 2]? = some (.cells #[.slice (some ⟨M + 1, 0, none⟩) n n] 46 (0, 0))
  dbox : w.heap[M + 3]? = some (.cells #[vd] 22 (0, 0))
  obox : w.heap[M + 4]? = some (.cells #[vo] 22 (0, 0))
  ebox : w.heap[M + 5]? = some (.cells #[.func (.func 83) #[] #[.pointer (some ⟨M + 2, 0, none⟩), .pointer (some ⟨M + 4, 0, none⟩)]] 135 (0, 0))
  rbox : w.heap[M + 6]? = some (.cells #[.func (.func 84) #[] #[.pointer (some ⟨M, 0, none⟩), .pointer (some ⟨M + 2, 0, none⟩), .pointer (some ⟨M + 5, 0, none⟩), .pointer (some ⟨M + 6, 0, none⟩), .pointer (some ⟨M + 4, 0, none⟩), .pointer (some ⟨M + 3, 0, none⟩)]] 108 (0, 0))
  grow : w.rowIs (M + 1) 4 n (fun x => .bool (S x))
  nrow : w.rowIs G 22 n V
  lists : ∀ x, x < n → ∃ A c, V x = .slice A (R x).length c ∧ SL w 1 (RIntB (fun b => b < M ∧ b ≠ G)) A c (zs (R x))
  ownO : w.ownsRow (M + 7) 3 1 vo op.length ((zs op).map (Value.int .i64))
  ownD : w.ownsRow (M + 7) 3 1 vd dn.length ((zs dn).map (Value.int .i64))
  apart : vo.ownBlock = none ∨ vo.ownBlock ≠ vd.ownBlock
  inR : ∀ x, x < n → ∀ t ∈ R x, t < n
  gm : G < M

theorem BW.size {w : World} {M G n : Nat} {S : Nat → Bool} {R : Nat → List Nat} {V : Nat → Value} {op dn : List Nat} {vo vd : Value} (h : BW w M G n S R V op dn vo vd) : M + 6 < w.heap.size := block_lt h.rbox
/-- Where the blocks are as they were. -/
theorem BW.of_blocks {w w' : World} {M G n : Nat} {S : Nat → Bool} {R : Nat → List Nat} {V : Nat → Value} {op dn : List Nat} {vo vd : Value} (h : BW w M G n S R V op dn vo vd)
    (hk : ∀ k, k < M + 7 → w'.heap[k]? = w.heap[k]?) (ho : ∀ g, vo.ownBlock = some g → w'.heap[g]? = w.heap[g]?) (hd : ∀ g, vd.ownBlock = some g → w'.heap[g]? = w.heap[g]?) : BW w' M G n S R V op dn vo vd := by
  have hgm := h.gm
  refine ⟨(hk _ (by omega)).trans h.nbox, (hk _ (by omega)).trans h.gbox, (hk _ (by omega)).trans h.dbox, (hk _ (by omega)).trans h.obox, (hk _ (by omega)).trans h.ebox, (hk _ (by omega)).trans h.rbox, h.grow.of_block (hk _ (by omega)), h.nrow.of_block (hk _ (by omega)), fun x hx => ?_, ownsRow_block h.ownO ho, ownsRow_block h.ownD hd, h.apart, h.inR, h.gm⟩
  obtain ⟨A, c, e, hs⟩ := h.lists x hx
  exact ⟨A, c, e, SIntsB.go (fun a v hb ha => (World.cell?_of_block (hk _ (by have := hb.1; omega))).trans ha) (fun _ hb => hb) hs⟩
theorem BW.below {w w' : World} {M G n : Nat} {S : Nat → Bool} {R : Nat → List Nat} {V : Nat → Value} {op dn : List Nat} {vo vd : Value} (h : BW w M G n S R V op dn vo vd) (hb : Below w.heap.size w w') : BW w' M G n S R V op dn vo vd :=
  h.of_blocks (fun k hk => hb.block k (by have := h.size; omega)) (fun g hg => hb.block g (h.ownO.lt g hg).2) (fun g hg => hb.block g (h.ownD.lt g hg).2)
theorem BW.drewN {w : World} {M G n : Nat} {S : Nat → Bool} {R : Nat → List Nat} {V : Nat → Value} {op dn : List Nat} {vo vd : Value} (h : BW w M G n S R V op dn vo vd) (k : Nat) : BW (w.drewN k) M G n S R V op dn vo vd :=
  h.of_blocks (fun _ _ => rfl) (fun _ _ => rfl) (fun _ _ => rfl)
theorem BW.congr {w : World} {M G n : Nat} {S S' : Nat → Bool} {R : Nat → List Nat} {V : Nat → Value} {op dn : List Nat} {vo vd : Value} (h : BW w M G n S R V op dn vo vd) (e : ∀ x, x < n → S x = S' x) : BW w M G n S' R V op dn vo vd :=
  ⟨h.nbox, h.gbox, h.dbox, h.obox, h.ebox, h.rbox, h.grow.congr fun x hx => by rw [e x hx], h.nrow, h.lists, h.ownO, h.ownD, h.apart, h.inR, h.gm⟩
/-- A block is marked. -/
theorem BW.gone {w : World} {M G n : Nat} {S : Nat → Bool} {R : Nat → List Nat} {V : Nat → Value} {op dn : List Nat} {vo vd : Value} (h : BW w M G n S R V op dn vo vd) (b : Nat) : BW (w.setCell ⟨M + 1, b, none⟩ (.bool true)) M G n (mark S b) R V op dn vo vd := by
  have hgm := h.gm
  have hk : ∀ k, k ≠ M + 1 → (w.setCell ⟨M + 1, b, none⟩ (.bool true)).heap[k]? = w.heap[k]? := fun k hk => Below.heap_setCell _ _ _ _ hk
  refine ⟨(hk _ (by omega)).trans h.nbox, (hk _ (by omega)).trans h.gbox, (hk _ (by omega)).trans h.dbox, (hk _ (by omega)).trans h.obox, (hk _ (by omega)).trans h.ebox, (hk _ (by omega)).trans h.rbox, (h.grow.set b (.bool true)).congr fun x hx => ?_, h.nrow.of_block (hk _ (by omega)), fun x hx => ?_, ownsRow_block h.ownO (fun g hg => hk g (by have := (h.ownO.lt g hg).1; omega)), ownsRow_block h.ownD (fun g hg => hk g (by have := (h.ownD.lt g hg).1; omega)), h.apart, h.inR, h.gm⟩
  · unfold mark; split <;> simp_all
  · obtain ⟨A, c, e, hs⟩ := h.lists x hx
    exact ⟨A, c, e, SIntsB.go (fun a v hb ha => (World.cell?_of_block (hk _ (by have := hb.1; omega))).trans ha) (fun _ hb => hb) hs⟩
/-- The row of open ones is another one. -/
theorem BW.open_ {w w2 : World} {M G n : Nat} {S : Nat → Bool} {R : Nat → List Nat} {V : Nat → Value} {op dn op' : List Nat} {vo vd vo' : Value} (h : BW w M G n S R V op dn vo vd)
    (hk : ∀ k, k < M + 7 → w2.heap[k]? = w.heap[k]?) (hd : ∀ g, vd.ownBlock = some g → w2.heap[g]? = w.heap[g]?)
    (hown : w2.ownsRow (M + 7) 3 1 vo' op'.length ((zs op').map (Value.int .i64))) (ha : vo'.ownBlock = none ∨ vo'.ownBlock ≠ vd.ownBlock) : BW (w2.setCell ⟨M + 4, 0, none⟩ vo') M G n S R V op' dn vo' vd := by
  have hgm := h.gm
  have hs : ∀ k, k ≠ M + 4 → (w2.setCell ⟨M + 4, 0, none⟩ vo').heap[k]? = w2.heap[k]? := fun k hk => Below.heap_setCell _ _ _ _ hk
  have hk' : ∀ k, k < M + 7 → k ≠ M + 4 → (w2.setCell ⟨M + 4, 0, none⟩ vo').heap[k]? = w.heap[k]? := fun k h1 h2 => (hs k h2).trans (hk k h1)
  refine ⟨(hk' _ (by omega) (by omega)).trans h.nbox, (hk' _ (by omega) (by omega)).trans h.gbox, (hk' _ (by omega) (by omega)).trans h.dbox, set_of_block (i := 0) vo' ((hk _ (by omega)).trans h.obox), (hk' _ (by omega) (by omega)).trans h.ebox, (hk' _ (by omega) (by omega)).trans h.rbox, h.grow.of_block (hk' _ (by omega) (by omega)), h.nrow.of_block (hk' _ (by omega) (by omega)), fun x hx => ?_,
    ownsRow_block hown (fun g hg => hs g (by have := (hown.lt g hg).1; omega)), ownsRow_block h.ownD (fun g hg => (hs g (by have := (h.ownD.lt g hg).1; omega)).trans (hd g hg)), ha, h.inR, h.gm⟩
  obtain ⟨A, c, e, hsl⟩ := h.lists x hx
  exact ⟨A, c, e, SIntsB.go (fun a v hb ha => (World.cell?_of_block (hk' _ (by have := hb.1; omega) (by have := hb.1; omega))).trans ha) (fun _ hb => hb) hsl⟩
/-- The row of done ones is another one. -/
theorem BW.done_ {w w2 : World} {M G n : Nat} {S : Nat → Bool} {R : Nat → List Nat} {V : Nat → Value} {op dn dn' : List Nat} {vo vd vd' : Value} (h : BW w M G n S R V op dn vo vd)
    (hk : ∀ k, k < M + 7 → w2.heap[k]? = w.heap[k]?) (ho : ∀ g, vo.ownBlock = some g → w2.heap[g]? = w.heap[g]?)
    (hown : w2.ownsRow (M + 7) 3 1 vd' dn'.length ((zs dn').map (Value.int .i64))) (ha : vo.ownBlock = none ∨ vo.ownBlock ≠ vd'.ownBlock) : BW (w2.setCell ⟨M + 3, 0, none⟩ vd') M G n S R V op dn' vo vd' := by
  have hgm := h.gm
  have hs : ∀ k, k ≠ M + 3 → (w2.setCell ⟨M + 3, 0, none⟩ vd').heap[k]? = w2.heap[k]? := fun k hk => Below.heap_setCell _ _ _ _ hk
  have hk' : ∀ k, k < M + 7 → k ≠ M + 3 → (w2.setCell ⟨M + 3, 0, none⟩ vd').heap[k]? = w.heap[k]? := fun k h1 h2 => (hs k h2).trans (hk k h1)
  refine ⟨(hk' _ (by omega) (by omega)).trans h.nbox, (hk' _ (by omega) (by omega)).trans h.gbox, set_of_block (i := 0) vd' ((hk _ (by omega)).trans h.dbox), (hk' _ (by omega) (by omega)).trans h.obox, (hk' _ (by omega) (by omega)).trans h.ebox, (hk' _ (by omega) (by omega)).trans h.rbox, h.grow.of_block (hk' _ (by omega) (by omega)), h.nrow.of_block (hk' _ (by omega) (by omega)), fun x hx => ?_,
    ownsRow_block h.ownO (fun g hg => (hs g (by have := (h.ownO.lt g hg).1; omega)).trans (ho g hg)), ownsRow_block hown (fun g hg => hs g (by have := (hown.lt g hg).1; omega)), ha, h.inR, h.gm⟩
  obtain ⟨A, c, e, hsl⟩ := h.lists x hx
  exact ⟨A, c, e, SIntsB.go (fun a v hb ha => (World.cell?_of_block (hk' _ (by have := hb.1; omega) (by have := hb.1; omega))).trans ha) (fun _ hb => hb) hsl⟩
/-- A block's list is another one. -/
theorem BW.next_ {w : World} {M G n b : Nat} {S : Nat → Bool} {R : Nat → List Nat} {V : Nat → Value} {op dn l : List Nat} {vo vd : Value} {A : Option Addr} {c : Nat} (h : BW w M G n S R V op dn vo vd) (hl : ∀ t ∈ l, t < n)
    (hs : SL w 1 (RIntB (fun b => b < M ∧ b ≠ G)) A c (zs l)) : BW (w.setCell ⟨G, b, none⟩ (.slice A l.length c)) M G n S (fun x => if x = b then l else R x) (fun x => if x = b then .slice A l.length c else V x) op dn vo vd := by
  have hgm := h.gm
  have hk : ∀ k, k ≠ G → (w.setCell ⟨G, b, none⟩ (.slice A l.length c)).heap[k]? = w.heap[k]? := fun k hk => Below.heap_setCell _ _ _ _ hk
  have hkb : KeptB (fun y => y < M ∧ y ≠ G) w (w.setCell ⟨G, b, none⟩ (.slice A l.length c)) := fun a v hb ha => (World.cell?_of_block (hk _ hb.2)).trans ha
  refine ⟨(hk _ (by omega)).trans h.nbox, (hk _ (by omega)).trans h.gbox, (hk _ (by omega)).trans h.dbox, (hk _ (by omega)).trans h.obox, (hk _ (by omega)).trans h.ebox, (hk _ (by omega)).trans h.rbox, h.grow.of_block (hk _ (by omega)), h.nrow.set b _, fun x hx => ?_, ownsRow_block h.ownO (fun g hg => hk g (by have := (h.ownO.lt g hg).1; omega)), ownsRow_block h.ownD (fun g hg => hk g (by have := (h.ownD.lt g hg).1; omega)), h.apart, fun x hx => ?_, h.gm⟩
  · by_cases e : x = b
    · simp only [if_pos e]; exact ⟨A, c, rfl, SIntsB.go hkb (fun _ hb => hb) hs⟩
    · simp only [if_neg e]
      obtain ⟨A', c', e', hs'⟩ := h.lists x hx
      exact ⟨A', c', e', SIntsB.go hkb (fun _ hb => hb) hs'⟩
  · by_cases e : x = b
    · simp only [if_pos e]; exact hl
    · simp only [if_neg e]; exact h.inR x hx

theorem size_int (w : World) : (sizeOf (Try.prog.elem 22)).run Try.prog w = .ok 1 w := by kernel_rfl
theorem elem_ints : Try.prog.underlying 22 = some (.slice (Try.prog.elem 22)) := by kernel_rfl
/-- The first of a list is cut off. -/
theorem cut_first {B : Nat → Prop} {w : World} {A : Option Addr} {c : Nat} {x : Int} {xs : List Int} (h : SL w 1 (RIntB B) A c (x :: xs)) :
    ∃ A' c', (∀ W, (Instr.slice 22 (.slice A (xs.length + 1) c) (some (.int .i64 1)) none none).run Try.prog W = .ok (.slice A' xs.length c') W) ∧ SL w 1 (RIntB B) A' c' xs := by
  obtain ⟨h1, ⟨h2, _⟩, h3⟩ := h
  obtain ⟨b, o, rfl, hx⟩ := h3 (by simp)
  simp only [List.length_cons] at h1
  have hrun : ∀ W, (Instr.slice 22 (.slice (some ⟨b, o, none⟩) (xs.length + 1) c) (some (.int .i64 1)) none none).run Try.prog W = .ok (sliced (some ⟨b, o, none⟩) 1 (xs.length + 1) c 1) W := fun W => by
    rw [run_slice_l W 22 (some ⟨b, o, none⟩) (xs.length + 1) c elem_ints .i64 1 (by omega) (by omega), size_int]
    simp [Result.andThen]
  by_cases hc : c = 1
  · obtain rfl : xs = [] := List.length_eq_zero_iff.1 (by omega)
    refine ⟨some ⟨b, o, none⟩, c - 1, fun W => (hrun W).trans (by unfold sliced; rw [if_pos hc]; simp), Nat.zero_le _, ⟨by omega, fun e => by cases e⟩, fun h => absurd h (by simp)⟩
  · refine ⟨some ⟨b, o + 1, none⟩, c - 1, fun W => (hrun W).trans (by unfold sliced; rw [if_neg hc, Option.map_some]; unfold Addr.add; simp), by omega, ⟨by omega, fun e => by cases e⟩, fun _ => ⟨b, o + 1, rfl, fun i y hi => ?_⟩⟩
    have := hx (i + 1) y (by simpa using hi)
    rwa [show o + (i + 1) * 1 = o + 1 + i * 1 by omega] at this
/-- The last of a row that the call owns is cut off. -/
theorem own_pop {w : World} {base : Nat} {v : Value} {xs : List Nat} {x : Nat} (h : w.ownsRow base 3 1 v (xs ++ [x]).length ((zs (xs ++ [x])).map (Value.int .i64))) :
    ∃ g cap, v = .slice (some ⟨g, 0, none⟩) (xs.length + 1) cap ∧ w.cell? ⟨g, xs.length, none⟩ = some (.int .i64 x) ∧ xs.length + 1 ≤ cap ∧ cap ≤ maxLen ∧
      (∀ W, (Instr.slice 22 (.slice (some ⟨g, 0, none⟩) (xs.length + 1) cap) none (some (.int .i64 xs.length)) none).run Try.prog W = .ok (.slice (some ⟨g, 0, none⟩) xs.length cap) W) ∧
      w.ownsRow base 3 1 (.slice (some ⟨g, 0, none⟩) xs.length cap) xs.length ((zs xs).map (Value.int .i64)) := by
  have hl : (xs ++ [x]).length = xs.length + 1 := by simp
  have h0 := h
  obtain ⟨h1, ⟨-, h2⟩ | ⟨g, cap, cur, rfl, hb, hh, hn, hc, hsz, ht⟩⟩ := h
  · rw [hl] at h2; omega
  · rw [hl] at hn ht
    refine ⟨g, cap, by rw [hl], ?_, hn, hc, fun W => ?_, ⟨by simp [zs], .inr ⟨g, cap, cur, rfl, hb, hh, by omega, hc, hsz, ?_⟩⟩⟩
    · have := h0.cells (g := g) rfl xs.length (.int .i64 x) (by simp [zs])
      rwa [show (⟨g, 0, none⟩ : Addr).add xs.length = ⟨g, xs.length, none⟩ by unfold Addr.add; split <;> simp_all] at this
    · rw [run_slice_h W 22 (some ⟨g, 0, none⟩) (xs.length + 1) cap elem_ints .i64 xs.length (by omega) (by omega), size_int]
      have hc0 : cap ≠ 0 := by omega
      simp [Result.andThen, sliced, hc0, Addr.add]
    · have : cur.toList.take (xs.length * 1) = (cur.toList.take ((xs.length + 1) * 1)).take xs.length := by rw [List.take_take]; congr 1; omega
      rw [this, ht, zs_snoc, List.map_append, List.take_left' (by simp [zs])]
theorem own_bound {w : World} {base n : Nat} {v : Value} {xs : List Value} (h : w.ownsRow base 3 1 v n xs) : n ≤ maxLen := by
  obtain ⟨-, ⟨-, rfl⟩ | ⟨g, cap, cur, -, -, -, hn, hc, -, -⟩⟩ := h
  · exact Nat.zero_le _
  · omega

def ToldB (M G n : Nat) (S : Nat → Bool) (R : Nat → List Nat) (V : Nat → Value) (op dn : List Nat) (vd : Value) (w : World) (e : Ending) (w' : World) : Prop :=
  e = .returned (.tuple #[]) ∧ (∃ vo', BW w' M G n S R V op dn vo' vd) ∧ BB M G w w'

set_option maxHeartbeats 4000000 in
theorem enterG_any (M G n b : Nat) (S : Nat → Bool) (R : Nat → List Nat) (V : Nat → Value) (op dn : List Nat) (vo vd : Value) (w : World) (h : BW w M G n S R V op dn vo vd) (hb : b < n) (hn : n ≤ 1000000) (ho : op.length ≤ 1000000) :
    Calls Try.prog 83 #[.int .i64 b, .pointer (some ⟨M + 2, 0, none⟩), .pointer (some ⟨M + 4, 0, none⟩)] w (ToldB M G n (mark S b) R V (op ++ [b]) dn vd w) := by
  obtain ⟨i0, hi, hz0, hz1, hz2⟩ := info_parts Try.info3
  have HI := Lib.hid (And.intro hi (And.intro hz0 (And.intro hz1 hz2)))
  clear hi hz0 hz1 hz2
  have hM := h.size
  have hgm := h.gm
  have c1 : w.cell? ⟨M + 2, 0, none⟩ = some (.slice (some ⟨M + 1, 0, none⟩) n n) := cell_of_block h.gbox 0
  have c2 := h.grow.cell hb
  have f2 := h.grow.frozen b
  have hg := h.gone b
  have hbb : BB M G w (w.setCell ⟨M + 1, b, none⟩ (.bool true)) := (BB.refl M G w).setCell (.inr (by show M ≤ M + 1; omega)) _
  have hz : (w.setCell ⟨M + 1, b, none⟩ (.bool true)).heap.size = w.heap.size := by simp
  have HH := Lib.hid h
  clear h
  go_enter Try.func83, Try.ntmps83
  go_upto_region 1 with fail
  clear c1 c2 f2
  generalize w.setCell ⟨M + 1, b, none⟩ (.bool true) = w1 at *
  have hM1 : M + 6 < w1.heap.size := by omega
  have c3 : w1.cell? ⟨M + 4, 0, none⟩ = some vo := cell_of_block hg.obox 0
  have HBB := Lib.hid hbb
  have HZ := Lib.hid hz
  clear hbb hz
  go_wp2_with (at_builtin; refine wpList_append_lies _ rfl (.tmp 7) (.tmp 9) 22 rfl (M + 7) 3 i0 (.int .i64 0) 1 8 Try.underlying22 HI.out.1 HI.out.2.1 HI.out.2.2.1 HI.out.2.2.2 rfl (by decide) vo _ _ rfl (hg.ownO.alloc _) ⟨w1.heap.size, 0, none⟩ 1 1 [.int .i64 b] rfl rfl ?c1 ?c2 ?c0 ?c3 ?c4 ?c5 (w1.heap.size + 1) ?c6 ?_)
  case c1 => exact news_one_add w1 _ _ rfl
  case c2 => exact ints_oneCell .i64 [(b : Int)]
  case c0 => omega
  case c3 => unfold maxLen; omega
  case c4 => omega
  case c5 => simp; omega
  case c6 => simp
  intro g cap w2 hown hgrow hloc hlt
  have hk : ∀ k, k < w1.heap.size → some k ≠ vo.ownBlock → w2.heap[k]? = w1.heap[k]? := fun k hk hne => (hgrow.block k (by simp; omega) hne).trans (Below.heap_alloc _ _ _ hk)
  have hlow : ∀ k, k < M + 7 → w2.heap[k]? = w1.heap[k]? := fun k hk' => hk k (by omega) (fun e => by have := (hg.ownO.lt k e.symm).1; omega)
  have hnew := hg.open_ (op' := op ++ [b]) (vo' := .slice (some ⟨g, 0, none⟩) (op.length + 1) cap) hlow (fun x hx => hk x (hg.ownD.lt x hx).2 (fun e => by
      rcases hg.apart with h | h
      · rw [h] at e; cases e
      · exact h (e.symm.trans hx.symm))) (by simpa [zs] using hown) (by
    right
    intro e
    have hgd : vd.ownBlock = some g := by rw [← e]; rfl
    rcases hloc with h | h
    · rcases hg.apart with h2 | h2
      · rw [h] at h2; cases h2
      · exact h2 (h.trans hgd.symm)
    · have := (hg.ownD.lt g hgd).2; omega)
  have c4 : w2.cell? ⟨M + 4, 0, none⟩ = some vo := (World.cell?_of_block (a := ⟨M + 4, 0, none⟩) (hlow (M + 4) (by omega))).trans c3
  have f4 : w2.frozen? ⟨M + 4, 0, none⟩ = false := free_of_block ((hlow (M + 4) (by omega)).trans hg.obox) 0
  have hbb2 : BB M G w w2 := (HBB.out.alloc (by have := HZ.out; omega) _).grown hgrow (by have := HZ.out; simp; omega) (fun k hk => .inr (by have := (hg.ownO.lt k hk).1; omega))
  have HN := Lib.hid hnew
  have HB2 := Lib.hid hbb2
  clear hown hgrow hloc hk hlow hnew hbb2 hg c3
  go_wp2_with fail
  go_end0
  exact ⟨rfl, ⟨_, HN.out⟩, HB2.out.setCell (.inr (by show M ≤ M + 4; omega)) _⟩
end Go.Proofs.Ytflbooopgjgkbaa

/- The closure that goes on from a block: goOn does what visit says. -/
namespace Go.Proofs.Ytflbooopgjgkbaa
open Go.ChangeShapes Go.WideShapes Go.RowKit Go.Deep
set_option linter.unusedVariables false

/-- What goOn leaves. -/
def ToldG (M G n : Nat) (nx : Nat → List Nat) (b : Nat) (S : Nat → Bool) (R : Nat → List Nat) (op : List Nat) (s' : DS) (w : World) (e : Ending) (w' : World) : Prop :=
  e = .returned (.tuple #[]) ∧ ∃ (R' : Nat → List Nat) (V' : Nat → Value) (vo' vd' : Value), BW w' M G n s'.seen R' V' op s'.out vo' vd' ∧ (∀ x, x < n → s'.seen x = false → R' x = nx x) ∧ (∀ x, x < n → S x = true → x ≠ b → R' x = R x) ∧ BB M G w w'
def lenAt (G b : Nat) (w : World) : Nat := match w.cell? ⟨G, b, none⟩ with
  | some (.slice _ m _) => m
  | _ => 0
theorem lenAt_of {G b m : Nat} {w : World} {A : Option Addr} {c : Nat} (h : w.cell? ⟨G, b, none⟩ = some (.slice A m c)) : lenAt G b w = m := by unfold lenAt; rw [h]
theorem zs_cons (q : Nat) (l : List Nat) : zs (q :: l) = (q : Int) :: zs l := rfl

def GoOn (M G n F : Nat) (nx : Nat → List Nat) : Prop := ∀ (b deep : Nat) (l : List Nat) (S : Nat → Bool) (R : Nat → List Nat) (V : Nat → Value) (op dn : List Nat) (vo vd : Value) (w : World),
  BW w M G n S R V (op ++ [b]) dn vo vd → b < n → S b = true → R b = l → (∀ x, x < n → S x = false → R x = nx x) → unseen n S ≤ F → deep + F < 4096 → op.length + F ≤ 900000 → dn.length + unseen n S ≤ 900000 →
  Calls Try.prog 84 #[.int .i64 b, .int .i64 deep, .pointer (some ⟨M, 0, none⟩), .pointer (some ⟨M + 2, 0, none⟩), .pointer (some ⟨M + 5, 0, none⟩), .pointer (some ⟨M + 6, 0, none⟩), .pointer (some ⟨M + 4, 0, none⟩), .pointer (some ⟨M + 3, 0, none⟩)] w
    (ToldG M G n nx b S R op (rest nx F b l ⟨S, dn⟩) w)

set_option maxRecDepth 100000 in
set_option maxHeartbeats 8000000 in
theorem goOn_step (M G n F : Nat) (nx : Nat → List Nat) (hn : n ≤ 1000000) (hnx : ∀ x, ∀ t ∈ nx x, t < n) (ih : ∀ F', F = F' + 1 → GoOn M G n F' nx) : GoOn M G n F nx := by
  intro b deep l S R V op dn vo vd w h hb hSb hRb hun hF hdeep hop hdn
  obtain ⟨i0, hi, hz0, hz1, hz2⟩ := info_parts Try.info3
  have HI := Lib.hid (And.intro hi (And.intro hz0 (And.intro hz1 hz2)))
  clear hi hz0 hz1 hz2
  have HIH := Lib.hid ih
  have H0 := Lib.hid h
  have HUN := Lib.hid hun
  have HSB := Lib.hid hSb
  have HRB := Lib.hid hRb
  have hd1 : (deep : Int) < 4096 := by omega
  have hd2 : ((deep : Int) == 4096) = false := by simp; omega
  have HF := Lib.hid hF
  have HDN := Lib.hid hdn
  clear ih h hun hSb hRb hF hdn
  go_enter Try.func84, Try.ntmps84
  go_wp2_with fail
  go_loopw [] (fun wr => ∃ (l' : List Nat) (S' : Nat → Bool) (R' : Nat → List Nat) (V' : Nat → Value) (vo' vd' : Value) (dn' : List Nat), BW wr M G n S' R' V' (op ++ [b]) dn' vo' vd' ∧ R' b = l' ∧ S' b = true ∧ (∀ x, x < n → S' x = false → R' x = nx x) ∧ unseen n S' ≤ F ∧ dn'.length + unseen n S' ≤ 900000 ∧
    rest nx F b l' ⟨S', dn'⟩ = rest nx F b l ⟨S, dn⟩ ∧ (∀ x, x < n → S x = true → x ≠ b → R' x = R x) ∧ (∀ x, S x = true → S' x = true) ∧ BB M G w wr) (fun wr => lenAt G b wr)
  case atStart => exact ⟨l, S, R, V, vo, vd, dn, H0.out, HRB.out, HSB.out, HUN.out, HF.out, HDN.out, rfl, fun _ _ _ _ => rfl, fun _ h => h, BB.refl _ _ _⟩
  case round =>
    obtain ⟨l', S', R', V', vo', vd', dn', hw, hR, hSb, hun, hF, hdn, hrest, hold, hgrow, hbb⟩ := hrel
    have HUN' := Lib.hid hun
    have HF' := Lib.hid hF
    have HDN' := Lib.hid hdn
    have HREST := Lib.hid hrest
    have HOLD := Lib.hid hold
    have HGROW := Lib.hid hgrow
    have HBB := Lib.hid hbb
    have HSB' := Lib.hid hSb
    clear hun hF hdn hrest hold hgrow hbb hSb HUN HSB HRB HF HDN H0
    have hM := hw.size
    have hgm := hw.gm
    obtain ⟨A, c, hv, hs⟩ := hw.lists b hb
    rw [hR] at hv hs
    have hrow := hw.nrow.cell hb
    rw [hv] at hrow
    have hnb : wr.cell? ⟨M, 0, none⟩ = some (.slice (some ⟨G, 0, none⟩) n n) := cell_of_block hw.nbox 0
    have hlen := hs.len
    rw [zs_len] at hlen
    cases l' with
    | nil =>
      obtain ⟨g, cap, hvo, hlast, hcap, hcm, hpop, hown⟩ := own_pop hw.ownO
      subst hvo
      have c4 : wr.cell? ⟨M + 4, 0, none⟩ = some (.slice (some ⟨g, 0, none⟩) (op.length + 1) cap) := cell_of_block hw.obox 0
      have f4 : wr.frozen? ⟨M + 4, 0, none⟩ = false := free_of_block hw.obox 0
      have hnew := hw.open_ (op' := op) (vo' := .slice (some ⟨g, 0, none⟩) op.length cap) (fun _ _ => rfl) (fun _ _ => rfl) hown hw.apart
      have hb1 : BB M G wr (wr.setCell ⟨M + 4, 0, none⟩ (.slice (some ⟨g, 0, none⟩) op.length cap)) := (BB.refl M G wr).setCell (.inr (by show M ≤ M + 4; omega)) _
      have hz1 : M + 6 < (wr.setCell ⟨M + 4, 0, none⟩ (.slice (some ⟨g, 0, none⟩) op.length cap)).heap.size := by simpa using hM
      have hl1 : (op.length : Int) ≤ cap := by omega
      have hop0 : op.length < 1000000 := by omega
      simp only [List.length_nil] at hrow
      clear hlast hown hcap hw hs hv
      go_upto_region 9 with fail
      clear hrow hnb c4 f4 hpop
      generalize wr.setCell ⟨M + 4, 0, none⟩ (.slice (some ⟨g, 0, none⟩) op.length cap) = w1 at *
      have c3 : w1.cell? ⟨M + 3, 0, none⟩ = some vd' := cell_of_block hnew.dbox 0
      have HDL : Hid (dn'.length ≤ 900000) := Lib.hid (by have := HDN'.out; omega)
      go_wp2_with (at_builtin; refine wpList_append_lies _ rfl (.tmp 58) (.tmp 60) 22 rfl (M + 7) 3 i0 (.int .i64 0) 1 8 Try.underlying22 HI.out.1 HI.out.2.1 HI.out.2.2.1 HI.out.2.2.2 rfl (by decide) vd' _ _ rfl (hnew.ownD.alloc _) ⟨w1.heap.size, 0, none⟩ 1 1 [.int .i64 b] rfl rfl ?c1 ?c2 ?c0 ?c3 ?c4 ?c5 (w1.heap.size + 1) ?c6 ?_)
      case c1 => exact news_one_add w1 _ _ rfl
      case c2 => exact ints_oneCell .i64 [(b : Int)]
      case c0 => omega
      case c3 => have := HDL.out; unfold maxLen; omega
      case c4 => have := HDL.out; omega
      case c5 => simp; omega
      case c6 => simp
      intro g2 cap2 w2 hown2 hgrow hloc hlt
      have hk : ∀ k, k < w1.heap.size → some k ≠ vd'.ownBlock → w2.heap[k]? = w1.heap[k]? := fun k hk hne => (hgrow.block k (by simp; omega) hne).trans (Below.heap_alloc _ _ _ hk)
      have hlow : ∀ k, k < M + 7 → w2.heap[k]? = w1.heap[k]? := fun k hk' => hk k (by omega) (fun e => by have := (hnew.ownD.lt k e.symm).1; omega)
      have hfin := hnew.done_ (dn' := dn' ++ [b]) (vd' := .slice (some ⟨g2, 0, none⟩) (dn'.length + 1) cap2) hlow (fun x hx => hk x (hnew.ownO.lt x hx).2 (fun e => by
          rcases hnew.apart with h | h
          · rw [h] at hx; cases hx
          · exact h (hx.trans e))) (by simpa [zs] using hown2) (by
        right
        intro e
        have hgo : (Value.slice (some ⟨g, 0, none⟩) op.length cap).ownBlock = some g2 := e
        rcases hloc with h | h
        · rcases hnew.apart with h2 | h2
          · rw [h2] at hgo; cases hgo
          · exact h2 (hgo.trans h.symm)
        · have := (hnew.ownO.lt g2 hgo).2; omega)
      have d3 : w2.cell? ⟨M + 3, 0, none⟩ = some vd' := (World.cell?_of_block (a := ⟨M + 3, 0, none⟩) (hlow (M + 3) (by omega))).trans c3
      have f3 : w2.frozen? ⟨M + 3, 0, none⟩ = false := free_of_block ((hlow (M + 3) (by omega)).trans hnew.dbox) 0
      have hbb2 : BB M G w w2 := ((HBB.out.trans hb1).alloc (by omega) _).grown hgrow (by simp; omega) (fun k hk => .inr (by have := (hnew.ownD.lt k hk).1; omega))
      have HN := Lib.hid hfin
      have HB2 := Lib.hid hbb2
      clear hown2 hgrow hloc hk hlow hfin hbb2 hnew c3 hb1
      go_wp2_with fail
      go_end0
      refine ⟨rfl, R', V', .slice (some ⟨g, 0, none⟩) op.length cap, .slice (some ⟨g2, 0, none⟩) (dn'.length + 1) cap2, ?_, ?_, HOLD.out, HB2.out.setCell (.inr (by show M ≤ M + 3; omega)) _⟩
      · rw [← HREST.out, rest_nil]; exact HN.out
      · rw [← HREST.out, rest_nil]; exact HUN'.out
    | cons t l' =>
      obtain ⟨A', c', hcut, hs'⟩ := cut_first (x := (t : Int)) (xs := zs l') hs
      obtain ⟨b1, o1, x, rfl, hx, hxb, hxc, hx64⟩ := hs.at_ (k := 0) (by simp [zs])
      obtain rfl : x = (t : Int) := by have := hx.out; simp [zs] at this; exact this.symm
      rw [Nat.zero_mul, Nat.add_zero] at hxc
      rw [zs_len] at hcut
      have hfr := hw.nrow.frozen b
      have htn : t < n := hw.inR b hb t (by rw [hR]; simp)
      obtain ⟨w1, hw1⟩ : ∃ w1, w1 = (wr.setCell ⟨G, b, none⟩ (.slice A' l'.length c')).drew := ⟨_, rfl⟩
      have hnew : BW w1 M G n S' (fun x => if x = b then l' else R' x) (fun x => if x = b then .slice A' l'.length c' else V' x) (op ++ [b]) dn' vo' vd' := by
        rw [hw1]; exact (hw.next_ (b := b) (l := l') (A := A') (c := c') (fun y hy => hw.inR b hb y (by rw [hR]; simp [hy])) hs').drewN 1
      have hb1 : BB M G wr w1 := by rw [hw1]; exact ((BB.refl M G wr).setCell (.inl rfl) _).drew
      have hz1 : M + 6 < w1.heap.size := by rw [hw1]; simpa [World.drew] using hM
      have HLN : Hid (lenAt G b wr = l'.length + 1) := Lib.hid (lenAt_of hrow)
      simp only [List.length_cons] at hrow hlen
      have hbn : (b : Int) < n := by omega
      have hb0 : (0 : Int) ≤ b := by omega
      have hc0 : (0 : Int) < ((l'.length : Int) + 1) := by omega
      clear hw hs hv hs' hx hxb
      go_upto_region 3 with fail
      go_still_tail 8, (by kernel_rfl)
      change wpList _ _ _ _ _ wr.drew
      go_upto_region 4 with fail
      rw [← hw1]
      clear hw1 hrow hnb hfr hcut hxc hlen hM
      have HNEW := Lib.hid hnew
      have HBB1 : Hid (BB M G w w1) := Lib.hid (HBB.out.trans hb1)
      have hgb : w1.cell? ⟨M + 2, 0, none⟩ = some (.slice (some ⟨M + 1, 0, none⟩) n n) := cell_of_block hnew.gbox 0
      have hgt := hnew.grow.cell htn
      have ht0 : (0 : Int) ≤ t := by omega
      have ht1 : (t : Int) < n := by omega
      cases hst : S' t
      · rw [hst] at hgt
        have HST := Lib.hid hst
        have heb : w1.cell? ⟨M + 5, 0, none⟩ = some (.func (.func 83) #[] #[.pointer (some ⟨M + 2, 0, none⟩), .pointer (some ⟨M + 4, 0, none⟩)]) := cell_of_block hnew.ebox 0
        have hpos : 0 < unseen n S' := unseen_pos hst htn
        have hopl : (op ++ [b]).length ≤ 1000000 := by simp; omega
        obtain ⟨F', hF'⟩ : ∃ F', F = F' + 1 := ⟨F - 1, by have := HF'.out; omega⟩
        have HFF := Lib.hid hF'
        have HPOS := Lib.hid hpos
        have HOPL := Lib.hid hopl
        clear hst hpos hF' hnew hb1 hopl
        go_wp2_with fail
        refine (enterG_any M G n t _ _ _ _ _ _ _ w1 HNEW.out htn hn HOPL.out).mono ?_
        rintro e w2 ⟨rfl, ⟨vo2, hw2⟩, hbb2⟩
        have hrb : w2.cell? ⟨M + 6, 0, none⟩ = some (.func (.func 84) #[] #[.pointer (some ⟨M, 0, none⟩), .pointer (some ⟨M + 2, 0, none⟩), .pointer (some ⟨M + 5, 0, none⟩), .pointer (some ⟨M + 6, 0, none⟩), .pointer (some ⟨M + 4, 0, none⟩), .pointer (some ⟨M + 3, 0, none⟩)]) := cell_of_block hw2.rbox 0
        have HW2 := Lib.hid hw2
        have HBB2 : Hid (BB M G w w2) := Lib.hid (HBB1.out.trans hbb2)
        clear hgt hgb heb hw2 hbb2
        have htb : t ≠ b := fun e => by have h1 := HST.out; rw [e, HSB'.out] at h1; cases h1
        have HTB := Lib.hid htb
        have hum := unseen_mark HST.out htn
        have HC : Hid (Calls Try.prog 84 #[.int .i64 t, .int .i64 ((deep : Int) + 1), .pointer (some ⟨M, 0, none⟩), .pointer (some ⟨M + 2, 0, none⟩), .pointer (some ⟨M + 5, 0, none⟩), .pointer (some ⟨M + 6, 0, none⟩), .pointer (some ⟨M + 4, 0, none⟩), .pointer (some ⟨M + 3, 0, none⟩)] w2 (ToldG M G n nx t (mark S' t) (fun x => if x = b then l' else R' x) (op ++ [b]) (rest nx F' t (nx t) ⟨mark S' t, dn'⟩) w2)) := Lib.hid (by
          have := HIH.out F' HFF.out t (deep + 1) (nx t) (mark S' t) (fun x => if x = b then l' else R' x) _ (op ++ [b]) dn' vo2 vd' w2 HW2.out htn (mark_same _ _) (by rw [if_neg htb]; exact HUN'.out t htn HST.out)
            (fun x hx hm => by
              have hxs : S' x = false := by
                cases h : S' x
                · rfl
                · rw [mark_of h] at hm; cases hm
              rw [if_neg (fun e => by rw [e, HSB'.out] at hxs; cases hxs)]; exact HUN'.out x hx hxs)
            (by have := HF'.out; have := HFF.out; omega) (by have := HFF.out; omega) (by have := HFF.out; simp; omega) (by have := HDN'.out; omega)
          rwa [show (((deep + 1 : Nat) : Int)) = (deep : Int) + 1 by push_cast; rfl] at this)
        have HVIS : Hid (rest nx F' t (nx t) ⟨mark S' t, dn'⟩ = visit nx F t ⟨S', dn'⟩) := Lib.hid (by rw [HFF.out, visit_succ])
        clear htb hum
        go_wp2_with fail
        refine HC.out.mono ?_
        rintro e w3 ⟨rfl, R'', V'', vo'', vd'', hw3, hun3, hold3, hbb3⟩
        have HLV := Lib.hid (len_visit hnx F t ⟨S', dn'⟩ htn HST.out HF'.out)
        have HGV : Hid (∀ x, S' x = true → (visit nx F t ⟨S', dn'⟩).seen x = true) := Lib.hid (by
          obtain ⟨e, he, _⟩ := went_visit hnx F t ⟨S', dn'⟩ htn HST.out HF'.out
          exact he.grows)
        rw [← HVIS.out] at HLV HGV
        have HVIS2 : Hid (rest nx F b l' (rest nx F' t (nx t) ⟨mark S' t, dn'⟩) = rest nx F b l ⟨S, dn⟩) := Lib.hid (by rw [← HREST.out, rest_new _ _ _ _ _ _ HST.out, HVIS.out])
        generalize rest nx F' t (nx t) ⟨mark S' t, dn'⟩ = s' at *
        have HUN3 := Lib.hid hun3
        have HOLD3 := Lib.hid hold3
        have HBB3 := Lib.hid hbb3
        have HW3 := Lib.hid hw3
        obtain ⟨g3, cap3, hvo3, hlast3, hcap3, hcm3, -, -⟩ := own_pop hw3.ownO
        subst hvo3
        have hob : w3.cell? ⟨M + 4, 0, none⟩ = some (.slice (some ⟨g3, 0, none⟩) (op.length + 1) cap3) := cell_of_block hw3.obox 0
        have hbb' : ((b : Int) != b) = false := by simp
        have hop0 : op.length < 1000000 := by omega
        have hRb : R'' b = l' := by
          have := HOLD3.out b hb (mark_of HSB'.out) (fun e => HTB.out e.symm)
          rw [this]; simp
        have HRB := Lib.hid hRb
        have hln : Hid (lenAt G b w3 < lenAt G b wr) := Lib.hid (by
          obtain ⟨A3, c3, e3, -⟩ := hw3.lists b hb
          have h1 := hw3.nrow.cell hb
          rw [e3, hRb] at h1
          rw [HLN.out, lenAt_of h1]; omega)
        clear hw3 hun3 hold3 hbb3 hrb hRb HC
        go_wp2_with fail
        go_roundw
        case rel => exact ⟨l', s'.seen, R'', V'', _, vd'', s'.out, HW3.out, HRB.out, HGV.out b HSB'.out, HUN3.out, by have := HLV.out.2; omega, by have := HLV.out.1; have := HDN'.out; exact Nat.le_trans (Nat.le_of_eq HLV.out.1) HDN'.out, HVIS2.out,
          fun x hx h1 h2 => by
            rw [HOLD3.out x hx (mark_of (HGROW.out x h1)) (fun e => by have h3 := HST.out; rw [← e, HGROW.out x h1] at h3; cases h3), if_neg h2]; exact HOLD.out x hx h1 h2,
          fun x h1 => HGV.out x (HGROW.out x h1), HBB2.out.trans HBB3.out⟩
        case measure => exact hln.out
      · rw [hst] at hgt
        have HST := Lib.hid hst
        have hln : Hid (lenAt G b w1 < lenAt G b wr) := Lib.hid (by
          have h1 := hnew.nrow.cell hb
          simp only [if_true] at h1
          rw [HLN.out, lenAt_of h1]; omega)
        have HREST2 : Hid (rest nx F b l' ⟨S', dn'⟩ = rest nx F b l ⟨S, dn⟩) := Lib.hid (by rw [← HREST.out, rest_seen _ _ _ _ _ _ hst])
        clear hst hnew hb1
        go_wp2_with fail
        go_roundw
        case rel => exact ⟨l', S', _, _, vo', vd', dn', HNEW.out, by simp, HSB'.out, fun x hx hs => by
            rw [if_neg (fun e => by rw [e, HSB'.out] at hs; cases hs)]; exact HUN'.out x hx hs, HF'.out, HDN'.out, HREST2.out, fun x hx h1 h2 => by rw [if_neg h2]; exact HOLD.out x hx h1 h2, HGROW.out, HBB1.out⟩
        case measure => exact hln.out

theorem goOn_any (M G n : Nat) (nx : Nat → List Nat) (hn : n ≤ 1000000) (hnx : ∀ x, ∀ t ∈ nx x, t < n) : ∀ F : Nat, GoOn M G n F nx
  | 0 => goOn_step M G n 0 nx hn hnx (fun F' h => by omega)
  | F + 1 => goOn_step M G n (F + 1) nx hn hnx (fun F' h => by obtain rfl : F = F' := by omega
                                                               exact goOn_any M G n nx hn hnx F)
end Go.Proofs.Ytflbooopgjgkbaa
