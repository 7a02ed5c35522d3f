/- What backwards keeps while it goes through blocks, and the closures that do it: enter, goOn. -/
import Derived.Test.YtflbooopgjgkbaaGrNJ
import Derived.Test.YtflbooopgjgkbaaModBJ
import Derived.StillTailTactics
import Derived.OrdersHeld
import Derived.RegionTactic
import Derived.Lib.Hide
import Derived.Test.YtflbooopgjgkbaaGrFJ
import Derived.Deep.DeepCutAuto
import Derived.Deep.LoopGhost
import Derived.Laws.ResultCell
namespace Go.Proofs.Ytflbooopgjgkbaa
open Go.ChangeShapes Go.WideShapes Go.RowKit Go.Deep
set_option linter.unusedVariables false

theorem mono_of {α : Type} (a b : α) (h : a = b) : b = a := h.symm

/-- What backwards keeps: next, gone, open, done, enter, goOn. -/
structure BW (w : World) (M G n : Nat) (S : Nat → Bool) (R : Nat → List Nat) (V : Nat → Value) (op dn : List Nat) (vo vd : Value) : Prop where
  nbox : w.heap[M]? = some (.cells #[.slice (some ⟨G, 0, none⟩) n n] 68 (0, 0))
  gbox : w.heap[M + 2]? = some (.cells #[.slice (some ⟨M + 1, 0, none⟩) n n] 46 (0, 0))
  dbox : w.heap[M + 3]? = some (.cells #[vd] 22 (0, 0))
  obox : w.heap[M + 4]? = some (.cells #[vo] 22 (0, 0))
  ebox : w.heap[M + 5]? = some (.cells #[.func (.func 83) #[] #[.pointer (some ⟨M + 2, 0, none⟩), .pointer (some ⟨M + 4, 0, none⟩)]] 135 (0, 0))
  rbox : w.heap[M + 6]? = some (.cells #[.func (.func 84) #[] #[.pointer (some ⟨M, 0, none⟩), .pointer (some ⟨M + 2, 0, none⟩), .pointer (some ⟨M + 5, 0, none⟩), .pointer (some ⟨M + 6, 0, none⟩), .pointer (some ⟨M + 4, 0, none⟩), .pointer (some ⟨M + 3, 0, none⟩)]] 108 (0, 0))
  grow : w.rowIs (M + 1) 4 n (fun x => .bool (S x))
  nrow : w.rowIs G 22 n V
  lists : ∀ x, x < n → ∃ A c, V x = .slice A (R x).length c ∧ SL w 1 (RIntB (fun b => b < M ∧ b ≠ G)) A c (zs (R x))
  ownO : w.ownsRow (M + 7) 3 1 vo op.length ((zs op).map (Value.int .i64))
  ownD : w.ownsRow (M + 7) 3 1 vd dn.length ((zs dn).map (Value.int .i64))
  apart : vo.ownBlock = none ∨ vo.ownBlock ≠ vd.ownBlock
  inR : ∀ x, x < n → ∀ t ∈ R x, t < n
  gm : G < M

theorem BW.size {w : World} {M G n : Nat} {S : Nat → Bool} {R : Nat → List Nat} {V : Nat → Value} {op dn : List Nat} {vo vd : Value} (h : BW w M G n S R V op dn vo vd) : M + 6 < w.heap.size := block_lt h.rbox
/-- Where the blocks are as they were. -/
theorem BW.of_blocks {w w' : World} {M G n : Nat} {S : Nat → Bool} {R : Nat → List Nat} {V : Nat → Value} {op dn : List Nat} {vo vd : Value} (h : BW w M G n S R V op dn vo vd)
    (hk : ∀ k, k < M + 7 → w'.heap[k]? = w.heap[k]?) (ho : ∀ g, vo.ownBlock = some g → w'.heap[g]? = w.heap[g]?) (hd : ∀ g, vd.ownBlock = some g → w'.heap[g]? = w.heap[g]?) : BW w' M G n S R V op dn vo vd := by
  have hgm := h.gm
  refine ⟨(hk _ (by omega)).trans h.nbox, (hk _ (by omega)).trans h.gbox, (hk _ (by omega)).trans h.dbox, (hk _ (by omega)).trans h.obox, (hk _ (by omega)).trans h.ebox, (hk _ (by omega)).trans h.rbox, h.grow.of_block (hk _ (by omega)), h.nrow.of_block (hk _ (by omega)), fun x hx => ?_, ownsRow_block h.ownO ho, ownsRow_block h.ownD hd, h.apart, h.inR, h.gm⟩
  obtain ⟨A, c, e, hs⟩ := h.lists x hx
  exact ⟨A, c, e, SIntsB.go (fun a v hb ha => (World.cell?_of_block (hk _ (by have := hb.1; omega))).trans ha) (fun _ hb => hb) hs⟩
theorem BW.below {w w' : World} {M G n : Nat} {S : Nat → Bool} {R : Nat → List Nat} {V : Nat → Value} {op dn : List Nat} {vo vd : Value} (h : BW w M G n S R V op dn vo vd) (hb : Below w.heap.size w w') : BW w' M G n S R V op dn vo vd :=
  h.of_blocks (fun k hk => hb.block k (by have := h.size; omega)) (fun g hg => hb.block g (h.ownO.lt g hg).2) (fun g hg => hb.block g (h.ownD.lt g hg).2)
theorem BW.drewN {w : World} {M G n : Nat} {S : Nat → Bool} {R : Nat → List Nat} {V : Nat → Value} {op dn : List Nat} {vo vd : Value} (h : BW w M G n S R V op dn vo vd) (k : Nat) : BW (w.drewN k) M G n S R V op dn vo vd :=
  h.of_blocks (fun _ _ => rfl) (fun _ _ => rfl) (fun _ _ => rfl)
theorem BW.congr {w : World} {M G n : Nat} {S S' : Nat → Bool} {R : Nat → List Nat} {V : Nat → Value} {op dn : List Nat} {vo vd : Value} (h : BW w M G n S R V op dn vo vd) (e : ∀ x, x < n → S x = S' x) : BW w M G n S' R V op dn vo vd :=
  ⟨h.nbox, h.gbox, h.dbox, h.obox, h.ebox, h.rbox, h.grow.congr fun x hx => by rw [e x hx], h.nrow, h.lists, h.ownO, h.ownD, h.apart, h.inR, h.gm⟩
/-- A block is marked. -/
theorem BW.gone {w : World} {M G n : Nat} {S : Nat → Bool} {R : Nat → List Nat} {V : Nat → Value} {op dn : List Nat} {vo vd : Value} (h : BW w M G n S R V op dn vo vd) (b : Nat) : BW (w.setCell ⟨M + 1, b, none⟩ (.bool true)) M G n (mark S b) R V op dn vo vd := by
  have hgm := h.gm
  have hk : ∀ k, k ≠ M + 1 → (w.setCell ⟨M + 1, b, none⟩ (.bool true)).heap[k]? = w.heap[k]? := fun k hk => Below.heap_setCell _ _ _ _ hk
  refine ⟨(hk _ (by omega)).trans h.nbox, (hk _ (by omega)).trans h.gbox, (hk _ (by omega)).trans h.dbox, (hk _ (by omega)).trans h.obox, (hk _ (by omega)).trans h.ebox, (hk _ (by omega)).trans h.rbox, (h.grow.set b (.bool true)).congr fun x hx => ?_, h.nrow.of_block (hk _ (by omega)), fun x hx => ?_, ownsRow_block h.ownO (fun g hg => hk g (by have := (h.ownO.lt g hg).1; omega)), ownsRow_block h.ownD (fun g hg => hk g (by have := (h.ownD.lt g hg).1; omega)), h.apart, h.inR, h.gm⟩
  · unfold mark; split <;> simp_all
  · obtain ⟨A, c, e, hs⟩ := h.lists x hx
    exact ⟨A, c, e, SIntsB.go (fun a v hb ha => (World.cell?_of_block (hk _ (by have := hb.1; omega))).trans ha) (fun _ hb => hb) hs⟩
/-- The row of open ones is another one. -/
theorem BW.open_ {w w2 : World} {M G n : Nat} {S : Nat → Bool} {R : Nat → List Nat} {V : Nat → Value} {op dn op' : List Nat} {vo vd vo' : Value} (h : BW w M G n S R V op dn vo vd)
    (hk : ∀ k, k < M + 7 → w2.heap[k]? = w.heap[k]?) (hd : ∀ g, vd.ownBlock = some g → w2.heap[g]? = w.heap[g]?)
    (hown : w2.ownsRow (M + 7) 3 1 vo' op'.length ((zs op').map (Value.int .i64))) (ha : vo'.ownBlock = none ∨ vo'.ownBlock ≠ vd.ownBlock) : BW (w2.setCell ⟨M + 4, 0, none⟩ vo') M G n S R V op' dn vo' vd := by
  have hgm := h.gm
  have hs : ∀ k, k ≠ M + 4 → (w2.setCell ⟨M + 4, 0, none⟩ vo').heap[k]? = w2.heap[k]? := fun k hk => Below.heap_setCell _ _ _ _ hk
  have hk' : ∀ k, k < M + 7 → k ≠ M + 4 → (w2.setCell ⟨M + 4, 0, none⟩ vo').heap[k]? = w.heap[k]? := fun k h1 h2 => (hs k h2).trans (hk k h1)
  refine ⟨(hk' _ (by omega) (by omega)).trans h.nbox, (hk' _ (by omega) (by omega)).trans h.gbox, (hk' _ (by omega) (by omega)).trans h.dbox, set_of_block (i := 0) vo' ((hk _ (by omega)).trans h.obox), (hk' _ (by omega) (by omega)).trans h.ebox, (hk' _ (by omega) (by omega)).trans h.rbox, h.grow.of_block (hk' _ (by omega) (by omega)), h.nrow.of_block (hk' _ (by omega) (by omega)), fun x hx => ?_,
    ownsRow_block hown (fun g hg => hs g (by have := (hown.lt g hg).1; omega)), ownsRow_block h.ownD (fun g hg => (hs g (by have := (h.ownD.lt g hg).1; omega)).trans (hd g hg)), ha, h.inR, h.gm⟩
  obtain ⟨A, c, e, hsl⟩ := h.lists x hx
  exact ⟨A, c, e, SIntsB.go (fun a v hb ha => (World.cell?_of_block (hk' _ (by have := hb.1; omega) (by have := hb.1; omega))).trans ha) (fun _ hb => hb) hsl⟩
/-- The row of done ones is another one. -/
theorem BW.done_ {w w2 : World} {M G n : Nat} {S : Nat → Bool} {R : Nat → List Nat} {V : Nat → Value} {op dn dn' : List Nat} {vo vd vd' : Value} (h : BW w M G n S R V op dn vo vd)
    (hk : ∀ k, k < M + 7 → w2.heap[k]? = w.heap[k]?) (ho : ∀ g, vo.ownBlock = some g → w2.heap[g]? = w.heap[g]?)
    (hown : w2.ownsRow (M + 7) 3 1 vd' dn'.length ((zs dn').map (Value.int .i64))) (ha : vo.ownBlock = none ∨ vo.ownBlock ≠ vd'.ownBlock) : BW (w2.setCell ⟨M + 3, 0, none⟩ vd') M G n S R V op dn' vo vd' := by
  have hgm := h.gm
  have hs : ∀ k, k ≠ M + 3 → (w2.setCell ⟨M + 3, 0, none⟩ vd').heap[k]? = w2.heap[k]? := fun k hk => Below.heap_setCell _ _ _ _ hk
  have hk' : ∀ k, k < M + 7 → k ≠ M + 3 → (w2.setCell ⟨M + 3, 0, none⟩ vd').heap[k]? = w.heap[k]? := fun k h1 h2 => (hs k h2).trans (hk k h1)
  refine ⟨(hk' _ (by omega) (by omega)).trans h.nbox, (hk' _ (by omega) (by omega)).trans h.gbox, set_of_block (i := 0) vd' ((hk _ (by omega)).trans h.dbox), (hk' _ (by omega) (by omega)).trans h.obox, (hk' _ (by omega) (by omega)).trans h.ebox, (hk' _ (by omega) (by omega)).trans h.rbox, h.grow.of_block (hk' _ (by omega) (by omega)), h.nrow.of_block (hk' _ (by omega) (by omega)), fun x hx => ?_,
    ownsRow_block h.ownO (fun g hg => (hs g (by have := (h.ownO.lt g hg).1; omega)).trans (ho g hg)), ownsRow_block hown (fun g hg => hs g (by have := (hown.lt g hg).1; omega)), ha, h.inR, h.gm⟩
  obtain ⟨A, c, e, hsl⟩ := h.lists x hx
  exact ⟨A, c, e, SIntsB.go (fun a v hb ha => (World.cell?_of_block (hk' _ (by have := hb.1; omega) (by have := hb.1; omega))).trans ha) (fun _ hb => hb) hsl⟩
/-- A block's list is another one. -/
theorem BW.next_ {w : World} {M G n b : Nat} {S : Nat → Bool} {R : Nat → List Nat} {V : Nat → Value} {op dn l : List Nat} {vo vd : Value} {A : Option Addr} {c : Nat} (h : BW w M G n S R V op dn vo vd) (hl : ∀ t ∈ l, t < n)
    (hs : SL w 1 (RIntB (fun b => b < M ∧ b ≠ G)) A c (zs l)) : BW (w.setCell ⟨G, b, none⟩ (.slice A l.length c)) M G n S (fun x => if x = b then l else R x) (fun x => if x = b then .slice A l.length c else V x) op dn vo vd := by
  have hgm := h.gm
  have hk : ∀ k, k ≠ G → (w.setCell ⟨G, b, none⟩ (.slice A l.length c)).heap[k]? = w.heap[k]? := fun k hk => Below.heap_setCell _ _ _ _ hk
  have hkb : KeptB (fun y => y < M ∧ y ≠ G) w (w.setCell ⟨G, b, none⟩ (.slice A l.length c)) := fun a v hb ha => (World.cell?_of_block (hk _ hb.2)).trans ha
  refine ⟨(hk _ (by omega)).trans h.nbox, (hk _ (by omega)).trans h.gbox, (hk _ (by omega)).trans h.dbox, (hk _ (by omega)).trans h.obox, (hk _ (by omega)).trans h.ebox, (hk _ (by omega)).trans h.rbox, h.grow.of_block (hk _ (by omega)), h.nrow.set b _, fun x hx => ?_, ownsRow_block h.ownO (fun g hg => hk g (by have := (h.ownO.lt g hg).1; omega)), ownsRow_block h.ownD (fun g hg => hk g (by have := (h.ownD.lt g hg).1; omega)), h.apart, fun x hx => ?_, h.gm⟩
  · by_cases e : x = b
    · simp only [if_pos e]; exact ⟨A, c, rfl, SIntsB.go hkb (fun _ hb => hb) hs⟩
    · simp only [if_neg e]
      obtain ⟨A', c', e', hs'⟩ := h.lists x hx
      exact ⟨A', c', e', SIntsB.go hkb (fun _ hb => hb) hs'⟩
  · by_cases e : x = b
    · simp only [if_pos e]; exact hl
    · simp only [if_neg e]; exact h.inR x hx

theorem size_int (w : World) : (sizeOf (Try.prog.elem 22)).run Try.prog w = .ok 1 w := by kernel_rfl
theorem elem_ints : Try.prog.underlying 22 = some (.slice (Try.prog.elem 22)) := by kernel_rfl
/-- The first of a list is cut off. -/
theorem cut_first {B : Nat → Prop} {w : World} {A : Option Addr} {c : Nat} {x : Int} {xs : List Int} (h : SL w 1 (RIntB B) A c (x :: xs)) :
    ∃ A' c', (∀ W, (Instr.slice 22 (.slice A (xs.length + 1) c) (some (.int .i64 1)) none none).run Try.prog W = .ok (.slice A' xs.length c') W) ∧ SL w 1 (RIntB B) A' c' xs := by
  obtain ⟨h1, ⟨h2, _⟩, h3⟩ := h
  obtain ⟨b, o, rfl, hx⟩ := h3 (by simp)
  simp only [List.length_cons] at h1
  have hrun : ∀ W, (Instr.slice 22 (.slice (some ⟨b, o, none⟩) (xs.length + 1) c) (some (.int .i64 1)) none none).run Try.prog W = .ok (sliced (some ⟨b, o, none⟩) 1 (xs.length + 1) c 1) W := fun W => by
    rw [run_slice_l W 22 (some ⟨b, o, none⟩) (xs.length + 1) c elem_ints .i64 1 (by omega) (by omega), size_int]
    simp [Result.andThen]
  by_cases hc : c = 1
  · obtain rfl : xs = [] := List.length_eq_zero_iff.1 (by omega)
    refine ⟨some ⟨b, o, none⟩, c - 1, fun W => (hrun W).trans (by unfold sliced; rw [if_pos hc]; simp), Nat.zero_le _, ⟨by omega, fun e => by cases e⟩, fun h => absurd h (by simp)⟩
  · refine ⟨some ⟨b, o + 1, none⟩, c - 1, fun W => (hrun W).trans (by unfold sliced; rw [if_neg hc, Option.map_some]; unfold Addr.add; simp), by omega, ⟨by omega, fun e => by cases e⟩, fun _ => ⟨b, o + 1, rfl, fun i y hi => ?_⟩⟩
    have := hx (i + 1) y (by simpa using hi)
    rwa [show o + (i + 1) * 1 = o + 1 + i * 1 by omega] at this
/-- The last of a row that the call owns is cut off. -/
theorem own_pop {w : World} {base : Nat} {v : Value} {xs : List Nat} {x : Nat} (h : w.ownsRow base 3 1 v (xs ++ [x]).length ((zs (xs ++ [x])).map (Value.int .i64))) :
    ∃ g cap, v = .slice (some ⟨g, 0, none⟩) (xs.length + 1) cap ∧ w.cell? ⟨g, xs.length, none⟩ = some (.int .i64 x) ∧ xs.length + 1 ≤ cap ∧ cap ≤ maxLen ∧
      (∀ W, (Instr.slice 22 (.slice (some ⟨g, 0, none⟩) (xs.length + 1) cap) none (some (.int .i64 xs.length)) none).run Try.prog W = .ok (.slice (some ⟨g, 0, none⟩) xs.length cap) W) ∧
      w.ownsRow base 3 1 (.slice (some ⟨g, 0, none⟩) xs.length cap) xs.length ((zs xs).map (Value.int .i64)) := by
  have hl : (xs ++ [x]).length = xs.length + 1 := by simp
  have h0 := h
  obtain ⟨h1, ⟨-, h2⟩ | ⟨g, cap, cur, rfl, hb, hh, hn, hc, hsz, ht⟩⟩ := h
  · rw [hl] at h2; omega
  · rw [hl] at hn ht
    refine ⟨g, cap, by rw [hl], ?_, hn, hc, fun W => ?_, ⟨by simp [zs], .inr ⟨g, cap, cur, rfl, hb, hh, by omega, hc, hsz, ?_⟩⟩⟩
    · have := h0.cells (g := g) rfl xs.length (.int .i64 x) (by simp [zs])
      rwa [show (⟨g, 0, none⟩ : Addr).add xs.length = ⟨g, xs.length, none⟩ by unfold Addr.add; split <;> simp_all] at this
    · rw [run_slice_h W 22 (some ⟨g, 0, none⟩) (xs.length + 1) cap elem_ints .i64 xs.length (by omega) (by omega), size_int]
      have hc0 : cap ≠ 0 := by omega
      simp [Result.andThen, sliced, hc0, Addr.add]
    · have : cur.toList.take (xs.length * 1) = (cur.toList.take ((xs.length + 1) * 1)).take xs.length := by rw [List.take_take]; congr 1; omega
      rw [this, ht, zs_snoc, List.map_append, List.take_left' (by simp [zs])]
theorem own_bound {w : World} {base n : Nat} {v : Value} {xs : List Value} (h : w.ownsRow base 3 1 v n xs) : n ≤ maxLen := by
  obtain ⟨-, ⟨-, rfl⟩ | ⟨g, cap, cur, -, -, -, hn, hc, -, -⟩⟩ := h
  · exact Nat.zero_le _
  · omega

def ToldB (M G n : Nat) (S : Nat → Bool) (R : Nat → List Nat) (V : Nat → Value) (op dn : List Nat) (vd : Value) (w : World) (e : Ending) (w' : World) : Prop :=
  e = .returned (.tuple #[]) ∧ (∃ vo', BW w' M G n S R V op dn vo' vd) ∧ BB M G w w'

set_option maxHeartbeats 4000000 in
theorem enterG_any (M G n b : Nat) (S : Nat → Bool) (R : Nat → List Nat) (V : Nat → Value) (op dn : List Nat) (vo vd : Value) (w : World) (h : BW w M G n S R V op dn vo vd) (hb : b < n) (hn : n ≤ 1000000) (ho : op.length ≤ 1000000) :
    Calls Try.prog 83 #[.int .i64 b, .pointer (some ⟨M + 2, 0, none⟩), .pointer (some ⟨M + 4, 0, none⟩)] w (ToldB M G n (mark S b) R V (op ++ [b]) dn vd w) := by
  obtain ⟨i0, hi, hz0, hz1, hz2⟩ := info_parts Try.info3
  have HI := Lib.hid (And.intro hi (And.intro hz0 (And.intro hz1 hz2)))
  clear hi hz0 hz1 hz2
  have hM := h.size
  have hgm := h.gm
  have c1 : w.cell? ⟨M + 2, 0, none⟩ = some (.slice (some ⟨M + 1, 0, none⟩) n n) := cell_of_block h.gbox 0
  have c2 := h.grow.cell hb
  have f2 := h.grow.frozen b
  have hg := h.gone b
  have hbb : BB M G w (w.setCell ⟨M + 1, b, none⟩ (.bool true)) := (BB.refl M G w).setCell (.inr (by show M ≤ M + 1; omega)) _
  have hz : (w.setCell ⟨M + 1, b, none⟩ (.bool true)).heap.size = w.heap.size := by simp
  have HH := Lib.hid h
  clear h
  go_enter Try.func83, Try.ntmps83
  go_upto_region 1 with fail
  clear c1 c2 f2
  generalize w.setCell ⟨M + 1, b, none⟩ (.bool true) = w1 at *
  have hM1 : M + 6 < w1.heap.size := by omega
  have c3 : w1.cell? ⟨M + 4, 0, none⟩ = some vo := cell_of_block hg.obox 0
  have HBB := Lib.hid hbb
  have HZ := Lib.hid hz
  clear hbb hz
  go_wp2_with (at_builtin; refine wpList_append_lies _ rfl (.tmp 7) (.tmp 9) 22 rfl (M + 7) 3 i0 (.int .i64 0) 1 8 Try.underlying22 HI.out.1 HI.out.2.1 HI.out.2.2.1 HI.out.2.2.2 rfl (by decide) vo _ _ rfl (hg.ownO.alloc _) ⟨w1.heap.size, 0, none⟩ 1 1 [.int .i64 b] rfl rfl ?c1 ?c2 ?c0 ?c3 ?c4 ?c5 (w1.heap.size + 1) ?c6 ?_)
  case c1 => exact news_one_add w1 _ _ rfl
  case c2 => exact ints_oneCell .i64 [(b : Int)]
  case c0 => omega
  case c3 => unfold maxLen; omega
  case c4 => omega
  case c5 => simp; omega
  case c6 => simp
  intro g cap w2 hown hgrow hloc hlt
  have hk : ∀ k, k < w1.heap.size → some k ≠ vo.ownBlock → w2.heap[k]? = w1.heap[k]? := fun k hk hne => (hgrow.block k (by simp; omega) hne).trans (Below.heap_alloc _ _ _ hk)
  have hlow : ∀ k, k < M + 7 → w2.heap[k]? = w1.heap[k]? := fun k hk' => hk k (by omega) (fun e => by have := (hg.ownO.lt k e.symm).1; omega)
  have hnew := hg.open_ (op' := op ++ [b]) (vo' := .slice (some ⟨g, 0, none⟩) (op.length + 1) cap) hlow (fun x hx => hk x (hg.ownD.lt x hx).2 (fun e => by
      rcases hg.apart with h | h
      · rw [h] at e; cases e
      · exact h (e.symm.trans hx.symm))) (by simpa [zs] using hown) (by
    right
    intro e
    have hgd : vd.ownBlock = some g := by rw [← e]; rfl
    rcases hloc with h | h
    · rcases hg.apart with h2 | h2
      · rw [h] at h2; cases h2
      · exact h2 (h.trans hgd.symm)
    · have := (hg.ownD.lt g hgd).2; omega)
  have c4 : w2.cell? ⟨M + 4, 0, none⟩ = some vo := (World.cell?_of_block (a := ⟨M + 4, 0, none⟩) (hlow (M + 4) (by omega))).trans c3
  have f4 : w2.frozen? ⟨M + 4, 0, none⟩ = false := free_of_block ((hlow (M + 4) (by omega)).trans hg.obox) 0
  have hbb2 : BB M G w w2 := (HBB.out.alloc (by have := HZ.out; omega) _).grown hgrow (by have := HZ.out; simp; omega) (fun k hk => .inr (by have := (hg.ownO.lt k hk).1; omega))
  have HN := Lib.hid hnew
  have HB2 := Lib.hid hbb2
  clear hown hgrow hloc hk hlow hnew hbb2 hg c3
  go_wp2_with fail
  go_end0
  exact ⟨rfl, ⟨_, HN.out⟩, HB2.out.setCell (.inr (by show M ≤ M + 4; omega)) _⟩
end Go.Proofs.Ytflbooopgjgkbaa

/- A region that draws its order, whose last operation waits for all others: the others first, in whatever order, with a condition on the world that need not hold behind the last one. Over any program. -/
namespace Go.Proofs.Ytflbooopgjgkbaa
open Go
set_option linter.unusedVariables false

section
variable {P : Program} {ops : Array Oper} {Q : Exit → Act → World → Prop} {md : Region.Mode} {S : World → Prop}

/-- Edges lead to what stands ahead in the text. -/
def downB (md : Region.Mode) (ops : Array Oper) : Bool :=
  (List.range ops.size).all fun i => ((ops[i]?).map fun o => o.after.all fun e => !Region.binds md e || decide (e.on < i)).getD true
/-- Each but number L is waited for by one behind it. -/
def feedsB (md : Region.Mode) (ops : Array Oper) (L : Nat) : Bool :=
  (List.range L).all fun i => (List.range (L + 1)).any fun j => decide (i < j) && ((ops[j]?).map fun o => o.after.any fun e => Region.binds md e && decide (e.on = i)).getD false

theorem downB_spec (h : downB md ops = true) {i : Nat} {o : Oper} (ho : ops[i]? = some o) : ∀ e ∈ o.after, Region.binds md e = true → e.on < i := by
  intro e he hb
  unfold downB at h
  have hi : i < ops.size := (Array.getElem?_eq_some_iff.1 ho).1
  have h1 := List.all_eq_true.1 h i (List.mem_range.2 hi)
  rw [ho] at h1
  simp only [Option.map_some, Option.getD_some, Array.all_eq_true_iff_forall_mem] at h1
  have h2 := h1 e he
  simpa [hb] using h2
theorem feedsB_spec {L : Nat} (h : feedsB md ops L = true) {i : Nat} (hi : i < L) : ∃ j o e, i < j ∧ j ≤ L ∧ ops[j]? = some o ∧ e ∈ o.after ∧ Region.binds md e = true ∧ e.on = i := by
  unfold feedsB at h
  have h1 := List.all_eq_true.1 h i (List.mem_range.2 hi)
  obtain ⟨j, hj, h2⟩ := List.any_eq_true.1 h1
  rw [Bool.and_eq_true] at h2
  obtain ⟨h3, h4⟩ := h2
  cases ho : ops[j]? with
  | none => rw [ho] at h4; simp at h4
  | some o =>
    rw [ho] at h4
    simp only [Option.map_some, Option.getD_some, Array.any_eq_true'] at h4
    obtain ⟨e, he, hb⟩ := h4
    rw [Bool.and_eq_true] at hb
    exact ⟨j, o, e, of_decide_eq_true h3, by have := List.mem_range.1 hj; omega, ho, he, hb.1, of_decide_eq_true hb.2⟩

/-- What has come up had all that it waits for. -/
def Closed (md : Region.Mode) (ops : Array Oper) (listed : Array Bool) : Prop :=
  ∀ i o, ops[i]? = some o → listed.getD i true = true → ∀ e ∈ o.after, Region.binds md e = true → listed.getD e.on false = true

theorem getD_two {l : Array Bool} {i : Nat} (h : i < l.size) (a b : Bool) : l.getD i a = l.getD i b := by
  simp [Array.getD, h]
theorem getD_set_self {l : Array Bool} {i : Nat} (h : i < l.size) (d : Bool) : (l.setIfInBounds i true).getD i d = true := by
  simp [Array.getD, h]

theorem Closed.set {listed : Array Bool} (hc : Closed md ops listed) (hs : listed.size = ops.size) {i : Nat} (hi : i ∈ Region.ready md ops listed) : Closed md ops (listed.setIfInBounds i true) := by
  intro j o ho hj e he hb
  by_cases hji : j = i
  · subst hji
    obtain ⟨_, o', ho', hall⟩ := mem_ready.1 hi
    rw [ho] at ho'
    cases ho'
    exact getD_set_true (hall e he hb)
  · rw [getD_set_ne true (Ne.symm hji)] at hj
    exact getD_set_true (hc j o ho hj e he hb)

/-- When the last one may come up, all others have. -/
theorem all_of_last {L : Nat} {listed : Array Bool} (hsz : ops.size = L + 1) (hs : listed.size = ops.size) (hf : feedsB md ops L = true) (hc : Closed md ops listed) (hL : L ∈ Region.ready md ops listed) : ∀ i, i < L → listed.getD i true = true := by
  have key : ∀ n i, L - i ≤ n → i < L → listed.getD i true = true := by
    intro n
    induction n with
    | zero => intro i h1 h2; omega
    | succ n ih =>
      intro i h1 h2
      obtain ⟨j, o, e, hij, hjL, ho, he, hb, hei⟩ := feedsB_spec hf h2
      have h3 : listed.getD e.on false = true := by
        by_cases hj : j = L
        · subst hj
          obtain ⟨_, o', ho', hall⟩ := mem_ready.1 hL
          rw [ho] at ho'
          cases ho'
          exact hall e he hb
        · exact hc j o ho (ih j (by omega) (by omega)) e he hb
      rw [hei] at h3
      rw [getD_two (by omega) true false]
      exact h3
  exact fun i hi => key (L - i) i (Nat.le_refl _) hi
/-- While the last one has not come up, one may. -/
theorem ready_some {L : Nat} {listed : Array Bool} (hsz : ops.size = L + 1) (hs : listed.size = ops.size) (hd : downB md ops = true) (hL : listed.getD L true = false) : Region.ready md ops listed ≠ [] := by
  have key : ∀ n i, i ≤ n → i ≤ L → listed.getD i true = false → ∃ k, k ∈ Region.ready md ops listed := by
    intro n
    induction n with
    | zero =>
      intro i h1 h2 h3
      obtain rfl : i = 0 := by omega
      have ho : ops[0]? = some ops[0] := Array.getElem?_eq_getElem (by omega)
      exact ⟨0, mem_ready.2 ⟨h3, _, ho, fun e he hb => absurd (downB_spec hd ho e he hb) (by omega)⟩⟩
    | succ n ih =>
      intro i h1 h2 h3
      have ho : ops[i]? = some ops[i] := Array.getElem?_eq_getElem (by omega)
      by_cases hall : ∀ e ∈ ops[i].after, Region.binds md e = true → listed.getD e.on false = true
      · exact ⟨i, mem_ready.2 ⟨h3, _, ho, hall⟩⟩
      · simp only [Classical.not_forall] at hall
        obtain ⟨e, he, hb, hno⟩ := hall
        have hlt := downB_spec hd ho e he hb
        refine ih e.on (by omega) (by omega) ?_
        rw [getD_two (by omega) true false]
        simpa using hno
  obtain ⟨k, hk⟩ := key L L (Nat.le_refl _) (Nat.le_refl _) hL
  intro h0
  rw [h0] at hk
  cases hk

/-- The post behind all but the last: the last one's turn. -/
def LastQ (P : Program) (ops : Array Oper) (Q : Exit → Act → World → Prop) (L : Nat) : Exit → Act → World → Prop
  | .normal, a, w => wpOp P ops Q L (Q .normal) a w
  | e, a, w => Q e a w

theorem upon_last {L : Nat} {o : Oper} {a : Act} {K : Act → World → Prop} {r : Result Next} (h : o.upon P a K (LastQ P ops Q L) r) : o.upon P a K Q r := by
  cases r with
  | ok n w' =>
    cases n <;> simp only [Oper.upon] at h ⊢ <;> exact h
  | halt x w' => cases x <;> simp only [Oper.upon] at h ⊢ <;> exact h
theorem wpOp_last {L i : Nat} {K : Act → World → Prop} {a : Act} {w : World} (h : wpOp P ops (LastQ P ops Q L) i K a w) : wpOp P ops Q i K a w := by
  unfold wpOp at *
  split
  · rename_i ho; simp only [ho] at h; exact h
  · rename_i o ho
    simp only [ho] at h
    split
    · rename_i hw; simp only [hw, if_true] at h; exact h.imp (fun h => by unfold Oper.wp at *; exact upon_last h) (fun h => ⟨h.1, h.2⟩)
    · rename_i hw; simp only [hw] at h; exact h

theorem wpAny_last {L : Nat} (hsz : ops.size = L + 1) (hd : downB md ops = true) (hf : feedsB md ops L = true) :
    ∀ (fuel : Nat) (listed : Array Bool) (a : Act) (w : World), listed.size = ops.size → Closed md ops listed → listed.getD L true = false →
      wpAnyH P md ops (LastQ P ops Q L) S fuel (listed.setIfInBounds L true) a w → wpAny P md ops Q (fuel + 1) listed a w := by
  intro fuel
  induction fuel with
  | zero =>
    intro listed a w hs hc hL H
    refine ⟨fun h0 => absurd h0 (ready_some hsz hs hd hL), fun i hi => ?_⟩
    by_cases hiL : i = L
    · subst hiL
      exact wpOp_mono (fun a' w' h' => ⟨H.1, h'⟩) (show wpOp P ops Q i (Q .normal) a w from H.2)
    · have := ready_mono hi hiL
      rw [H.1] at this
      cases this
  | succ fuel ih =>
    intro listed a w hs hc hL H
    refine ⟨fun h0 => absurd h0 (ready_some hsz hs hd hL), fun i hi => ?_⟩
    by_cases hiL : i = L
    · subst hiL
      have hall := all_of_last hsz hs hf hc hi
      have hr : Region.ready md ops (listed.setIfInBounds i true) = [] := by
        rw [List.eq_nil_iff_forall_not_mem]
        intro k hk
        obtain ⟨h0, o, ho, _⟩ := mem_ready.1 hk
        have hkl : k < ops.size := (Array.getElem?_eq_some_iff.1 ho).1
        by_cases hki : k = i
        · subst hki
          rw [getD_set_self (by omega)] at h0
          cases h0
        · rw [getD_set_ne true (Ne.symm hki), hall k (by omega)] at h0
          cases h0
      exact wpOp_mono (fun a' w' h' => wpAny_done hr h' _) (show wpOp P ops Q i (Q .normal) a w from H.1 hr)
    · have h1 := wpOp_last (H.2 i (ready_mono hi hiL))
      refine wpOp_mono (fun a' w' h' => ih (listed.setIfInBounds i true) a' w' (by simpa using hs) (hc.set hs hi) ?_ ?_) h1
      · rw [getD_set_ne true hiL]; exact hL
      · rw [Array.setIfInBounds_comm _ _ hiL]; exact h'.2

/-- THE LAW. -/
theorem wp_region_last {id L : Nat} {a : Act} {w : World} (hm : P.follows .mixedOrders = true) (hsz : ops.size = L + 1) (hd : downB .any ops = true) (hf : feedsB .any ops L = true)
    (h : wpAnyH P .any ops (LastQ P ops Q L) S L ((Array.replicate ops.size false).setIfInBounds L true) a { w with drawn := w.drawn + 1 }) : (Code.region id ops true).wp P Q a w := by
  refine wp_region_any hm ?_
  have h2 := wpAny_last (md := .any) (Q := Q) (S := S) hsz hd hf L (Array.replicate ops.size false) a { w with drawn := w.drawn + 1 } (by simp) (fun i o ho hi => ?_) (by simp [Array.getD, hsz]) h
  · rwa [← hsz] at h2
  · have hlt := (Array.getElem?_eq_some_iff.1 ho).1
    simp [Array.getD, hlt] at hi

/-- Take number i first: what it writes to is said by the caller. -/
theorem takeH {i : Nat} (d : Option Tmp) {v : Value} {fuel : Nat} {listed : Array Bool} {a : Act} {w : World} (hd : (ops[i]?).map (·.dst) = some d)
    (hs : Region.noSelect ops = true) (hf : Region.free md ops listed i = true) (hr : (Region.ready md ops listed).contains i = true)
    (hQ : ∀ c a w, Q (.panic c) (a.put d v) w → Q (.panic c) a w) (hS : S w) (hy : ∀ o, ops[i]? = some o → YieldsIf P ops S o v a)
    (h : wpAnyH P md ops Q S fuel (listed.setIfInBounds i true) (a.put d v) w) : wpAnyH P md ops Q S (fuel + 1) listed a w := by
  cases ho : ops[i]? with
  | none => rw [ho] at hd; cases hd
  | some o =>
    rw [ho] at hd
    obtain rfl := Option.some.inj hd
    exact wpAnyH_take ho hs hf hr hQ (hy o ho) hS h
/-- Number i alone may come up. -/
theorem oneH {i : Nat} {fuel : Nat} {listed : Array Bool} {a : Act} {w : World} (hr : Region.ready md ops listed = [i])
    (h : ∀ o, ops[i]? = some o → ∀ K : Act → World → Prop, RowKit.Hid (∀ a' w', S w' → wpAnyH P md ops Q S fuel (listed.setIfInBounds i true) a' w' → K a' w') → if Region.wanted o (yielded ops a.tmps) = true then Oper.wp P o a w K Q else K (a.put o.dst undef) w) :
    wpAnyH P md ops Q S (fuel + 1) listed a w := by
  refine wpAnyH_all hr (by simp) fun k hk => ?_
  obtain rfl := List.mem_singleton.1 hk
  unfold wpOp
  split
  · rename_i ho
    have : k ∈ Region.ready md ops listed := by rw [hr]; simp
    obtain ⟨_, o, ho', _⟩ := mem_ready.1 this
    rw [ho] at ho'; cases ho'
  · rename_i o ho
    have := h o ho (fun a' w' => S w' ∧ wpAnyH P md ops Q S fuel (listed.setIfInBounds k true) a' w') (Lib.hid (fun a' w' h1 h2 => ⟨h1, h2⟩))
    split
    · rename_i hw; rw [if_pos hw] at this; exact .inl this
    · rename_i hw; rw [if_neg hw] at this; exact this
/-- The last one. -/
theorem lastH {L : Nat} {a : Act} {w : World} (hL : L < ops.size)
    (h : ∀ o, ops[L]? = some o → ∀ K : Act → World → Prop, RowKit.Hid (∀ a' w', Q .normal a' w' → K a' w') → if Region.wanted o (yielded ops a.tmps) = true then Oper.wp P o a w K Q else K (a.put o.dst undef) w) : LastQ P ops Q L .normal a w := by
  show wpOp P ops Q L (Q .normal) a w
  have ho : ops[L]? = some ops[L] := Array.getElem?_eq_getElem hL
  have := h _ ho (Q .normal) (Lib.hid (fun a' w' h1 => h1))
  unfold wpOp
  simp only [ho]
  split
  · rename_i hw; rw [if_pos hw] at this; exact .inl this
  · rename_i hw; rw [if_neg hw] at this; exact this
end
end Go.Proofs.Ytflbooopgjgkbaa

/- The program's newGrove: three rows, each place hanging below none. -/
namespace Go.Proofs.Ytflbooopgjgkbaa
open Go.ChangeShapes Go.WideShapes Go.RowKit Go.Deep
set_option linter.unusedVariables false

/-- Three rows of numbers. -/
structure GvM (w : World) (k He Ha Hl : Nat) (early least : Nat → Nat) (above : Nat → Int) : Prop where
  e : w.rowIs He 3 k (fun v => .int .i64 (early v : Int))
  a : w.rowIs Ha 3 k (fun v => .int .i64 (above v))
  l : w.rowIs Hl 3 k (fun v => .int .i64 (least v : Int))
  ne : He ≠ Ha ∧ He ≠ Hl ∧ Ha ≠ Hl

def ToldNG (k : Nat) (w : World) (e : Ending) (w' : World) : Prop :=
  (∃ He Ha Hl, e = .returned (.agg #[.slice (some ⟨He, 0, none⟩) k k, .slice (some ⟨Ha, 0, none⟩) k k, .slice (some ⟨Hl, 0, none⟩) k k]) ∧ w.heap.size ≤ He ∧ w.heap.size ≤ Ha ∧ w.heap.size ≤ Hl ∧ GvM w' k He Ha Hl (fun v => v) (fun v => v) (fun _ => -1)) ∧ Below w.heap.size w w'

theorem boxes5 (w : World) (M : Nat) (hM : M = w.heap.size) (o0 o1 o2 o3 o4 : Obj) (W : World) (hW : W = (((((w.alloc o0).alloc o1).alloc o2).alloc o3).alloc o4).drew) :
    W.heap[M]? = some o0 ∧ W.heap[M + 1]? = some o1 ∧ W.heap[M + 1 + 1]? = some o2 ∧ W.heap[M + 1 + 1 + 1]? = some o3 ∧ W.heap[M + 1 + 1 + 1 + 1]? = some o4 ∧ W.heap.size = M + 5 ∧ Below M w W := by
  subst hM hW
  have hz (u : World) (o : Obj) : (u.alloc o).heap.size = u.heap.size + 1 := by simp
  have hg (u : World) (o : Obj) (k : Nat) : (u.alloc o).heap[k]? = if k = u.heap.size then some o else u.heap[k]? := by
    show (u.heap.push o)[k]? = _
    rw [Array.getElem?_push]
  have hd (u : World) (k : Nat) : u.drew.heap[k]? = u.heap[k]? := rfl
  refine ⟨?_, ?_, ?_, ?_, ?_, ?_, ?_⟩
  · rw [hd]; simp only [hg, hz]; repeat rw [if_neg (by omega)]
    exact if_pos (by first | trivial | omega)
  · rw [hd]; simp only [hg, hz]; repeat rw [if_neg (by omega)]
    exact if_pos (by first | trivial | omega)
  · rw [hd]; simp only [hg, hz]; repeat rw [if_neg (by omega)]
    exact if_pos (by first | trivial | omega)
  · rw [hd]; simp only [hg, hz]; repeat rw [if_neg (by omega)]
    exact if_pos (by first | trivial | omega)
  · rw [hd]; simp only [hg, hz]; repeat rw [if_neg (by omega)]
    exact if_pos (by first | trivial | omega)
  · show (((((w.alloc o0).alloc o1).alloc o2).alloc o3).alloc o4).heap.size = _
    simp [hz]
  · refine Below.drew ?_
    refine (((((Below.refl _ w).alloc ?_ _).alloc ?_ _).alloc ?_ _).alloc ?_ _).alloc ?_ _
    all_goals (simp [hz]; try omega)

/-- Behind the struct's making: its three rows, it itself, and the result's box. -/
def MkNG (k : Nat) (w : World) (He Ha Hl Hg : Nat) (wc : World) : Prop :=
  wc.heap[Hg]? = some (.cells #[.slice (some ⟨He, 0, none⟩) k k, .slice (some ⟨Ha, 0, none⟩) k k, .slice (some ⟨Hl, 0, none⟩) k k] 147) ∧
  wc.heap[He]? = some (.cells (madeCells #[.int .i64 0] k) 3) ∧ wc.heap[Ha]? = some (.cells (madeCells #[.int .i64 0] k) 3) ∧ wc.heap[Hl]? = some (.cells (madeCells #[.int .i64 0] k) 3) ∧
  wc.heap[w.heap.size]? = some (.cells #[.slice none 0 0, .slice none 0 0, .slice none 0 0] 147) ∧
  (w.heap.size < He ∧ w.heap.size < Ha ∧ w.heap.size < Hl ∧ w.heap.size < Hg ∧ He ≠ Ha ∧ He ≠ Hl ∧ Ha ≠ Hl ∧ Hg ≠ He ∧ Hg ≠ Ha ∧ Hg ≠ Hl) ∧ Below w.heap.size w wc
def WcNG (k : Nat) (w : World) (s3 : Value) (wc : World) : Prop := ∃ He Ha Hl Hg : Nat, s3 = .pointer (some ⟨Hg, 0, none⟩) ∧ MkNG k w He Ha Hl Hg wc
theorem leafNG {k : Nat} {w W : World} {s3 : Value} {o0 o1 o2 o3 o4 : Obj} (hW : W = (((((w.alloc o0).alloc o1).alloc o2).alloc o3).alloc o4).drew)
    (f : (W.heap[w.heap.size]? = some o0 ∧ W.heap[w.heap.size + 1]? = some o1 ∧ W.heap[w.heap.size + 1 + 1]? = some o2 ∧ W.heap[w.heap.size + 1 + 1 + 1]? = some o3 ∧ W.heap[w.heap.size + 1 + 1 + 1 + 1]? = some o4 ∧ W.heap.size = w.heap.size + 5 ∧ Below w.heap.size w W) → WcNG k w s3 W) : WcNG k w s3 W :=
  f (boxes5 w w.heap.size rfl o0 o1 o2 o3 o4 W hW)
/-- How far the rows are laid. -/
def LayNG (k : Nat) (w : World) (He Ha Hl Hg j : Nat) (wr : World) : Prop :=
  GvM wr k He Ha Hl (fun v => if v < j then v else 0) (fun v => if v < j then v else 0) (fun v => if v < j then -1 else 0) ∧
  wr.heap[Hg]? = some (.cells #[.slice (some ⟨He, 0, none⟩) k k, .slice (some ⟨Ha, 0, none⟩) k k, .slice (some ⟨Hl, 0, none⟩) k k] 147) ∧
  wr.heap[w.heap.size]? = some (.cells #[.slice none 0 0, .slice none 0 0, .slice none 0 0] 147) ∧ Below w.heap.size w wr
theorem row_made {w : World} {H k : Nat} (h : w.heap[H]? = some (.cells (madeCells #[.int .i64 0] k) 3)) : w.rowIs H 3 k (fun _ => .int .i64 0) :=
  ⟨_, h, size_madeCells _ _, fun i hi => by simp [madeCells, hi, Nat.mod_one]⟩
theorem LayNG.start {k : Nat} {w wc : World} {He Ha Hl Hg : Nat} (h : MkNG k w He Ha Hl Hg wc) : LayNG k w He Ha Hl Hg 0 wc := by
  obtain ⟨h1, h2, h3, h4, h5, ⟨_, _, _, _, n1, n2, n3, _⟩, h7⟩ := h
  exact ⟨⟨(row_made h2).congr fun _ _ => rfl, (row_made h3).congr fun _ _ => rfl, (row_made h4).congr fun _ _ => rfl, n1, n2, n3⟩, h1, h5, h7⟩
theorem LayNG.step {k : Nat} {w wr : World} {He Ha Hl Hg j : Nat} (h : LayNG k w He Ha Hl Hg j wr)
    (hn : w.heap.size < He ∧ w.heap.size < Ha ∧ w.heap.size < Hl ∧ w.heap.size < Hg ∧ He ≠ Ha ∧ He ≠ Hl ∧ Ha ≠ Hl ∧ Hg ≠ He ∧ Hg ≠ Ha ∧ Hg ≠ Hl) :
    LayNG k w He Ha Hl Hg (j + 1) (((wr.setCell ⟨He, j, none⟩ (.int .i64 (j : Int))).setCell ⟨Ha, j, none⟩ (.int .i64 (-1))).setCell ⟨Hl, j, none⟩ (.int .i64 (j : Int))).drew := by
  obtain ⟨p1, p2, p3, p4, n1, n2, n3, n4, n5, n6⟩ := hn
  obtain ⟨⟨h1, h2, h3, h4⟩, h5, h6, h7⟩ := h
  have hs : ∀ (u : World) (H i k : Nat) (v : Value), k ≠ H → (u.setCell ⟨H, i, none⟩ v).heap[k]? = u.heap[k]? := fun u H i k v hk => Below.heap_setCell _ _ _ _ hk
  have rd : ∀ (u : World) (H : Nat) (f : Nat → Value), u.rowIs H 3 k f → u.drew.rowIs H 3 k f := fun _ _ _ h => h
  have r1 := ((h1.set j (.int .i64 (j : Int))).of_block (hs _ Ha j He (.int .i64 (-1)) n1)).of_block (hs _ Hl j He (.int .i64 (j : Int)) n2)
  have r2 := ((h2.of_block (hs _ He j Ha (.int .i64 (j : Int)) n1.symm)).set j (.int .i64 (-1))).of_block (hs _ Hl j Ha (.int .i64 (j : Int)) n3)
  have r3 := ((h3.of_block (hs _ He j Hl (.int .i64 (j : Int)) n2.symm)).of_block (hs _ Ha j Hl (.int .i64 (-1)) n3.symm)).set j (.int .i64 (j : Int))
  refine ⟨⟨?_, ?_, ?_, h4⟩, ?_, ?_, ?_⟩
  · refine (rd _ _ _ r1).congr fun v _ => ?_
    by_cases e : v = j
    · simp [e]
    · simp only [if_neg e]; by_cases e2 : v < j
      · rw [if_pos e2, if_pos (by omega)]
      · rw [if_neg e2, if_neg (by omega)]
  · refine (rd _ _ _ r2).congr fun v _ => ?_
    by_cases e : v = j
    · simp [e]
    · simp only [if_neg e]; by_cases e2 : v < j
      · rw [if_pos e2, if_pos (by omega)]
      · rw [if_neg e2, if_neg (by omega)]
  · refine (rd _ _ _ r3).congr fun v _ => ?_
    by_cases e : v = j
    · simp [e]
    · simp only [if_neg e]; by_cases e2 : v < j
      · rw [if_pos e2, if_pos (by omega)]
      · rw [if_neg e2, if_neg (by omega)]
  · exact (hs _ Hl j Hg _ n6).trans ((hs _ Ha j Hg _ n5).trans ((hs _ He j Hg _ n4).trans h5))
  · exact (hs _ Hl j _ _ (by omega)).trans ((hs _ Ha j _ _ (by omega)).trans ((hs _ He j _ _ (by omega)).trans h6))
  · exact (((h7.setCell (p := ⟨He, j, none⟩) (by show _ ≤ He; omega) _).setCell (p := ⟨Ha, j, none⟩) (by show _ ≤ Ha; omega) _).setCell (p := ⟨Hl, j, none⟩) (by show _ ≤ Hl; omega) _).drew
theorem LayNG.all {k : Nat} {w wr : World} {He Ha Hl Hg : Nat} (h : LayNG k w He Ha Hl Hg k wr) : GvM wr k He Ha Hl (fun v => v) (fun v => v) (fun _ => -1) := by
  obtain ⟨⟨h1, h2, h3, h4⟩, -⟩ := h
  exact ⟨h1.congr fun v hv => by rw [if_pos hv], h2.congr fun v hv => by rw [if_pos hv], h3.congr fun v hv => by rw [if_pos hv], h4⟩
theorem GvM.of_blocks {w w' : World} {k He Ha Hl : Nat} {early least : Nat → Nat} {above : Nat → Int} (h : GvM w k He Ha Hl early least above) (he : w'.heap[He]? = w.heap[He]?) (ha : w'.heap[Ha]? = w.heap[Ha]?) (hl : w'.heap[Hl]? = w.heap[Hl]?) : GvM w' k He Ha Hl early least above :=
  ⟨h.e.of_block he, h.a.of_block ha, h.l.of_block hl, h.ne⟩

set_option maxRecDepth 100000 in
set_option maxHeartbeats 4000000 in
theorem newGrove_any (k : Nat) (w : World) (hk : k ≤ 1000000) : Calls Try.prog 86 #[.int .i64 k] w (ToldNG k w) := by
  have hmk := run_make_row' (P := Try.prog) 22 3 (.int .i64 0) 8 Try.underlying22 Try.info3 rfl .i64 .i64 k (by omega) (by omega)
  go_enter Try.func86, Try.ntmps86
  go_upto_region 1 with fail
  go_cut [3] (fun s3 wc => WcNG k w s3 wc)
  case first =>
    go_region
    all_goals (go_wp2_with fail; go_meet)
    all_goals (
      case rel =>
        refine leafNG rfl ?_
        rintro ⟨b0, b1, b2, b3, b4, hsz, hbel⟩
        exact ⟨_, _, _, _, rfl, by first | exact b1 | exact b2 | exact b3 | exact b4, by first | exact b1 | exact b2 | exact b3 | exact b4, by first | exact b1 | exact b2 | exact b3 | exact b4, by first | exact b1 | exact b2 | exact b3 | exact b4, b0, by omega, hbel⟩)
  case rest =>
    obtain ⟨He, Ha, Hl, Hg, rfl, hmk2⟩ := hcut
    have HST := Lib.hid (LayNG.start hmk2)
    have HD := Lib.hid hmk2.2.2.2.2.2.1
    clear hmk2 hmk
    go_wp2_with fail
    go_loopw [13] (fun i wr => ∃ j : Nat, j ≤ k ∧ i = .int .i64 j ∧ LayNG k w He Ha Hl Hg j wr) (fun i _ => k - (intOf i).toNat)
    case atStart => exact ⟨0, Nat.zero_le _, rfl, HST.out⟩
    case round =>
      obtain ⟨j, hj, rfl, hl⟩ := hrel
      have HL := Lib.hid hl
      obtain ⟨⟨r1, r2, r3, -⟩, h5, h6, h7⟩ := hl
      have c0 : wr.cell? ⟨Hg, 0, none⟩ = some (.slice (some ⟨He, 0, none⟩) k k) := cell_of_block h5 0
      have c1 : wr.cell? ⟨Hg, 1, none⟩ = some (.slice (some ⟨Ha, 0, none⟩) k k) := cell_of_block h5 1
      have c2 : wr.cell? ⟨Hg, 2, none⟩ = some (.slice (some ⟨Hl, 0, none⟩) k k) := cell_of_block h5 2
      by_cases hjk : j < k
      · have e1 : wr.cell? ⟨He, j, none⟩ = some (.int .i64 0) := by have := r1.cell hjk; simpa using this
        have e2 : wr.cell? ⟨Ha, j, none⟩ = some (.int .i64 0) := by have := r2.cell hjk; simpa using this
        have e3 : wr.cell? ⟨Hl, j, none⟩ = some (.int .i64 0) := by have := r3.cell hjk; simpa using this
        have f1 := r1.frozen j
        have f2 := r2.frozen j
        have f3 := r3.frozen j
        have hj0 : (0 : Int) ≤ j := by omega
        have hj1 : (j : Int) < k := by omega
        obtain ⟨p1, p2, p3, p4, n1, n2, n3, n4, n5, n6⟩ := HD.out
        have n7 := Ne.symm n1
        have n8 := Ne.symm n2
        have n9 := Ne.symm n3
        have n10 := Ne.symm n4
        have n11 := Ne.symm n5
        have n12 := Ne.symm n6
        clear r1 r2 r3 h5 h6 h7
        go_upto_region 5 with fail
        go_region
        all_goals (
          go_wp2_with fail
          go_roundw)
        case rel => exact ⟨j + 1, by omega, by go_num, LayNG.step HL.out HD.out⟩
        case measure => simp [intOf]; omega
      · obtain rfl : j = k := by omega
        have hGV := LayNG.all HL.out
        obtain ⟨p1, p2, p3, p4, -⟩ := HD.out
        have hoth : ∀ y, y ≠ w.heap.size → (((wr.setCell ⟨w.heap.size, 0, none⟩ (.slice (some ⟨He, 0, none⟩) j j)).setCell ⟨w.heap.size, 1, none⟩ (.slice (some ⟨Ha, 0, none⟩) j j)).setCell ⟨w.heap.size, 2, none⟩ (.slice (some ⟨Hl, 0, none⟩) j j)).heap[y]? = wr.heap[y]? := fun y hy => ((Below.heap_setCell _ _ _ _ hy).trans (Below.heap_setCell _ _ _ _ hy)).trans (Below.heap_setCell _ _ _ _ hy)
        have hfin : (((wr.setCell ⟨w.heap.size, 0, none⟩ (.slice (some ⟨He, 0, none⟩) j j)).setCell ⟨w.heap.size, 1, none⟩ (.slice (some ⟨Ha, 0, none⟩) j j)).setCell ⟨w.heap.size, 2, none⟩ (.slice (some ⟨Hl, 0, none⟩) j j)).heap[w.heap.size]? = some (.cells #[.slice (some ⟨He, 0, none⟩) j j, .slice (some ⟨Ha, 0, none⟩) j j, .slice (some ⟨Hl, 0, none⟩) j j] 147) := set_of_block _ (set_of_block _ (set_of_block _ h6))
        have HFIN := Lib.hid hfin
        have HRES := Lib.hid (hGV.of_blocks (hoth He (by omega)) (hoth Ha (by omega)) (hoth Hl (by omega)))
        have HBEL := Lib.hid (((h7.setCell (p := ⟨w.heap.size, 0, none⟩) (Nat.le_refl _) (.slice (some ⟨He, 0, none⟩) j j)).setCell (p := ⟨w.heap.size, 1, none⟩) (Nat.le_refl _) (.slice (some ⟨Ha, 0, none⟩) j j)).setCell (p := ⟨w.heap.size, 2, none⟩) (Nat.le_refl _) (.slice (some ⟨Hl, 0, none⟩) j j))
        have hm0 := cell_of_block h6 0
        have hm1 := cell_of_block h6 1
        have hm2 := cell_of_block h6 2
        have hf0 : wr.frozen? ⟨w.heap.size, 0, none⟩ = false := by unfold World.frozen?; simp [h6]
        have hf1 : wr.frozen? ⟨w.heap.size, 1, none⟩ = false := by unfold World.frozen?; simp [h6]
        have hf2 : wr.frozen? ⟨w.heap.size, 2, none⟩ = false := by unfold World.frozen?; simp [h6]
        have HP := Lib.hid (And.intro p1 (And.intro p2 p3))
        clear r1 r2 r3 h5 h6 h7 hoth hfin hGV p1 p2 p3 p4
        go_wp2_with fail
        refine bodyPost_ret (results_cell_row rfl _ _ w.heap.size 147 #[.slice (some ⟨He, 0, none⟩) j j, .slice (some ⟨Ha, 0, none⟩) j j, .slice (some ⟨Hl, 0, none⟩) j j] (0, 0) _ (by rfl) HFIN.out Try.underlying147 (by rfl) (by kernel_rfl)) rfl ?_
        exact ⟨⟨He, Ha, Hl, rfl, by have := HP.out; omega, by have := HP.out; omega, by have := HP.out; omega, HRES.out⟩, HBEL.out⟩
end Go.Proofs.Ytflbooopgjgkbaa
