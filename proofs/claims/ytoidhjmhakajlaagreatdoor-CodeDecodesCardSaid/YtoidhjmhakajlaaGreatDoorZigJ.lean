/- What is written: withNumber, and the writer's number. -/
import Derived.Test.YtoidhjmhakajlaaGreatDoorBytJ
import Derived.Test.YtoidhjmhakajlaaGreatDoorModBJ
import Derived.ArgAppend
namespace Go.Proofs.YtoidhjmhakajlaaGreatDoor
open Go.ChangeShapes Go.WideShapes Go.RowKit Go.Deep
set_option linter.unusedVariables false

def bv (b : UInt8) : Value := .int .u8 b.toNat
/-- Of all that was there only the blocks P and that of v may have changed; the value v' lies in that of v, or is new. -/
structure Gr (w w' : World) (v v' : Value) : Prop where
  os : w'.os = w.os
  tape : w'.tape = w.tape
  output : w'.output = w.output
  size : w.heap.size ≤ w'.heap.size
  block : ∀ k, k < w.heap.size → v.ownBlock ≠ some k → w'.heap[k]? = w.heap[k]?
  own : ∀ g, v'.ownBlock = some g → v.ownBlock = some g ∨ w.heap.size ≤ g
theorem Gr.refl (w : World) (v : Value) : Gr w w v v := ⟨rfl, rfl, rfl, Nat.le_refl _, fun _ _ _ => rfl, fun _ h => .inl h⟩
theorem Gr.trans {a b c : World} {u v x : Value} (h : Gr a b u v) (k : Gr b c v x) : Gr a c u x :=
  ⟨k.os.trans h.os, k.tape.trans h.tape, k.output.trans h.output, Nat.le_trans h.size k.size,
   fun i hi hv => (k.block i (Nat.lt_of_lt_of_le hi h.size) (fun e => by rcases h.own i e with g | g; exact hv g; omega)).trans (h.block i hi hv),
   fun g hg => by
    rcases k.own g hg with h1 | h1
    · exact h.own g h1
    · exact .inr (Nat.le_trans h.size h1)⟩
/-- One append of one element, which first lies in a block of its own. -/
theorem gr_append {w w1 : World} {o : Obj} {v : Value} {g n cap : Nat} (hg : (w.alloc o).grownBy w1 v.ownBlock) (hl : v.ownBlock = some g ∨ g = w.heap.size + 1) : Gr w w1 v (.slice (some ⟨g, 0, none⟩) n cap) :=
  ⟨hg.os, hg.tape, hg.output, Nat.le_trans (by simp) hg.size, fun k hk hv => (hg.block k (by simp; omega) (fun e => hv e.symm)).trans (Below.heap_alloc _ _ _ hk),
   fun x hx => by
    obtain rfl : g = x := Option.some.inj hx
    rcases hl with h | h
    · exact .inl h
    · exact .inr (by omega)⟩
theorem Tryz.info5 : (Tryz.prog.info? 5).map (fun i => (i.zero, i.size, i.bytes)) = some (some (.int .u8 0), 1, 1) := by kernel_rfl
theorem oneCell_bv (x : Value) (h : x.oneCell' = true) : ∀ u ∈ [x], u.oneCell' = true := by intro u hu; rw [List.mem_singleton.1 hu]; exact h

/-- Bytes are told, in a row that the call owns. -/
def TB (base : Nat) (w : World) (v : Value) (ys : List UInt8) (e : Ending) (w' : World) : Prop :=
  ∃ g cap, e = .returned (.slice (some ⟨g, 0, none⟩) ys.length cap) ∧ w'.ownsRow base 5 1 (.slice (some ⟨g, 0, none⟩) ys.length cap) ys.length (ys.map bv) ∧ Gr w w' v (.slice (some ⟨g, 0, none⟩) ys.length cap)
theorem or_fin : ∀ m : Fin 256, bits .or .u8 (m.val : Int) 128 = ((m.val % 128 + 128 : Nat) : Int) := by decide +kernel
theorem or_byte (k : Nat) : bits .or .u8 ((k : Int) % 256) 128 = (UInt8.ofNat (k % 128 + 128)).toNat := by
  have h := or_fin ⟨k % 256, by omega⟩
  rw [byte_of (by omega)]
  dsimp only at h
  rw [show ((k : Int) % 256) = ((k % 256 : Nat) : Int) by omega, h, show k % 256 % 128 = k % 128 by omega]
theorem numB_pos (n : Nat) : 1 ≤ (numB n).length := by
  by_cases h : n < 128
  · rw [numB_lt h]; simp
  · rw [numB_ge h]; simp
set_option maxRecDepth 100000 in
set_option maxHeartbeats 1000000 in
theorem withNumber_any (base n : Nat) (v : Value) (xs : List UInt8) (w : World) (hn : n < 18446744073709551616) (h : w.ownsRow base 5 1 v xs.length (xs.map bv)) (hb : base ≤ w.heap.size) (hlen : xs.length ≤ 1099511627776) :
    Calls Tryz.prog 102 #[v, .int .u64 n] w (TB base w v (xs ++ numB n)) := by
  obtain ⟨i0, hi, hz0, hz1, hz2⟩ := info_parts Tryz.info5
  have HI := Lib.hid (And.intro hi (And.intro hz0 (And.intro hz1 hz2)))
  clear hi hz0 hz1 hz2
  have HN := Lib.hid hn
  clear hn
  go_enter Tryz.func102, Tryz.ntmps102
  go_wp2_with fail
  go_loopw [0, 1] (fun u m wr => ∃ (k : Nat) (ys : List UInt8), m = .int .u64 k ∧ Hid (k < 18446744073709551616) ∧ Hid (ys ++ numB k = xs ++ numB n) ∧ wr.ownsRow base 5 1 u ys.length (ys.map bv) ∧ base ≤ wr.heap.size ∧ Hid (Gr w wr v u)) (fun _ m _ => (intOf m).toNat)
  case atStart => exact ⟨n, xs, rfl, HN, Lib.hid rfl, h, hb, Lib.hid (Gr.refl _ _)⟩
  case round =>
    obtain ⟨k, ys, rfl, hk, he, ho, hbr, hg⟩ := hrel
    have hyl : ys.length ≤ 1099511627796 := by
      have h1 := congrArg List.length he.out
      rw [List.length_append, List.length_append] at h1
      have h2 := numB_len10 HN.out
      omega
    by_cases h0 : k < 128
    · have H0 := Lib.hid h0
      go_wp2_with (at_builtin; refine wpList_append_lies _ rfl (.tmp 15) (.tmp 18) 27 rfl base 5 i0 (.int .u8 0) 1 1 Tryz.underlying27 HI.out.1 HI.out.2.1 HI.out.2.2.1 HI.out.2.2.2 rfl (by decide) _ _ _ rfl (ho.alloc _) ⟨wr.heap.size, 0, none⟩ 1 1 [_] rfl rfl (cell_one_new _ _ _) (oneCell_bv _ rfl) (by decide) (by unfold maxLen; omega) (by omega) (by simp; omega) (wr.heap.size + 1) (by simp) ?_; intro g cap w1 hown1 hgr hloc hltg)
      go_ret
      have e : (ys ++ [UInt8.ofNat k]) = xs ++ numB n := by rw [← he.out, numB_lt H0.out]
      have e2 : (xs ++ numB n).length = ys.length + 1 := by rw [← e]; simp
      refine ⟨g, cap, by rw [e2]; rfl, ?_, by rw [e2]; exact hg.out.trans (gr_append hgr hloc)⟩
      rw [← e]
      simpa [bv, byte_of (show k < 256 by omega)] using hown1
    · have H0 := Lib.hid h0
      go_wp2_with (at_builtin; refine wpList_append_lies _ rfl (.tmp 7) (.tmp 11) 27 rfl base 5 i0 (.int .u8 0) 1 1 Tryz.underlying27 HI.out.1 HI.out.2.1 HI.out.2.2.1 HI.out.2.2.2 rfl (by decide) _ _ _ rfl (ho.alloc _) ⟨wr.heap.size, 0, none⟩ 1 1 [_] rfl rfl (cell_one_new _ _ _) (oneCell_bv _ rfl) (by decide) (by unfold maxLen; omega) (by omega) (by simp; omega) (wr.heap.size + 1) (by simp) ?_; intro g cap w1 hown1 hgr hloc hltg)
      go_roundw
      case rel =>
        refine ⟨k / 128, ys ++ [UInt8.ofNat (k % 128 + 128)], by go_num, Lib.hid (by have := hk.out; omega), Lib.hid ?_, ?_, by have := hgr.size; simp at this; omega, Lib.hid (hg.out.trans (gr_append hgr hloc))⟩
        · rw [← he.out, numB_ge H0.out, List.append_assoc]; rfl
        · rw [or_byte] at hown1
          simpa [bv] using hown1
      case measure => simp [intOf]; omega

/-! ### The writer -/
/-- The writer in block P holds the bytes xs; all that was there ahead is as it was. -/
structure Wri (w0 : World) (P : Nat) (w : World) (xs : List UInt8) : Prop where
  bel : Below w0.heap.size w0 w
  hP : w0.heap.size ≤ P
  row : ∃ v, w.heap[P]? = some (.cells #[v] 101 (0, 0)) ∧ w.ownsRow w0.heap.size 5 1 v xs.length (xs.map bv) ∧ v.ownBlock ≠ some P
/-- Of all that was there only the writer's block, and that of its bytes, may have changed. -/
structure WS (P : Nat) (w w' : World) : Prop where
  size : w.heap.size ≤ w'.heap.size
  cell : ∃ v v', w.heap[P]? = some (.cells #[v] 101 (0, 0)) ∧ w'.heap[P]? = some (.cells #[v'] 101 (0, 0)) ∧
    (∀ k, k < w.heap.size → k ≠ P → v.ownBlock ≠ some k → w'.heap[k]? = w.heap[k]?) ∧ (∀ g, v'.ownBlock = some g → v.ownBlock = some g ∨ w.heap.size ≤ g)
theorem WS.refl {w0 w : World} {P : Nat} {xs : List UInt8} (h : Wri w0 P w xs) : WS P w w := by
  obtain ⟨v, h1, _⟩ := h.row
  exact ⟨Nat.le_refl _, v, v, h1, h1, fun _ _ _ _ => rfl, fun _ h => .inl h⟩
theorem cells_inj {a b : Value} {t : TypeId} {f : Nat × Nat} {o : Option Obj} (h : o = some (.cells #[a] t f)) (k : o = some (.cells #[b] t f)) : a = b := by
  have := h.symm.trans k
  simpa using this
theorem WS.trans {P : Nat} {a b c : World} (h : WS P a b) (k : WS P b c) : WS P a c := by
  obtain ⟨h1, v, v', h2, h3, h4, h5⟩ := h
  obtain ⟨k1, u, u', k2, k3, k4, k5⟩ := k
  obtain rfl := cells_inj h3 k2
  refine ⟨Nat.le_trans h1 k1, v, u', h2, k3, fun i hi hP hv => (k4 i (by omega) hP (fun e => ?_)).trans (h4 i hi hP hv), fun g hg => ?_⟩
  · rcases h5 i e with g | g
    · exact hv g
    · omega
  · rcases k5 g hg with g1 | g1
    · exact h5 g g1
    · exact .inr (by omega)
/-- A block that is apart from the writer's two. -/
def Apart (P : Nat) (w : World) (k : Nat) : Prop := k < w.heap.size ∧ k ≠ P ∧ ∀ v, w.heap[P]? = some (.cells #[v] 101 (0, 0)) → v.ownBlock ≠ some k
theorem WS.apart {P : Nat} {w w' : World} {k : Nat} (h : WS P w w') (ha : Apart P w k) : Apart P w' k ∧ w'.heap[k]? = w.heap[k]? := by
  obtain ⟨h1, v, v', h2, h3, h4, h5⟩ := h
  refine ⟨⟨by have := ha.1; omega, ha.2.1, fun u hu e => ?_⟩, h4 k ha.1 ha.2.1 (ha.2.2 v h2)⟩
  obtain rfl := cells_inj h3 hu
  rcases h5 k e with g | g
  · exact ha.2.2 v h2 g
  · have := ha.1; omega
theorem WS.keep {P : Nat} {w w' : World} {k : Nat} {o : Obj} (h : WS P w w') (ha : Apart P w k) (ho : w.heap[k]? = some o) : Apart P w' k ∧ w'.heap[k]? = some o := ⟨(h.apart ha).1, (h.apart ha).2.trans ho⟩
theorem Wri.lt {w0 w : World} {P : Nat} {xs : List UInt8} (h : Wri w0 P w xs) : P < w.heap.size := by
  obtain ⟨v, h1, _⟩ := h.row
  exact block_lt h1
/-- A new block is apart. -/
theorem Wri.alloc {w0 w : World} {P : Nat} {xs : List UInt8} (h : Wri w0 P w xs) (o : Obj) : Wri w0 P (w.alloc o) xs ∧ WS P w (w.alloc o) ∧ Apart P (w.alloc o) w.heap.size ∧ (w.alloc o).heap[w.heap.size]? = some o := by
  have hlt := h.lt
  obtain ⟨b, hP, v, h1, h2, h3⟩ := h
  have e : (w.alloc o).heap[P]? = some (.cells #[v] 101 (0, 0)) := (Below.heap_alloc _ _ _ hlt).trans h1
  refine ⟨⟨b.alloc b.size _, hP, v, e, h2.alloc o, h3⟩, ⟨by simp, v, v, h1, e, fun k hk _ _ => Below.heap_alloc _ _ _ hk, fun _ h => .inl h⟩, ⟨by simp, by omega, fun u hu hv => ?_⟩, heap_alloc_new w o⟩
  obtain rfl := cells_inj e hu
  have := (h2.lt _ hv).2
  omega
theorem Wri.keep {w0 w : World} {P : Nat} {xs : List UInt8} (h : Wri w0 P w xs) : Kept w0 w := kept_of_below h.bel

theorem Wri.drew {w0 w : World} {P : Nat} {xs : List UInt8} (h : Wri w0 P w xs) : Wri w0 P w.drew xs := ⟨h.bel.drew, h.hP, h.row⟩
theorem WS.drew {P : Nat} {a w : World} (h : WS P a w) : WS P a w.drew := ⟨h.size, h.cell⟩
/-- The bytes told are stored. -/
theorem wri_done {w0 w w1 : World} {P g cap : Nat} {v : Value} {ys : List UInt8} (hb : Below w0.heap.size w0 w) (hP : w0.heap.size ≤ P) (hc : w.heap[P]? = some (.cells #[v] 101 (0, 0)))
    (hov : ∀ k, v.ownBlock = some k → w0.heap.size ≤ k) (hv : v.ownBlock ≠ some P) (ho1 : w1.ownsRow w0.heap.size 5 1 (.slice (some ⟨g, 0, none⟩) ys.length cap) ys.length (ys.map bv)) (hg : Gr w w1 v (.slice (some ⟨g, 0, none⟩) ys.length cap)) :
    w1.heap[P]? = some (.cells #[v] 101 (0, 0)) ∧ Wri w0 P (w1.setCell ⟨P, 0, none⟩ (.slice (some ⟨g, 0, none⟩) ys.length cap)) ys ∧ WS P w (w1.setCell ⟨P, 0, none⟩ (.slice (some ⟨g, 0, none⟩) ys.length cap)) := by
  have hlt := block_lt hc
  have hc1 : w1.heap[P]? = some (.cells #[v] 101 (0, 0)) := (hg.block P hlt hv).trans hc
  have hv1 : (Value.slice (some ⟨g, 0, none⟩) ys.length cap).ownBlock ≠ some P := fun e => by
    rcases hg.own P e with h | h
    · exact hv h
    · omega
  have e := set_of_block (i := 0) (.slice (some ⟨g, 0, none⟩) ys.length cap) hc1
  have hbe : Below w0.heap.size w w1 := ⟨hg.os, hg.tape, hg.output, hg.size, fun k hk => hg.block k (by have := hb.size; omega) (fun e => by have := hov k e; omega)⟩
  exact ⟨hc1, ⟨(hb.trans hbe).setCell (by exact hP) _, hP, _, e, own_block ho1 (fun x hx => Below.heap_setCell _ _ _ _ (fun e => hv1 (by rw [hx, e]))), hv1⟩, ⟨by have := hg.size; simpa [World.setCell] using this, v, _, hc, e, fun k hk hP2 hv2 => (Below.heap_setCell _ _ _ _ hP2).trans (hg.block k hk hv2), hg.own⟩⟩

/-- What a writer's function does. -/
def ToldW (w0 : World) (P : Nat) (w : World) (ys : List UInt8) (e : Ending) (w' : World) : Prop := e = .returned (.tuple #[]) ∧ Wri w0 P w' ys ∧ WS P w w'
set_option maxRecDepth 100000 in
set_option maxHeartbeats 1000000 in
theorem number_of (w0 : World) (P : Nat) (w : World) (v : Value) (ys : List UInt8) (n : Nat) (hn1 : (n : Int) ≤ 9223372036854775807) (hb : Below w0.heap.size w0 w) (hP : w0.heap.size ≤ P) (hc : w.heap[P]? = some (.cells #[v] 101 (0, 0)))
    (hov : ∀ k, v.ownBlock = some k → w0.heap.size ≤ k) (hv : v.ownBlock ≠ some P) (HW : Calls Tryz.prog 102 #[v, .int .u64 n] w (TB w0.heap.size w v ys)) :
    Calls Tryz.prog 77 #[.pointer (some ⟨P, 0, none⟩), .int .i64 n] w (ToldW w0 P w ys) := by
  have c0 := cell_of_block hc 0
  have f0 := free_of_block hc 0
  have HC := Lib.hid hc
  have HO := Lib.hid hov
  clear hc hov
  have HW := Lib.hid HW
  go_enter Tryz.func77, Tryz.ntmps77
  go_wp2_with fail
  refine HW.out.mono ?_
  rintro e w1 ⟨g, cap, rfl, ho1, hg⟩
  obtain ⟨hc1, hW, hS⟩ := wri_done hb hP HC.out HO.out hv ho1 hg
  have c1 := cell_of_block hc1 0
  have f1 := free_of_block hc1 0
  have HC1 := Lib.hid hc1
  clear hc1
  go_wp2_with fail
  go_end0
  exact ⟨rfl, hW, hS⟩
theorem number_any (w0 : World) (P : Nat) (w : World) (xs : List UInt8) (x : Int) (hx : 0 ≤ x ∧ x ≤ 9223372036854775807) (hw : Wri w0 P w xs) (hlen : xs.length ≤ 1099511627776) :
    Calls Tryz.prog 77 #[.pointer (some ⟨P, 0, none⟩), .int .i64 x] w (ToldW w0 P w (xs ++ intB x)) := by
  obtain ⟨n, rfl⟩ := Int.eq_ofNat_of_zero_le hx.1
  obtain ⟨hb, hP, v, hc, ho, hv⟩ := hw
  rw [intB_nat]
  exact number_of w0 P w v _ n hx.2 hb hP hc (fun k hk => (ho.lt k hk).1) hv (withNumber_any w0.heap.size n v xs w (by omega) ho hb.size hlen)

/-! ### The first number, behind the mark -/
def markV : Array Value := #[.int .u8 102, .int .u8 116, .int .u8 108, .int .u8 49]
set_option maxRecDepth 100000 in
set_option maxHeartbeats 1000000 in
theorem withNumber_first (base n g : Nat) (w : World) (hn : n < 128) (hg : w.heap[g]? = some (.cells markV 5 (4, 5))) (hb : base ≤ w.heap.size) :
    Calls Tryz.prog 102 #[.slice (some ⟨g, 0, none⟩) 4 4, .int .u64 n] w (TB base w (.slice (some ⟨g, 0, none⟩) 4 4) (markB ++ numB n)) := by
  obtain ⟨i0, hi, hz0, hz1, hz2⟩ := info_parts Tryz.info5
  have HI := Lib.hid (And.intro hi (And.intro hz0 (And.intro hz1 hz2)))
  clear hi hz0 hz1 hz2
  have HC : Hid (∀ b, some (⟨g, 0, none⟩ : Addr) = some b → ∀ j u, markV.toList[j]? = some u → (w.alloc (.cells #[.int .u8 n] 5)).cell? (b.add j) = some u) := Lib.hid (by
    rintro b e j u hj
    obtain rfl := Option.some.inj e
    have hl := block_lt hg
    exact World.news_of_block (w := w.alloc (.cells #[.int .u8 n] 5)) ((Below.heap_alloc _ _ _ hl).trans hg) j u hj)
  have HG := Lib.hid hg
  clear hg
  go_enter Tryz.func102, Tryz.ntmps102
  go_wp2_with fail
  go_loopw [0, 1] (fun u m wr => u = .slice (some ⟨g, 0, none⟩) 4 4 ∧ m = .int .u64 n ∧ wr = w) (fun _ m _ => 0)
  case atStart => exact ⟨rfl, rfl, rfl⟩
  case round =>
    obtain ⟨rfl, rfl, rfl⟩ := hrel
    go_wp2_with (at_builtin; refine wpList_append_grows _ rfl (.tmp 15) (.tmp 18) 27 rfl 5 i0 (.int .u8 0) 1 1 Tryz.underlying27 HI.out.1 HI.out.2.1 HI.out.2.2.1 HI.out.2.2.2 rfl (by decide) _ 4 4 markV.toList rfl (fun h => by cases h) rfl HC.out ⟨wr.heap.size, 0, none⟩ 1 1 [_] rfl rfl (cell_one_new _ _ _) (oneCell_bv _ rfl) (by omega) (by unfold maxLen; omega) (by omega) ?_; intro v' w1 hown1 hgr)
    obtain ⟨g', cap, rfl, hb', hl'⟩ := hown1.form (by omega)
    go_ret
    have e : (markB ++ numB n) = markB ++ [UInt8.ofNat n] := by rw [numB_lt hn]
    have e2 : (markB ++ numB n).length = 4 + 1 := by rw [e]; rfl
    refine ⟨g', cap, by rw [e2]; rfl, ?_, ?_⟩
    · rw [e2, e]
      have h1 := own_base hown1 (base' := base) (by simp; omega)
      simpa [bv, byte_of (show n < 256 by omega), markV, markB] using h1
    · rw [e2]
      exact ⟨hgr.os, hgr.tape, hgr.output, Nat.le_trans (by simp) hgr.size, fun k hk _ => (hgr.block k (by simp; omega) (by simp)).trans (Below.heap_alloc _ _ _ hk), fun x hx => .inr (by
        obtain rfl : g' = x := Option.some.inj hx
        simp at hb'; omega)⟩
end Go.Proofs.YtoidhjmhakajlaaGreatDoor

/- Numbers with a sign, as they are written and read. -/
namespace Go.Proofs.YtoidhjmhakajlaaGreatDoor
open Go.ChangeShapes Go.WideShapes Go.RowKit Go.Deep
set_option linter.unusedVariables false

theorem wrapU (n : Int) : IntKind.u64.wrap n = n % 18446744073709551616 := by simp [IntKind.wrap, IntKind.bits, IntKind.signed]
theorem bits_xor (x y : Int) : bits .xor .u64 x y = ((BitVec.ofInt 64 x ^^^ BitVec.ofInt 64 y).toNat : Int) % 18446744073709551616 := by
  show IntKind.u64.wrap ((BitVec.ofInt 64 x ^^^ BitVec.ofInt 64 y).toNat : Int) = _
  exact wrapU _
theorem xor_zero {a : Nat} (h : a < 18446744073709551616) : bits .xor .u64 (a : Int) 0 = a := by
  rw [bits_xor, show BitVec.ofInt 64 0 = 0#64 from rfl, BitVec.xor_zero, BitVec.toNat_ofInt]
  omega
theorem xor_ones {a : Nat} (h : a < 18446744073709551616) : bits .xor .u64 (a : Int) 18446744073709551615 = 18446744073709551615 - a := by
  rw [bits_xor, show BitVec.ofInt 64 18446744073709551615 = BitVec.allOnes 64 by decide +kernel, BitVec.xor_allOnes, BitVec.toNat_not, BitVec.toNat_ofInt]
  omega
set_option maxRecDepth 100000 in
theorem unsigned_any (n : Int) (w : World) (hn : I64 n) :
    Calls Tryz.prog 128 #[.int .i64 n] w fun e w' => e = .returned (.int .u64 (zig n)) ∧ w = w' := by
  obtain ⟨h1, h2⟩ := hn
  by_cases h0 : 0 ≤ n
  · go_enter Tryz.func128, Tryz.ntmps128
    go_wp2_with fail
    go_ret
    refine ⟨?_, rfl⟩
    show Ending.returned (.int .u64 (bits .xor .u64 (n * 2) (n / 9223372036854775808))) = _
    obtain ⟨k, rfl⟩ := Int.eq_ofNat_of_zero_le h0
    rw [show (k : Int) / 9223372036854775808 = 0 by omega, show (k : Int) * 2 = ((k * 2 : Nat) : Int) by omega, xor_zero (by omega), zig, if_pos h0, show (2 * (k : Int)).toNat = k * 2 by omega]
  · go_enter Tryz.func128, Tryz.ntmps128
    go_wp2_with fail
    go_ret
    refine ⟨?_, rfl⟩
    show Ending.returned (.int .u64 (bits .xor .u64 (IntKind.u64.wrap (IntKind.u64.wrap n * 2)) (IntKind.u64.wrap (n / 9223372036854775808)))) = _
    rw [wrapU, wrapU, wrapU]
    obtain ⟨k, hk⟩ : ∃ k : Nat, n % 18446744073709551616 * 2 % 18446744073709551616 = k := ⟨(n % 18446744073709551616 * 2 % 18446744073709551616).toNat, by omega⟩
    rw [hk, show n / 9223372036854775808 % 18446744073709551616 = 18446744073709551615 by omega, xor_ones (by omega), zig, if_neg (by omega)]
    congr 2
    omega
set_option maxRecDepth 100000 in
theorem signed_any (n : Nat) (w : World) (hn : okU n) :
    Calls Tryz.prog 130 #[.int .u64 n] w fun e w' => e = .returned (.int .i64 (zag n)) ∧ w = w' := by
  have hn : n < 18446744073709551616 := hn
  by_cases h0 : n % 2 = 0
  · have hz : Hid (zag n = (n : Int) / 2) := Lib.hid (by unfold zag; rw [if_pos h0]; omega)
    have h0' : ((n : Int) % 2 == 0) = true := by simp; omega
    clear h0
    go_enter Tryz.func130, Tryz.ntmps130
    go_wp2_with fail
    go_ret
    exact ⟨by rw [hz.out]; rfl, rfl⟩
  · have hz : Hid (zag n = -((n : Int) / 2) - 1) := Lib.hid (by unfold zag; rw [if_neg h0]; omega)
    have h0' : ((n : Int) % 2 == 0) = false := by simp; omega
    clear h0
    go_enter Tryz.func130, Tryz.ntmps130
    go_wp2_with fail
    go_ret
    exact ⟨by rw [hz.out]; rfl, rfl⟩
end Go.Proofs.YtoidhjmhakajlaaGreatDoor
