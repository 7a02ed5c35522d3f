/- The examples at the head of the statements of layer 3 hold. -/
import Derived.Test.YtmhodjbplohmiaaGreatDoorDec
import Derived.Test.YtmhodjbplohmiaaGreatDoorErrIs
namespace Go.Proofs.YtmhodjbplohmiaaGreatDoor
open Go.ChangeShapes Go.WideShapes Go.RowKit Go.Deep
set_option linter.unusedVariables false

/-- The variable errors.errorType holds the type error's handle. -/
def HoldsErr (w : World) : Prop := w.cell? ⟨0, 0, none⟩ = some (.iface 128 (.agg #[.pointer (some ⟨1, 29, none⟩)]))
theorem holdsErr_below : ∀ (w w' : World) (n : Nat), HoldsErr w → 0 < n → Below n w w' → HoldsErr w' := fun w w' n hL hn hb =>
  (hb.cell (p := ⟨0, 0, none⟩) hn).trans hL
theorem HoldsErr.pos {w : World} (h : HoldsErr w) : 0 < w.heap.size := block_lt_of_cell h

theorem SBytes.keep {w w' : World} (h : Kept w w') {A : Option Addr} {c : Nat} {l : List UInt8} (hv : SL w 1 RByte A c l) : SL w' 1 RByte A c l := SL.imp (fun b o x hx => h _ _ hx) hv
/-- Bytes that were made read as they are. -/
theorem bytes_of_new {w w' : World} {b : Value} {ys : List UInt8} (h : NewB w w' b ys) : ∃ g c, b = .slice (some ⟨g, 0, none⟩) ys.length c ∧ SL w' 1 RByte (some ⟨g, 0, none⟩) c ys := by
  obtain ⟨g, cap, rfl, ho⟩ := h
  refine ⟨g, cap, rfl, ?_⟩
  rcases ho.2 with ⟨h, _⟩ | ⟨g', c', cur, h, hb, hh, hn, hc, hsz, ht⟩
  · cases h
  · simp only [Value.slice.injEq, Option.some.injEq, Addr.mk.injEq] at h
    obtain ⟨⟨rfl, -, -⟩, -, rfl⟩ := h
    refine ⟨hn, ⟨hc, fun e => by cases e⟩, fun _ => ⟨g, 0, rfl, fun i x hi => ?_⟩⟩
    have := ho.cells (g := g) rfl i (bv x) (by rw [List.getElem?_map, hi]; rfl)
    rw [add_plain'] at this
    rwa [show 0 + i * 1 = 0 + i by omega]
/-- A text out of bytes. -/
theorem conv_bytes {w : World} {A : Option Addr} {c : Nat} {ys : List UInt8} (h : SL w 1 RByte A c ys) : (convert 27 9 (.slice A ys.length c)).run Tryz.prog w = .ok (.string ⟨ys.toArray⟩) w := by
  cases A with
  | none =>
    obtain rfl : c = 0 := h.2.1.2 rfl
    obtain rfl : ys = [] := List.length_eq_zero_iff.1 (by have := h.1; omega)
    kernel_rfl
  | some a =>
    refine run_convert_bytes_back (P := Tryz.prog) w 27 9 5 a c ys Tryz.underlying27 Tryz.underlying5 Tryz.underlying9 (fun j hj => ?_)
    obtain ⟨b, o, e, hx⟩ := h.2.2 (by omega)
    obtain rfl := Option.some.inj e
    have := hx j ys[j] (List.getElem?_eq_getElem hj)
    rw [Nat.mul_one] at this
    rw [add_plain']
    exact this
theorem modB_nil : modB [] = [102, 116, 108, 49, 0] := by
  unfold modB funsB
  rw [numB_lt (by decide)]
  decide
theorem modE_nil : modE [] = (0, -1) := by unfold modE; rfl
theorem decE_nil : decE [] = (2, 0) := by decide
theorem decM_nil : decM [] = [] := by decide

set_option maxRecDepth 100000 in
set_option maxHeartbeats 2000000 in
theorem up_any (OI : OfIns) (w : World) (hg : HoldsErr w) : Calls Tryz.prog 6 #[] w fun e w' => e = .returned (.bool true) ∧ Below w.heap.size w w' := by
  go_enter Tryz.func6, Tryz.ntmps6
  go_wp2_with fail
  refine (encode_any OI [] _ w ⟨none, 0, rfl, funs_nil w⟩ (fun f hf => by cases hf)).mono ?_
  rintro e w1 ⟨b, v, rfl, he, -, hn, hb1⟩
  obtain rfl := he.nil (by rw [modE_nil])
  obtain ⟨g, cap, rfl, hsb⟩ := bytes_of_new (hn (by rw [modE_nil]))
  clear hn he
  rw [modB_nil] at hsb ⊢
  go_wp2_with fail
  refine (decode_any OI [] none 0 w1 (bytes_none 0 (by unfold maxLen; omega) (fun _ => rfl))).mono ?_
  rintro e w2 ⟨A2, c2, ev, rfl, hm2, he2, hb2⟩
  rw [decE_nil] at he2
  rw [decM_nil] at hm2 ⊢
  have hB2 : Below w.heap.size w w2 := hb1.trans (hb2.mono hb1.size)
  have hg2 := holdsErr_below w w2 _ hg hg.pos hB2
  rcases he2 with ⟨h, _⟩ | ⟨_, h, _⟩ | ⟨-, -, gs, rfl, hs0, hs1⟩
  · exact absurd h (by decide)
  · exact absurd h (by decide)
  · have hcv := Lib.hid (conv_bytes (SBytes.keep ((kept_of_below hb2).trans (kept_alloc w2 (.cells #[.slice A2 ([] : List FunD).length c2] 24))) hsb))
    have hcv := hcv.out
    have hi := Lib.hid (is_any gs 2 0 (w2.alloc (.cells #[.slice A2 0 c2] 24)) (kept_alloc _ _ _ _ hg2) (kept_alloc _ _ _ _ hs0) (kept_alloc _ _ _ _ hs1))
    dsimp only [List.length_nil, List.length_cons] at hcv
    go_wp2_with fail
    refine hi.out.mono ?_
    rintro e w3 ⟨rfl, hb3⟩
    go_wp2_with fail
    go_ret
    exact ⟨rfl, (hB2.alloc hB2.size _).trans (hb3.mono (by have := hB2.size; simp; omega))⟩
end Go.Proofs.YtmhodjbplohmiaaGreatDoor
