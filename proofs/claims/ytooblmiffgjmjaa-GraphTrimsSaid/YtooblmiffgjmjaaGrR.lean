/- slices.Reverse of a row of numbers that the caller owns. -/
import Derived.Test.YtooblmiffgjmjaaGrO
import Derived.RegionTactic
namespace Go.Proofs.Ytooblmiffgjmjaa
open Go.ChangeShapes Go.WideShapes Go.RowKit Go.Deep
set_option linter.unusedVariables false

/-- Turned round from both ends, i elements deep. -/
def Turned (l l' : List Nat) (i : Nat) : Prop := l'.length = l.length ∧ ∀ p, p < l.length → l'[p]? = if p < i ∨ l.length - 1 - i < p then l[l.length - 1 - p]? else l[p]?
theorem Turned.zero (l : List Nat) : Turned l l 0 := ⟨rfl, fun p hp => by rw [if_neg (by omega)]⟩
theorem Turned.all {l l' : List Nat} {i : Nat} (h : Turned l l' i) (hi : l.length ≤ 2 * i + 1) : l' = l.reverse := by
  apply List.ext_getElem?
  intro p
  by_cases hp : p < l.length
  · rw [h.2 p hp, List.getElem?_reverse hp]
    split
    · rfl
    · congr 1; omega
  · rw [List.getElem?_eq_none (by rw [h.1]; omega), List.getElem?_eq_none (by simp; omega)]
theorem Turned.step {l l' : List Nat} {i x y : Nat} (h : Turned l l' i) (hi : i < l.length - 1 - i) (hx : l'[i]? = some x) (hy : l'[l.length - 1 - i]? = some y) : Turned l ((l'.set i y).set (l.length - 1 - i) x) (i + 1) := by
  have e1 := h.2 i (by omega)
  have e2 := h.2 (l.length - 1 - i) (by omega)
  rw [if_neg (by omega), hx] at e1
  rw [if_neg (by omega), hy] at e2
  refine ⟨by simp [h.1], fun p hp => ?_⟩
  rw [List.getElem?_set, List.getElem?_set]
  have hl := h.1
  by_cases c1 : l.length - 1 - i = p
  · subst c1
    rw [if_pos rfl, if_pos (by simp; omega), if_pos (by omega), show l.length - 1 - (l.length - 1 - i) = i by omega, ← e1]
  · rw [if_neg c1]
    by_cases c2 : i = p
    · subst c2
      rw [if_pos rfl, if_pos (by omega), if_pos (by omega), ← e2]
    · rw [if_neg c2, h.2 p hp]
      by_cases c3 : p < i ∨ l.length - 1 - i < p
      · rw [if_pos c3, if_pos (by omega)]
      · rw [if_neg c3, if_neg (by omega)]
theorem grown_refl (w : World) (row : Option Nat) : w.grownBy w row := ⟨rfl, rfl, rfl, Nat.le_refl _, fun _ _ _ => rfl⟩
theorem grown_trans {a b c : World} {row : Option Nat} (h : a.grownBy b row) (k : b.grownBy c row) : a.grownBy c row :=
  ⟨k.os.trans h.os, k.tape.trans h.tape, k.output.trans h.output, Nat.le_trans h.size k.size, fun i h1 h2 => (k.block i (Nat.lt_of_lt_of_le h1 h.size) h2).trans (h.block i h1 h2)⟩
theorem grown_drew (w : World) (row : Option Nat) : w.grownBy w.drew row := ⟨rfl, rfl, rfl, Nat.le_refl _, fun _ _ _ => rfl⟩
/-- A number of a row that the call owns. -/
theorem own_cell {w : World} {base n cap g : Nat} {l : List Nat} {i x : Nat} (h : w.ownsRow base 3 1 (.slice (some ⟨g, 0, none⟩) n cap) n ((zs l).map (Value.int .i64))) (hi : l[i]? = some x) : w.cell? ⟨g, i, none⟩ = some (.int .i64 x) := by
  have := h.cells (g := g) rfl i (.int .i64 x) (by simp [zs, hi])
  rwa [show (⟨g, 0, none⟩ : Addr).add i = ⟨g, i, none⟩ by unfold Addr.add; split <;> simp_all] at this
theorem zs_set (l : List Nat) (i x : Nat) : ((zs l).map (Value.int .i64)).set i (.int .i64 x) = (zs (l.set i x)).map (Value.int .i64) := by
  simp only [zs, List.map_set]
theorem ownsRow_drew {w : World} {base n size : Nat} {e : TypeId} {v : Value} {xs : List Value} (h : w.ownsRow base e size v n xs) : w.drew.ownsRow base e size v n xs := h

set_option maxRecDepth 100000 in
set_option maxHeartbeats 4000000 in
theorem reverse_any (base : Nat) (l : List Nat) (v : Value) (w : World) (h : w.ownsRow base 3 1 v l.length ((zs l).map (Value.int .i64))) (hl : l.length ≤ 1000000) :
    Calls Try.prog 45 #[v] w fun e w' => e = .returned (.tuple #[]) ∧ w'.ownsRow base 3 1 v l.length ((zs l.reverse).map (Value.int .i64)) ∧ w.grownBy w' v.ownBlock := by
  have h0 := h
  rcases h.2 with ⟨hv, hn⟩ | ⟨g, cap, cur, hv, -⟩
  · subst hv
    obtain rfl : l = [] := List.length_eq_zero_iff.1 hn
    clear h h0 hl hn
    go_enter Try.func45, Try.ntmps45
    go_wp2_with fail
    go_loopw [2, 3] (fun s2 s3 wr => s2 = .int .i64 0 ∧ s3 = .int .i64 (-1) ∧ wr = w) (fun _ _ _ => 0)
    case atStart => exact ⟨rfl, rfl, rfl⟩
    case round =>
      obtain ⟨rfl, rfl, rfl⟩ := hrel
      go_wp2_with fail
      go_end0
      exact ⟨rfl, World.ownsRow_nil _ _ _ _, grown_refl _ _⟩
  · subst hv
    have HO := Lib.hid h
    clear h h0
    go_enter Try.func45, Try.ntmps45
    go_wp2_with fail
    go_loopw [2, 3] (fun s2 s3 wr => ∃ (i : Nat) (jz : Int) (l' : List Nat), s2 = .int .i64 i ∧ s3 = .int .i64 jz ∧ jz = (l.length : Int) - 1 - i ∧ i ≤ l.length ∧ Turned l l' i ∧ wr.ownsRow base 3 1 (.slice (some ⟨g, 0, none⟩) l.length cap) l.length ((zs l').map (Value.int .i64)) ∧ w.grownBy wr (some g)) (fun s2 _ _ => l.length - (intOf s2).toNat)
    case atStart => exact ⟨0, _, l, rfl, rfl, by omega, Nat.zero_le _, Turned.zero l, HO.out, grown_refl _ _⟩
    case round =>
      obtain ⟨i, jz, l', rfl, rfl, hjz, hi, ht, hown, hg⟩ := hrel
      have HJ := Lib.hid hjz
      have HT := Lib.hid ht
      have HOW := Lib.hid hown
      have HG := Lib.hid hg
      clear hjz ht hown hg HO
      by_cases hlt : (i : Int) < jz
      · obtain ⟨j, rfl⟩ : ∃ j : Nat, jz = j := ⟨jz.toNat, by omega⟩
        have hij : i < j := by omega
        have hjl : j < l.length := by have := HJ.out; omega
        have HJN : Hid (j = l.length - 1 - i) := Lib.hid (by have := HJ.out; omega)
        obtain ⟨x, hx⟩ : ∃ x, l'[i]? = some x := ⟨_, List.getElem?_eq_getElem (by rw [HT.out.1]; omega)⟩
        obtain ⟨y, hy⟩ : ∃ y, l'[j]? = some y := ⟨_, List.getElem?_eq_getElem (by rw [HT.out.1]; omega)⟩
        have ci : wr.cell? ⟨g, i, none⟩ = some (.int .i64 x) := own_cell HOW.out hx
        have cj : wr.cell? ⟨g, j, none⟩ = some (.int .i64 y) := own_cell HOW.out hy
        have fi := HOW.out.frozenAt i
        have fj := HOW.out.frozenAt j
        have HX := Lib.hid hx
        have HY := Lib.hid hy
        clear hx hy
        go_wp2_with fail
        go_region
        all_goals
          go_wp2_with fail
          have h1 := HOW.out.stored i (.int .i64 y)
          have h2 := h1.1.stored j (.int .i64 x)
          rw [zs_set, zs_set] at h2
          have h3 : Turned l ((l'.set i y).set j x) (i + 1) := by
            have := HT.out.step (by have := HJN.out; omega) HX.out (by rw [← HJN.out]; exact HY.out)
            rwa [← HJN.out] at this
          have HS := Lib.hid (ownsRow_drew h2.1)
          have HGR := Lib.hid (grown_trans HG.out (grown_trans (grown_trans h1.2 h2.2) (grown_drew _ _)))
          go_roundw
          case rel => exact ⟨i + 1, (j : Int) - 1, (l'.set i y).set j x, by go_num, rfl, by have := HJ.out; push_cast; omega, by omega, h3, HS.out, HGR.out⟩
          case measure => simp [intOf]; omega
      · have hnot : ¬ ((i : Int) < jz) := hlt
        have hlen : Hid (l.length ≤ 2 * i + 1) := Lib.hid (by have := HJ.out; omega)
        go_wp2_with fail
        go_end0
        exact ⟨rfl, by rw [← HT.out.all hlen.out]; exact HOW.out, HG.out⟩
end Go.Proofs.Ytooblmiffgjmjaa
