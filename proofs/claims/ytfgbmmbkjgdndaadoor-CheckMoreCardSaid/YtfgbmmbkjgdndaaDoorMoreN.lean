/- A module's copy, one function of which gets a register more. -/
import Derived.Test.YtfgbmmbkjgdndaaDoorCopyN
namespace Go.Proofs.YtfgbmmbkjgdndaaDoor
open Go.ChangeShapes Go.WideShapes Go.RowKit Go.Deep
set_option linter.unusedVariables false

/-- A function's cells in a row, its data elsewhere. -/
theorem RFun.of_row {B : Nat → Prop} {w : World} {g o : Nat} {x : FunD} {c : List Value} (h : CFun B w x c) (hc : ∀ j v, c[j]? = some v → w.cell? ⟨g, o + j, none⟩ = some v) : RFun w g o x := by
  obtain ⟨Ar, cr, Ab, cb, rfl, g1, g2, g3, g4⟩ := h
  exact ⟨⟨hc 0 _ rfl, g3⟩, ⟨hc 1 _ rfl, g4⟩, ⟨Ar, cr, hc 2 _ rfl, SL.imp RIntB.plain g1⟩, ⟨Ab, cb, hc 3 _ rfl, SL.imp RBlkB.plain g2⟩⟩

/-- Where the copy lies, when it has a function number n: the row, its registers, and that both may be written. -/
theorem MCopy.open {n : Nat} {fn : FunD} {lo : Nat} {w : World} {m : List FunD} {u : Value} (h : MCopy n fn lo w m u) (hfn : m[n]? = some fn) :
    ∃ G c ur N, u = .slice (some ⟨G, 0, none⟩) m.length c ∧ lo ≤ N ∧ N ≤ G ∧ G < w.heap.size ∧ w.frozen? ⟨G, n * 4 + 2, none⟩ = false ∧ w.cell? ⟨G, n * 4 + 2, none⟩ = some ur ∧ m.length ≤ c ∧ c ≤ maxLen ∧
      w.ownsRow N 3 1 ur fn.regs.length (fn.regs.map (Value.int .i64)) ∧ ur.ownBlock ≠ some G ∧
      (∀ (wF : World) (A : Option Addr) (d : Nat) (rs : List Int), KeptB (fun b => b ≠ G ∧ some b ≠ ur.ownBlock) w wF → (∀ j, j ≠ n * 4 + 2 → ∀ v, w.cell? ⟨G, j, none⟩ = some v → wF.cell? ⟨G, j, none⟩ = some v) →
        wF.cell? ⟨G, n * 4 + 2, none⟩ = some (.slice A rs.length d) → SL wF 1 RInt A d rs → SL wF 4 RFun (some ⟨G, 0, none⟩) c (m.set n { fn with regs := rs })) := by
  obtain ⟨N, ur, cs, hN, hown, hrows, howR, hne⟩ := h
  have hlt : n < m.length := (List.getElem?_eq_some_iff.1 hfn).1
  rcases id hown.2 with ⟨e, e0⟩ | ⟨G, c, cur, e, hb, hh, hn, hc, hsz, ht⟩
  · omega
  · subst e
    have hcell : ∀ i p, m.zipIdx[i]? = some p → ∃ d, d.length = 4 ∧ CN n ur (fun b => N ≤ b ∧ some b ≠ some G) w p d ∧ ∀ j v, d[j]? = some v → w.cell? ⟨G, i * 4 + j, none⟩ = some v := fun i p hp => by
      obtain ⟨d, g1, g2, g3⟩ := hrows.at_ hp
      refine ⟨d, g1, g2, fun j v hj => ?_⟩
      have hj4 : j < 4 := by rw [← g1]; exact (List.getElem?_eq_some_iff.1 hj).1
      have := hown.cells (g := G) rfl (i * 4 + j) v ((g3 j hj4).trans hj)
      rwa [show (⟨G, 0, none⟩ : Addr).add (i * 4 + j) = ⟨G, i * 4 + j, none⟩ by unfold Addr.add; split <;> simp_all] at this
    obtain ⟨dn, hd1, hd2, hd3⟩ := hcell n _ (zip_at hfn)
    obtain ⟨Abn, cbn, rfl, hbn, hp64, hr64⟩ := hd2.1 rfl
    refine ⟨G, c, ur, N, rfl, hN, hb, (Array.getElem?_eq_some_iff.1 hh).1, hown.frozenAt _, hd3 2 _ rfl, hn, hc, howR, fun e => hne G e rfl, fun wF A d rs hk hkG hcF hrs => ?_⟩
    refine ⟨by rw [List.length_set]; exact hn, ⟨hc, fun e => by cases e⟩, fun _ => ⟨G, 0, rfl, fun i x hi => ?_⟩⟩
    rw [Nat.zero_add]
    by_cases hin : i = n
    · subst hin
      rw [List.getElem?_set_self hlt] at hi
      obtain rfl := Option.some.inj hi
      refine ⟨⟨hkG _ (by omega) _ (hd3 0 _ rfl), hp64⟩, ⟨hkG _ (by omega) _ (hd3 1 _ rfl), hr64⟩, ⟨A, d, hcF, hrs⟩, ⟨Abn, cbn, hkG _ (by omega) _ (hd3 3 _ rfl), ?_⟩⟩
      exact SL.imp RBlkB.plain (SBlksB.go (B' := fun _ => True) (hk.mono (fun b hb => ⟨fun e => hb.1.2 (by rw [e]), hb.2⟩)) (fun _ _ => trivial) hbn)
    · rw [List.getElem?_set_ne (fun e => hin e.symm)] at hi
      obtain ⟨d', h1, h2, h3⟩ := hcell i _ (zip_at hi)
      have h4 := h2.2 hin
      exact RFun.of_row (CFun.go (B' := fun _ => True) (hk.mono (fun b hb => ⟨fun e => hb.1.2 (by rw [e]), hb.2⟩)) (fun _ _ => trivial) h4) (fun j v hj => by
        have hj4 : j < 4 := by rw [← h1]; exact (List.getElem?_eq_some_iff.1 hj).1
        exact hkG _ (by omega) _ (h3 j v hj))
end Go.Proofs.YtfgbmmbkjgdndaaDoor
