/- Rows of copied functions, of which one's registers are known apart from all else. -/
import Derived.Test.YtfgbmmbkjgdndaaDoorModB
namespace Go.Proofs.YtfgbmmbkjgdndaaDoor
open Go.ChangeShapes Go.WideShapes Go.RowKit Go.Deep
set_option linter.unusedVariables false

/-- A function's cells, with its number: number n's registers are ur, and no other data lies there. -/
def CN (n : Nat) (ur : Value) (B : Nat → Prop) (w : World) (p : FunD × Nat) (cs : List Value) : Prop :=
  (p.2 = n → ∃ Ab cb, cs = [.int .i64 p.1.params, .int .i64 p.1.result, ur, .slice Ab p.1.blocks.length cb] ∧ SL w 5 (RBlkB (fun b => B b ∧ some b ≠ ur.ownBlock)) Ab cb p.1.blocks ∧ I64 p.1.params ∧ I64 p.1.result) ∧
  (p.2 ≠ n → CFun (fun b => B b ∧ some b ≠ ur.ownBlock) w p.1 cs)
theorem CN.go {n : Nat} {ur : Value} {B B' : Nat → Prop} {w w' : World} (h : KeptB B w w') (hB : ∀ b, B b → B' b) {p : FunD × Nat} {cs : List Value} (hv : CN n ur B w p cs) : CN n ur B' w' p cs :=
  ⟨fun e => by obtain ⟨Ab, cb, e1, h1, h2⟩ := hv.1 e; exact ⟨Ab, cb, e1, SBlksB.go (h.mono (fun b hb => hb.1)) (fun b hb => ⟨hB b hb.1, hb.2⟩) h1, h2⟩,
   fun e => CFun.go (h.mono (fun b hb => hb.1)) (fun b hb => ⟨hB b hb.1, hb.2⟩) (hv.2 e)⟩
theorem CN.lt {n : Nat} {ur : Value} {B : Nat → Prop} {w : World} {p : FunD × Nat} {cs : List Value} (hv : CN n ur B w p cs) : CN n ur (fun b => B b ∧ b < w.heap.size) w p cs :=
  ⟨fun e => by obtain ⟨Ab, cb, e1, h1, h2⟩ := hv.1 e; exact ⟨Ab, cb, e1, SBlksB.go (KeptB.of (Kept.refl _)) (fun b hb => ⟨⟨hb.1.1, hb.2⟩, hb.1.2⟩) (SBlksB.lt h1), h2⟩,
   fun e => CFun.go (KeptB.of (Kept.refl _)) (fun b hb => ⟨⟨hb.1.1, hb.2⟩, hb.1.2⟩) (CFun.lt (hv.2 e))⟩
theorem Rows.imp' {α : Type} {sz : Nat} {F F' : α → List Value → Prop} {l : List α} (h : ∀ x ∈ l, ∀ c, F x c → F' x c) : ∀ {cs : List Value}, Rows sz F l cs → Rows sz F' l cs := by
  induction l with
  | nil => exact fun h => h
  | cons x l ih => rintro cs ⟨c, r, e, h1, h2, h3⟩; exact ⟨c, r, e, h1, h x (by simp) c h2, ih (fun y hy => h y (by simp [hy])) h3⟩
theorem zip_at {m : List FunD} {k : Nat} {f : FunD} (h : m[k]? = some f) : m.zipIdx[k]? = some (f, k) := by simp [List.getElem?_zipIdx, h]
theorem zip_take {m : List FunD} {k : Nat} : ∀ p ∈ m.zipIdx.take k, p.2 < k := by
  intro p hp
  obtain ⟨i, hi⟩ := List.getElem?_of_mem hp
  rw [List.getElem?_take] at hi
  split at hi
  · rename_i hik
    rw [List.getElem?_zipIdx] at hi
    obtain ⟨y, hy, rfl⟩ := Option.map_eq_some_iff.1 hi
    show 0 + i < k
    omega
  · cases hi

/-- One function more. -/
theorem rows_next {m : List FunD} {n k N : Nat} {f fn : FunD} {u u' ur ur' : Value} {wr wA wF : World} {cs : List Value} {Ab : Option Addr} {cb Mid : Nat}
    (hrows : Rows 4 (CN n ur (fun b => N ≤ b ∧ some b ≠ u.ownBlock) wr) (m.zipIdx.take k) cs) (h0 : k ≤ n → ur = .slice none 0 0)
    (h1 : n < k → wr.ownsRow N 3 1 ur fn.regs.length (fn.regs.map (Value.int .i64)) ∧ ∀ g, ur.ownBlock = some g → some g ≠ u.ownBlock)
    (hf : m[k]? = some f) (hfn : m[n]? = some fn) (hM : wr.heap.size ≤ Mid ∧ Mid ≤ wA.heap.size) (howR : wA.ownsRow wr.heap.size 3 1 ur' f.regs.length (f.regs.map (Value.int .i64))) (hltM : ∀ g, ur'.ownBlock = some g → g < Mid)
    (hbl : SL wA 5 (RBlkB (fun b => Mid ≤ b)) Ab cb f.blocks) (hrg : ∃ Ar cr, ur' = .slice Ar f.regs.length cr ∧ SL wA 1 (RIntB (fun b => wr.heap.size ≤ b)) Ar cr f.regs) (hp64 : I64 f.params) (hr64 : I64 f.result)
    (hkR : KeptB (fun y => wr.heap.size ≤ y ∧ y < wA.heap.size) wA wF) (hkF : KeptB (fun y => (N ≤ y ∧ some y ≠ u.ownBlock) ∧ y < wr.heap.size) wr wF)
    (heR : ∀ g, wr.heap.size ≤ g → g < wA.heap.size → wF.heap[g]? = wA.heap[g]?) (heF : ∀ g, N ≤ g → g < wr.heap.size → some g ≠ u.ownBlock → wF.heap[g]? = wr.heap[g]?)
    (hN : N ≤ wr.heap.size) (hgl : ∀ x, u.ownBlock = some x → x < wr.heap.size) (hu' : ∃ g, u'.ownBlock = some g ∧ (u.ownBlock = some g ∨ wA.heap.size ≤ g)) :
    ∃ ur2, Rows 4 (CN n ur2 (fun b => N ≤ b ∧ some b ≠ u'.ownBlock) wF) (m.zipIdx.take (k + 1)) (cs ++ [.int .i64 f.params, .int .i64 f.result, ur', .slice Ab f.blocks.length cb]) ∧ (k + 1 ≤ n → ur2 = .slice none 0 0) ∧
      (n < k + 1 → wF.ownsRow N 3 1 ur2 fn.regs.length (fn.regs.map (Value.int .i64)) ∧ ∀ g, ur2.ownBlock = some g → some g ≠ u'.ownBlock) := by
  obtain ⟨g, hg, hloc⟩ := hu'
  have hnew : ∀ y, wr.heap.size ≤ y → y < wA.heap.size → N ≤ y ∧ some y ≠ u'.ownBlock := fun y h1 h2 => ⟨by omega, fun e => by
    have hyg : y = g := Option.some.inj (e.trans hg)
    rcases hloc with h | h
    · have := hgl g h; omega
    · omega⟩
  have hold : ∀ y, N ≤ y → some y ≠ u.ownBlock → y < wr.heap.size → some y ≠ u'.ownBlock := fun y h1 h2 h3 e => by
    have hyg : y = g := Option.some.inj (e.trans hg)
    rcases hloc with h | h
    · subst hyg; exact h2 h.symm
    · omega
  rw [take_succ_of (zip_at hf)]
  by_cases hkn : k = n
  · subst hkn
    obtain rfl : fn = f := Option.some.inj (hfn.symm.trans hf)
    have hur := h0 (Nat.le_refl _)
    have hrows2 : Rows 4 (CN k ur' (fun b => N ≤ b ∧ some b ≠ u.ownBlock) wr) (m.zipIdx.take k) cs := hrows.imp' (fun p hp c hc => ⟨fun e => absurd e (by have := zip_take p hp; omega), fun e =>
      CFun.go (KeptB.of (Kept.refl _)) (fun b hb => ⟨hb.1.1, fun e2 => by have := (howR.lt b e2.symm).1; omega⟩) (CFun.lt (hc.2 e))⟩)
    refine ⟨ur', ?_, fun h => absurd h (by omega), fun _ => ⟨own_base (own_block howR (fun x hx => heR x (howR.lt x hx).1 (howR.lt x hx).2)) hN, fun x hx => (hnew x (howR.lt x hx).1 (howR.lt x hx).2).2⟩⟩
    refine Rows.push (F := CN k ur') (fun _ _ _ _ _ _ h1 h2 h3 => CN.go h1 h2 h3) (fun _ _ _ _ h => CN.lt h) hrows2 hkF hold rfl ⟨fun _ => ⟨Ab, cb, rfl, ?_, hp64, hr64⟩, fun e => absurd rfl e⟩
    exact SBlksB.go (hkR.mono (fun y hy => ⟨by omega, hy.2⟩)) (fun y hy => ⟨hnew y (by omega) hy.2, fun e => by have := hltM y e.symm; omega⟩) (SBlksB.lt hbl)
  · obtain ⟨Ar, cr, rfl, hrr⟩ := hrg
    have hurb : ∀ y, wr.heap.size ≤ y → some y ≠ ur.ownBlock := fun y hy e => by
      by_cases hlt : n < k
      · have := ((h1 hlt).1.lt y e.symm).2; omega
      · rw [h0 (by omega)] at e; cases e
    refine ⟨ur, ?_, fun h => h0 (by omega), fun h => ?_⟩
    · refine Rows.push (F := CN n ur) (fun _ _ _ _ _ _ h1 h2 h3 => CN.go h1 h2 h3) (fun _ _ _ _ h => CN.lt h) hrows hkF hold rfl ⟨fun e => absurd e hkn, fun _ => ⟨Ar, cr, Ab, cb, rfl, ?_, ?_, hp64, hr64⟩⟩
      · exact SIntsB.go hkR (fun y hy => ⟨hnew y hy.1 hy.2, hurb y hy.1⟩) (SIntsB.lt hrr)
      · exact SBlksB.go (hkR.mono (fun y hy => ⟨by omega, hy.2⟩)) (fun y hy => ⟨hnew y (by omega) hy.2, hurb y (by omega)⟩) (SBlksB.lt hbl)
    · obtain ⟨h2, h3⟩ := h1 (by omega)
      exact ⟨own_block h2 (fun x hx => heF x (h2.lt x hx).1 (h2.lt x hx).2 (h3 x hx)), fun x hx => hold x (h2.lt x hx).1 (h3 x hx) (h2.lt x hx).2⟩
end Go.Proofs.YtfgbmmbkjgdndaaDoor
