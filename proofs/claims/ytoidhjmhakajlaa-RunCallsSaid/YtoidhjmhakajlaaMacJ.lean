/- What an instruction does to the machine's rows; constants, words, what is reckoned. -/
import Derived.Test.YtoidhjmhakajlaaMacI
namespace Go.Proofs.Ytoidhjmhakajlaa
open Go.ChangeShapes Go.WideShapes Go.RowKit Go.Deep
set_option linter.unusedVariables false

/-- What was put out is another list. -/
theorem mac_out {K P : Nat} {m : List FunD} {w w1 : World} {s : St} {q : MV} {rd out' : List Int} {v' : Value} (hb : MacB P w s q) (he : Env K P w m q) (hd : Dyn K w s q rd) (hP : P < K) (hK : K ≤ w.heap.size)
    (hg : Gro w w1 q.vo v') (hown : w1.ownsRow K 2 1 v' out'.length (out'.map (Value.int .i64))) : Mac K P m (w1.setCell ⟨P, 266, none⟩ v') { s with out := out' } rd ∧ BB K P w (w1.setCell ⟨P, 266, none⟩ v') := by
  obtain ⟨a1, a2, ⟨cc, a3, a4⟩, a5, a6, a7⟩ := hd
  have hPv : q.vo.ownBlock ≠ some P := fun e => by have := (a2.lt P e).1; omega
  have hb1 : MacB P (w1.setCell ⟨P, 266, none⟩ v') { s with out := out' } { q with vo := v' } := (gro_block hg hb hPv).set (set_mid (by omega) (by omega) rfl rfl rfl
    (mid_cases (fun _ => rfl) (fun _ => rfl) (fun _ => rfl) (fun _ => rfl) (fun _ => rfl) (fun _ => rfl) (fun _ => rfl) (fun h => absurd rfl h) (fun _ => rfl)))
  have hS : ∀ k, k < w1.heap.size → k ≠ P → (w1.setCell ⟨P, 266, none⟩ v').heap[k]? = w1.heap[k]? := fun k hk hne => set_others k hk hne
  have hkeep : ∀ {n size : Nat} {e : TypeId} {u : Value} {xs : List Value}, w1.ownsRow K e size u n xs → (w1.setCell ⟨P, 266, none⟩ v').ownsRow K e size u n xs := fun h =>
    owns_keep h (fun g _ hb hl => hS g hl (by omega))
  have hsize := hg.size
  have hsz : (w1.setCell ⟨P, 266, none⟩ v').heap.size = w1.heap.size := by simp [World.setCell]
  refine ⟨⟨{ q with vo := v' }, hb1, env_set he rfl rfl (fun k h1 h2 h3 => (hS k (by omega) h2).trans (hg.block k h3 (fun e => by have := (a2.lt k e).1; omega))),
    ⟨hkeep (owns_of_gro hg a1 a5), hkeep hown, ⟨cc, hkeep (owns_of_gro hg a3 (apart_symm a7)), ?_⟩, apart_of_gro hg a1 a5, a6, apart_symm (apart_of_gro hg a3 (apart_symm a7))⟩, hP, by omega⟩, ?_⟩
  · refine a4.imp fun fr cs hc => CCal.go (fun a v hB hv => ?_) (fun b hB => ⟨hB.1.1, hB.1.2.1, fun e => ?_, hB.1.2.2.2⟩) hc.lt
    · rw [World.cell?_of_block ((hS a.block (by omega) (by omega)).trans (hg.block a.block hB.2 (fun e => hB.1.2.2.1 e.symm)))]; exact hv
    · rcases hg.own b e.symm with h | h
      · exact hB.1.2.2.1 h.symm
      · omega
  · exact BB.setCell (p := ⟨P, 266, none⟩) ⟨hg.os, hg.tape, hg.output, hg.size, fun k hk hne => hg.block k (by omega) (fun e => by have := (a2.lt k e).1; omega)⟩ (.inl rfl) v'
/-- One caller more. -/
theorem mac_push {K P : Nat} {m : List FunD} {w w1 : World} {s : St} {q : MV} {rd l : List Int} {v' : Value} {cc : List Value} {fr : Fr} {A : Option Addr} {cA : Nat} (hb : MacB P w s q) (he : Env K P w m q) (hd : Dyn K w s q rd) (hP : P < K) (hK : K ≤ w.heap.size)
    (hrows : Rows 4 (CCal (fun b => K ≤ b ∧ some b ≠ q.vr.ownBlock ∧ some b ≠ q.vo.ownBlock ∧ some b ≠ q.vc.ownBlock) w) s.stack.reverse cc)
    (hg : Gro w w1 q.vc v') (hown : w1.ownsRow K 113 4 v' (s.stack.length + 1) (cc ++ [.int .i64 fr.fn, .int .i64 fr.blk, .int .i64 fr.at_, .slice A l.length cA]))
    (hs : SL w 1 (RWB (fun b => K ≤ b ∧ some b ≠ q.vr.ownBlock ∧ some b ≠ q.vo.ownBlock ∧ some b ≠ q.vc.ownBlock)) A cA l) (hl : l.length ≤ 256) (hr : ∀ i, fr.regs i = l.getD i 0) :
    Mac K P m (w1.setCell ⟨P, 259, none⟩ v') { s with stack := fr :: s.stack } rd ∧ BB K P w (w1.setCell ⟨P, 259, none⟩ v') := by
  obtain ⟨a1, a2, ⟨cc0, a3, -⟩, a5, a6, a7⟩ := hd
  have hPv : q.vc.ownBlock ≠ some P := fun e => by have := (a3.lt P e).1; omega
  have hb1 : MacB P (w1.setCell ⟨P, 259, none⟩ v') { s with stack := fr :: s.stack } { q with vc := v' } := (gro_block hg hb hPv).set (set_mid (by omega) (by omega) rfl rfl rfl
    (mid_cases (fun h => absurd rfl h) (fun _ => rfl) (fun _ => rfl) (fun _ => rfl) (fun _ => rfl) (fun _ => rfl) (fun _ => rfl) (fun _ => rfl) (fun _ => rfl)))
  have hS : ∀ k, k < w1.heap.size → k ≠ P → (w1.setCell ⟨P, 259, none⟩ v').heap[k]? = w1.heap[k]? := fun k hk hne => set_others k hk hne
  have hkeep : ∀ {n size : Nat} {e : TypeId} {u : Value} {xs : List Value}, w1.ownsRow K e size u n xs → (w1.setCell ⟨P, 259, none⟩ v').ownsRow K e size u n xs := fun h =>
    owns_keep h (fun g _ hb hl => hS g hl (by omega))
  have hsize := hg.size
  have hsz : (w1.setCell ⟨P, 259, none⟩ v').heap.size = w1.heap.size := by simp [World.setCell]
  have hgo : KeptB (fun b => (K ≤ b ∧ some b ≠ q.vr.ownBlock ∧ some b ≠ q.vo.ownBlock ∧ some b ≠ q.vc.ownBlock) ∧ b < w.heap.size) w (w1.setCell ⟨P, 259, none⟩ v') := fun a v hB hv => by
    rw [World.cell?_of_block ((hS a.block (by omega) (by omega)).trans (hg.block a.block hB.2 (fun e => hB.1.2.2.2 e.symm)))]; exact hv
  have hB' : ∀ b, ((K ≤ b ∧ some b ≠ q.vr.ownBlock ∧ some b ≠ q.vo.ownBlock ∧ some b ≠ q.vc.ownBlock) ∧ b < w.heap.size) → (K ≤ b ∧ some b ≠ q.vr.ownBlock ∧ some b ≠ q.vo.ownBlock ∧ some b ≠ v'.ownBlock) := fun b hB =>
    ⟨hB.1.1, hB.1.2.1, hB.1.2.2.1, fun e => by
      rcases hg.own b e.symm with h | h
      · exact hB.1.2.2.2 h.symm
      · omega⟩
  refine ⟨⟨{ q with vc := v' }, hb1, env_set he rfl rfl (fun k h1 h2 h3 => (hS k (by omega) h2).trans (hg.block k h3 (fun e => by have := (a3.lt k e).1; omega))),
    ⟨hkeep (owns_of_gro hg a1 a6), hkeep (owns_of_gro hg a2 a7), ⟨_, hkeep hown, ?_⟩, a5, apart_of_gro hg a1 a6, apart_of_gro hg a2 a7⟩, hP, by omega⟩, ?_⟩
  · show Rows 4 _ (fr :: s.stack).reverse _
    rw [List.reverse_cons]
    have h1 : Rows 4 (CCal (fun b => K ≤ b ∧ some b ≠ q.vr.ownBlock ∧ some b ≠ q.vo.ownBlock ∧ some b ≠ v'.ownBlock) (w1.setCell ⟨P, 259, none⟩ v')) s.stack.reverse cc := hrows.imp fun fr cs hc => CCal.go (fr := fr) (cs := cs) hgo hB' hc.lt
    have h2 : CCal (fun b => K ≤ b ∧ some b ≠ q.vr.ownBlock ∧ some b ≠ q.vo.ownBlock ∧ some b ≠ v'.ownBlock) (w1.setCell ⟨P, 259, none⟩ v') fr [.int .i64 fr.fn, .int .i64 fr.blk, .int .i64 fr.at_, .slice A l.length cA] :=
      ⟨A, cA, l, rfl, SL.imp (RWB.go hgo hB') (SL.imp (fun b o x hx => RWB.lt b o x hx) hs), hl, hr⟩
    exact Rows.snoc h2 rfl h1
  · exact BB.setCell (p := ⟨P, 259, none⟩) ⟨hg.os, hg.tape, hg.output, hg.size, fun k hk hne => hg.block k (by omega) (fun e => by have := (a3.lt k e).1; omega)⟩ (.inl rfl) v'
/-- A word is set. -/
theorem mac_word {K P : Nat} {m : List FunD} {w : World} {s : St} {rd : List Int} (h : Mac K P m w s rd) {k : Nat} (hk : k < 64) (v : Int) : Mac K P m (w.setCell ⟨P, 268 + k, none⟩ (.int .i64 v)) { s with mem := upd s.mem k v } rd ∧ BB K P w (w.setCell ⟨P, 268 + k, none⟩ (.int .i64 v)) := by
  obtain ⟨q, hb, he, hd, hP, hK⟩ := h
  have hb1 : MacB P (w.setCell ⟨P, 268 + k, none⟩ (.int .i64 v)) { s with mem := upd s.mem k v } q := hb.set (set_mem s q k v hk)
  exact ⟨mac_of hb1 he hd hP hK (by simp [World.setCell]) (fun k hk hne => set_others k hk hne) rfl rfl rfl, (BB.refl K P w).setCell (p := ⟨P, 268 + k, none⟩) (.inl rfl) _⟩
theorem apart_new {K P : Nat} {m : List FunD} {w w1 : World} {s : St} {rd : List Int} (h : Mac K P m w s rd) (hB : Below w.heap.size w w1) {k : Nat} (hk : w.heap.size ≤ k) : ApartM P w1 k := by
  obtain ⟨q, hb, he, hd, hP, hK⟩ := h
  have hb1 : MacB P w1 s q := (hB.block P hb.lt).trans hb
  have hlt := hb.lt
  obtain ⟨cc, hc, _⟩ := hd.calls
  refine ⟨by omega, fun i u hi hu e => ?_⟩
  rcases hi with rfl | rfl | rfl
  · have h1 : some u = some q.vc := hu.symm.trans (hb1.cell (by omega))
    have := (hc.lt k ((Option.some.inj h1) ▸ e)).2; omega
  · have h1 : some u = some q.vr := hu.symm.trans (hb1.cell (by omega))
    have := (hd.rdv.lt k ((Option.some.inj h1) ▸ e)).2; omega
  · have h1 : some u = some q.vo := hu.symm.trans (hb1.cell (by omega))
    have := (hd.outv.lt k ((Option.some.inj h1) ▸ e)).2; omega
end Go.Proofs.Ytoidhjmhakajlaa
