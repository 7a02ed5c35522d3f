/- The machine's small functions. -/
import Derived.Test.YtoidhjmhakajlaaMac
namespace Go.Proofs.Ytoidhjmhakajlaa
open Go.ChangeShapes Go.WideShapes Go.RowKit Go.Deep
set_option linter.unusedVariables false

theorem owns_keep {w w' : World} {base n size : Nat} {e : TypeId} {v : Value} {xs : List Value} (h : w.ownsRow base e size v n xs) (hk : ∀ g, v.ownBlock = some g → base ≤ g → g < w.heap.size → w'.heap[g]? = w.heap[g]?) : w'.ownsRow base e size v n xs := by
  refine ⟨h.1, ?_⟩
  rcases h.2 with h1 | ⟨g, cap, cur, rfl, h2, h3, h4⟩
  · exact .inl h1
  · exact .inr ⟨g, cap, cur, rfl, h2, (hk g rfl h2 (block_lt h3)).trans h3, h4⟩
/-- Nothing but the machine's own block has changed. -/
theorem Dyn.go {K : Nat} {w w' : World} {s s' : St} {q q' : MV} {rd : List Int} (h : Dyn K w s q rd) (hk : ∀ k, K ≤ k → k < w.heap.size → w'.heap[k]? = w.heap[k]?) (ho : s'.out = s.out) (hst : s'.stack = s.stack) (h1 : q'.vc = q.vc) (h2 : q'.vr = q.vr) (h3 : q'.vo = q.vo) : Dyn K w' s' q' rd := by
  obtain ⟨a1, a2, ⟨cc, a3, a4⟩, a5, a6, a7⟩ := h
  refine ⟨by rw [h2]; exact owns_keep a1 (fun g _ hb hl => hk g hb hl), by rw [h3, ho]; exact owns_keep a2 (fun g _ hb hl => hk g hb hl), ⟨cc, by rw [h1, hst]; exact owns_keep a3 (fun g _ hb hl => hk g hb hl), ?_⟩, by rw [h2, h3]; exact a5, by rw [h2, h1]; exact a6, by rw [h3, h1]; exact a7⟩
  rw [hst, h1, h2, h3]
  refine a4.imp fun fr cs hc => CCal.go (fun a v hB hv => ?_) (fun _ hB => hB.1) hc.lt
  rw [World.cell?_of_block (hk a.block hB.1.1 hB.2)]; exact hv
theorem env_set {K P : Nat} {w : World} {m : List FunD} {q q' : MV} (h : Env K P w m q) (h1 : q'.vf = q.vf) (h2 : q'.va = q.va) {w' : World} (hk : ∀ k, k < K → k ≠ P → k < w.heap.size → w'.heap[k]? = w.heap[k]?) : Env K P w' m q' := by
  have := h.keep (w' := w') (fun a v hB hv => by rw [World.cell?_of_block (hk a.block hB.1 hB.2 (block_lt_of_cell hv))]; exact hv)
  unfold Env at *
  rw [h1, h2]; exact this
/-- The machine, behind what has changed its block alone. -/
theorem mac_of {K P : Nat} {m : List FunD} {w w' : World} {s s' : St} {q q' : MV} {rd : List Int} (hb : MacB P w' s' q') (he : Env K P w m q) (hd : Dyn K w s q rd) (hP : P < K) (hK : K ≤ w.heap.size) (hs : w.heap.size ≤ w'.heap.size)
    (hk : ∀ k, k < w.heap.size → k ≠ P → w'.heap[k]? = w.heap[k]?) (ho : s'.out = s.out) (hst : s'.stack = s.stack) (hq : q' = q) : Mac K P m w' s' rd := by
  subst hq
  exact ⟨q', hb, env_set he rfl rfl (fun k h1 h2 h3 => hk k h3 h2), hd.go (fun k h1 h2 => hk k h2 (by omega)) ho hst rfl rfl rfl, hP, by omega⟩
theorem set_others {w : World} {P i : Nat} {v : Value} : ∀ k, k < w.heap.size → k ≠ P → (w.setCell ⟨P, i, none⟩ v).heap[k]? = w.heap[k]? := fun k _ hk => heap_setCell_other w ⟨P, i, none⟩ k v hk
theorem Mac.lt {K P : Nat} {m : List FunD} {w : World} {s : St} {rd : List Int} (h : Mac K P m w s rd) : P < w.heap.size := by obtain ⟨q, h1, _⟩ := h; exact h1.lt
theorem BB.drewN {n g : Nat} {a w : World} (h : BB n g a w) (k : Nat) : BB n g a (w.drewN k) := ⟨h.os, h.tape, h.output, h.size, h.block⟩
/-- A new block does the machine no harm. -/
theorem Mac.below {K P : Nat} {m : List FunD} {w w' : World} {s : St} {rd : List Int} (h : Mac K P m w s rd) (hb : Below w.heap.size w w') : Mac K P m w' s rd := by
  obtain ⟨q, h1, he, hd, hP, hK⟩ := h
  exact mac_of ((hb.block P h1.lt).trans h1) he hd hP hK hb.size (fun k hk _ => hb.block k hk) rfl rfl rfl
theorem Mac.drewN {K P : Nat} {m : List FunD} {w : World} {s : St} {rd : List Int} (h : Mac K P m w s rd) (n : Nat) : Mac K P m (w.drewN n) s rd := h.below (below_drewN (Below.refl _ _) n)

def ToldM (K P : Nat) (m : List FunD) (w : World) (s : St) (rd : List Int) (e : Ending) (w' : World) : Prop := e = .returned (.tuple #[]) ∧ Mac K P m w' s rd ∧ BB K P w w'

theorem within_any (a : Int) (n : Nat) (w : World) : Calls Try.prog 21 #[.int .i64 a, .int .i64 n] w fun e w' => e = .returned (.bool (decide (0 ≤ a ∧ a < n))) ∧ w = w' := by
  by_cases h0 : 0 ≤ a
  · by_cases h1 : a < n
    · have e : decide (0 ≤ a ∧ a < (n : Int)) = true := decide_eq_true ⟨h0, h1⟩
      rw [e]; clear e
      go_enter Try.func21, Try.ntmps21
      go_wp2_with fail
      go_ret
      exact ⟨rfl, rfl⟩
    · have e : decide (0 ≤ a ∧ a < (n : Int)) = false := decide_eq_false (fun h => h1 h.2)
      have h1' : decide (a < (n : Int)) = false := decide_eq_false h1
      rw [e]; clear e h1
      go_enter Try.func21, Try.ntmps21
      go_wp2_with fail
      go_ret
      exact ⟨rfl, rfl⟩
  · have e : decide (0 ≤ a ∧ a < (n : Int)) = false := decide_eq_false (fun h => h0 h.1)
    have h0' : decide (0 ≤ a) = false := decide_eq_false h0
    rw [e]; clear e h0
    go_enter Try.func21, Try.ntmps21
    go_wp2_with fail
    go_ret
    exact ⟨rfl, rfl⟩

theorem trap_any (K P : Nat) (m : List FunD) (w : World) (s : St) (rd : List Int) (t : Int) (h : Mac K P m w s rd) :
    Calls Try.prog 76 #[.pointer (some ⟨P, 0, none⟩), .int .i64 t] w (ToldM K P m w (trapS s t) rd) := by
  obtain ⟨q, hb, he, hd, hP, hK⟩ := h
  have HB := Lib.hid hb
  have HE := Lib.hid he
  have HD := Lib.hid hd
  have c1 : w.cell? ⟨P, 263, none⟩ = some (.bool s.done) := hb.cell (by omega)
  have c2 : w.cell? ⟨P, 264, none⟩ = some (.int .i64 s.trap) := hb.cell (by omega)
  have f1 := hb.free 263
  have f2 := hb.free 264
  clear hb he hd
  go_enter Try.func76, Try.ntmps76
  go_wp2_with fail
  go_end0
  have hb1 : MacB P (w.setCell ⟨P, 263, none⟩ (.bool true)) { s with done := true } q :=
    HB.out.set (set_mid (by omega) (by omega) rfl rfl rfl (mid_cases (fun _ => rfl) (fun _ => rfl) (fun _ => rfl) (fun _ => rfl) (fun h => absurd rfl h) (fun _ => rfl) (fun _ => rfl) (fun _ => rfl) (fun _ => rfl)))
  have hb2 : MacB P ((w.setCell ⟨P, 263, none⟩ (.bool true)).setCell ⟨P, 264, none⟩ (.int .i64 t)) (trapS s t) q :=
    hb1.set (set_mid (by omega) (by omega) rfl rfl rfl (mid_cases (fun _ => rfl) (fun _ => rfl) (fun _ => rfl) (fun _ => rfl) (fun _ => rfl) (fun h => absurd rfl h) (fun _ => rfl) (fun _ => rfl) (fun _ => rfl)))
  refine ⟨rfl, mac_of hb2 HE.out HD.out hP hK (by simp [World.setCell]) (fun k hk hne => (set_others k (by simpa [World.setCell] using hk) hne).trans (set_others k hk hne)) rfl rfl rfl, ?_⟩
  exact ((BB.refl K P w).setCell (p := ⟨P, 263, none⟩) (.inl rfl) _).setCell (p := ⟨P, 264, none⟩) (.inl rfl) _
end Go.Proofs.Ytoidhjmhakajlaa
