/- A function gives back. -/
import Derived.Test.YtoidhjmhakajlaaMacF
namespace Go.Proofs.Ytoidhjmhakajlaa
open Go.ChangeShapes Go.WideShapes Go.RowKit Go.Deep
set_option linter.unusedVariables false

theorem rows_init {α : Type} {sz : Nat} {F : α → List Value → Prop} {l : List α} {x : α} : ∀ {cs : List Value}, Rows sz F (l ++ [x]) cs → Rows sz F l (cs.take (l.length * sz)) := by
  induction l with
  | nil => intro cs h; simp [Rows]
  | cons y l ih =>
    rintro cs ⟨c, r, rfl, h1, h2, h3⟩
    refine ⟨c, r.take (l.length * sz), ?_, h1, h2, ih h3⟩
    rw [List.length_cons, Nat.succ_mul, Nat.add_comm, ← h1, List.take_length_add_append]
theorem owns_init {w : World} {base n cap g size : Nat} {e : TypeId} {xs : List Value} (h : w.ownsRow base e size (.slice (some ⟨g, 0, none⟩) (n + 1) cap) (n + 1) xs) : w.ownsRow base e size (.slice (some ⟨g, 0, none⟩) n cap) n (xs.take (n * size)) := by
  have hl := h.1
  refine ⟨by rw [List.length_take, hl, Nat.succ_mul]; omega, ?_⟩
  rcases h.2 with ⟨h1, _⟩ | ⟨g', cap', cur, h1, h2, h3, h4, h5, h6, h7⟩
  · cases h1
  · simp only [Value.slice.injEq, Option.some.injEq, Addr.mk.injEq, and_true, true_and] at h1
    obtain ⟨rfl, rfl⟩ := h1
    refine .inr ⟨g, cap, cur, rfl, h2, h3, by omega, h5, h6, ?_⟩
    rw [← h7, List.take_take, Nat.min_eq_left (by rw [Nat.succ_mul]; omega)]
/-- Who waits. -/
theorem Dyn.stack {K : Nat} {w : World} {s : St} {q : MV} {rd : List Int} (h : Dyn K w s q rd) {c : Fr} {r : List Fr} (hs : s.stack = c :: r) :
    ∃ g cap A cA l, r.length + 1 ≤ cap ∧ q.vc = .slice (some ⟨g, 0, none⟩) (r.length + 1) cap ∧ SL w 1 (RWB (fun b => K ≤ b)) A cA l ∧ l.length ≤ 256 ∧ (∀ i, c.regs i = l.getD i 0) ∧
      w.cell? ⟨g, r.length * 4, none⟩ = some (.int .i64 c.fn) ∧ w.cell? ⟨g, r.length * 4 + 1, none⟩ = some (.int .i64 c.blk) ∧ w.cell? ⟨g, r.length * 4 + 2, none⟩ = some (.int .i64 c.at_) ∧ w.cell? ⟨g, r.length * 4 + 3, none⟩ = some (.slice A l.length cA) := by
  obtain ⟨cc, h1, h2⟩ := h.calls
  rw [hs, List.length_cons] at h1
  rw [hs, List.reverse_cons] at h2
  rcases h1.2 with ⟨_, h0⟩ | ⟨g, cap, cur, e, _, _, hcap, _⟩
  · omega
  · rw [e] at h1
    obtain ⟨d, d1, ⟨A, cA, l, rfl, d3, d4, d5⟩, d6⟩ := h2.at_ (i := r.length) (x := c) (by rw [List.getElem?_append_right (by simp)]; simp)
    have hc : ∀ j u, j < 4 → [Value.int .i64 c.fn, .int .i64 c.blk, .int .i64 c.at_, .slice A l.length cA][j]? = some u → w.cell? ⟨g, r.length * 4 + j, none⟩ = some u := fun j u hj hu => by
      have := h1.cells (g := g) rfl (r.length * 4 + j) u ((d6 j hj).trans hu)
      rwa [add_plain', Nat.zero_add] at this
    exact ⟨g, cap, A, cA, l, hcap, e, SL.imp (fun b o x hx => ⟨hx.1.1, hx.2⟩) d3, d4, d5, hc 0 _ (by omega) rfl, hc 1 _ (by omega) rfl, hc 2 _ (by omega) rfl, hc 3 _ (by omega) rfl⟩
/-- One caller less. -/
theorem mac_pop {K P : Nat} {m : List FunD} {w : World} {s : St} {rd : List Int} {q : MV} (hb : MacB P w s q) (he : Env K P w m q) (hd : Dyn K w s q rd) (hP : P < K) (hK : K ≤ w.heap.size) {c : Fr} {r : List Fr} (hs : s.stack = c :: r) {g cap : Nat}
    (hvc : q.vc = .slice (some ⟨g, 0, none⟩) (r.length + 1) cap) : Mac K P m (w.setCell ⟨P, 259, none⟩ (.slice (some ⟨g, 0, none⟩) r.length cap)) { s with stack := r } rd ∧ BB K P w (w.setCell ⟨P, 259, none⟩ (.slice (some ⟨g, 0, none⟩) r.length cap)) := by
  obtain ⟨a1, a2, ⟨cc, a3, a4⟩, a5, a6, a7⟩ := hd
  rw [hs] at a3 a4
  rw [List.length_cons] at a3
  rw [List.reverse_cons] at a4
  have hb1 : MacB P (w.setCell ⟨P, 259, none⟩ (.slice (some ⟨g, 0, none⟩) r.length cap)) { s with stack := r } { q with vc := .slice (some ⟨g, 0, none⟩) r.length cap } := hb.set (set_mid (by omega) (by omega) rfl rfl rfl
    (mid_cases (fun h => absurd rfl h) (fun _ => rfl) (fun _ => rfl) (fun _ => rfl) (fun _ => rfl) (fun _ => rfl) (fun _ => rfl) (fun _ => rfl) (fun _ => rfl)))
  have hown : (Value.slice (some ⟨g, 0, none⟩) r.length cap).ownBlock = q.vc.ownBlock := by rw [hvc]; rfl
  have hS : ∀ k, k < w.heap.size → k ≠ P → (w.setCell ⟨P, 259, none⟩ (.slice (some ⟨g, 0, none⟩) r.length cap)).heap[k]? = w.heap[k]? := fun k hk hne => set_others k hk hne
  have hkeep : ∀ {n size : Nat} {e : TypeId} {u : Value} {xs : List Value}, w.ownsRow K e size u n xs → (w.setCell ⟨P, 259, none⟩ (.slice (some ⟨g, 0, none⟩) r.length cap)).ownsRow K e size u n xs := fun h =>
    owns_keep h (fun g _ hb hl => hS g hl (by omega))
  refine ⟨⟨{ q with vc := .slice (some ⟨g, 0, none⟩) r.length cap }, hb1, env_set he rfl rfl (fun k h1 h2 h3 => hS k h3 h2),
    ⟨hkeep a1, hkeep a2, ⟨_, hkeep (owns_init (by rw [← hvc]; exact a3)), ?_⟩, a5, by show _ ∨ _ ≠ _; rw [hown]; exact a6, by show _ ∨ _ ≠ _; rw [hown]; exact a7⟩, hP, by simpa [World.setCell] using hK⟩, (BB.refl K P w).setCell (p := ⟨P, 259, none⟩) (.inl rfl) _⟩
  have h4 := rows_init a4
  rw [List.length_reverse] at h4
  refine h4.imp fun fr cs hc => CCal.go (fun a v hB hv => ?_) (fun b hB => ⟨hB.1.1, hB.1.2.1, hB.1.2.2.1, by show some b ≠ _; rw [hown]; exact hB.1.2.2.2⟩) hc.lt
  rw [World.cell?_of_block (hS a.block hB.2 (by omega))]; exact hv

/-- One that waits: at a call, of which it knows what it is. -/
def Waits (m : List FunD) (fr : Fr) : Prop :=
  ∃ f kb x a, fr.at_ = a + 1 ∧ m[fr.fn]? = some f ∧ f.blocks[fr.blk]? = some kb ∧ kb.ins[a]? = some x ∧ (x.dst = -1 ∨ InR f.regs.length x.dst) ∧ f.regs.length ≤ 256 ∧ a < 1000000 ∧ ∀ i, f.regs.length ≤ i → fr.regs i = 0
def backV (s : St) (reg : Int) : Int := if 0 ≤ reg then s.cur.regs reg.toNat else 0

set_option maxRecDepth 100000 in
set_option maxHeartbeats 4000000 in
theorem giveBack_any (K P : Nat) (m : List FunD) (w : World) (s : St) (rd : List Int) (reg : Int) (h : Mac K P m w s rd) (hreg : reg = -1 ∨ InR 256 reg) (hst : ∀ c ∈ s.stack, Waits m c) (hsl : s.stack.length ≤ 1048576) :
    Calls Try.prog 64 #[.pointer (some ⟨P, 0, none⟩), .int .i64 reg] w (ToldM K P m w (giveS m s (backV s reg)) rd) := by
  obtain ⟨q, hb, he, hd, hP, hK⟩ := h
  have HB := Lib.hid hb
  have HE := Lib.hid he
  have HD := Lib.hid hd
  have HST := Lib.hid hst
  have cv : w.cell? ⟨P, 259, none⟩ = some q.vc := hb.cell (by omega)
  have cdone : w.cell? ⟨P, 263, none⟩ = some (.bool s.done) := hb.cell (by omega)
  have cval : w.cell? ⟨P, 265, none⟩ = some (.int .i64 s.value) := hb.cell (by omega)
  have fdone := hb.free 263
  have fval := hb.free 265
  have fcal := hb.free 259
  cases hstk : s.stack with
  | nil =>
    have HN : Hid (∀ v, giveS m s v = { s with done := true, value := v }) := Lib.hid (fun v => by unfold giveS; rw [hstk])
    have hvc : ∃ A c, q.vc = .slice A 0 c := by
      obtain ⟨cc, h1, _⟩ := hd.calls
      rw [hstk] at h1
      rcases h1.2 with ⟨h2, _⟩ | ⟨g, cap, cur, h2, _⟩
      · exact ⟨none, 0, h2⟩
      · exact ⟨_, cap, h2⟩
    obtain ⟨A, c, hvc⟩ := hvc
    rw [hvc] at cv
    have HF : Hid (∀ v, Mac K P m ((w.setCell ⟨P, 263, none⟩ (.bool true)).setCell ⟨P, 265, none⟩ (.int .i64 v)) { s with done := true, value := v } rd ∧ BB K P w ((w.setCell ⟨P, 263, none⟩ (.bool true)).setCell ⟨P, 265, none⟩ (.int .i64 v))) := Lib.hid (fun v => by
      have hb1 : MacB P (w.setCell ⟨P, 263, none⟩ (.bool true)) { s with done := true } q :=
        HB.out.set (set_mid (by omega) (by omega) rfl rfl rfl (mid_cases (fun _ => rfl) (fun _ => rfl) (fun _ => rfl) (fun _ => rfl) (fun h => absurd rfl h) (fun _ => rfl) (fun _ => rfl) (fun _ => rfl) (fun _ => rfl)))
      have hb2 : MacB P ((w.setCell ⟨P, 263, none⟩ (.bool true)).setCell ⟨P, 265, none⟩ (.int .i64 v)) { s with done := true, value := v } q :=
        hb1.set (set_mid (by omega) (by omega) rfl rfl rfl (mid_cases (fun _ => rfl) (fun _ => rfl) (fun _ => rfl) (fun _ => rfl) (fun _ => rfl) (fun _ => rfl) (fun h => absurd rfl h) (fun _ => rfl) (fun _ => rfl)))
      exact ⟨mac_of hb2 HE.out HD.out hP hK (by simp [World.setCell]) (fun k hk hne => (set_others k (by simpa [World.setCell] using hk) hne).trans (set_others k hk hne)) rfl rfl rfl,
        ((BB.refl K P w).setCell (p := ⟨P, 263, none⟩) (.inl rfl) _).setCell (p := ⟨P, 265, none⟩) (.inl rfl) _⟩)
    rcases hreg with rfl | hin
    · have HBV : Hid (backV s (-1) = 0) := Lib.hid rfl
      clear hb he hd hstk hvc hst hP hK hsl
      go_enter Try.func64, Try.ntmps64
      go_wp2_with fail
      go_end0
      rw [HBV.out, HN.out]
      exact ⟨rfl, (HF.out 0).1, (HF.out 0).2⟩
    · obtain ⟨r, hr⟩ : ∃ r : Nat, reg = r := ⟨reg.toNat, by have := hin.1; omega⟩
      have hr256 : r < 256 := by have := hin.2; omega
      subst hr
      have HBV : Hid (backV s r = s.cur.regs r) := Lib.hid (by unfold backV; rw [if_pos (by omega)]; rfl)
      have creg : w.cell? ⟨P, 3 + r, none⟩ = some (.int .i64 (s.cur.regs r)) := hb.reg hr256
      have hr0 : (0 : Int) ≤ r := by omega
      have hr1 : (r : Int) < 256 := by omega
      clear hb he hd hstk hvc hst hP hK hsl hin
      go_enter Try.func64, Try.ntmps64
      go_wp2_with fail
      go_end0
      rw [HBV.out, HN.out]
      exact ⟨rfl, (HF.out _).1, (HF.out _).2⟩
  | cons c r =>
    obtain ⟨g, cap, A, cA, l, -, hvc, hsl', hl, hregs, d0, d1, d2, d3⟩ := hd.stack hstk
    obtain ⟨f, kb, x, a, ha, hf, hbk, hx, hdst, hf256, ha6, hz⟩ := hst c (by rw [hstk]; exact List.mem_cons_self ..)
    rw [hvc] at cv
    have hrl : r.length ≤ 1048576 := by rw [hstk] at hsl; simp at hsl; omega
    have HG : Hid (∀ v, giveS m s v = { s with cur := resumeF m c v, stack := r }) := Lib.hid (fun v => by unfold giveS; rw [hstk])
    have HRS : Hid (∀ v, Calls Try.prog 74 #[.pointer (some ⟨P, 0, none⟩), .agg #[.int .i64 c.fn, .int .i64 c.blk, .int .i64 c.at_, .slice A l.length cA], .int .i64 v] w (ToldM K P m w { s with cur := resumeF m c v } rd)) := Lib.hid (fun v =>
      resume_any K P m w s rd l c f kb x a v A cA ⟨q, HB.out, HE.out, HD.out, hP, hK⟩ (SL.imp (fun b o y hy => ⟨by have := hy.1; omega, hy.2⟩) hsl') hl hregs ha hf hbk hx (by
        rcases hdst with h | h
        · exact .inl h
        · exact .inr ⟨h.1, by have := h.2; omega⟩) ha6)
    have hk0 : (0 : Int) ≤ r.length := by omega
    have hk1 : (r.length : Int) ≤ 1048576 := by omega
    have HSK := Lib.hid hstk
    rcases hreg with rfl | hin
    · have HBV : Hid (backV s (-1) = 0) := Lib.hid rfl
      clear hb he hd hstk hvc hst hP hK hsl hsl' hl hregs hf hbk hx hdst hz ha hf256 ha6 cdone cval fdone fval hrl
      go_enter Try.func64, Try.ntmps64
      go_wp2_with fail
      refine (HRS.out 0).mono ?_
      rintro e w' ⟨rfl, h1, h2⟩
      obtain ⟨q', hb', he', hd', hP', hK'⟩ := h1
      obtain ⟨g', cap', A', cA', l', hcap', hvc', -⟩ := hd'.stack HSK.out
      have cv' : w'.cell? ⟨P, 259, none⟩ = some (.slice (some ⟨g', 0, none⟩) (r.length + 1) cap') := (hb'.cell (by omega)).trans (congrArg some hvc')
      have f' := hb'.free 259
      have HPOP := Lib.hid (mac_pop hb' he' hd' hP' hK' HSK.out hvc')
      have hc0 : (r.length : Int) ≤ cap' := by omega
      clear hb' he' hd' hP' hK' hvc' hcap'
      go_wp2_with fail
      go_end0
      rw [HBV.out, HG.out]
      exact ⟨rfl, HPOP.out.1, h2.trans HPOP.out.2⟩
    · obtain ⟨y, hy⟩ : ∃ y : Nat, reg = y := ⟨reg.toNat, by have := hin.1; omega⟩
      have hy256 : y < 256 := by have := hin.2; omega
      subst hy
      have HBV : Hid (backV s y = s.cur.regs y) := Lib.hid (by unfold backV; rw [if_pos (by omega)]; rfl)
      have creg : w.cell? ⟨P, 3 + y, none⟩ = some (.int .i64 (s.cur.regs y)) := hb.reg hy256
      have hy0 : (0 : Int) ≤ y := by omega
      have hy1 : (y : Int) < 256 := by omega
      clear hb he hd hstk hvc hst hP hK hsl hsl' hl hregs hf hbk hx hdst hz ha hf256 ha6 cdone cval fdone fval hrl hin
      go_enter Try.func64, Try.ntmps64
      go_wp2_with fail
      refine (HRS.out _).mono ?_
      rintro e w' ⟨rfl, h1, h2⟩
      obtain ⟨q', hb', he', hd', hP', hK'⟩ := h1
      obtain ⟨g', cap', A', cA', l', hcap', hvc', -⟩ := hd'.stack HSK.out
      have cv' : w'.cell? ⟨P, 259, none⟩ = some (.slice (some ⟨g', 0, none⟩) (r.length + 1) cap') := (hb'.cell (by omega)).trans (congrArg some hvc')
      have f' := hb'.free 259
      have HPOP := Lib.hid (mac_pop hb' he' hd' hP' hK' HSK.out hvc')
      have hc0 : (r.length : Int) ≤ cap' := by omega
      clear hb' he' hd' hP' hK' hvc' hcap'
      go_wp2_with fail
      go_end0
      rw [HBV.out, HG.out]
      exact ⟨rfl, HPOP.out.1, h2.trans HPOP.out.2⟩
end Go.Proofs.Ytoidhjmhakajlaa
