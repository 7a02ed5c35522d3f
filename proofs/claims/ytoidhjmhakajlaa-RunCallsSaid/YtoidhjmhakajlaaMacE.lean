/- The machine reckons; a caller goes on; a function gives back. -/
import Derived.Test.YtoidhjmhakajlaaMacD
namespace Go.Proofs.Ytoidhjmhakajlaa
open Go.ChangeShapes Go.WideShapes Go.RowKit Go.Deep
set_option linter.unusedVariables false

theorem len_one {l : List Int} (h : l.length = 1) : ∃ a, l = [a] := by
  match l, h with
  | [a], _ => exact ⟨a, rfl⟩
theorem len_two {l : List Int} (h : l.length = 2) : ∃ a b, l = [a, b] := by
  match l, h with
  | [a, b], _ => exact ⟨a, b, rfl⟩
theorem eval_some (op : Int) (l : List Int) (v : Int) (g cap : Nat) (w : World) (hop : 2 ≤ op ∧ op ≤ 14) (hl : (l.length : Int) = opArity op) (hc : ∀ (j : Nat) (x : Int), l[j]? = some x → w.cell? ⟨g, j, none⟩ = some (.int .i64 x)) (he : evalV op l = some v) :
    Calls Try.prog 78 #[.int .i64 op, .slice (some ⟨g, 0, none⟩) l.length cap] w fun e w' => e = .returned (.tuple #[.int .i64 v, .nilIface]) ∧ Drawn w w' := by
  unfold evalV at he
  by_cases h1 : op = 2 ∨ op = 14
  · rw [if_pos h1] at he
    obtain rfl := Option.some.inj he
    have : l.length = 1 := by unfold opArity at hl; rw [if_pos h1] at hl; omega
    obtain ⟨a, rfl⟩ := len_one this
    exact (eval_one op a g 0 cap w h1 (hc 0 a rfl)).mono fun e w' h => ⟨h.1, 0, h.2.symm⟩
  · rw [if_neg h1] at he
    have : l.length = 2 := by unfold opArity at hl; rw [if_neg h1, if_pos (by omega)] at hl; omega
    obtain ⟨a, b, rfl⟩ := len_two this
    by_cases h2 : op = 11 ∧ ([a, b] : List Int).getD 1 0 = 0
    · rw [if_pos h2] at he; cases he
    · rw [if_neg h2] at he
      obtain rfl := Option.some.inj he
      refine eval_two op a b g 0 cap w (by omega) (by omega) (fun h => ?_) (hc 0 a rfl) (hc 1 b rfl)
      rw [beq_eq_false_iff_ne]
      exact fun hb => h2 ⟨h, hb⟩
theorem eval_none (op : Int) (l : List Int) (g cap : Nat) (w : World) (hop : 2 ≤ op ∧ op ≤ 14) (hl : (l.length : Int) = opArity op) (hc : ∀ (j : Nat) (x : Int), l[j]? = some x → w.cell? ⟨g, j, none⟩ = some (.int .i64 x)) (he : evalV op l = none) :
    Calls Try.prog 78 #[.int .i64 op, .slice (some ⟨g, 0, none⟩) l.length cap] w fun e w' => e = .returned (.tuple #[.int .i64 0, .iface 63 (.int .i64 7)]) ∧ Drawn w w' := by
  unfold evalV at he
  by_cases h1 : op = 2 ∨ op = 14
  · rw [if_pos h1] at he; cases he
  · rw [if_neg h1] at he
    have : l.length = 2 := by unfold opArity at hl; rw [if_neg h1, if_pos (by omega)] at hl; omega
    obtain ⟨a, b, rfl⟩ := len_two this
    by_cases h2 : op = 11 ∧ ([a, b] : List Int).getD 1 0 = 0
    · obtain ⟨rfl, hb⟩ := h2
      obtain rfl : b = 0 := hb
      exact (eval_div0 g 0 cap w (hc 1 0 rfl)).mono fun e w' h => ⟨h.1, 0, h.2.symm⟩
    · rw [if_neg h2] at he; cases he

/-- What was read last, as it lies. -/
theorem Dyn.read {K : Nat} {w : World} {s : St} {q : MV} {rd : List Int} (h : Dyn K w s q rd) (hn : 0 < rd.length) : ∃ g cap, q.vr = .slice (some ⟨g, 0, none⟩) rd.length cap ∧ ∀ (j : Nat) (x : Int), rd[j]? = some x → w.cell? ⟨g, j, none⟩ = some (.int .i64 x) := by
  have h1 := h.rdv
  rcases h1.2 with ⟨_, h0⟩ | ⟨g, c, cur, e, _⟩
  · omega
  · rw [e] at h1
    refine ⟨g, c, e, fun j x hx => ?_⟩
    have := h1.cells (g := g) rfl j (.int .i64 x) (by rw [List.getElem?_map, hx]; rfl)
    rwa [add_plain', Nat.zero_add] at this

def reckS (s : St) (x : InsD) (rd : List Int) : St := match evalV x.op rd with
  | some v => setR s x.dst v
  | none => trapS s 1

/-- A register is set, by its number. -/
theorem mac_setR {K P : Nat} {m : List FunD} {w : World} {s : St} {rd : List Int} (h : Mac K P m w s rd) {r : Nat} (hr : r < 256) (v : Int) : Mac K P m (w.setCell ⟨P, 3 + r, none⟩ (.int .i64 v)) (setR s r v) rd ∧ BB K P w (w.setCell ⟨P, 3 + r, none⟩ (.int .i64 v)) := by
  obtain ⟨q, hb, he, hd, hP, hK⟩ := h
  have hb1 : MacB P (w.setCell ⟨P, 3 + r, none⟩ (.int .i64 v)) (setR s r v) q := hb.set (set_reg s q r v hr (by simp))
  exact ⟨mac_of hb1 he hd hP hK (by simp [World.setCell]) (fun k hk hne => set_others k hk hne) rfl rfl rfl, (BB.refl K P w).setCell (p := ⟨P, 3 + r, none⟩) (.inl rfl) _⟩

set_option maxRecDepth 100000 in
set_option maxHeartbeats 4000000 in
theorem reckon_any (K P : Nat) (m : List FunD) (w : World) (s : St) (rd : List Int) (x : InsD) (v : Value) (h : Mac K P m w s rd) (hv : VIns w v x) (hop : 2 ≤ x.op ∧ x.op ≤ 14) (hl : (rd.length : Int) = opArity x.op) (hdst : InR 256 x.dst) :
    Calls Try.prog 69 #[.pointer (some ⟨P, 0, none⟩), v] w (ToldM K P m w (reckS s x rd) rd) := by
  obtain ⟨Ax, cx, rfl, -, -⟩ := hv
  obtain ⟨r, hr⟩ : ∃ r : Nat, x.dst = r := ⟨x.dst.toNat, by have := hdst.1; omega⟩
  have hr256 : r < 256 := by have := hdst.2; omega
  have hr0 : (0 : Int) ≤ r := by omega
  have hr1 : (r : Int) < 256 := by omega
  have hpos : 0 < rd.length := by unfold opArity at hl; split at hl <;> first | omega | (split at hl <;> omega)
  obtain ⟨w1, hw1, hs1, hk1, hB1, hc1, hf1⟩ := named w #[.int .i64 x.op, .int .i64 x.dst, .slice Ax x.args.length cx, .int .i64 x.imm, .int .i64 x.fn] 41
  have hm1 := h.below hB1
  have hbb1 : BB K P w w1 := by obtain ⟨q, _, _, _, _, hK⟩ := h; exact BB.of_below hB1 hK
  have b0 : w1.cell? ⟨w.heap.size, 0, none⟩ = some (.int .i64 x.op) := hc1 0 _ rfl
  have b1 : w1.cell? ⟨w.heap.size, 1, none⟩ = some (.int .i64 x.dst) := hc1 1 _ rfl
  rw [hr] at b1
  have HR := Lib.hid hr
  have HM := Lib.hid hm1
  obtain ⟨q, hb, he, hd, hP, hK⟩ := hm1
  obtain ⟨g, cap, hvr, hcells⟩ := hd.read hpos
  have cv : w1.cell? ⟨P, 262, none⟩ = some (.slice (some ⟨g, 0, none⟩) rd.length cap) := (hb.cell (by omega)).trans (congrArg some hvr)
  have creg : w1.cell? ⟨P, 3 + r, none⟩ = some (.int .i64 (s.cur.regs r)) := hb.reg hr256
  have freg := hb.free (3 + r)
  have HC := Lib.hid hcells
  have HOP := Lib.hid hop
  have HL := Lib.hid hl
  have hlt : w.heap.size < w1.heap.size := by omega
  clear hb he hd hvr hcells hc1 hf1 hop hl hpos hdst h hr
  cases hev : evalV x.op rd with
  | some u =>
    have HS : Hid (reckS s x rd = setR s r u) := Lib.hid (by unfold reckS; rw [hev, ← HR.out])
    have HE := Lib.hid (fun n => eval_some x.op rd u g cap (w1.drewN n) HOP.out HL.out HC.out hev)
    rw [HS.out]
    clear hev
    go_enter Try.func69, Try.ntmps69
    go_wp2_with fail
    rw [← hw1]
    clear hw1
    go_quiet ((go_at_call 78; exact Calls.quiet_of (HE.out _)))
    go_wp2_with fail
    have b1q : (w1.drewN nq).cell? ⟨w.heap.size, 1, none⟩ = some (.int .i64 r) := b1
    have cq : (w1.drewN nq).cell? ⟨P, 3 + r, none⟩ = some (.int .i64 (s.cur.regs r)) := creg
    have fq : (w1.drewN nq).frozen? ⟨P, 3 + r, none⟩ = false := freg
    have HMQ := Lib.hid (HM.out.drewN nq)
    have HBQ := Lib.hid (hbb1.drewN nq)
    clear HM hbb1 hB1 hk1 hs1 hlt b0 b1 cv creg freg HC HE
    generalize w1.drewN nq = w2 at *
    go_still_tail 7, (by kernel_rfl)
    change wpList _ _ _ _ _ w2.drew
    go_wp2_with fail
    go_end0
    obtain ⟨g1, g2⟩ := mac_setR HMQ.out hr256 u
    exact ⟨rfl, g1.drewN 1, (HBQ.out.trans g2).drewN 1⟩
  | none =>
    have HS : Hid (reckS s x rd = trapS s 1) := Lib.hid (by unfold reckS; rw [hev])
    have HE := Lib.hid (fun n => eval_none x.op rd g cap (w1.drewN n) HOP.out HL.out HC.out hev)
    rw [HS.out]
    clear hev
    go_enter Try.func69, Try.ntmps69
    go_wp2_with fail
    rw [← hw1]
    clear hw1
    go_quiet ((go_at_call 78; exact Calls.quiet_of (HE.out _)))
    go_wp2_with fail
    refine (trap_any K P m _ s rd 1 (HM.out.drewN nq)).mono ?_
    rintro e w' ⟨rfl, h1, h2⟩
    go_wp2_with fail
    go_end0
    exact ⟨rfl, h1, (hbb1.drewN nq).trans h2⟩
end Go.Proofs.Ytoidhjmhakajlaa
