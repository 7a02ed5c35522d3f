/- The machine lays its registers aside, and reckons. -/
import Derived.Test.YtoidhjmhakajlaaMacC
namespace Go.Proofs.Ytoidhjmhakajlaa
open Go.ChangeShapes Go.WideShapes Go.RowKit Go.Deep
set_option linter.unusedVariables false

/-- 'append', where its run is known by an equation. -/
theorem wpList_append_run {P : Program} (w : World) {ops : Array Oper} {rest : List Oper} {o : Oper} {a : Act} {Q : Exit → Act → World → Prop} (hgd : o.guard = none) (d s : Operand) (t t' : TypeId)
    (ho : o.op = .call { callee := .builtin .append, args := #[d, s], argTypes := #[t, t'] }) (v u : Value) (hd : a.eval d = v) (hs : a.eval s = u) {v' : Value} {w' : World}
    (hr : (Builtin.append_ #[t, t'] o.type #[v, u]).run P w = .ok v' w') (h : wpList P ops Q rest (a.put o.dst v') w') : wpList P ops Q (o :: rest) a w :=
  wpList_plain hgd fun _ hK => by
    unfold Oper.wp execOp
    simp only [ho, resolve, invoke, builtin, Sem.run_bind, Sem.run_pure, Result.andThen_ok, List.map_toArray, List.map_cons, List.map_nil, hd, hs, hr]
    exact hK _ _ h
theorem Env.fun_ {K P : Nat} {w : World} {m : List FunD} {q : MV} (h : Env K P w m q) {k : Nat} (hk : k < m.length) :
    ∃ b o c f, q.vf = .slice (some ⟨b, o, none⟩) m.length c ∧ Hid (m[k]? = some f) ∧ RFunB (Old K P) w b (o + k * 4) f := by
  obtain ⟨⟨A, c, e, h1⟩, _⟩ := h
  obtain ⟨b, o, f, rfl, hf, hr⟩ := h1.at_ hk
  exact ⟨b, o, c, f, e, hf, hr⟩
theorem Env.ah {K P : Nat} {w : World} {m : List FunD} {q : MV} (h : Env K P w m q) {k : Nat} (hk : k < m.length) :
    ∃ b o c f, q.va = .slice (some ⟨b, o, none⟩) m.length c ∧ Hid (m[k]? = some f) ∧ RAhB (Old K P) w b (o + k) f := by
  obtain ⟨_, A, c, e, h1⟩ := h
  obtain ⟨b, o, f, rfl, hf, hr⟩ := h1.at_ hk
  rw [Nat.mul_one] at hr
  exact ⟨b, o, c, f, e, hf, hr⟩
theorem getD_of {α : Type} [Inhabited α] {l : List α} {k : Nat} {x : α} (h : l[k]? = some x) : l.getD k default = x := by rw [List.getD_eq_getElem?_getD, h]; rfl

set_option maxRecDepth 100000 in
/-- 'slices.Clone' of the machine's first registers. -/
theorem clone_any (P n : Nat) (w : World) (xs : List Int) (hl : xs.length = n) (hn : n ≤ 256) (hx : ∀ (j : Nat) (x : Int), xs[j]? = some x → w.cell? ⟨P, 3 + j, none⟩ = some (.int .i64 x)) (cap : Nat) :
    Calls Try.prog 77 #[.slice (some ⟨P, 3, none⟩) n cap] w fun e w' => (∃ v, e = .returned v ∧ w'.ownsRow w.heap.size 2 1 v n (xs.map (Value.int .i64))) ∧ Below w.heap.size w w' := by
  obtain ⟨i64, p1, p2, p3, p4⟩ := info_parts Try.info2
  have hown : (w.alloc (.cells #[] 2)).ownsRow w.heap.size 2 1 (.slice (some ⟨w.heap.size, 0, none⟩) 0 0) 0 [] :=
    ⟨rfl, .inr ⟨w.heap.size, 0, #[], rfl, Nat.le_refl _, heap_alloc_new w _, Nat.le_refl _, Nat.zero_le _, rfl, rfl⟩⟩
  obtain ⟨v', w', hr, h2, h3, _, h5⟩ := run_append_own_at (P := Try.prog) (w.alloc (.cells #[] 2)) w.heap.size 25 25 2 i64 (.int .i64 0) 1 8 Try.underlying25 p1 p2 p3 p4 rfl (by decide) _ 0 [] hown ⟨P, 3, none⟩ n cap
    (xs.map (Value.int .i64)) (by rw [List.length_map, hl, Nat.mul_one]) (fun j u hu => by
      rw [List.getElem?_map] at hu
      obtain ⟨x, hx1, rfl⟩ := Option.map_eq_some_iff.1 hu
      rw [add_plain']
      exact kept_alloc w _ _ _ (hx j x hx1)) (ones xs) (by unfold maxLen; omega) (by omega) (by simp)
  rw [Nat.zero_add, List.nil_append] at h2
  have hB : Below w.heap.size w w' := by
    have h6 : Below w.heap.size w (w.alloc (.cells #[] 2)) := (Below.refl _ _).alloc (Nat.le_refl _) _
    exact h6.grown h3 (by simp) (fun k hk => by have := Option.some.inj (show some w.heap.size = some k from hk); omega)
  have heq := Lib.run_eql_slice_nil (P := Try.prog) w 25 2 (some ⟨P, 3, none⟩) n cap 0 0 Try.underlying25
  have HF := Lib.hid (And.intro h2 hB)
  clear h2 h3 h5 hB hown p1 p2 p3 p4 hx
  go_enter Try.func77, Try.ntmps77
  go_wp2_with (first | (at_builtin; refine wpList_append_run _ rfl (.tmp 5) (.tmp 6) 25 25 rfl _ _ rfl rfl hr ?_) | simp only [heq, Option.isNone])
  go_ret
  exact ⟨⟨v', rfl, HF.out.1⟩, HF.out.2⟩

/-- The registers as a caller keeps them. -/
def ToldV (w : World) (regs : Nat → Int) (e : Ending) (w' : World) : Prop :=
  (∃ A c l, e = .returned (.slice A l.length c) ∧ SL w' 1 (RWB (fun b => w.heap.size ≤ b)) A c l ∧ l.length ≤ 256 ∧ ∀ i, regs i = l.getD i 0) ∧ Below w.heap.size w w'
theorem sl_of_own {w : World} {base : Nat} {e : TypeId} {v : Value} {xs : List Int} {n : Nat} (h : w.ownsRow base e 1 v n (xs.map (Value.int .i64))) (hn : xs.length = n) : ∃ A c, v = .slice A xs.length c ∧ SL w 1 (RWB (fun b => base ≤ b)) A c xs := by
  subst hn
  rcases h.2 with ⟨rfl, h0⟩ | ⟨g, c, cur, rfl, hb, hh, hn, hc, hsz, ht⟩
  · have : xs = [] := List.length_eq_zero_iff.1 h0
    subst this
    exact ⟨none, 0, rfl, Nat.le_refl _, ⟨by unfold maxLen; omega, fun _ => rfl⟩, fun hp => absurd hp (by simp)⟩
  · refine ⟨some ⟨g, 0, none⟩, c, rfl, hn, ⟨hc, fun e => by cases e⟩, fun _ => ⟨g, 0, rfl, fun i x hi => ⟨hb, ?_⟩⟩⟩
    have := h.cells (g := g) rfl i (.int .i64 x) (by rw [List.getElem?_map, hi]; rfl)
    rw [Nat.mul_one]
    rwa [add_plain'] at this

set_option maxRecDepth 100000 in
set_option maxHeartbeats 4000000 in
theorem aside_any (K P : Nat) (m : List FunD) (w : World) (s : St) (rd : List Int) (f : FunD) (h : Mac K P m w s rd) (hf : m[s.cur.fn]? = some f) (hr : f.regs.length ≤ 256) (hz : ∀ i, f.regs.length ≤ i → s.cur.regs i = 0) :
    Calls Try.prog 68 #[.pointer (some ⟨P, 0, none⟩)] w (ToldV w s.cur.regs) := by
  obtain ⟨q, hb, he, hd, hP, hK⟩ := h
  obtain ⟨b, o, c, f', hvf, hf', ⟨-, ⟨-, -⟩, -, ⟨Ar, cr, hreg, -⟩, -⟩⟩ := he.fun_ (List.getElem?_eq_some_iff.1 hf).1
  obtain rfl : f = f' := Option.some.inj (hf.symm.trans hf'.out)
  have hk1 : (s.cur.fn : Int) < m.length := by have := (List.getElem?_eq_some_iff.1 hf).1; omega
  have hk0 : (0 : Int) ≤ s.cur.fn := by omega
  have c0 : w.cell? ⟨P, 0, none⟩ = some (.int .i64 s.cur.fn) := hb.cell (by omega)
  have cf : w.cell? ⟨P, 260, none⟩ = some q.vf := hb.cell (by omega)
  rw [hvf] at cf
  have HB := Lib.hid hb
  have HZ := Lib.hid hz
  have HR := Lib.hid hr
  clear hvf hf' hf hb he hd hz
  go_enter Try.func68, Try.ntmps68
  go_wp2_with fail
  go_quiet (fail)
  go_wp2_with fail
  clear c0 cf hreg
  go_loopw [3] (fun i wr => ∃ n k : Nat, n ≤ f.regs.length ∧ i = .int .i64 n ∧ Hid (∀ i, n ≤ i → s.cur.regs i = 0) ∧ wr = w.drewN k) (fun i _ => (intOf i).toNat)
  case atStart => exact ⟨_, _, Nat.le_refl _, rfl, HZ, rfl⟩
  case round =>
    obtain ⟨n, k, hn, rfl, hzn, rfl⟩ := hrel
    have HBk := Lib.hid (show MacB P (w.drewN k) s q from HB.out)
    have HQ := Lib.hid (fun (hw : ∀ i, n ≤ i → s.cur.regs i = 0) => clone_any P n (w.drewN k) ((List.range n).map s.cur.regs) (by simp) (by have := HR.out; omega) (fun j x hx => by
      rw [List.getElem?_map] at hx
      obtain ⟨y, hy, rfl⟩ := Option.map_eq_some_iff.1 hx
      obtain ⟨hyl, rfl⟩ := List.getElem?_eq_some_iff.1 hy
      rw [List.length_range] at hyl
      rw [HBk.out.reg (by have := HR.out; omega)]; simp) 256)
    have HE : Hid (∀ v w', (∃ v', (Ending.returned v) = .returned v' ∧ w'.ownsRow (w.drewN k).heap.size 2 1 v' n (((List.range n).map s.cur.regs).map (Value.int .i64))) ∧ Below (w.drewN k).heap.size (w.drewN k) w' → ToldV w s.cur.regs (.returned v) w') := Lib.hid (fun v w' h => by
      obtain ⟨⟨v', e, h1⟩, h2⟩ := h
      cases e
      obtain ⟨A, c, e, h3⟩ := sl_of_own h1 (by simp)
      subst e
      refine ⟨⟨A, c, _, rfl, h3, by have := HR.out; simp; omega, fun i => ?_⟩, (below_drewN (Below.refl _ _) k).trans h2⟩
      by_cases hi : i < n
      · rw [List.getD_eq_getElem?_getD, List.getElem?_map, List.getElem?_range hi]; rfl
      · rw [List.getD_eq_getElem?_getD, List.getElem?_eq_none (by simp; omega)]; exact hzn.out i (by omega))
    have hr256 := HR.out
    by_cases h0 : n = 0
    · subst h0
      go_wp2_with fail
      refine (HQ.out hzn.out).mono ?_
      rintro e w1 h1
      obtain ⟨⟨v', rfl, h2⟩, h3⟩ := h1
      have h4 := HE.out _ _ ⟨⟨v', rfl, h2⟩, h3⟩
      go_wp2_with fail
      go_ret
      exact h4
    · obtain ⟨n', rfl⟩ : ∃ n', n = n' + 1 := ⟨n - 1, by omega⟩
      have creg : (w.drewN k).cell? ⟨P, 3 + n', none⟩ = some (.int .i64 (s.cur.regs n')) := HBk.out.reg (by omega)
      have hn1 : (n' : Int) < 256 := by omega
      have hn0 : (0 : Int) ≤ n' := by omega
      by_cases hv : s.cur.regs n' = 0
      · rw [hv] at creg
        go_wp2_with fail
        go_roundw
        case rel => exact ⟨n', k, by omega, by go_num, Lib.hid (fun i hi => by
          by_cases h : i = n'
          · subst h; exact hv
          · exact hzn.out i (by omega)), rfl⟩
        case measure => simp [intOf]
      · have hvb : (s.cur.regs n' == 0) = false := by simp [hv]
        have hn2 : ((n' + 1 : Nat) : Int) ≤ 256 := by omega
        have hn4 : (n' : Int) + 1 ≤ 256 := by omega
        have hn5 : (0 : Int) ≤ (n' : Int) + 1 := by omega
        have hn6 : n' + 1 ≤ 256 := by omega
        go_wp2_with fail
        refine (HQ.out hzn.out).mono ?_
        rintro e w1 h1
        obtain ⟨⟨v', rfl, h2⟩, h3⟩ := h1
        have h4 := HE.out _ _ ⟨⟨v', rfl, h2⟩, h3⟩
        go_wp2_with fail
        go_ret
        exact h4
end Go.Proofs.Ytoidhjmhakajlaa

/- The machine reckons; a caller goes on; a function gives back. -/
namespace Go.Proofs.Ytoidhjmhakajlaa
open Go.ChangeShapes Go.WideShapes Go.RowKit Go.Deep
set_option linter.unusedVariables false

theorem len_one {l : List Int} (h : l.length = 1) : ∃ a, l = [a] := by
  match l, h with
  | [a], _ => exact ⟨a, rfl⟩
theorem len_two {l : List Int} (h : l.length = 2) : ∃ a b, l = [a, b] := by
  match l, h with
  | [a, b], _ => exact ⟨a, b, rfl⟩
theorem eval_some (op : Int) (l : List Int) (v : Int) (g cap : Nat) (w : World) (hop : 2 ≤ op ∧ op ≤ 14) (hl : (l.length : Int) = opArity op) (hc : ∀ (j : Nat) (x : Int), l[j]? = some x → w.cell? ⟨g, j, none⟩ = some (.int .i64 x)) (he : evalV op l = some v) :
    Calls Try.prog 78 #[.int .i64 op, .slice (some ⟨g, 0, none⟩) l.length cap] w fun e w' => e = .returned (.tuple #[.int .i64 v, .nilIface]) ∧ Drawn w w' := by
  unfold evalV at he
  by_cases h1 : op = 2 ∨ op = 14
  · rw [if_pos h1] at he
    obtain rfl := Option.some.inj he
    have : l.length = 1 := by unfold opArity at hl; rw [if_pos h1] at hl; omega
    obtain ⟨a, rfl⟩ := len_one this
    exact (eval_one op a g 0 cap w h1 (hc 0 a rfl)).mono fun e w' h => ⟨h.1, 0, h.2.symm⟩
  · rw [if_neg h1] at he
    have : l.length = 2 := by unfold opArity at hl; rw [if_neg h1, if_pos (by omega)] at hl; omega
    obtain ⟨a, b, rfl⟩ := len_two this
    by_cases h2 : op = 11 ∧ ([a, b] : List Int).getD 1 0 = 0
    · rw [if_pos h2] at he; cases he
    · rw [if_neg h2] at he
      obtain rfl := Option.some.inj he
      refine eval_two op a b g 0 cap w (by omega) (by omega) (fun h => ?_) (hc 0 a rfl) (hc 1 b rfl)
      rw [beq_eq_false_iff_ne]
      exact fun hb => h2 ⟨h, hb⟩
theorem eval_none (op : Int) (l : List Int) (g cap : Nat) (w : World) (hop : 2 ≤ op ∧ op ≤ 14) (hl : (l.length : Int) = opArity op) (hc : ∀ (j : Nat) (x : Int), l[j]? = some x → w.cell? ⟨g, j, none⟩ = some (.int .i64 x)) (he : evalV op l = none) :
    Calls Try.prog 78 #[.int .i64 op, .slice (some ⟨g, 0, none⟩) l.length cap] w fun e w' => e = .returned (.tuple #[.int .i64 0, .iface 63 (.int .i64 7)]) ∧ Drawn w w' := by
  unfold evalV at he
  by_cases h1 : op = 2 ∨ op = 14
  · rw [if_pos h1] at he; cases he
  · rw [if_neg h1] at he
    have : l.length = 2 := by unfold opArity at hl; rw [if_neg h1, if_pos (by omega)] at hl; omega
    obtain ⟨a, b, rfl⟩ := len_two this
    by_cases h2 : op = 11 ∧ ([a, b] : List Int).getD 1 0 = 0
    · obtain ⟨rfl, hb⟩ := h2
      obtain rfl : b = 0 := hb
      exact (eval_div0 g 0 cap w (hc 1 0 rfl)).mono fun e w' h => ⟨h.1, 0, h.2.symm⟩
    · rw [if_neg h2] at he; cases he

/-- What was read last, as it lies. -/
theorem Dyn.read {K : Nat} {w : World} {s : St} {q : MV} {rd : List Int} (h : Dyn K w s q rd) (hn : 0 < rd.length) : ∃ g cap, q.vr = .slice (some ⟨g, 0, none⟩) rd.length cap ∧ ∀ (j : Nat) (x : Int), rd[j]? = some x → w.cell? ⟨g, j, none⟩ = some (.int .i64 x) := by
  have h1 := h.rdv
  rcases h1.2 with ⟨_, h0⟩ | ⟨g, c, cur, e, _⟩
  · omega
  · rw [e] at h1
    refine ⟨g, c, e, fun j x hx => ?_⟩
    have := h1.cells (g := g) rfl j (.int .i64 x) (by rw [List.getElem?_map, hx]; rfl)
    rwa [add_plain', Nat.zero_add] at this

def reckS (s : St) (x : InsD) (rd : List Int) : St := match evalV x.op rd with
  | some v => setR s x.dst v
  | none => trapS s 1

/-- A register is set, by its number. -/
theorem mac_setR {K P : Nat} {m : List FunD} {w : World} {s : St} {rd : List Int} (h : Mac K P m w s rd) {r : Nat} (hr : r < 256) (v : Int) : Mac K P m (w.setCell ⟨P, 3 + r, none⟩ (.int .i64 v)) (setR s r v) rd ∧ BB K P w (w.setCell ⟨P, 3 + r, none⟩ (.int .i64 v)) := by
  obtain ⟨q, hb, he, hd, hP, hK⟩ := h
  have hb1 : MacB P (w.setCell ⟨P, 3 + r, none⟩ (.int .i64 v)) (setR s r v) q := hb.set (set_reg s q r v hr (by simp))
  exact ⟨mac_of hb1 he hd hP hK (by simp [World.setCell]) (fun k hk hne => set_others k hk hne) rfl rfl rfl, (BB.refl K P w).setCell (p := ⟨P, 3 + r, none⟩) (.inl rfl) _⟩

set_option maxRecDepth 100000 in
set_option maxHeartbeats 4000000 in
theorem reckon_any (K P : Nat) (m : List FunD) (w : World) (s : St) (rd : List Int) (x : InsD) (v : Value) (h : Mac K P m w s rd) (hv : VIns w v x) (hop : 2 ≤ x.op ∧ x.op ≤ 14) (hl : (rd.length : Int) = opArity x.op) (hdst : InR 256 x.dst) :
    Calls Try.prog 69 #[.pointer (some ⟨P, 0, none⟩), v] w (ToldM K P m w (reckS s x rd) rd) := by
  obtain ⟨Ax, cx, rfl, -, -⟩ := hv
  obtain ⟨r, hr⟩ : ∃ r : Nat, x.dst = r := ⟨x.dst.toNat, by have := hdst.1; omega⟩
  have hr256 : r < 256 := by have := hdst.2; omega
  have hr0 : (0 : Int) ≤ r := by omega
  have hr1 : (r : Int) < 256 := by omega
  have hpos : 0 < rd.length := by unfold opArity at hl; split at hl <;> first | omega | (split at hl <;> omega)
  obtain ⟨w1, hw1, hs1, hk1, hB1, hc1, hf1⟩ := named w #[.int .i64 x.op, .int .i64 x.dst, .slice Ax x.args.length cx, .int .i64 x.imm, .int .i64 x.fn] 41
  have hm1 := h.below hB1
  have hbb1 : BB K P w w1 := by obtain ⟨q, _, _, _, _, hK⟩ := h; exact BB.of_below hB1 hK
  have b0 : w1.cell? ⟨w.heap.size, 0, none⟩ = some (.int .i64 x.op) := hc1 0 _ rfl
  have b1 : w1.cell? ⟨w.heap.size, 1, none⟩ = some (.int .i64 x.dst) := hc1 1 _ rfl
  rw [hr] at b1
  have HR := Lib.hid hr
  have HM := Lib.hid hm1
  obtain ⟨q, hb, he, hd, hP, hK⟩ := hm1
  obtain ⟨g, cap, hvr, hcells⟩ := hd.read hpos
  have cv : w1.cell? ⟨P, 262, none⟩ = some (.slice (some ⟨g, 0, none⟩) rd.length cap) := (hb.cell (by omega)).trans (congrArg some hvr)
  have creg : w1.cell? ⟨P, 3 + r, none⟩ = some (.int .i64 (s.cur.regs r)) := hb.reg hr256
  have freg := hb.free (3 + r)
  have HC := Lib.hid hcells
  have HOP := Lib.hid hop
  have HL := Lib.hid hl
  have hlt : w.heap.size < w1.heap.size := by omega
  clear hb he hd hvr hcells hc1 hf1 hop hl hpos hdst h hr
  cases hev : evalV x.op rd with
  | some u =>
    have HS : Hid (reckS s x rd = setR s r u) := Lib.hid (by unfold reckS; rw [hev, ← HR.out])
    have HE := Lib.hid (fun n => eval_some x.op rd u g cap (w1.drewN n) HOP.out HL.out HC.out hev)
    rw [HS.out]
    clear hev
    go_enter Try.func69, Try.ntmps69
    go_wp2_with fail
    rw [← hw1]
    clear hw1
    go_quiet ((go_at_call 78; exact Calls.quiet_of (HE.out _)))
    go_wp2_with fail
    have b1q : (w1.drewN nq).cell? ⟨w.heap.size, 1, none⟩ = some (.int .i64 r) := b1
    have cq : (w1.drewN nq).cell? ⟨P, 3 + r, none⟩ = some (.int .i64 (s.cur.regs r)) := creg
    have fq : (w1.drewN nq).frozen? ⟨P, 3 + r, none⟩ = false := freg
    have HMQ := Lib.hid (HM.out.drewN nq)
    have HBQ := Lib.hid (hbb1.drewN nq)
    clear HM hbb1 hB1 hk1 hs1 hlt b0 b1 cv creg freg HC HE
    generalize w1.drewN nq = w2 at *
    go_still_tail 7, (by kernel_rfl)
    change wpList _ _ _ _ _ w2.drew
    go_wp2_with fail
    go_end0
    obtain ⟨g1, g2⟩ := mac_setR HMQ.out hr256 u
    exact ⟨rfl, g1.drewN 1, (HBQ.out.trans g2).drewN 1⟩
  | none =>
    have HS : Hid (reckS s x rd = trapS s 1) := Lib.hid (by unfold reckS; rw [hev])
    have HE := Lib.hid (fun n => eval_none x.op rd g cap (w1.drewN n) HOP.out HL.out HC.out hev)
    rw [HS.out]
    clear hev
    go_enter Try.func69, Try.ntmps69
    go_wp2_with fail
    rw [← hw1]
    clear hw1
    go_quiet ((go_at_call 78; exact Calls.quiet_of (HE.out _)))
    go_wp2_with fail
    refine (trap_any K P m _ s rd 1 (HM.out.drewN nq)).mono ?_
    rintro e w' ⟨rfl, h1, h2⟩
    go_wp2_with fail
    go_end0
    exact ⟨rfl, h1, (hbb1.drewN nq).trans h2⟩
end Go.Proofs.Ytoidhjmhakajlaa
