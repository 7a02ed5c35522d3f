/- The program's goBack. -/
import Derived.Test.YtdfiflbkamhchaaCaFJ
import Derived.BigQuiet
import Derived.BigRegion
namespace Go.Proofs.Ytdfiflbkamhchaa
open Go.ChangeShapes Go.WideShapes Go.RowKit Go.Deep
set_option linter.unusedVariables false

theorem mem_split_ {l : List Nat} {x : Nat} (h : x ∈ l) : ∃ a b, l = a ++ x :: b := List.append_of_mem h
theorem TsI.nodup {n : Nat} {c : Nat → List Nat} {x : Nat → Nat → Prop} {s : TsS} (H : TsI n c x s) : s.op.Nodup := H.opS.imp (fun {a b} h e => by rw [e] at h; omega)
theorem TsI.first_le {n : Nat} {c : Nat → List Nat} {x : Nat → Nat → Prop} {s : TsS} (H : TsI n c x s) (hn : n ≤ 1000) {f : Nat} (hf : s.come f ≠ 0) : s.first f ≤ topN := by
  by_cases k : f ∈ s.op
  · obtain ⟨g, _, h1, _, h2⟩ := H.fo f k
    have := H.cm f
    have := H.many_le
    unfold topN; omega
  · rw [H.ft f hf k]; exact Nat.le_refl _
theorem TsI.op_lt {n : Nat} {c : Nat → List Nat} {x : Nat → Nat → Prop} {s : TsS} (H : TsI n c x s) : ∀ f ∈ s.op, f < n := fun f hf => H.lt f (H.opI f hf)
/-- What goBack comes to. -/
def ToldB (Wa : World) (H n K L C F P cl : Nat) (c : Nat → List Nat) (s : TsS) (l : List Nat) (e : Ending) (W' : World) : Prop :=
  e = .returned (.tuple #[]) ∧ ∃ lv U T s', TsM Wa H n K L C F P cl W' lv (3 + s'.rings.length) U T s' ∧ TsI n c noX s' ∧ s'.come = s.come ∧ s'.left = s.left ∧ s'.way = l
set_option maxRecDepth 100000 in
set_option maxHeartbeats 8000000 in
theorem goBackC_any {Wa : World} {H n K L C F P cl : Nat} {W : World} {lv : Nat → Value} {U : Nat → Value} {T : Nat → RowD} {s : TsS} {c : Nat → List Nat} {l : List Nat} {f : Nat} (h : TsM Wa H n K L C F P cl W lv (3 + s.rings.length) U T s)
    (hi : TsI n c noX s) (hl : s.way = l ++ [f]) (hlf : s.left f = []) (hn : n ≤ 1000) :
    Calls Try.prog 80 #[.pointer (some ⟨P, 0, none⟩)] W (ToldB Wa H n K L C F P cl c s l) := by
  have hx0 : W.ownsRow K 3 1 (U 0) s.way.length (natV s.way) := by have := h.pool.own 0 (by omega); rw [h.t0] at this; exact this
  have hlen : s.way.length = l.length + 1 := by rw [hl]; simp
  obtain ⟨g, cap, hU0⟩ : ∃ g cap, U 0 = .slice (some ⟨g, 0, none⟩) s.way.length cap := by
    rcases hx0.2 with ⟨_, h0⟩ | ⟨g, c, cur, e, -⟩
    · omega
    · exact ⟨g, c, e⟩
  rw [hU0] at hx0
  have hcap : s.way.length ≤ cap ∧ cap ≤ maxLen := by
    rcases hx0.2 with ⟨h0, _⟩ | ⟨g', c', cur, e, -, -, h1, h2, -⟩
    · cases h0
    · cases e; exact ⟨h1, h2⟩
  have hfw : f ∈ s.way := by rw [hl]; simp
  have hfo := hi.wyI f hfw
  have hfn := hi.op_lt f hfo
  have hwl := hi.wz
  have hml := hi.many_le
  obtain ⟨lo, hlo⟩ : ∃ lo, lo = l.length := ⟨_, rfl⟩
  rw [hlen, ← hlo] at hx0 hU0 hcap
  have hlo1 : lo + 1 ≤ 1000 := by omega
  have hcap1 := hcap.1
  have hcap2 := hcap.2
  have e0 : W.cell? ⟨g, lo, none⟩ = some (.int .i64 (f : Int)) := by
    rw [hx0.cellAt lo (by omega)]
    exact natV_at (by rw [hl, List.getElem?_append_right (by omega), hlo]; simp)
  have hpop : W.ownsRow K 3 1 (.slice (some ⟨g, 0, none⟩) lo cap) lo (natV l) := by
    have h1 := own_take hx0 (k := lo) (by omega)
    have h2 : (natV s.way).take lo = natV l := by unfold natV; rw [← List.map_take, hl, hlo, List.take_left]
    rw [h2] at h1; exact h1
  have hrun : ∀ W, (Instr.slice 34 (.slice (some ⟨g, 0, none⟩) (lo + 1) cap) none (some (.int .i64 (lo : Int))) none).run Try.prog W = .ok (.slice (some ⟨g, 0, none⟩) lo cap) W := fun W => run_hi W g (lo + 1) cap lo (by omega)
  obtain ⟨p0, p1, p2, p3, p4, p5, p6, pf⟩ := h.cells
  have pf3 := pf 3
  rw [hU0] at p3
  have q1 := h.cr.cell hfn
  have q2 := h.fr.cell hfn
  have HM := Lib.hid h
  have HI := Lib.hid hi
  have HL := Lib.hid (And.intro hl (And.intro hlf hlo))
  have HU0 := Lib.hid hU0
  have HPOP := Lib.hid hpop
  have hl0 : (0 : Int) ≤ lo := by omega
  have hl1 : (lo : Int) < (lo : Int) + 1 := by omega
  have hl2 : (lo : Int) ≤ cap := by omega
  have ew : IntKind.i64.wrap (lo : Int) = (lo : Int) := Go.IntWalk.i64_in _ (by omega)
  have hf0 : (0 : Int) ≤ f := by omega
  have hf1 : (f : Int) < n := by omega
  have hne := h.ne
  obtain ⟨n1, n2, n3, n4, n5, n6⟩ := hne
  clear h hi hl hlf hlo hU0 hpop hx0 hcap pf p0 p4 p5 p6 hlen hfw hfo hwl hml
  go_enter Try.func80, Try.ntmps80
  go_upto_region 0 with fail
  go_quiet (fail)
  go_upto_region 1 with fail
  have hdr : Below W.heap.size W (W.drewN nq) := ⟨rfl, rfl, rfl, Nat.le_refl _, fun _ _ => rfl⟩
  have HM1 := Lib.hid (HM.out.below hdr)
  have p3' : (W.drewN nq).cell? ⟨P, 3, none⟩ = some (.slice (some ⟨g, 0, none⟩) (lo + 1) cap) := p3
  have pf3' : (W.drewN nq).frozen? ⟨P, 3, none⟩ = false := pf3
  have HPOP1 : Hid ((W.drewN nq).ownsRow K 3 1 (.slice (some ⟨g, 0, none⟩) lo cap) lo (natV l)) := Lib.hid HPOP.out
  clear p3 pf3 HPOP HM e0 q1 q2 p1 p2 hdr
  generalize W.drewN nq = W1 at *
  go_region
  obtain ⟨W2, hW2⟩ : ∃ W2, (W1.setCell ⟨P, 3, none⟩ (.slice (some ⟨g, 0, none⟩) lo cap)).drew = W2 := ⟨_, rfl⟩
  rw [hW2]
  obtain ⟨U2, T2, hM2⟩ : ∃ U2 T2, TsM Wa H n K L C F P cl W2 lv (3 + s.rings.length) U2 T2 (wayS s l) := by
    have h1 := HM1.out.way (W7 := W1) (v' := .slice (some ⟨g, 0, none⟩) lo cap) (l := l) (by rw [HU0.out]; exact ⟨rfl, rfl, rfl, Nat.le_refl _, fun _ _ _ => rfl, fun y hy => .inl hy⟩) (by show W1.ownsRow K 3 1 _ l.length (natV l); rw [← HL.out.2.2]; exact HPOP1.out)
    have h2 := h1.below (W' := (W1.setCell ⟨P, 3, none⟩ (.slice (some ⟨g, 0, none⟩) lo cap)).drew) ⟨rfl, rfl, rfl, Nat.le_refl _, fun _ _ => rfl⟩
    rw [hW2] at h2
    exact ⟨_, _, h2⟩
  obtain ⟨-, p1, p2, -, -, -, -, -⟩ := hM2.cells
  have q1 : W2.cell? ⟨C, f, none⟩ = some (.int .i64 (s.come f : Int)) := hM2.cr.cell hfn
  have q2 : W2.cell? ⟨F, f, none⟩ = some (.int .i64 (s.first f : Int)) := hM2.fr.cell hfn
  have HM2 := Lib.hid hM2
  clear hM2 hW2 p3' pf3' HM1 HPOP1 HU0
  go_upto_region 2 with fail
  go_quiet (fail)
  have hdr : Below W2.heap.size W2 (W2.drewN nq) := ⟨rfl, rfl, rfl, Nat.le_refl _, fun _ _ => rfl⟩
  have HM3 := Lib.hid (HM2.out.below hdr)
  clear p1 p2 q1 q2 HM2 hdr
  generalize W2.drewN nq = W3 at *
  by_cases hff : s.first f = s.come f
  · have hd : ((s.first f : Int) == (s.come f : Int)) = true := by simp; omega
    obtain ⟨o, p, hop⟩ := mem_split_ (HI.out.wyI f (by rw [HL.out.1]; simp))
    have hfp : f ∉ p := fun hq => by
      have h1 := HI.out.nodup
      rw [hop] at h1
      have h2 := (List.nodup_append.1 h1).2.1
      exact (List.nodup_cons.1 h2).1 hq
    have hszl := HI.out.sz
    have hmle := HI.out.many_le
    have hcl := ringFrom_any (s := wayS s l) (o := o) (p := p) (f := f) HM3.out hop hfp HI.out.op_lt (by show s.op.length ≤ 1000; omega) (by show s.rings.length ≤ 1000; omega) hn hfn
    have hIR := HI.out.ring HL.out.1 hop HL.out.2.1 hff
    have HCL := Lib.hid hcl
    have HIR := Lib.hid hIR
    clear hcl hIR hszl hmle hop hfp HM3
    go_upto_region 4 with (go_at_call 98; refine HCL.out.mono ?_; rintro e W4 ⟨rfl, lv4, U4, T4, hM4⟩)
    obtain ⟨S, hS⟩ : ∃ S, S = ringS (wayS s l) o (f :: p) := ⟨_, rfl⟩
    rw [← hS] at hM4 HIR
    have HSW : Hid (S.way = l ∧ S.come = s.come ∧ S.left = s.left) := Lib.hid (by rw [hS]; exact ⟨rfl, rfl, rfl⟩)
    have hft : S.first f = topN := by rw [hS]; exact if_pos (by simp)
    have HFIN : Hid (∀ l' v, l = l' ++ [v] → TsI n c noX (minS S v (S.first f))) := Lib.hid (fun l' v e => by
      have hvs : S.come v ≠ 0 := HIR.out.opI v (HIR.out.wyI v (by rw [HSW.out.1, e]; simp))
      have h1 : minS S v (S.first f) = S := by
        unfold minS
        rw [hft, Nat.min_eq_left (HIR.out.first_le hn hvs)]
        have h2 : updN S.first v (S.first v) = S.first := by
          funext y
          by_cases e : y = v
          · rw [e, updN_here]
          · rw [updN_else _ _ e]
        rw [h2]
      rw [h1]; exact HIR.out)
    have HEND : Hid (l = [] → TsI n c noX S) := Lib.hid (fun _ => HIR.out)
    clear hS hft HIR HCL
    have hx4 : W4.ownsRow K 3 1 (U4 0) l.length (natV l) := by
      have h1 := hM4.pool.own 0 (by omega)
      rw [hM4.t0, HSW.out.1] at h1
      exact h1
    obtain ⟨-, -, p2, p3, -, -, -, -⟩ := hM4.cells
    have HM4 := Lib.hid hM4
    rcases List.eq_nil_or_concat l with he | ⟨l', v, he⟩
    · obtain ⟨A4, c4, hU4⟩ := own_sliceL hx4
      have hl0' : l.length = 0 := by rw [he]; rfl
      rw [hU4, hl0'] at p3
      have HEN := Lib.hid (HEND.out he)
      clear hx4 hM4 hU4 hl0' p2 he HFIN HEND HL HI
      go_wp2_with fail
      go_end0
      exact ⟨rfl, _, _, _, _, HM4.out, HEN.out, HSW.out.2.1, HSW.out.2.2, HSW.out.1⟩
    · rw [List.concat_eq_append] at he
      have hll : l.length = l'.length + 1 := by rw [he]; simp
      obtain ⟨g4, cap4, hU4⟩ : ∃ g4 cap4, U4 0 = .slice (some ⟨g4, 0, none⟩) l.length cap4 := by
        rcases hx4.2 with ⟨_, h0⟩ | ⟨g, c, cur, e, -⟩
        · omega
        · exact ⟨g, c, e⟩
      obtain ⟨lk, hlk⟩ : ∃ lk, lk = l'.length := ⟨_, rfl⟩
      have HLK := Lib.hid hlk
      rw [hU4, hll, ← hlk] at p3
      have e4 : W4.cell? ⟨g4, lk, none⟩ = some (.int .i64 (v : Int)) := by
        rw [hU4, hll, ← hlk] at hx4
        rw [hx4.cellAt lk (by omega)]
        exact natV_at (by rw [he, List.getElem?_append_right (by omega), hlk]; simp)
      have HVL := Lib.hid (HFIN.out l' v he)
      have hvn : v < n := HVL.out.op_lt v (HVL.out.wyI v (by show v ∈ S.way; rw [HSW.out.1, he]; simp))
      have hlk0 : (0 : Int) ≤ lk := by omega
      have hlk1 : (lk : Int) < (lk : Int) + 1 := by omega
      have hlk2 : (0 : Int) < (lk : Int) + 1 := by omega
      have hlk3 : lk + 1 ≤ 1000 := by have := HL.out.2.2; omega
      have hv0 : (0 : Int) ≤ v := by omega
      have hv1 : (v : Int) < n := by omega
      obtain ⟨fv, hfv⟩ : ∃ fv, fv = S.first v := ⟨_, rfl⟩
      obtain ⟨ff, hff2⟩ : ∃ ff, ff = S.first f := ⟨_, rfl⟩
      have q3 : W4.cell? ⟨F, v, none⟩ = some (.int .i64 (fv : Int)) := by rw [hfv]; exact hM4.fr.cell hvn
      have q4 : W4.cell? ⟨F, f, none⟩ = some (.int .i64 (ff : Int)) := by rw [hff2]; exact hM4.fr.cell hfn
      have q5 := hM4.fr.frozen v
      have HFV := Lib.hid (And.intro hfv hff2)
      clear hx4 hM4 hU4 hll he hlk HFIN HEND HL HI hfv hff2
      go_upto_region 5 with fail
      go_quiet (fail)
      have hdr : Below W4.heap.size W4 (W4.drewN nq) := ⟨rfl, rfl, rfl, Nat.le_refl _, fun _ _ => rfl⟩
      have HM5 := Lib.hid (HM4.out.below hdr)
      have p2' : (W4.drewN nq).cell? ⟨P, 2, none⟩ = some (.slice (some ⟨F, 0, none⟩) n n) := p2
      have q3' : (W4.drewN nq).cell? ⟨F, v, none⟩ = some (.int .i64 (fv : Int)) := q3
      have q4' : (W4.drewN nq).cell? ⟨F, f, none⟩ = some (.int .i64 (ff : Int)) := q4
      have q5' : (W4.drewN nq).frozen? ⟨F, v, none⟩ = false := q5
      clear p2 p3 e4 q3 q4 q5 HM4 hdr
      generalize W4.drewN nq = W5 at *
      go_upto_region 6 with fail
      go_region
      have hres : TsM Wa H n K L C F P cl (W5.setCell ⟨F, v, none⟩ (.int .i64 (min (fv : Int) (ff : Int)))).drew lv4 (3 + S.rings.length) U4 T4 (minS S v (S.first f)) := by
        have h1 := HM5.out.setFirst v (min (S.first v) (S.first f))
        rw [← HFV.out.1, ← HFV.out.2] at h1
        rw [show (min (fv : Int) (ff : Int)) = ((min fv ff : Nat) : Int) by omega]
        have h2 := h1.below (W' := (W5.setCell ⟨F, v, none⟩ (.int .i64 ((min fv ff : Nat) : Int))).drew) ⟨rfl, rfl, rfl, Nat.le_refl _, fun _ _ => rfl⟩
        have h3 : minS S v (S.first f) = { S with first := updN S.first v (min fv ff) } := by unfold minS; rw [← HFV.out.1, ← HFV.out.2]
        rw [h3]; exact h2
      have HRES := Lib.hid hres
      clear hres HM5 p2' q3' q4' q5'
      go_end0
      exact ⟨rfl, _, _, _, _, HRES.out, HVL.out, HSW.out.2.1, HSW.out.2.2, HSW.out.1⟩
  · have hd : ((s.first f : Int) == (s.come f : Int)) = false := by simp; omega
    obtain ⟨S, hS⟩ : ∃ S, S = wayS s l := ⟨_, rfl⟩
    obtain ⟨W4, hW4⟩ : ∃ W4, W4 = W3 := ⟨_, rfl⟩
    have hM4 : TsM Wa H n K L C F P cl W4 lv (3 + S.rings.length) U2 T2 S := by rw [hS, hW4]; exact HM3.out
    have HSW : Hid (S.way = l ∧ S.come = s.come ∧ S.left = s.left) := Lib.hid (by rw [hS]; exact ⟨rfl, rfl, rfl⟩)
    have HFIN : Hid (∀ l' v, l = l' ++ [v] → TsI n c noX (minS S v (S.first f))) := Lib.hid (fun l' v e => by
      have h1 := HI.out.back (l := l') (v := v) (f := f) (by rw [HL.out.1, e]) HL.out.2.1 hff
      rw [hS, e]
      exact h1)
    have HEND : Hid (l = [] → TsI n c noX S) := Lib.hid (fun e => by
      obtain ⟨w, h1, _⟩ := HI.out.ahead HL.out.1 hff
      rw [e] at h1; cases h1)
    obtain ⟨lv4, hlv4⟩ : ∃ lv4, lv4 = lv := ⟨_, rfl⟩
    obtain ⟨U4, hU4⟩ : ∃ U4, U4 = U2 := ⟨_, rfl⟩
    obtain ⟨T4, hT4⟩ : ∃ T4, T4 = T2 := ⟨_, rfl⟩
    rw [← hlv4, ← hU4, ← hT4] at hM4
    clear hS HM3 hlv4 hU4 hT4
    go_upto_region 4 with fail
    rw [← hW4]
    clear hW4
    have hx4 : W4.ownsRow K 3 1 (U4 0) l.length (natV l) := by
      have h1 := hM4.pool.own 0 (by omega)
      rw [hM4.t0, HSW.out.1] at h1
      exact h1
    obtain ⟨-, -, p2, p3, -, -, -, -⟩ := hM4.cells
    have HM4 := Lib.hid hM4
    rcases List.eq_nil_or_concat l with he | ⟨l', v, he⟩
    · obtain ⟨A4, c4, hU4⟩ := own_sliceL hx4
      have hl0' : l.length = 0 := by rw [he]; rfl
      rw [hU4, hl0'] at p3
      have HEN := Lib.hid (HEND.out he)
      clear hx4 hM4 hU4 hl0' p2 he HFIN HEND HL HI
      go_wp2_with fail
      go_end0
      exact ⟨rfl, _, _, _, _, HM4.out, HEN.out, HSW.out.2.1, HSW.out.2.2, HSW.out.1⟩
    · rw [List.concat_eq_append] at he
      have hll : l.length = l'.length + 1 := by rw [he]; simp
      obtain ⟨g4, cap4, hU4⟩ : ∃ g4 cap4, U4 0 = .slice (some ⟨g4, 0, none⟩) l.length cap4 := by
        rcases hx4.2 with ⟨_, h0⟩ | ⟨g, c, cur, e, -⟩
        · omega
        · exact ⟨g, c, e⟩
      obtain ⟨lk, hlk⟩ : ∃ lk, lk = l'.length := ⟨_, rfl⟩
      have HLK := Lib.hid hlk
      rw [hU4, hll, ← hlk] at p3
      have e4 : W4.cell? ⟨g4, lk, none⟩ = some (.int .i64 (v : Int)) := by
        rw [hU4, hll, ← hlk] at hx4
        rw [hx4.cellAt lk (by omega)]
        exact natV_at (by rw [he, List.getElem?_append_right (by omega), hlk]; simp)
      have HVL := Lib.hid (HFIN.out l' v he)
      have hvn : v < n := HVL.out.op_lt v (HVL.out.wyI v (by show v ∈ S.way; rw [HSW.out.1, he]; simp))
      have hlk0 : (0 : Int) ≤ lk := by omega
      have hlk1 : (lk : Int) < (lk : Int) + 1 := by omega
      have hlk2 : (0 : Int) < (lk : Int) + 1 := by omega
      have hlk3 : lk + 1 ≤ 1000 := by have := HL.out.2.2; omega
      have hv0 : (0 : Int) ≤ v := by omega
      have hv1 : (v : Int) < n := by omega
      obtain ⟨fv, hfv⟩ : ∃ fv, fv = S.first v := ⟨_, rfl⟩
      obtain ⟨ff, hff2⟩ : ∃ ff, ff = S.first f := ⟨_, rfl⟩
      have q3 : W4.cell? ⟨F, v, none⟩ = some (.int .i64 (fv : Int)) := by rw [hfv]; exact hM4.fr.cell hvn
      have q4 : W4.cell? ⟨F, f, none⟩ = some (.int .i64 (ff : Int)) := by rw [hff2]; exact hM4.fr.cell hfn
      have q5 := hM4.fr.frozen v
      have HFV := Lib.hid (And.intro hfv hff2)
      clear hx4 hM4 hU4 hll he hlk HFIN HEND HL HI hfv hff2
      go_upto_region 5 with fail
      go_quiet (fail)
      have hdr : Below W4.heap.size W4 (W4.drewN nq) := ⟨rfl, rfl, rfl, Nat.le_refl _, fun _ _ => rfl⟩
      have HM5 := Lib.hid (HM4.out.below hdr)
      have p2' : (W4.drewN nq).cell? ⟨P, 2, none⟩ = some (.slice (some ⟨F, 0, none⟩) n n) := p2
      have q3' : (W4.drewN nq).cell? ⟨F, v, none⟩ = some (.int .i64 (fv : Int)) := q3
      have q4' : (W4.drewN nq).cell? ⟨F, f, none⟩ = some (.int .i64 (ff : Int)) := q4
      have q5' : (W4.drewN nq).frozen? ⟨F, v, none⟩ = false := q5
      clear p2 p3 e4 q3 q4 q5 HM4 hdr
      generalize W4.drewN nq = W5 at *
      go_upto_region 6 with fail
      go_region
      have hres : TsM Wa H n K L C F P cl (W5.setCell ⟨F, v, none⟩ (.int .i64 (min (fv : Int) (ff : Int)))).drew lv4 (3 + S.rings.length) U4 T4 (minS S v (S.first f)) := by
        have h1 := HM5.out.setFirst v (min (S.first v) (S.first f))
        rw [← HFV.out.1, ← HFV.out.2] at h1
        rw [show (min (fv : Int) (ff : Int)) = ((min fv ff : Nat) : Int) by omega]
        have h2 := h1.below (W' := (W5.setCell ⟨F, v, none⟩ (.int .i64 ((min fv ff : Nat) : Int))).drew) ⟨rfl, rfl, rfl, Nat.le_refl _, fun _ _ => rfl⟩
        have h3 : minS S v (S.first f) = { S with first := updN S.first v (min fv ff) } := by unfold minS; rw [← HFV.out.1, ← HFV.out.2]
        rw [h3]; exact h2
      have HRES := Lib.hid hres
      clear hres HM5 p2' q3' q4' q5'
      go_end0
      exact ⟨rfl, _, _, _, _, HRES.out, HVL.out, HSW.out.2.1, HSW.out.2.2, HSW.out.1⟩
end Go.Proofs.Ytdfiflbkamhchaa

/- The program's goOn. -/
namespace Go.Proofs.Ytdfiflbkamhchaa
open Go.ChangeShapes Go.WideShapes Go.RowKit Go.Deep
set_option linter.unusedVariables false

def sumL (left : Nat → List Nat) : Nat → Nat
  | 0 => 0
  | n + 1 => sumL left n + (left n).length
theorem sumL_same {left left' : Nat → List Nat} : ∀ {n : Nat}, (∀ x, x < n → left x = left' x) → sumL left n = sumL left' n
  | 0, _ => rfl
  | n + 1, h => by
    show sumL left n + _ = sumL left' n + _
    rw [sumL_same (fun x hx => h x (by omega)), h n (by omega)]
theorem sumL_drop {left : Nat → List Nat} {f g : Nat} {l : List Nat} (hl : left f = g :: l) : ∀ {n : Nat}, f < n → sumL (updN left f l) n + 1 = sumL left n
  | 0, h => by omega
  | n + 1, h => by
    show sumL (updN left f l) n + (updN left f l n).length + 1 = sumL left n + (left n).length
    by_cases e : n = f
    · subst e
      rw [updN_here, hl, sumL_same (left' := left) (fun x hx => updN_else _ _ (by omega))]
      simp; omega
    · rw [updN_else _ _ e]
      have := sumL_drop hl (n := n) (by omega)
      omega
def msT (n : Nat) (s : TsS) : Nat := 2 * sumL s.left n + s.way.length
theorem run_lo1 (W : World) (b o len cap : Nat) (hk : 1 ≤ len) (hlc : len ≤ cap) : (Instr.slice 34 (.slice (some ⟨b, o, none⟩) len cap) (some (.int .i64 1)) none none).run Try.prog W = .ok (.slice (some ⟨b, if cap = 1 then o else o + 1, none⟩) (len - 1) (cap - 1)) W := by
  rw [run_slice_l W 34 (some ⟨b, o, none⟩) len cap elem_intsC .i64 1 (by omega) (by omega), size_intC]
  by_cases e : cap = 1
  · simp [Result.andThen, sliced, e]
  · simp [Result.andThen, sliced, e, Addr.add]
/-- What is left of a row of calls, and what is left behind its first one. -/
theorem left_cons {Wa : World} {v : Value} {g : Nat} {l : List Nat} (h : VS Wa 1 RInt v (natI (g :: l))) :
    ∃ b o c, v = .slice (some ⟨b, o, none⟩) (l.length + 1) c ∧ Wa.cell? ⟨b, o, none⟩ = some (.int .i64 (g : Int)) ∧ l.length + 1 ≤ c ∧ c ≤ maxLen ∧ VS Wa 1 RInt (.slice (some ⟨b, if c = 1 then o else o + 1, none⟩) l.length (c - 1)) (natI l) := by
  obtain ⟨A, c, rfl, h1, h2, h3⟩ := h
  have hl : (natI (g :: l)).length = l.length + 1 := by rw [natI_len]; rfl
  obtain ⟨b, o, rfl, h4⟩ := h3 (by omega)
  have h5 := h4 0 (g : Int) rfl
  refine ⟨b, o, c, by rw [hl], by have := h5.1; simpa using this, by omega, h2.1, ⟨_, _, by rw [natI_len], by rw [natI_len]; omega, ⟨by omega, fun e => by cases e⟩, fun hp => ⟨b, _, rfl, fun i x hi => ?_⟩⟩⟩
  rw [natI_len] at hp
  rw [if_neg (by omega)]
  have h6 := h4 (i + 1) x hi
  rw [show o + (i + 1) * 1 = o + 1 + i * 1 by omega] at h6
  exact h6

/-- What goOn comes to. -/
def ToldG (Wa : World) (H n K L C F P cl : Nat) (c : Nat → List Nat) (s : TsS) (e : Ending) (W' : World) : Prop :=
  e = .returned (.tuple #[]) ∧ ∃ lv U T s', TsM Wa H n K L C F P cl W' lv (3 + s'.rings.length) U T s' ∧ TsI n c noX s' ∧ s'.way = [] ∧ ∀ x, s.come x ≠ 0 → s'.come x ≠ 0
set_option maxRecDepth 100000 in
set_option maxHeartbeats 8000000 in
theorem goOnC_any {Wa : World} {H n K L C F P cl : Nat} {W : World} {lv : Nat → Value} {U : Nat → Value} {T : Nat → RowD} {s : TsS} {c : Nat → List Nat} (h : TsM Wa H n K L C F P cl W lv (3 + s.rings.length) U T s)
    (hi : TsI n c noX s) (hc : ∀ f g, g ∈ c f → g < n) (hn : n ≤ 1000) :
    Calls Try.prog 51 #[.pointer (some ⟨P, 0, none⟩)] W (ToldG Wa H n K L C F P cl c s) := by
  have HM := Lib.hid h
  have HI := Lib.hid hi
  have HC := Lib.hid hc
  obtain ⟨n1, n2, n3, n4, n5, n6⟩ := h.ne
  have hnl := h.nl
  obtain ⟨hnl1, hnl2⟩ := hnl
  clear h hi hc
  go_enter Try.func51, Try.ntmps51
  go_wp2_with fail
  go_loopg [] (msT n s) (fun gk wq => ∃ (lv' : Nat → Value) (U' : Nat → Value) (T' : Nat → RowD) (s' : TsS), gk = msT n s' ∧ TsM Wa H n K L C F P cl wq lv' (3 + s'.rings.length) U' T' s' ∧ TsI n c noX s' ∧ ∀ x, s.come x ≠ 0 → s'.come x ≠ 0)
  case atStart => exact ⟨lv, U, T, s, rfl, HM.out, HI.out, fun _ h => h⟩
  case round =>
    obtain ⟨lv', U', T', s', hgk, hM, hI, hS⟩ := hrel
    obtain ⟨wL, rfl⟩ : ∃ wL, wL = wr := ⟨_, rfl⟩
    have HMK := Lib.hid hM
    have HIK := Lib.hid hI
    have HSK := Lib.hid hS
    have HGK := Lib.hid hgk
    have hx0 : wL.ownsRow K 3 1 (U' 0) s'.way.length (natV s'.way) := by have := hM.pool.own 0 (by omega); rw [hM.t0] at this; exact this
    obtain ⟨-, -, -, p3, -, -, -, -⟩ := hM.cells
    rcases List.eq_nil_or_concat s'.way with he | ⟨l, f, he⟩
    · obtain ⟨A0, c0, hU0⟩ := own_sliceL hx0
      have hl0 : s'.way.length = 0 := by rw [he]; rfl
      rw [hU0, hl0] at p3
      have HE := Lib.hid he
      clear hM hI hS hgk hx0 hU0 hl0 he
      go_wp2_with fail
      go_end0
      exact ⟨rfl, _, _, _, _, HMK.out, HIK.out, HE.out, HSK.out⟩
    · rw [List.concat_eq_append] at he
      have hll : s'.way.length = l.length + 1 := by rw [he]; simp
      obtain ⟨g, cap, hU0⟩ : ∃ g cap, U' 0 = .slice (some ⟨g, 0, none⟩) s'.way.length cap := by
        rcases hx0.2 with ⟨_, h0⟩ | ⟨g, c, cur, e, -⟩
        · omega
        · exact ⟨g, c, e⟩
      obtain ⟨lk, hlk⟩ : ∃ lk, lk = l.length := ⟨_, rfl⟩
      have hlk1000 : lk + 1 ≤ 1000 := by have := hI.wz; have := hI.many_le; omega
      rw [hU0, hll, ← hlk] at p3
      have e0 : wL.cell? ⟨g, lk, none⟩ = some (.int .i64 (f : Int)) := by
        rw [hU0, hll, ← hlk] at hx0
        rw [hx0.cellAt lk (by omega)]
        exact natV_at (by rw [he, List.getElem?_append_right (by omega), hlk]; simp)
      have hfw : f ∈ s'.way := by rw [he]; simp
      have hfn : f < n := hI.op_lt f (hI.wyI f hfw)
      have HE := Lib.hid (And.intro he hlk)
      have hlk0 : (0 : Int) ≤ lk := by omega
      have hlk1 : (lk : Int) < (lk : Int) + 1 := by omega
      have hlk2 : (0 : Int) < (lk : Int) + 1 := by omega
      have hf0 : (0 : Int) ≤ f := by omega
      have hf1 : (f : Int) < n := by omega
      clear hM hI hS hgk hx0 hU0 he hll hlk
      go_upto_region 1 with fail
      go_quiet (fail)
      have hdr : Below wL.heap.size wL (wL.drewN nq) := ⟨rfl, rfl, rfl, Nat.le_refl _, fun _ _ => rfl⟩
      have HM1 := Lib.hid (HMK.out.below hdr)
      clear p3 e0 HMK hdr
      generalize wL.drewN nq = W1 at *
      obtain ⟨p0, -, -, -, -, -, -, -⟩ := HM1.out.cells
      have r1 := HM1.out.lr.cell (show f < cl by omega)
      have r2 := HM1.out.lr.frozen f
      have hvs := HM1.out.lq f hfn
      rcases hlf : s'.left f with _ | ⟨gx, lx⟩
      · rw [hlf] at hvs
        obtain ⟨Af, cf, hlv, -⟩ := hvs
        rw [hlv] at r1
        have hz0 : (natI ([] : List Nat)).length = 0 := rfl
        rw [hz0] at r1
        have hcl := goBackC_any HM1.out HIK.out HE.out.1 hlf hn
        have HCL := Lib.hid hcl
        have HLF := Lib.hid hlf
        clear hcl hlv hlf hz0
        go_upto_region 3 with fail
        go_wp2_with (go_at_call 80; refine HCL.out.mono ?_; rintro e W4 ⟨rfl, lv4, U4, T4, s4, hM4, hI4, hc4, hl4, hw4⟩)
        have hms : msT n s4 < gk := by
          have h1 := HGK.out
          unfold msT at h1 ⊢
          rw [hl4, hw4, h1, HE.out.1]; simp
        go_roundg (msT n s4)
        case measure => exact hms
        case rel => exact ⟨lv4, U4, T4, s4, rfl, hM4, hI4, fun x hx => by rw [hc4]; exact HSK.out x hx⟩
      · rw [hlf] at hvs
        obtain ⟨b, o, cf, hlv, hcell, hcf1, hcf2, hvs2⟩ := left_cons hvs
        rw [hlv] at r1
        have hbel : Kept Wa W1 := kept_of_below (by have := HM1.out.bel; rw [← HM1.out.hz] at this; exact this)
        have e1 : W1.cell? ⟨b, o, none⟩ = some (.int .i64 (gx : Int)) := hbel _ _ hcell
        have hgc : gx ∈ c f := HIK.out.lfs f gx (by rw [hlf]; simp)
        have hgn : gx < n := HC.out f gx hgc
        have hID := HIK.out.drop hfw hlf
        obtain ⟨ll, hll⟩ : ∃ ll, ll = lx.length := ⟨_, rfl⟩
        obtain ⟨oo, hoo⟩ : ∃ oo, oo = if cf = 1 then o else o + 1 := ⟨_, rfl⟩
        rw [← hll] at r1 hcf1 hvs2
        rw [← hoo] at hvs2
        have hrun : ∀ W, (Instr.slice 34 (.slice (some ⟨b, o, none⟩) (ll + 1) cf) (some (.int .i64 1)) none none).run Try.prog W = .ok (.slice (some ⟨b, oo, none⟩) ll (cf - 1)) W := fun W => by rw [hoo]; exact run_lo1 W b o (ll + 1) cf (by omega) hcf1
        have HVS := Lib.hid hvs2
        have HLF := Lib.hid hlf
        have HID := Lib.hid hID
        have HGC := Lib.hid hgc
        have hg0 : (0 : Int) ≤ gx := by omega
        have hg1 : (gx : Int) < n := by omega
        have hl0 : (0 : Int) < (ll : Int) + 1 := by omega
        have hlz : (((ll : Int) + 1) == 0) = false := by simp; omega
        have hlz2 : ¬ ((ll : Int) + 1 = 0) := by omega
        have hll1 : ll + 1 ≤ 9223372036854775807 := by unfold maxLen at hcf2; omega
        clear hvs hcell hlv hbel hlf hID hoo hgc hvs2 hll
        go_upto_region 5 with fail
        go_region
        obtain ⟨W2, hW2⟩ : ∃ W2, (W1.setCell ⟨L, f, none⟩ (.slice (some ⟨b, oo, none⟩) ll (cf - 1))).drew = W2 := ⟨_, rfl⟩
        rw [hW2]
        have hM2 : TsM Wa H n K L C F P cl W2 (updN lv' f (.slice (some ⟨b, oo, none⟩) ll (cf - 1))) (3 + s'.rings.length) U' T' (dropS s' f lx) := by
          have h1 := HM1.out.setLeft (f := f) HVS.out
          have h2 := h1.below (W' := (W1.setCell ⟨L, f, none⟩ (.slice (some ⟨b, oo, none⟩) ll (cf - 1))).drew) ⟨rfl, rfl, rfl, Nat.le_refl _, fun _ _ => rfl⟩
          rw [hW2] at h2
          exact h2
        have hms0 : msT n s' = 2 * sumL (dropS s' f lx).left n + 2 + s'.way.length := by
          unfold msT
          have := sumL_drop HLF.out hfn
          show 2 * sumL s'.left n + _ = 2 * sumL (updN s'.left f lx) n + 2 + _
          omega
        have HM2 := Lib.hid hM2
        have HMS := Lib.hid hms0
        have q1 : W2.cell? ⟨C, gx, none⟩ = some (.int .i64 (s'.come gx : Int)) := hM2.cr.cell hgn
        obtain ⟨-, p1, p2, -, -, -, -, -⟩ := hM2.cells
        have q2 : W2.cell? ⟨F, gx, none⟩ = some (.int .i64 (s'.first gx : Int)) := hM2.fr.cell hgn
        have q3 : W2.cell? ⟨F, f, none⟩ = some (.int .i64 (s'.first f : Int)) := hM2.fr.cell hfn
        have q4 := hM2.fr.frozen f
        clear hM2 hW2 p0 r1 r2 e1 HM1 hms0
        by_cases hz : s'.come gx = 0
        · have hd : ((s'.come gx : Int) == 0) = true := by rw [hz]; rfl
          rw [hz] at q1
          have hwz := HIK.out.wz
          have hsz := HIK.out.sz
          have hml := HIK.out.many_le
          have hcl := enterT_any HM2.out rfl (by show s'.way.length ≤ 1000; omega) (by show s'.op.length ≤ 1000; omega) (by show s'.many ≤ 1000; omega) hn gx hgn
          have hIE : TsI n c noX (enterS (dropS s' f lx) gx) := HID.out.enter hgn hz (fun a b h => h.2) (fun w hw => by
            have hwf : s'.come w ≤ s'.come f := by
              have h1 := HIK.out.wyS
              rw [HE.out.1] at h1
              have hw' : w ∈ l ++ [f] := by rw [← HE.out.1]; exact hw
              rcases List.mem_append.1 hw' with k | k
              · exact Nat.le_of_lt (last_max h1 w k)
              · rw [List.mem_singleton.1 k]; exact Nat.le_refl _
            exact (HIK.out.wr w hw f (HIK.out.wyI f hfw) hwf).trans (.one HGC.out))
          have HCL := Lib.hid hcl
          have HIE := Lib.hid hIE
          have hms : msT n (enterS (dropS s' f lx) gx) < gk := by
            rw [HGK.out, HMS.out]
            unfold msT
            have h1 : (s'.way ++ [gx]).length = s'.way.length + 1 := by simp
            show 2 * sumL (dropS s' f lx).left n + (s'.way ++ [gx]).length < _
            omega
          have hmono : Hid (∀ x, s.come x ≠ 0 → (enterS (dropS s' f lx) gx).come x ≠ 0) := Lib.hid (fun x hx => by
            show updN s'.come gx (s'.many + 1) x ≠ 0
            by_cases e : x = gx
            · rw [e, updN_here]; omega
            · rw [updN_else _ _ e]; exact HSK.out x hx)
          clear hcl hIE hwz hsz hml hz q2 q3 q4
          go_upto_region 7 with fail
          go_wp2_with (go_at_call 50; refine HCL.out.mono ?_; rintro e W4 ⟨rfl, lv4, U4, T4, hM4⟩)
          go_roundg (msT n (enterS (dropS s' f lx) gx))
          case measure => exact hms
          case rel => exact ⟨lv4, U4, T4, _, rfl, hM4, HIE.out, hmono.out⟩
        · have hd : ((s'.come gx : Int) == 0) = false := by simp; omega
          have hd2 : ¬ ((s'.come gx : Int) = 0) := by omega
          have hIL := HID.out.look HE.out.1 (by unfold topN; omega) hz HGC.out
          have HIL := Lib.hid hIL
          have hms : msT n (minS (dropS s' f lx) f ((dropS s' f lx).first gx)) < gk := by
            rw [HGK.out, HMS.out]
            unfold msT
            show 2 * sumL (dropS s' f lx).left n + s'.way.length < _
            omega
          obtain ⟨ff, hff⟩ : ∃ ff, ff = s'.first f := ⟨_, rfl⟩
          obtain ⟨fg, hfg⟩ : ∃ fg, fg = s'.first gx := ⟨_, rfl⟩
          obtain ⟨cg, hcg⟩ : ∃ cg, cg = s'.come gx := ⟨_, rfl⟩
          rw [← hfg] at q2
          rw [← hff] at q3
          rw [← hcg] at q1 hd hd2
          have HFF := Lib.hid (And.intro hff hfg)
          clear hIL hz hff hfg hcg
          go_upto_region 8 with fail
          go_region
          have hres : TsM Wa H n K L C F P cl (W2.setCell ⟨F, f, none⟩ (.int .i64 (min (ff : Int) (fg : Int)))).drew (updN lv' f (.slice (some ⟨b, oo, none⟩) ll (cf - 1))) (3 + s'.rings.length) U' T' (minS (dropS s' f lx) f ((dropS s' f lx).first gx)) := by
            have h1 := HM2.out.setFirst f (min ff fg)
            rw [show (min (ff : Int) (fg : Int)) = ((min ff fg : Nat) : Int) by omega]
            have h2 := h1.below (W' := (W2.setCell ⟨F, f, none⟩ (.int .i64 ((min ff fg : Nat) : Int))).drew) ⟨rfl, rfl, rfl, Nat.le_refl _, fun _ _ => rfl⟩
            have h3 : minS (dropS s' f lx) f ((dropS s' f lx).first gx) = { dropS s' f lx with first := updN (dropS s' f lx).first f (min ff fg) } := by
              unfold minS
              show _ = { dropS s' f lx with first := updN (dropS s' f lx).first f (min ff fg) }
              rw [HFF.out.1, HFF.out.2]; rfl
            rw [h3]; exact h2
          have HRES := Lib.hid hres
          clear hres HM2 p1 p2 q1 q2 q3 q4
          go_wp2_with fail
          go_roundg (msT n (minS (dropS s' f lx) f ((dropS s' f lx).first gx)))
          case measure => exact hms
          case rel => exact ⟨_, U', T', _, rfl, HRES.out, HIL.out, HSK.out⟩
end Go.Proofs.Ytdfiflbkamhchaa
