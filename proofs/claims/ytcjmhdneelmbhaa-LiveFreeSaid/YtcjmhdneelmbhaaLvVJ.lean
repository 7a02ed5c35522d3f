/- The program's wantsOf. -/
import Derived.Test.YtcjmhdneelmbhaaLvCJ
import Derived.Test.YtcjmhdneelmbhaaAheadJ
import Derived.BigQuiet
namespace Go.Proofs.Ytcjmhdneelmbhaa
open Go.ChangeShapes Go.WideShapes Go.RowKit Go.Deep
set_option linter.unusedVariables false

structure LvOk (f : FunD) : Prop where
  nb : f.blocks.length ≤ 64
  nr : f.regs.length ≤ 256
  use : ∀ (i : Nat) (k : BlkD), f.blocks[i]? = some k → UseOk f.regs.length k
  phi : ∀ (i : Nat) (k : BlkD), f.blocks[i]? = some k → k.phis.length ≤ 300 ∧ ∀ p ∈ k.phis, p.args.length = (aheadL f.blocks i).length ∧ InR f.regs.length p.dst ∧ ∀ a ∈ p.args, InR f.regs.length a
theorem usA_lt {R : Nat} {ins : List InsD} {i : Nat} {args : List Int} (h : ∀ a ∈ args, InR R a) : ∀ r ∈ usA ins i args, r < R := by
  intro r hr
  unfold usA at hr
  obtain ⟨a, ha, e⟩ := List.mem_map.1 (List.mem_filter.1 hr).1
  have := h a ha
  unfold InR at this
  omega
theorem usK_lt {R : Nat} {k : BlkD} (h : UseOk R k) (i : Nat) : ∀ r ∈ usK k.ins i, r < R := by
  induction i with
  | zero => intro r hr; simp [usK] at hr
  | succ i ih =>
    intro r hr
    cases hx : k.ins[i]? with
    | none =>
      have e : usK k.ins (i + 1) = usK k.ins i ++ [] := by show usK k.ins i ++ (match k.ins[i]? with | some x => _ | none => _) = _; rw [hx]
      rw [e, List.append_nil] at hr; exact ih r hr
    | some x =>
      rw [usK_succ hx] at hr
      rcases List.mem_append.1 hr with hr | hr
      · exact ih r hr
      · exact usA_lt (h.ins x (List.mem_of_getElem? hx)).1 r hr
theorem usB_lt {R : Nat} {k : BlkD} (h : UseOk R k) : ∀ r ∈ usB k, r < R := by
  intro r hr
  unfold usB at hr
  rcases List.mem_append.1 hr with hr | hr
  · exact usK_lt h _ r hr
  · unfold usE at hr
    split at hr
    · rename_i h1
      rw [List.mem_singleton.1 hr]
      rcases h.arg with h2 | h2
      · omega
      · unfold InR at h2; omega
    · cases hr
theorem usB_len {R : Nat} {k : BlkD} (h : UseOk R k) : (usB k).length ≤ 90001 := by
  have h1 := usK_len (fun x hx => (h.ins x hx).2.2) k.ins.length
  have h2 := h.len
  unfold usB
  rw [List.length_append]
  have h3 : (usE k).length ≤ 1 := by unfold usE; split <;> simp
  omega
theorem FewS.atBs {n R : Nat} {ph : Nat → Nat → Bool} {b : Nat} (hb : b < n) (l : List Nat) : ∀ {s : LvS}, FewS n R s → (∀ r ∈ l, r < R) → FewS n R (atBs ph s b l) := by
  induction l with
  | nil => intro s h _; exact h
  | cons y l ih => intro s h hw; exact ih (h.atB ph hb (hw y (by simp))) (fun x hx => hw x (by simp [hx]))

section
variable {Wa : World} {H Ga n R K : Nat} {W W' : World} {vo : Value} {mk ph : Nat → Nat → Bool} {s : LvS}
theorem WsM.frame (h : WsM Wa H Ga n R K W vo mk ph s) (h1 : W'.os = W.os) (h2 : W'.tape = W.tape) (h3 : W'.output = W.output) (h4 : W.heap.size ≤ W'.heap.size) (hb : ∀ y, y ≤ H + 4 * (n + 1) → W'.heap[y]? = W.heap[y]?) (ho : ∀ g, vo.ownBlock = some g → W'.heap[g]? = W.heap[g]?) : WsM Wa H Ga n R K W' vo mk ph s :=
  ⟨h.hz, h.hk, (hb _ (Nat.le_refl _)).trans h.box, h.g1.of_blocks fun y _ hy => hb y (by omega), h.g2.of_blocks fun y _ hy => hb y (by omega), h.g3.of_blocks fun y _ hy => hb y (by omega), h.g4.of_blocks fun y _ hy => hb y (by omega),
    ownsRow_block h.op ho, h.bel.trans ⟨h1, h2, h3, h4, fun y hy => hb y (by omega)⟩, Nat.le_trans h.kw h4⟩
theorem WsM.row1 (h : WsM Wa H Ga n R K W vo mk ph s) {i : Nat} (hi : i < n) (hf : FrX (fun b => b = H + 1 + i) W W') {m : Nat → Bool} (hr : W'.rowIs (H + 1 + i) 4 R (fun r => .bool (m r))) : WsM Wa H Ga n R K W' vo (fun b r => if b = i then m r else mk b r) ph s := by
  have hP : H + 4 * (n + 1) < W.heap.size := (Array.getElem?_eq_some_iff.1 h.box).1
  have hs : ∀ y, y ≤ H + 4 * (n + 1) → y ≠ H + 1 + i → W'.heap[y]? = W.heap[y]? := fun y h1 h2 => hf.block y (by omega) h2
  have hk := h.hk
  refine ⟨h.hz, h.hk, (hs _ (Nat.le_refl _) (by omega)).trans h.box, ⟨h.g1.row.of_block (hs _ (by omega) (by omega)), fun a ha => ?_⟩, h.g2.of_blocks fun y h1 hy => hs y (by omega) (by omega), h.g3.of_blocks fun y h1 hy => hs y (by omega) (by omega), h.g4.of_blocks fun y h1 hy => hs y (by omega) (by omega),
    ownsRow_block h.op (fun g hg => hf.block g (h.op.lt g hg).2 (fun e => by have := (h.op.lt g hg).1; have e : g = H + 1 + i := e; omega)), h.bel.trans (hf.below (by omega) (fun b hb => by have hb : b = H + 1 + i := hb; omega)), Nat.le_trans h.kw hf.size⟩
  by_cases e : a = i
  · subst e; exact hr.congr fun r _ => by rw [if_pos rfl]
  · exact ((h.g1.cells a ha).of_block (hs _ (by omega) (by omega))).congr fun r _ => by rw [if_neg e]
theorem WsM.set2 (h : WsM Wa H Ga n R K W vo mk ph s) {b : Nat} (r : Nat) (hb : b < n) : WsM Wa H Ga n R K (W.setCell ⟨H + (n + 1) + 1 + b, r, none⟩ (.bool true)) vo mk (setB ph b r) s := by
  have hs : ∀ y, y ≠ H + (n + 1) + 1 + b → (W.setCell ⟨H + (n + 1) + 1 + b, r, none⟩ (.bool true)).heap[y]? = W.heap[y]? := fun y hy => Below.heap_setCell _ _ _ _ hy
  have := h.hk
  exact ⟨h.hz, h.hk, (hs _ (by omega)).trans h.box, h.g1.of_blocks fun y _ hy => hs y (by omega), h.g2.set b r hb, h.g3.of_blocks fun y h1 hy => hs y (by omega), h.g4.of_blocks fun y h1 hy => hs y (by omega),
    ownsRow_block h.op (fun g hg => hs g (by have := (h.op.lt g hg).1; omega)), h.bel.setCell (by show H ≤ H + (n + 1) + 1 + b; omega) _, by have := h.kw; simpa using this⟩
theorem WsM.maps (h : WsM Wa H Ga n R K W vo mk ph s) {mk' ph' : Nat → Nat → Bool} (h1 : ∀ a b, a < n → b < R → mk a b = mk' a b) (h2 : ∀ a b, a < n → b < R → ph a b = ph' a b) : WsM Wa H Ga n R K W vo mk' ph' s :=
  ⟨h.hz, h.hk, h.box, h.g1.congr h1, h.g2.congr h2, h.g3, h.g4, h.op, h.bel, h.kw⟩
theorem WsM.rek (h : WsM Wa H Ga n R K W (.slice none 0 0) mk ph s) (he : s.op = []) {K' : Nat} (h1 : H + 4 * (n + 1) < K') (h2 : K' ≤ W.heap.size) : WsM Wa H Ga n R K' W (.slice none 0 0) mk ph s :=
  ⟨h.hz, h1, h.box, h.g1, h.g2, h.g3, h.g4, by rw [he]; exact World.ownsRow_nil _ _ _ _, h.bel, h2⟩
end

def s0 : LvS := ⟨fun _ _ => false, fun _ _ => false, []⟩
def mkS (bs : List BlkD) (i b r : Nat) : Bool := decide (b < i) && mkB bs b r
def phS (bs : List BlkD) (i b r : Nat) : Bool := decide (b < i) && phB bs b r
def ToldWs (bs : List BlkD) (R : Nat) (w : World) (e : Ending) (w' : World) : Prop :=
  ∃ Wa H Ga K vo s, e = .returned (.pointer (some ⟨H + 4 * (bs.length + 1), 0, none⟩)) ∧ w.heap.size ≤ H ∧ WsM Wa H Ga bs.length R K w' vo (mkB bs) (phB bs) s ∧ GotS bs s ∧ ToldS bs s ∧ s.op = [] ∧ Below w.heap.size w w'
set_option maxRecDepth 100000 in
set_option maxHeartbeats 16000000 in
theorem wantsOf_any (f : FunD) (v : Value) (w : World) (hv : VFun w v f) (hok : LvOk f) : Calls Try.prog 25 #[v] w (ToldWs f.blocks f.regs.length w) := by
  have hv0 := hv
  obtain ⟨Ar, cr, A, c, rfl, -, hbl, -, -⟩ := hv
  have HBL0 := Lib.hid hbl
  clear hbl
  have HOK := Lib.hid hok
  have hnb := hok.nb
  have hnr := hok.nr
  go_enter Try.func25, Try.ntmps25
  go_upto_region 1 with fail
  obtain ⟨w1, hw1, hs1, hk1, hbel1, hc1, -⟩ := named w #[.int .i64 f.params, .int .i64 f.result, .slice Ar f.regs.length cr, .slice A f.blocks.length c] 43
  rw [← hw1]
  have c0 : w1.cell? ⟨w.heap.size, 0, none⟩ = some (.int .i64 f.params) := hc1 0 _ rfl
  have c1 : w1.cell? ⟨w.heap.size, 1, none⟩ = some (.int .i64 f.result) := hc1 1 _ rfl
  have c2 : w1.cell? ⟨w.heap.size, 2, none⟩ = some (.slice Ar f.regs.length cr) := hc1 2 _ rfl
  have c3 : w1.cell? ⟨w.heap.size, 3, none⟩ = some (.slice A f.blocks.length c) := hc1 3 _ rfl
  obtain ⟨N, hN⟩ : ∃ N, N = w.heap.size := ⟨_, rfl⟩
  have HS1 : Hid (w1.heap.size = N + 1 ∧ N = w.heap.size) := Lib.hid ⟨by rw [hs1, hN], hN⟩
  have HB1 := Lib.hid hbel1
  have hV1 := VFun.keep hk1 hv0
  rw [← hN] at c0 c1 c2 c3 ⊢
  clear hw1 hs1 hk1 hc1 hbel1 hv0 hN hok
  go_quiet (fail)
  have hbd : Below w1.heap.size w1 (w1.drewN nq) := below_drewN (Below.refl _ _) nq
  have hkd := kept_of_below hbd
  have c0 := hkd _ _ c0
  have c1 := hkd _ _ c1
  have c2 := hkd _ _ c2
  have c3 := hkd _ _ c3
  have hVd := VFun.keep hkd hV1
  have HBD := Lib.hid hbd
  have HSD : Hid ((w1.drewN nq).heap.size = N + 1) := Lib.hid (by rw [← HS1.out.1]; rfl)
  clear hbd hkd hV1
  generalize w1.drewN nq = wd at *
  go_wp2_with fail
  refine (ahead_any f _ wd hVd (by omega)).mono ?_
  rintro e Wa ⟨⟨V, Ga, rfl, hGa, hgr⟩, hba⟩
  obtain ⟨H, hH⟩ : ∃ H, H = Wa.heap.size := ⟨_, rfl⟩
  have HAH := Lib.hid (Grid.reads hgr (by omega))
  have HBA : Hid (Below w.heap.size w Wa) := Lib.hid (HB1.out.trans ((HBD.out.trans (hba.mono HBD.out.size)).mono (by have := HS1.out; omega)))
  have HBS := Lib.hid (SBlks.keep (kept_of_below HBA.out) HBL0.out)
  have HVA := Lib.hid (VFun.keep (kept_of_below hba) hVd)
  have HC : Hid (Wa.cell? ⟨N, 0, none⟩ = some (.int .i64 f.params) ∧ Wa.cell? ⟨N, 1, none⟩ = some (.int .i64 f.result) ∧ Wa.cell? ⟨N, 2, none⟩ = some (.slice Ar f.regs.length cr) ∧ Wa.cell? ⟨N, 3, none⟩ = some (.slice A f.blocks.length c)) := Lib.hid ⟨kept_of_below hba _ _ c0, kept_of_below hba _ _ c1, kept_of_below hba _ _ c2, kept_of_below hba _ _ c3⟩
  have HHW : Hid (H = Wa.heap.size ∧ w.heap.size ≤ H ∧ N < H ∧ N = w.heap.size) := Lib.hid ⟨hH, by have := hba.size; have := HSD.out; have := HS1.out; omega, by have := hba.size; have := HSD.out; omega, HS1.out.2⟩
  clear c0 c1 c2 c3 hba hgr hGa hVd hH
  go_wp2_with fail
  refine (truths_any f.blocks.length f.regs.length hnb hnr Wa).mono ?_
  rintro e wt1 ⟨rfl, hg1, hz1, hb1⟩
  have HZ1 := Lib.hid hz1
  have HG1 := Lib.hid hg1
  have HBT1 := Lib.hid hb1
  clear hz1 hg1 hb1
  go_wp2_with fail
  refine (truths_any f.blocks.length f.regs.length hnb hnr wt1).mono ?_
  rintro e wt2 ⟨rfl, hg2, hz2, hb2⟩
  have HZ2 := Lib.hid hz2
  have HG2 := Lib.hid hg2
  have HBT2 := Lib.hid hb2
  clear hz2 hg2 hb2
  go_wp2_with fail
  refine (truths_any f.blocks.length f.regs.length hnb hnr wt2).mono ?_
  rintro e wt3 ⟨rfl, hg3, hz3, hb3⟩
  have HZ3 := Lib.hid hz3
  have HG3 := Lib.hid hg3
  have HBT3 := Lib.hid hb3
  clear hz3 hg3 hb3
  go_wp2_with fail
  refine (truths_any f.blocks.length f.regs.length hnb hnr wt3).mono ?_
  rintro e wt4 ⟨rfl, hg4, hz4, hb4⟩
  have HZ4 := Lib.hid hz4
  have HG4 := Lib.hid hg4
  have HBT4 := Lib.hid hb4
  clear hz4 hg4 hb4
  go_upto_region 3 with fail
  have e1 : Wa.heap.size = H := HHW.out.1.symm
  have e2 : wt1.heap.size = H + (f.blocks.length + 1) := by have := HZ1.out; omega
  have e3 : wt2.heap.size = H + 2 * (f.blocks.length + 1) := by have := HZ2.out; omega
  have e4 : wt3.heap.size = H + 3 * (f.blocks.length + 1) := by have := HZ3.out; omega
  have e5 : wt4.heap.size = H + 4 * (f.blocks.length + 1) := by have := HZ4.out; omega
  rw [e1, e2, e3, e4]
  obtain ⟨W5, hW5⟩ : ∃ W5, W5 = wt4.alloc (.cells #[.slice (some ⟨Ga, 0, none⟩) f.blocks.length f.blocks.length, .slice (some ⟨H, 0, none⟩) f.blocks.length f.blocks.length, .slice (some ⟨H + (f.blocks.length + 1), 0, none⟩) f.blocks.length f.blocks.length, .slice (some ⟨H + 2 * (f.blocks.length + 1), 0, none⟩) f.blocks.length f.blocks.length, .slice (some ⟨H + 3 * (f.blocks.length + 1), 0, none⟩) f.blocks.length f.blocks.length, .slice none 0 0] 83) := ⟨_, rfl⟩
  have hbel5 : Below wt4.heap.size wt4 W5 := by rw [hW5]; exact (Below.refl _ _).alloc (Nat.le_refl _) _
  have hz5 : W5.heap.size = wt4.heap.size + 1 := by rw [hW5]; simp
  have hbx : W5.heap[wt4.heap.size]? = some (.cells #[.slice (some ⟨Ga, 0, none⟩) f.blocks.length f.blocks.length, .slice (some ⟨H, 0, none⟩) f.blocks.length f.blocks.length, .slice (some ⟨H + (f.blocks.length + 1), 0, none⟩) f.blocks.length f.blocks.length, .slice (some ⟨H + 2 * (f.blocks.length + 1), 0, none⟩) f.blocks.length f.blocks.length, .slice (some ⟨H + 3 * (f.blocks.length + 1), 0, none⟩) f.blocks.length f.blocks.length, .slice none 0 0] 83) := by rw [hW5]; exact heap_alloc_new _ _
  have hM : WsM Wa H Ga f.blocks.length f.regs.length (H + 4 * (f.blocks.length + 1) + 1) W5 (.slice none 0 0) (fun _ _ => false) (fun _ _ => false) s0 := by
    have g1 := HG1.out; rw [e1] at g1
    have g2 := HG2.out; rw [e2] at g2
    have g3 := HG3.out; rw [e3] at g3
    have g4 := HG4.out; rw [e4] at g4
    refine ⟨e1, by omega, by rw [← e5]; exact hbx, ?_, ?_, ?_, ?_, World.ownsRow_nil _ _ _ _, ?_, by omega⟩
    · exact g1.of_blocks fun y _ hy => (hbel5.block y (by omega)).trans ((HBT4.out.block y (by omega)).trans ((HBT3.out.block y (by omega)).trans (HBT2.out.block y (by omega))))
    · exact g2.of_blocks fun y _ hy => (hbel5.block y (by omega)).trans ((HBT4.out.block y (by omega)).trans (HBT3.out.block y (by omega)))
    · exact g3.of_blocks fun y _ hy => (hbel5.block y (by omega)).trans (HBT4.out.block y (by omega))
    · exact g4.of_blocks fun y _ hy => hbel5.block y (by omega)
    · have h1 := ((((HBT1.out.trans (HBT2.out.mono (by omega))).trans (HBT3.out.mono (by omega))).trans (HBT4.out.mono (by omega))).trans (hbel5.mono (by omega)))
      rw [e1] at h1; exact h1
  rw [← hW5, e5]
  obtain ⟨P, hP⟩ : ∃ P, P = H + 4 * (f.blocks.length + 1) := ⟨_, rfl⟩
  rw [← hP]
  rw [← hP] at hM
  have HP := Lib.hid hP
  have HM := Lib.hid hM
  have HZ5 : Hid (W5.heap.size = P + 1) := Lib.hid (by rw [hz5, e5, hP])
  clear e1 e2 e3 e4 e5 hW5 hbel5 hz5 hbx hM hP HZ1 HZ2 HZ3 HZ4 HG1 HG2 HG3 HG4 HBT1 HBT2 HBT3 HBT4
  have hmk := run_make_row' (P := Try.prog) 80 34 (.slice none 0 0) 24 Try.underlying80 Try.info34 rfl .i64 .i64 f.blocks.length (by omega) (by omega)
  go_upto_region 4 with fail
  clear hmk
  obtain ⟨UB, hUB⟩ : ∃ UB, UB = W5.heap.size := ⟨_, rfl⟩
  obtain ⟨W6, hW6⟩ : ∃ W6, W6 = W5.alloc (.cells (madeCells #[.slice none 0 0] f.blocks.length) 34) := ⟨_, rfl⟩
  have hbel6 : Below W5.heap.size W5 W6 := by rw [hW6]; exact (Below.refl _ _).alloc (Nat.le_refl _) _
  have HROW : Hid (W6.rowIs UB 34 f.blocks.length (fun _ => .slice none 0 0)) := Lib.hid (by rw [hW6, hUB]; exact World.rowIs_made _ _ _ _)
  have HM6 := Lib.hid (HM.out.below hbel6)
  have HUB : Hid (UB = P + 1 ∧ W6.heap.size = P + 2) := Lib.hid ⟨by rw [hUB, HZ5.out], by rw [hW6]; simp [HZ5.out]⟩
  have HBW6 : Hid (Below Wa.heap.size Wa W6) := Lib.hid (by have h1 := HM6.out.bel; rw [← HM6.out.hz] at h1; exact h1)
  obtain ⟨c0, c1, c2, c3⟩ := HC.out
  have c3 := kept_of_below HBW6.out _ _ c3
  rw [← hUB, ← hW6]
  clear hUB hW6 hbel6 c0 c1 c2 HM
  go_wp2_with fail
  clear c3
  go_loopw [42] (fun s42 wq => ∃ (i : Nat) (Vu : Nat → Value), i ≤ f.blocks.length ∧ s42 = .int .i64 (i : Int) ∧ WsM Wa H Ga f.blocks.length f.regs.length (H + 4 * (f.blocks.length + 1) + 1) wq (.slice none 0 0) (mkS f.blocks i) (phS f.blocks i) s0 ∧ wq.rowIs UB 34 f.blocks.length Vu ∧
    (∀ j k, j < i → f.blocks[j]? = some k → wq.ownsRow (P + 2) 3 1 (Vu j) (usB k).length ((usB k).map fun y : Nat => Value.int .i64 (y : Int)))) (fun s42 _ => f.blocks.length - (intOf s42).toNat)
  case atStart => exact ⟨0, _, Nat.zero_le _, rfl, by have h1 := HM6.out.maps (mk' := mkS f.blocks 0) (ph' := phS f.blocks 0) (fun _ _ _ _ => by simp [mkS]) (fun _ _ _ _ => by simp [phS]); rw [← HP.out]; exact h1, HROW.out, fun j k hj => by omega⟩
  case round =>
    obtain ⟨i, Vu, hi, rfl, hM, hrow, hus⟩ := hrel
    obtain ⟨wL, rfl⟩ : ∃ wL, wL = wr := ⟨_, rfl⟩
    have HML := Lib.hid hM
    have HRL := Lib.hid hrow
    have HUL := Lib.hid hus
    have hbw : Below Wa.heap.size Wa wL := by have h1 := hM.bel; rw [← hM.hz] at h1; exact h1
    have HBW := Lib.hid hbw
    by_cases hil : i < f.blocks.length
    · obtain ⟨bk, ok, k, rfl, hk, ⟨A1, c1, k0', hs1⟩, ⟨A2, c2, k1', hs2⟩, k2', k3', A3, c3, k4', hs3⟩ := HBS.out.at_ hil
      have hkp := kept_of_below hbw
      have k0 := hkp _ _ k0'
      have k1 := hkp _ _ k1'
      have k2 := hkp _ _ k2'.1
      have k3 := hkp _ _ k3'.1
      have k4 := hkp _ _ k4'
      have hi0 : (0 : Int) ≤ i := by omega
      have hi1 : (i : Int) < f.blocks.length := by omega
      have HKK := Lib.hid hk
      have HPS := Lib.hid hs1
      have HVB : Hid (VBlk Wa (.agg #[.slice A1 k.phis.length c1, .slice A2 k.ins.length c2, .int .i64 k.term.kind, .int .i64 k.term.arg, .slice A3 k.term.to.length c3]) k) := Lib.hid ⟨A1, c1, A2, c2, A3, c3, rfl, hs1, hs2, hs3, k2'.2, k3'.2⟩
      obtain ⟨Q, hQ⟩ : ∃ Q, Q = wL.heap.size := ⟨_, rfl⟩
      obtain ⟨wB, hwB⟩ : ∃ wB, wB = wL.alloc (.cells #[.slice A1 k.phis.length c1, .slice A2 k.ins.length c2, .int .i64 k.term.kind, .int .i64 k.term.arg, .slice A3 k.term.to.length c3] 40) := ⟨_, rfl⟩
      have hbQ : wB.heap[Q]? = some (.cells #[.slice A1 k.phis.length c1, .slice A2 k.ins.length c2, .int .i64 k.term.kind, .int .i64 k.term.arg, .slice A3 k.term.to.length c3] 40) := by rw [hwB, hQ]; exact heap_alloc_new _ _
      have hbelB : Below wL.heap.size wL wB := by rw [hwB]; exact (Below.refl _ _).alloc (Nat.le_refl _) _
      have hMB := hM.below hbelB
      have hzP : P + 2 ≤ Q := by have := hrow.lt; have := HUB.out; omega
      have HQ : Hid (Q = wL.heap.size ∧ wB.heap.size = Q + 1 ∧ P + 2 ≤ Q) := Lib.hid ⟨hQ, by rw [hwB, hQ]; simp, hzP⟩
      have hroB := hrow.of_block (hbelB.block UB hrow.lt)
      have HMB := Lib.hid hMB
      have HBQ := Lib.hid hbQ
      have HRB := Lib.hid hroB
      have HUSB : Hid (∀ j k, j < i → f.blocks[j]? = some k → wB.ownsRow (P + 2) 3 1 (Vu j) (usB k).length ((usB k).map fun y : Nat => Value.int .i64 (y : Int))) := Lib.hid (fun j k hj hk => ownsRow_block (HUL.out j k hj hk) (fun g hg => hbelB.block g ((HUL.out j k hj hk).lt g hg).2))
      obtain ⟨-, p1, -⟩ := hMB.cells HP.out.symm
      have g1r := hMB.g1.row.cell hil
      have q0 := cell_of_block hbQ 0
      have q1 := cell_of_block hbQ 1
      have q2 := cell_of_block hbQ 2
      have q3 := cell_of_block hbQ 3
      have q4 := cell_of_block hbQ 4
      go_upto_region 7 with fail
      rw [← hwB, ← hQ]
      clear hM hrow hus hbw hkp k0 k1 k2 k3 k4 k0' k1' k2' k3' k4' hs1 hs2 hs3 hk hwB hQ hbQ hbelB hMB hroB
      have hGMz : Wa.heap.size ≤ H + 1 + i ∧ H + 1 + i < P ∧ UB = P + 1 := by have := HMB.out.hz; have := HP.out; have := HUB.out; omega
      have HGM := Lib.hid hGMz
      have hS : ∀ w', FrX (fun b => b = H + 1 + i) wB w' → w'.cell? ⟨Q, 0, none⟩ = some (.slice A1 k.phis.length c1) ∧ w'.cell? ⟨Q, 1, none⟩ = some (.slice A2 k.ins.length c2) ∧ w'.cell? ⟨Q, 2, none⟩ = some (.int .i64 k.term.kind) ∧ w'.cell? ⟨Q, 3, none⟩ = some (.int .i64 k.term.arg) ∧ w'.cell? ⟨Q, 4, none⟩ = some (.slice A3 k.term.to.length c3) ∧ w'.cell? ⟨P, 1, none⟩ = some (.slice (some ⟨H, 0, none⟩) f.blocks.length f.blocks.length) ∧ w'.cell? ⟨H, i, none⟩ = some (.slice (some ⟨H + 1 + i, 0, none⟩) f.regs.length f.regs.length) := fun w' hf => by
        have hq : w'.heap[Q]? = wB.heap[Q]? := hf.block Q (by have := HQ.out; omega) (by have := HQ.out; have := HGM.out; show ¬ Q = H + 1 + i; omega)
        have hp : w'.heap[P]? = wB.heap[P]? := hf.block P (by have := HQ.out; omega) (by have := HGM.out; show ¬ P = H + 1 + i; omega)
        have hh : w'.heap[H]? = wB.heap[H]? := hf.block H (by have := HQ.out; have := HGM.out; omega) (by show ¬ H = H + 1 + i; omega)
        exact ⟨(World.cell?_of_block (a := ⟨Q, 0, none⟩) hq).trans q0, (World.cell?_of_block (a := ⟨Q, 1, none⟩) hq).trans q1, (World.cell?_of_block (a := ⟨Q, 2, none⟩) hq).trans q2, (World.cell?_of_block (a := ⟨Q, 3, none⟩) hq).trans q3, (World.cell?_of_block (a := ⟨Q, 4, none⟩) hq).trans q4, (World.cell?_of_block (a := ⟨P, 1, none⟩) hp).trans p1, (World.cell?_of_block (a := ⟨H, i, none⟩) hh).trans g1r⟩
      have hS0 := hS wB.drew (FrX.refl _ _).drew
      clear q0 q1 q2 q3 q4 p1 g1r hGMz
      refine wp_region_last (L := 12) (S := fun w' : World => w'.cell? ⟨Q, 0, none⟩ = some (.slice A1 k.phis.length c1) ∧ w'.cell? ⟨Q, 1, none⟩ = some (.slice A2 k.ins.length c2) ∧ w'.cell? ⟨Q, 2, none⟩ = some (.int .i64 k.term.kind) ∧ w'.cell? ⟨Q, 3, none⟩ = some (.int .i64 k.term.arg) ∧ w'.cell? ⟨Q, 4, none⟩ = some (.slice A3 k.term.to.length c3) ∧ w'.cell? ⟨P, 1, none⟩ = some (.slice (some ⟨H, 0, none⟩) f.blocks.length f.blocks.length) ∧ w'.cell? ⟨H, i, none⟩ = some (.slice (some ⟨H + 1 + i, 0, none⟩) f.regs.length f.regs.length)) (by kernel_rfl) (by rfl) (by kernel_rfl) (by kernel_rfl) ?_
      change wpAnyH _ _ _ _ _ _ _ _ (World.drew _)
      refine takeH (i := 0) (some 47) (v := ?_) rfl (by kernel_rfl) (by kernel_rfl) (by kernel_rfl) (fun _ _ _ h => h) hS0 (fun o ho => ?_) ?_
      rotate_left
      · simp only [List.getElem?_toArray, List.getElem?_cons_zero, Option.some.injEq] at ho; subst ho; refine Or.inl ⟨by rfl, fun w' hSw => ?_⟩; (try dsimp only at hSw); go_simp; try with_reducible rfl
      simp only [Act.put, List.setIfInBounds_toArray, List.set_cons_zero, List.set_cons_succ]
      refine takeH (i := 1) (some 48) (v := ?_) rfl (by kernel_rfl) (by kernel_rfl) (by kernel_rfl) (fun _ _ _ h => h) hS0 (fun o ho => ?_) ?_
      rotate_left
      · simp only [List.getElem?_toArray, List.getElem?_cons_zero, List.getElem?_cons_succ, Option.some.injEq] at ho; subst ho; refine Or.inl ⟨by rfl, fun w' hSw => ?_⟩; (try dsimp only at hSw); go_simp; try with_reducible rfl
      simp only [Act.put, List.setIfInBounds_toArray, List.set_cons_zero, List.set_cons_succ]
      refine takeH (i := 2) (some 49) (v := ?_) rfl (by kernel_rfl) (by kernel_rfl) (by kernel_rfl) (fun _ _ _ h => h) hS0 (fun o ho => ?_) ?_
      rotate_left
      · simp only [List.getElem?_toArray, List.getElem?_cons_zero, List.getElem?_cons_succ, Option.some.injEq] at ho; subst ho; refine Or.inl ⟨by rfl, fun w' hSw => ?_⟩; (try dsimp only at hSw); go_simp; try with_reducible rfl
      simp only [Act.put, List.setIfInBounds_toArray, List.set_cons_zero, List.set_cons_succ]
      refine takeH (i := 3) (some 50) (v := ?_) rfl (by kernel_rfl) (by kernel_rfl) (by kernel_rfl) (fun _ _ _ h => h) hS0 (fun o ho => ?_) ?_
      rotate_left
      · simp only [List.getElem?_toArray, List.getElem?_cons_zero, List.getElem?_cons_succ, Option.some.injEq] at ho; subst ho; refine Or.inl ⟨by rfl, fun w' hSw => ?_⟩; (try dsimp only at hSw); go_simp; try with_reducible rfl
      simp only [Act.put, List.setIfInBounds_toArray, List.set_cons_zero, List.set_cons_succ]
      refine takeH (i := 4) (some 51) (v := ?_) rfl (by kernel_rfl) (by kernel_rfl) (by kernel_rfl) (fun _ _ _ h => h) hS0 (fun o ho => ?_) ?_
      rotate_left
      · simp only [List.getElem?_toArray, List.getElem?_cons_zero, List.getElem?_cons_succ, Option.some.injEq] at ho; subst ho; refine Or.inl ⟨by rfl, fun w' hSw => ?_⟩; (try dsimp only at hSw); go_simp; try with_reducible rfl
      simp only [Act.put, List.setIfInBounds_toArray, List.set_cons_zero, List.set_cons_succ]
      refine takeH (i := 5) (some 52) (v := ?_) rfl (by kernel_rfl) (by kernel_rfl) (by kernel_rfl) (fun _ _ _ h => h) hS0 (fun o ho => ?_) ?_
      rotate_left
      · simp only [List.getElem?_toArray, List.getElem?_cons_zero, List.getElem?_cons_succ, Option.some.injEq] at ho; subst ho; refine Or.inl ⟨by rfl, fun w' hSw => ?_⟩; (try dsimp only at hSw); go_simp; try with_reducible rfl
      simp only [Act.put, List.setIfInBounds_toArray, List.set_cons_zero, List.set_cons_succ]
      refine takeH (i := 6) (some 53) (v := ?_) rfl (by kernel_rfl) (by kernel_rfl) (by kernel_rfl) (fun _ _ _ h => h) hS0 (fun o ho => ?_) ?_
      rotate_left
      · simp only [List.getElem?_toArray, List.getElem?_cons_zero, List.getElem?_cons_succ, Option.some.injEq] at ho; subst ho; refine Or.inl ⟨by rfl, fun w' hSw => ?_⟩; (try dsimp only at hSw); go_simp; try with_reducible rfl
      simp only [Act.put, List.setIfInBounds_toArray, List.set_cons_zero, List.set_cons_succ]
      refine takeH (i := 7) (some 54) (v := ?_) rfl (by kernel_rfl) (by kernel_rfl) (by kernel_rfl) (fun _ _ _ h => h) hS0 (fun o ho => ?_) ?_
      rotate_left
      · simp only [List.getElem?_toArray, List.getElem?_cons_zero, List.getElem?_cons_succ, Option.some.injEq] at ho; subst ho; refine Or.inl ⟨by rfl, fun w' hSw => ?_⟩; (try dsimp only at hSw); go_simp; try with_reducible rfl
      simp only [Act.put, List.setIfInBounds_toArray, List.set_cons_zero, List.set_cons_succ]
      refine takeH (i := 8) (some 55) (v := ?_) rfl (by kernel_rfl) (by kernel_rfl) (by kernel_rfl) (fun _ _ _ h => h) hS0 (fun o ho => ?_) ?_
      rotate_left
      · simp only [List.getElem?_toArray, List.getElem?_cons_zero, List.getElem?_cons_succ, Option.some.injEq] at ho; subst ho; refine Or.inl ⟨by rfl, fun w' hSw => ?_⟩; (try dsimp only at hSw); go_simp; try with_reducible rfl
      simp only [Act.put, List.setIfInBounds_toArray, List.set_cons_zero, List.set_cons_succ]
      refine takeH (i := 9) (some 56) (v := ?_) rfl (by kernel_rfl) (by kernel_rfl) (by kernel_rfl) (fun _ _ _ h => h) hS0 (fun o ho => ?_) ?_
      rotate_left
      · simp only [List.getElem?_toArray, List.getElem?_cons_zero, List.getElem?_cons_succ, Option.some.injEq] at ho; subst ho; refine Or.inl ⟨by rfl, fun w' hSw => ?_⟩; (try dsimp only at hSw); go_simp; try with_reducible rfl
      simp only [Act.put, List.setIfInBounds_toArray, List.set_cons_zero, List.set_cons_succ]
      refine oneH (i := 10) (by kernel_rfl) (fun o ho K' hK => ?_)
      simp only [List.getElem?_toArray, List.getElem?_cons_zero, List.getElem?_cons_succ, Option.some.injEq] at ho; subst ho
      go_simp
      have hGMr : wB.drew.rowIs (H + 1 + i) 4 f.regs.length (fun _ => .bool false) := (HMB.out.g1.cells i hil).congr fun r _ => by unfold mkS; rw [decide_eq_false (by omega)]; rfl
      have hbwB : Below Wa.heap.size Wa wB := by have h1 := HMB.out.bel; rw [← HMB.out.hz] at h1; exact h1
      refine (usesOf_any Wa wB.drew k _ HVB.out (H + 1 + i) f.regs.length hbwB.drew HGM.out.1 hGMr (HOK.out.use i k HKK.out) hnr).mono ?_
      rintro e w5 ⟨vu, rfl, how, hmr, hfr⟩
      obtain ⟨Av, cv, hvu⟩ := own_sliceL how
      subst hvu
      dsimp only
      have hfr' : FrX (fun b => b = H + 1 + i) wB w5 := ⟨hfr.os, hfr.tape, hfr.output, hfr.size, hfr.block⟩
      have hS5 := hS _ hfr'
      refine hK.out _ _ hS5 ?_
      clear hK K'
      try simp only [Act.put, List.setIfInBounds_toArray, List.set_cons_zero, List.set_cons_succ]
      refine takeH (i := 11) (some 58) (v := ?_) rfl (by kernel_rfl) (by kernel_rfl) (by kernel_rfl) (fun _ _ _ h => h) hS5 (fun o ho => ?_) ?_
      rotate_left
      · simp only [List.getElem?_toArray, List.getElem?_cons_zero, List.getElem?_cons_succ, Option.some.injEq] at ho; subst ho; refine Or.inl ⟨by rfl, fun w' hSw => ?_⟩; (try dsimp only at hSw); go_simp; try with_reducible rfl
      simp only [Act.put, List.setIfInBounds_toArray, List.set_cons_zero, List.set_cons_succ]
      refine wpAnyH_done (by kernel_rfl) ?_ _
      refine lastH (by decide) (fun o ho K' hK => ?_)
      simp only [List.getElem?_toArray, List.getElem?_cons_zero, List.getElem?_cons_succ, Option.some.injEq] at ho; subst ho
      have hrU : w5.rowIs UB 34 f.blocks.length Vu := HRB.out.of_block (hfr'.block UB HRB.out.lt (by have := HGM.out; show ¬ UB = H + 1 + i; omega))
      have xU := hrU.cell hil
      have fU := hrU.frozen i
      go_simp
      refine hK.out _ _ ?_
      clear hK K' hS5 xU fU hS0 hS
      have hM5 := HMB.out.row1 hil hfr' (hmr : w5.rowIs (H + 1 + i) 4 f.regs.length (fun r => .bool (mkI k.ins k.ins.length r)))
      have hsU : ∀ y, y ≠ UB → (w5.setCell ⟨UB, i, none⟩ (.slice Av (usB k).length cv)).heap[y]? = w5.heap[y]? := fun y hy => Below.heap_setCell _ _ _ _ hy
      obtain ⟨W8, hW8⟩ : ∃ W8, W8 = w5.setCell ⟨UB, i, none⟩ (.slice Av (usB k).length cv) := ⟨_, rfl⟩
      have hM8 : WsM Wa H Ga f.blocks.length f.regs.length (H + 4 * (f.blocks.length + 1) + 1) W8 (.slice none 0 0) (mkS f.blocks (i + 1)) (fun b r => phS f.blocks i b r) s0 := by
        have h1 := (hM5.frame (W' := W8) (by rw [hW8]; rfl) (by rw [hW8]; rfl) (by rw [hW8]; rfl) (by rw [hW8]; show _ ≤ (w5.setCell _ _).heap.size; simp) (fun y hy => by rw [hW8]; exact hsU y (by have := HGM.out; have := HP.out; omega)) (fun g hg => by cases hg)).maps (mk' := mkS f.blocks (i + 1)) (ph' := phS f.blocks i) (fun a b ha hb => by
          show (if a = i then mkI k.ins k.ins.length b else mkS f.blocks i a b) = _
          unfold mkS
          by_cases e : a = i
          · subst e; rw [if_pos rfl, decide_eq_true (by omega), mkB_at HKK.out]; rfl
          · rw [if_neg e]
            by_cases e2 : a < i
            · rw [decide_eq_true e2, decide_eq_true (by omega)]
            · rw [decide_eq_false e2, decide_eq_false (by omega)]) (fun _ _ _ _ => rfl)
        exact h1
      have hr8 : W8.rowIs UB 34 f.blocks.length (fun j => if j = i then .slice Av (usB k).length cv else Vu j) := by rw [hW8]; exact (hrU.set i _)
      have hw8 : ∀ j k2, j < i + 1 → f.blocks[j]? = some k2 → W8.ownsRow (P + 2) 3 1 (if j = i then .slice Av (usB k).length cv else Vu j) (usB k2).length ((usB k2).map fun y : Nat => Value.int .i64 (y : Int)) := fun j k2 hj hk2 => by
        have hkeep : ∀ y, P + 2 ≤ y → W8.heap[y]? = w5.heap[y]? := fun y hy => by rw [hW8]; exact hsU y (by have := HGM.out; omega)
        by_cases e : j = i
        · subst e
          rw [HKK.out] at hk2
          cases hk2
          rw [if_pos rfl]
          have h1 : w5.ownsRow (P + 2) 3 1 (.slice Av (usB k).length cv) (usB k).length ((usB k).map fun y : Nat => Value.int .i64 (y : Int)) := owns_mono_ how (by show P + 2 ≤ wB.heap.size; have := HQ.out; omega)
          exact ownsRow_block h1 (fun g hg => hkeep g (h1.lt g hg).1)
        · rw [if_neg e]
          have h1 := HUSB.out j k2 (by omega) hk2
          exact ownsRow_block h1 (fun g hg => (hkeep g (h1.lt g hg).1).trans (hfr'.block g (h1.lt g hg).2 (by have := (h1.lt g hg).1; have := HGM.out; show ¬ g = H + 1 + i; omega)))
      have hbQ8 : W8.heap[Q]? = some (.cells #[.slice A1 k.phis.length c1, .slice A2 k.ins.length c2, .int .i64 k.term.kind, .int .i64 k.term.arg, .slice A3 k.term.to.length c3] 40) := by
        rw [hW8]
        exact (hsU Q (by have := HGM.out; have := HQ.out; omega)).trans ((hfr'.block Q (by have := HQ.out; omega) (by have := HQ.out; have := HGM.out; show ¬ Q = H + 1 + i; omega)).trans HBQ.out)
      have HM8 := Lib.hid hM8
      have HR8 := Lib.hid hr8
      have HW8 := Lib.hid hw8
      have x0 := cell_of_block hbQ8 0
      have HPH := Lib.hid (HOK.out.phi i k HKK.out)
      have hpl : k.phis.length ≤ 300 := HPH.out.1
      rw [← hW8]
      clear hW8 hM8 hr8 hw8 hbQ8 hM5 hsU hrU how hmr hfr hfr' hGMr hbwB
      go_wp2_with fail
      clear x0
      go_loopw [62] (fun s62 wq => ∃ j : Nat, j ≤ k.phis.length ∧ s62 = .int .i64 (j : Int) ∧ WsM Wa H Ga f.blocks.length f.regs.length (H + 4 * (f.blocks.length + 1) + 1) wq (.slice none 0 0) (mkS f.blocks (i + 1)) (fun b r => phS f.blocks i b r || (decide (b = i) && phI k.phis j r)) s0 ∧ wq.rowIs UB 34 f.blocks.length (fun j => if j = i then .slice Av (usB k).length cv else Vu j) ∧
        (∀ j k2, j < i + 1 → f.blocks[j]? = some k2 → wq.ownsRow (P + 2) 3 1 (if j = i then .slice Av (usB k).length cv else Vu j) (usB k2).length ((usB k2).map fun y : Nat => Value.int .i64 (y : Int)))) (fun s62 _ => k.phis.length - (intOf s62).toNat)
      case atStart => exact ⟨0, Nat.zero_le _, rfl, HM8.out.maps (fun _ _ _ _ => rfl) (fun _ _ _ _ => by simp [phI]), HR8.out, HW8.out⟩
      case round =>
        obtain ⟨j, hj, rfl, hM, hrow, hus⟩ := hrel
        have HMJ := Lib.hid hM
        have HRJ := Lib.hid hrow
        have HUJ := Lib.hid hus
        by_cases hjl : j < k.phis.length
        · have hbw : Below Wa.heap.size Wa wr := by have h1 := hM.bel; rw [← hM.hz] at h1; exact h1
          obtain ⟨bp, op, p, rfl, hp, hpd, A5, c5, hpa, -⟩ := HPS.out.at_ hjl
          have hkp := kept_of_below hbw
          have d0 := hkp _ _ hpd.1
          have d1 := hkp _ _ hpa
          have hpok := HPH.out.2 p (List.mem_of_getElem? hp.out)
          obtain ⟨d, hde, hdR⟩ : ∃ d : Nat, p.dst = (d : Int) ∧ d < f.regs.length := ⟨p.dst.toNat, by have := hpok.2.1.1; omega, by have := hpok.2.1.1; have := hpok.2.1.2; omega⟩
          clear hpok
          rw [hde] at d0
          have HDE := Lib.hid hde
          have HPP := Lib.hid hp
          have hj0 : (0 : Int) ≤ j := by omega
          have hj1 : (j : Int) < k.phis.length := by omega
          obtain ⟨Q2, hQ2⟩ : ∃ Q2, Q2 = wr.heap.size := ⟨_, rfl⟩
          obtain ⟨wC, hwC⟩ : ∃ wC, wC = wr.alloc (.cells #[.int .i64 (d : Int), .slice A5 p.args.length c5] 76) := ⟨_, rfl⟩
          have hbQ2 : wC.heap[Q2]? = some (.cells #[.int .i64 (d : Int), .slice A5 p.args.length c5] 76) := by rw [hwC, hQ2]; exact heap_alloc_new _ _
          have hbelC : Below wr.heap.size wr wC := by rw [hwC]; exact (Below.refl _ _).alloc (Nat.le_refl _) _
          have hMC := hM.below hbelC
          have hroC := hrow.of_block (hbelC.block UB hrow.lt)
          have HUSC : Hid (∀ j k2, j < i + 1 → f.blocks[j]? = some k2 → wC.ownsRow (P + 2) 3 1 (if j = i then .slice Av (usB k).length cv else Vu j) (usB k2).length ((usB k2).map fun y : Nat => Value.int .i64 (y : Int))) := Lib.hid (fun j k hj hk => ownsRow_block (HUJ.out j k hj hk) (fun g hg => hbelC.block g ((HUJ.out j k hj hk).lt g hg).2))
          obtain ⟨-, -, p2, -⟩ := hMC.cells HP.out.symm
          obtain ⟨G2, hG2⟩ : ∃ G2, G2 = H + (f.blocks.length + 1) := ⟨_, rfl⟩
          obtain ⟨g2a, g2b, g2c⟩ := hMC.g2.at_ hil hdR
          rw [← hG2] at p2 g2a g2b g2c
          have r0 := cell_of_block hbQ2 0
          have HMC := Lib.hid hMC
          have HRC := Lib.hid hroC
          have HG2 := Lib.hid hG2
          go_upto_region 11 with fail
          rw [← hwC, ← hQ2]
          clear hM hrow hus hbw hkp hpd hpa d0 d1 hp hde hQ2 hwC hbQ2 hbelC hMC hroC hG2
          have hS0 : wC.drew.cell? ⟨P, 2, none⟩ = some (.slice (some ⟨G2, 0, none⟩) f.blocks.length f.blocks.length) ∧ wC.drew.cell? ⟨G2, i, none⟩ = some (.slice (some ⟨G2 + 1 + i, 0, none⟩) f.regs.length f.regs.length) ∧ wC.drew.cell? ⟨Q2, 0, none⟩ = some (.int .i64 (d : Int)) := ⟨p2, g2a, r0⟩
          have hcw : wC.drew.cell? ⟨G2 + 1 + i, d, none⟩ = _ := g2b
          have hfw : wC.drew.frozen? ⟨G2 + 1 + i, d, none⟩ = false := g2c
          have hd0 : (0 : Int) ≤ d := by omega
          have hd1 : (d : Int) < f.regs.length := by omega
          clear p2 g2a r0 g2b g2c
          refine wp_region_last (L := 10) (S := fun w' : World => w'.cell? ⟨P, 2, none⟩ = some (.slice (some ⟨G2, 0, none⟩) f.blocks.length f.blocks.length) ∧ w'.cell? ⟨G2, i, none⟩ = some (.slice (some ⟨G2 + 1 + i, 0, none⟩) f.regs.length f.regs.length) ∧ w'.cell? ⟨Q2, 0, none⟩ = some (.int .i64 (d : Int))) (by kernel_rfl) (by rfl) (by kernel_rfl) (by kernel_rfl) ?_
          change wpAnyH _ _ _ _ _ _ _ _ (World.drew _)
          refine takeH (i := 0) (some 66) (v := ?_) rfl (by kernel_rfl) (by kernel_rfl) (by kernel_rfl) (fun _ _ _ h => h) hS0 (fun o ho => ?_) ?_
          rotate_left
          · simp only [List.getElem?_toArray, List.getElem?_cons_zero, Option.some.injEq] at ho; subst ho; refine Or.inl ⟨by rfl, fun w' hSw => ?_⟩; (try dsimp only at hSw); go_simp; try with_reducible rfl
          simp only [Act.put, List.setIfInBounds_toArray, List.set_cons_zero, List.set_cons_succ]
          refine takeH (i := 1) (some 67) (v := ?_) rfl (by kernel_rfl) (by kernel_rfl) (by kernel_rfl) (fun _ _ _ h => h) hS0 (fun o ho => ?_) ?_
          rotate_left
          · simp only [List.getElem?_toArray, List.getElem?_cons_zero, List.getElem?_cons_succ, Option.some.injEq] at ho; subst ho; refine Or.inl ⟨by rfl, fun w' hSw => ?_⟩; (try dsimp only at hSw); go_simp; try with_reducible rfl
          simp only [Act.put, List.setIfInBounds_toArray, List.set_cons_zero, List.set_cons_succ]
          refine takeH (i := 2) (some 68) (v := ?_) rfl (by kernel_rfl) (by kernel_rfl) (by kernel_rfl) (fun _ _ _ h => h) hS0 (fun o ho => ?_) ?_
          rotate_left
          · simp only [List.getElem?_toArray, List.getElem?_cons_zero, List.getElem?_cons_succ, Option.some.injEq] at ho; subst ho; refine Or.inl ⟨by rfl, fun w' hSw => ?_⟩; (try dsimp only at hSw); go_simp; try with_reducible rfl
          simp only [Act.put, List.setIfInBounds_toArray, List.set_cons_zero, List.set_cons_succ]
          refine takeH (i := 3) (some 69) (v := ?_) rfl (by kernel_rfl) (by kernel_rfl) (by kernel_rfl) (fun _ _ _ h => h) hS0 (fun o ho => ?_) ?_
          rotate_left
          · simp only [List.getElem?_toArray, List.getElem?_cons_zero, List.getElem?_cons_succ, Option.some.injEq] at ho; subst ho; refine Or.inl ⟨by rfl, fun w' hSw => ?_⟩; (try dsimp only at hSw); go_simp; try with_reducible rfl
          simp only [Act.put, List.setIfInBounds_toArray, List.set_cons_zero, List.set_cons_succ]
          refine takeH (i := 4) (some 70) (v := ?_) rfl (by kernel_rfl) (by kernel_rfl) (by kernel_rfl) (fun _ _ _ h => h) hS0 (fun o ho => ?_) ?_
          rotate_left
          · simp only [List.getElem?_toArray, List.getElem?_cons_zero, List.getElem?_cons_succ, Option.some.injEq] at ho; subst ho; refine Or.inl ⟨by rfl, fun w' hSw => ?_⟩; (try dsimp only at hSw); go_simp; try with_reducible rfl
          simp only [Act.put, List.setIfInBounds_toArray, List.set_cons_zero, List.set_cons_succ]
          refine takeH (i := 5) (some 71) (v := ?_) rfl (by kernel_rfl) (by kernel_rfl) (by kernel_rfl) (fun _ _ _ h => h) hS0 (fun o ho => ?_) ?_
          rotate_left
          · simp only [List.getElem?_toArray, List.getElem?_cons_zero, List.getElem?_cons_succ, Option.some.injEq] at ho; subst ho; refine Or.inl ⟨by rfl, fun w' hSw => ?_⟩; (try dsimp only at hSw); go_simp; try with_reducible rfl
          simp only [Act.put, List.setIfInBounds_toArray, List.set_cons_zero, List.set_cons_succ]
          refine takeH (i := 6) (some 72) (v := ?_) rfl (by kernel_rfl) (by kernel_rfl) (by kernel_rfl) (fun _ _ _ h => h) hS0 (fun o ho => ?_) ?_
          rotate_left
          · simp only [List.getElem?_toArray, List.getElem?_cons_zero, List.getElem?_cons_succ, Option.some.injEq] at ho; subst ho; refine Or.inl ⟨by rfl, fun w' hSw => ?_⟩; (try dsimp only at hSw); go_simp; try with_reducible rfl
          simp only [Act.put, List.setIfInBounds_toArray, List.set_cons_zero, List.set_cons_succ]
          refine takeH (i := 7) (some 73) (v := ?_) rfl (by kernel_rfl) (by kernel_rfl) (by kernel_rfl) (fun _ _ _ h => h) hS0 (fun o ho => ?_) ?_
          rotate_left
          · simp only [List.getElem?_toArray, List.getElem?_cons_zero, List.getElem?_cons_succ, Option.some.injEq] at ho; subst ho; refine Or.inl ⟨by rfl, fun w' hSw => ?_⟩; (try dsimp only at hSw); go_simp; try with_reducible rfl
          simp only [Act.put, List.setIfInBounds_toArray, List.set_cons_zero, List.set_cons_succ]
          refine takeH (i := 8) (some 74) (v := ?_) rfl (by kernel_rfl) (by kernel_rfl) (by kernel_rfl) (fun _ _ _ h => h) hS0 (fun o ho => ?_) ?_
          rotate_left
          · simp only [List.getElem?_toArray, List.getElem?_cons_zero, List.getElem?_cons_succ, Option.some.injEq] at ho; subst ho; refine Or.inl ⟨by rfl, fun w' hSw => ?_⟩; (try dsimp only at hSw); go_simp; try with_reducible rfl
          simp only [Act.put, List.setIfInBounds_toArray, List.set_cons_zero, List.set_cons_succ]
          refine takeH (i := 9) (some 75) (v := ?_) rfl (by kernel_rfl) (by kernel_rfl) (by kernel_rfl) (fun _ _ _ h => h) hS0 (fun o ho => ?_) ?_
          rotate_left
          · simp only [List.getElem?_toArray, List.getElem?_cons_zero, List.getElem?_cons_succ, Option.some.injEq] at ho; subst ho; refine Or.inl ⟨by rfl, fun w' hSw => ?_⟩; (try dsimp only at hSw); go_simp; try with_reducible rfl
          simp only [Act.put, List.setIfInBounds_toArray, List.set_cons_zero, List.set_cons_succ]
          refine wpAnyH_done (by kernel_rfl) ?_ _
          refine lastH (by decide) (fun o ho K' hK => ?_)
          simp only [List.getElem?_toArray, List.getElem?_cons_zero, List.getElem?_cons_succ, Option.some.injEq] at ho; subst ho
          go_simp
          refine hK.out _ _ ?_
          clear hK K' hS0 hcw hfw
          obtain ⟨W9, hW9⟩ : ∃ W9, W9 = (wC.setCell ⟨G2 + 1 + i, d, none⟩ (.bool true)).drew := ⟨_, rfl⟩
          have hs9 : ∀ y, y ≠ G2 + 1 + i → W9.heap[y]? = wC.heap[y]? := fun y hy => by rw [hW9]; exact Below.heap_setCell _ _ _ _ hy
          have HM9 : Hid (WsM Wa H Ga f.blocks.length f.regs.length (H + 4 * (f.blocks.length + 1) + 1) W9 (.slice none 0 0) (mkS f.blocks (i + 1)) (fun b r => phS f.blocks i b r || (decide (b = i) && phI k.phis (j + 1) r)) s0) := Lib.hid (by
            have h1 := (HMC.out.set2 d hil).below (Below.refl _ _).drew
            rw [← HG2.out, ← hW9] at h1
            refine h1.maps (fun _ _ _ _ => rfl) fun a b ha hb => ?_
            unfold setB
            rw [phI_succ HPP.out, HDE.out]
            by_cases e : a = i ∧ b = d
            · obtain ⟨rfl, rfl⟩ := e
              rw [if_pos ⟨rfl, rfl⟩]; simp
            · rw [if_neg e]
              by_cases e1 : a = i
              · subst e1
                have : ¬ d = b := fun h => e ⟨rfl, h.symm⟩
                have h3 : ¬ ((d : Int) = (b : Int)) := by omega
                simp [h3]
              · simp [e1])
          have HR9 := Lib.hid (HRC.out.of_block (hs9 UB (by have := HGM.out; have := HUB.out; have := HP.out; have := HG2.out; omega)))
          have HW9 : Hid (∀ j k2, j < i + 1 → f.blocks[j]? = some k2 → W9.ownsRow (P + 2) 3 1 (if j = i then .slice Av (usB k).length cv else Vu j) (usB k2).length ((usB k2).map fun y : Nat => Value.int .i64 (y : Int))) := Lib.hid (fun j k hj hk => ownsRow_block (HUSC.out j k hj hk) (fun g hg => hs9 g (by have := ((HUSC.out j k hj hk).lt g hg).1; have := HP.out; have := HG2.out; omega)))
          rw [← hW9]
          clear hW9 hs9
          go_wp2_with fail
          go_roundw
          case rel => exact ⟨j + 1, by omega, by go_num, HM9.out, HR9.out, HW9.out⟩
          case measure => simp [intOf]; omega
        · obtain rfl : j = k.phis.length := by omega
          have HMN := Lib.hid (HMJ.out.maps (mk' := mkS f.blocks (i + 1)) (ph' := phS f.blocks (i + 1)) (fun _ _ _ _ => rfl) (fun a b ha hb => by
            unfold phS
            by_cases e : a = i
            · subst e; rw [decide_eq_false (by omega), decide_eq_true (rfl : a = a), decide_eq_true (show a < a + 1 by omega), phB_at HKK.out]; simp
            · rw [decide_eq_false e]
              by_cases e2 : a < i
              · rw [decide_eq_true e2, decide_eq_true (by omega)]; simp
              · rw [decide_eq_false e2, decide_eq_false (by omega)]; simp))
          clear hM hrow hus
          go_wp2_with fail
          go_roundw
          case rel => exact ⟨i + 1, _, by omega, by go_num, HMN.out, HRJ.out, HUJ.out⟩
          case measure => simp [intOf]; omega
    · obtain rfl : i = f.blocks.length := by omega
      have hM2 : WsM Wa H Ga f.blocks.length f.regs.length wL.heap.size wL (.slice none 0 0) (mkB f.blocks) (phB f.blocks) (stL f.blocks 0) :=
        (hM.rek rfl (K' := wL.heap.size) (by have := hrow.lt; have := HUB.out; have := HP.out; omega) (Nat.le_refl _)).maps (fun a b ha _ => by unfold mkS; rw [decide_eq_true ha]; rfl) (fun a b ha _ => by unfold phS; rw [decide_eq_true ha]; rfl)
      have HM2 := Lib.hid hM2
      have c3 := kept_of_below hbw _ _ HC.out.2.2.2
      have hfew0 : FewS f.blocks.length f.regs.length (stL f.blocks 0) := ⟨Nat.zero_le _, fun x hx => by cases hx⟩
      have HFEW0 := Lib.hid hfew0
      have HUBL : Hid (UB < wL.heap.size ∧ UB = P + 1) := Lib.hid ⟨hrow.lt, HUB.out.1⟩
      clear hM hrow hus hbw hM2 hfew0
      go_wp2_with fail
      clear c3
      go_loopw [81] (fun s81 wq => ∃ (i : Nat) (v' : Value), i ≤ f.blocks.length ∧ s81 = .int .i64 (i : Int) ∧ WsM Wa H Ga f.blocks.length f.regs.length wL.heap.size wq v' (mkB f.blocks) (phB f.blocks) (stL f.blocks i) ∧ FewS f.blocks.length f.regs.length (stL f.blocks i) ∧ GroS H P wL wq (.slice none 0 0) v') (fun s81 _ => f.blocks.length - (intOf s81).toNat)
      case atStart => exact ⟨0, _, Nat.zero_le _, rfl, HM2.out, HFEW0.out, GroS.refl _ _ _ _⟩
      case round =>
        obtain ⟨i, v', hi2, rfl, hM, hF, hG⟩ := hrel
        obtain ⟨wK, rfl⟩ : ∃ wK, wK = wr := ⟨_, rfl⟩
        have HMK := Lib.hid hM
        have HFK := Lib.hid hF
        have HGK := Lib.hid hG
        by_cases hil2 : i < f.blocks.length
        · have hbw : Below Wa.heap.size Wa wK := by have h1 := hM.bel; rw [← hM.hz] at h1; exact h1
          obtain ⟨bk, ok, k, rfl, hk, ⟨A1, c1, k0', hs1⟩, ⟨A2, c2, k1', hs2⟩, k2', k3', A3, c3, k4', hs3⟩ := HBS.out.at_ hil2
          have hkp := kept_of_below hbw
          have k0 := hkp _ _ k0'
          have k1 := hkp _ _ k1'
          have k2 := hkp _ _ k2'.1
          have k3 := hkp _ _ k3'.1
          have k4 := hkp _ _ k4'
          have hi0 : (0 : Int) ≤ i := by omega
          have hi1 : (i : Int) < f.blocks.length := by omega
          have HKK := Lib.hid hk
          have HPS := Lib.hid hs1
          have huo := HUL.out i k hil2 hk
          obtain ⟨Av, cv, hvu⟩ := own_sliceL huo
          have HVU := Lib.hid hvu
          have HUO : Hid (∀ w' : World, (∀ g, P + 2 ≤ g → g < wL.heap.size → w'.heap[g]? = wL.heap[g]?) → ∀ (j r : Nat), (usB k)[j]? = some r → ∃ g, Av = some ⟨g, 0, none⟩ ∧ w'.cell? ⟨g, j, none⟩ = some (.int .i64 (r : Int))) := Lib.hid (fun w' hw j r hj => by
            have h1 := huo
            rw [hvu] at h1
            have hjl := (List.getElem?_eq_some_iff.1 hj).1
            rcases h1.2 with ⟨h0, _⟩ | ⟨g, cap, cur, hv2, -⟩
            · omega
            · cases hv2
              refine ⟨g, rfl, ?_⟩
              have hl := h1.lt g rfl
              refine (World.cell?_of_block (a := ⟨g, j, none⟩) (hw g hl.1 hl.2)).trans ?_
              rw [h1.cellAt j (by omega), List.getElem?_map, hj]; rfl)
          obtain ⟨lz, hlz⟩ : ∃ lz, (usB k).length = lz := ⟨_, rfl⟩
          have hlz9 : lz ≤ 90001 := by rw [← hlz]; exact usB_len (HOK.out.use i k hk)
          have HLZ := Lib.hid hlz
          have hULT := usB_lt (HOK.out.use i k hk)
          have HULT := Lib.hid hULT
          have hkU : ∀ b, P < b → b < wL.heap.size → wK.heap[b]? = wL.heap[b]? := fun b h1 h2 => hG.block b h2 (by omega) (fun e => by cases e)
          have xU0 : wK.cell? ⟨UB, i, none⟩ = some (.slice Av lz cv) := by
            refine (World.cell?_of_block (a := ⟨UB, i, none⟩) (hkU UB (by have := HUBL.out; omega) HUBL.out.1)).trans ?_
            rw [HRL.out.cell hil2, hvu, hlz]
          obtain ⟨Q, hQ⟩ : ∃ Q, Q = wK.heap.size := ⟨_, rfl⟩
          obtain ⟨wB, hwB⟩ : ∃ wB, wB = wK.alloc (.cells #[.slice A1 k.phis.length c1, .slice A2 k.ins.length c2, .int .i64 k.term.kind, .int .i64 k.term.arg, .slice A3 k.term.to.length c3] 40) := ⟨_, rfl⟩
          have hbQ : wB.heap[Q]? = some (.cells #[.slice A1 k.phis.length c1, .slice A2 k.ins.length c2, .int .i64 k.term.kind, .int .i64 k.term.arg, .slice A3 k.term.to.length c3] 40) := by rw [hwB, hQ]; exact heap_alloc_new _ _
          have hbelB : Below wK.heap.size wK wB := by rw [hwB]; exact (Below.refl _ _).alloc (Nat.le_refl _) _
          have HQ : Hid (Q = wK.heap.size ∧ wB.heap.size = Q + 1 ∧ wL.heap.size ≤ Q ∧ P < Q) := Lib.hid ⟨hQ, by rw [hwB, hQ]; simp, by rw [hQ]; exact hG.size, by have := hG.size; have := HUBL.out; omega⟩
          have xU := (hbelB.cell (p := ⟨UB, i, none⟩) (by show UB < wK.heap.size; have := hG.size; have := HUBL.out; omega)).trans xU0
          have HMB := Lib.hid (hM.below hbelB)
          have HBQ := Lib.hid hbQ
          have HGB := Lib.hid (hG.mono hbelB)
          have HNQ : Hid (v'.ownBlock ≠ some Q) := Lib.hid (fun e => by have := (hM.op.lt Q e).2; have := HQ.out; omega)
          go_upto_region 17 with fail
          rw [← hwB, ← hQ]
          clear hM hF hG hbw hkp k0 k1 k2 k3 k4 k0' k1' k2' k3' k4' hs1 hs2 hs3 hk huo hvu hlz hULT hkU xU0 hQ hwB hbQ hbelB
          go_wp2_with fail
          clear xU
          go_loopw [91] (fun s91 wq => ∃ (j : Nat) (v2 : Value), j ≤ lz ∧ s91 = .int .i64 (j : Int) ∧ WsM Wa H Ga f.blocks.length f.regs.length wL.heap.size wq v2 (mkB f.blocks) (phB f.blocks) (atBs (phB f.blocks) (stL f.blocks i) i ((usB k).take j)) ∧ FewS f.blocks.length f.regs.length (atBs (phB f.blocks) (stL f.blocks i) i ((usB k).take j)) ∧ GroS H P wB wq v' v2) (fun s91 _ => lz - (intOf s91).toNat)
          case atStart => exact ⟨0, v', Nat.zero_le _, rfl, HMB.out, HFK.out, GroS.refl _ _ _ _⟩
          case round =>
            obtain ⟨j, v2, hj, rfl, hM, hF, hG⟩ := hrel
            have HMJ := Lib.hid hM
            have HFJ := Lib.hid hF
            have HGJ := Lib.hid hG
            by_cases hjl : j < lz
            · obtain ⟨r, hr⟩ : ∃ r, (usB k)[j]? = some r := ⟨_, List.getElem?_eq_getElem (by rw [HLZ.out]; exact hjl)⟩
              have hrR := HULT.out r (List.mem_of_getElem? hr)
              obtain ⟨g, rfl, xg⟩ := HUO.out wr (fun g h1 h2 => ((HGB.out.trans hG).block g h2 (by omega) (fun e => by cases e))) j r hr
              have hcl := atBeginning_any Wa H Ga f.blocks.length f.regs.length wL.heap.size wr v2 (mkB f.blocks) (phB f.blocks) _ hM hF hnb hnr i r hil2 hrR
              rw [← HP.out] at hcl
              have HCL := Lib.hid hcl
              have HST := Lib.hid hr
              have HFS := Lib.hid (hF.atB (phB f.blocks) hil2 hrR)
              have hj0 : (0 : Int) ≤ j := by omega
              have hj1 : (j : Int) < lz := by omega
              clear hM hF hG hr hcl
              go_wp2_with (go_at_call 39; refine HCL.out.mono ?_; rintro e w5 ⟨rfl, v3, hM5, hG5⟩)
              rw [← HP.out] at hG5
              go_roundw
              case rel =>
                refine ⟨j + 1, v3, by omega, by go_num, ?_, ?_, HGJ.out.trans hG5⟩
                · rw [take_succ_of HST.out, atBs_snoc]; exact hM5
                · rw [take_succ_of HST.out, atBs_snoc]; exact HFS.out
              case measure => simp [intOf]; omega
            · obtain rfl : j = lz := by omega
              have et : (usB k).take j = usB k := List.take_of_length_le (by rw [HLZ.out]; exact Nat.le_refl _)
              rw [et] at hM hF
              have hbQ2 : wr.heap[Q]? = _ := (hG.block Q (by have := HQ.out; omega) (by have := HQ.out; omega) HNQ.out).trans HBQ.out
              have x0 := cell_of_block hbQ2 0
              have hcl := alongEdges_any f.blocks Wa H Ga f.regs.length wL.heap.size wr v2 (mkB f.blocks) (phB f.blocks) _ hM hF hnb hnr i hil2 HAH.out k.phis A1 c1 HPS.out (by have := (HOK.out.phi i k HKK.out).1; omega) (fun p hp => ⟨((HOK.out.phi i k HKK.out).2 p hp).1, ((HOK.out.phi i k HKK.out).2 p hp).2.2⟩)
              rw [← HP.out] at hcl
              have HCL := Lib.hid hcl
              have HGN := Lib.hid (HGB.out.trans hG)
              have HSS := Lib.hid (stL_succ HKK.out)
              clear hM hF hG hbQ2 hcl et
              go_wp2_with (go_at_call 40; refine HCL.out.mono ?_; rintro e w5 ⟨⟨rfl, v3, hM5, hG5⟩, hF5⟩)
              rw [← HP.out] at hG5
              go_roundw
              case rel => exact ⟨i + 1, v3, by omega, by go_num, by rw [HSS.out]; exact hM5, by rw [HSS.out]; exact hF5, HGN.out.trans hG5⟩
              case measure => simp [intOf]; omega
        · obtain rfl : i = f.blocks.length := by omega
          have hcl := goBack_any f.blocks Wa H Ga f.regs.length wL.heap.size wK v' (stL f.blocks f.blocks.length) hM hF hnb hnr HAH.out (stL_got f.blocks) (stL_told f.blocks _)
          rw [← HP.out] at hcl
          have HCL := Lib.hid hcl
          clear hM hF hG hcl
          go_wp2_with (go_at_call 41; refine HCL.out.mono ?_; rintro e w5 ⟨rfl, v3, s3, hM5, hG5, hgo5, hto5, hop5⟩)
          go_ret
          refine ⟨Wa, H, Ga, wL.heap.size, v3, s3, ?_, HHW.out.2.1, hM5, hgo5, hto5, hop5, ?_⟩
          · rw [← HP.out]; rfl
          · have h1 := hM5.bel
            rw [← hM5.hz] at h1
            exact HBA.out.trans (h1.mono HBA.out.size)
end Go.Proofs.Ytcjmhdneelmbhaa
