/- The walk of GraphSame. -/
import Derived.Test.YtoidhjmhakajlaaGsM
import Derived.Test.YtoidhjmhakajlaaGrIJ
import Derived.Test.YtoidhjmhakajlaaGrJ
import Derived.Test.YtoidhjmhakajlaaSmallJ
import Derived.Test.YtoidhjmhakajlaaInsG
import Derived.Test.YtoidhjmhakajlaaRunMJ
import Derived.Test.YtoidhjmhakajlaaCopyR
import Derived.Deep.RegionHeld
namespace Go.Proofs.Ytoidhjmhakajlaa
open Go.ChangeShapes Go.WideShapes Go.RowKit Go.Deep
set_option linter.unusedVariables false
set_option linter.unusedSimpArgs false

/-- What a run tells, and that there is nothing in it where something is amiss. -/
def ToldZ (m : List FunD) (f : Int) (args : List Int) (steps : Int) (w : World) (e : Ending) (w' : World) : Prop :=
  ∃ s A c err, e = .returned (.tuple #[.agg (outC s (.slice A s.out.length c)), err]) ∧ Below w.heap.size w w' ∧ SL w' 1 RW A c s.out ∧
    ((∃ t x, err = .iface t x) ∧ ¬ (Proper m ∧ mayB m f args steps = true) ∧ s = zeroS ∨ err = .nilIface ∧ Proper m ∧ mayB m f args steps = true ∧ s = runS m f.toNat args steps.toNat)
theorem run_toldZ {m : List FunD} {f : Int} {args : List Int} {steps : Int} {w : World} {e : Ending} {w' : World} (h : ToldRun m f args steps w e w') : ToldZ m f args steps w e w' := by
  obtain ⟨o, err, rfl, hb, ⟨hp, he, rfl⟩ | ⟨hp, hm, rfl, rfl⟩ | ⟨hp, hm, rfl, A, c, rfl, hs⟩⟩ := h
  · exact ⟨zeroS, none, 0, err, rfl, hb, SL.nil, .inl ⟨he.iface hp, fun h => hp h.1, rfl⟩⟩
  · exact ⟨zeroS, none, 0, _, rfl, hb, SL.nil, .inl ⟨⟨_, _, rfl⟩, (fun h => by rw [hm] at h; cases h.2), rfl⟩⟩
  · exact ⟨_, A, c, _, rfl, hb, SL.imp (fun b o x hx => hx.2) hs.sl, .inr ⟨rfl, hp, hm, rfl⟩⟩
theorem yieldsIf_load_out {ops : Array Oper} {S : World → Prop} {op : Oper} {a : Act} {s : St} {A : Option Addr} {c : Nat} (hw : Region.wanted op (yielded ops a.tmps) = true) (x : Operand) (ho : op.op = .load 31 x)
    (g : Nat) (hx : a.eval x = .pointer (some ⟨g, 0, none⟩)) (hS : ∀ w, S w → OutAt w g s A c) : YieldsIf Try.prog ops S op (.agg (outC s (.slice A s.out.length c))) a :=
  .inl ⟨hw, fun w hw' => by
    unfold execOp
    simp only [ho, hx, Sem.run_bind, Sem.run_pure, Result.andThen_ok, (hS w hw').load]⟩

/-! ### A function of the row is written over -/
theorem Rows.at4 {α : Type} {F : α → List Value → Prop} : ∀ {l : List α} {cs : List Value} {k : Nat} {x : α}, Rows 4 F l cs → l[k]? = some x → ∃ c0 c1 c2 c3, F x [c0, c1, c2, c3] ∧ cs[k * 4]? = some c0 ∧ cs[k * 4 + 1]? = some c1 ∧ cs[k * 4 + 2]? = some c2 ∧ cs[k * 4 + 3]? = some c3
  | [], _, _, _, _, h => by simp at h
  | y :: l, cs, k, x, ⟨c, r, e, hl, hy, hr⟩, h => by
    subst e
    match c, hl with
    | [d0, d1, d2, d3], _ =>
      cases k with
      | zero =>
        obtain rfl := Option.some.inj h
        exact ⟨d0, d1, d2, d3, hy, rfl, rfl, rfl, rfl⟩
      | succ k =>
        obtain ⟨c0, c1, c2, c3, h0, h1, h2, h3, h4⟩ := Rows.at4 hr (show l[k]? = some x from h)
        have e : ∀ i, ([d0, d1, d2, d3] ++ r)[(k + 1) * 4 + i]? = r[k * 4 + i]? := fun i => by
          rw [show (k + 1) * 4 + i = (k * 4 + i) + 4 by omega]; rfl
        exact ⟨c0, c1, c2, c3, h0, (e 0).trans h1, (e 1).trans h2, (e 2).trans h3, (e 3).trans h4⟩
theorem Rows.set4 {α : Type} {F : α → List Value → Prop} {x : α} {c0 c1 c2 c3 : Value} (hx : F x [c0, c1, c2, c3]) : ∀ {l : List α} {cs : List Value} {k : Nat}, Rows 4 F l cs → k < l.length → Rows 4 F (l.set k x) ((((cs.set (k * 4) c0).set (k * 4 + 1) c1).set (k * 4 + 2) c2).set (k * 4 + 3) c3)
  | [], _, _, _, h => by simp at h
  | y :: l, cs, k, ⟨c, r, e, hl, hy, hr⟩, h => by
    subst e
    match c, hl with
    | [d0, d1, d2, d3], _ =>
      cases k with
      | zero => exact ⟨[c0, c1, c2, c3], r, rfl, rfl, hx, hr⟩
      | succ k =>
        have ih := Rows.set4 hx hr (show k < l.length by simpa using h)
        refine ⟨[d0, d1, d2, d3], _, ?_, rfl, hy, ih⟩
        rw [show (k + 1) * 4 = k * 4 + 4 by omega]
        rfl
theorem trim_small {m : List FunD} {n : Nat} {f : FunD} (h : SmallM m) (hf : m[n]? = some f) : SmallM (trimM m n f) := by
  refine ⟨by unfold trimM; rw [List.length_set]; exact h.1, fun g hg => ?_⟩
  unfold trimM at hg
  rcases List.mem_or_eq_of_mem_set hg with hg | rfl
  · exact h.2 g hg
  · exact small_trim (h.2 f (List.mem_of_getElem? hf))
/-- The copy's row with one function trimmed. -/
theorem trim_mod {m : List FunD} {k g cu cr7 cb7 : Nat} {fk : FunD} {w4 w5 w7 w8 w9 : World} {cs : List Value} {Ar7 Ab7 : Option Addr} (hown : w5.ownsRow w4.heap.size 39 4 (.slice (some ⟨g, 0, none⟩) m.length cu) m.length cs)
    (hrows : Rows 4 (CFun (fun b => w4.heap.size ≤ b ∧ some b ≠ (Value.slice (some ⟨g, 0, none⟩) m.length cu).ownBlock) w5) m cs) (h58 : Below w5.heap.size w5 w8) (h78 : Below w7.heap.size w7 w8) (hk : k < m.length)
    (hr : SL w7 1 (RIntB (fun b => w5.heap.size ≤ b)) Ar7 cr7 fk.regs) (hb : SL w7 5 (RBlkB (fun b => w5.heap.size ≤ b)) Ab7 cb7 (blksT fk.blocks)) (hp : I64 fk.params) (hs : I64 fk.result)
    (hw : w9 = (((w8.setCell ⟨g, k * 4, none⟩ (.int .i64 fk.params)).setCell ⟨g, k * 4 + 1, none⟩ (.int .i64 fk.result)).setCell ⟨g, k * 4 + 2, none⟩ (.slice Ar7 fk.regs.length cr7)).setCell ⟨g, k * 4 + 3, none⟩ (.slice Ab7 (blksT fk.blocks).length cb7)) :
    VMod w9 (.agg #[.slice (some ⟨g, 0, none⟩) m.length cu]) (trimM m k fk) := by
  have hgl := hown.lt g rfl
  have own8 := cp_owns (w' := w8) hown (fun x hx => h58.block x (hown.lt x hx).2) (Nat.le_refl _)
  have own9 : w9.ownsRow w4.heap.size 39 4 (.slice (some ⟨g, 0, none⟩) m.length cu) m.length ((((cs.set (k * 4) (.int .i64 fk.params)).set (k * 4 + 1) (.int .i64 fk.result)).set (k * 4 + 2) (.slice Ar7 fk.regs.length cr7)).set (k * 4 + 3) (.slice Ab7 (blksT fk.blocks).length cb7)) := by
    rw [hw]
    exact ((((own8.stored (k * 4) (.int .i64 fk.params)).1.stored (k * 4 + 1) (.int .i64 fk.result)).1.stored (k * 4 + 2) (.slice Ar7 fk.regs.length cr7)).1.stored (k * 4 + 3) (.slice Ab7 (blksT fk.blocks).length cb7)).1
  have hblk : ∀ y, y ≠ g → w9.heap[y]? = w8.heap[y]? := fun y hy => by
    rw [hw]
    exact (((Below.heap_setCell _ _ _ _ hy).trans (Below.heap_setCell _ _ _ _ hy)).trans (Below.heap_setCell _ _ _ _ hy)).trans (Below.heap_setCell _ _ _ _ hy)
  have hK5 : KeptB (fun b => w4.heap.size ≤ b ∧ some b ≠ (Value.slice (some ⟨g, 0, none⟩) m.length cu).ownBlock) w5 w9 := fun a x hb ha => by
    refine (World.cell?_of_block ?_).trans ha
    exact (hblk a.block (fun e => hb.2 (by rw [e]; rfl))).trans (h58.block a.block (block_lt_of_cell ha))
  have hK7 : KeptB (fun b => w5.heap.size ≤ b) w7 w9 := fun a x hb ha => by
    refine (World.cell?_of_block ?_).trans ha
    exact (hblk a.block (by omega)).trans (h78.block a.block (block_lt_of_cell ha))
  let F : FunD → List Value → Prop := fun x c => ∃ Ar cr Aq cq, c = [.int .i64 x.params, .int .i64 x.result, .slice Ar x.regs.length cr, .slice Aq x.blocks.length cq] ∧ SL w9 1 RInt Ar cr x.regs ∧ SL w9 5 RBlk Aq cq x.blocks ∧ I64 x.params ∧ I64 x.result
  have hR0 : Rows 4 F m cs := hrows.imp fun x c hx => by
    obtain ⟨Ar, cr, Aq, cq, e, g1, g2, g3, g4⟩ := hx
    exact ⟨Ar, cr, Aq, cq, e, SL.imp (fun b o x hx => RIntB.plain b o x (RIntB.go hK5 (fun _ h => h) b o x hx)) g1, SL.imp (fun b o x hx => RBlkB.plain b o x (RBlkB.go hK5 (fun _ h => h) b o x hx)) g2, g3, g4⟩
  have hnew : F (trimF fk) [.int .i64 fk.params, .int .i64 fk.result, .slice Ar7 fk.regs.length cr7, .slice Ab7 (blksT fk.blocks).length cb7] :=
    ⟨Ar7, cr7, Ab7, cb7, rfl, SL.imp (fun b o x hx => RIntB.plain b o x (RIntB.go hK7 (fun _ h => h) b o x hx)) hr, SL.imp (fun b o x hx => RBlkB.plain b o x (RBlkB.go hK7 (fun _ h => h) b o x hx)) hb, hp, hs⟩
  have hR := Rows.set4 hnew hR0 hk
  have hl : (trimM m k fk).length = m.length := List.length_set
  have hV : VS w9 4 RFun (.slice (some ⟨g, 0, none⟩) m.length cu) (trimM m k fk) := Rows.reads hR (by rw [hl]; exact own9) (fun y o x c h1 h2 hx hl hc => by
    obtain ⟨Ar, cr, Aq, cq, rfl, g1, g2, g3, g4⟩ := hx
    exact ⟨⟨hc 0 _ rfl, g3⟩, ⟨hc 1 _ rfl, g4⟩, ⟨Ar, cr, hc 2 _ rfl, g1⟩, ⟨Aq, cq, hc 3 _ rfl, g2⟩⟩)
  obtain ⟨A, c, e, hs⟩ := hV
  exact ⟨A, c, by rw [e], hs⟩
def fewT (s : Int) : Int := if 1000 < s then s % 1000 else s

set_option maxRecDepth 100000 in
set_option maxHeartbeats 16000000 in
theorem graphSame_walk (m : List FunD) (v : Value) (n f : Int) (args : List Int) (va : Value) (steps : Int) (w : World) (hm : VMod w v m) (hargs : VS w 1 RInt va args) (hn : I64 n) (hf : I64 f) (hst : I64 steps) :
    Calls Try.prog 5 #[v, .int .i64 n, .int .i64 f, va, .int .i64 steps] w fun e w' => e = .returned (.bool true) ∧ Below w.heap.size w w' := by
  have hm0 := hm
  obtain ⟨A, c, rfl, hms⟩ := hm
  obtain ⟨Aa, ca, rfl, ha⟩ := hargs
  have hml := hms.len
  have hal := ha.len
  have HMS := Lib.hid hms
  have HM0 := Lib.hid hm0
  have HA := Lib.hid ha
  have HN := Lib.hid hn
  have HF := Lib.hid hf
  have HST := Lib.hid hst
  clear hms hm0 ha hn hf hst
  go_enter Try.func5, Try.ntmps5
  go_wp2_with fail
  obtain ⟨w1, hw1, hs1, hk1, hB1, hc1, -⟩ := named w #[.slice A m.length c] 24
  rw [← hw1]
  obtain ⟨D, hD⟩ : ∃ D, D = w.heap.size := ⟨_, rfl⟩
  rw [← hD] at hc1 ⊢
  have q0 : w1.cell? ⟨D, 0, none⟩ = some (.slice A m.length c) := hc1 0 _ rfl
  have HD := Lib.hid hD
  clear hw1 hc1 hD
  refine (up5_any w1).mono ?_
  rintro e w2 ⟨rfl, hb2⟩
  have hB2 : Below w.heap.size w w2 := hB1.trans (hb2.mono hB1.size)
  have q0 := kept_of_below hb2 _ _ q0
  go_wp2_with fail
  refine (small_any m _ _ (VMod.keep (kept_of_below hB2) HM0.out)).mono ?_
  rintro e w3 ⟨⟨bs, rfl, hsm⟩, hb3⟩
  have hB3 : Below w.heap.size w w3 := hB2.trans (hb3.mono hB2.size)
  have q0 := kept_of_below hb3 _ _ q0
  have HB3 := Lib.hid hB3
  clear hb2 hb3 hB1 hB2 hB3 hk1 hs1
  cases bs
  · clear hsm
    go_wp2_with fail
    go_ret
    exact ⟨rfl, HB3.out⟩
  have HS := Lib.hid (hsm rfl)
  clear hsm
  by_cases hlen : 20 < args.length
  · have hlen' : (20 : Int) < args.length := by omega
    go_wp2_with fail
    go_ret
    exact ⟨rfl, HB3.out⟩
  have hlen' : ¬ (20 : Int) < args.length := by omega
  clear hlen
  go_wp2_with fail
  refine (module_any ofIns m _ _ (VMod.keep (kept_of_below HB3.out) HM0.out) (lim_of_small HS.out)).mono ?_
  rintro e w4 ⟨⟨ve, rfl, he⟩, hb4⟩
  have HB4 : Hid (Below w.heap.size w w4) := Lib.hid (HB3.out.trans (hb4.mono HB3.out.size))
  have q0 := kept_of_below hb4 _ _ q0
  have HD4 : Hid (D < w4.heap.size) := Lib.hid (block_lt_of_cell q0)
  clear hb4
  by_cases hp : (modE m).1 = 0
  rotate_left
  · obtain ⟨te, xe, rfl⟩ := he.iface hp
    clear he hp
    go_wp2_with fail
    go_ret
    exact ⟨rfl, HB4.out⟩
  obtain rfl := he.nil hp
  have HP : Hid (Proper m) := Lib.hid hp
  clear hp he
  by_cases hn0 : n < 0
  · go_wp2_with fail
    go_ret
    exact ⟨rfl, HB4.out⟩
  by_cases hn1 : (m.length : Int) ≤ n
  · go_wp2_with fail
    go_ret
    exact ⟨rfl, HB4.out⟩
  obtain ⟨k, rfl⟩ : ∃ k : Nat, n = k := ⟨n.toNat, by omega⟩
  have hkl : k < m.length := by omega
  go_wp2_with fail
  refine (copy_row m _ w4 (VMod.keep (kept_of_below HB4.out) HM0.out) HS.out).mono ?_
  rintro e w5 ⟨⟨u, cs, rfl, hown, hrows⟩, hb5⟩
  obtain ⟨fk, hfk⟩ : ∃ fk, m[k]? = some fk := ⟨_, List.getElem?_eq_getElem hkl⟩
  have HFK := Lib.hid hfk
  obtain ⟨g, cu, rfl⟩ : ∃ g cu, u = .slice (some ⟨g, 0, none⟩) m.length cu := by
    rcases hown.2 with ⟨rfl, h0⟩ | ⟨g, cu, cur, rfl, -⟩
    · omega
    · exact ⟨g, cu, rfl⟩
  obtain ⟨c0, c1, c2, c3, hFc, g0, g1, g2, g3⟩ := Rows.at4 hrows hfk
  obtain ⟨Ar, cr, Ab, cb, e, hr, hb, hp64, hr64⟩ := hFc
  simp only [List.cons.injEq, and_true] at e
  obtain ⟨rfl, rfl, rfl, rfl⟩ := e
  have hcell : ∀ i, i < 4 → w5.cell? ⟨g, k * 4 + i, none⟩ = cs[k * 4 + i]? := fun i hi => hown.cellAt (k * 4 + i) (by omega)
  have x0 : w5.cell? ⟨g, k * 4, none⟩ = some _ := (hcell 0 (by omega)).trans g0
  have x1 := (hcell 1 (by omega)).trans g1
  have x2 := (hcell 2 (by omega)).trans g2
  have x3 := (hcell 3 (by omega)).trans g3
  have hgl := (hown.lt g rfl)
  have HVF : Hid (VFun w5 (.agg #[.int .i64 fk.params, .int .i64 fk.result, .slice Ar fk.regs.length cr, .slice Ab fk.blocks.length cb]) fk) := Lib.hid ⟨Ar, cr, Ab, cb, rfl, SL.imp RIntB.plain hr, SL.imp RBlkB.plain hb, hp64, hr64⟩
  have HROWS := Lib.hid hrows
  have HOWN := Lib.hid hown
  have HB5 : Hid (Below w.heap.size w w5) := Lib.hid (HB4.out.trans (hb5.mono HB4.out.size))
  have q0 := kept_of_below hb5 _ _ q0
  have H45 := Lib.hid hb5
  clear hrows hown hr hb hcell g0 g1 g2 g3 hb5
  go_upto_region 9 with fail
  obtain ⟨w6, hw6, hs6, hk6, hb6, -, -⟩ := named w5 #[.slice (some ⟨g, 0, none⟩) m.length cu] 24
  have hT6 : w6.heap[w5.heap.size]? = some (.cells #[.slice (some ⟨g, 0, none⟩) m.length cu] 24 (0, 0)) := by rw [hw6]; exact heap_alloc_new _ _
  rw [← hw6]
  obtain ⟨T, hT⟩ : ∃ T, T = w5.heap.size := ⟨_, rfl⟩
  rw [← hT] at hT6 hs6 ⊢
  have HT := Lib.hid hT
  have HT6 := Lib.hid hT6
  have t0 := cell_of_block hT6 0
  have x0 := hk6 _ _ x0
  have x1 := hk6 _ _ x1
  have x2 := hk6 _ _ x2
  have x3 := hk6 _ _ x3
  have q0 := hk6 _ _ q0
  have hk0 : (0 : Int) ≤ k := by omega
  have hk1 : (k : Int) < m.length := by omega
  have HVF6 := Lib.hid (VFun.keep hk6 HVF.out)
  have H56 : Hid (Below w5.heap.size w5 w6) := Lib.hid hb6
  have HS6 := Lib.hid hs6
  clear hw6 hs6 hk6 hb6 hT hT6
  go_wp2_with fail
  refine (trim_any fk _ w6 HVF6.out (HS.out.2 fk (List.mem_of_getElem? HFK.out))).mono ?_
  rintro e w7 ⟨⟨Ar7, cr7, Ab7, cb7, G7, rfl, hr7, hb7, -, -, hp7, hs7⟩, hbel7⟩
  have hk7 := kept_of_below hbel7
  have x0 := hk7 _ _ x0
  have x1 := hk7 _ _ x1
  have x2 := hk7 _ _ x2
  have x3 := hk7 _ _ x3
  have q0 := hk7 _ _ q0
  have t0 := hk7 _ _ t0
  have HR7 : Hid (SL w7 1 (RIntB (fun b => w5.heap.size ≤ b)) Ar7 cr7 fk.regs) := Lib.hid (SIntsB.go (KeptB.of (Kept.refl _)) (fun b hb => by have := hb.1; have := HS6.out; have := HT.out; omega) hr7)
  have HBK7 : Hid (SL w7 5 (RBlkB (fun b => w5.heap.size ≤ b)) Ab7 cb7 (blksT fk.blocks)) := Lib.hid (SBlksB.go (KeptB.of (Kept.refl _)) (fun b hb => by have := hb.1; have := HS6.out; have := HT.out; omega) hb7)
  have HP7 := Lib.hid hp7
  have HRS7 := Lib.hid hs7
  have H57 : Hid (Below w5.heap.size w5 w7) := Lib.hid (H56.out.trans (hbel7.mono H56.out.size))
  have HTT7 := Lib.hid ((hbel7.block T (block_lt HT6.out)).trans HT6.out)
  clear hr7 hb7 hp7 hs7 hbel7 hk7
  go_upto_region 10 with fail
  obtain ⟨w8, hw8, hs8, hk8, hb8, hc8, -⟩ := named w7 #[.int .i64 fk.params, .int .i64 fk.result, .slice Ar7 fk.regs.length cr7, .slice Ab7 (blksT fk.blocks).length cb7] 39
  rw [← hw8]
  obtain ⟨P, hP⟩ : ∃ P, P = w7.heap.size := ⟨_, rfl⟩
  rw [← hP] at hc8 hs8 ⊢
  have p0 := hc8 0 _ rfl
  have p1 := hc8 1 _ rfl
  have p2 := hc8 2 _ rfl
  have p3 := hc8 3 _ rfl
  have x0 := hk8 _ _ x0
  have x1 := hk8 _ _ x1
  have x2 := hk8 _ _ x2
  have x3 := hk8 _ _ x3
  have q0 := hk8 _ _ q0
  have t0 := hk8 _ _ t0
  have H78 := Lib.hid hb8
  have H58 : Hid (Below w5.heap.size w5 w8) := Lib.hid (H57.out.trans (hb8.mono H57.out.size))
  have HTT8 := Lib.hid ((hb8.block T (block_lt HTT7.out)).trans HTT7.out)
  have own8 := cp_owns (w' := w8) HOWN.out (fun x hx => H58.out.block x (HOWN.out.lt x hx).2) (Nat.le_refl _)
  have f0 := own8.frozenAt (k * 4)
  have f1 := own8.frozenAt (k * 4 + 1)
  have f2 := own8.frozenAt (k * 4 + 2)
  have f3 := own8.frozenAt (k * 4 + 3)
  have hg8 : g < w8.heap.size := (own8.lt g rfl).2
  have HTg : Hid (T ≠ g) := Lib.hid (by have := HT.out; have := hgl.2; omega)
  have HDg : Hid (D ≠ g) := Lib.hid (by have h := HD.out; have h1 := hgl.1; have h2 := HB4.out.size; have h3 := block_lt_of_cell q0; intro e; have h4 : D < w4.heap.size := HD4.out; omega)
  clear hw8 hs8 hk8 hb8 hc8 hP own8
  go_upto_region 11 with fail
  obtain ⟨w9, hw9⟩ : ∃ w9, w9 = (((w8.setCell ⟨g, k * 4, none⟩ (.int .i64 fk.params)).setCell ⟨g, k * 4 + 1, none⟩ (.int .i64 fk.result)).setCell ⟨g, k * 4 + 2, none⟩ (.slice Ar7 fk.regs.length cr7)).setCell ⟨g, k * 4 + 3, none⟩ (.slice Ab7 (blksT fk.blocks).length cb7) := ⟨_, rfl⟩
  rw [← hw9]
  have HVM9 := Lib.hid (trim_mod HOWN.out HROWS.out H58.out H78.out hkl HR7.out HBK7.out HP7.out HRS7.out hw9)
  have hblk9 : ∀ y, y ≠ g → w9.heap[y]? = w8.heap[y]? := fun y hy => by
    rw [hw9]
    exact (((Below.heap_setCell _ _ _ _ hy).trans (Below.heap_setCell _ _ _ _ hy)).trans (Below.heap_setCell _ _ _ _ hy)).trans (Below.heap_setCell _ _ _ _ hy)
  have HB8 : Hid (Below w.heap.size w w8) := Lib.hid (HB5.out.trans (H58.out.mono HB5.out.size))
  have HB9 : Hid (Below w.heap.size w w9) := Lib.hid (by
    have h1 := hgl.1
    have h2 := HB4.out.size
    rw [hw9]
    exact (((HB8.out.setCell (by show _ ≤ g; omega) _).setCell (by show _ ≤ g; omega) _).setCell (by show _ ≤ g; omega) _).setCell (by show _ ≤ g; omega) _)
  have q0 : w9.cell? ⟨D, 0, none⟩ = some (.slice A m.length c) := (World.cell?_of_block (a := ⟨D, 0, none⟩) (hblk9 D HDg.out)).trans q0
  have t0 : w9.cell? ⟨T, 0, none⟩ = some (.slice (some ⟨g, 0, none⟩) m.length cu) := (World.cell?_of_block (a := ⟨T, 0, none⟩) (hblk9 T HTg.out)).trans t0
  obtain ⟨mt, hmt⟩ : ∃ mt, mt = trimM m k fk := ⟨_, rfl⟩
  rw [← hmt] at HVM9
  have HMT := Lib.hid hmt
  have HSMT : Hid (SmallM mt) := Lib.hid (by rw [hmt]; exact trim_small HS.out HFK.out)
  have HPT : Hid (Proper mt) := Lib.hid (by rw [hmt]; exact trim_proper HP.out HFK.out)
  have HFT : Hid (I64 (fewT steps)) := Lib.hid (by have := HST.out; unfold I64 at this ⊢; unfold fewT; split <;> omega)
  clear hw9 hblk9 hmt x0 x1 x2 x3 p0 p1 p2 p3 f0 f1 f2 f3 hg8 hgl HROWS HOWN HR7 HBK7 HTT7 HTT8 HT6
  go_upto_if 66 with (fail)
  go_cut [4] from 65 to 68 (fun s4 wx => s4 = .int .i64 (fewT steps) ∧ wx = w9)
  case first =>
    by_cases hs : 1000 < steps
    · have e : Hid (fewT steps = steps % 1000) := Lib.hid (by unfold fewT; rw [if_pos hs])
      have hs0 : 0 ≤ steps := by omega
      go_wp2_with fail
      go_meet
      exact ⟨by rw [e.out], rfl⟩
    · have e : Hid (fewT steps = steps) := Lib.hid (by unfold fewT; rw [if_neg hs])
      go_wp2_with fail
      go_meet
      exact ⟨by rw [e.out], rfl⟩
  case rest =>
    obtain ⟨rfl, rfl⟩ := hcut
    obtain ⟨w9, rfl⟩ : ∃ w9, w9 = wc := ⟨wc, rfl⟩
    go_wp2_with fail
    refine (module_any ofIns mt _ _ HVM9.out (lim_of_small HSMT.out)).mono ?_
    rintro e w10 ⟨⟨ve, rfl, he⟩, hb10⟩
    obtain rfl := he.nil HPT.out
    have HB10 : Hid (Below w.heap.size w w10) := Lib.hid (HB9.out.trans (hb10.mono HB9.out.size))
    have q0 := kept_of_below hb10 _ _ q0
    have t0 := kept_of_below hb10 _ _ t0
    have HVM10 := Lib.hid (VMod.keep (kept_of_below hb10) HVM9.out)
    have HVO10 := Lib.hid (VMod.keep (kept_of_below HB10.out) HM0.out)
    have HA10 := Lib.hid (SInts.keep (kept_of_below HB10.out) HA.out)
    have HR1 := Lib.hid (run_any m f args (fewT steps) _ Aa ca w10 HVO10.out HA10.out HS.out HF.out HFT.out)
    clear hb10 he
    go_wp2_with fail
    refine HR1.out.mono ?_
    rintro e w11 h11
    obtain ⟨a, A7, c7, err1, rfl, hb11, hao, hcase1⟩ := run_toldZ h11
    have hst := store_new w11 a (.slice A7 a.out.length c7) rfl
    obtain ⟨w12, hw12⟩ : ∃ w12, w12 = w11.alloc (.cells (outC a (.slice A7 a.out.length c7)) 31) := ⟨_, rfl⟩
    rw [← hw12] at hst
    have HOA := Lib.hid (OutAt.new hw12 hao)
    have HB1112 : Hid (Below w11.heap.size w11 w12) := Lib.hid (by rw [hw12]; exact (Below.refl _ _).alloc (Nat.le_refl _) _)
    have hb1012 : Below w10.heap.size w10 w12 := hb11.trans (HB1112.out.mono hb11.size)
    have HB12 : Hid (Below w.heap.size w w12) := Lib.hid (HB10.out.trans (hb1012.mono HB10.out.size))
    have q0 := kept_of_below hb1012 _ _ q0
    have t0 := kept_of_below hb1012 _ _ t0
    have HVM12 := Lib.hid (VMod.keep (kept_of_below hb1012) HVM10.out)
    have HA12 := Lib.hid (SInts.keep (kept_of_below HB12.out) HA.out)
    have HR2 := Lib.hid (run_any mt f args (fewT steps) _ Aa ca w12 HVM12.out HA12.out HSMT.out HF.out HFT.out)
    have HC1 := Lib.hid hcase1
    have HQ12 := Lib.hid q0
    have HT12 := Lib.hid t0
    clear h11 hb11 hao HR1 hw12 hb1012 hcase1 q0 t0
    dsimp only
    go_step
    iterate 4 (first | (go_step; go_simp; go_step) | (go_step; go_step))
    refine wpList_store_any _ rfl 31 (.tmp 18) (.tmp 77) rfl _ _ (by rfl) (by rfl) hst ?_
    clear hst
    have q0 := HQ12.out
    have t0 := HT12.out
    obtain ⟨X, hX⟩ : ∃ X, X = w11.heap.size := ⟨_, rfl⟩
    rw [← hX] at HOA ⊢
    clear hX
    go_wp2_with fail
    refine HR2.out.mono ?_
    rintro e w13 h13
    obtain ⟨b, A8, c8, err2, rfl, hb13, hbo, hcase2⟩ := run_toldZ h13
    have hst := store_new w13 b (.slice A8 b.out.length c8) rfl
    obtain ⟨w14, hw14⟩ : ∃ w14, w14 = w13.alloc (.cells (outC b (.slice A8 b.out.length c8)) 31) := ⟨_, rfl⟩
    rw [← hw14] at hst
    have HOB := Lib.hid (OutAt.new hw14 hbo)
    have HB1314 : Hid (Below w13.heap.size w13 w14) := Lib.hid (by rw [hw14]; exact (Below.refl _ _).alloc (Nat.le_refl _) _)
    have hb1214 : Below w12.heap.size w12 w14 := hb13.trans (HB1314.out.mono hb13.size)
    have HBB : Hid (Below w.heap.size w w14) := Lib.hid (HB12.out.trans (hb1214.mono HB12.out.size))
    have HOA14 := Lib.hid (HOA.out.keep (kept_of_below hb1214))
    have HCC : Hid (((∃ t x, err1 = .iface t x) ∧ (∃ t x, err2 = .iface t x) ∨ err1 = .nilIface ∧ err2 = .nilIface) ∧ sameS a b = true) := Lib.hid (by
      have hmay := may_trim HFK.out f args (fewT steps)
      rw [← HMT.out] at hmay
      rcases HC1.out with ⟨e1, n1, z1⟩ | ⟨e1, -, m1, r1⟩
      · rcases hcase2 with ⟨e2, -, z2⟩ | ⟨e2, -, m2, -⟩
        · exact ⟨.inl ⟨e1, e2⟩, by rw [z1, z2]; exact same_refl _⟩
        · exact absurd ⟨HP.out, hmay.symm.trans m2⟩ n1
      · rcases hcase2 with ⟨e2, n2, -⟩ | ⟨e2, -, m2, r2⟩
        · exact absurd ⟨HPT.out, hmay.trans m1⟩ n2
        · exact ⟨.inr ⟨e1, e2⟩, by rw [r1, r2, HMT.out]; exact same_trim HP.out HFK.out m1 _⟩)
    clear h13 hb13 hbo HR2 hw14 hb1214 hcase2 q0 t0
    dsimp only
    go_step
    iterate 4 (first | (go_step; go_simp; go_step) | (go_step; go_step))
    refine wpList_store_any _ rfl 31 (.tmp 20) (.tmp 85) rfl _ _ (by rfl) (by rfl) hst ?_
    clear hst
    obtain ⟨Y, hY⟩ : ∃ Y, Y = w13.heap.size := ⟨_, rfl⟩
    rw [← hY] at HOB ⊢
    clear hY
    have hS : ∀ w' : World, Below w14.heap.size w14 w' → OutAt w' X a A7 c7 ∧ OutAt w' Y b A8 c8 := fun w' h => ⟨HOA14.out.keep (kept_of_below h), HOB.out.keep (kept_of_below h)⟩
    have HSH := Lib.hid hS
    have HSAME : Hid (∀ w' : World, Below w14.heap.size w14 w' → Calls Try.prog 20 #[.agg (outC a (.slice A7 a.out.length c7)), .agg (outC b (.slice A8 b.out.length c8))] w' fun e w'' => e = .returned (.bool true) ∧ Below w14.heap.size w14 w'') := Lib.hid (fun w' h => (sameO_any a b A7 A8 c7 c8 w' (hS w' h).1.2 (hS w' h).2.2).mono fun e w'' ⟨h1, h2⟩ => ⟨by rw [h1, HCC.out.2], h.trans (h2.mono h.size)⟩)
    have hcs := HCC.out.1
    clear hS HCC HC1
    rcases hcs with ⟨⟨te, xe, rfl⟩, ⟨te2, xe2, rfl⟩⟩ | ⟨rfl, rfl⟩
    all_goals
      go_upto_region 16 with fail
      have hS := HSH.out
      have hS0 := hS _ (Below.refl w14.heap.size w14).drew
      have hB0 := Lib.hid (Below.refl w14.heap.size w14).drew
      refine wp_region_held_drew (S := fun w' => OutAt w' X a A7 c7 ∧ OutAt w' Y b A8 c8) (by kernel_rfl) hS0 (fun hHeld => ?_)
      clear hHeld
      refine takeH (i := 0) (some 87) (v := ?_) rfl (by kernel_rfl) (by kernel_rfl) (by kernel_rfl) (fun _ _ _ h => h) hS0 (fun o ho => ?_) ?_
      rotate_left
      · simp only [List.getElem?_toArray, List.getElem?_cons_zero, Option.some.injEq] at ho; subst ho; refine Or.inl ⟨by rfl, fun w' hSw => ?_⟩; (try dsimp only at hSw); go_simp; try with_reducible rfl
      simp only [Act.put, List.setIfInBounds_toArray, List.set_cons_zero, List.set_cons_succ]
      refine takeH (i := 1) (some 88) (v := ?_) rfl (by kernel_rfl) (by kernel_rfl) (by kernel_rfl) (fun _ _ _ h => h) hS0 (fun o ho => ?_) ?_
      rotate_left
      · simp only [List.getElem?_toArray, List.getElem?_cons_zero, List.getElem?_cons_succ, Option.some.injEq] at ho; subst ho; refine Or.inl ⟨by rfl, fun w' hSw => ?_⟩; (try dsimp only at hSw); go_simp; try with_reducible rfl
      simp only [Act.put, List.setIfInBounds_toArray, List.set_cons_zero, List.set_cons_succ]
      refine takeH (i := 2) (some 89) (v := ?_) rfl (by kernel_rfl) (by kernel_rfl) (by kernel_rfl) (fun _ _ _ h => h) hS0 (fun o ho => ?_) ?_
      rotate_left
      · simp only [List.getElem?_toArray, List.getElem?_cons_zero, List.getElem?_cons_succ, Option.some.injEq] at ho; subst ho; refine Or.inl ⟨by rfl, fun w' hSw => ?_⟩; (try dsimp only at hSw); go_simp; try with_reducible rfl
      simp only [Act.put, List.setIfInBounds_toArray, List.set_cons_zero, List.set_cons_succ]
      refine takeH (i := 3) (some 90) (v := ?_) rfl (by kernel_rfl) (by kernel_rfl) (by kernel_rfl) (fun _ _ _ h => h) hS0 (fun o ho => ?_) ?_
      rotate_left
      · simp only [List.getElem?_toArray, List.getElem?_cons_zero, List.getElem?_cons_succ, Option.some.injEq] at ho; subst ho; refine Or.inl ⟨by rfl, fun w' hSw => ?_⟩; (try dsimp only at hSw); go_simp; try with_reducible rfl
      simp only [Act.put, List.setIfInBounds_toArray, List.set_cons_zero, List.set_cons_succ]
      refine takeH (i := 4) (some 91) (v := ?_) rfl (by kernel_rfl) (by kernel_rfl) (by kernel_rfl) (fun _ _ _ h => h) hS0 (fun o ho => ?_) ?_
      rotate_left
      · simp only [List.getElem?_toArray, List.getElem?_cons_zero, List.getElem?_cons_succ, Option.some.injEq] at ho; subst ho; refine Or.inl ⟨by rfl, fun w' hSw => ?_⟩; (try dsimp only at hSw); go_simp; try with_reducible rfl
      simp only [Act.put, List.setIfInBounds_toArray, List.set_cons_zero, List.set_cons_succ]
      refine takeH (i := 5) (some 92) (v := ?_) rfl (by kernel_rfl) (by kernel_rfl) (by kernel_rfl) (fun _ _ _ h => h) hS0 (fun o ho => ?_) ?_
      rotate_left
      · simp only [List.getElem?_toArray, List.getElem?_cons_zero, List.getElem?_cons_succ, Option.some.injEq] at ho; subst ho; refine Or.inl ⟨by rfl, fun w' hSw => ?_⟩; (try dsimp only at hSw); go_simp; try with_reducible rfl
      simp only [Act.put, List.setIfInBounds_toArray, List.set_cons_zero, List.set_cons_succ]
      refine takeH (i := 6) (some 93) (v := ?_) rfl (by kernel_rfl) (by kernel_rfl) (by kernel_rfl) (fun _ _ _ h => h) hS0 (fun o ho => ?_) ?_
      rotate_left
      · simp only [List.getElem?_toArray, List.getElem?_cons_zero, List.getElem?_cons_succ, Option.some.injEq] at ho; subst ho; refine Or.inl ⟨by rfl, fun w' hSw => ?_⟩; (try dsimp only at hSw); go_simp; try with_reducible rfl
      simp only [Act.put, List.setIfInBounds_toArray, List.set_cons_zero, List.set_cons_succ]
      refine takeH (i := 7) (some 94) (v := ?_) rfl (by kernel_rfl) (by kernel_rfl) (by kernel_rfl) (fun _ _ _ h => h) hS0 (fun o ho => ?_) ?_
      rotate_left
      · simp only [List.getElem?_toArray, List.getElem?_cons_zero, List.getElem?_cons_succ, Option.some.injEq] at ho; subst ho; refine Or.inl ⟨by rfl, fun w' hSw => ?_⟩; (try dsimp only at hSw); go_simp; try with_reducible rfl
      simp only [Act.put, List.setIfInBounds_toArray, List.set_cons_zero, List.set_cons_succ]
      refine takeH (i := 8) (some 95) (v := ?_) rfl (by kernel_rfl) (by kernel_rfl) (by kernel_rfl) (fun _ _ _ h => h) hS0 (fun o ho => ?_) ?_
      rotate_left
      · simp only [List.getElem?_toArray, List.getElem?_cons_zero, List.getElem?_cons_succ, Option.some.injEq] at ho; subst ho; refine Or.inl ⟨by rfl, fun w' hSw => ?_⟩; (try dsimp only at hSw); go_simp; try with_reducible rfl
      simp only [Act.put, List.setIfInBounds_toArray, List.set_cons_zero, List.set_cons_succ]
      refine takeH (i := 9) (some 96) (v := ?_) rfl (by kernel_rfl) (by kernel_rfl) (by kernel_rfl) (fun _ _ _ h => h) hS0 (fun o ho => ?_) ?_
      rotate_left
      · simp only [List.getElem?_toArray, List.getElem?_cons_zero, List.getElem?_cons_succ, Option.some.injEq] at ho; subst ho; refine Or.inl ⟨by rfl, fun w' hSw => ?_⟩; (try dsimp only at hSw); go_simp; try with_reducible rfl
      simp only [Act.put, List.setIfInBounds_toArray, List.set_cons_zero, List.set_cons_succ]
      refine takeH (i := 10) (some 97) (v := ?_) rfl (by kernel_rfl) (by kernel_rfl) (by kernel_rfl) (fun _ _ _ h => h) hS0 (fun o ho => ?_) ?_
      rotate_left
      · simp only [List.getElem?_toArray, List.getElem?_cons_zero, List.getElem?_cons_succ, Option.some.injEq] at ho; subst ho; refine Or.inl ⟨by rfl, fun w' hSw => ?_⟩; (try dsimp only at hSw); go_simp; try with_reducible rfl
      simp only [Act.put, List.setIfInBounds_toArray, List.set_cons_zero, List.set_cons_succ]
      refine takeH (i := 11) (some 98) (v := ?_) rfl (by kernel_rfl) (by kernel_rfl) (by kernel_rfl) (fun _ _ _ h => h) hS0 (fun o ho => ?_) ?_
      rotate_left
      · simp only [List.getElem?_toArray, List.getElem?_cons_zero, List.getElem?_cons_succ, Option.some.injEq] at ho; subst ho; refine Or.inl ⟨by rfl, fun w' hSw => ?_⟩; (try dsimp only at hSw); go_simp; try with_reducible rfl
      simp only [Act.put, List.setIfInBounds_toArray, List.set_cons_zero, List.set_cons_succ]
      refine takeH (i := 12) (some 99) (v := ?_) rfl (by kernel_rfl) (by kernel_rfl) (by kernel_rfl) (fun _ _ _ h => h) hS0 (fun o ho => ?_) ?_
      rotate_left
      · simp only [List.getElem?_toArray, List.getElem?_cons_zero, List.getElem?_cons_succ, Option.some.injEq] at ho; subst ho; refine Or.inl ⟨by rfl, fun w' hSw => ?_⟩; (try dsimp only at hSw); go_simp; try with_reducible rfl
      simp only [Act.put, List.setIfInBounds_toArray, List.set_cons_zero, List.set_cons_succ]
      refine takeH (i := 13) (some 100) (v := .agg (outC a (.slice A7 a.out.length c7))) rfl (by kernel_rfl) (by kernel_rfl) (by kernel_rfl) (fun _ _ _ h => h) hS0 (fun o ho => ?_) ?_
      · simp only [List.getElem?_toArray, List.getElem?_cons_zero, List.getElem?_cons_succ, Option.some.injEq] at ho; subst ho; exact yieldsIf_load_out (by rfl) (.tmp 18) rfl X rfl (fun w' hSw => hSw.1)
      simp only [Act.put, List.setIfInBounds_toArray, List.set_cons_zero, List.set_cons_succ]
      refine takeH (i := 14) (some 101) (v := .agg (outC b (.slice A8 b.out.length c8))) rfl (by kernel_rfl) (by kernel_rfl) (by kernel_rfl) (fun _ _ _ h => h) hS0 (fun o ho => ?_) ?_
      · simp only [List.getElem?_toArray, List.getElem?_cons_zero, List.getElem?_cons_succ, Option.some.injEq] at ho; subst ho; exact yieldsIf_load_out (by rfl) (.tmp 20) rfl Y rfl (fun w' hSw => hSw.2)
      simp only [Act.put, List.setIfInBounds_toArray, List.set_cons_zero, List.set_cons_succ]
      refine oneH (i := 15) (by kernel_rfl) (fun o ho K hK => ?_)
      simp only [List.getElem?_toArray, List.getElem?_cons_zero, List.getElem?_cons_succ, Option.some.injEq] at ho; subst ho
      go_simp
      refine (HSAME.out _ hB0.out).mono ?_
      rintro e w16 ⟨rfl, hb16⟩
      have hS1 := hS _ hb16
      have HB16 := Lib.hid hb16
      clear hb16 hS0
      go_wp2_with fail
      refine hK.out _ _ hS1 ?_
      clear hK K
      try simp only [Act.put, List.setIfInBounds_toArray, List.set_cons_zero, List.set_cons_succ]
      refine takeH (i := 16) (some 103) (v := ?_) rfl (by kernel_rfl) (by kernel_rfl) (by kernel_rfl) (fun _ _ _ h => h) hS1 (fun o ho => ?_) ?_
      rotate_left
      · simp only [List.getElem?_toArray, List.getElem?_cons_zero, List.getElem?_cons_succ, Option.some.injEq] at ho; subst ho; refine Or.inl ⟨by rfl, fun w' hSw => ?_⟩; (try dsimp only at hSw); go_simp; try with_reducible rfl
      simp only [Act.put, List.setIfInBounds_toArray, List.set_cons_zero, List.set_cons_succ]
      refine takeH (i := 17) (some 10) (v := ?_) rfl (by kernel_rfl) (by kernel_rfl) (by kernel_rfl) (fun _ _ _ h => h) hS1 (fun o ho => ?_) ?_
      rotate_left
      · simp only [List.getElem?_toArray, List.getElem?_cons_zero, List.getElem?_cons_succ, Option.some.injEq] at ho; subst ho; refine Or.inl ⟨by rfl, fun w' hSw => ?_⟩; (try dsimp only at hSw); go_simp; try with_reducible rfl
      simp only [Act.put, List.setIfInBounds_toArray, List.set_cons_zero, List.set_cons_succ]
      refine wpAnyH_done (by kernel_rfl) ?_ _
      go_wp2_with fail
      go_ret
      exact ⟨rfl, HBB.out.trans (HB16.out.mono HBB.out.size)⟩
end Go.Proofs.Ytoidhjmhakajlaa
