/- An outcome is loaded and stored whole. -/
import Derived.Test.YtcjmhdneelmbhaaMacOJ
import Derived.Deep.WholeRow
import Derived.Deep.Cut
namespace Go.Proofs.Ytcjmhdneelmbhaa
open Go.ChangeShapes Go.WideShapes Go.RowKit Go.Deep
set_option linter.unusedVariables false

/-- An outcome's cells. -/
def outC (s : St) (vo : Value) : Array Value := Array.ofFn (n := 69) fun i => cellM s ⟨.slice none 0 0, .slice none 0 0, .slice none 0 0, .slice none 0 0, vo⟩ (263 + i.val)
theorem outC_size (s : St) (vo : Value) : (outC s vo).size = 69 := by simp [outC]
theorem outC_get (s : St) (q : MV) {i : Nat} (hi : i < 69) : (outC s q.vo)[i]? = some (cellM s q (263 + i)) := by
  unfold outC
  rw [Array.getElem?_ofFn, dif_pos hi]
  congr 1
  show cellM s _ (263 + i) = cellM s q (263 + i)
  by_cases h : 263 + i < 268
  · rw [cellM_mid _ _ (by omega) h, cellM_mid _ _ (by omega) h]
    unfold midC
    rw [if_neg (show ¬ 263 + i = 259 by omega), if_neg (show ¬ 263 + i = 260 by omega), if_neg (show ¬ 263 + i = 261 by omega), if_neg (show ¬ 263 + i = 262 by omega), if_neg (show ¬ 263 + i = 259 by omega), if_neg (show ¬ 263 + i = 260 by omega), if_neg (show ¬ 263 + i = 261 by omega), if_neg (show ¬ 263 + i = 262 by omega)]
  · rw [cellM_hi _ _ (by omega), cellM_hi _ _ (by omega)]
theorem out_size : (Try.prog.info? 49).map (·.size) = some 69 := by kernel_rfl
theorem load_out {P : Nat} {w : World} {s : St} {q : MV} (hb : MacB P w s q) : (Instr.loadAt 49 (.pointer (some ⟨P, 263, none⟩))).run Try.prog w = .ok (.agg (outC s q.vo)) w := by
  have hl := run_loadCells_list (P := Try.prog) (w := w) ⟨P, 263, none⟩ (outC s q.vo).toList (fun j v hv => by
    rw [add_plain']
    have hj : j < 69 := by have := (List.getElem?_eq_some_iff.1 hv).1; rwa [Array.length_toList, outC_size] at this
    rw [Array.getElem?_toList, outC_get s q hj] at hv
    rw [hb.cell (by omega)]; exact hv)
  rw [Array.length_toList, outC_size, Array.toArray_toList] at hl
  have hagg : (isAgg 49).run Try.prog w = .ok true w := by
    unfold isAgg
    rw [Sem.run_bind, run_underlying Try.underlying49 w]
    rfl
  have hsz : (sizeOf 49).run Try.prog w = .ok 69 w := by
    have := out_size
    cases hq : Try.prog.info? 49 with
    | none => simp [hq] at this
    | some i => simp [hq] at this; simp [sizeOf, typeInfo, hq, this]
  simp only [Instr.loadAt, Instr.sureAddr, loadVar, Sem.run_bind, Sem.run_pure, Result.andThen_ok, hagg, hsz, hl, if_true]
theorem out_one (s : St) (vo : Value) (h : vo.oneCell' = true) : (outC s vo).all (·.oneCell') = true := by
  rw [Array.all_eq_true_iff_forall_mem]
  intro v hv
  obtain ⟨i, hi, rfl⟩ := Array.getElem_of_mem hv
  have hi69 : i < 69 := by rwa [outC_size] at hi
  have e := outC_get s ⟨.slice none 0 0, .slice none 0 0, .slice none 0 0, .slice none 0 0, vo⟩ hi69
  rw [Array.getElem?_eq_getElem hi] at e
  rw [Option.some.inj e]
  by_cases h2 : 263 + i < 268
  · rw [cellM_mid _ _ (by omega) h2]
    unfold midC
    repeat' split
    all_goals first | rfl | exact h
  · rw [cellM_hi _ _ (by omega)]; rfl
theorem store_out {g : Nat} {w : World} {s : St} {vo : Value} {old : Array Value} (hg : w.heap[g]? = some (.cells old 49 (0, 0))) (ho : old.size = 69) (h : vo.oneCell' = true) :
    (Instr.storeAt 49 (.pointer (some ⟨g, 0, none⟩)) (.agg (outC s vo))).run Try.prog w = .ok () (w.setRow g (outC s vo)) := by
  have := run_storeVar_row (P := Try.prog) w g 49 49 old (outC s vo) hg (by rw [outC_size]; exact out_size) (by rw [outC_size]; exact ho) (out_one s vo h)
  simp only [Instr.storeAt, Instr.sureAddr, Sem.run_bind, Sem.run_pure, Result.andThen_ok, this]
theorem zero_out_size : Try.zeroCells49.size = 69 := by kernel_rfl

theorem wpList_load_any {P : Program} (w : World) {ops : Array Oper} {rest : List Oper} {o : Oper} {a : Act} {Q : Exit → Act → World → Prop} (hgd : o.guard = none) (t : TypeId) (x : Operand)
    (ho : o.op = .load t x) (v : Value) (hv : a.eval x = v) {u : Value} {w' : World} (hr : (Instr.loadAt t v).run P w = .ok u w') (h : wpList P ops Q rest (a.put o.dst u) w') : wpList P ops Q (o :: rest) a w :=
  wpList_plain hgd fun _ hK => by
    unfold Oper.wp execOp
    simp only [ho, Sem.run_bind, Sem.run_pure, Result.andThen_ok, hv, hr]
    exact hK _ _ h
theorem wpList_store_any {P : Program} (w : World) {ops : Array Oper} {rest : List Oper} {o : Oper} {a : Act} {Q : Exit → Act → World → Prop} (hgd : o.guard = none) (t : TypeId) (x y : Operand)
    (ho : o.op = .store t x y) (v u : Value) (hv : a.eval x = v) (hu : a.eval y = u) {w' : World} (hr : (Instr.storeAt t v u).run P w = .ok () w') (h : wpList P ops Q rest (a.put o.dst undef) w') : wpList P ops Q (o :: rest) a w :=
  wpList_plain hgd fun _ hK => by
    unfold Oper.wp execOp
    simp only [ho, Sem.run_bind, Sem.run_pure, Result.andThen_ok, hv, hu, hr]
    exact hK _ _ h
end Go.Proofs.Ytcjmhdneelmbhaa

/- The machine is made, and runs. (Written by gen/genmacp.py.) -/
namespace Go.Proofs.Ytcjmhdneelmbhaa
open Go.ChangeShapes Go.WideShapes Go.RowKit Go.Deep
set_option linter.unusedVariables false

def zeroS : St := ⟨⟨0, 0, 0, fun _ => 0⟩, [], false, 0, 0, [], 0, fun _ => 0⟩
def zeroQ (vf va : Value) : MV := ⟨.slice none 0 0, vf, va, .slice none 0 0, .slice none 0 0⟩
theorem zero_mac : Try.zeroCells114 = macC zeroS (zeroQ (.slice none 0 0) (.slice none 0 0)) := by kernel_rfl
theorem zero_mac_set (vf : Value) : Try.zeroCells114.setIfInBounds 260 vf = macC zeroS (zeroQ vf (.slice none 0 0)) := by
  rw [zero_mac]
  exact macC_set (set_mid (by omega) (by omega) rfl rfl rfl (mid_cases (fun _ => rfl) (fun h => absurd rfl h) (fun _ => rfl) (fun _ => rfl) (fun _ => rfl) (fun _ => rfl) (fun _ => rfl) (fun _ => rfl) (fun _ => rfl)))
theorem Try.info80 : (Try.prog.info? 80).map (fun i => (i.zero, i.size, i.bytes)) = some (some (.slice none 0 0), 1, 24) := by kernel_rfl

/-! ### What was read lies below -/
section
variable {w : World}
theorem rint_b (b o : Nat) (x : Int) (h : RInt w b o x) : RIntB (fun b => b < w.heap.size) w b o x := ⟨block_lt_of_cell h.1, h⟩
theorem rphi_b (b o : Nat) (x : PhiD) (h : RPhi w b o x) : RPhiB (fun b => b < w.heap.size) w b o x := ⟨block_lt_of_cell h.1.1, h.1, CSB.plain rint_b h.2⟩
theorem rins_b (b o : Nat) (x : InsD) (h : RIns w b o x) : RInsB (fun b => b < w.heap.size) w b o x := ⟨block_lt_of_cell h.1.1, h.1, h.2.1, CSB.plain rint_b h.2.2.1, h.2.2.2.1, h.2.2.2.2⟩
theorem rblk_b (b o : Nat) (x : BlkD) (h : RBlk w b o x) : RBlkB (fun b => b < w.heap.size) w b o x :=
  ⟨block_lt_of_cell h.2.2.1.1, CSB.plain rphi_b h.1, CSB.plain rins_b h.2.1, h.2.2.1, h.2.2.2.1, CSB.plain rint_b h.2.2.2.2⟩
theorem rfun_b (b o : Nat) (x : FunD) (h : RFun w b o x) : RFunB (fun b => b < w.heap.size) w b o x := ⟨block_lt_of_cell h.1.1, h.1, h.2.1, CSB.plain rint_b h.2.2.1, CSB.plain rblk_b h.2.2.2⟩
end
/-- What check.Ahead told, as it lies in the row of the machine. -/
def CAh (B : Nat → Prop) (w : World) (f : FunD) (cs : List Value) : Prop := ∃ A c, cs = [.slice A f.blocks.length c] ∧ SL w 1 (RRowB B) A c (rows f.blocks)
theorem CAh.go {B B' : Nat → Prop} {w w' : World} (h : KeptB B w w') (hB : ∀ b, B b → B' b) {f : FunD} {cs : List Value} (hv : CAh B w f cs) : CAh B' w' f cs := by
  obtain ⟨A, c, e, h1⟩ := hv
  exact ⟨A, c, e, SL.imp (RRowB.go h hB) h1⟩
theorem RRowB.lt {B : Nat → Prop} {w : World} (b o : Nat) (l : List Int) (hv : RRowB B w b o l) : RRowB (fun b => B b ∧ b < w.heap.size) w b o l := by
  obtain ⟨h1, A, c, h2, h3⟩ := hv
  exact ⟨⟨h1, block_lt_of_cell h2⟩, A, c, h2, SIntsB.lt h3⟩
theorem CAh.lt {B : Nat → Prop} {w : World} {f : FunD} {cs : List Value} (hv : CAh B w f cs) : CAh (fun b => B b ∧ b < w.heap.size) w f cs := by
  obtain ⟨A, c, e, h1⟩ := hv
  exact ⟨A, c, e, SL.imp RRowB.lt h1⟩
theorem grid_readsB {w : World} {G N : Nat} {V : Nat → Value} {bs : List BlkD} (h : Grid w G bs.length V (fun i => aheadL bs i)) (hG : N ≤ G) (hn : bs.length ≤ 1000000) : SL w 1 (RRowB (fun b => N ≤ b)) (some ⟨G, 0, none⟩) bs.length (rows bs) := by
  refine ⟨by rw [rows_len]; omega, ⟨by unfold maxLen; omega, fun e => by cases e⟩, fun _ => ⟨G, 0, rfl, fun i x hi => ?_⟩⟩
  have hl : i < bs.length := by have := (List.getElem?_eq_some_iff.1 hi).1; rwa [rows_len] at this
  rw [rows_at hi, Nat.mul_one, Nat.zero_add]
  obtain ⟨A, c, e, hs⟩ := sl_of_own (h.own i hl) rfl
  have hI := aheadL_i64 bs (i : Nat) (by omega)
  refine ⟨hG, A, c, (h.row.cell hl).trans (congrArg some e), ?_⟩
  obtain ⟨h1, h2, h3⟩ := hs
  refine ⟨h1, h2, fun hp => ?_⟩
  obtain ⟨b, o, e2, h4⟩ := h3 hp
  exact ⟨b, o, e2, fun j y hj => ⟨Nat.le_trans (by omega) (h4 j y hj).1, (h4 j y hj).2, hI y (List.mem_of_getElem? hj)⟩⟩
/-- What check.Ahead told of one function more. -/
theorem ahead_push {N P k cap g1 : Nat} {w w1 : World} {vf va : Value} {cs : List Value} {l : List FunD} {x : FunD} {A : Option Addr} {cA : Nat} (hPN : P < N) (hNw : N ≤ w.heap.size) (hb : MacB P w zeroS (zeroQ vf va)) (hown : w.ownsRow N 80 1 va k cs)
    (hrows : Rows 1 (CAh (fun b => N ≤ b ∧ some b ≠ va.ownBlock) w) l cs) (hg : Gro w w1 va (.slice (some ⟨g1, 0, none⟩) (k + 1) cap)) (hown1 : w1.ownsRow N 80 1 (.slice (some ⟨g1, 0, none⟩) (k + 1) cap) (k + 1) (cs ++ [.slice A x.blocks.length cA]))
    (hs : SL w 1 (RRowB (fun b => N ≤ b ∧ some b ≠ va.ownBlock)) A cA (rows x.blocks)) :
    MacB P (w1.setCell ⟨P, 261, none⟩ (.slice (some ⟨g1, 0, none⟩) (k + 1) cap)) zeroS (zeroQ vf (.slice (some ⟨g1, 0, none⟩) (k + 1) cap)) ∧
    (w1.setCell ⟨P, 261, none⟩ (.slice (some ⟨g1, 0, none⟩) (k + 1) cap)).ownsRow N 80 1 (.slice (some ⟨g1, 0, none⟩) (k + 1) cap) (k + 1) (cs ++ [.slice A x.blocks.length cA]) ∧
    Rows 1 (CAh (fun b => N ≤ b ∧ some b ≠ (Value.slice (some ⟨g1, 0, none⟩) (k + 1) cap).ownBlock) (w1.setCell ⟨P, 261, none⟩ (.slice (some ⟨g1, 0, none⟩) (k + 1) cap))) (l ++ [x]) (cs ++ [.slice A x.blocks.length cA]) ∧
    BB N P w (w1.setCell ⟨P, 261, none⟩ (.slice (some ⟨g1, 0, none⟩) (k + 1) cap)) := by
  have hPv : va.ownBlock ≠ some P := fun e => by have := (hown.lt P e).1; omega
  have hS : ∀ j, j < w1.heap.size → j ≠ P → (w1.setCell ⟨P, 261, none⟩ (.slice (some ⟨g1, 0, none⟩) (k + 1) cap)).heap[j]? = w1.heap[j]? := fun j hj hne => set_others j hj hne
  have hsize := hg.size
  have hgo : KeptB (fun b => (N ≤ b ∧ some b ≠ va.ownBlock) ∧ b < w.heap.size) w (w1.setCell ⟨P, 261, none⟩ (.slice (some ⟨g1, 0, none⟩) (k + 1) cap)) := fun a v hB hv => by
    rw [World.cell?_of_block ((hS a.block (by omega) (by omega)).trans (hg.block a.block hB.2 (fun e => hB.1.2 e.symm)))]; exact hv
  have hB' : ∀ b, ((N ≤ b ∧ some b ≠ va.ownBlock) ∧ b < w.heap.size) → (N ≤ b ∧ some b ≠ (Value.slice (some ⟨g1, 0, none⟩) (k + 1) cap).ownBlock) := fun b hB => ⟨hB.1.1, fun e => by
    rcases hg.own b e.symm with h | h
    · exact hB.1.2 h.symm
    · omega⟩
  refine ⟨(gro_block hg hb hPv).set (set_mid (by omega) (by omega) rfl rfl rfl (mid_cases (fun _ => rfl) (fun _ => rfl) (fun h => absurd rfl h) (fun _ => rfl) (fun _ => rfl) (fun _ => rfl) (fun _ => rfl) (fun _ => rfl) (fun _ => rfl))),
    owns_keep hown1 (fun g _ hb hl => hS g hl (by omega)), ?_, BB.setCell (p := ⟨P, 261, none⟩) ⟨hg.os, hg.tape, hg.output, hg.size, fun j hj hne => hg.block j (Nat.lt_of_lt_of_le hj hNw) (fun e => by have := (hown.lt j e).1; omega)⟩ (.inl rfl) _⟩
  have h2 : CAh (fun b => N ≤ b ∧ some b ≠ (Value.slice (some ⟨g1, 0, none⟩) (k + 1) cap).ownBlock) (w1.setCell ⟨P, 261, none⟩ (.slice (some ⟨g1, 0, none⟩) (k + 1) cap)) x [.slice A x.blocks.length cA] :=
    ⟨A, cA, rfl, SL.imp (RRowB.go hgo hB') (SL.imp (fun b o y hy => RRowB.lt b o y hy) hs)⟩
  have h1 : Rows 1 (CAh (fun b => N ≤ b ∧ some b ≠ (Value.slice (some ⟨g1, 0, none⟩) (k + 1) cap).ownBlock) (w1.setCell ⟨P, 261, none⟩ (.slice (some ⟨g1, 0, none⟩) (k + 1) cap))) l cs := hrows.imp fun fr cs hc => CAh.go (f := fr) (cs := cs) hgo hB' hc.lt
  exact Rows.snoc h2 rfl h1

theorem start_ok {m : List FunD} {f : Nat} {F : FunD} {args : List Int} (hF : FunOk m F) (hf : m[f]? = some F) (ha : (args.length : Int) = F.params) : OkS m (startS f args) := by
  have h0 : 0 < F.blocks.length := hF.nb.1
  refine ⟨⟨F, _, hf, List.getElem?_eq_getElem h0, Nat.zero_le _, firstR_zero (by have := hF.par.2.2; omega)⟩, fun c hc => by cases hc⟩
theorem tick_ok {m : List FunD} {s : St} (h : OkS m s) : OkS m (tickS s) := ⟨h.cur, h.stack⟩
theorem loop_ok {m : List FunD} (hP : Proper m) : ∀ (k : Nat) (s : St), OkS m s → OkS m (loopS m k s) := by
  intro k
  induction k with
  | zero => intro s h; exact h
  | succ k ih =>
    intro s h
    by_cases hd : s.done = true
    · rw [loopS_done hd]; exact h
    · simp only [loopS, hd, if_false, Bool.false_eq_true]; exact ih _ (step_ok hP (tick_ok h))
theorem loop_lens (m : List FunD) : ∀ (k : Nat) (s : St), (loopS m k s).stack.length ≤ s.stack.length + k ∧ (loopS m k s).out.length ≤ s.out.length + k := by
  intro k
  induction k with
  | zero => intro s; exact ⟨Nat.le_refl _, Nat.le_refl _⟩
  | succ k ih =>
    intro s
    by_cases hd : s.done = true
    · rw [loopS_done hd]; omega
    · simp only [loopS, hd, if_false, Bool.false_eq_true]
      have h1 := ih (stepS m (tickS s))
      have h2 := step_lens m (tickS s)
      have e1 : (tickS s).stack = s.stack := rfl
      have e2 : (tickS s).out = s.out := rfl
      rw [e1, e2] at h2
      omega
/-- One step is counted. -/
theorem mac_tick {K P : Nat} {m : List FunD} {w : World} {s : St} {rd : List Int} (h : Mac K P m w s rd) : Mac K P m (w.setCell ⟨P, 267, none⟩ (.int .i64 ((s.steps : Int) + 1))) (tickS s) rd ∧ BB K P w (w.setCell ⟨P, 267, none⟩ (.int .i64 ((s.steps : Int) + 1))) := by
  obtain ⟨q, hb, he, hd, hP, hK⟩ := h
  have hb1 : MacB P (w.setCell ⟨P, 267, none⟩ (.int .i64 ((s.steps : Int) + 1))) (tickS s) q := hb.set (set_mid (by omega) (by omega) (by
      show Value.int .i64 ((s.steps + 1 : Nat) : Int) = _
      rw [Int.natCast_add]; rfl) rfl rfl (mid_cases (fun _ => rfl) (fun _ => rfl) (fun _ => rfl) (fun _ => rfl) (fun _ => rfl) (fun _ => rfl) (fun _ => rfl) (fun _ => rfl) (fun h => absurd rfl h)))
  exact ⟨mac_of hb1 he hd hP hK (by simp [World.setCell]) (fun k hk hne => set_others k hk hne) rfl rfl rfl, (BB.refl K P w).setCell (p := ⟨P, 267, none⟩) (.inl rfl) _⟩
/-- How many steps the machine has counted. -/
def stepsIn (P : Nat) (w : World) : Nat := match w.cell? ⟨P, 267, none⟩ with
  | some (.int _ n) => n.toNat
  | _ => 0
theorem stepsIn_of {K P : Nat} {m : List FunD} {w : World} {s : St} {rd : List Int} (h : Mac K P m w s rd) : stepsIn P w = s.steps := by
  obtain ⟨q, hb, _⟩ := h
  have c : w.cell? ⟨P, 267, none⟩ = some (.int .i64 s.steps) := hb.cell (by omega)
  unfold stepsIn; rw [c]; rfl
/-- The machine as it is made. -/
theorem mac_made {m : List FunD} {w w0 wr : World} {A : Option Addr} {c : Nat} {va : Value} {cs : List Value} (hm : SL w 4 RFun A c m) (hk : Kept w wr) (h0 : w.heap.size + 2 ≤ wr.heap.size) (hmb : MacB (w.heap.size + 1) wr zeroS (zeroQ (.slice A m.length c) va))
    (hown : wr.ownsRow (w.heap.size + 2) 80 1 va m.length cs) (hrows : Rows 1 (CAh (fun b => w.heap.size + 2 ≤ b ∧ some b ≠ va.ownBlock) wr) m cs) : Mac wr.heap.size (w.heap.size + 1) m wr zeroS [] := by
  refine ⟨zeroQ (.slice A m.length c) va, hmb, ⟨⟨A, c, rfl, SL.imp (fun b o x hx => ?_) hm⟩, ?_⟩, ⟨World.ownsRow_nil _ _ _ _, World.ownsRow_nil _ _ _ _, ⟨[], World.ownsRow_nil _ _ _ _, rfl⟩, .inl rfl, .inl rfl, .inl rfl⟩, by omega, Nat.le_refl _⟩
  · exact RFunB.go (B := fun b => b < w.heap.size) (w := w) (w' := wr) (fun a v _ h => hk a v h) (fun b hb => ⟨by omega, by omega⟩) b o x (rfun_b b o x hx)
  · obtain ⟨Av, cv, e, hs⟩ := Rows.reads (R := RAhB (Old wr.heap.size (w.heap.size + 1))) hrows hown (fun g o x ds hu hbg hF hl hc => by
      obtain ⟨A', c', rfl, h⟩ := hF
      have h1 := hc 0 _ rfl
      have hgl := block_lt_of_cell h1
      refine ⟨⟨hgl, by show g ≠ _; omega⟩, A', c', by rw [rows_len]; exact h1, SL.imp (fun b o l hl => ?_) h⟩
      have h2 := RRowB.lt b o l hl
      exact RRowB.go (w := wr) (w' := wr) (fun _ _ _ h => h) (fun b hb => ⟨hb.2, by have := hb.1.1; omega⟩) b o l h2)
    exact ⟨Av, cv, e, hs⟩

/-- What a run came to, as it is told. -/
def OwnO (w : World) (K : Nat) (A : Option Addr) (c : Nat) (l : List Int) : Prop := w.ownsRow K 2 1 (.slice A l.length c) l.length (l.map (Value.int .i64))
theorem OwnO.sl {w : World} {K : Nat} {A : Option Addr} {c : Nat} {l : List Int} (h : OwnO w K A c l) : SL w 1 (RWB (fun b => K ≤ b)) A c l := by
  obtain ⟨A', c', e, hs⟩ := sl_of_own h rfl
  cases e
  exact hs
theorem OwnO.row {w : World} {K K' g : Nat} {A : Option Addr} {c : Nat} {l : List Int} (h : OwnO w K A c l) (hK : K' ≤ K) (hg : g < K) {cs : Array Value} : OwnO (w.setRow g cs) K' A c l :=
  own_base (owns_keep h fun b hb h1 h2 => setRow_other w g b cs (by omega)) hK
def ToldO (m : List FunD) (f : Nat) (args : List Int) (steps : Nat) (w : World) (e : Ending) (w' : World) : Prop :=
  (∃ A c, e = .returned (.agg (outC (runS m f args steps) (.slice A (runS m f args steps).out.length c))) ∧ OwnO w' w.heap.size A c (runS m f args steps).out) ∧ Below w.heap.size w w'
theorem told_out {m : List FunD} {f : Nat} {args : List Int} {steps K : Nat} {w wr : World} {s : St} {A : Option Addr} {c : Nat} (hX : loopS m steps (startS f args) = s) (hs : OwnO wr K A c s.out) (hK : w.heap.size + 2 ≤ K) (hB : Below w.heap.size w wr) {cs : Array Value} :
    ToldO m f args steps w (.returned (.agg (outC s (.slice A s.out.length c)))) (wr.setRow w.heap.size cs) := by
  have e : runS m f args steps = s := hX
  refine ⟨⟨A, c, by rw [e], ?_⟩, ?_⟩
  · rw [e]
    exact hs.row (by omega) (by omega)
  · exact hB.trans ⟨rfl, rfl, rfl, by simp [World.setRow], fun k hk => setRow_other wr w.heap.size k cs (by omega)⟩

set_option maxRecDepth 100000 in
set_option maxHeartbeats 16000000 in
theorem outcome_any (m : List FunD) (w : World) (f : Nat) (args : List Int) (steps : Nat) (A Ag : Option Addr) (c cg : Nat) (hm : SL w 4 RFun A c m) (hg : SL w 1 RInt Ag cg args) (hsz : ∀ g ∈ m, g.blocks.length ≤ 70) (hm40 : m.length ≤ 40) (hP : Proper m) (F : FunD) (hF : m[f]? = some F) (ha : (args.length : Int) = F.params) (hsm : ∀ g ∈ m, ∀ b ∈ g.blocks, ∀ x ∈ b.ins, x.args.length ≤ 1000) (hst : steps ≤ 1048576) :
    Calls Try.prog 30 #[.slice A m.length c, .int .i64 f, .slice Ag args.length cg, .int .i64 steps] w (ToldO m f args steps w) := by
  obtain ⟨ia, p1, p2, p3, p4⟩ := info_parts Try.info80
  have HIA := Lib.hid (And.intro p1 (And.intro p2 (And.intro p3 p4)))
  clear p1 p2 p3 p4
  have hml := hm.len
  have HSZ := Lib.hid hsz
  have hz := zero_mac_set (.slice A m.length c)
  obtain ⟨w2, hw2⟩ : ∃ w2, w2 = (w.alloc (.cells Try.zeroCells49 49)).alloc (.cells (Try.zeroCells114.setIfInBounds 260 (.slice A m.length c)) 114) := ⟨_, rfl⟩
  have hs2 : w2.heap.size = w.heap.size + 2 := by rw [hw2]; simp
  have hB2 : Below w.heap.size w w2 := by rw [hw2]; exact ((Below.refl _ _).alloc (Nat.le_refl _) _).alloc (by simp) _
  have hmb : MacB (w.heap.size + 1) w2 zeroS (zeroQ (.slice A m.length c) (.slice none 0 0)) := by
    unfold MacB
    rw [hw2, ← hz]
    have := heap_alloc_new (w.alloc (.cells Try.zeroCells49 49)) (.cells (Try.zeroCells114.setIfInBounds 260 (.slice A m.length c)) 114)
    rwa [show (w.alloc (.cells Try.zeroCells49 49)).heap.size = w.heap.size + 1 by simp] at this
  have hres : w2.heap[w.heap.size]? = some (.cells Try.zeroCells49 49 (0, 0)) := by
    rw [hw2]; exact (Below.heap_alloc _ _ _ (by simp)).trans (heap_alloc_new w _)
  have HMB2 := Lib.hid hmb
  have HRES := Lib.hid hres
  have HM := Lib.hid hm
  have HG := Lib.hid hg
  have HALL := Lib.hid (proper_ok hP).2
  have HPR := Lib.hid hP
  have HSM := Lib.hid hsm
  have hokF := (proper_ok hP).2 F (List.mem_of_getElem? hF)
  have HOK := Lib.hid (start_ok hokF hF ha)
  have hal : args.length ≤ 256 := by have := hokF.par.2.1; omega
  have HST := Lib.hid hst
  clear hP hF ha hsm hokF
  clear hmb hres hz hsz
  go_enter Try.func30, Try.ntmps30
  go_wp2_with fail
  rw [← hw2]
  clear hw2
  go_loopw [17] (fun i wr => ∃ (k : Nat) (va : Value) (cs : List Value), k ≤ m.length ∧ i = .int .i64 k ∧ MacB (w.heap.size + 1) wr zeroS (zeroQ (.slice A m.length c) va) ∧ wr.ownsRow (w.heap.size + 2) 80 1 va k cs ∧
    Rows 1 (CAh (fun b => w.heap.size + 2 ≤ b ∧ some b ≠ va.ownBlock) wr) (m.take k) cs ∧ BB (w.heap.size + 2) (w.heap.size + 1) w2 wr) (fun i _ => m.length - (intOf i).toNat)
  case atStart => exact ⟨0, .slice none 0 0, [], Nat.zero_le _, rfl, HMB2.out, World.ownsRow_nil _ _ _ _, rfl, BB.refl _ _ _⟩
  case round =>
    obtain ⟨k, va, cs, hk, rfl, hmb, hown, hrows, hbb⟩ := hrel
    have hkw : Kept w wr := fun a v ha => by
      have h1 := block_lt_of_cell ha
      exact (World.cell?_of_block (hbb.block a.block (by omega) (by omega))).trans (kept_of_below hB2 a v ha)
    by_cases hkt : k < m.length
    · obtain ⟨b, o, g, rfl, hx, ⟨c0, z0⟩, ⟨c1, z1⟩, ⟨Ar, cr, c2, z2⟩, ⟨Ab, cb, c3, z3⟩⟩ := (SFuns.keep hkw HM.out).at_ hkt
      have hk0 : (0 : Int) ≤ k := by omega
      have hk1 : (k : Int) < m.length := by omega
      have hg70 := HSZ.out g (List.mem_of_getElem? hx.out)
      have HX := hx
      have HMB0 := Lib.hid hmb
      have HOW := Lib.hid hown
      have HRW := Lib.hid hrows
      have hNr : w.heap.size + 2 ≤ wr.heap.size := by have := hbb.size; omega
      have HVG := Lib.hid (And.intro z2 (And.intro z3 (And.intro z0 z1)))
      clear hx hmb hown hrows z0 z1 z2 z3
      go_wp2_with fail
      obtain ⟨w5, hw5, hs5, hk5, hB5, hc5, -⟩ := named wr #[.int .i64 g.params, .int .i64 g.result, .slice Ar g.regs.length cr, .slice Ab g.blocks.length cb] 43
      have d0 : w5.cell? ⟨wr.heap.size, 0, none⟩ = some (.int .i64 g.params) := hc5 0 _ rfl
      have d1 : w5.cell? ⟨wr.heap.size, 1, none⟩ = some (.int .i64 g.result) := hc5 1 _ rfl
      have d2 : w5.cell? ⟨wr.heap.size, 2, none⟩ = some (.slice Ar g.regs.length cr) := hc5 2 _ rfl
      have d3 : w5.cell? ⟨wr.heap.size, 3, none⟩ = some (.slice Ab g.blocks.length cb) := hc5 3 _ rfl
      have HMB : Hid (MacB (w.heap.size + 1) w5 zeroS (zeroQ (.slice (some ⟨b, o, none⟩) m.length c) va)) := Lib.hid ((hB5.block _ HMB0.out.lt).trans HMB0.out)
      have cva : w5.cell? ⟨w.heap.size + 1, 261, none⟩ = some va := HMB.out.cell (by omega)
      have HB5 : Hid (Below wr.heap.size wr w5) := Lib.hid hB5
      have hN5 : w.heap.size + 2 ≤ w5.heap.size := by omega
      have HAH := Lib.hid (ahead_any g (.agg #[.int .i64 g.params, .int .i64 g.result, .slice Ar g.regs.length cr, .slice Ab g.blocks.length cb]) w5.drew (VFun.keep (w := wr) (w' := w5.drew) (fun a v h => hk5 a v h) ⟨Ar, cr, Ab, cb, rfl, HVG.out.1, HVG.out.2.1, HVG.out.2.2.1, HVG.out.2.2.2⟩) (by omega))
      rw [← hw5]
      clear hw5 hs5 hk5 hB5 hc5 c0 c1 c2 c3 hkw HMB0 HVG
      refine wp_region_last (L := 11) (S := fun w' => w'.cell? ⟨w.heap.size + 1, 261, none⟩ = some va ∧ w'.cell? ⟨wr.heap.size, 0, none⟩ = some (.int .i64 g.params) ∧ w'.cell? ⟨wr.heap.size, 1, none⟩ = some (.int .i64 g.result) ∧ w'.cell? ⟨wr.heap.size, 2, none⟩ = some (.slice Ar g.regs.length cr) ∧ w'.cell? ⟨wr.heap.size, 3, none⟩ = some (.slice Ab g.blocks.length cb)) (by kernel_rfl) (by rfl) (by kernel_rfl) (by kernel_rfl) ?_
      change wpAnyH _ _ _ _ _ _ _ _ (World.drew _)
      have hS : ∀ w', Below w5.heap.size w5 w' → w'.cell? ⟨w.heap.size + 1, 261, none⟩ = some va ∧ w'.cell? ⟨wr.heap.size, 0, none⟩ = some (.int .i64 g.params) ∧ w'.cell? ⟨wr.heap.size, 1, none⟩ = some (.int .i64 g.result) ∧ w'.cell? ⟨wr.heap.size, 2, none⟩ = some (.slice Ar g.regs.length cr) ∧ w'.cell? ⟨wr.heap.size, 3, none⟩ = some (.slice Ab g.blocks.length cb) := fun w' h => ⟨kept_of_below h _ _ cva, kept_of_below h _ _ d0, kept_of_below h _ _ d1, kept_of_below h _ _ d2, kept_of_below h _ _ d3⟩
      have hS0 := hS w5.drew (Below.refl _ _).drew
      clear cva d0 d1 d2 d3
      refine takeH (i := 0) (some 21) (v := ?_) rfl (by kernel_rfl) (by kernel_rfl) (by kernel_rfl) (fun _ _ _ h => h) hS0 (fun o ho => ?_) ?_
      rotate_left
      · simp only [List.getElem?_toArray, List.getElem?_cons_zero, Option.some.injEq] at ho; subst ho; refine Or.inl ⟨by rfl, fun w' hSw => ?_⟩; (try dsimp only at hSw); go_simp; try with_reducible rfl
      simp only [Act.put, List.setIfInBounds_toArray, List.set_cons_zero, List.set_cons_succ]
      refine takeH (i := 1) (some 22) (v := ?_) rfl (by kernel_rfl) (by kernel_rfl) (by kernel_rfl) (fun _ _ _ h => h) hS0 (fun o ho => ?_) ?_
      rotate_left
      · simp only [List.getElem?_toArray, List.getElem?_cons_zero, List.getElem?_cons_succ, Option.some.injEq] at ho; subst ho; refine Or.inl ⟨by rfl, fun w' hSw => ?_⟩; (try dsimp only at hSw); go_simp; try with_reducible rfl
      simp only [Act.put, List.setIfInBounds_toArray, List.set_cons_zero, List.set_cons_succ]
      refine takeH (i := 2) (some 23) (v := ?_) rfl (by kernel_rfl) (by kernel_rfl) (by kernel_rfl) (fun _ _ _ h => h) hS0 (fun o ho => ?_) ?_
      rotate_left
      · simp only [List.getElem?_toArray, List.getElem?_cons_zero, List.getElem?_cons_succ, Option.some.injEq] at ho; subst ho; refine Or.inl ⟨by rfl, fun w' hSw => ?_⟩; (try dsimp only at hSw); go_simp; try with_reducible rfl
      simp only [Act.put, List.setIfInBounds_toArray, List.set_cons_zero, List.set_cons_succ]
      refine takeH (i := 3) (some 24) (v := ?_) rfl (by kernel_rfl) (by kernel_rfl) (by kernel_rfl) (fun _ _ _ h => h) hS0 (fun o ho => ?_) ?_
      rotate_left
      · simp only [List.getElem?_toArray, List.getElem?_cons_zero, List.getElem?_cons_succ, Option.some.injEq] at ho; subst ho; refine Or.inl ⟨by rfl, fun w' hSw => ?_⟩; (try dsimp only at hSw); go_simp; try with_reducible rfl
      simp only [Act.put, List.setIfInBounds_toArray, List.set_cons_zero, List.set_cons_succ]
      refine takeH (i := 4) (some 25) (v := ?_) rfl (by kernel_rfl) (by kernel_rfl) (by kernel_rfl) (fun _ _ _ h => h) hS0 (fun o ho => ?_) ?_
      rotate_left
      · simp only [List.getElem?_toArray, List.getElem?_cons_zero, List.getElem?_cons_succ, Option.some.injEq] at ho; subst ho; refine Or.inl ⟨by rfl, fun w' hSw => ?_⟩; (try dsimp only at hSw); go_simp; try with_reducible rfl
      simp only [Act.put, List.setIfInBounds_toArray, List.set_cons_zero, List.set_cons_succ]
      refine takeH (i := 5) (some 26) (v := ?_) rfl (by kernel_rfl) (by kernel_rfl) (by kernel_rfl) (fun _ _ _ h => h) hS0 (fun o ho => ?_) ?_
      rotate_left
      · simp only [List.getElem?_toArray, List.getElem?_cons_zero, List.getElem?_cons_succ, Option.some.injEq] at ho; subst ho; refine Or.inl ⟨by rfl, fun w' hSw => ?_⟩; (try dsimp only at hSw); go_simp; try with_reducible rfl
      simp only [Act.put, List.setIfInBounds_toArray, List.set_cons_zero, List.set_cons_succ]
      refine oneH (i := 6) (by kernel_rfl) (fun o ho K' hK => ?_)
      simp only [List.getElem?_toArray, List.getElem?_cons_zero, List.getElem?_cons_succ, Option.some.injEq] at ho; subst ho
      go_simp
      refine HAH.out.mono ?_
      rintro e wA ⟨⟨V, G, rfl, hG, hgrid⟩, hBA⟩
      have hBA2 : Below w5.heap.size w5 wA := ((Below.refl w5.heap.size w5).drew).trans hBA
      have hSA := hS wA hBA2
      go_wp2_with fail
      refine hK.out _ _ hSA ?_
      clear hK K'
      refine oneH (i := 7) (by kernel_rfl) (fun o ho K' hK => ?_)
      simp only [List.getElem?_toArray, List.getElem?_cons_zero, List.getElem?_cons_succ, Option.some.injEq] at ho; subst ho
      go_simp
      have hb8 : Below w5.heap.size w5 (wA.alloc (.cells #[.slice (some ⟨G, 0, none⟩) g.blocks.length g.blocks.length] 80)) := hBA2.alloc hBA2.size _
      refine hK.out _ _ (hS _ hb8) ?_
      clear hK K'
      refine oneH (i := 8) (by kernel_rfl) (fun o ho K' hK => ?_)
      simp only [List.getElem?_toArray, List.getElem?_cons_zero, List.getElem?_cons_succ, Option.some.injEq] at ho; subst ho
      have HOWA : Hid (wA.ownsRow (w.heap.size + 2) 80 1 va k cs) := Lib.hid (owns_keep HOW.out (fun g _ _ h => (hBA2.block g (Nat.lt_of_lt_of_le h HB5.out.size)).trans (HB5.out.block g h)))
      have hNA : w.heap.size + 2 ≤ wA.heap.size := Nat.le_trans hN5 hBA2.size
      refine step_append_lies _ (by rfl) _ _ _ (by rfl) (w.heap.size + 2) 80 ia (.slice none 0 0) 1 24 Try.underlying112 HIA.out.1 HIA.out.2.1 HIA.out.2.2.1 HIA.out.2.2.2 rfl (by decide) va k cs (by rfl) (HOWA.out.alloc _)
        ⟨wA.heap.size, 0, none⟩ 1 1 [.slice (some ⟨G, 0, none⟩) g.blocks.length g.blocks.length] (by rfl) (by rfl) (cell_one_new _ _ _) (by intro u hu; rw [List.mem_singleton.1 hu]; rfl) (by decide) (by unfold maxLen; omega) (by omega) (by simp; omega) (wA.heap.size + 1) (by simp) ?_
      intro g1 cap wC hownC hgrowC hlocC hltC
      have hGR : Hid (Gro wA wC va (.slice (some ⟨g1, 0, none⟩) (k + 1) cap)) := Lib.hid (gro_append2 (w := wA) hgrowC hlocC)
      have HMBA : Hid (MacB (w.heap.size + 1) wA zeroS (zeroQ (.slice (some ⟨b, o, none⟩) m.length c) va)) := Lib.hid ((hBA2.block _ HMB.out.lt).trans HMB.out)
      have hPv : va.ownBlock ≠ some (w.heap.size + 1) := by intro e; have := (HOW.out.lt _ e).1; omega
      have hbC := gro_block hGR.out HMBA.out hPv
      have kC : ∀ (a : Addr) (v : Value), va.ownBlock ≠ some a.block → wA.cell? a = some v → wC.cell? a = some v := fun a v hne hv => (World.cell?_of_block (hGR.out.block a.block (block_lt_of_cell hv) hne)).trans hv
      have hbx : va.ownBlock ≠ some wr.heap.size := by intro e; have := (HOW.out.lt _ e).2; omega
      have hSC : wC.cell? ⟨w.heap.size + 1, 261, none⟩ = some va ∧ wC.cell? ⟨wr.heap.size, 0, none⟩ = some (.int .i64 g.params) ∧ wC.cell? ⟨wr.heap.size, 1, none⟩ = some (.int .i64 g.result) ∧ wC.cell? ⟨wr.heap.size, 2, none⟩ = some (.slice Ar g.regs.length cr) ∧ wC.cell? ⟨wr.heap.size, 3, none⟩ = some (.slice Ab g.blocks.length cb) := ⟨hbC.cell (by omega), kC _ _ hbx hSA.2.1, kC _ _ hbx hSA.2.2.1, kC _ _ hbx hSA.2.2.2.1, kC _ _ hbx hSA.2.2.2.2⟩
      have xc : wC.cell? ⟨w.heap.size + 1, 261, none⟩ = some va := hSC.1
      have xf : wC.frozen? ⟨w.heap.size + 1, 261, none⟩ = false := hbC.free 261
      have HFIN := Lib.hid (ahead_push (N := w.heap.size + 2) (P := w.heap.size + 1) (by omega) hNA HMBA.out HOWA.out (HRW.out.imp fun fr cs hc => CAh.go (KeptB.of (kept_of_below (HB5.out.trans (hBA2.mono HB5.out.size)))) (fun _ h => h) hc) hGR.out (x := g) hownC
        (SL.imp (fun b o l hl => RRowB.go (B := fun b => w5.heap.size ≤ b) (B' := fun b => w.heap.size + 2 ≤ b ∧ some b ≠ va.ownBlock) (w := wA) (w' := wA) (fun _ _ _ h => h) (fun b hb => ⟨Nat.le_trans hN5 hb, fun e => by have := (HOW.out.lt b e.symm).2; have h9 : w5.heap.size ≤ b := hb; have := HB5.out.size; omega⟩) b o l hl) (grid_readsB hgrid hG (by omega))))
      refine hK.out _ _ hSC ?_
      clear hK K'
      simp only [Act.put, List.setIfInBounds_toArray, List.set_cons_zero, List.set_cons_succ]
      refine takeH (i := 9) (some 30) (v := ?_) rfl (by kernel_rfl) (by kernel_rfl) (by kernel_rfl) (fun _ _ _ h => h) hSC (fun o ho => ?_) ?_
      rotate_left
      · simp only [List.getElem?_toArray, List.getElem?_cons_zero, List.getElem?_cons_succ, Option.some.injEq] at ho; subst ho; refine Or.inl ⟨by rfl, fun w' hSw => ?_⟩; (try dsimp only at hSw); go_simp; try with_reducible rfl
      simp only [Act.put, List.setIfInBounds_toArray, List.set_cons_zero, List.set_cons_succ]
      refine takeH (i := 10) (some 31) (v := ?_) rfl (by kernel_rfl) (by kernel_rfl) (by kernel_rfl) (fun _ _ _ h => h) hSC (fun o ho => ?_) ?_
      rotate_left
      · simp only [List.getElem?_toArray, List.getElem?_cons_zero, List.getElem?_cons_succ, Option.some.injEq] at ho; subst ho; refine Or.inl ⟨by rfl, fun w' hSw => ?_⟩; (try dsimp only at hSw); go_simp; try with_reducible rfl
      simp only [Act.put, List.setIfInBounds_toArray, List.set_cons_zero, List.set_cons_succ]
      refine wpAnyH_done (by kernel_rfl) ?_ _
      refine lastH (by decide) (fun o ho K' hK => ?_)
      simp only [List.getElem?_toArray, List.getElem?_cons_zero, List.getElem?_cons_succ, Option.some.injEq] at ho; subst ho
      go_simp
      refine hK.out _ _ ?_
      clear hK K'
      have HBB7 : Hid (BB (w.heap.size + 2) (w.heap.size + 1) w2 (wC.setCell ⟨w.heap.size + 1, 261, none⟩ (.slice (some ⟨g1, 0, none⟩) (k + 1) cap))) := Lib.hid ((hbb.trans (BB.of_below (HB5.out.trans (hBA2.mono HB5.out.size)) hNr)).trans HFIN.out.2.2.2)
      clear hSC xc xf hbx kC hPv hbC HMBA hGR hownC hgrowC hlocC hltC hNA HOWA hb8 hSA hBA2 hBA hgrid hG hS hS0
      go_wp2_with fail
      go_roundw
      case rel => exact ⟨k + 1, .slice (some ⟨g1, 0, none⟩) (k + 1) cap, _, by omega, by go_num, HFIN.out.1, HFIN.out.2.1, by rw [take_succ_of HX.out]; exact HFIN.out.2.2.1, HBB7.out⟩
      case measure => simp [intOf]; omega
    · have e : m.take k = m := List.take_of_length_le (by omega)
      have hkm : k = m.length := by omega
      subst hkm
      rw [e] at hrows
      have hNr : w.heap.size + 2 ≤ wr.heap.size := by have := hbb.size; omega
      have HMA := Lib.hid (mac_made (w0 := w) HM.out hkw hNr hmb hown hrows)
      have HAR : Hid (VS wr 1 (RWB (fun b => b ≠ w.heap.size + 1)) (.slice Ag args.length cg) args) := Lib.hid ⟨Ag, cg, rfl, SL.imp (fun b o x hx => ⟨by have := block_lt_of_cell hx.1; dsimp only at this; omega, hkw _ _ hx.1⟩) HG.out⟩
      have HRS : Hid (wr.heap[w.heap.size]? = some (.cells Try.zeroCells49 49 (0, 0))) := Lib.hid ((hbb.block w.heap.size (by omega) (by omega)).trans HRES.out)
      have HBW : Hid (BB wr.heap.size (w.heap.size + 1) wr wr ∧ Below w.heap.size w wr) := Lib.hid ⟨BB.refl _ _ _, hB2.trans (hbb.below (by omega) (by omega))⟩
      clear e hmb hown hrows hbb hkw HRES
      go_wp2_with fail
      obtain ⟨wq, rfl⟩ : ∃ wq, wq = wr := ⟨wr, rfl⟩
      refine (enter_any wq.heap.size (w.heap.size + 1) m wq zeroS [] args _ f HMA.out HAR.out hal).mono ?_
      rintro e w3 ⟨rfl, h1, h2⟩
      have HM3 : Hid (Mac wq.heap.size (w.heap.size + 1) m w3 (loopS m 0 (startS f args)) []) := Lib.hid h1
      have HB3 := Lib.hid h2
      clear h1 h2
      go_wp2_with fail
      go_loopw [] (fun wr => ∃ (j : Nat) (rd : List Int), j ≤ steps ∧ Mac wq.heap.size (w.heap.size + 1) m wr (loopS m j (startS f args)) rd ∧ Hid ((loopS m j (startS f args)).steps = j) ∧ BB wq.heap.size (w.heap.size + 1) wq wr) (fun wr => steps - stepsIn (w.heap.size + 1) wr)
      case atStart => exact ⟨0, [], Nat.zero_le _, HM3.out, Lib.hid rfl, HB3.out⟩
      case round =>
        obtain ⟨j, rd, hj, hmac, hjs, hbb⟩ := hrel
        have HJS := hjs
        have hmeas := stepsIn_of hmac
        rw [hjs.out] at hmeas
        have HNX := Lib.hid (loopS_succ m j (startS f args))
        have HADD := Lib.hid (loopS_add m j (steps - j) (startS f args))
        have HOKJ := Lib.hid (loop_ok HPR.out j _ HOK.out)
        have HLEN := Lib.hid (loop_lens m j (startS f args))
        generalize hs : loopS m j (startS f args) = s at *
        have HSD := Lib.hid hs
        obtain ⟨q, hb, -⟩ := id hmac
        have cst : wr.cell? ⟨w.heap.size + 1, 267, none⟩ = some (.int .i64 j) := (hb.cell (by omega)).trans (by show some (Value.int .i64 (s.steps : Int)) = _; rw [HJS.out])
        have fst_ := hb.free 267
        have cdn : wr.cell? ⟨w.heap.size + 1, 263, none⟩ = some (.bool s.done) := hb.cell (by omega)
        have HMJ := Lib.hid hmac
        clear hb hmac hs
        have exit_ : Hid (s.done = true ∨ j = steps → loopS m steps (startS f args) = s) := Lib.hid (fun h => by
          rcases h with h | h
          · have e := HADD.out
            rw [show j + (steps - j) = steps by omega, loopS_done h] at e
            exact e
          · rw [← h]; exact HSD.out)
        by_cases hjt : j < steps
        · cases hd : s.done
          · rw [hd] at cdn
            have HT := Lib.hid (mac_tick HMJ.out)
            have HN2 : Hid (loopS m (j + 1) (startS f args) = stepS m (tickS s)) := Lib.hid (by rw [HNX.out, hd]; rfl)
            have HTJ : Hid (((s.steps : Int) + 1) = (j : Int) + 1) := Lib.hid (by rw [HJS.out])
            rw [HTJ.out] at HT
            have j0 : (0 : Int) ≤ j := by omega
            have j1 : (j : Int) < steps := by omega
            have j2 : (steps : Int) ≤ 1048576 := by omega
            have HMS := Lib.hid hmeas
            have HSTA : Hid ((tickS s).stack.length ≤ 1048576 ∧ (tickS s).out.length ≤ 1048576) := Lib.hid (by
              have h1 := HLEN.out
              have e1 : (startS f args).stack.length = 0 := rfl
              have e2 : (startS f args).out.length = 0 := rfl
              rw [e1, e2] at h1
              have e3 : (tickS s).stack = s.stack := rfl
              have e4 : (tickS s).out = s.out := rfl
              rw [e3, e4]
              omega)
            have HBJ := Lib.hid hbb
            clear hd hjs hmeas hbb
            go_wp2_with fail
            refine (step_any wq.heap.size (w.heap.size + 1) m _ (tickS s) rd HT.out.1 HALL.out HSM.out (tick_ok HOKJ.out) HSTA.out.1 HSTA.out.2).mono ?_
            rintro e w4 ⟨rfl, ⟨rd', z1⟩, z2⟩
            have z3 := stepsIn_of z1
            have z4 : (stepS m (tickS s)).steps = j + 1 := by rw [stepS_steps]; show s.steps + 1 = _; rw [HJS.out]
            have HZ1 := Lib.hid z1
            have HZ2 := Lib.hid ((HBJ.out.trans HT.out.2).trans z2)
            have HZ4 := Lib.hid z4
            have HZ5 : Hid (steps - stepsIn (w.heap.size + 1) w4 < steps - stepsIn (w.heap.size + 1) wr) := Lib.hid (by rw [HMS.out, z3, z4]; omega)
            clear z1 z2 z3 z4 cst cdn fst_
            go_wp2_with fail
            go_roundw
            case rel => exact ⟨j + 1, rd', by omega, by rw [HN2.out]; exact HZ1.out, Lib.hid (by rw [HN2.out]; exact HZ4.out), HZ2.out⟩
            case measure => exact HZ5.out
          · rw [hd] at cdn
            have HX := Lib.hid (exit_.out (.inl hd))
            have j1 : (j : Int) < steps := by omega
            clear hmeas hjs
            obtain ⟨q, hb, he, hd', hP, hK⟩ := HMJ.out
            obtain ⟨Ao, co, hvo, -⟩ := sl_of_own hd'.outv rfl
            have hso := hd'.outv; rw [hvo] at hso
            have hld := load_out hb
            rw [hvo] at hld
            have hres : wr.heap[w.heap.size]? = some (.cells Try.zeroCells49 49 (0, 0)) := (hbb.block w.heap.size (by omega) (by omega)).trans HRS.out
            have hst' := store_out (s := s) (vo := .slice Ao s.out.length co) hres zero_out_size rfl
            have hgw := setRow_heap wr w.heap.size _ (outC s (.slice Ao s.out.length co)) _ _ hres
            have HTO := Lib.hid (told_out (cs := outC s (.slice Ao s.out.length co)) HX.out hso (by omega) (HBW.out.2.trans (hbb.below (by omega) (by omega))))
            have HGW := Lib.hid hgw
            clear hb he hd' hvo hso hres hgw hbb hal hs2 hB2 hNr
            go_upto_region 11 with fail
            go_step
            go_step
            go_simp
            go_step
            go_step
            go_simp
            go_step
            go_step
            go_simp
            go_step
            refine wpList_load_any wr rfl 49 (.tmp 65) rfl _ (by rfl) hld ?_
            refine wpList_store_any wr rfl 49 (.tmp 8) (.tmp 66) rfl _ _ (by rfl) (by rfl) hst' ?_
            go_wp2_with fail
            refine bodyPost_ret (results_cell_row rfl _ _ w.heap.size 49 (outC s (.slice Ao s.out.length co)) (0, 0) _ (by rfl) HGW.out Try.underlying49 (by rfl) (by rw [outC_size]; exact out_size)) rfl ?_
            exact HTO.out
        · have HX := Lib.hid (exit_.out (.inr (by omega)))
          have j1 : decide ((j : Int) < steps) = false := by simp; omega
          clear hmeas hjs
          obtain ⟨q, hb, he, hd', hP, hK⟩ := HMJ.out
          obtain ⟨Ao, co, hvo, -⟩ := sl_of_own hd'.outv rfl
          have hso := hd'.outv; rw [hvo] at hso
          have hld := load_out hb
          rw [hvo] at hld
          have hres : wr.heap[w.heap.size]? = some (.cells Try.zeroCells49 49 (0, 0)) := (hbb.block w.heap.size (by omega) (by omega)).trans HRS.out
          have hst' := store_out (s := s) (vo := .slice Ao s.out.length co) hres zero_out_size rfl
          have hgw := setRow_heap wr w.heap.size _ (outC s (.slice Ao s.out.length co)) _ _ hres
          have HTO := Lib.hid (told_out (cs := outC s (.slice Ao s.out.length co)) HX.out hso (by omega) (HBW.out.2.trans (hbb.below (by omega) (by omega))))
          have HGW := Lib.hid hgw
          clear hb he hd' hvo hso hres hgw hbb hal hs2 hB2 hNr
          go_upto_region 11 with fail
          go_step
          go_step
          go_simp
          go_step
          go_step
          go_simp
          go_step
          go_step
          go_simp
          go_step
          refine wpList_load_any wr rfl 49 (.tmp 65) rfl _ (by rfl) hld ?_
          refine wpList_store_any wr rfl 49 (.tmp 8) (.tmp 66) rfl _ _ (by rfl) (by rfl) hst' ?_
          go_wp2_with fail
          refine bodyPost_ret (results_cell_row rfl _ _ w.heap.size 49 (outC s (.slice Ao s.out.length co)) (0, 0) _ (by rfl) HGW.out Try.underlying49 (by rfl) (by rw [outC_size]; exact out_size)) rfl ?_
          exact HTO.out
end Go.Proofs.Ytcjmhdneelmbhaa
