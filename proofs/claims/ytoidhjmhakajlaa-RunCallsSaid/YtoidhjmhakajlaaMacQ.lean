/- An outcome is loaded and stored whole. -/
import Derived.Test.YtoidhjmhakajlaaMacO
import Derived.Deep.WholeRow
namespace Go.Proofs.Ytoidhjmhakajlaa
open Go.ChangeShapes Go.WideShapes Go.RowKit Go.Deep
set_option linter.unusedVariables false

/-- An outcome's cells. -/
def outC (s : St) (vo : Value) : Array Value := Array.ofFn (n := 69) fun i => cellM s ⟨.slice none 0 0, .slice none 0 0, .slice none 0 0, .slice none 0 0, vo⟩ (263 + i.val)
theorem outC_size (s : St) (vo : Value) : (outC s vo).size = 69 := by simp [outC]
theorem outC_get (s : St) (q : MV) {i : Nat} (hi : i < 69) : (outC s q.vo)[i]? = some (cellM s q (263 + i)) := by
  unfold outC
  rw [Array.getElem?_ofFn, dif_pos hi]
  congr 1
  show cellM s _ (263 + i) = cellM s q (263 + i)
  by_cases h : 263 + i < 268
  · rw [cellM_mid _ _ (by omega) h, cellM_mid _ _ (by omega) h]
    unfold midC
    rw [if_neg (show ¬ 263 + i = 259 by omega), if_neg (show ¬ 263 + i = 260 by omega), if_neg (show ¬ 263 + i = 261 by omega), if_neg (show ¬ 263 + i = 262 by omega), if_neg (show ¬ 263 + i = 259 by omega), if_neg (show ¬ 263 + i = 260 by omega), if_neg (show ¬ 263 + i = 261 by omega), if_neg (show ¬ 263 + i = 262 by omega)]
  · rw [cellM_hi _ _ (by omega), cellM_hi _ _ (by omega)]
theorem out_size : (Try.prog.info? 31).map (·.size) = some 69 := by kernel_rfl
theorem load_out {P : Nat} {w : World} {s : St} {q : MV} (hb : MacB P w s q) : (Instr.loadAt 31 (.pointer (some ⟨P, 263, none⟩))).run Try.prog w = .ok (.agg (outC s q.vo)) w := by
  have hl := run_loadCells_list (P := Try.prog) (w := w) ⟨P, 263, none⟩ (outC s q.vo).toList (fun j v hv => by
    rw [add_plain']
    have hj : j < 69 := by have := (List.getElem?_eq_some_iff.1 hv).1; rwa [Array.length_toList, outC_size] at this
    rw [Array.getElem?_toList, outC_get s q hj] at hv
    rw [hb.cell (by omega)]; exact hv)
  rw [Array.length_toList, outC_size, Array.toArray_toList] at hl
  have hagg : (isAgg 31).run Try.prog w = .ok true w := by
    unfold isAgg
    rw [Sem.run_bind, run_underlying Try.underlying31 w]
    rfl
  have hsz : (sizeOf 31).run Try.prog w = .ok 69 w := by
    have := out_size
    cases hq : Try.prog.info? 31 with
    | none => simp [hq] at this
    | some i => simp [hq] at this; simp [sizeOf, typeInfo, hq, this]
  simp only [Instr.loadAt, Instr.sureAddr, loadVar, Sem.run_bind, Sem.run_pure, Result.andThen_ok, hagg, hsz, hl, if_true]
theorem out_one (s : St) (vo : Value) (h : vo.oneCell' = true) : (outC s vo).all (·.oneCell') = true := by
  rw [Array.all_eq_true_iff_forall_mem]
  intro v hv
  obtain ⟨i, hi, rfl⟩ := Array.getElem_of_mem hv
  have hi69 : i < 69 := by rwa [outC_size] at hi
  have e := outC_get s ⟨.slice none 0 0, .slice none 0 0, .slice none 0 0, .slice none 0 0, vo⟩ hi69
  rw [Array.getElem?_eq_getElem hi] at e
  rw [Option.some.inj e]
  by_cases h2 : 263 + i < 268
  · rw [cellM_mid _ _ (by omega) h2]
    unfold midC
    repeat' split
    all_goals first | rfl | exact h
  · rw [cellM_hi _ _ (by omega)]; rfl
theorem store_out {g : Nat} {w : World} {s : St} {vo : Value} {old : Array Value} (hg : w.heap[g]? = some (.cells old 31 (0, 0))) (ho : old.size = 69) (h : vo.oneCell' = true) :
    (Instr.storeAt 31 (.pointer (some ⟨g, 0, none⟩)) (.agg (outC s vo))).run Try.prog w = .ok () (w.setRow g (outC s vo)) := by
  have := run_storeVar_row (P := Try.prog) w g 31 31 old (outC s vo) hg (by rw [outC_size]; exact out_size) (by rw [outC_size]; exact ho) (out_one s vo h)
  simp only [Instr.storeAt, Instr.sureAddr, Sem.run_bind, Sem.run_pure, Result.andThen_ok, this]
theorem zero_out_size : Try.zeroCells31.size = 69 := by kernel_rfl

theorem wpList_load_any {P : Program} (w : World) {ops : Array Oper} {rest : List Oper} {o : Oper} {a : Act} {Q : Exit → Act → World → Prop} (hgd : o.guard = none) (t : TypeId) (x : Operand)
    (ho : o.op = .load t x) (v : Value) (hv : a.eval x = v) {u : Value} {w' : World} (hr : (Instr.loadAt t v).run P w = .ok u w') (h : wpList P ops Q rest (a.put o.dst u) w') : wpList P ops Q (o :: rest) a w :=
  wpList_plain hgd fun _ hK => by
    unfold Oper.wp execOp
    simp only [ho, Sem.run_bind, Sem.run_pure, Result.andThen_ok, hv, hr]
    exact hK _ _ h
theorem wpList_store_any {P : Program} (w : World) {ops : Array Oper} {rest : List Oper} {o : Oper} {a : Act} {Q : Exit → Act → World → Prop} (hgd : o.guard = none) (t : TypeId) (x y : Operand)
    (ho : o.op = .store t x y) (v u : Value) (hv : a.eval x = v) (hu : a.eval y = u) {w' : World} (hr : (Instr.storeAt t v u).run P w = .ok () w') (h : wpList P ops Q rest (a.put o.dst undef) w') : wpList P ops Q (o :: rest) a w :=
  wpList_plain hgd fun _ hK => by
    unfold Oper.wp execOp
    simp only [ho, Sem.run_bind, Sem.run_pure, Result.andThen_ok, hv, hu, hr]
    exact hK _ _ h
end Go.Proofs.Ytoidhjmhakajlaa
