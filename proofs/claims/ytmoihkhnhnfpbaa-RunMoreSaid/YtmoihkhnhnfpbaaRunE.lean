/- Two arrays of numbers are equal as their numbers are; the document's Same. -/
import Derived.Test.YtmoihkhnhnfpbaaRunL
import Derived.Laws.StructEq
namespace Go.Proofs.Ytmoihkhnhnfpbaa
open Go.ChangeShapes Go.WideShapes Go.RowKit Go.Deep
set_option linter.unusedVariables false

theorem all_range_ints : ∀ (xs ys : List Int), xs.length = ys.length → ((List.range xs.length).all fun i => xs.getD i 0 == ys.getD i 0) = (xs == ys)
  | [], [], _ => rfl
  | x :: xs, y :: ys, h => by
    have ih := all_range_ints xs ys (by simpa using h)
    rw [List.length_cons, List.range_succ_eq_map, List.all_cons, List.all_map]
    simp only [List.getD_cons_zero, Function.comp_def, List.getD_cons_succ, ih]
    simp [List.cons_beq_cons]
  | [], _ :: _, h => by simp at h
  | _ :: _, [], h => by simp at h
section
variable {P : Program} (w : World)
theorem run_equalIn_words (d : Nat) (t e : TypeId) (n : Nat) (ht : P.underlying t = some (.array n e)) (he : P.underlying e = some (.int .i64)) (hsz : ∀ w, (sizeOf e).run P w = .ok 1 w)
    (xs ys : List Int) (hx : xs.length = n) (hy : ys.length = n) :
    (Op.equalIn (d + 2) t (.agg (xs.map (Value.int .i64)).toArray) (.agg (ys.map (Value.int .i64)).toArray)).run P w = .ok (xs == ys) w := by
  rw [← all_range_ints xs ys (hx.trans hy.symm), hx, List.range_eq_range', Op.equalIn]
  simp only [Sem.run_bind, run_underlying ht, Result.andThen_ok, hsz, Std.Legacy.Range.forIn_eq_forIn_range', Std.Legacy.Range.size, Nat.sub_zero, Nat.add_sub_cancel, Nat.div_one]
  have hl : ∀ i ∈ List.range' 0 n 1, i < n := fun i hi => by simpa using (List.mem_range'_1.1 hi).2
  generalize List.range' 0 n 1 = l at hl ⊢
  induction l with
  | nil => simp
  | cons i l ih =>
    have hi : i < n := hl i (by simp)
    have px : (part e (xs.map (Value.int .i64)).toArray (i * 1)).run P w = .ok (Value.int .i64 (xs.getD i 0)) w := by
      simp [part, isAgg, run_underlying he, List.getD, List.getElem?_eq_getElem (show i < xs.length by omega)]
    have py : (part e (ys.map (Value.int .i64)).toArray (i * 1)).run P w = .ok (Value.int .i64 (ys.getD i 0)) w := by
      simp [part, isAgg, run_underlying he, List.getD, List.getElem?_eq_getElem (show i < ys.length by omega)]
    have pe : (Op.equalIn (d + 1) e (Value.int .i64 (xs.getD i 0)) (Value.int .i64 (ys.getD i 0))).run P w = .ok (xs.getD i 0 == ys.getD i 0) w := run_equalIn_int w d e .i64 .i64 _ _ he
    simp only [List.forIn_cons, Sem.run_bind, px, py, pe, Result.andThen_ok, List.all_cons]
    cases hb : (xs.getD i 0 == ys.getD i 0)
    · simp
    · simp only [Bool.not_true, Bool.false_eq_true, if_false, Sem.run_pure, Result.andThen_ok, Bool.true_and]
      exact ih fun j hj => hl j (by simp [hj])
end
/-- The words of memory. -/
def memL (s : St) : List Int := (List.range 64).map s.mem
def memC (s : St) : Array Value := ((memL s).map (Value.int .i64)).toArray
theorem memL_len (s : St) : (memL s).length = 64 := by simp [memL]
theorem memC_get (s : St) {i : Nat} (hi : i < 64) : (memC s)[i]? = some (.int .i64 (s.mem i)) := by
  unfold memC memL
  rw [List.getElem?_toArray, List.getElem?_map, List.getElem?_map, List.getElem?_range hi]; rfl
theorem size_word (w : World) : (sizeOf 2).run Try.prog w = .ok 1 w := by kernel_rfl
theorem eq_mem (s t : St) (w : World) : (Op.equalIn 10000 29 (.agg (memC s)) (.agg (memC t))).run Try.prog w = .ok (memL s == memL t) w :=
  run_equalIn_words w 9998 29 2 64 Try.underlying29 Try.underlying2 size_word _ _ (memL_len s) (memL_len t)
theorem words_size : (Try.prog.info? 29).map (·.size) = some 64 := by kernel_rfl
/-- Memory is loaded whole, out of an outcome's block. -/
theorem load_mem {g o : Nat} {w : World} {s : St} (h : ∀ i, i < 64 → w.cell? ⟨g, o + i, none⟩ = some (.int .i64 (s.mem i))) : (Instr.loadAt 29 (.pointer (some ⟨g, o, none⟩))).run Try.prog w = .ok (.agg (memC s)) w := by
  have hl := run_loadCells_list (P := Try.prog) (w := w) ⟨g, o, none⟩ (memC s).toList (fun j v hv => by
    rw [add_plain']
    rw [Array.getElem?_toList] at hv
    have hj : j < 64 := by
      have := (Array.getElem?_eq_some_iff.1 hv).1
      simpa [memC, memL_len] using this
    rw [memC_get s hj] at hv
    rw [h j hj]; exact hv)
  have hs : (memC s).toList.length = 64 := by simp [memC, memL_len]
  rw [hs, Array.toArray_toList] at hl
  have hagg : (isAgg 29).run Try.prog w = .ok true w := by
    unfold isAgg
    rw [Sem.run_bind, run_underlying Try.underlying29 w]
    rfl
  have hsz : (sizeOf 29).run Try.prog w = .ok 64 w := by
    have := words_size
    cases hq : Try.prog.info? 29 with
    | none => simp [hq] at this
    | some i => simp [hq] at this; simp [sizeOf, typeInfo, hq, this]
  simp only [Instr.loadAt, Instr.sureAddr, loadVar, Sem.run_bind, Sem.run_pure, Result.andThen_ok, hagg, hsz, hl, if_true]
/-- A load that is wanted. -/
theorem wpList_load_w {P : Program} (w : World) {ops : Array Oper} {rest : List Oper} {o : Oper} {a : Act} {Q : Exit → Act → World → Prop} (hw : Region.wanted o (yielded ops a.tmps) = true) (t : TypeId) (x : Operand)
    (ho : o.op = .load t x) (v : Value) (hv : a.eval x = v) {u : Value} {w' : World} (hr : (Instr.loadAt t v).run P w = .ok u w') (h : wpList P ops Q rest (a.put o.dst u) w') : wpList P ops Q (o :: rest) a w :=
  wpList_step fun K hK => by
    rw [if_pos hw]
    unfold Oper.wp execOp
    simp only [ho, Sem.run_bind, Sem.run_pure, Result.andThen_ok, hv, hr]
    exact hK _ _ h

def sameS (s t : St) : Bool := decide (s.done = t.done ∧ s.trap = t.trap ∧ s.value = t.value ∧ s.steps = t.steps ∧ memL s = memL t ∧ s.out = t.out)
end Go.Proofs.Ytmoihkhnhnfpbaa
