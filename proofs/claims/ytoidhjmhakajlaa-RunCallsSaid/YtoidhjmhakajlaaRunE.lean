/- Two arrays of numbers are equal as their numbers are; the document's Same. -/
import Derived.Test.YtoidhjmhakajlaaMacS
import Derived.Laws.StructEq
namespace Go.Proofs.Ytoidhjmhakajlaa
open Go.ChangeShapes Go.WideShapes Go.RowKit Go.Deep
set_option linter.unusedVariables false

/-- Does the one begin the other? -/
def beginsB (a b : List Int) : Bool := decide (b.take a.length = a)
theorem begins_long {a b : List Int} (h : b.length < a.length) : beginsB a b = false := by
  unfold beginsB
  rw [decide_eq_false_iff_not]
  intro e
  have := congrArg List.length e
  rw [List.length_take] at this; omega
theorem begins_stop {a b : List Int} {j : Nat} {x y : Int} (hx : a[j]? = some x) (hy : b[j]? = some y) (h : x ≠ y) : beginsB a b = false := by
  unfold beginsB
  rw [decide_eq_false_iff_not]
  intro e
  have hj := (List.getElem?_eq_some_iff.1 hx).1
  rw [← e, List.getElem?_take, if_pos hj, hy] at hx
  exact h (Option.some.inj hx).symm
theorem take_both {a b : List Int} {j : Nat} {x : Int} (hx : a[j]? = some x) (hy : b[j]? = some x) (h : a.take j = b.take j) : a.take (j + 1) = b.take (j + 1) := by
  rw [take_succ_of hx, take_succ_of hy, h]
theorem begins_done {a b : List Int} {j : Nat} (h : a.take j = b.take j) (hj : a.length ≤ j) (hl : a.length ≤ b.length) (hj2 : j ≤ a.length) : beginsB a b = true := by
  obtain rfl : j = a.length := by omega
  unfold beginsB
  rw [decide_eq_true_iff, ← h, List.take_length]

set_option maxRecDepth 100000 in
set_option maxHeartbeats 4000000 in
theorem begins_any (a b : List Int) (A B : Option Addr) (c d : Nat) (w : World) (ha : SL w 1 RW A c a) (hb : SL w 1 RW B d b) :
    Calls Try.prog 11 #[.slice A a.length c, .slice B b.length d] w fun e w' => e = .returned (.bool (beginsB a b)) ∧ ∃ n, w' = w.drewN n := by
  have hal := ha.len
  have hbl := hb.len
  by_cases hl : b.length < a.length
  · have HE := Lib.hid (begins_long hl)
    go_enter Try.func11, Try.ntmps11
    go_wp2_with fail
    go_ret
    exact ⟨by rw [HE.out]; rfl, 0, rfl⟩
  · have hlb : ¬ ((b.length : Int) < a.length) := by omega
    have HL : Hid (a.length ≤ b.length) := Lib.hid (by omega)
    go_enter Try.func11, Try.ntmps11
    go_wp2_with fail
    go_loopw [5] (fun i wr => ∃ j q : Nat, j ≤ a.length ∧ i = .int .i64 j ∧ Hid (a.take j = b.take j) ∧ wr = w.drewN q) (fun i _ => a.length - (intOf i).toNat)
    case atStart => exact ⟨0, 0, Nat.zero_le _, rfl, Lib.hid rfl, rfl⟩
    case round =>
      obtain ⟨j, q, hj, rfl, hi, rfl⟩ := hrel
      by_cases hjt : j < a.length
      · have hjb : j < b.length := by have := HL.out; omega
        obtain ⟨b1, o1, x, rfl, hx, hxc⟩ := ha.at_ hjt
        obtain ⟨b2, o2, y, rfl, hy, hyc⟩ := hb.at_ hjb
        rw [Nat.mul_one] at hxc hyc
        have hxc : w.cell? ⟨b1, o1 + j, none⟩ = some (.int .i64 x) := hxc
        have hyc : w.cell? ⟨b2, o2 + j, none⟩ = some (.int .i64 y) := hyc
        have hj0 : (0 : Int) ≤ j := by omega
        have hj1 : (j : Int) < a.length := by omega
        have hj2 : (j : Int) < b.length := by omega
        by_cases hxy : x = y
        · have hxb : (x != y) = false := by simp [hxy]
          have HN : Hid (a.take (j + 1) = b.take (j + 1)) := Lib.hid (take_both hx.out (by rw [hxy]; exact hy.out) hi.out)
          clear hxy
          go_wp2_with fail
          go_quiet (fail)
          go_wp2_with fail
          go_roundw
          case rel => exact ⟨j + 1, _, by omega, by go_num, HN, rfl⟩
          case measure => simp [intOf]; omega
        · have hxb : (x != y) = true := by simp [hxy]
          have HE := Lib.hid (begins_stop hx.out hy.out hxy)
          clear hxy
          go_wp2_with fail
          go_quiet (fail)
          go_wp2_with fail
          go_ret
          exact ⟨by rw [HE.out]; rfl, _, by rw [World.drewN_drewN]⟩
      · have HE := Lib.hid (begins_done hi.out (Nat.le_of_not_lt hjt) HL.out hj)
        go_wp2_with fail
        go_ret
        exact ⟨by rw [HE.out]; rfl, q, rfl⟩
theorem alike_any (a b : List Int) (A B : Option Addr) (c d : Nat) (w : World) (ha : SL w 1 RW A c a) (hb : SL w 1 RW B d b) :
    Calls Try.prog 12 #[.slice A a.length c, .slice B b.length d] w fun e w' => e = .returned (.bool (decide (a = b))) ∧ ∃ n, w' = w.drewN n := by
  have HB := Lib.hid (begins_any a b A B c d w ha hb)
  by_cases hl : a.length = b.length
  · have hlb : ((a.length : Int) == b.length) = true := by rw [hl]; simp
    have HE : Hid (beginsB a b = decide (a = b)) := Lib.hid (by
      unfold beginsB
      rw [hl, List.take_length]
      by_cases h : a = b
      · rw [decide_eq_true h, decide_eq_true h.symm]
      · rw [decide_eq_false h, decide_eq_false (fun e => h e.symm)])
    clear ha hb hl
    go_enter Try.func12, Try.ntmps12
    go_wp2_with fail
    refine HB.out.mono ?_
    rintro e w' ⟨rfl, n, rfl⟩
    rw [HE.out]
    go_wp2_with fail
    go_ret
    exact ⟨rfl, n, rfl⟩
  · have hlb : ((a.length : Int) == b.length) = false := by rw [beq_eq_false_iff_ne]; omega
    have HE : Hid (decide (a = b) = false) := Lib.hid (decide_eq_false (fun e => hl (congrArg List.length e)))
    clear ha hb hl
    go_enter Try.func12, Try.ntmps12
    go_wp2_with fail
    go_ret
    exact ⟨by rw [HE.out]; rfl, 0, rfl⟩

/-- So many steps, at most. -/
def fewZ (s : Int) : Int := if 1000 < s ∧ s ≤ 1048576 then s % 1000 else s
theorem few_any (s : Int) (w : World) (hs : I64 s) : Calls Try.prog 8 #[.int .i64 s] w fun e w' => e = .returned (.int .i64 (fewZ s)) ∧ w' = w := by
  obtain ⟨h1, h2⟩ := hs
  by_cases ha : 1000 < s
  · by_cases hb : s ≤ 1048576
    · have HE : Hid (fewZ s = s % 1000) := Lib.hid (by unfold fewZ; rw [if_pos ⟨ha, hb⟩])
      go_enter Try.func8, Try.ntmps8
      go_wp2_with fail
      go_ret
      exact ⟨by rw [HE.out]; rfl, rfl⟩
    · have HE : Hid (fewZ s = s) := Lib.hid (by unfold fewZ; rw [if_neg (fun h => hb h.2)])
      have hbb : decide (s ≤ 1048576) = false := decide_eq_false hb
      go_enter Try.func8, Try.ntmps8
      go_wp2_with fail
      go_ret
      exact ⟨by rw [HE.out]; rfl, rfl⟩
  · have HE : Hid (fewZ s = s) := Lib.hid (by unfold fewZ; rw [if_neg (fun h => ha h.1)])
    have hab : decide (1000 < s) = false := decide_eq_false ha
    go_enter Try.func8, Try.ntmps8
    go_wp2_with fail
    go_ret
    exact ⟨by rw [HE.out]; rfl, rfl⟩

theorem all_range_ints : ∀ (xs ys : List Int), xs.length = ys.length → ((List.range xs.length).all fun i => xs.getD i 0 == ys.getD i 0) = (xs == ys)
  | [], [], _ => rfl
  | x :: xs, y :: ys, h => by
    have ih := all_range_ints xs ys (by simpa using h)
    rw [List.length_cons, List.range_succ_eq_map, List.all_cons, List.all_map]
    simp only [List.getD_cons_zero, Function.comp_def, List.getD_cons_succ, ih]
    simp [List.cons_beq_cons]
  | [], _ :: _, h => by simp at h
  | _ :: _, [], h => by simp at h
section
variable {P : Program} (w : World)
theorem run_equalIn_words (d : Nat) (t e : TypeId) (n : Nat) (ht : P.underlying t = some (.array n e)) (he : P.underlying e = some (.int .i64)) (hsz : ∀ w, (sizeOf e).run P w = .ok 1 w)
    (xs ys : List Int) (hx : xs.length = n) (hy : ys.length = n) :
    (Op.equalIn (d + 2) t (.agg (xs.map (Value.int .i64)).toArray) (.agg (ys.map (Value.int .i64)).toArray)).run P w = .ok (xs == ys) w := by
  rw [← all_range_ints xs ys (hx.trans hy.symm), hx, List.range_eq_range', Op.equalIn]
  simp only [Sem.run_bind, run_underlying ht, Result.andThen_ok, hsz, Std.Legacy.Range.forIn_eq_forIn_range', Std.Legacy.Range.size, Nat.sub_zero, Nat.add_sub_cancel, Nat.div_one]
  have hl : ∀ i ∈ List.range' 0 n 1, i < n := fun i hi => by simpa using (List.mem_range'_1.1 hi).2
  generalize List.range' 0 n 1 = l at hl ⊢
  induction l with
  | nil => simp
  | cons i l ih =>
    have hi : i < n := hl i (by simp)
    have px : (part e (xs.map (Value.int .i64)).toArray (i * 1)).run P w = .ok (Value.int .i64 (xs.getD i 0)) w := by
      simp [part, isAgg, run_underlying he, List.getD, List.getElem?_eq_getElem (show i < xs.length by omega)]
    have py : (part e (ys.map (Value.int .i64)).toArray (i * 1)).run P w = .ok (Value.int .i64 (ys.getD i 0)) w := by
      simp [part, isAgg, run_underlying he, List.getD, List.getElem?_eq_getElem (show i < ys.length by omega)]
    have pe : (Op.equalIn (d + 1) e (Value.int .i64 (xs.getD i 0)) (Value.int .i64 (ys.getD i 0))).run P w = .ok (xs.getD i 0 == ys.getD i 0) w := run_equalIn_int w d e .i64 .i64 _ _ he
    simp only [List.forIn_cons, Sem.run_bind, px, py, pe, Result.andThen_ok, List.all_cons]
    cases hb : (xs.getD i 0 == ys.getD i 0)
    · simp
    · simp only [Bool.not_true, Bool.false_eq_true, if_false, Sem.run_pure, Result.andThen_ok, Bool.true_and]
      exact ih fun j hj => hl j (by simp [hj])
end
/-- The words of memory. -/
def memL (s : St) : List Int := (List.range 64).map s.mem
def memC (s : St) : Array Value := ((memL s).map (Value.int .i64)).toArray
theorem memL_len (s : St) : (memL s).length = 64 := by simp [memL]
theorem memC_get (s : St) {i : Nat} (hi : i < 64) : (memC s)[i]? = some (.int .i64 (s.mem i)) := by
  unfold memC memL
  rw [List.getElem?_toArray, List.getElem?_map, List.getElem?_map, List.getElem?_range hi]; rfl
theorem size_word (w : World) : (sizeOf 2).run Try.prog w = .ok 1 w := by kernel_rfl
theorem eq_mem (s t : St) (w : World) : (Op.equalIn 10000 29 (.agg (memC s)) (.agg (memC t))).run Try.prog w = .ok (memL s == memL t) w :=
  run_equalIn_words w 9998 29 2 64 Try.underlying29 Try.underlying2 size_word _ _ (memL_len s) (memL_len t)
theorem words_size : (Try.prog.info? 29).map (·.size) = some 64 := by kernel_rfl
/-- Memory is loaded whole, out of an outcome's block. -/
theorem load_mem {g o : Nat} {w : World} {s : St} (h : ∀ i, i < 64 → w.cell? ⟨g, o + i, none⟩ = some (.int .i64 (s.mem i))) : (Instr.loadAt 29 (.pointer (some ⟨g, o, none⟩))).run Try.prog w = .ok (.agg (memC s)) w := by
  have hl := run_loadCells_list (P := Try.prog) (w := w) ⟨g, o, none⟩ (memC s).toList (fun j v hv => by
    rw [add_plain']
    rw [Array.getElem?_toList] at hv
    have hj : j < 64 := by
      have := (Array.getElem?_eq_some_iff.1 hv).1
      simpa [memC, memL_len] using this
    rw [memC_get s hj] at hv
    rw [h j hj]; exact hv)
  have hs : (memC s).toList.length = 64 := by simp [memC, memL_len]
  rw [hs, Array.toArray_toList] at hl
  have hagg : (isAgg 29).run Try.prog w = .ok true w := by
    unfold isAgg
    rw [Sem.run_bind, run_underlying Try.underlying29 w]
    rfl
  have hsz : (sizeOf 29).run Try.prog w = .ok 64 w := by
    have := words_size
    cases hq : Try.prog.info? 29 with
    | none => simp [hq] at this
    | some i => simp [hq] at this; simp [sizeOf, typeInfo, hq, this]
  simp only [Instr.loadAt, Instr.sureAddr, loadVar, Sem.run_bind, Sem.run_pure, Result.andThen_ok, hagg, hsz, hl, if_true]
/-- A load that is wanted. -/
theorem wpList_load_w {P : Program} (w : World) {ops : Array Oper} {rest : List Oper} {o : Oper} {a : Act} {Q : Exit → Act → World → Prop} (hw : Region.wanted o (yielded ops a.tmps) = true) (t : TypeId) (x : Operand)
    (ho : o.op = .load t x) (v : Value) (hv : a.eval x = v) {u : Value} {w' : World} (hr : (Instr.loadAt t v).run P w = .ok u w') (h : wpList P ops Q rest (a.put o.dst u) w') : wpList P ops Q (o :: rest) a w :=
  wpList_step fun K hK => by
    rw [if_pos hw]
    unfold Oper.wp execOp
    simp only [ho, Sem.run_bind, Sem.run_pure, Result.andThen_ok, hv, hr]
    exact hK _ _ h

def sameS (s t : St) : Bool := decide (s.done = t.done ∧ s.trap = t.trap ∧ s.value = t.value ∧ s.steps = t.steps ∧ memL s = memL t ∧ s.out = t.out)
end Go.Proofs.Ytoidhjmhakajlaa
