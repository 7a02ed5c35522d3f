/- Trim's smaller functions: copies of lists, new numbers, the blocks ahead. -/
import Derived.Test.YtooblmiffgjmjaaGrP
import Derived.WalkSpells
namespace Go.Proofs.Ytooblmiffgjmjaa
open Go.ChangeShapes Go.WideShapes Go.RowKit Go.Deep
set_option linter.unusedVariables false

/-- An append whose run is known. -/
theorem wpList_append_runs {ops : Array Oper} {rest : List Oper} {o : Oper} {a : Act} {w : World} {Q : Exit → Act → World → Prop} (hgd : o.guard = none) (s x : Operand) (t t' : TypeId)
    (ho : o.op = .call { callee := .builtin .append, args := #[s, x], argTypes := #[t, t'] }) (vs vx : Value) (hs : a.eval s = vs) (hx : a.eval x = vx) {v' : Value} {w' : World}
    (hr : (Builtin.append_ #[t, t'] o.type #[vs, vx]).run Try.prog w = .ok v' w')
    (h : wpList Try.prog ops Q rest (a.put o.dst v') w') : wpList Try.prog ops Q (o :: rest) a w := by
  refine wpList_plain hgd fun K hK => ?_
  unfold Oper.wp execOp
  simp only [ho, resolve, invoke, builtin, Sem.run_bind, Sem.run_pure, Result.andThen_ok, List.map_toArray, List.map_cons, List.map_nil, hs, hx, hr]
  exact hK _ _ h

/-- What slices.Clone tells of a list of numbers. -/
def ToldC_ (xs : List Int) (w : World) (e : Ending) (w' : World) : Prop := (∃ v, e = .returned v ∧ w'.ownsRow w.heap.size 3 1 v xs.length (xs.map (Value.int .i64))) ∧ Below w.heap.size w w'

set_option maxRecDepth 100000 in
theorem cloneInts_any (xs : List Int) (v : Value) (w : World) (hv : VS w 1 RInt v xs) (hn : xs.length ≤ 1000000) : Calls Try.prog 32 #[v] w (ToldC_ xs w) := by
  obtain ⟨A, c, rfl, hs⟩ := hv
  have heq := Lib.run_eql_slice_nil (P := Try.prog) w 22 3 A xs.length c 0 0 Try.underlying22
  cases A with
  | none =>
    obtain rfl : xs = [] := by
      rcases Nat.eq_zero_or_pos xs.length with h0 | h0
      · exact List.length_eq_zero_iff.1 h0
      · obtain ⟨b, o, e, _⟩ := hs.2.2 h0; cases e
    obtain rfl : c = 0 := hs.2.1.2 rfl
    clear hs heq
    have heq := Lib.run_eql_slice_nil (P := Try.prog) w 22 3 none 0 0 0 0 Try.underlying22
    go_enter Try.func32, Try.ntmps32
    go_wp2_with (simp only [heq, Option.isNone])
    go_ret
    exact ⟨⟨_, rfl, World.ownsRow_nil _ _ _ _⟩, Below.refl _ _⟩
  | some ad =>
    obtain ⟨v', w', hr, -, hg, hown, -⟩ := run_append_copy 22 (w := w.alloc (.cells #[] 3)) (heap_alloc_new w (.cells #[] 3)) (SInts.keep (kept_alloc w _) hs) rfl hn
    have hB : Below w.heap.size w w' := ((Below.refl w.heap.size w).alloc (Nat.le_refl _) (.cells #[] 3)).grown hg (by simp) (fun k hk => by have := Option.some.inj hk; omega)
    have HF := Lib.hid (And.intro hown hB)
    clear hown hB hg hs
    go_enter Try.func32, Try.ntmps32
    go_wp2_with (first | (at_builtin; refine wpList_append_runs rfl (.tmp 5) (.tmp 6) 22 22 rfl _ _ rfl rfl hr ?_) | simp only [heq, Option.isNone])
    go_ret
    exact ⟨⟨v', rfl, HF.out.1⟩, HF.out.2⟩

/-! ### New numbers -/
def ToldNums (r : Nat → Bool) (n : Nat) (w : World) (e : Ending) (w' : World) : Prop :=
  (∃ G, e = .returned (.slice (some ⟨G, 0, none⟩) n n) ∧ w.heap.size ≤ G ∧ w'.rowIs G 3 n (fun i => .int .i64 (numB r i))) ∧ Below w.heap.size w w'

set_option maxRecDepth 100000 in
set_option maxHeartbeats 4000000 in
theorem numbersOf_any (H n : Nat) (r : Nat → Bool) (w : World) (hrow : w.rowIs H 4 n (fun x => .bool (r x))) (hn : n ≤ 1000000) :
    Calls Try.prog 30 #[.slice (some ⟨H, 0, none⟩) n n] w (ToldNums r n w) := by
  have hmk2 := run_make_row' (P := Try.prog) 22 3 (.int .i64 0) 8 Try.underlying22 Try.info3 rfl .i64 .i64 n (by omega) (by omega)
  go_enter Try.func30, Try.ntmps30
  go_wp2_with fail
  clear hmk2
  have hg0 := World.rowIs_made w (.int .i64 0) n 3
  have hb0 : Below w.heap.size w (w.alloc (.cells (madeCells #[.int .i64 0] n) 3)) := (Below.refl _ _).alloc (Nat.le_refl _) _
  obtain ⟨G, hG⟩ : ∃ G, G = w.heap.size := ⟨_, rfl⟩
  have HG := Lib.hid hG
  have hr0 := hrow.of_block (hb0.block H hrow.lt)
  have hHG : H < G := by rw [hG]; exact hrow.lt
  rw [← hG] at hg0 hb0 ⊢
  generalize w.alloc (.cells (madeCells #[.int .i64 0] n) 3) = w1 at *
  clear hrow hG
  go_loopw [4, 12] (fun m i wr => ∃ k : Nat, k ≤ n ∧ i = .int .i64 k ∧ m = .int .i64 ((List.range k).countP r) ∧ wr.rowIs H 4 n (fun x => .bool (r x)) ∧ wr.rowIs G 3 n (fun j => .int .i64 (if j < k then numB r j else 0)) ∧ Below G w wr) (fun _ i _ => n - (intOf i).toNat)
  case atStart => exact ⟨0, Nat.zero_le _, rfl, rfl, hr0, hg0.congr fun j _ => by simp, hb0⟩
  case round =>
    obtain ⟨k, hk, rfl, rfl, hrr, hgr, hbr⟩ := hrel
    have HRR := Lib.hid hrr
    have HBR := Lib.hid hbr
    by_cases hlt : k < n
    · have hc := hrr.cell hlt
      have hgc := hgr.cell hlt
      have hgf := hgr.frozen k
      have hcs := countP_range_succ r k
      have hcl := countP_range_le r k
      have hset (x : Int) (hx : x = numB r k) := (hgr.set k (.int .i64 x)).congr (g := fun j => .int .i64 (if j < k + 1 then numB r j else 0)) fun j _ => by
        by_cases e : j = k
        · subst e; simp [hx]
        · have : (j < k + 1) = (j < k) := by rw [eq_iff_iff]; omega
          simp only [if_neg e, this]
      have HSET := Lib.hid hset
      have HCS := Lib.hid hcs
      clear hset hcs hrr hgr hbr
      cases hrk : r k
      · rw [hrk] at hc
        have hm : Hid ((-1 : Int) = numB r k) := Lib.hid (by unfold numB; rw [hrk]; rfl)
        have hcc : Hid ((List.range (k + 1)).countP r = (List.range k).countP r) := Lib.hid (by rw [HCS.out, hrk]; rfl)
        clear hrk
        generalize (List.range k).countP r = m at *
        go_wp2_with fail
        go_roundw
        case rel => exact ⟨k + 1, by omega, by go_num, by rw [hcc.out], HRR.out.setOther (by show H ≠ G; omega) _, HSET.out _ hm.out, HBR.out.setCell (by show G ≤ G; omega) _⟩
        case measure => simp [intOf]; omega
      · rw [hrk] at hc
        have hm : Hid ((((List.range k).countP r : Nat) : Int) = numB r k) := Lib.hid (by unfold numB; rw [if_pos hrk])
        have hcc : Hid ((List.range (k + 1)).countP r = (List.range k).countP r + 1) := Lib.hid (by rw [HCS.out, hrk]; rfl)
        clear hrk
        generalize (List.range k).countP r = m at *
        go_wp2_with fail
        go_roundw
        case rel => exact ⟨k + 1, by omega, by go_num, by rw [hcc.out]; go_num, HRR.out.setOther (by show H ≠ G; omega) _, HSET.out _ hm.out, HBR.out.setCell (by show G ≤ G; omega) _⟩
        case measure => simp [intOf]; omega
    · have HGR := Lib.hid (hgr.congr (g := fun j => .int .i64 (numB r j)) fun j hj => by rw [if_pos (by omega)])
      clear hgr
      go_wp2_with fail
      go_ret
      exact ⟨⟨G, rfl, by have := HG.out; omega, HGR.out⟩, by rw [← HG.out]; exact HBR.out⟩
end Go.Proofs.Ytooblmiffgjmjaa
