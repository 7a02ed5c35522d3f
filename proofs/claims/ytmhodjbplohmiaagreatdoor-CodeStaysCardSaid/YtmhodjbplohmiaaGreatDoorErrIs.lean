/- errors.Is of a Spot at its Code; Is. -/
import Derived.Test.YtmhodjbplohmiaaGreatDoorErrAs
import Derived.Test.YtmhodjbplohmiaaGreatDoorInsG
namespace Go.Proofs.YtmhodjbplohmiaaGreatDoor
open Go.ChangeShapes Go.WideShapes Go.RowKit Go.Deep Go.Extern.Stop Go.Stop Go.Extern
set_option linter.unusedVariables false

set_option maxRecDepth 100000 in
set_option maxHeartbeats 4000000 in
/-- Its loop: the Spot isn't it, what it bears is. -/
theorem is_loop (g : Nat) (c : Int) (w : World) (hs : w.cell? ⟨g, 1, none⟩ = some (.iface 45 (.int .i64 c))) :
    Calls Tryz.prog 55 #[.iface 62 (.pointer (some ⟨g, 0, none⟩)), .iface 45 (.int .i64 c), .bool true] w fun ev w' => ev = .returned (.bool true) ∧ w' = w := by
  have c4 := asrt_spotIs
  have c5 := asrt_spotUnwrap
  have mU := rlf_methodUnwrap
  have q1 := fun v u w => run_eql_iface_types (P := Tryz.prog) 62 45 v u Tryz.underlying29 (by decide) w
  have q2 := eqlErr
  go_enter Tryz.func55, Tryz.ntmps55
  go_wp2
  refine wp_loop_rounds 2 ?_
  rw [rounds_succ]
  go_wp2
  rw [rounds_succ]
  go_wp2
  go_ret
  exact ⟨rfl, rfl⟩

set_option maxRecDepth 100000 in
set_option maxHeartbeats 4000000 in
/-- errors.Is of a Spot at the Code that it bears. -/
theorem is_spot (g : Nat) (c : Int) (w : World) (hs : w.cell? ⟨g, 1, none⟩ = some (.iface 45 (.int .i64 c))) :
    Calls Tryz.prog 33 #[.iface 62 (.pointer (some ⟨g, 0, none⟩)), .iface 45 (.int .i64 c)] w fun ev w' => ev = .returned (.bool true) ∧ w' = w := by
  have h10 := @run_callFunc_extern Tryz.prog 54 _ ReflectliteType.typeOf Tryz.func54 (by kernel_rfl) (by kernel_rfl) (by kernel_rfl) (by kernel_rfl)
  have h69 := @run_callFunc_extern Tryz.prog 137 _ (ReflectliteType.method (fun t => do Rtype.noPackHeld "Comparable" t; pure (.bool (← typeInfo t).comparable))) Tryz.func137 (by kernel_rfl) (by kernel_rfl) (by kernel_rfl) (by kernel_rfl)
  have tO := rlf_typeOfCode
  have mC := rlf_methodComparable
  have cC := rlf_comparableCode
  have c4 := asrt_spotIs
  have c5 := asrt_spotUnwrap
  have mU := rlf_methodUnwrap
  have q1 := fun v u w => run_eql_iface_types (P := Tryz.prog) 62 45 v u Tryz.underlying29 (by decide) w
  have q2 := eqlErr
  go_enter Tryz.func33, Tryz.ntmps33
  go_wp2_with fail
  refine (is_loop g c w hs).mono ?_
  rintro e w' ⟨rfl, rfl⟩
  go_wp2_with fail
  go_ret
  exact ⟨rfl, rfl⟩

theorem spotInfo : Tryz.prog.info? 62 = some ((Tryz.prog.info? 62).get!) := by kernel_rfl
theorem spotComp : ((Tryz.prog.info? 62).get!).comparable = true := by kernel_rfl
theorem spotPInfo : Tryz.prog.info? 67 = some ((Tryz.prog.info? 67).get!) := by kernel_rfl
theorem neqSpot (a : Addr) (w : World) : (binOp .neq 29 (.iface 62 (.pointer (some a))) (.iface 62 (.pointer (some a)))).run Tryz.prog w = .ok (.bool false) w := by
  have h := run_equalIn_iface_ptr_same (P := Tryz.prog) (w := w) 9998 (ti := 29) (tp := 62) a Tryz.underlying29 Tryz.underlying62 spotInfo spotComp spotPInfo
  simp only [binOp]
  simp [Op.equal, Op.maxDepth, h]

set_option maxRecDepth 100000 in
set_option maxHeartbeats 4000000 in
/-- Is, of a Spot at its place with its Code. -/
theorem is_any (g : Nat) (c n : Int) (w : World) (hg : w.cell? ⟨0, 0, none⟩ = some (.iface 128 (.agg #[.pointer (some ⟨1, 29, none⟩)]))) (h0 : w.cell? ⟨g, 0, none⟩ = some (.int .i64 n)) (h1 : w.cell? ⟨g, 1, none⟩ = some (.iface 45 (.int .i64 c))) :
    Calls Tryz.prog 16 #[.iface 62 (.pointer (some ⟨g, 0, none⟩)), .int .i64 n, .int .i64 c] w fun e w' => e = .returned (.bool true) ∧ Below w.heap.size w w' := by
  have q2 := eqlErr
  have hlt : 0 < w.heap.size := by
    rcases Nat.eq_zero_or_pos w.heap.size with h0 | h
    · simp [World.cell?, h0] at hg
    · exact h
  have q1 := neqSpot
  go_enter Tryz.func16, Tryz.ntmps16
  go_wp2_with fail
  obtain ⟨w1, hw1, hs1, hk1, hb1, hc1, hf1⟩ := named w #[.pointer none] 62
  rw [← hw1]
  refine (as_spot ⟨g, 0, none⟩ ⟨w.heap.size, 0, none⟩ (.pointer none) w1 (hk1 _ _ hg) (hc1 0 _ rfl) (hf1 0)).mono ?_
  rintro e w2 ⟨rfl, hw2⟩
  have hb2 : Below w.heap.size w w2 := by
    rw [hw2]
    exact ((((hb1.alloc hb1.size _).alloc (by simp; omega) _).alloc (by simp; omega) _).alloc (by simp; omega) _).setCell (Nat.le_refl _) _
  have hc2 : w2.cell? ⟨w.heap.size, 0, none⟩ = some (.pointer (some ⟨g, 0, none⟩)) := by
    rw [hw2]
    have hbx : w1.heap[w.heap.size]? = some (.cells #[.pointer none] 62 (0, 0)) := by rw [hw1]; exact heap_alloc_new _ _
    have hl1 : w.heap.size < w1.heap.size := by omega
    have e : ∀ (W : World) (o : Obj), W.heap[w.heap.size]? = some (.cells #[.pointer none] 62 (0, 0)) → (W.alloc o).heap[w.heap.size]? = some (.cells #[.pointer none] 62 (0, 0)) := fun W o h => by
      have hl := block_lt h
      show (W.heap.push o)[w.heap.size]? = _
      rw [Array.getElem?_push, if_neg (by omega)]; exact h
    have h4 := set_of_block (i := 0) (.pointer (some ⟨g, 0, none⟩)) (e _ (.cells #[.pointer (some ⟨g, 0, none⟩)] 62) (e _ (.cells #[.pointer (some ⟨1, 64, none⟩), .pointer (some ⟨w1.heap.size, 0, none⟩), .int .u64 150] 97) (e _ (.cells #[.pointer (some ⟨1, 64, none⟩), .pointer (some ⟨w1.heap.size, 0, none⟩), .int .u64 150] 97) (e _ (.cells #[.pointer (some ⟨w.heap.size, 0, none⟩)] 64) hbx))))
    exact cell_of_heap h4 0
  clear hw2 hc1 hf1 hw1 hs1
  have h0 := kept_of_below hb2 _ _ h0
  have h1 := kept_of_below hb2 _ _ h1
  have hs2 : w.heap.size < w2.heap.size := block_lt_of_cell hc2
  go_wp2_with fail
  refine (is_spot g c w2 h1).mono ?_
  rintro e w' ⟨rfl, rfl⟩
  go_wp2_with fail
  go_ret
  exact ⟨rfl, hb2⟩
end Go.Proofs.YtmhodjbplohmiaaGreatDoor
