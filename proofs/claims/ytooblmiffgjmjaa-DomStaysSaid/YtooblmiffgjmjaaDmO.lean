/- Rows of truths that stay; small of the statements of layer 6. -/
import Derived.Test.YtooblmiffgjmjaaDmX
namespace Go.Proofs.Ytooblmiffgjmjaa
open Go.ChangeShapes Go.WideShapes Go.RowKit Go.Deep
set_option linter.unusedVariables false

theorem BGr.below {w w' : World} {G D0 n : Nat} {M : Nat → Nat → Bool} (h : BGr w G D0 n M) (hb : Below w.heap.size w w') : BGr w' G D0 n M :=
  ⟨h.row.of_block (hb.block G h.row.lt), fun a ha => (h.cells a ha).of_block (hb.block _ (h.cells a ha).lt), h.lt⟩
set_option maxRecDepth 100000 in
set_option maxHeartbeats 8000000 in
theorem small6_any (f : FunD) (v : Value) (w : World) (hv : VFun w v f) : Calls Try.prog 16 #[v] w (Says (SmallF f) w.heap.size w) := by
  have hv0 := hv
  obtain ⟨Ar, cr, A, c, rfl, hr, hb, hp, hres⟩ := hv
  go_enter Try.func16, Try.ntmps16
  go_upto_region 1 with fail
  obtain ⟨w1, hw1, hs1, hk1, hbel1, hc1, -⟩ := named w #[.int .i64 f.params, .int .i64 f.result, .slice Ar f.regs.length cr, .slice A f.blocks.length c] 25
  rw [← hw1]
  have c0 := hc1 0 _ rfl
  have c1 := hc1 1 _ rfl
  have c2 := hc1 2 _ rfl
  have c3 := hc1 3 _ rfl
  have HB1 := Lib.hid hbel1
  have HK1 := Lib.hid hk1
  clear hw1 hs1 hc1 hk1 hbel1
  go_wp2_with fail
  have hrf : RFun (w1.alloc (.cells #[.int .i64 f.params, .int .i64 f.result, .slice Ar f.regs.length cr, .slice A f.blocks.length c] 25)) w1.heap.size 0 f := by
    have hkk : Kept w (w1.alloc (.cells #[.int .i64 f.params, .int .i64 f.result, .slice Ar f.regs.length cr, .slice A f.blocks.length c] 25)) := HK1.out.trans (kept_alloc _ _)
    exact RFun.of_cells (fun i u hu => (World.cell?_alloc_at (w := w1) _ _ _ i rfl).trans hu) (SInts.keep hkk hr) (SBlks.keep hkk hb) hp hres
  refine (small_any [f] _ _ ⟨_, _, rfl, SL.one hrf⟩).mono ?_
  rintro e w3 ⟨⟨bs, rfl, hsm⟩, hb3⟩
  have HB3 : Hid (Below w.heap.size w w3) := Lib.hid ((HB1.out.alloc HB1.out.size _).trans (hb3.mono (by have := HB1.out.size; simp; omega)))
  have HSM := Lib.hid hsm
  clear hsm hb3 hrf c0 c1 c2 c3
  go_wp2_with fail
  go_ret
  exact ⟨⟨bs, rfl, fun h => (HSM.out h).2 f (by simp)⟩, HB3.out⟩

end Go.Proofs.Ytooblmiffgjmjaa
