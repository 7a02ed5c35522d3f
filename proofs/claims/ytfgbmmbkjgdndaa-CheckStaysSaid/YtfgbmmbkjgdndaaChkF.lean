/- Func, given that ofInstr does what the document says: that it answers, and what it leaves alone. -/
import Derived.Test.YtfgbmmbkjgdndaaChkE
namespace Go.Proofs.Ytfgbmmbkjgdndaa
open Go.ChangeShapes Go.WideShapes Go.RowKit Go.Deep
set_option linter.unusedVariables false

set_option maxRecDepth 100000 in
set_option maxHeartbeats 4000000 in
theorem func_any (OI : OfIns) (m : List FunD) (n : Int) (vm : Value) (w : World) (hm : VMod w vm m) (hn : I64 n) (hlim : ∀ f ∈ m, Lim f) :
    Calls Try.prog 13 #[vm, .int .i64 n] w fun e w' => (∃ v, e = .returned v) ∧ Below w.heap.size w w' := by
  have hm0 := hm
  obtain ⟨Am, cm, rfl, hms⟩ := hm
  have hml := hms.len
  obtain ⟨hn1, hn2⟩ := hn
  by_cases h1 : n < 0
  · go_enter Try.func13, Try.ntmps13
    go_wp2_with fail
    go_ret
    exact ⟨⟨_, rfl⟩, (Below.refl _ _).alloc (Nat.le_refl _) _⟩
  · obtain ⟨k, rfl⟩ := Int.eq_ofNat_of_zero_le (Int.not_lt.1 h1)
    by_cases h2 : k < m.length
    · go_enter Try.func13, Try.ntmps13
      obtain ⟨bb, oo, f, rfl, hf, ⟨z0, y0⟩, ⟨z1, y1⟩, ⟨Ar, cr, z2, y2⟩, Ab, cb, z3, y3⟩ := hms.at_ h2
      have hlf : Hid (Lim f) := Lib.hid (hlim f (List.mem_of_getElem? hf.out))
      have hk1 : (k : Int) < m.length := by omega
      go_wp2_with fail
      obtain ⟨w1, hw1, hs1, hk1', hB1, hc1, -⟩ := named w #[.slice (some ⟨bb, oo, none⟩) m.length cm] 30
      rw [← hw1]
      have q0 : w1.cell? ⟨w.heap.size, 0, none⟩ = some (.slice (some ⟨bb, oo, none⟩) m.length cm) := hc1 0 _ rfl
      have u0 := hk1' _ _ z0
      have u1 := hk1' _ _ z1
      have u2 := hk1' _ _ z2
      have u3 := hk1' _ _ z3
      clear hw1 hc1 z0 z1 z2 z3
      go_still_tail 6, (by kernel_rfl)
      change wpList _ _ _ _ _ w1.drew
      have hvm : VMod w1.drew (.agg #[.slice (some ⟨bb, oo, none⟩) m.length cm]) m := VMod.keep (w' := w1) hk1' hm0
      have hvf : VFun w1.drew (.agg #[.int .i64 f.params, .int .i64 f.result, .slice Ar f.regs.length cr, .slice Ab f.blocks.length cb]) f := VFun.keep (w := w) (w' := w1) hk1' ⟨Ar, cr, Ab, cb, rfl, y2, y3, y0, y1⟩
      have hBd : Below w.heap.size w w1.drew := hB1.drew
      generalize w1.drew = w2 at *
      go_wp2_with fail
      refine (ofFunc_any OI m f _ _ _ hvm hvf hlf.out).mono ?_
      rintro e w3 ⟨rfl, hb3⟩
      have hB3 : Below w.heap.size w w3 := hBd.trans (hb3.mono hBd.size)
      go_wp2_with fail
      go_ret
      exact ⟨⟨_, rfl⟩, hB3⟩
    · go_enter Try.func13, Try.ntmps13
      go_wp2_with fail
      go_ret
      exact ⟨⟨_, rfl⟩, (Below.refl _ _).alloc (Nat.le_refl _) _⟩

end Go.Proofs.Ytfgbmmbkjgdndaa
