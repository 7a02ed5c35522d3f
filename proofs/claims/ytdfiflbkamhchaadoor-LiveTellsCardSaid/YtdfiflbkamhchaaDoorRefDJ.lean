/- The reference's shape of a block's end. -/
import Derived.Test.YtdfiflbkamhchaaDoorRefCJ
import Derived.Deep.QuietTactic
import Derived.BigQuiet
namespace Go.Proofs.YtdfiflbkamhchaaDoor
open Go.ChangeShapes Go.WideShapes Go.RowKit Go.Deep
set_option linter.unusedVariables false

set_option maxRecDepth 100000 in
set_option maxHeartbeats 8000000 in
theorem shape_any (f : FunD) (t : TermD) (v u : Value) (w : World) (hv : VFun w v f) (hu : VTerm w u t) :
    Calls Tryd.prog 49 #[v, u] w fun e w' => e = .returned (.bool (shapeB f.blocks.length t)) ∧ Below w.heap.size w w' := by
  obtain ⟨Ar, cr, Ab, cb, rfl, hr, hb, hp64, hr64⟩ := hv
  obtain ⟨At, ct, rfl, hto, hk64, ha64⟩ := hu
  have hbl := hb.len
  have htl := hto.len
  obtain ⟨w1, hw1⟩ : ∃ w1, w1 = ((w.alloc (.cells #[.int .i64 f.params, .int .i64 f.result, .slice Ar f.regs.length cr, .slice Ab f.blocks.length cb] 41)).alloc (.cells #[.int .i64 t.kind, .int .i64 t.arg, .slice At t.to.length ct] 48)) := ⟨_, rfl⟩
  have hB : Below w.heap.size w w1 := by rw [hw1]; exact ((Below.refl _ _).alloc (Nat.le_refl _) _).alloc (by simp) _
  have hto := SInts.keep (kept_of_below hB) hto
  have hc3 : w1.cell? ⟨w.heap.size, 3, none⟩ = some (.slice Ab f.blocks.length cb) := by rw [hw1]; simp
  have hd0 : w1.cell? ⟨w.heap.size + 1, 0, none⟩ = some (.int .i64 t.kind) := by rw [hw1]; simp
  have hd2 : w1.cell? ⟨w.heap.size + 1, 2, none⟩ = some (.slice At t.to.length ct) := by rw [hw1]; simp
  have hs1 : w.heap.size + 1 < w1.heap.size := by rw [hw1]; simp
  go_enter Tryd.func49, Tryd.ntmps49
  go_wp2_with fail
  rw [← hw1]
  clear hw1
  go_loopw [5] (fun i wr => ∃ j q : Nat, j ≤ t.to.length ∧ i = .int .i64 j ∧ Hid ((t.to.take j).all (toB f.blocks.length) = true) ∧ wr = w1.drewN q) (fun i _ => t.to.length - (intOf i).toNat)
  case atStart => exact ⟨0, 0, Nat.zero_le _, rfl, Lib.hid rfl, rfl⟩
  case round =>
    obtain ⟨j, q, hj, rfl, hj2, rfl⟩ := hrel
    by_cases hjt : j < t.to.length
    · obtain ⟨b', o', x, rfl, hx, hxc, -⟩ := hto.int hjt
      have hk0 : (0 : Int) ≤ j := by omega
      have hk1 : (j : Int) < t.to.length := by omega
      by_cases x1 : x < 1
      · have HF : Hid (toB f.blocks.length x = false) := Lib.hid (decide_eq_false (by omega))
        have x1' : decide (x < 1) = true := by simpa using x1
        clear x1
        go_wp2_with fail
        go_quiet (fail)
        go_wp2_with fail
        go_ret
        exact ⟨by rw [show shapeB f.blocks.length t = false by unfold shapeB; rw [all_stop hx.out HF.out]; simp]; rfl, below_drewN (below_drewN hB _) _⟩
      · have x1' : decide (x < 1) = false := by simpa using x1
        by_cases x2 : (f.blocks.length : Int) ≤ x
        · have HF : Hid (toB f.blocks.length x = false) := Lib.hid (decide_eq_false (by omega))
          have x2' : decide ((f.blocks.length : Int) ≤ x) = true := by simpa using x2
          clear x1 x2
          go_wp2_with fail
          go_quiet (fail)
          go_wp2_with fail
          go_ret
          exact ⟨by rw [show shapeB f.blocks.length t = false by unfold shapeB; rw [all_stop hx.out HF.out]; simp]; rfl, below_drewN (below_drewN hB _) _⟩
        · have HF : Hid (toB f.blocks.length x = true) := Lib.hid (decide_eq_true (by omega))
          have x2' : decide ((f.blocks.length : Int) ≤ x) = false := by simpa using x2
          clear x1 x2
          go_wp2_with fail
          go_quiet (fail)
          go_wp2_with fail
          go_roundw
          case rel => exact ⟨j + 1, _, by omega, by go_num, Lib.hid (by rw [all_step hx.out hj2.out]; exact HF.out), rfl⟩
          case measure => simp [intOf]; omega
    · have hd := all_done hj2.out (Nat.le_of_not_lt hjt)
      have HD : Hid (shapeB f.blocks.length t = tosB t) := Lib.hid (by unfold shapeB; rw [hd, Bool.and_true])
      clear hd hj2
      by_cases k1 : t.kind = 1
      · have HT : Hid (tosB t = decide (t.to.length = 1)) := Lib.hid (by unfold tosB; rw [if_pos k1])
        have k1' : (t.kind == 1) = true := by simp [k1]
        have k2' : (t.kind == 2) = false := by simp [k1]
        have k3' : (t.kind == 3) = false := by simp [k1]
        by_cases l1 : t.to.length = 1
        · have l1' : ((t.to.length : Int) == 1) = true := by simp [l1]
          have HT' : Hid (tosB t = true) := Lib.hid (by rw [HT.out, decide_eq_true l1])
          clear k1 l1 HT
          go_wp2_with fail
          go_quiet (fail)
          go_wp2_with fail
          go_ret
          exact ⟨by rw [HD.out, HT'.out]; rfl, below_drewN (below_drewN hB _) _⟩
        · have l1' : ((t.to.length : Int) == 1) = false := by simp; omega
          have HT' : Hid (tosB t = false) := Lib.hid (by rw [HT.out, decide_eq_false l1])
          clear k1 l1 HT
          go_wp2_with fail
          go_quiet (fail)
          go_wp2_with fail
          go_ret
          exact ⟨by rw [HD.out, HT'.out]; rfl, below_drewN (below_drewN hB _) _⟩
      · have k1' : (t.kind == 1) = false := by simp [k1]
        by_cases k2 : t.kind = 2
        · have HT : Hid (tosB t = (decide (t.to.length = 2) && decide (t.to.getD 0 0 ≠ t.to.getD 1 0))) := Lib.hid (by unfold tosB; rw [if_neg k1, if_pos k2])
          have k2' : (t.kind == 2) = true := by simp [k2]
          have k3' : (t.kind == 3) = false := by simp [k2]
          by_cases l2 : t.to.length = 2
          · have l2' : ((t.to.length : Int) == 2) = true := by simp [l2]
            have g0 : 0 < t.to.length := by omega
            have g1 : 1 < t.to.length := by omega
            have g1' : (1 : Int) < t.to.length := by omega
            have g0' : (0 : Int) < t.to.length := by omega
            obtain ⟨b', o', x, rfl, hx, hxc, -⟩ := hto.int g0
            obtain ⟨b2, o2, y, he, hy, hyc, -⟩ := hto.int g1
            obtain ⟨rfl, rfl⟩ : b' = b2 ∧ o' = o2 := by simpa using he
            have hltx := block_lt_of_cell hxc
            have l2'' : 2 ≤ t.to.length := by omega
            simp only [Nat.add_zero] at hxc
            have HX : Hid (t.to.getD 0 0 = x) := Lib.hid (by rw [List.getD_eq_getElem?_getD, hx.out]; rfl)
            have HY : Hid (t.to.getD 1 0 = y) := Lib.hid (by rw [List.getD_eq_getElem?_getD, hy.out]; rfl)
            by_cases hxy : x = y
            · have hxy' : (x != y) = false := by simp [hxy]
              have HT' : Hid (tosB t = false) := Lib.hid (by rw [HT.out, HX.out, HY.out, decide_eq_true l2, decide_eq_false (fun h => h hxy)]; rfl)
              clear k1 k2 l2 HT hxy g0 g1 g0' g1' HX HY
              go_wp2_with fail
              go_quiet (fail)
              go_wp2_with fail
              go_ret
              exact ⟨by rw [HD.out, HT'.out]; rfl, below_drewN (below_drewN hB _) _⟩
            · have hxy' : (x != y) = true := by rw [bne_iff_ne]; exact hxy
              have HT' : Hid (tosB t = true) := Lib.hid (by rw [HT.out, HX.out, HY.out, decide_eq_true l2, decide_eq_true hxy]; rfl)
              clear k1 k2 l2 HT hxy g0 g1 g0' g1' HX HY
              go_wp2_with fail
              go_quiet (fail)
              go_wp2_with fail
              go_ret
              exact ⟨by rw [HD.out, HT'.out]; rfl, below_drewN (below_drewN hB _) _⟩
          · have l2' : ((t.to.length : Int) == 2) = false := by simp; omega
            have HT' : Hid (tosB t = false) := Lib.hid (by rw [HT.out, decide_eq_false l2]; rfl)
            clear k1 k2 l2 HT
            go_wp2_with fail
            go_quiet (fail)
            go_wp2_with fail
            go_ret
            exact ⟨by rw [HD.out, HT'.out]; rfl, below_drewN (below_drewN hB _) _⟩
        · have k2' : (t.kind == 2) = false := by simp [k2]
          by_cases k3 : t.kind = 3
          · have HT : Hid (tosB t = decide (t.to.length = 0)) := Lib.hid (by unfold tosB; rw [if_neg k1, if_neg k2, if_pos k3])
            have k3' : (t.kind == 3) = true := by simp [k3]
            by_cases l0 : t.to.length = 0
            · have l0' : ((t.to.length : Int) == 0) = true := by rw [l0]; rfl
              have HT' : Hid (tosB t = true) := Lib.hid (by rw [HT.out, decide_eq_true l0])
              clear k1 k2 k3 l0 HT
              go_wp2_with fail
              go_quiet (fail)
              go_wp2_with fail
              go_ret
              exact ⟨by rw [HD.out, HT'.out]; rfl, below_drewN (below_drewN hB _) _⟩
            · have l0' : ((t.to.length : Int) == 0) = false := by rw [beq_eq_false_iff_ne]; omega
              have HT' : Hid (tosB t = false) := Lib.hid (by rw [HT.out, decide_eq_false l0])
              clear k1 k2 k3 l0 HT
              go_wp2_with fail
              go_quiet (fail)
              go_wp2_with fail
              go_ret
              exact ⟨by rw [HD.out, HT'.out]; rfl, below_drewN (below_drewN hB _) _⟩
          · have HT' : Hid (tosB t = false) := Lib.hid (by unfold tosB; rw [if_neg k1, if_neg k2, if_neg k3])
            have k3' : (t.kind == 3) = false := by simp [k3]
            clear k1 k2 k3
            go_wp2_with fail
            go_quiet (fail)
            go_wp2_with fail
            go_ret
            exact ⟨by rw [HD.out, HT'.out]; rfl, below_drewN (below_drewN hB _) _⟩
end Go.Proofs.YtdfiflbkamhchaaDoor
