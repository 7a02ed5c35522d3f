/- The reference's small functions of layer 2: is, worst, end. -/
import Derived.Test.YtoidhjmhakajlaaGreatDoorInsJ
import Derived.Deep.QuietTactic
import Derived.BigQuiet
import Derived.Test.YtoidhjmhakajlaaGreatDoorSpecJ
namespace Go.Proofs.YtoidhjmhakajlaaGreatDoor
open Go.ChangeShapes Go.WideShapes Go.RowKit Go.Deep
set_option linter.unusedVariables false

/-- Is a register there, and of a type (below 0: of any)? -/
def isE (regs : List Int) (r t : Int) : Int := if 0 ≤ r ∧ r < regs.length then (if 0 ≤ t ∧ reg regs r ≠ t then 3 else 0) else 4
def worstE (a b : Int) : Int := if a = 4 ∨ b = 4 then 4 else if a ≠ 0 then a else b

theorem worst_any (a b : Int) (w : World) : Calls Tryz.prog 48 #[.int .i64 a, .int .i64 b] w fun e w' => e = .returned (.int .i64 (worstE a b)) ∧ w = w' := by
  by_cases h1 : a = 4
  · have HE : Hid (worstE a b = 4) := Lib.hid (if_pos (.inl h1))
    have h1' : (a == 4) = true := by simp [h1]
    clear h1
    go_enter Tryz.func48, Tryz.ntmps48
    go_wp2_with fail
    go_ret
    exact ⟨by rw [HE.out]; rfl, rfl⟩
  · have h1' : (a == 4) = false := by simp [h1]
    by_cases h2 : b = 4
    · have HE : Hid (worstE a b = 4) := Lib.hid (if_pos (.inr h2))
      have h2' : (b == 4) = true := by simp [h2]
      clear h1 h2
      go_enter Tryz.func48, Tryz.ntmps48
      go_wp2_with fail
      go_ret
      exact ⟨by rw [HE.out]; rfl, rfl⟩
    · have h2' : (b == 4) = false := by simp [h2]
      by_cases h3 : a = 0
      · have HE : Hid (worstE a b = b) := Lib.hid (by unfold worstE; rw [if_neg (by omega), if_neg (by omega)])
        have h3' : (a != 0) = false := by simp [h3]
        clear h1 h2 h3
        go_enter Tryz.func48, Tryz.ntmps48
        go_wp2_with fail
        go_ret
        exact ⟨by rw [HE.out]; rfl, rfl⟩
      · have HE : Hid (worstE a b = a) := Lib.hid (by unfold worstE; rw [if_neg (by omega), if_pos h3])
        have h3' : (a != 0) = true := by rw [bne_iff_ne]; exact h3
        clear h1 h2 h3
        go_enter Tryz.func48, Tryz.ntmps48
        go_wp2_with fail
        go_ret
        exact ⟨by rw [HE.out]; rfl, rfl⟩

set_option maxRecDepth 100000 in
set_option maxHeartbeats 1000000 in
theorem is_reg (f : FunD) (v : Value) (r t : Int) (w : World) (hv : VFun w v f) (ht : I64 t) :
    Calls Tryz.prog 47 #[v, .int .i64 r, .int .i64 t] w fun e w' => e = .returned (.int .i64 (isE f.regs r t)) ∧ Below w.heap.size w w' := by
  obtain ⟨Ar, cr, Ab, cb, rfl, hr, -, -, -⟩ := hv
  have hrl := hr.len
  have hB : Below w.heap.size w (w.alloc (.cells #[.int .i64 f.params, .int .i64 f.result, .slice Ar f.regs.length cr, .slice Ab f.blocks.length cb] 57)) := (Below.refl _ _).alloc (Nat.le_refl _) _
  by_cases h1 : r < 0
  · have HE : Hid (isE f.regs r t = 4) := Lib.hid (if_neg (by omega))
    have h1' : decide (r < 0) = true := by simpa using h1
    go_enter Tryz.func47, Tryz.ntmps47
    go_wp2_with fail
    go_ret
    exact ⟨by rw [HE.out]; rfl, hB⟩
  · have h1' : decide (r < 0) = false := by simpa using h1
    obtain ⟨k, rfl⟩ := Int.eq_ofNat_of_zero_le (Int.not_lt.1 h1)
    by_cases h2 : k < f.regs.length
    · have h2' : decide ((f.regs.length : Int) ≤ k) = false := by simp; omega
      have h2c : (k : Int) < f.regs.length := by omega
      obtain ⟨b, o, x, rfl, hx, hxc, -⟩ := hr.int h2
      have hrg : reg f.regs k = x := reg_of rfl hx.out
      have hblt := block_lt_of_cell hxc
      dsimp only at hblt
      by_cases h3 : 0 ≤ t
      · have h3' : decide (0 ≤ t) = true := by simpa using h3
        by_cases h4 : x = t
        · have HE : Hid (isE f.regs k t = 0) := Lib.hid (by unfold isE; rw [if_pos (by omega), if_neg (by rw [hrg]; exact fun h => h.2 h4)])
          have h4' : (x != t) = false := by simp [h4]
          clear h4 hrg h1
          go_enter Tryz.func47, Tryz.ntmps47
          go_wp2_with fail
          go_ret
          exact ⟨by rw [HE.out]; rfl, hB⟩
        · have HE : Hid (isE f.regs k t = 3) := Lib.hid (by unfold isE; rw [if_pos (by omega), if_pos (by rw [hrg]; exact ⟨h3, h4⟩)])
          have h4' : (x != t) = true := by rw [bne_iff_ne]; exact h4
          clear h4 hrg h1
          go_enter Tryz.func47, Tryz.ntmps47
          go_wp2_with fail
          go_ret
          exact ⟨by rw [HE.out]; rfl, hB⟩
      · have h3' : decide (0 ≤ t) = false := by simpa using h3
        have HE : Hid (isE f.regs k t = 0) := Lib.hid (by unfold isE; rw [if_pos (by omega), if_neg (fun h => h3 h.1)])
        clear hrg h1
        go_enter Tryz.func47, Tryz.ntmps47
        go_wp2_with fail
        go_ret
        exact ⟨by rw [HE.out]; rfl, hB⟩
    · have HE : Hid (isE f.regs k t = 4) := Lib.hid (if_neg (by omega))
      have h2' : decide ((f.regs.length : Int) ≤ k) = true := by simp; omega
      have h2c : (f.regs.length : Int) ≤ k := by omega
      go_enter Tryz.func47, Tryz.ntmps47
      go_wp2_with fail
      go_ret
      exact ⟨by rw [HE.out]; rfl, hB⟩

set_option maxRecDepth 100000 in
set_option maxHeartbeats 1000000 in
theorem end_ref (f : FunD) (t : TermD) (v u : Value) (w : World) (hv : VFun w v f) (hu : VTerm w u t) (hk : t.kind = 1 ∨ t.kind = 2 ∨ t.kind = 3) (hres : 0 ≤ f.result) :
    Calls Tryz.prog 50 #[v, u] w fun e w' => e = .returned (.int .i64 (termE f t)) ∧ Below w.heap.size w w' := by
  have hv0 := hv
  obtain ⟨Ar, cr, Ab, cb, rfl, hr, hb, hp64, hr64⟩ := hv
  obtain ⟨At, ct, rfl, hto, hk64, ha64⟩ := hu
  have hB : Below w.heap.size w ((w.alloc (.cells #[.int .i64 f.params, .int .i64 f.result, .slice Ar f.regs.length cr, .slice Ab f.blocks.length cb] 57)).alloc (.cells #[.int .i64 t.kind, .int .i64 t.arg, .slice At t.to.length ct] 61)) := ((Below.refl _ _).alloc (Nat.le_refl _) _).alloc (by simp) _
  by_cases h2 : t.kind = 2
  · have HE : Hid (isE f.regs t.arg 2 = termE f t) := Lib.hid (by
      unfold termE wantOf isE
      rw [if_pos h2, if_neg (show ¬ (2 : Int) = 0 by decide)]
      by_cases h : 0 ≤ t.arg ∧ t.arg < f.regs.length
      · rw [if_pos h, if_pos h]
        by_cases h' : reg f.regs t.arg = 2
        · rw [if_pos h', if_neg (fun x => x.2 h')]
        · rw [if_neg h', if_pos ⟨by decide, h'⟩]
      · rw [if_neg h, if_neg h])
    have h2' : (t.kind == 2) = true := by simp [h2]
    clear h2 hk
    go_enter Tryz.func50, Tryz.ntmps50
    go_wp2_with fail
    refine (is_reg f _ t.arg 2 _ (VFun.keep (kept_of_below hB) hv0) (by unfold I64; omega)).mono ?_
    rintro e w1 ⟨rfl, hb1⟩
    rw [HE.out]
    go_wp2_with fail
    go_ret
    exact ⟨rfl, hB.trans (hb1.mono hB.size)⟩
  · have h2' : (t.kind == 2) = false := by simp [h2]
    by_cases h3 : t.kind = 3
    · have h3' : (t.kind == 3) = true := by simp [h3]
      by_cases h0 : f.result = 0
      · have h0' : (f.result != 0) = false := by simp [h0]
        by_cases ha : t.arg = -1
        · have HE : Hid (termE f t = 0) := Lib.hid (by unfold termE wantOf; rw [if_neg h2, if_pos h3, if_pos h0, if_pos ha])
          have ha' : (t.arg != -1) = false := by simp [ha]
          clear h2 h3 h0 ha hk
          go_enter Tryz.func50, Tryz.ntmps50
          go_wp2_with fail
          go_ret
          exact ⟨by rw [HE.out]; rfl, hB⟩
        · have HE : Hid (termE f t = 3) := Lib.hid (by unfold termE wantOf; rw [if_neg h2, if_pos h3, if_pos h0, if_neg ha])
          have ha' : (t.arg != -1) = true := by rw [bne_iff_ne]; exact ha
          clear h2 h3 h0 ha hk
          go_enter Tryz.func50, Tryz.ntmps50
          go_wp2_with fail
          go_ret
          exact ⟨by rw [HE.out]; rfl, hB⟩
      · have h0' : (f.result != 0) = true := by rw [bne_iff_ne]; exact h0
        have HE : Hid (isE f.regs t.arg f.result = termE f t) := Lib.hid (by
          unfold termE wantOf isE
          rw [if_neg h2, if_pos h3, if_neg h0]
          by_cases h : 0 ≤ t.arg ∧ t.arg < f.regs.length
          · rw [if_pos h, if_pos h]
            by_cases h' : reg f.regs t.arg = f.result
            · rw [if_pos h', if_neg (fun x => x.2 h')]
            · rw [if_neg h', if_pos ⟨hres, h'⟩]
          · rw [if_neg h, if_neg h])
        clear h2 h3 h0 hk
        go_enter Tryz.func50, Tryz.ntmps50
        go_wp2_with fail
        refine (is_reg f _ t.arg f.result _ (VFun.keep (kept_of_below hB) hv0) hr64).mono ?_
        rintro e w1 ⟨rfl, hb1⟩
        rw [HE.out]
        go_wp2_with fail
        go_ret
        exact ⟨rfl, hB.trans (hb1.mono hB.size)⟩
    · have h3' : (t.kind == 3) = false := by simp [h3]
      by_cases ha : t.arg = -1
      · have HE : Hid (termE f t = 0) := Lib.hid (by unfold termE wantOf; rw [if_neg h2, if_neg h3, if_pos rfl, if_pos ha])
        have ha' : (t.arg != -1) = false := by simp [ha]
        clear h2 h3 ha hk
        go_enter Tryz.func50, Tryz.ntmps50
        go_wp2_with fail
        go_ret
        exact ⟨by rw [HE.out]; rfl, hB⟩
      · have HE : Hid (termE f t = 3) := Lib.hid (by unfold termE wantOf; rw [if_neg h2, if_neg h3, if_pos rfl, if_neg ha])
        have ha' : (t.arg != -1) = true := by rw [bne_iff_ne]; exact ha
        clear h2 h3 ha hk
        go_enter Tryz.func50, Tryz.ntmps50
        go_wp2_with fail
        go_ret
        exact ⟨by rw [HE.out]; rfl, hB⟩
end Go.Proofs.YtoidhjmhakajlaaGreatDoor

/- The reference's shape of a block's end. -/
namespace Go.Proofs.YtoidhjmhakajlaaGreatDoor
open Go.ChangeShapes Go.WideShapes Go.RowKit Go.Deep
set_option linter.unusedVariables false

set_option maxRecDepth 100000 in
set_option maxHeartbeats 8000000 in
theorem shape_any (f : FunD) (t : TermD) (v u : Value) (w : World) (hv : VFun w v f) (hu : VTerm w u t) :
    Calls Tryz.prog 81 #[v, u] w fun e w' => e = .returned (.bool (shapeB f.blocks.length t)) ∧ Below w.heap.size w w' := by
  obtain ⟨Ar, cr, Ab, cb, rfl, hr, hb, hp64, hr64⟩ := hv
  obtain ⟨At, ct, rfl, hto, hk64, ha64⟩ := hu
  have hbl := hb.len
  have htl := hto.len
  obtain ⟨w1, hw1⟩ : ∃ w1, w1 = ((w.alloc (.cells #[.int .i64 f.params, .int .i64 f.result, .slice Ar f.regs.length cr, .slice Ab f.blocks.length cb] 57)).alloc (.cells #[.int .i64 t.kind, .int .i64 t.arg, .slice At t.to.length ct] 61)) := ⟨_, rfl⟩
  have hB : Below w.heap.size w w1 := by rw [hw1]; exact ((Below.refl _ _).alloc (Nat.le_refl _) _).alloc (by simp) _
  have hto := SInts.keep (kept_of_below hB) hto
  have hc3 : w1.cell? ⟨w.heap.size, 3, none⟩ = some (.slice Ab f.blocks.length cb) := by rw [hw1]; simp
  have hd0 : w1.cell? ⟨w.heap.size + 1, 0, none⟩ = some (.int .i64 t.kind) := by rw [hw1]; simp
  have hd2 : w1.cell? ⟨w.heap.size + 1, 2, none⟩ = some (.slice At t.to.length ct) := by rw [hw1]; simp
  have hs1 : w.heap.size + 1 < w1.heap.size := by rw [hw1]; simp
  go_enter Tryz.func81, Tryz.ntmps81
  go_wp2_with fail
  rw [← hw1]
  clear hw1
  go_loopw [5] (fun i wr => ∃ j q : Nat, j ≤ t.to.length ∧ i = .int .i64 j ∧ Hid ((t.to.take j).all (toB f.blocks.length) = true) ∧ wr = w1.drewN q) (fun i _ => t.to.length - (intOf i).toNat)
  case atStart => exact ⟨0, 0, Nat.zero_le _, rfl, Lib.hid rfl, rfl⟩
  case round =>
    obtain ⟨j, q, hj, rfl, hj2, rfl⟩ := hrel
    by_cases hjt : j < t.to.length
    · obtain ⟨b', o', x, rfl, hx, hxc, -⟩ := hto.int hjt
      have hk0 : (0 : Int) ≤ j := by omega
      have hk1 : (j : Int) < t.to.length := by omega
      by_cases x1 : x < 1
      · have HF : Hid (toB f.blocks.length x = false) := Lib.hid (decide_eq_false (by omega))
        have x1' : decide (x < 1) = true := by simpa using x1
        clear x1
        go_wp2_with fail
        go_quiet (fail)
        go_wp2_with fail
        go_ret
        exact ⟨by rw [show shapeB f.blocks.length t = false by unfold shapeB; rw [all_stop hx.out HF.out]; simp]; rfl, below_drewN (below_drewN hB _) _⟩
      · have x1' : decide (x < 1) = false := by simpa using x1
        by_cases x2 : (f.blocks.length : Int) ≤ x
        · have HF : Hid (toB f.blocks.length x = false) := Lib.hid (decide_eq_false (by omega))
          have x2' : decide ((f.blocks.length : Int) ≤ x) = true := by simpa using x2
          clear x1 x2
          go_wp2_with fail
          go_quiet (fail)
          go_wp2_with fail
          go_ret
          exact ⟨by rw [show shapeB f.blocks.length t = false by unfold shapeB; rw [all_stop hx.out HF.out]; simp]; rfl, below_drewN (below_drewN hB _) _⟩
        · have HF : Hid (toB f.blocks.length x = true) := Lib.hid (decide_eq_true (by omega))
          have x2' : decide ((f.blocks.length : Int) ≤ x) = false := by simpa using x2
          clear x1 x2
          go_wp2_with fail
          go_quiet (fail)
          go_wp2_with fail
          go_roundw
          case rel => exact ⟨j + 1, _, by omega, by go_num, Lib.hid (by rw [all_step hx.out hj2.out]; exact HF.out), rfl⟩
          case measure => simp [intOf]; omega
    · have hd := all_done hj2.out (Nat.le_of_not_lt hjt)
      have HD : Hid (shapeB f.blocks.length t = tosB t) := Lib.hid (by unfold shapeB; rw [hd, Bool.and_true])
      clear hd hj2
      by_cases k1 : t.kind = 1
      · have HT : Hid (tosB t = decide (t.to.length = 1)) := Lib.hid (by unfold tosB; rw [if_pos k1])
        have k1' : (t.kind == 1) = true := by simp [k1]
        have k2' : (t.kind == 2) = false := by simp [k1]
        have k3' : (t.kind == 3) = false := by simp [k1]
        by_cases l1 : t.to.length = 1
        · have l1' : ((t.to.length : Int) == 1) = true := by simp [l1]
          have HT' : Hid (tosB t = true) := Lib.hid (by rw [HT.out, decide_eq_true l1])
          clear k1 l1 HT
          go_wp2_with fail
          go_quiet (fail)
          go_wp2_with fail
          go_ret
          exact ⟨by rw [HD.out, HT'.out]; rfl, below_drewN (below_drewN hB _) _⟩
        · have l1' : ((t.to.length : Int) == 1) = false := by simp; omega
          have HT' : Hid (tosB t = false) := Lib.hid (by rw [HT.out, decide_eq_false l1])
          clear k1 l1 HT
          go_wp2_with fail
          go_quiet (fail)
          go_wp2_with fail
          go_ret
          exact ⟨by rw [HD.out, HT'.out]; rfl, below_drewN (below_drewN hB _) _⟩
      · have k1' : (t.kind == 1) = false := by simp [k1]
        by_cases k2 : t.kind = 2
        · have HT : Hid (tosB t = (decide (t.to.length = 2) && decide (t.to.getD 0 0 ≠ t.to.getD 1 0))) := Lib.hid (by unfold tosB; rw [if_neg k1, if_pos k2])
          have k2' : (t.kind == 2) = true := by simp [k2]
          have k3' : (t.kind == 3) = false := by simp [k2]
          by_cases l2 : t.to.length = 2
          · have l2' : ((t.to.length : Int) == 2) = true := by simp [l2]
            have g0 : 0 < t.to.length := by omega
            have g1 : 1 < t.to.length := by omega
            have g1' : (1 : Int) < t.to.length := by omega
            have g0' : (0 : Int) < t.to.length := by omega
            obtain ⟨b', o', x, rfl, hx, hxc, -⟩ := hto.int g0
            obtain ⟨b2, o2, y, he, hy, hyc, -⟩ := hto.int g1
            obtain ⟨rfl, rfl⟩ : b' = b2 ∧ o' = o2 := by simpa using he
            have hltx := block_lt_of_cell hxc
            have l2'' : 2 ≤ t.to.length := by omega
            simp only [Nat.add_zero] at hxc
            have HX : Hid (t.to.getD 0 0 = x) := Lib.hid (by rw [List.getD_eq_getElem?_getD, hx.out]; rfl)
            have HY : Hid (t.to.getD 1 0 = y) := Lib.hid (by rw [List.getD_eq_getElem?_getD, hy.out]; rfl)
            by_cases hxy : x = y
            · have hxy' : (x != y) = false := by simp [hxy]
              have HT' : Hid (tosB t = false) := Lib.hid (by rw [HT.out, HX.out, HY.out, decide_eq_true l2, decide_eq_false (fun h => h hxy)]; rfl)
              clear k1 k2 l2 HT hxy g0 g1 g0' g1' HX HY
              go_wp2_with fail
              go_quiet (fail)
              go_wp2_with fail
              go_ret
              exact ⟨by rw [HD.out, HT'.out]; rfl, below_drewN (below_drewN hB _) _⟩
            · have hxy' : (x != y) = true := by rw [bne_iff_ne]; exact hxy
              have HT' : Hid (tosB t = true) := Lib.hid (by rw [HT.out, HX.out, HY.out, decide_eq_true l2, decide_eq_true hxy]; rfl)
              clear k1 k2 l2 HT hxy g0 g1 g0' g1' HX HY
              go_wp2_with fail
              go_quiet (fail)
              go_wp2_with fail
              go_ret
              exact ⟨by rw [HD.out, HT'.out]; rfl, below_drewN (below_drewN hB _) _⟩
          · have l2' : ((t.to.length : Int) == 2) = false := by simp; omega
            have HT' : Hid (tosB t = false) := Lib.hid (by rw [HT.out, decide_eq_false l2]; rfl)
            clear k1 k2 l2 HT
            go_wp2_with fail
            go_quiet (fail)
            go_wp2_with fail
            go_ret
            exact ⟨by rw [HD.out, HT'.out]; rfl, below_drewN (below_drewN hB _) _⟩
        · have k2' : (t.kind == 2) = false := by simp [k2]
          by_cases k3 : t.kind = 3
          · have HT : Hid (tosB t = decide (t.to.length = 0)) := Lib.hid (by unfold tosB; rw [if_neg k1, if_neg k2, if_pos k3])
            have k3' : (t.kind == 3) = true := by simp [k3]
            by_cases l0 : t.to.length = 0
            · have l0' : ((t.to.length : Int) == 0) = true := by rw [l0]; rfl
              have HT' : Hid (tosB t = true) := Lib.hid (by rw [HT.out, decide_eq_true l0])
              clear k1 k2 k3 l0 HT
              go_wp2_with fail
              go_quiet (fail)
              go_wp2_with fail
              go_ret
              exact ⟨by rw [HD.out, HT'.out]; rfl, below_drewN (below_drewN hB _) _⟩
            · have l0' : ((t.to.length : Int) == 0) = false := by rw [beq_eq_false_iff_ne]; omega
              have HT' : Hid (tosB t = false) := Lib.hid (by rw [HT.out, decide_eq_false l0])
              clear k1 k2 k3 l0 HT
              go_wp2_with fail
              go_quiet (fail)
              go_wp2_with fail
              go_ret
              exact ⟨by rw [HD.out, HT'.out]; rfl, below_drewN (below_drewN hB _) _⟩
          · have HT' : Hid (tosB t = false) := Lib.hid (by unfold tosB; rw [if_neg k1, if_neg k2, if_neg k3])
            have k3' : (t.kind == 3) = false := by simp [k3]
            clear k1 k2 k3
            go_wp2_with fail
            go_quiet (fail)
            go_wp2_with fail
            go_ret
            exact ⟨by rw [HD.out, HT'.out]; rfl, below_drewN (below_drewN hB _) _⟩
end Go.Proofs.YtoidhjmhakajlaaGreatDoor

/- The reference's Ahead: the blocks ahead of one, as a list. -/
namespace Go.Proofs.YtoidhjmhakajlaaGreatDoor
open Go.ChangeShapes Go.WideShapes Go.RowKit Go.Deep
set_option linter.unusedVariables false

set_option maxHeartbeats 1000000 in
theorem refAhead_any (f : FunD) (block : Int) (v : Value) (w : World) (hv : VFun w v f) (hn : f.blocks.length ≤ 1000000) :
    Calls Tryz.prog 69 #[v, .int .i64 block] w fun e w' => (∃ r, e = .returned r ∧ VS w' 1 RInt r (aheadL f.blocks block)) ∧ Below w.heap.size w w' := by
  obtain ⟨Ar, cr, A, c, rfl, -, hb, -, -⟩ := hv
  have hbl := hb.len
  obtain ⟨i0, hi, hz0, hz1, hz2⟩ := info_parts Tryz.info3
  have HI := Lib.hid (And.intro hi (And.intro hz0 (And.intro hz1 hz2)))
  clear hi hz0 hz1 hz2
  go_enter Tryz.func69, Tryz.ntmps69
  go_wp2_with fail
  obtain ⟨w1, hw1⟩ : ∃ w1, w1 = w.alloc (.cells #[.int .i64 f.params, .int .i64 f.result, .slice Ar f.regs.length cr, .slice A f.blocks.length c] 57) := ⟨_, rfl⟩
  have hs1 : w.heap.size < w1.heap.size := by rw [hw1]; simp
  have hk1 : Kept w w1 := by rw [hw1]; exact kept_alloc _ _
  have hbel1 : Below w.heap.size w w1 := by rw [hw1]; exact (Below.refl _ _).alloc (Nat.le_refl _) _
  have hc1 : w1.cell? ⟨w.heap.size, 3, none⟩ = some (.slice A f.blocks.length c) := by rw [hw1]; simp
  rw [← hw1]
  clear hw1
  go_loopw [5, 6] (fun out i wr => ∃ k : Nat, k ≤ f.blocks.length ∧ i = .int .i64 k ∧ Below w1.heap.size w1 wr ∧
    wr.ownsRow w1.heap.size 3 1 out (aheadL (f.blocks.take k) block).length ((aheadL (f.blocks.take k) block).map (Value.int .i64))) (fun _ i _ => f.blocks.length - (intOf i).toNat)
  case atStart => exact ⟨0, Nat.zero_le _, rfl, Below.refl _ _, rfl, .inl ⟨rfl, rfl⟩⟩
  case round =>
    obtain ⟨k, hk, rfl, hbel, hown⟩ := hrel
    have hs := hbel.size
    have hkw : Kept w1 wr := kept_of_below hbel
    have hbox := hkw _ _ hc1
    by_cases hlt : k < f.blocks.length
    · obtain ⟨b, o, kb, rfl, hkb, -, -, -, -, A', c', hvt, hst⟩ := (SBlks.keep (hk1.trans hkw) hb).at_ hlt
      have htm := hst.len
      go_wp2_with fail
      go_loopw [7, 8] (fun h i w2 => ∃ j n : Nat, j ≤ kb.term.to.length ∧ i = .int .i64 j ∧ w2 = wr.drewN n ∧ h = .bool (hasTo block (kb.term.to.take j))) (fun _ i _ => kb.term.to.length - (intOf i).toNat)
      case atStart => exact ⟨0, 0, Nat.zero_le _, rfl, rfl, rfl⟩
      case round =>
        obtain ⟨j, n, hj, rfl, rfl, rfl⟩ := hrel
        by_cases hjt : j < kb.term.to.length
        · obtain ⟨b', o', x, rfl, hx, hxc, -⟩ := hst.int hjt
          have HS := Lib.hid (hasTo_step block hx.out)
          generalize hasTo block (kb.term.to.take j) = h0 at *
          cases h0
          · by_cases he : x = block
            · have he' : (x == block) = true := by simp [he]
              have HS' : Hid (hasTo block (kb.term.to.take (j + 1)) = true) := Lib.hid (by rw [HS.out, he']; rfl)
              clear HS he
              go_wp2_with fail
              go_roundw
              case rel => exact ⟨j + 1, _, by omega, by go_num, rfl, by rw [HS'.out]⟩
              case measure => simp [intOf]; omega
            · have he' : (x == block) = false := by simp [he]
              have HS' : Hid (hasTo block (kb.term.to.take (j + 1)) = false) := Lib.hid (by rw [HS.out, he']; rfl)
              clear HS he
              go_wp2_with fail
              go_roundw
              case rel => exact ⟨j + 1, _, by omega, by go_num, rfl, by rw [HS'.out]⟩
              case measure => simp [intOf]; omega
          · have HS' : Hid (hasTo block (kb.term.to.take (j + 1)) = true) := Lib.hid (by rw [HS.out]; rfl)
            clear HS
            go_wp2_with fail
            go_roundw
            case rel => exact ⟨j + 1, _, by omega, by go_num, rfl, by rw [HS'.out]⟩
            case measure => simp [intOf]; omega
        · have hjj : kb.term.to.take j = kb.term.to := List.take_of_length_le (by omega)
          rw [hjj]
          clear hjj
          have HA := Lib.hid (aheadL_step block hkb.out)
          generalize hasTo block kb.term.to = h0 at *
          cases h0
          · go_wp2_with fail
            go_roundw
            case rel => exact ⟨k + 1, by omega, by go_num, below_drewN hbel _, by rw [HA.out]; simpa using (show (wr.drewN n).ownsRow _ _ _ _ _ _ from hown)⟩
            case measure => simp [intOf]; omega
          · have hln : (aheadL (f.blocks.take k) block).length ≤ k := Nat.le_trans (aheadK_len _ _ _) (by simp; omega)
            go_wp2_with (at_builtin; refine wpList_append_own _ rfl (.tmp 44) (.tmp 46) 54 rfl w1.heap.size 3 i0 (.int .i64 0) 1 8 Tryz.underlying54 HI.out.1 HI.out.2.1 HI.out.2.2.1 HI.out.2.2.2 rfl (by decide) _ _ _ rfl (World.ownsRow.alloc (w := wr.drewN n) hown _) ⟨wr.heap.size, 0, none⟩ 1 1 [.int .i64 k] rfl rfl ?c1 ?c2 ?c3 ?c4 ?c5 ?_)
            case c1 => exact news_one (wr.drewN n) _ _ rfl
            case c2 => rfl
            case c3 => unfold maxLen; omega
            case c4 => omega
            case c5 => omega
            intro v' w3 hown' hgrow _
            have hbel3 : Below w1.heap.size w1 w3 := ((below_drewN hbel n).alloc hs _).grown hgrow (by simp; omega) (fun g hg => (hown.lt g hg).1)
            go_wp2_with fail
            go_roundw
            case rel => exact ⟨k + 1, by omega, by go_num, hbel3, by rw [HA.out]; simpa using hown'⟩
            case measure => simp [intOf]; omega
    · have hkk : f.blocks.take k = f.blocks := List.take_of_length_le (by omega)
      rw [hkk] at hown
      clear hkk
      go_wp2_with fail
      go_ret
      exact ⟨⟨_, rfl, vs_of_own hown (aheadL_i64 _ _ (by omega))⟩, hbel1.trans (hbel.mono (by omega))⟩
end Go.Proofs.YtoidhjmhakajlaaGreatDoor
