/- The reference's shape of a block's end. -/
import Derived.Test.YtoidhjmhakajlaaGreatDoorRefCJ
import Derived.Deep.QuietTactic
import Derived.BigQuiet
import Derived.Test.YtoidhjmhakajlaaGreatDoorSpecJ
namespace Go.Proofs.YtoidhjmhakajlaaGreatDoor
open Go.ChangeShapes Go.WideShapes Go.RowKit Go.Deep
set_option linter.unusedVariables false

set_option maxRecDepth 100000 in
set_option maxHeartbeats 8000000 in
theorem shape_any (f : FunD) (t : TermD) (v u : Value) (w : World) (hv : VFun w v f) (hu : VTerm w u t) :
    Calls Tryz.prog 81 #[v, u] w fun e w' => e = .returned (.bool (shapeB f.blocks.length t)) ∧ Below w.heap.size w w' := by
  obtain ⟨Ar, cr, Ab, cb, rfl, hr, hb, hp64, hr64⟩ := hv
  obtain ⟨At, ct, rfl, hto, hk64, ha64⟩ := hu
  have hbl := hb.len
  have htl := hto.len
  obtain ⟨w1, hw1⟩ : ∃ w1, w1 = ((w.alloc (.cells #[.int .i64 f.params, .int .i64 f.result, .slice Ar f.regs.length cr, .slice Ab f.blocks.length cb] 57)).alloc (.cells #[.int .i64 t.kind, .int .i64 t.arg, .slice At t.to.length ct] 61)) := ⟨_, rfl⟩
  have hB : Below w.heap.size w w1 := by rw [hw1]; exact ((Below.refl _ _).alloc (Nat.le_refl _) _).alloc (by simp) _
  have hto := SInts.keep (kept_of_below hB) hto
  have hc3 : w1.cell? ⟨w.heap.size, 3, none⟩ = some (.slice Ab f.blocks.length cb) := by rw [hw1]; simp
  have hd0 : w1.cell? ⟨w.heap.size + 1, 0, none⟩ = some (.int .i64 t.kind) := by rw [hw1]; simp
  have hd2 : w1.cell? ⟨w.heap.size + 1, 2, none⟩ = some (.slice At t.to.length ct) := by rw [hw1]; simp
  have hs1 : w.heap.size + 1 < w1.heap.size := by rw [hw1]; simp
  go_enter Tryz.func81, Tryz.ntmps81
  go_wp2_with fail
  rw [← hw1]
  clear hw1
  go_loopw [5] (fun i wr => ∃ j q : Nat, j ≤ t.to.length ∧ i = .int .i64 j ∧ Hid ((t.to.take j).all (toB f.blocks.length) = true) ∧ wr = w1.drewN q) (fun i _ => t.to.length - (intOf i).toNat)
  case atStart => exact ⟨0, 0, Nat.zero_le _, rfl, Lib.hid rfl, rfl⟩
  case round =>
    obtain ⟨j, q, hj, rfl, hj2, rfl⟩ := hrel
    by_cases hjt : j < t.to.length
    · obtain ⟨b', o', x, rfl, hx, hxc, -⟩ := hto.int hjt
      have hk0 : (0 : Int) ≤ j := by omega
      have hk1 : (j : Int) < t.to.length := by omega
      by_cases x1 : x < 1
      · have HF : Hid (toB f.blocks.length x = false) := Lib.hid (decide_eq_false (by omega))
        have x1' : decide (x < 1) = true := by simpa using x1
        clear x1
        go_wp2_with fail
        go_quiet (fail)
        go_wp2_with fail
        go_ret
        exact ⟨by rw [show shapeB f.blocks.length t = false by unfold shapeB; rw [all_stop hx.out HF.out]; simp]; rfl, below_drewN (below_drewN hB _) _⟩
      · have x1' : decide (x < 1) = false := by simpa using x1
        by_cases x2 : (f.blocks.length : Int) ≤ x
        · have HF : Hid (toB f.blocks.length x = false) := Lib.hid (decide_eq_false (by omega))
          have x2' : decide ((f.blocks.length : Int) ≤ x) = true := by simpa using x2
          clear x1 x2
          go_wp2_with fail
          go_quiet (fail)
          go_wp2_with fail
          go_ret
          exact ⟨by rw [show shapeB f.blocks.length t = false by unfold shapeB; rw [all_stop hx.out HF.out]; simp]; rfl, below_drewN (below_drewN hB _) _⟩
        · have HF : Hid (toB f.blocks.length x = true) := Lib.hid (decide_eq_true (by omega))
          have x2' : decide ((f.blocks.length : Int) ≤ x) = false := by simpa using x2
          clear x1 x2
          go_wp2_with fail
          go_quiet (fail)
          go_wp2_with fail
          go_roundw
          case rel => exact ⟨j + 1, _, by omega, by go_num, Lib.hid (by rw [all_step hx.out hj2.out]; exact HF.out), rfl⟩
          case measure => simp [intOf]; omega
    · have hd := all_done hj2.out (Nat.le_of_not_lt hjt)
      have HD : Hid (shapeB f.blocks.length t = tosB t) := Lib.hid (by unfold shapeB; rw [hd, Bool.and_true])
      clear hd hj2
      by_cases k1 : t.kind = 1
      · have HT : Hid (tosB t = decide (t.to.length = 1)) := Lib.hid (by unfold tosB; rw [if_pos k1])
        have k1' : (t.kind == 1) = true := by simp [k1]
        have k2' : (t.kind == 2) = false := by simp [k1]
        have k3' : (t.kind == 3) = false := by simp [k1]
        by_cases l1 : t.to.length = 1
        · have l1' : ((t.to.length : Int) == 1) = true := by simp [l1]
          have HT' : Hid (tosB t = true) := Lib.hid (by rw [HT.out, decide_eq_true l1])
          clear k1 l1 HT
          go_wp2_with fail
          go_quiet (fail)
          go_wp2_with fail
          go_ret
          exact ⟨by rw [HD.out, HT'.out]; rfl, below_drewN (below_drewN hB _) _⟩
        · have l1' : ((t.to.length : Int) == 1) = false := by simp; omega
          have HT' : Hid (tosB t = false) := Lib.hid (by rw [HT.out, decide_eq_false l1])
          clear k1 l1 HT
          go_wp2_with fail
          go_quiet (fail)
          go_wp2_with fail
          go_ret
          exact ⟨by rw [HD.out, HT'.out]; rfl, below_drewN (below_drewN hB _) _⟩
      · have k1' : (t.kind == 1) = false := by simp [k1]
        by_cases k2 : t.kind = 2
        · have HT : Hid (tosB t = (decide (t.to.length = 2) && decide (t.to.getD 0 0 ≠ t.to.getD 1 0))) := Lib.hid (by unfold tosB; rw [if_neg k1, if_pos k2])
          have k2' : (t.kind == 2) = true := by simp [k2]
          have k3' : (t.kind == 3) = false := by simp [k2]
          by_cases l2 : t.to.length = 2
          · have l2' : ((t.to.length : Int) == 2) = true := by simp [l2]
            have g0 : 0 < t.to.length := by omega
            have g1 : 1 < t.to.length := by omega
            have g1' : (1 : Int) < t.to.length := by omega
            have g0' : (0 : Int) < t.to.length := by omega
            obtain ⟨b', o', x, rfl, hx, hxc, -⟩ := hto.int g0
            obtain ⟨b2, o2, y, he, hy, hyc, -⟩ := hto.int g1
            obtain ⟨rfl, rfl⟩ : b' = b2 ∧ o' = o2 := by simpa using he
            have hltx := block_lt_of_cell hxc
            have l2'' : 2 ≤ t.to.length := by omega
            simp only [Nat.add_zero] at hxc
            have HX : Hid (t.to.getD 0 0 = x) := Lib.hid (by rw [List.getD_eq_getElem?_getD, hx.out]; rfl)
            have HY : Hid (t.to.getD 1 0 = y) := Lib.hid (by rw [List.getD_eq_getElem?_getD, hy.out]; rfl)
            by_cases hxy : x = y
            · have hxy' : (x != y) = false := by simp [hxy]
              have HT' : Hid (tosB t = false) := Lib.hid (by rw [HT.out, HX.out, HY.out, decide_eq_true l2, decide_eq_false (fun h => h hxy)]; rfl)
              clear k1 k2 l2 HT hxy g0 g1 g0' g1' HX HY
              go_wp2_with fail
              go_quiet (fail)
              go_wp2_with fail
              go_ret
              exact ⟨by rw [HD.out, HT'.out]; rfl, below_drewN (below_drewN hB _) _⟩
            · have hxy' : (x != y) = true := by rw [bne_iff_ne]; exact hxy
              have HT' : Hid (tosB t = true) := Lib.hid (by rw [HT.out, HX.out, HY.out, decide_eq_true l2, decide_eq_true hxy]; rfl)
              clear k1 k2 l2 HT hxy g0 g1 g0' g1' HX HY
              go_wp2_with fail
              go_quiet (fail)
              go_wp2_with fail
              go_ret
              exact ⟨by rw [HD.out, HT'.out]; rfl, below_drewN (below_drewN hB _) _⟩
          · have l2' : ((t.to.length : Int) == 2) = false := by simp; omega
            have HT' : Hid (tosB t = false) := Lib.hid (by rw [HT.out, decide_eq_false l2]; rfl)
            clear k1 k2 l2 HT
            go_wp2_with fail
            go_quiet (fail)
            go_wp2_with fail
            go_ret
            exact ⟨by rw [HD.out, HT'.out]; rfl, below_drewN (below_drewN hB _) _⟩
        · have k2' : (t.kind == 2) = false := by simp [k2]
          by_cases k3 : t.kind = 3
          · have HT : Hid (tosB t = decide (t.to.length = 0)) := Lib.hid (by unfold tosB; rw [if_neg k1, if_neg k2, if_pos k3])
            have k3' : (t.kind == 3) = true := by simp [k3]
            by_cases l0 : t.to.length = 0
            · have l0' : ((t.to.length : Int) == 0) = true := by rw [l0]; rfl
              have HT' : Hid (tosB t = true) := Lib.hid (by rw [HT.out, decide_eq_true l0])
              clear k1 k2 k3 l0 HT
              go_wp2_with fail
              go_quiet (fail)
              go_wp2_with fail
              go_ret
              exact ⟨by rw [HD.out, HT'.out]; rfl, below_drewN (below_drewN hB _) _⟩
            · have l0' : ((t.to.length : Int) == 0) = false := by rw [beq_eq_false_iff_ne]; omega
              have HT' : Hid (tosB t = false) := Lib.hid (by rw [HT.out, decide_eq_false l0])
              clear k1 k2 k3 l0 HT
              go_wp2_with fail
              go_quiet (fail)
              go_wp2_with fail
              go_ret
              exact ⟨by rw [HD.out, HT'.out]; rfl, below_drewN (below_drewN hB _) _⟩
          · have HT' : Hid (tosB t = false) := Lib.hid (by unfold tosB; rw [if_neg k1, if_neg k2, if_neg k3])
            have k3' : (t.kind == 3) = false := by simp [k3]
            clear k1 k2 k3
            go_wp2_with fail
            go_quiet (fail)
            go_wp2_with fail
            go_ret
            exact ⟨by rw [HD.out, HT'.out]; rfl, below_drewN (below_drewN hB _) _⟩
end Go.Proofs.YtoidhjmhakajlaaGreatDoor

/- The reference's Ahead: the blocks ahead of one, as a list. -/
namespace Go.Proofs.YtoidhjmhakajlaaGreatDoor
open Go.ChangeShapes Go.WideShapes Go.RowKit Go.Deep
set_option linter.unusedVariables false

set_option maxHeartbeats 1000000 in
theorem refAhead_any (f : FunD) (block : Int) (v : Value) (w : World) (hv : VFun w v f) (hn : f.blocks.length ≤ 1000000) :
    Calls Tryz.prog 69 #[v, .int .i64 block] w fun e w' => (∃ r, e = .returned r ∧ VS w' 1 RInt r (aheadL f.blocks block)) ∧ Below w.heap.size w w' := by
  obtain ⟨Ar, cr, A, c, rfl, -, hb, -, -⟩ := hv
  have hbl := hb.len
  obtain ⟨i0, hi, hz0, hz1, hz2⟩ := info_parts Tryz.info3
  have HI := Lib.hid (And.intro hi (And.intro hz0 (And.intro hz1 hz2)))
  clear hi hz0 hz1 hz2
  go_enter Tryz.func69, Tryz.ntmps69
  go_wp2_with fail
  obtain ⟨w1, hw1⟩ : ∃ w1, w1 = w.alloc (.cells #[.int .i64 f.params, .int .i64 f.result, .slice Ar f.regs.length cr, .slice A f.blocks.length c] 57) := ⟨_, rfl⟩
  have hs1 : w.heap.size < w1.heap.size := by rw [hw1]; simp
  have hk1 : Kept w w1 := by rw [hw1]; exact kept_alloc _ _
  have hbel1 : Below w.heap.size w w1 := by rw [hw1]; exact (Below.refl _ _).alloc (Nat.le_refl _) _
  have hc1 : w1.cell? ⟨w.heap.size, 3, none⟩ = some (.slice A f.blocks.length c) := by rw [hw1]; simp
  rw [← hw1]
  clear hw1
  go_loopw [5, 6] (fun out i wr => ∃ k : Nat, k ≤ f.blocks.length ∧ i = .int .i64 k ∧ Below w1.heap.size w1 wr ∧
    wr.ownsRow w1.heap.size 3 1 out (aheadL (f.blocks.take k) block).length ((aheadL (f.blocks.take k) block).map (Value.int .i64))) (fun _ i _ => f.blocks.length - (intOf i).toNat)
  case atStart => exact ⟨0, Nat.zero_le _, rfl, Below.refl _ _, rfl, .inl ⟨rfl, rfl⟩⟩
  case round =>
    obtain ⟨k, hk, rfl, hbel, hown⟩ := hrel
    have hs := hbel.size
    have hkw : Kept w1 wr := kept_of_below hbel
    have hbox := hkw _ _ hc1
    by_cases hlt : k < f.blocks.length
    · obtain ⟨b, o, kb, rfl, hkb, -, -, -, -, A', c', hvt, hst⟩ := (SBlks.keep (hk1.trans hkw) hb).at_ hlt
      have htm := hst.len
      go_wp2_with fail
      go_loopw [7, 8] (fun h i w2 => ∃ j n : Nat, j ≤ kb.term.to.length ∧ i = .int .i64 j ∧ w2 = wr.drewN n ∧ h = .bool (hasTo block (kb.term.to.take j))) (fun _ i _ => kb.term.to.length - (intOf i).toNat)
      case atStart => exact ⟨0, 0, Nat.zero_le _, rfl, rfl, rfl⟩
      case round =>
        obtain ⟨j, n, hj, rfl, rfl, rfl⟩ := hrel
        by_cases hjt : j < kb.term.to.length
        · obtain ⟨b', o', x, rfl, hx, hxc, -⟩ := hst.int hjt
          have HS := Lib.hid (hasTo_step block hx.out)
          generalize hasTo block (kb.term.to.take j) = h0 at *
          cases h0
          · by_cases he : x = block
            · have he' : (x == block) = true := by simp [he]
              have HS' : Hid (hasTo block (kb.term.to.take (j + 1)) = true) := Lib.hid (by rw [HS.out, he']; rfl)
              clear HS he
              go_wp2_with fail
              go_roundw
              case rel => exact ⟨j + 1, _, by omega, by go_num, rfl, by rw [HS'.out]⟩
              case measure => simp [intOf]; omega
            · have he' : (x == block) = false := by simp [he]
              have HS' : Hid (hasTo block (kb.term.to.take (j + 1)) = false) := Lib.hid (by rw [HS.out, he']; rfl)
              clear HS he
              go_wp2_with fail
              go_roundw
              case rel => exact ⟨j + 1, _, by omega, by go_num, rfl, by rw [HS'.out]⟩
              case measure => simp [intOf]; omega
          · have HS' : Hid (hasTo block (kb.term.to.take (j + 1)) = true) := Lib.hid (by rw [HS.out]; rfl)
            clear HS
            go_wp2_with fail
            go_roundw
            case rel => exact ⟨j + 1, _, by omega, by go_num, rfl, by rw [HS'.out]⟩
            case measure => simp [intOf]; omega
        · have hjj : kb.term.to.take j = kb.term.to := List.take_of_length_le (by omega)
          rw [hjj]
          clear hjj
          have HA := Lib.hid (aheadL_step block hkb.out)
          generalize hasTo block kb.term.to = h0 at *
          cases h0
          · go_wp2_with fail
            go_roundw
            case rel => exact ⟨k + 1, by omega, by go_num, below_drewN hbel _, by rw [HA.out]; simpa using (show (wr.drewN n).ownsRow _ _ _ _ _ _ from hown)⟩
            case measure => simp [intOf]; omega
          · have hln : (aheadL (f.blocks.take k) block).length ≤ k := Nat.le_trans (aheadK_len _ _ _) (by simp; omega)
            go_wp2_with (at_builtin; refine wpList_append_own _ rfl (.tmp 44) (.tmp 46) 54 rfl w1.heap.size 3 i0 (.int .i64 0) 1 8 Tryz.underlying54 HI.out.1 HI.out.2.1 HI.out.2.2.1 HI.out.2.2.2 rfl (by decide) _ _ _ rfl (World.ownsRow.alloc (w := wr.drewN n) hown _) ⟨wr.heap.size, 0, none⟩ 1 1 [.int .i64 k] rfl rfl ?c1 ?c2 ?c3 ?c4 ?c5 ?_)
            case c1 => exact news_one (wr.drewN n) _ _ rfl
            case c2 => rfl
            case c3 => unfold maxLen; omega
            case c4 => omega
            case c5 => omega
            intro v' w3 hown' hgrow _
            have hbel3 : Below w1.heap.size w1 w3 := ((below_drewN hbel n).alloc hs _).grown hgrow (by simp; omega) (fun g hg => (hown.lt g hg).1)
            go_wp2_with fail
            go_roundw
            case rel => exact ⟨k + 1, by omega, by go_num, hbel3, by rw [HA.out]; simpa using hown'⟩
            case measure => simp [intOf]; omega
    · have hkk : f.blocks.take k = f.blocks := List.take_of_length_le (by omega)
      rw [hkk] at hown
      clear hkk
      go_wp2_with fail
      go_ret
      exact ⟨⟨_, rfl, vs_of_own hown (aheadL_i64 _ _ (by omega))⟩, hbel1.trans (hbel.mono (by omega))⟩
end Go.Proofs.YtoidhjmhakajlaaGreatDoor
