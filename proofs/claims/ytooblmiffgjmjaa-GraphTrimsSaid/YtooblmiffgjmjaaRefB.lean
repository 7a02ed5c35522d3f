/- The reference's Ahead: its answer is a row of the call's own. -/
import Derived.Test.YtooblmiffgjmjaaAheadL
import Derived.Test.YtooblmiffgjmjaaGrZ
namespace Go.Proofs.Ytooblmiffgjmjaa
open Go.ChangeShapes Go.WideShapes Go.RowKit Go.Deep
set_option linter.unusedVariables false

set_option maxHeartbeats 1000000 in
theorem refAhead_own (f : FunD) (block : Int) (v : Value) (w : World) (hv : VFun w v f) (hn : f.blocks.length ≤ 1000000) :
    Calls Try.prog 36 #[v, .int .i64 block] w fun e w' => (∃ r, e = .returned r ∧ w'.ownsRow w.heap.size 3 1 r (aheadL f.blocks block).length ((aheadL f.blocks block).map (Value.int .i64))) ∧ Below w.heap.size w w' := by
  obtain ⟨Ar, cr, A, c, rfl, -, hb, -, -⟩ := hv
  have hbl := hb.len
  obtain ⟨i0, hi, hz0, hz1, hz2⟩ := info_parts Try.info3
  have HI := Lib.hid (And.intro hi (And.intro hz0 (And.intro hz1 hz2)))
  clear hi hz0 hz1 hz2
  go_enter Try.func36, Try.ntmps36
  go_wp2_with fail
  obtain ⟨w1, hw1⟩ : ∃ w1, w1 = w.alloc (.cells #[.int .i64 f.params, .int .i64 f.result, .slice Ar f.regs.length cr, .slice A f.blocks.length c] 25) := ⟨_, rfl⟩
  have hs1 : w.heap.size < w1.heap.size := by rw [hw1]; simp
  have hk1 : Kept w w1 := by rw [hw1]; exact kept_alloc _ _
  have hbel1 : Below w.heap.size w w1 := by rw [hw1]; exact (Below.refl _ _).alloc (Nat.le_refl _) _
  have hc1 : w1.cell? ⟨w.heap.size, 3, none⟩ = some (.slice A f.blocks.length c) := by rw [hw1]; simp
  rw [← hw1]
  clear hw1
  go_loopw [5, 6] (fun out i wr => ∃ k : Nat, k ≤ f.blocks.length ∧ i = .int .i64 k ∧ Below w1.heap.size w1 wr ∧
    wr.ownsRow w1.heap.size 3 1 out (aheadL (f.blocks.take k) block).length ((aheadL (f.blocks.take k) block).map (Value.int .i64))) (fun _ i _ => f.blocks.length - (intOf i).toNat)
  case atStart => exact ⟨0, Nat.zero_le _, rfl, Below.refl _ _, rfl, .inl ⟨rfl, rfl⟩⟩
  case round =>
    obtain ⟨k, hk, rfl, hbel, hown⟩ := hrel
    have hs := hbel.size
    have hkw : Kept w1 wr := kept_of_below hbel
    have hbox := hkw _ _ hc1
    by_cases hlt : k < f.blocks.length
    · obtain ⟨b, o, kb, rfl, hkb, -, -, -, -, A', c', hvt, hst⟩ := (SBlks.keep (hk1.trans hkw) hb).at_ hlt
      have htm := hst.len
      go_wp2_with fail
      go_loopw [7, 8] (fun h i w2 => ∃ j n : Nat, j ≤ kb.term.to.length ∧ i = .int .i64 j ∧ w2 = wr.drewN n ∧ h = .bool (hasTo block (kb.term.to.take j))) (fun _ i _ => kb.term.to.length - (intOf i).toNat)
      case atStart => exact ⟨0, 0, Nat.zero_le _, rfl, rfl, rfl⟩
      case round =>
        obtain ⟨j, n, hj, rfl, rfl, rfl⟩ := hrel
        by_cases hjt : j < kb.term.to.length
        · obtain ⟨b', o', x, rfl, hx, hxc, -⟩ := hst.int hjt
          have HS := Lib.hid (hasTo_step block hx.out)
          generalize hasTo block (kb.term.to.take j) = h0 at *
          cases h0
          · by_cases he : x = block
            · have he' : (x == block) = true := by simp [he]
              have HS' : Hid (hasTo block (kb.term.to.take (j + 1)) = true) := Lib.hid (by rw [HS.out, he']; rfl)
              clear HS he
              go_wp2_with fail
              go_roundw
              case rel => exact ⟨j + 1, _, by omega, by go_num, rfl, by rw [HS'.out]⟩
              case measure => simp [intOf]; omega
            · have he' : (x == block) = false := by simp [he]
              have HS' : Hid (hasTo block (kb.term.to.take (j + 1)) = false) := Lib.hid (by rw [HS.out, he']; rfl)
              clear HS he
              go_wp2_with fail
              go_roundw
              case rel => exact ⟨j + 1, _, by omega, by go_num, rfl, by rw [HS'.out]⟩
              case measure => simp [intOf]; omega
          · have HS' : Hid (hasTo block (kb.term.to.take (j + 1)) = true) := Lib.hid (by rw [HS.out]; rfl)
            clear HS
            go_wp2_with fail
            go_roundw
            case rel => exact ⟨j + 1, _, by omega, by go_num, rfl, by rw [HS'.out]⟩
            case measure => simp [intOf]; omega
        · have hjj : kb.term.to.take j = kb.term.to := List.take_of_length_le (by omega)
          rw [hjj]
          clear hjj
          have HA := Lib.hid (aheadL_step block hkb.out)
          generalize hasTo block kb.term.to = h0 at *
          cases h0
          · go_wp2_with fail
            go_roundw
            case rel => exact ⟨k + 1, by omega, by go_num, below_drewN hbel _, by rw [HA.out]; simpa using (show (wr.drewN n).ownsRow _ _ _ _ _ _ from hown)⟩
            case measure => simp [intOf]; omega
          · have hln : (aheadL (f.blocks.take k) block).length ≤ k := Nat.le_trans (aheadK_len _ _ _) (by simp; omega)
            go_wp2_with (at_builtin; refine wpList_append_own _ rfl (.tmp 44) (.tmp 46) 22 rfl w1.heap.size 3 i0 (.int .i64 0) 1 8 Try.underlying22 HI.out.1 HI.out.2.1 HI.out.2.2.1 HI.out.2.2.2 rfl (by decide) _ _ _ rfl (World.ownsRow.alloc (w := wr.drewN n) hown _) ⟨wr.heap.size, 0, none⟩ 1 1 [.int .i64 k] rfl rfl ?c1 ?c2 ?c3 ?c4 ?c5 ?_)
            case c1 => exact news_one (wr.drewN n) _ _ rfl
            case c2 => rfl
            case c3 => unfold maxLen; omega
            case c4 => omega
            case c5 => omega
            intro v' w3 hown' hgrow _
            have hbel3 : Below w1.heap.size w1 w3 := ((below_drewN hbel n).alloc hs _).grown hgrow (by simp; omega) (fun g hg => (hown.lt g hg).1)
            go_wp2_with fail
            go_roundw
            case rel => exact ⟨k + 1, by omega, by go_num, hbel3, by rw [HA.out]; simpa using hown'⟩
            case measure => simp [intOf]; omega
    · have hkk : f.blocks.take k = f.blocks := List.take_of_length_le (by omega)
      rw [hkk] at hown
      clear hkk
      go_wp2_with fail
      go_ret
      exact ⟨⟨_, rfl, own_base hown (by omega)⟩, hbel1.trans (hbel.mono (by omega))⟩
end Go.Proofs.Ytooblmiffgjmjaa
