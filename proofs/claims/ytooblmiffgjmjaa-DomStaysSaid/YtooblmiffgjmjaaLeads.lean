/- The reference of layer 5: Leads. No condition but that the block is there. -/
import Derived.Test.YtooblmiffgjmjaaGrW
namespace Go.Proofs.Ytooblmiffgjmjaa
open Go.ChangeShapes Go.WideShapes Go.RowKit Go.Deep
set_option linter.unusedVariables false

set_option maxRecDepth 100000 in
set_option maxHeartbeats 4000000 in
theorem leads_any (f : FunD) (a : Nat) (kb : BlkD) (z : Int) (v : Value) (w : World) (hv : VFun w v f) (ha : f.blocks[a]? = some kb) :
    Calls Try.prog 43 #[v, .int .i64 a, .int .i64 z] w fun e w' => e = .returned (.bool (hasTo z kb.term.to)) ∧ Below w.heap.size w w' := by
  obtain ⟨Ar, cr, A, c, rfl, -, hb, -, -⟩ := hv
  have hbl := hb.len
  have hal : a < f.blocks.length := (List.getElem?_eq_some_iff.1 ha).1
  have ha0 : (0 : Int) ≤ a := by omega
  have ha1 : (a : Int) < f.blocks.length := by omega
  go_enter Try.func43, Try.ntmps43
  go_wp2_with fail
  obtain ⟨w1, hw1, hs1, hk1, hbel1, hc1, -⟩ := named w #[.int .i64 f.params, .int .i64 f.result, .slice Ar f.regs.length cr, .slice A f.blocks.length c] 25
  have c3 := hc1 3 _ rfl
  rw [← hw1]
  obtain ⟨b, o, kb', rfl, hkb, -, -, -, -, A', c', hto, htos⟩ := (SBlks.keep hk1 hb).at_ hal
  obtain rfl : kb = kb' := Option.some.inj (ha.symm.trans hkb.out)
  have htl := htos.len
  have HB1 := Lib.hid hbel1
  clear hw1 hs1 hk1 hbel1 hc1 hb ha hkb
  go_loopw [7] (fun i wr => ∃ k q : Nat, k ≤ kb.term.to.length ∧ i = .int .i64 k ∧ wr = w1.drewN q ∧ hasTo z (kb.term.to.take k) = false) (fun i _ => kb.term.to.length - (intOf i).toNat)
  case atStart => exact ⟨0, 0, Nat.zero_le _, rfl, rfl, by simp [hasTo]⟩
  case round =>
    obtain ⟨k, q, hk, rfl, rfl, hno⟩ := hrel
    have HNO := Lib.hid hno
    clear hno
    by_cases hlt : k < kb.term.to.length
    · obtain ⟨b', o', x, rfl, hx, hxc, -⟩ := htos.int hlt
      have HST := Lib.hid (hasTo_step z hx.out)
      have hk0 : (0 : Int) ≤ k := by omega
      have hk1 : (k : Int) < kb.term.to.length := by omega
      cases hxz : (x == z)
      · have HN : Hid (hasTo z (kb.term.to.take (k + 1)) = false) := Lib.hid (by rw [HST.out, HNO.out, hxz]; rfl)
        go_wp2_with fail
        go_roundw
        case rel => exact ⟨k + 1, _, by omega, by go_num, rfl, HN.out⟩
        case measure => simp [intOf]; omega
      · have HY : Hid (hasTo z kb.term.to = true) := Lib.hid (by
          have h1 : hasTo z (kb.term.to.take (k + 1)) = true := by rw [HST.out, hxz]; simp
          unfold hasTo at h1 ⊢
          rw [List.any_eq_true] at h1 ⊢
          obtain ⟨y, hy, e⟩ := h1
          exact ⟨y, List.mem_of_mem_take hy, e⟩)
        go_wp2_with fail
        go_ret
        exact ⟨(show Ending.returned (.bool true) = .returned (.bool (hasTo z kb.term.to)) by rw [HY.out]), below_drewN HB1.out _⟩
    · have HN : Hid (hasTo z kb.term.to = false) := Lib.hid (by have := HNO.out; rwa [List.take_of_length_le (by omega)] at this)
      go_wp2_with fail
      go_ret
      exact ⟨(show Ending.returned (.bool false) = .returned (.bool (hasTo z kb.term.to)) by rw [HN.out]), below_drewN HB1.out _⟩
end Go.Proofs.Ytooblmiffgjmjaa
