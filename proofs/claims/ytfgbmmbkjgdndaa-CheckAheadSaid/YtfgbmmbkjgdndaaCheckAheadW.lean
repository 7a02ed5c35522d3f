/- The walk of CheckAhead. -/
import Derived.Test.YtfgbmmbkjgdndaaAhead
import Derived.Test.YtfgbmmbkjgdndaaRefA
import Derived.Test.YtfgbmmbkjgdndaaSmall
import Derived.Test.YtfgbmmbkjgdndaaUp2
import Derived.Deep.QuietTactic
import Derived.BigQuiet
namespace Go.Proofs.Ytfgbmmbkjgdndaa
open Go.ChangeShapes Go.WideShapes Go.RowKit Go.Deep
set_option linter.unusedVariables false

set_option maxRecDepth 100000 in
set_option maxHeartbeats 4000000 in
theorem checkAhead_walk (f : FunD) (v : Value) (w : World) (hv : VFun w v f) :
    Calls Try.prog 3 #[v] w fun e w' => e = .returned (.bool true) ∧ Below w.heap.size w w' := by
  have hv0 := hv
  obtain ⟨Ar, cr, A, c, rfl, hr, hb, hp, hres⟩ := hv
  have hbl := hb.len
  go_enter Try.func3, Try.ntmps3
  go_wp2_with fail
  obtain ⟨w1, hw1, hs1, hk1, hbel1, hc1, -⟩ := named w #[.int .i64 f.params, .int .i64 f.result, .slice Ar f.regs.length cr, .slice A f.blocks.length c] 25
  rw [← hw1]
  clear hw1
  refine (up_any _).mono ?_
  rintro e w2 ⟨rfl, hb2⟩
  have hk2 : Kept w1 w2 := kept_of_below hb2
  have hbx0 := hk2 _ _ (hc1 0 _ rfl)
  have hbx1 := hk2 _ _ (hc1 1 _ rfl)
  have hbx2 := hk2 _ _ (hc1 2 _ rfl)
  have hbx3 := hk2 _ _ (hc1 3 _ rfl)
  have HS1 := Lib.hid hs1
  clear hs1 hc1
  go_wp2_with fail
  have hrf : RFun (w2.alloc (.cells #[.int .i64 f.params, .int .i64 f.result, .slice Ar f.regs.length cr, .slice A f.blocks.length c] 25)) w2.heap.size 0 f := by
    have hkk : Kept w (w2.alloc (.cells #[.int .i64 f.params, .int .i64 f.result, .slice Ar f.regs.length cr, .slice A f.blocks.length c] 25)) := (hk1.trans hk2).trans (kept_alloc _ _)
    exact RFun.of_cells (fun i u hu => (World.cell?_alloc_at (w := w2) _ _ _ i rfl).trans hu) (SInts.keep hkk hr) (SBlks.keep hkk hb) hp hres
  refine (small_any [f] _ _ ⟨_, _, rfl, SL.one hrf⟩).mono ?_
  rintro e w3 ⟨⟨bs, rfl, hsm⟩, hb3⟩
  have hB3 : Below w.heap.size w w3 := (hbel1.trans (hb2.mono (by have := HS1.out; omega))).trans (((Below.refl _ _).alloc (Nat.le_refl _) _).mono (by have := hb2.size; have := HS1.out; omega) |>.trans (hb3.mono (by have := hb2.size; have := HS1.out; simp; omega)))
  have hk3 : Kept w2 w3 := (kept_alloc _ _).trans (kept_of_below hb3)
  have hbx0 := hk3 _ _ hbx0
  have hbx1 := hk3 _ _ hbx1
  have hbx2 := hk3 _ _ hbx2
  have hbx3 := hk3 _ _ hbx3
  cases bs
  · go_wp2_with fail
    go_ret
    exact ⟨rfl, hB3⟩
  · have hsf : SmallF f := (hsm rfl).2 f (by simp)
    have hn : f.blocks.length ≤ 70 := hsf.1
    clear hsm hsf hb3 hb2 hrf
    go_wp2_with fail
    refine (ahead_any f _ _ (VFun.keep ((hk1.trans hk2).trans hk3) hv0) (by omega)).mono ?_
    rintro e w4 ⟨⟨V, G, rfl, hG, hg⟩, hb4⟩
    have hk4 : Kept w3 w4 := kept_of_below hb4
    have hB4 : Below w.heap.size w w4 := hB3.trans (hb4.mono hB3.size)
    have hrd := hg.reads (by omega)
    have hbx0 := hk4 _ _ hbx0
    have hbx1 := hk4 _ _ hbx1
    have hbx2 := hk4 _ _ hbx2
    have hbx3 := hk4 _ _ hbx3
    clear hg hG hb4
    go_wp2_with fail
    have hK : Kept w w4 := ((hk1.trans hk2).trans hk3).trans hk4
    go_loopw [6] (fun i wr => ∃ k : Nat, k ≤ f.blocks.length ∧ i = .int .i64 k ∧ Below w4.heap.size w4 wr) (fun i _ => f.blocks.length - (intOf i).toNat)
    case atStart => exact ⟨0, Nat.zero_le _, rfl, Below.refl _ _⟩
    case round =>
      obtain ⟨k, hk, rfl, hbr⟩ := hrel
      obtain ⟨wo, rfl⟩ : ∃ wo, wo = wr := ⟨wr, rfl⟩
      have hkr : Kept w4 wo := kept_of_below hbr
      by_cases hlt : k < f.blocks.length
      · have hbx0 := hkr _ _ hbx0
        have hbx1 := hkr _ _ hbx1
        have hbx2 := hkr _ _ hbx2
        have hbx3 := hkr _ _ hbx3
        go_wp2_with fail
        refine (refAhead_any f k _ _ (VFun.keep (hK.trans hkr) hv0) (by omega)).mono ?_
        rintro e w5 ⟨⟨r, rfl, A', c', rfl, hs'⟩, hb5⟩
        have hk5 : Kept wo w5 := kept_of_below hb5
        have hB5 : Below w4.heap.size w4 w5 := hbr.trans (hb5.mono hbr.size)
        obtain ⟨b, o, x, he, hx, A2, c2, hc2, hs2⟩ := (SL.keep (hkr.trans hk5) (RRow.keep (hkr.trans hk5)) hrd).at_ (k := k) (by rw [rows_len]; exact hlt)
        simp only [Option.some.injEq, Addr.mk.injEq] at he
        obtain ⟨rfl, rfl, -⟩ := he
        obtain rfl := rows_at hx.out
        rw [Nat.zero_add, Nat.mul_one] at hc2
        generalize aheadL f.blocks k = l at *
        have hll := hs'.len
        have hbx0 := hk5 _ _ hbx0
        have hbx1 := hk5 _ _ hbx1
        have hbx2 := hk5 _ _ hbx2
        have hbx3 := hk5 _ _ hbx3
        go_wp2_with fail
        go_loopw [8] (fun i wr => ∃ j q : Nat, j ≤ l.length ∧ i = .int .i64 j ∧ wr = w5.drewN q) (fun i _ => l.length - (intOf i).toNat)
        case atStart => exact ⟨0, 0, Nat.zero_le _, rfl, rfl⟩
        case round =>
          obtain ⟨j, q, hj, rfl, rfl⟩ := hrel
          by_cases hjt : j < l.length
          · obtain ⟨b1, o1, x1, rfl, hx1, hxc1, -⟩ := hs'.int hjt
            obtain ⟨b2, o2, x2, rfl, hx2, hxc2, -⟩ := hs2.int hjt
            obtain rfl : x1 = x2 := Option.some.inj (hx1.out.symm.trans hx2.out)
            have hj0 : (0 : Int) ≤ j := by omega
            have hj1 : (j : Int) < l.length := by omega
            have hk0 : (0 : Int) ≤ k := by omega
            have hk1' : (k : Int) < f.blocks.length := by omega
            go_wp2_with fail
            go_quiet (fail)
            go_wp2_with fail
            go_roundw
            case rel => exact ⟨j + 1, _, by omega, by go_num, rfl⟩
            case measure => simp [intOf]; omega
          · go_wp2_with fail
            go_roundw
            case rel => exact ⟨k + 1, by omega, by go_num, below_drewN hB5 _⟩
            case measure => simp [intOf]; omega
      · go_wp2_with fail
        go_ret
        exact ⟨rfl, hB4.trans (hbr.mono hB4.size)⟩
end Go.Proofs.Ytfgbmmbkjgdndaa
