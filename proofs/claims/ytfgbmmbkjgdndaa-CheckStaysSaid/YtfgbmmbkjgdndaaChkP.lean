/- Plain, given that ofInstr does what the document says: that it answers, and what it leaves alone. -/
import Derived.Test.YtfgbmmbkjgdndaaChkE
namespace Go.Proofs.Ytfgbmmbkjgdndaa
open Go.ChangeShapes Go.WideShapes Go.RowKit Go.Deep
set_option linter.unusedVariables false

set_option maxRecDepth 100000 in
set_option maxHeartbeats 4000000 in
theorem hasPhi_any (f : FunD) (v : Value) (w : World) (hv : VFun w v f) :
    Calls Try.prog 19 #[v] w fun e w' => e = .returned (.bool (!f.blocks.all fun b => decide (b.phis.length = 0))) ∧ Below w.heap.size w w' := by
  obtain ⟨Ar, cr, A, c, rfl, hr, hb, -, -⟩ := hv
  have hbl := hb.len
  go_enter Try.func19, Try.ntmps19
  go_wp2_with fail
  obtain ⟨w1, hw1, hs1, hk1, hbel1, hc1, -⟩ := named w #[.int .i64 f.params, .int .i64 f.result, .slice Ar f.regs.length cr, .slice A f.blocks.length c] 25
  rw [← hw1]
  clear hw1 hc1
  have hs1 : w.heap.size < w1.heap.size := by omega
  go_loopw [8] (fun i wr => ∃ k : Nat, k ≤ f.blocks.length ∧ i = .int .i64 k ∧ Hid ((f.blocks.take k).all (fun b => decide (b.phis.length = 0)) = true) ∧ Below w1.heap.size w1 wr) (fun i _ => f.blocks.length - (intOf i).toNat)
  case atStart => exact ⟨0, Nat.zero_le _, rfl, Lib.hid rfl, Below.refl _ _⟩
  case round =>
    obtain ⟨k, hk, rfl, hi, hbel⟩ := hrel
    have hs := hbel.size
    have hkw : Kept w1 wr := kept_of_below hbel
    have hB : Below w.heap.size w wr := hbel1.trans (hbel.mono (by omega))
    by_cases hlt : k < f.blocks.length
    · obtain ⟨b, o, kb, rfl, hkb, ⟨Ap, cp, hphi, hphis⟩, ⟨Ai, ci, hins, hinss⟩, ⟨hkd, -⟩, ⟨har, -⟩, ⟨At, ct, hto, htos⟩⟩ := (SBlks.keep (hk1.trans hkw) hb).at_ hlt
      have hpl := hphis.len
      by_cases hp : 0 < kb.phis.length
      · go_wp2_with fail
        go_ret
        exact ⟨by rw [all_stop hkb.out (decide_eq_false (by omega))]; rfl, hB.alloc (by omega) _⟩
      · go_wp2_with fail
        go_roundw
        case rel => exact ⟨k + 1, by omega, by go_num, Lib.hid (by rw [all_step hkb.out hi.out]; exact decide_eq_true (by omega)), hbel.alloc (by omega) _⟩
        case measure => simp [intOf]; omega
    · have hd := all_done hi.out (Nat.le_of_not_lt hlt)
      have HD := Lib.hid hd
      clear hd
      go_wp2_with fail
      go_ret
      exact ⟨by rw [HD.out]; rfl, hB⟩

set_option maxRecDepth 100000 in
set_option maxHeartbeats 4000000 in
theorem plain_any (OI : OfIns) (m : List FunD) (vm : Value) (w : World) (hm : VMod w vm m) (hlim : ∀ f ∈ m, Lim f) :
    Calls Try.prog 12 #[vm] w fun e w' => (∃ v, e = .returned v) ∧ Below w.heap.size w w' := by
  have hm0 := hm
  obtain ⟨Am, cm, rfl, hms⟩ := hm
  have hml := hms.len
  go_enter Try.func12, Try.ntmps12
  go_wp2_with fail
  obtain ⟨w1, hw1, hs1, hk1, hB1, hc1, -⟩ := named w #[.slice Am m.length cm] 30
  rw [← hw1]
  have q0 : w1.cell? ⟨w.heap.size, 0, none⟩ = some (.slice Am m.length cm) := hc1 0 _ rfl
  have hs1 : w.heap.size < w1.heap.size := by omega
  clear hw1 hc1
  refine (module_any OI m _ _ (VMod.keep hk1 hm0) hlim).mono ?_
  rintro e w2 ⟨⟨ve, rfl, he⟩, hb2⟩
  have hB2 : Below w.heap.size w w2 := hB1.trans (hb2.mono hB1.size)
  have hk2 := kept_of_below hb2
  have q0 := hk2 _ _ q0
  by_cases hp : (modE m).1 = 0
  · obtain rfl := he.nil hp
    clear hp he
    go_wp2_with fail
    go_loopw [14] (fun i wr => ∃ k : Nat, k ≤ m.length ∧ i = .int .i64 k ∧ Below w2.heap.size w2 wr) (fun i _ => m.length - (intOf i).toNat)
    case atStart => exact ⟨0, Nat.zero_le _, rfl, Below.refl _ _⟩
    case round =>
      obtain ⟨k, hk, rfl, hbel⟩ := hrel
      have hkw : Kept w2 wr := kept_of_below hbel
      have hB : Below w.heap.size w wr := hB2.trans (hbel.mono hB2.size)
      by_cases hlt : k < m.length
      · obtain ⟨bb, oo, f, rfl, hx, ⟨h0, z0⟩, ⟨h1, z1⟩, ⟨Ar, cr, h2, z2⟩, Ab, cb, h3, z3⟩ := (SFuns.keep ((hk1.trans hk2).trans hkw) hms).at_ hlt
        go_wp2_with fail
        obtain ⟨wn, hwn, hsn, hkn, hbn, -, -⟩ := named wr #[.int .i64 f.params, .int .i64 f.result, .slice Ar f.regs.length cr, .slice Ab f.blocks.length cb] 25
        have hbn' : Below w2.heap.size w2 wn := hbel.trans (hbn.mono hbel.size)
        have hBn : Below w.heap.size w wn := hB.trans (hbn.mono hB.size)
        rw [← hwn]
        clear hwn hsn
        refine (hasPhi_any f _ _ ⟨Ar, cr, Ab, cb, rfl, SInts.keep hkn z2, SBlks.keep hkn z3, z0, z1⟩).mono ?_
        rintro e w7 ⟨rfl, hb7⟩
        have hb7' : Below w2.heap.size w2 w7 := hbn'.trans (hb7.mono hbn'.size)
        have hB7 : Below w.heap.size w w7 := hBn.trans (hb7.mono hBn.size)
        cases (f.blocks.all fun b => decide (b.phis.length = 0))
        · go_wp2_with fail
          go_ret
          exact ⟨⟨_, rfl⟩, hB7.alloc hB7.size _⟩
        · go_wp2_with fail
          go_roundw
          case rel => exact ⟨k + 1, by omega, by go_num, hb7'⟩
          case measure => simp [intOf]; omega
      · go_wp2_with fail
        go_ret
        exact ⟨⟨_, rfl⟩, hB⟩
  · obtain ⟨t, x, rfl⟩ := he.iface hp
    clear hp he
    go_wp2_with fail
    go_ret
    exact ⟨⟨_, rfl⟩, hB2⟩
end Go.Proofs.Ytfgbmmbkjgdndaa
