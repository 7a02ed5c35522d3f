/- ofBlock, ofFunc, Module, Func, Plain: what the document says, given that ofInstr does. -/
import Derived.Test.YtoidhjmhakajlaaIns
import Derived.Test.YtoidhjmhakajlaaChkA
import Derived.Test.YtoidhjmhakajlaaChkT
import Derived.Test.YtoidhjmhakajlaaChkM
import Derived.Test.YtoidhjmhakajlaaChkC
namespace Go.Proofs.Ytoidhjmhakajlaa
open Go.ChangeShapes Go.WideShapes Go.RowKit Go.Deep
set_option linter.unusedVariables false

/-- ofInstr does what the document says, where the registers are of types. -/
def OfIns : Prop := ∀ (m : List FunD) (f : FunD) (x : InsD) (vm vf vx : Value) (w : World), VMod w vm m → VFun w vf f → VIns w vx x → (∀ t ∈ f.regs, t = 1 ∨ t = 2) →
  Calls Try.prog 62 #[vm, vf, vx] w fun e w' => e = .returned (errV (insE m f x)) ∧ Below w.heap.size w w'

theorem first_map_at {α : Type} {l : List α} {k : Nat} {x : α} (p : α → Int) (h : l[k]? = some x) (h0 : firstE ((l.take k).map p) = 0) : firstE ((l.take (k + 1)).map p) = p x := by
  have := firstE_snoc (map_at p h) (by rw [map_take]; exact h0)
  rwa [map_take] at this
theorem first_map_stop {α : Type} {l : List α} {k : Nat} {x : α} (p : α → Int) (h : l[k]? = some x) (h0 : firstE ((l.take k).map p) = 0) (hx : p x ≠ 0) : firstE (l.map p) = p x :=
  firstE_stop (map_at p h) (by rw [map_take]; exact h0) hx
theorem first_map_done {α : Type} {l : List α} {k : Nat} (p : α → Int) (h0 : firstE ((l.take k).map p) = 0) (hk : l.length ≤ k) : firstE (l.map p) = 0 := by rwa [List.take_of_length_le hk] at h0

set_option maxRecDepth 100000 in
set_option maxHeartbeats 4000000 in
theorem ofBlock_any (OI : OfIns) (m : List FunD) (f : FunD) (b : BlkD) (vm vf vb : Value) (w : World) (hm : VMod w vm m) (hf : VFun w vf f) (hb : VBlk w vb b) (hty : ∀ t ∈ f.regs, t = 1 ∨ t = 2) :
    Calls Try.prog 51 #[vm, vf, vb] w fun e w' => e = .returned (errV (blockE m f b)) ∧ Below w.heap.size w w' := by
  have hm0 := hm
  have hf0 := hf
  have HTYP := Lib.hid hty
  clear hty
  obtain ⟨Am, cm, rfl, hms⟩ := hm
  obtain ⟨Ar, cr, Ab, cb, rfl, hr, hbs, hp64, hr64⟩ := hf
  obtain ⟨Ap, cp, Ai, ci, At, ct, rfl, hps, his, hts, hk64, ha64⟩ := hb
  have hpl := hps.len
  have hil := his.len
  go_enter Try.func51, Try.ntmps51
  go_wp2_with fail
  obtain ⟨wa, hwa, hsa, hka, hba, hca, -⟩ := named w #[.slice Am m.length cm] 24
  obtain ⟨wb, hwb, hsb, hkb, hbb, hcb, -⟩ := named wa #[.int .i64 f.params, .int .i64 f.result, .slice Ar f.regs.length cr, .slice Ab f.blocks.length cb] 39
  obtain ⟨w1, hw1, hs1, hk1, hb1, hc1, -⟩ := named wb #[.slice Ap b.phis.length cp, .slice Ai b.ins.length ci, .int .i64 b.term.kind, .int .i64 b.term.arg, .slice At b.term.to.length ct] 47
  rw [← hwa, ← hwb, ← hw1]
  rw [hsa] at hcb
  rw [hsb, hsa] at hc1
  have hB1 : Below w.heap.size w w1 := (hba.trans (hbb.mono (by omega))).trans (hb1.mono (by omega))
  have q0 : w1.cell? ⟨w.heap.size, 0, none⟩ = some (.slice Am m.length cm) := hk1 _ _ (hkb _ _ (hca 0 _ rfl))
  have f0 : w1.cell? ⟨w.heap.size + 1, 0, none⟩ = some (.int .i64 f.params) := hk1 _ _ (hcb 0 _ rfl)
  have f1 : w1.cell? ⟨w.heap.size + 1, 1, none⟩ = some (.int .i64 f.result) := hk1 _ _ (hcb 1 _ rfl)
  have f2 : w1.cell? ⟨w.heap.size + 1, 2, none⟩ = some (.slice Ar f.regs.length cr) := hk1 _ _ (hcb 2 _ rfl)
  have f3 : w1.cell? ⟨w.heap.size + 1, 3, none⟩ = some (.slice Ab f.blocks.length cb) := hk1 _ _ (hcb 3 _ rfl)
  have b1 : w1.cell? ⟨w.heap.size + 1 + 1, 1, none⟩ = some (.slice Ai b.ins.length ci) := hc1 1 _ rfl
  have b2 : w1.cell? ⟨w.heap.size + 1 + 1, 2, none⟩ = some (.int .i64 b.term.kind) := hc1 2 _ rfl
  have b3 : w1.cell? ⟨w.heap.size + 1 + 1, 3, none⟩ = some (.int .i64 b.term.arg) := hc1 3 _ rfl
  have b4 : w1.cell? ⟨w.heap.size + 1 + 1, 4, none⟩ = some (.slice At b.term.to.length ct) := hc1 4 _ rfl
  have hs1 : w.heap.size + 1 + 1 < w1.heap.size := by omega
  clear hwa hwb hw1 hsa hsb hca hcb hc1 hka hkb hk1 hba hbb hb1
  have hk1 := kept_of_below hB1
  go_loopw [16] (fun i wr => ∃ k : Nat, k ≤ b.phis.length ∧ i = .int .i64 k ∧ Below w1.heap.size w1 wr ∧ Hid (firstE ((b.phis.take k).map (phiE f)) = 0)) (fun i _ => b.phis.length - (intOf i).toNat)
  case atStart => exact ⟨0, Nat.zero_le _, rfl, Below.refl _ _, Lib.hid rfl⟩
  case round =>
    obtain ⟨k, hk, rfl, hbel, hi⟩ := hrel
    obtain ⟨wo, rfl⟩ : ∃ wo, wo = wr := ⟨wr, rfl⟩
    have hkw : Kept w1 wo := kept_of_below hbel
    have hB : Below w.heap.size w wo := hB1.trans (hbel.mono (by omega))
    have hso := hbel.size
    have e0 := hkw _ _ f0
    have e1 := hkw _ _ f1
    have e2 := hkw _ _ f2
    have e3 := hkw _ _ f3
    have n1 : w.heap.size + 1 < wo.heap.size := by omega
    have n2 : w.heap.size + 1 + 1 < wo.heap.size := by omega
    by_cases hlt : k < b.phis.length
    · obtain ⟨bb, oo, p, rfl, hp, ⟨hpd, hpd64⟩, Aa, ca, hag, hags⟩ := (SPhis.keep (hk1.trans hkw) hps).at_ hlt
      go_wp2_with fail
      obtain ⟨w2, hw2, hs2, hk2, hbel2, -, -⟩ := named wo #[.int .i64 p.dst, .slice Aa p.args.length ca] 60
      have hb2 : Below w1.heap.size w1 w2 := hbel.trans (hbel2.mono (by omega))
      have hB2 : Below w.heap.size w w2 := hB.trans (hbel2.mono hB.size)
      rw [← hw2]
      clear hw2 hs2
      refine (ofPhi_any f p _ _ _ (VFun.keep ((hk1.trans hkw).trans hk2) hf0) ⟨Aa, ca, rfl, SInts.keep hk2 hags, hpd64⟩).mono ?_
      rintro e w3 ⟨rfl, hb3⟩
      have hb3' : Below w1.heap.size w1 w3 := hb2.trans (hb3.mono hb2.size)
      have hB3 : Below w.heap.size w w3 := hB2.trans (hb3.mono hB2.size)
      by_cases hc : phiE f p = 0
      · have HC := Lib.hid hc
        rw [hc, errV_zero]
        clear hc
        go_wp2_with fail
        go_roundw
        case rel => exact ⟨k + 1, by omega, by go_num, hb3', Lib.hid (by rw [first_map_at (phiE f) hp.out hi.out]; exact HC.out)⟩
        case measure => simp [intOf]; omega
      · have HC : Hid (blockE m f b = phiE f p) := Lib.hid (by
          have := first_map_stop (phiE f) hp.out hi.out hc
          unfold blockE; rw [this, if_neg hc])
        rw [errV_pos hc]
        have HC2 := Lib.hid hc
        clear hc
        go_wp2_with fail
        go_ret
        exact ⟨by rw [HC.out, errV_pos HC2.out]; rfl, hB3⟩
    · have HP := Lib.hid (first_map_done (phiE f) hi.out (Nat.le_of_not_lt hlt))
      have hbo := hbel
      have y1 := hkw _ _ b1
      clear hi
      go_wp2_with fail
      go_loopw [30] (fun i wr => ∃ k : Nat, k ≤ b.ins.length ∧ i = .int .i64 k ∧ Below w1.heap.size w1 wr ∧ Hid (firstE ((b.ins.take k).map (insE m f)) = 0)) (fun i _ => b.ins.length - (intOf i).toNat)
      case atStart => exact ⟨0, Nat.zero_le _, rfl, hbo, Lib.hid rfl⟩
      case round =>
        obtain ⟨k, hk, rfl, hbel, hi⟩ := hrel
        have hkw : Kept w1 wr := kept_of_below hbel
        have hB : Below w.heap.size w wr := hB1.trans (hbel.mono (by omega))
        have hso := hbel.size
        have a0 := hkw _ _ q0
        have e0 := hkw _ _ f0
        have e1 := hkw _ _ f1
        have e2 := hkw _ _ f2
        have e3 := hkw _ _ f3
        have n0 : w.heap.size < wr.heap.size := by omega
        have n1 : w.heap.size + 1 < wr.heap.size := by omega
        have n2 : w.heap.size + 1 + 1 < wr.heap.size := by omega
        by_cases hlt : k < b.ins.length
        · obtain ⟨bb, oo, x, rfl, hx, ⟨h0, z0⟩, ⟨h1, z1⟩, ⟨Aa, ca, hag, hags⟩, ⟨h3, z3⟩, ⟨h4, z4⟩⟩ := (SInss.keep (hk1.trans hkw) his).at_ hlt
          go_wp2_with fail
          obtain ⟨w2, hw2, hs2, hk2, hbel2, -, -⟩ := named wr #[.int .i64 x.op, .int .i64 x.dst, .slice Aa x.args.length ca, .int .i64 x.imm, .int .i64 x.fn] 41
          have hb2 : Below w1.heap.size w1 w2 := hbel.trans (hbel2.mono (by omega))
          have hB2 : Below w.heap.size w w2 := hB.trans (hbel2.mono hB.size)
          rw [← hw2]
          clear hw2 hs2
          have hK := (hk1.trans hkw).trans hk2
          refine (OI m f x _ _ _ _ (VMod.keep hK hm0) (VFun.keep hK hf0) ⟨Aa, ca, rfl, SInts.keep hk2 hags, z0, z1, z3, z4⟩ HTYP.out).mono ?_
          rintro e w3 ⟨rfl, hb3⟩
          have hb3' : Below w1.heap.size w1 w3 := hb2.trans (hb3.mono hb2.size)
          have hB3 : Below w.heap.size w w3 := hB2.trans (hb3.mono hB2.size)
          by_cases hc : insE m f x = 0
          · have HC := Lib.hid hc
            rw [hc, errV_zero]
            clear hc
            go_wp2_with fail
            go_roundw
            case rel => exact ⟨k + 1, by omega, by go_num, hb3', Lib.hid (by rw [first_map_at (insE m f) hx.out hi.out]; exact HC.out)⟩
            case measure => simp [intOf]; omega
          · have HC : Hid (blockE m f b = insE m f x) := Lib.hid (by
              have := first_map_stop (insE m f) hx.out hi.out hc
              unfold blockE; rw [HP.out, if_pos rfl, this, if_neg hc])
            rw [errV_pos hc]
            have HC2 := Lib.hid hc
            clear hc
            go_wp2_with fail
            go_ret
            exact ⟨by rw [HC.out, errV_pos HC2.out]; rfl, hB3⟩
        · have HI : Hid (blockE m f b = termE f b.term) := Lib.hid (by
            have := first_map_done (insE m f) hi.out (Nat.le_of_not_lt hlt)
            unfold blockE; rw [HP.out, if_pos rfl, this, if_pos rfl])
          have t2 := hkw _ _ b2
          have t3 := hkw _ _ b3
          have t4 := hkw _ _ b4
          have hK := hk1.trans hkw
          go_wp2_with fail
          refine (ofTerm_any f b.term _ _ _ (VFun.keep hK hf0) ⟨At, ct, rfl, SInts.keep hK hts, hk64, ha64⟩).mono ?_
          rintro e w3 ⟨rfl, hb3⟩
          have hB3 : Below w.heap.size w w3 := hB.trans (hb3.mono hB.size)
          go_wp2_with fail
          go_ret
          exact ⟨by rw [HI.out]; rfl, hB3⟩
end Go.Proofs.Ytoidhjmhakajlaa
