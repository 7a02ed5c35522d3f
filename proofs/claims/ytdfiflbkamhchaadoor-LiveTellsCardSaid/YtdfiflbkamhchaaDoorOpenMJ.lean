/- The reference's Small: what it lets by is small. -/
import Derived.Test.YtdfiflbkamhchaaDoorArMJ
import Derived.Test.YtdfiflbkamhchaaDoorLtEJ
import Derived.Test.YtdfiflbkamhchaaDoorEqEJ
import Derived.Test.YtdfiflbkamhchaaDoorRefCJ
import Derived.Test.YtdfiflbkamhchaaDoorLvXJ
import Derived.Deep.RegionHeld3
import Derived.ProofKit
namespace Go.Proofs.YtdfiflbkamhchaaDoor
open Go.ChangeShapes Go.WideShapes Go.RowKit Go.Deep
set_option linter.unusedVariables false

def Says (p : Prop) (B : Nat) (w : World) (e : Ending) (w' : World) : Prop := (∃ b : Bool, e = .returned (.bool b) ∧ (b = true → p)) ∧ Below B w w'
theorem Says.no {p : Prop} {B : Nat} {w w' : World} (h : Below B w w') : Says p B w (.returned (.bool false)) w' := ⟨⟨false, rfl, fun h => by cases h⟩, h⟩

set_option maxRecDepth 100000 in
set_option maxHeartbeats 4000000 in
theorem small_any (m : List FunD) (v : Value) (w : World) (hv : VMod w v m) :
    Calls Tryd.prog 5 #[v] w (Says (SmallM m) w.heap.size w) := by
  obtain ⟨A, c, rfl, hm⟩ := hv
  have hml := hm.len
  by_cases h40 : 40 < m.length
  · go_enter Tryd.func5, Tryd.ntmps5
    go_wp2_with fail
    go_ret
    exact Says.no ((Below.refl _ _).alloc (Nat.le_refl _) _)
  · go_enter Tryd.func5, Tryd.ntmps5
    go_wp2_with fail
    obtain ⟨w1, hw1, hs1, hk1, hbel1, hc1, -⟩ := named w #[.slice A m.length c] 24
    have hc1 := hc1 0 _ rfl
    have hs1 : w.heap.size < w1.heap.size := by omega
    rw [← hw1]
    clear hw1
    go_loopw [3] (fun i wr => ∃ k : Nat, k ≤ m.length ∧ i = .int .i64 k ∧ Below w1.heap.size w1 wr ∧ Upto SmallF m k) (fun i _ => m.length - (intOf i).toNat)
    case atStart => exact ⟨0, Nat.zero_le _, rfl, Below.refl _ _, Upto.zero⟩
    case round =>
      obtain ⟨k, hk, rfl, hbel, hup⟩ := hrel
      obtain ⟨wo, rfl⟩ : ∃ wo, wo = wr := ⟨wr, rfl⟩
      have hs := hbel.size
      have hkw : Kept w1 wo := kept_of_below hbel
      have hbox := hkw _ _ hc1
      have hB : Below w.heap.size w wo := hbel1.trans (hbel.mono (by omega))
      by_cases hlt : k < m.length
      · obtain ⟨b, o, f, rfl, hf, ⟨hp, -⟩, ⟨hr, -⟩, ⟨Ar, cr, hreg, hregs⟩, ⟨Ab, cb, hblk, hblks⟩⟩ := (SFuns.keep (hk1.trans hkw) hm).at_ hlt
        have hrl := hregs.len
        have hbl := hblks.len
        by_cases hok : f.blocks.length ≤ 70 ∧ f.regs.length ≤ 300 ∧ f.params ≤ 1000
        · obtain ⟨ho1, ho2, ho3⟩ := hok
          go_wp2_with fail
          clear hp hr hreg
          obtain ⟨w2, hw2, hs2, hk2, hbel2, hc2, -⟩ := named wo #[.int .i64 f.params, .int .i64 f.result, .slice Ar f.regs.length cr, .slice Ab f.blocks.length cb] 41
          have hc2 := hc2 3 _ rfl
          have hs2 : wo.heap.size < w2.heap.size := by omega
          rw [← hw2]
          clear hw2 hblk
          go_loopw [5] (fun i wr => ∃ j : Nat, j ≤ f.blocks.length ∧ i = .int .i64 j ∧ Below w2.heap.size w2 wr ∧ Upto SmallB f.blocks j) (fun i _ => f.blocks.length - (intOf i).toNat)
          case atStart => exact ⟨0, Nat.zero_le _, rfl, Below.refl _ _, Upto.zero⟩
          case round =>
            obtain ⟨j, hj, rfl, hbel', hup'⟩ := hrel
            have hs' := hbel'.size
            have hkw' : Kept w2 wr := kept_of_below hbel'
            have hbox' := hkw' _ _ hc2
            have hB' : Below w.heap.size w wr := hB.trans ((hbel2.mono (by omega)).trans (hbel'.mono (by omega)))
            by_cases hlt' : j < f.blocks.length
            · obtain ⟨b', o', kb, rfl, hkb, ⟨Ap, cp, hphi, hphis⟩, ⟨Ai, ci, hins, hinss⟩, ⟨hkd, -⟩, ⟨har, -⟩, ⟨At, ct, hto, htos⟩⟩ := (SBlks.keep (hk2.trans hkw') hblks).at_ hlt'
              have hpl := hphis.len
              have hil := hinss.len
              have htl := htos.len
              by_cases hok' : kb.ins.length ≤ 300 ∧ kb.phis.length ≤ 300 ∧ kb.term.to.length ≤ 70
              · obtain ⟨hp1, hp2, hp3⟩ := hok'
                go_wp2_with fail
                clear hphi hkd har hto
                obtain ⟨w3, hw3, hs3, hk3, hbel3, hc3, -⟩ := named wr #[.slice Ap kb.phis.length cp, .slice Ai kb.ins.length ci, .int .i64 kb.term.kind, .int .i64 kb.term.arg, .slice At kb.term.to.length ct] 52
                have hc30 := hc3 0 _ rfl
                have hc31 := hc3 1 _ rfl
                have hs3 : wr.heap.size < w3.heap.size := by omega
                have hB3 : Below w.heap.size w w3 := hB'.trans (hbel3.mono (by omega))
                rw [← hw3]
                clear hw3 hins hc3
                have hinss3 := SInss.keep hk3 hinss
                have hphis3 := SPhis.keep hk3 hphis
                clear hinss hphis
                go_loopw [7] (fun i wi => ∃ n q : Nat, n ≤ kb.ins.length ∧ i = .int .i64 n ∧ wi = w3.drewN q ∧ Upto (fun x : InsD => x.args.length ≤ 300) kb.ins n) (fun i _ => kb.ins.length - (intOf i).toNat)
                case atStart => exact ⟨0, 0, Nat.zero_le _, rfl, rfl, Upto.zero⟩
                case round =>
                  obtain ⟨n, q, hn, rfl, rfl, hup3⟩ := hrel
                  by_cases hlt3 : n < kb.ins.length
                  · obtain ⟨b3, o3, x, rfl, hx, -, -, ⟨Aa, ca, hag, hags⟩, -, -⟩ := hinss3.at_ hlt3
                    have hal := hags.len
                    by_cases hok3 : x.args.length ≤ 300
                    · go_wp2_with fail
                      go_roundw
                      case rel => exact ⟨n + 1, _, by omega, by go_num, rfl, hup3.succ hx.out hok3⟩
                      case measure => simp [intOf]; omega
                    · go_wp2_with fail
                      go_ret
                      exact Says.no (below_drewN hB3 _)
                  · go_wp2_with fail
                    have hi3 := hup3.all (by omega)
                    have HI3 := Lib.hid hi3
                    clear hi3 hup3
                    go_loopw [8] (fun i wi => ∃ n q : Nat, n ≤ kb.phis.length ∧ i = .int .i64 n ∧ wi = w3.drewN q ∧ Upto (fun x : PhiD => x.args.length ≤ 300) kb.phis n) (fun i _ => kb.phis.length - (intOf i).toNat)
                    case atStart => exact ⟨0, q, Nat.zero_le _, rfl, rfl, Upto.zero⟩
                    case round =>
                      obtain ⟨n', q', hn', rfl, rfl, hup4⟩ := hrel
                      by_cases hlt4 : n' < kb.phis.length
                      · obtain ⟨b4, o4, x, rfl, hx, -, ⟨Aa, ca, hag, hags⟩⟩ := hphis3.at_ hlt4
                        have hal := hags.len
                        by_cases hok3 : x.args.length ≤ 300
                        · go_wp2_with fail
                          go_roundw
                          case rel => exact ⟨n' + 1, _, by omega, by go_num, rfl, hup4.succ hx.out hok3⟩
                          case measure => simp [intOf]; omega
                        · go_wp2_with fail
                          go_ret
                          exact Says.no (below_drewN hB3 _)
                      · go_wp2_with fail
                        go_roundw
                        case rel => exact ⟨j + 1, by omega, by go_num, below_drewN ((hbel'.trans (hbel3.mono (by omega)))) _, hup'.succ hkb.out ⟨hp1, hp2, hp3, HI3.out, hup4.all (by omega)⟩⟩
                        case measure => simp [intOf]; omega
              · have hno : 300 < kb.ins.length ∨ 300 < kb.phis.length ∨ 70 < kb.term.to.length := by omega
                clear hok'
                by_cases hq1 : 300 < kb.ins.length
                · clear hno
                  go_wp2_with fail
                  all_goals (go_ret; exact Says.no (hB'.alloc (by omega) _))
                · by_cases hq2 : 300 < kb.phis.length
                  · clear hno
                    go_wp2_with fail
                    all_goals (go_ret; exact Says.no (hB'.alloc (by omega) _))
                  · have hq3 : 70 < kb.term.to.length := by omega
                    clear hno
                    go_wp2_with fail
                    all_goals (go_ret; exact Says.no (hB'.alloc (by omega) _))
            · go_wp2_with fail
              go_roundw
              case rel => exact ⟨k + 1, by omega, by go_num, hbel.trans ((hbel2.mono (by omega)).trans (hbel'.mono (by omega))), hup.succ hf.out ⟨ho1, ho2, ho3, hup'.all (by omega)⟩⟩
              case measure => simp [intOf]; omega
        · have hno : 70 < f.blocks.length ∨ 300 < f.regs.length ∨ 1000 < f.params := by omega
          clear hok
          by_cases hq1 : 70 < f.blocks.length
          · clear hno
            go_wp2_with fail
            all_goals (go_ret; exact Says.no (hB.alloc (by omega) _))
          · by_cases hq2 : 300 < f.regs.length
            · clear hno
              go_wp2_with fail
              all_goals (go_ret; exact Says.no (hB.alloc (by omega) _))
            · have hq3 : 1000 < f.params := by omega
              clear hno
              go_wp2_with fail
              all_goals (go_ret; exact Says.no (hB.alloc (by omega) _))
      · go_wp2_with fail
        go_ret
        exact ⟨⟨true, rfl, fun _ => ⟨by omega, hup.all (by omega)⟩⟩, hB⟩
end Go.Proofs.YtdfiflbkamhchaaDoor

/- The walk of LiveTells. -/
namespace Go.Proofs.YtdfiflbkamhchaaDoor
open Go.ChangeShapes Go.WideShapes Go.RowKit Go.Deep
set_option linter.unusedVariables false

def HoldsErr (w : World) : Prop := w.cell? ⟨0, 0, none⟩ = some (.iface 105 (.agg #[.pointer (some ⟨1, 29, none⟩)]))
theorem HoldsErr.below {w w' : World} (h : HoldsErr w) (hb : Below w.heap.size w w') : HoldsErr w' := (hb.cell (p := ⟨0, 0, none⟩) (block_lt_of_cell h)).trans h
theorem BG1.below {w w' : World} {G n R : Nat} {M : Nat → Nat → Bool} (h : BG1 w G n R M) (hb : Below w.heap.size w w') : BG1 w' G n R M :=
  h.of_blocks fun y h1 h2 => hb.block y (by
    by_cases e : y = G
    · subst e; exact h.row.lt
    · obtain ⟨a, rfl⟩ : ∃ a, y = G + 1 + a := ⟨y - G - 1, by omega⟩
      exact (h.cells a (by omega)).lt)

set_option maxRecDepth 100000 in
set_option maxHeartbeats 16000000 in
theorem liveTells_walk (OI : OfIns) (m : List FunD) (n : Int) (v : Value) (w : World) (hv : VMod w v m) (hg : HoldsErr w) :
    Calls Tryd.prog 3 #[v, .int .i64 n] w fun e w' => e = .returned (.bool true) ∧ Below w.heap.size w w' := by
  have hv0 := hv
  obtain ⟨Am, cm, rfl, hm⟩ := hv
  have HV := Lib.hid hv0
  have HG := Lib.hid hg
  have HMM := Lib.hid hm
  clear hm hv0 hg
  go_enter Tryd.func3, Tryd.ntmps3
  go_upto_region 1 with fail
  obtain ⟨w1, hw1, hs1, hk1, hbel1, hc1, -⟩ := named w #[.slice Am m.length cm] 24
  rw [← hw1]
  have c0 : w1.cell? ⟨w.heap.size, 0, none⟩ = some (.slice Am m.length cm) := hc1 0 _ rfl
  have HB1 := Lib.hid hbel1
  have HS1 : Hid (w1.heap.size = w.heap.size + 1) := Lib.hid hs1
  obtain ⟨N, hN⟩ : ∃ N, N = w.heap.size := ⟨_, rfl⟩
  have HN := Lib.hid hN
  rw [← hN] at c0 ⊢
  clear hw1 hs1 hk1 hc1 hbel1 hN
  go_wp2_with fail
  refine (up8_any w1).mono ?_
  rintro e w2 ⟨rfl, hb2⟩
  have c0 := kept_of_below hb2 _ _ c0
  have HB2 : Hid (Below w.heap.size w w2) := Lib.hid (HB1.out.trans (hb2.mono (by have := HS1.out; omega)))
  clear hb2
  go_wp2_with fail
  refine (small_any m _ w2 (VMod.keep (kept_of_below HB2.out) HV.out)).mono ?_
  rintro e w3 ⟨⟨bs, rfl, hsm⟩, hb3⟩
  have c0 := kept_of_below hb3 _ _ c0
  have HB3 : Hid (Below w.heap.size w w3) := Lib.hid (HB2.out.trans (hb3.mono HB2.out.size))
  cases bs
  · clear hb3 hsm
    go_wp2_with fail
    go_ret
    exact ⟨rfl, HB3.out⟩
  · have HSM := Lib.hid (hsm rfl)
    clear hb3 hsm
    go_wp2_with fail
    refine (live_any m n _ w3 (VMod.keep (kept_of_below HB3.out) HV.out) HSM.out).mono ?_
    rintro e w4 ⟨⟨va, vb, ve, rfl, hL⟩, hb4⟩
    have c0 := kept_of_below hb4 _ _ c0
    have HB4 : Hid (Below w.heap.size w w4) := Lib.hid (HB3.out.trans (hb4.mono HB3.out.size))
    have HL := Lib.hid hL
    clear hb4 hL
    go_wp2_with fail
    refine (count_any m n _ w4 (VMod.keep (kept_of_below HB4.out) HV.out) HSM.out).mono ?_
    rintro e w5 ⟨⟨vc, vf, rfl, hC⟩, hb5⟩
    have c0 := kept_of_below hb5 _ _ c0
    have HB5 : Hid (Below w.heap.size w w5) := Lib.hid (HB4.out.trans (hb5.mono HB4.out.size))
    have HB45 := Lib.hid hb5
    have HC := Lib.hid hC
    have HMR := Lib.hid (fun (W : World) (h : Below w.heap.size w W) => module_ref m _ W (VMod.keep (kept_of_below h) HV.out) (fun f hf => SmallG.of (HSM.out.2 f hf)))
    have HIN := Lib.hid (modE_in m)
    have hg5 := HG.out.below HB5.out
    have HG5 := Lib.hid hg5
    clear hb5 hC hg5
    obtain ⟨p, hpe⟩ : ∃ p, p = modE m := ⟨_, rfl⟩
    have HPE := Lib.hid hpe
    rw [← hpe] at HMR HIN HL HC
    clear hpe
    obtain ⟨p1, p2⟩ := p
    by_cases hp : Proper m
    · have hp1 : p1 = 0 := by have h : (modE m).1 = 0 := hp; rw [← HPE.out] at h; exact h
      subst hp1
      by_cases hn : 0 ≤ n ∧ n < m.length
      · obtain ⟨k, rfl⟩ : ∃ k : Nat, n = (k : Int) := ⟨n.toNat, by omega⟩
        have hkl : k < m.length := by omega
        obtain ⟨f, hf⟩ : ∃ f, m[k]? = some f := ⟨_, List.getElem?_eq_getElem hkl⟩
        rw [HPE.out] at HL HC
        obtain ⟨G3, G4, A, E, rfl, rfl, rfl, -, -, hA, hE, hwA, hwE, hok⟩ := ToldLive.ok hp hf HL.out
        obtain ⟨G, rfl, rfl, -, hct⟩ := ToldCt.ok hp hf HC.out
        have HA := Lib.hid (hA.below HB45.out)
        have HE := Lib.hid (hE.below HB45.out)
        have HCT := Lib.hid hct
        have HOK := Lib.hid hok
        have HFF := Lib.hid hf
        have HWA := Lib.hid hwA
        have HWE := Lib.hid hwE
        have hnb := hok.nb
        have hnr := hok.nr
        have hk0 : (0 : Int) ≤ k := by omega
        have hk1 : (k : Int) < m.length := by omega
        clear hA hE hct hok hf hwA hwE hp hn HL HC
        go_upto_region 7 with fail
        go_cut [12] (fun s12 wc => ∃ y : Bool, s12 = .bool y ∧ wc = w5)
        case first =>
          by_cases h0 : f.blocks.length = 0
          · have hbz : ((f.blocks.length : Int) == 0) = true := by simp [h0]
            clear h0
            go_wp2_with fail
            go_meet
            exact ⟨_, rfl, rfl⟩
          · have hbz : ((f.blocks.length : Int) == 0) = false := by rw [beq_eq_false_iff_ne]; omega
            clear h0
            go_wp2_with fail
            go_meet
            exact ⟨_, rfl, rfl⟩
        case rest =>
        obtain ⟨y12, rfl, hwc⟩ := hcut
        obtain rfl : w5 = wc := hwc.symm
        go_wp2_with fail
        refine (of_nil w5).mono ?_
        rintro e w6 ⟨rfl, hb6⟩
        have c0 := kept_of_below hb6 _ _ c0
        have HB56 := Lib.hid hb6
        clear hb6
        go_wp2_with fail
        refine (of_nil w6).mono ?_
        rintro e w7 ⟨rfl, hb7⟩
        have c0 := kept_of_below hb7 _ _ c0
        have HB57 : Hid (Below w5.heap.size w5 w7) := Lib.hid (HB56.out.trans (hb7.mono HB56.out.size))
        clear hb7
        go_wp2_with fail
        refine (HMR.out w7 (HB5.out.trans (HB57.out.mono HB5.out.size))).mono ?_
        rintro e w8 ⟨rfl, hb8⟩
        have c0 := kept_of_below hb8 _ _ c0
        have HB58 : Hid (Below w5.heap.size w5 w8) := Lib.hid (HB57.out.trans (hb8.mono HB57.out.size))
        have HB8 : Hid (Below w.heap.size w w8) := Lib.hid (HB5.out.trans (HB58.out.mono HB5.out.size))
        obtain ⟨b, o, f2, rfl, hF, ⟨d0, z0⟩, ⟨d1, z1⟩, ⟨Ar, cr, d2, z2⟩, ⟨Ab, cb, d3, z3⟩⟩ := (SFuns.keep (kept_of_below HB8.out) HMM.out).at_ hkl
        obtain rfl : f = f2 := Option.some.inj (HFF.out.symm.trans hF.out)
        have HVF : Hid (VFun w8 (.agg #[.int .i64 f.params, .int .i64 f.result, .slice Ar f.regs.length cr, .slice Ab f.blocks.length cb]) f) := Lib.hid ⟨Ar, cr, Ab, cb, rfl, z2, z3, z0, z1⟩
        have hng : ¬ ((k : Int) < 0) := by omega
        have hng2 : ¬ ((m.length : Int) ≤ k) := by omega
        clear hb8 hF z0 z1 z2 z3 HMR
        go_upto_region 15 with fail
        go_cut [19] from 25 to 125 (fun s19 wc => s19 = .pointer (some ⟨w8.heap.size, 0, none⟩) ∧ wc = w8.alloc (.cells #[.int .i64 f.params, .int .i64 f.result, .slice Ar f.regs.length cr, .slice Ab f.blocks.length cb] 41))
        case first =>
          go_wp2_with fail
          go_meet
          exact ⟨rfl, rfl⟩
        case rest =>
        obtain ⟨rfl, hwc9⟩ := hcut
        obtain ⟨w9, hw9, hs9, hk9, hb9, hc9, -⟩ := named w8 #[.int .i64 f.params, .int .i64 f.result, .slice Ar f.regs.length cr, .slice Ab f.blocks.length cb] 41
        obtain rfl : w9 = wc := hw9.trans hwc9.symm
        clear hwc9
        obtain ⟨Q, hQ⟩ : ∃ Q, Q = w8.heap.size := ⟨_, rfl⟩
        rw [← hQ]
        have q0 : w9.cell? ⟨w8.heap.size, 0, none⟩ = some (.int .i64 f.params) := hc9 0 _ rfl
        have q1 : w9.cell? ⟨w8.heap.size, 1, none⟩ = some (.int .i64 f.result) := hc9 1 _ rfl
        have q2 : w9.cell? ⟨w8.heap.size, 2, none⟩ = some (.slice Ar f.regs.length cr) := hc9 2 _ rfl
        have q3 : w9.cell? ⟨w8.heap.size, 3, none⟩ = some (.slice Ab f.blocks.length cb) := hc9 3 _ rfl
        rw [← hQ] at q0 q1 q2 q3
        have HQ := Lib.hid (And.intro q0 (And.intro q1 (And.intro q2 q3)))
        have HVF9 := Lib.hid (VFun.keep hk9 HVF.out)
        have HB59 : Hid (Below w5.heap.size w5 w9) := Lib.hid (HB58.out.trans (hb9.mono HB58.out.size))
        have HB9 : Hid (Below w.heap.size w w9) := Lib.hid (HB5.out.trans (HB59.out.mono HB5.out.size))
        have HA9 := Lib.hid (HA.out.below HB59.out)
        have HE9 := Lib.hid (HE.out.below HB59.out)
        have HCT9 := Lib.hid (HCT.out.of_block (HB59.out.block G HCT.out.lt))
        have hbb : ((f.blocks.length : Int) != f.blocks.length) = false := by simp
        have hrr : ((f.regs.length : Int) != f.regs.length) = false := by simp
        clear hw9 hs9 hk9 hb9 hc9 hQ HA HE HCT HVF c0 d0 d1 d2 d3
        go_wp2_with fail
        go_loopw [20] (fun s20 wq => ∃ i : Nat, i ≤ f.blocks.length ∧ s20 = .int .i64 (i : Int) ∧ Below w9.heap.size w9 wq) (fun s20 _ => f.blocks.length - (intOf s20).toNat)
        case atStart => exact ⟨0, Nat.zero_le _, rfl, Below.refl _ _⟩
        case round =>
          obtain ⟨i, hi, rfl, hb⟩ := hrel
          have hkk := kept_of_below hb
          have q0 := hkk _ _ HQ.out.1
          have q1 := hkk _ _ HQ.out.2.1
          have q2 := hkk _ _ HQ.out.2.2.1
          have q3 := hkk _ _ HQ.out.2.2.2
          have HB := Lib.hid hb
          by_cases hil : i < f.blocks.length
          · have x1 := (HA9.out.below hb).row.cell hil
            have y1 := (HE9.out.below hb).row.cell hil
            have hi0 : (0 : Int) ≤ i := by omega
            have hi1 : (i : Int) < f.blocks.length := by omega
            clear hb hkk
            go_upto_region 21 with fail
            go_quiet (fail)
            go_wp2_with fail
            go_roundw
            case rel => exact ⟨i + 1, by omega, by go_num, below_drewN HB.out nq⟩
            case measure => simp [intOf]; omega
          · obtain rfl : i = f.blocks.length := by omega
            clear hb hkk
            go_wp2_with fail
            obtain ⟨wl, hwl⟩ : ∃ wl, wl = wr := ⟨_, rfl⟩
            clear q0 q1 q2 q3
            go_loopw [21] (fun s21 wq => ∃ r : Nat, r ≤ f.regs.length ∧ s21 = .int .i64 (r : Int) ∧ Below w9.heap.size w9 wq) (fun s21 _ => f.regs.length - (intOf s21).toNat)
            case atStart => exact ⟨0, Nat.zero_le _, rfl, HB.out⟩
            case round =>
              clear HB hwl
              obtain ⟨r, hr, rfl, hb⟩ := hrel
              have hkk := kept_of_below hb
              have q0 := hkk _ _ HQ.out.1
              have q1 := hkk _ _ HQ.out.2.1
              have q2 := hkk _ _ HQ.out.2.2.1
              have q3 := hkk _ _ HQ.out.2.2.2
              have HB := Lib.hid hb
              by_cases hrl : r < f.regs.length
              · have HL8 := Lib.hid (live8_any f r _ wr (VFun.keep hkk HVF9.out) HOK.out hrl)
                have hr0 : (0 : Int) ≤ r := by omega
                have hr1 : (r : Int) < f.regs.length := by omega
                clear hb hkk
                go_wp2_with fail
                refine HL8.out.mono ?_
                rintro e w10 ⟨⟨H, rfl, hH, hRi, hRe⟩, hb10⟩
                have hb9 : Below w9.heap.size w9 w10 := HB.out.trans (hb10.mono HB.out.size)
                have hkk := kept_of_below hb9
                have q0 := hkk _ _ HQ.out.1
                have q1 := hkk _ _ HQ.out.2.1
                have q2 := hkk _ _ HQ.out.2.2.1
                have q3 := hkk _ _ HQ.out.2.2.2
                have HB10 := Lib.hid hb9
                have x2 := (HCT9.out.of_block (hb9.block G HCT9.out.lt)).cell hrl
                have hRW := rF_want f.blocks r
                have HRI : Hid (w10.rowIs H 4 f.blocks.length (fun x => .bool (A x r))) := Lib.hid (hRi.congr fun x _ => by rw [show (rF f.blocks r (2 * f.blocks.length + 1)).i x = A x r by rw [Bool.eq_iff_iff, hRW.1, HWA.out]])
                have HRE : Hid (w10.rowIs (H + 1) 4 f.blocks.length (fun x => .bool (E x r))) := Lib.hid (hRe.congr fun x _ => by rw [show (rF f.blocks r (2 * f.blocks.length + 1)).e x = E x r by rw [Bool.eq_iff_iff, hRW.2, HWE.out]])
                have HCL := Lib.hid (count8_any f r _ w10.drew (VFun.keep (kept_of_below hb9.drew) HVF9.out) HOK.out)
                clear hRi hRe hRW hb9 hb10 HL8 HB hkk hH
                obtain ⟨ct, hct⟩ : ∃ ct, ct = ctF f.blocks f.blocks.length r := ⟨_, rfl⟩
                rw [← hct] at HCL x2
                have hcc : ((ct : Int) != (ct : Int)) = false := by simp
                clear hct
                go_upto_region 27 with fail
                refine wp_region_last (L := 7) (S := fun w' : World => w'.cell? ⟨Q, 0, none⟩ = some (.int .i64 f.params) ∧ w'.cell? ⟨Q, 1, none⟩ = some (.int .i64 f.result) ∧ w'.cell? ⟨Q, 2, none⟩ = some (.slice Ar f.regs.length cr) ∧ w'.cell? ⟨Q, 3, none⟩ = some (.slice Ab f.blocks.length cb) ∧ w'.cell? ⟨G, r, none⟩ = some (.int .i64 (ct : Int))) (by kernel_rfl) (by rfl) (by kernel_rfl) (by kernel_rfl) ?_
                change wpAnyH _ _ _ _ _ _ _ _ (World.drew _)
                have hS0 : w10.drew.cell? ⟨Q, 0, none⟩ = some (.int .i64 f.params) ∧ w10.drew.cell? ⟨Q, 1, none⟩ = some (.int .i64 f.result) ∧ w10.drew.cell? ⟨Q, 2, none⟩ = some (.slice Ar f.regs.length cr) ∧ w10.drew.cell? ⟨Q, 3, none⟩ = some (.slice Ab f.blocks.length cb) ∧ w10.drew.cell? ⟨G, r, none⟩ = some (.int .i64 (ct : Int)) := ⟨q0, q1, q2, q3, x2⟩
                refine takeH (i := 0) (some 195) (v := ?_) rfl (by kernel_rfl) (by kernel_rfl) (by kernel_rfl) (fun _ _ _ h => h) hS0 (fun o ho => ?_) ?_
                rotate_left
                · simp only [List.getElem?_toArray, List.getElem?_cons_zero, Option.some.injEq] at ho; subst ho; refine Or.inl ⟨by rfl, fun w' hSw => ?_⟩; (try dsimp only at hSw); go_simp; try with_reducible rfl
                simp only [Act.put, List.setIfInBounds_toArray, List.set_cons_zero, List.set_cons_succ]
                refine takeH (i := 1) (some 196) (v := ?_) rfl (by kernel_rfl) (by kernel_rfl) (by kernel_rfl) (fun _ _ _ h => h) hS0 (fun o ho => ?_) ?_
                rotate_left
                · simp only [List.getElem?_toArray, List.getElem?_cons_zero, List.getElem?_cons_succ, Option.some.injEq] at ho; subst ho; refine Or.inl ⟨by rfl, fun w' hSw => ?_⟩; (try dsimp only at hSw); go_simp; try with_reducible rfl
                simp only [Act.put, List.setIfInBounds_toArray, List.set_cons_zero, List.set_cons_succ]
                refine takeH (i := 2) (some 197) (v := ?_) rfl (by kernel_rfl) (by kernel_rfl) (by kernel_rfl) (fun _ _ _ h => h) hS0 (fun o ho => ?_) ?_
                rotate_left
                · simp only [List.getElem?_toArray, List.getElem?_cons_zero, List.getElem?_cons_succ, Option.some.injEq] at ho; subst ho; refine Or.inl ⟨by rfl, fun w' hSw => ?_⟩; (try dsimp only at hSw); go_simp; try with_reducible rfl
                simp only [Act.put, List.setIfInBounds_toArray, List.set_cons_zero, List.set_cons_succ]
                refine takeH (i := 3) (some 198) (v := ?_) rfl (by kernel_rfl) (by kernel_rfl) (by kernel_rfl) (fun _ _ _ h => h) hS0 (fun o ho => ?_) ?_
                rotate_left
                · simp only [List.getElem?_toArray, List.getElem?_cons_zero, List.getElem?_cons_succ, Option.some.injEq] at ho; subst ho; refine Or.inl ⟨by rfl, fun w' hSw => ?_⟩; (try dsimp only at hSw); go_simp; try with_reducible rfl
                simp only [Act.put, List.setIfInBounds_toArray, List.set_cons_zero, List.set_cons_succ]
                refine takeH (i := 4) (some 199) (v := ?_) rfl (by kernel_rfl) (by kernel_rfl) (by kernel_rfl) (fun _ _ _ h => h) hS0 (fun o ho => ?_) ?_
                rotate_left
                · simp only [List.getElem?_toArray, List.getElem?_cons_zero, List.getElem?_cons_succ, Option.some.injEq] at ho; subst ho; refine Or.inl ⟨by rfl, fun w' hSw => ?_⟩; (try dsimp only at hSw); go_simp; try with_reducible rfl
                simp only [Act.put, List.setIfInBounds_toArray, List.set_cons_zero, List.set_cons_succ]
                refine takeH (i := 5) (some 200) (v := ?_) rfl (by kernel_rfl) (by kernel_rfl) (by kernel_rfl) (fun _ _ _ h => h) hS0 (fun o ho => ?_) ?_
                rotate_left
                · simp only [List.getElem?_toArray, List.getElem?_cons_zero, List.getElem?_cons_succ, Option.some.injEq] at ho; subst ho; refine Or.inl ⟨by rfl, fun w' hSw => ?_⟩; (try dsimp only at hSw); go_simp; try with_reducible rfl
                simp only [Act.put, List.setIfInBounds_toArray, List.set_cons_zero, List.set_cons_succ]
                refine oneH (i := 6) (by kernel_rfl) (fun o ho K hK => ?_)
                simp only [List.getElem?_toArray, List.getElem?_cons_zero, List.getElem?_cons_succ, Option.some.injEq] at ho; subst ho
                go_simp
                refine HCL.out.mono ?_
                rintro e w11 ⟨rfl, hb11⟩
                have hb12 : Below w10.heap.size w10 w11 := (Below.refl _ w10).drew.trans (hb11.mono (Nat.le_refl _))
                have HB12 := Lib.hid hb12
                have hkk := kept_of_below hb12
                have HS5 := Lib.hid (And.intro (hkk _ _ q0) (And.intro (hkk _ _ q1) (And.intro (hkk _ _ q2) (And.intro (hkk _ _ q3) (hkk _ _ x2)))))
                clear hb11 hb12 hkk q0 q1 q2 q3 x2
                go_wp2_with fail
                refine hK.out _ _ HS5.out ?_
                clear hK K
                try simp only [Act.put, List.setIfInBounds_toArray, List.set_cons_zero, List.set_cons_succ]
                refine wpAnyH_done (by kernel_rfl) ?_ _
                refine lastH (by decide) (fun o ho K hK => ?_)
                simp only [List.getElem?_toArray, List.getElem?_cons_zero, List.getElem?_cons_succ, Option.some.injEq] at ho; subst ho
                go_simp
                refine hK.out _ _ ?_
                clear hK K
                have HB11 : Hid (Below w9.heap.size w9 w11) := Lib.hid (HB10.out.trans (HB12.out.mono HB10.out.size))
                go_wp2_with fail
                go_loopw [24] (fun s24 wq => ∃ i : Nat, i ≤ f.blocks.length ∧ s24 = .int .i64 (i : Int) ∧ Below w11.heap.size w11 wq) (fun s24 _ => f.blocks.length - (intOf s24).toNat)
                case atStart => exact ⟨0, Nat.zero_le _, rfl, Below.refl _ _⟩
                case round =>
                  obtain ⟨i, hi, rfl, hb⟩ := hrel
                  have HB := Lib.hid hb
                  have hb9 : Below w9.heap.size w9 wr := HB11.out.trans (hb.mono HB11.out.size)
                  have HB9W := Lib.hid hb9
                  by_cases hil : i < f.blocks.length
                  · have hAA := HA9.out.below hb9
                    have hEE := HE9.out.below hb9
                    have x1 := hAA.row.cell hil
                    have x2 := (hAA.cells i hil).cell hrl
                    have y1 := hEE.row.cell hil
                    have y2 := (hEE.cells i hil).cell hrl
                    have hb10 : Below w10.heap.size w10 wr := HB12.out.trans (hb.mono HB12.out.size)
                    have z1 := (HRI.out.of_block (hb10.block H HRI.out.lt)).cell hil
                    have z2 := (HRE.out.of_block (hb10.block (H + 1) HRE.out.lt)).cell hil
                    have hi0 : (0 : Int) ≤ i := by omega
                    have hi1 : (i : Int) < f.blocks.length := by omega
                    clear hb hb9 hb10 hAA hEE
                    generalize A i r = u1 at *
                    generalize E i r = u2 at *
                    have hu1 : (u1 != u1) = false := by cases u1 <;> rfl
                    have hu2 : (u2 != u2) = false := by cases u2 <;> rfl
                    go_upto_region 32 with fail
                    go_quiet (fail)
                    go_wp2_with fail
                    go_roundw
                    case rel => exact ⟨i + 1, by omega, by go_num, below_drewN HB.out nq⟩
                    case measure => simp [intOf]; omega
                  · obtain rfl : i = f.blocks.length := by omega
                    clear hb hb9
                    go_wp2_with fail
                    go_roundw
                    case rel => exact ⟨r + 1, by omega, by go_num, HB9W.out⟩
                    case measure => simp [intOf]; omega
              · obtain rfl : r = f.regs.length := by omega
                clear hb hkk
                go_wp2_with fail
                go_ret
                exact ⟨rfl, HB9.out.trans (HB.out.mono HB9.out.size)⟩
      · -- out of range
        rw [HPE.out] at HL HC
        obtain ⟨rfl, rfl, rfl⟩ : va = .slice none 0 0 ∧ vb = .slice none 0 0 ∧ ve = .iface 38 (.int .i64 1) := by
          rcases HL.out with ⟨h1, h2, ⟨h3, _⟩ | ⟨_, _, h3⟩⟩ | ⟨_, _, k2, f2, _, _, _, _, h2, h3, _⟩
          · exact absurd hp h3
          · exact ⟨h1, h2, h3⟩
          · exact absurd ⟨by omega, by have := (List.getElem?_eq_some_iff.1 h3).1; omega⟩ hn
        obtain ⟨rfl, rfl⟩ : vc = .slice none 0 0 ∧ vf = .iface 38 (.int .i64 1) := by
          rcases HC.out with ⟨h1, ⟨h3, _⟩ | ⟨_, _, h3⟩⟩ | ⟨_, _, k2, f2, _, h2, h3, _⟩
          · exact absurd hp h3
          · exact ⟨h1, h3⟩
          · exact absurd ⟨by omega, by have := (List.getElem?_eq_some_iff.1 h3).1; omega⟩ hn
        have hn2 : n < 0 ∨ (0 ≤ n ∧ (m.length : Int) ≤ n) := by omega
        have HN2 := Lib.hid hn2
        have he := eqlErr
        clear hp hn hn2 HL HC
        go_wp2_with fail
        refine (of_any _ (1, -1) w5 (.inr (.inl ⟨by decide, rfl, rfl⟩)) ⟨by decide, by decide⟩ HG5.out).mono ?_
        rintro e w6 ⟨rfl, hb6⟩
        have c0 := kept_of_below hb6 _ _ c0
        have HG6 := Lib.hid (HG5.out.below hb6)
        have HB6 : Hid (Below w.heap.size w w6) := Lib.hid (HB5.out.trans (hb6.mono HB5.out.size))
        clear hb6
        go_wp2_with fail
        refine (of_any _ (1, -1) w6 (.inr (.inl ⟨by decide, rfl, rfl⟩)) ⟨by decide, by decide⟩ HG6.out).mono ?_
        rintro e w7 ⟨rfl, hb7⟩
        have c0 := kept_of_below hb7 _ _ c0
        have HB7 : Hid (Below w.heap.size w w7) := Lib.hid (HB6.out.trans (hb7.mono HB6.out.size))
        clear hb7
        go_wp2_with fail
        refine (HMR.out w7 HB7.out).mono ?_
        rintro e w8 ⟨rfl, hb8⟩
        have c0 := kept_of_below hb8 _ _ c0
        have HB8 : Hid (Below w.heap.size w w8) := Lib.hid (HB7.out.trans (hb8.mono HB7.out.size))
        clear hb8 HMR
        rcases HN2.out with hlt | ⟨hge, hle⟩
        · go_wp2_with fail
          go_ret
          exact ⟨rfl, HB8.out⟩
        · have hnl : ¬ n < 0 := by omega
          go_wp2_with fail
          go_ret
          exact ⟨rfl, HB8.out⟩
    · -- something is amiss
      have hn0 : p1 ≠ 0 := fun h => hp (by show (modE m).1 = 0; rw [← HPE.out]; exact h)
      have hin2 : 1 ≤ p1 ∧ p1 ≤ 8 := by have h := HIN.out; rcases h with h | h; exact absurd h hn0; have h : 3 ≤ p1 ∧ p1 ≤ 6 := h; omega
      obtain ⟨rfl, rfl, hea⟩ : va = .slice none 0 0 ∧ vb = .slice none 0 0 ∧ ErrAt w4 ve (p1, p2) := by
        rcases HL.out with ⟨h1, h2, ⟨_, h3⟩ | ⟨h3, _⟩⟩ | ⟨h3, _⟩
        · exact ⟨h1, h2, h3⟩
        · exact absurd h3 hp
        · exact absurd h3 hp
      obtain ⟨rfl, heb⟩ : vc = .slice none 0 0 ∧ ErrAt w5 vf (p1, p2) := by
        rcases HC.out with ⟨h1, ⟨_, h3⟩ | ⟨h3, _⟩⟩ | ⟨h3, _⟩
        · exact ⟨h1, h3⟩
        · exact absurd h3 hp
        · exact absurd h3 hp
      have HEA := Lib.hid (hea.keep (kept_of_below HB45.out))
      have HEB := Lib.hid heb
      have HI2 := Lib.hid hin2
      have hne : (p1 != 0) = true := by simpa using hn0
      have hpp : (p1 == p1) = true := by simp
      have hqq : (p2 == p2) = true := by simp
      clear hp hn0 hin2 hea heb HL HC
      go_wp2_with fail
      refine (of_any _ (p1, p2) w5 HEA.out HI2.out HG5.out).mono ?_
      rintro e w6 ⟨rfl, hb6⟩
      have c0 := kept_of_below hb6 _ _ c0
      have HG6 := Lib.hid (HG5.out.below hb6)
      have HEB6 := Lib.hid (HEB.out.keep (kept_of_below hb6))
      have HB6 : Hid (Below w.heap.size w w6) := Lib.hid (HB5.out.trans (hb6.mono HB5.out.size))
      clear hb6
      go_wp2_with fail
      refine (of_any _ (p1, p2) w6 HEB6.out HI2.out HG6.out).mono ?_
      rintro e w7 ⟨rfl, hb7⟩
      have c0 := kept_of_below hb7 _ _ c0
      have HB7 : Hid (Below w.heap.size w w7) := Lib.hid (HB6.out.trans (hb7.mono HB6.out.size))
      clear hb7
      go_wp2_with fail
      refine (HMR.out w7 HB7.out).mono ?_
      rintro e w8 ⟨rfl, hb8⟩
      have HB8 : Hid (Below w.heap.size w w8) := Lib.hid (HB7.out.trans (hb8.mono HB7.out.size))
      clear hb8 HMR
      go_wp2_with fail
      go_ret
      exact ⟨rfl, HB8.out⟩
end Go.Proofs.YtdfiflbkamhchaaDoor

/- Functions and modules that came in as arguments: what they read as. -/
namespace Go.Proofs.YtdfiflbkamhchaaDoor
open Go.ChangeShapes Go.WideShapes Go.RowKit Go.Deep
set_option linter.unusedVariables false

section
variable {H : Type} {enc : TypeId × Value → H} {P : Program} {w : World} {base : Nat} {spare : Nat → Bool} {held : Bool}

theorem struct_field {t : TypeId} {fs : Array Field} {fuel : Nat} {cs : List Value} {y : DataW H × List MemPlace} (ht : P.underlying t = some (.struct fs)) (h : DataW.trod enc P w base spare held fuel t cs = some y)
    (i : Nat) (f : Field) (hf : fs[i]? = some f) : ∃ n z, DataW.trod enc P w base spare held n f.type ((cs.drop f.offset).take (P.cellsOf f.type)) = some z := by
  obtain ⟨xs, n, _, _, _, hlen, hx⟩ := DataW.trod_struct ht h
  have hi : i < xs.length := by rw [hlen]; exact (Array.getElem?_eq_some_iff.1 hf).1
  exact ⟨n, xs[i], (hx i f hf).trans (List.getElem?_eq_getElem hi)⟩
theorem field_of {t : TypeId} {fs : Array Field} {fuel : Nat} {cs : List Value} {y : DataW H × List MemPlace} (ht : P.underlying t = some (.struct fs)) (h : DataW.trod enc P w base spare held fuel t cs = some y)
    (i : Nat) {f : Field} (hf : fs[i]? = some f) {t' : TypeId} {c k : Nat} (hft : f.type = t') (hk : f.offset = k) (hc : P.cellsOf t' = c) : ∃ n z, DataW.trod enc P w base spare held n t' ((cs.drop k).take c) = some z := by
  subst hft hk hc
  exact struct_field ht h i f hf
theorem drop_take_one {cs : List Value} {k : Nat} (hk : k < cs.length) : (cs.drop k).take 1 = [cs[k]] := by
  rw [List.drop_eq_getElem_cons hk]; rfl
theorem int_field {t : TypeId} {n k : Nat} {cs : List Value} {z : DataW H × List MemPlace} (ht : P.underlying t = some (.int .i64)) (hk : k < cs.length) (h : DataW.trod enc P w base spare held n t ((cs.drop k).take 1) = some z) :
    ∃ x, cs[k]? = some (.int .i64 x) ∧ I64 x := by
  rw [drop_take_one hk] at h
  obtain ⟨x, hx, _, hw⟩ := DataW.trod_int ht h
  exact ⟨x, by rw [List.getElem?_eq_getElem hk]; exact congrArg some (List.cons.inj hx).1, wf_i64 hw⟩
theorem slice_field {α : Type} [Inhabited α] {t e : TypeId} {sz : Nat} {R : World → Nat → Nat → α → Prop} {n k : Nat} {cs : List Value} {z : DataW H × List MemPlace} (ht : P.underlying t = some (.slice e)) (hsz : P.cellsOf e = sz) (hpos : 0 < sz)
    (hR : Opens enc P w base spare held e sz R) (hk : k < cs.length) (h : DataW.trod enc P w base spare held n t ((cs.drop k).take 1) = some z) : ∃ A c xs, cs[k]? = some (.slice A xs.length c) ∧ SL w sz R A c xs := by
  rw [drop_take_one hk] at h
  obtain ⟨xs, A, c, e, hs⟩ := open_vs ht hsz hpos hR h
  exact ⟨A, c, xs, by rw [List.getElem?_eq_getElem hk, e], hs⟩
end

theorem Tryd.cells3 : Tryd.prog.cellsOf 3 = 1 := by kernel_rfl
theorem Tryd.cells2 : Tryd.prog.cellsOf 2 = 1 := by kernel_rfl
theorem Tryd.cells32 : Tryd.prog.cellsOf 32 = 1 := by kernel_rfl
theorem Tryd.cells49 : Tryd.prog.cellsOf 49 = 1 := by kernel_rfl
theorem Tryd.cells50 : Tryd.prog.cellsOf 50 = 1 := by kernel_rfl
theorem Tryd.cells39 : Tryd.prog.cellsOf 39 = 1 := by kernel_rfl
theorem Tryd.cells22 : Tryd.prog.cellsOf 22 = 1 := by kernel_rfl
theorem Tryd.cells56 : Tryd.prog.cellsOf 56 = 2 := by kernel_rfl
theorem Tryd.cells54 : Tryd.prog.cellsOf 54 = 5 := by kernel_rfl
theorem Tryd.cells48 : Tryd.prog.cellsOf 48 = 3 := by kernel_rfl
theorem Tryd.cells52 : Tryd.prog.cellsOf 52 = 5 := by kernel_rfl
theorem Tryd.cells41 : Tryd.prog.cellsOf 41 = 4 := by kernel_rfl
theorem Tryd.cells24 : Tryd.prog.cellsOf 24 = 1 := by kernel_rfl

section
variable {H : Type} {enc : TypeId × Value → H} {w : World} {base : Nat} {spare : Nat → Bool} {held : Bool}

theorem opens_int : Opens enc Tryd.prog w base spare held 3 1 RInt := fun n b o cs y hlen hat h => by
  obtain ⟨x, rfl, _, hw⟩ := DataW.trod_int Tryd.underlying3 h
  exact ⟨x, (hat 0 (by omega)).trans rfl, wf_i64 hw⟩
theorem field_int {fs : Array Field} {t : TypeId} {fuel : Nat} {cs : List Value} {y : DataW H × List MemPlace} (ht : Tryd.prog.underlying t = some (.struct fs)) (h : DataW.trod enc Tryd.prog w base spare held fuel t cs = some y)
    (i : Nat) (f : Field) (hf : fs[i]? = some f) (hft : f.type = 3) (hk : f.offset < cs.length) : ∃ x, cs[f.offset]? = some (.int .i64 x) ∧ I64 x := by
  obtain ⟨n, z, hz⟩ := struct_field ht h i f hf
  rw [hft, Tryd.cells3] at hz
  exact int_field Tryd.underlying3 hk hz
theorem field_int64 {fs : Array Field} {t : TypeId} {fuel : Nat} {cs : List Value} {y : DataW H × List MemPlace} (ht : Tryd.prog.underlying t = some (.struct fs)) (h : DataW.trod enc Tryd.prog w base spare held fuel t cs = some y)
    (i : Nat) (f : Field) (hf : fs[i]? = some f) (hft : f.type = 2) (hk : f.offset < cs.length) : ∃ x, cs[f.offset]? = some (.int .i64 x) ∧ I64 x := by
  obtain ⟨n, z, hz⟩ := struct_field ht h i f hf
  rw [hft, Tryd.cells2] at hz
  exact int_field Tryd.underlying2 hk hz
theorem field_ints {fs : Array Field} {t : TypeId} {fuel : Nat} {cs : List Value} {y : DataW H × List MemPlace} (ht : Tryd.prog.underlying t = some (.struct fs)) (h : DataW.trod enc Tryd.prog w base spare held fuel t cs = some y)
    (i : Nat) (f : Field) (hf : fs[i]? = some f) (hft : f.type = 32) (hk : f.offset < cs.length) : ∃ A c, ∃ xs : List Int, cs[f.offset]? = some (.slice A xs.length c) ∧ SL w 1 RInt A c xs := by
  obtain ⟨n, z, hz⟩ := struct_field ht h i f hf
  rw [hft, Tryd.cells32] at hz
  exact slice_field Tryd.underlying32 Tryd.cells3 (by omega) opens_int hk hz
theorem opens_phi : Opens enc Tryd.prog w base spare held 56 2 RPhi := fun n b o cs y hlen hat h => by
  obtain ⟨x, h0, w0⟩ := field_int Tryd.underlying56 h 0 _ rfl rfl (by simp; omega)
  obtain ⟨A, c, xs, h1, w1⟩ := field_ints Tryd.underlying56 h 1 _ rfl rfl (by simp; omega)
  exact ⟨⟨x, xs⟩, ⟨(hat 0 (by omega)).trans h0, w0⟩, A, c, (hat 1 (by omega)).trans h1, w1⟩
theorem opens_ins : Opens enc Tryd.prog w base spare held 54 5 RIns := fun n b o cs y hlen hat h => by
  obtain ⟨x0, h0, w0⟩ := field_int Tryd.underlying54 h 0 _ rfl rfl (by simp; omega)
  obtain ⟨x1, h1, w1⟩ := field_int Tryd.underlying54 h 1 _ rfl rfl (by simp; omega)
  obtain ⟨A, c, xs, h2, w2⟩ := field_ints Tryd.underlying54 h 2 _ rfl rfl (by simp; omega)
  obtain ⟨x3, h3, w3⟩ := field_int64 Tryd.underlying54 h 3 _ rfl rfl (by simp; omega)
  obtain ⟨x4, h4, w4⟩ := field_int Tryd.underlying54 h 4 _ rfl rfl (by simp; omega)
  exact ⟨⟨x0, x1, xs, x3, x4⟩, ⟨(hat 0 (by omega)).trans h0, w0⟩, ⟨(hat 1 (by omega)).trans h1, w1⟩, ⟨A, c, (hat 2 (by omega)).trans h2, w2⟩, ⟨(hat 3 (by omega)).trans h3, w3⟩, ⟨(hat 4 (by omega)).trans h4, w4⟩⟩
theorem opens_blk : Opens enc Tryd.prog w base spare held 52 5 RBlk := fun n b o cs y hlen hat h => by
  obtain ⟨n0, z0, hz0⟩ := field_of Tryd.underlying52 h 0 rfl rfl rfl Tryd.cells49
  obtain ⟨A0, c0, ps, h0, w0⟩ := slice_field Tryd.underlying49 Tryd.cells56 (by omega) opens_phi (by simp; omega) hz0
  obtain ⟨n1, z1, hz1⟩ := field_of Tryd.underlying52 h 1 rfl rfl rfl Tryd.cells50
  obtain ⟨A1, c1, is, h1, w1⟩ := slice_field Tryd.underlying50 Tryd.cells54 (by omega) opens_ins (by simp; omega) hz1
  obtain ⟨n2, z2, hz2⟩ := field_of Tryd.underlying52 h 2 rfl rfl rfl Tryd.cells48
  have hl2 : ((cs.drop 2).take 3).length = 3 := by simp; omega
  obtain ⟨x2, h2, w2⟩ := field_int Tryd.underlying48 hz2 0 _ rfl rfl (by simp; omega)
  obtain ⟨x3, h3, w3⟩ := field_int Tryd.underlying48 hz2 1 _ rfl rfl (by simp; omega)
  obtain ⟨A4, c4, xs, h4, w4⟩ := field_ints Tryd.underlying48 hz2 2 _ rfl rfl (by simp; omega)
  have g (i : Nat) (hi : i < 3) : ((cs.drop 2).take 3)[i]? = cs[2 + i]? := by rw [List.getElem?_take_of_lt hi, List.getElem?_drop]
  exact ⟨⟨ps, is, ⟨x2, x3, xs⟩⟩, ⟨A0, c0, (hat 0 (by omega)).trans h0, w0⟩, ⟨A1, c1, (hat 1 (by omega)).trans h1, w1⟩, ⟨(hat 2 (by omega)).trans ((g 0 (by omega)).symm.trans h2), w2⟩, ⟨(hat 3 (by omega)).trans ((g 1 (by omega)).symm.trans h3), w3⟩, ⟨A4, c4, (hat 4 (by omega)).trans ((g 2 (by omega)).symm.trans h4), w4⟩⟩
theorem opens_fun : Opens enc Tryd.prog w base spare held 41 4 RFun := fun n b o cs y hlen hat h => by
  obtain ⟨x0, h0, w0⟩ := field_int Tryd.underlying41 h 0 _ rfl rfl (by simp; omega)
  obtain ⟨x1, h1, w1⟩ := field_int Tryd.underlying41 h 1 _ rfl rfl (by simp; omega)
  obtain ⟨A2, c2, xs, h2, w2⟩ := field_ints Tryd.underlying41 h 2 _ rfl rfl (by simp; omega)
  obtain ⟨n3, z3, hz3⟩ := field_of Tryd.underlying41 h 3 rfl rfl rfl Tryd.cells39
  obtain ⟨A3, c3, bs, h3, w3⟩ := slice_field Tryd.underlying39 Tryd.cells52 (by omega) opens_blk (by simp; omega) hz3
  exact ⟨⟨x0, x1, xs, bs⟩, ⟨(hat 0 (by omega)).trans h0, w0⟩, ⟨(hat 1 (by omega)).trans h1, w1⟩, ⟨A2, c2, (hat 2 (by omega)).trans h2, w2⟩, ⟨A3, c3, (hat 3 (by omega)).trans h3, w3⟩⟩

set_option maxRecDepth 100000 in
/-- A function by value. -/
theorem open_fun {r : Go.Reach} {b0 : Nat} {v : Value} {d : DataW H} {p : List MemPlace} (hv : Value.okWide Tryd.prog w r b0 41 v) (h : DataW.Trod enc Tryd.prog w base spare held 41 v d p) : ∃ f, VFun w v f := by
  obtain ⟨cs, rfl, hsz⟩ := okWide_struct Tryd.underlying41 hv
  rw [Tryd.cells41] at hsz
  obtain ⟨l⟩ := cs
  match l, hsz with
  | [a, b, c, d], _ =>
    obtain ⟨fuel, hf⟩ := h
    have hf : DataW.trod enc Tryd.prog w base spare held fuel 41 [a, b, c, d] = some (_, p) := hf
    obtain ⟨x0, h0, w0⟩ := field_int Tryd.underlying41 hf 0 _ rfl rfl (by simp)
    obtain ⟨x1, h1, w1⟩ := field_int Tryd.underlying41 hf 1 _ rfl rfl (by simp)
    obtain ⟨A2, c2, xs, h2, w2⟩ := field_ints Tryd.underlying41 hf 2 _ rfl rfl (by simp)
    obtain ⟨n3, z3, hz3⟩ := field_of Tryd.underlying41 hf 3 rfl rfl rfl Tryd.cells39
    obtain ⟨A3, c3, bs, h3, w3⟩ := slice_field Tryd.underlying39 Tryd.cells52 (by omega) opens_blk (by simp) hz3
    obtain rfl := Option.some.inj h0
    obtain rfl := Option.some.inj h1
    obtain rfl := Option.some.inj h2
    obtain rfl := Option.some.inj h3
    exact ⟨⟨x0, x1, xs, bs⟩, A2, c2, A3, c3, rfl, w2, w3, w0, w1⟩
set_option maxRecDepth 100000 in
/-- A module by value. -/
theorem open_mod {r : Go.Reach} {b0 : Nat} {v : Value} {d : DataW H} {p : List MemPlace} (hv : Value.okWide Tryd.prog w r b0 24 v) (h : DataW.Trod enc Tryd.prog w base spare held 24 v d p) : ∃ m, VMod w v m := by
  obtain ⟨cs, rfl, hsz⟩ := okWide_struct Tryd.underlying24 hv
  rw [Tryd.cells24] at hsz
  obtain ⟨l⟩ := cs
  match l, hsz with
  | [a], _ =>
    obtain ⟨fuel, hf⟩ := h
    have hf : DataW.trod enc Tryd.prog w base spare held fuel 24 [a] = some (_, p) := hf
    obtain ⟨n3, z3, hz3⟩ := field_of Tryd.underlying24 hf 0 rfl rfl rfl Tryd.cells22
    obtain ⟨A3, c3, bs, h3, w3⟩ := slice_field Tryd.underlying22 Tryd.cells41 (by omega) opens_fun (by simp) hz3
    obtain rfl := Option.some.inj h3
    exact ⟨bs, A3, c3, rfl, w3⟩
end
end Go.Proofs.YtdfiflbkamhchaaDoor
