/- The document's first example of layer 8. -/
import Derived.Test.YtflbooopgjgkbaaLvKJ
import Derived.BigQuiet
import Derived.Test.YtflbooopgjgkbaaArMJ
namespace Go.Proofs.Ytflbooopgjgkbaa
open Go.ChangeShapes Go.WideShapes Go.RowKit Go.Deep
set_option linter.unusedVariables false

theorem sl_nil8 {α : Type} {w : World} {sz : Nat} {R : World → Nat → Nat → α → Prop} : SL w sz R none 0 [] := ⟨Nat.le_refl _, ⟨by unfold maxLen; omega, fun _ => rfl⟩, fun h => absurd h (by simp)⟩
def f8 : FunD := ⟨1, 1, [1], [⟨[], [], ⟨3, 0, []⟩⟩]⟩
theorem proper8 : Proper [f8] := by unfold Proper; decide
set_option maxRecDepth 100000 in
set_option maxHeartbeats 4000000 in
theorem up8_any (w : World) : Calls Try.prog 18 #[] w fun e w' => e = .returned (.bool true) ∧ Below w.heap.size w w' := by
  go_enter Try.func18, Try.ntmps18
  go_wp2_with fail
  obtain ⟨N, hN⟩ : ∃ N, N = w.heap.size := ⟨_, rfl⟩
  obtain ⟨W4, hW4⟩ : ∃ W4, W4 = (((w.alloc (.cells #[.int .i64 1] 3)).alloc (.cells #[.slice none 0 0, .slice none 0 0, .int .i64 3, .int .i64 0, .slice none 0 0] 52)).alloc (.cells #[.int .i64 1, .int .i64 1, .slice (some ⟨N, 0, none⟩) 1 1, .slice (some ⟨N + 1, 0, none⟩) 1 1] 25)).alloc (.cells #[.int .i64 1, .int .i64 1, .slice (some ⟨N, 0, none⟩) 1 1, .slice (some ⟨N + 1, 0, none⟩) 1 1] 25) := ⟨_, rfl⟩
  have hb : W4.heap[N]? = some (.cells #[.int .i64 1] 3) ∧ W4.heap[N + 1]? = some (.cells #[.slice none 0 0, .slice none 0 0, .int .i64 3, .int .i64 0, .slice none 0 0] 52) ∧ W4.heap[N + 1 + 1 + 1]? = some (.cells #[.int .i64 1, .int .i64 1, .slice (some ⟨N, 0, none⟩) 1 1, .slice (some ⟨N + 1, 0, none⟩) 1 1] 25) ∧ Below N w W4 := by
    subst hW4 hN
    have h0 := heap_alloc_new w (.cells #[.int .i64 1] 3)
    have h1 := heap_alloc_new (w.alloc (.cells #[.int .i64 1] 3)) (.cells #[.slice none 0 0, .slice none 0 0, .int .i64 3, .int .i64 0, .slice none 0 0] 52)
    have h3 := heap_alloc_new (((w.alloc (.cells #[.int .i64 1] 3)).alloc (.cells #[.slice none 0 0, .slice none 0 0, .int .i64 3, .int .i64 0, .slice none 0 0] 52)).alloc (.cells #[.int .i64 1, .int .i64 1, .slice (some ⟨w.heap.size, 0, none⟩) 1 1, .slice (some ⟨w.heap.size + 1, 0, none⟩) 1 1] 25)) (.cells #[.int .i64 1, .int .i64 1, .slice (some ⟨w.heap.size, 0, none⟩) 1 1, .slice (some ⟨w.heap.size + 1, 0, none⟩) 1 1] 25)
    refine ⟨?_, ?_, by simpa using h3, ((((Below.refl _ w).alloc (Nat.le_refl _) _).alloc (by simp) _).alloc (by first | (simp; done) | (simp; omega)) _).alloc (by first | (simp; done) | (simp; omega)) _⟩
    · exact (Below.heap_alloc _ _ _ (by first | (simp; done) | (simp; omega))).trans ((Below.heap_alloc _ _ _ (by first | (simp; done) | (simp; omega))).trans ((Below.heap_alloc _ _ _ (by simp)).trans h0))
    · exact (Below.heap_alloc _ _ _ (by first | (simp; done) | (simp; omega))).trans ((Below.heap_alloc _ _ _ (by simp)).trans (by simpa using h1))
  obtain ⟨b0, b1, b3, hbel⟩ := hb
  have i0 : I64 0 := by unfold I64; omega
  have i1 : I64 1 := by unfold I64; omega
  have i3 : I64 3 := by unfold I64; omega
  have hblk : RBlk W4 (N + 1) 0 ⟨[], [], ⟨3, 0, []⟩⟩ := ⟨⟨none, 0, cell_of_block b1 0, sl_nil8⟩, ⟨none, 0, cell_of_block b1 1, sl_nil8⟩, ⟨cell_of_block b1 2, i3⟩, ⟨cell_of_block b1 3, i0⟩, ⟨none, 0, cell_of_block b1 4, sl_nil8⟩⟩
  have hfun : RFun W4 (N + 1 + 1 + 1) 0 f8 := ⟨⟨cell_of_block b3 0, i1⟩, ⟨cell_of_block b3 1, i1⟩, ⟨some ⟨N, 0, none⟩, 1, cell_of_block b3 2, SL.one ⟨cell_of_block b0 0, i1⟩⟩, ⟨some ⟨N + 1, 0, none⟩, 1, cell_of_block b3 3, SL.one hblk⟩⟩
  have hsm : SmallM [f8] := ⟨by simp, fun f hf => by rw [List.mem_singleton.1 hf]; exact ⟨by simp [f8], by simp [f8], by simp [f8], fun b hb => by simp [f8] at hb; subst hb; exact ⟨by simp, by simp, by simp, by simp, by simp⟩⟩⟩
  have hlv := live_any [f8] 0 (.agg #[.slice (some ⟨N + 1 + 1 + 1, 0, none⟩) 1 1]) W4 ⟨_, _, rfl, SL.one hfun⟩ hsm
  have HLV := Lib.hid hlv
  have HBEL := Lib.hid hbel
  have HNN := Lib.hid hN
  rw [← hN, ← hW4]
  clear hlv hbel hsm hfun hblk b0 b1 b3 hW4 hN i0 i1 i3
  refine HLV.out.mono ?_
  rintro e w5 ⟨⟨va, vb, ve, rfl, hc⟩, hb5⟩
  have hc2 : ∃ (G3 G4 : Nat) (A E : Nat → Nat → Bool), va = .slice (some ⟨G3, 0, none⟩) 1 1 ∧ vb = .slice (some ⟨G4, 0, none⟩) 1 1 ∧ ve = .nilIface ∧ BG1 w5 G3 1 1 A ∧ BG1 w5 G4 1 1 E ∧ A 0 0 = true ∧ E 0 0 = false := by
    rcases hc with ⟨-, -, ⟨h, -⟩ | ⟨-, h, -⟩⟩ | ⟨-, h0, k, f, G3, G4, A, E, hk, hf, h1, h2, -, -, h3, h4, h5, h6, -⟩
    · exact absurd proper8 h
    · exact absurd ⟨by omega, by simp⟩ h
    · obtain rfl : k = 0 := by omega
      obtain rfl : f8 = f := by simpa using hf
      refine ⟨G3, G4, A, E, h1, h2, h0, h3, h4, ?_, ?_⟩
      · exact (h5 0 0).2 (.use (x := ⟨[], [], ⟨3, 0, []⟩⟩) rfl (by decide) rfl)
      · cases hE : E 0 0
        · rfl
        · exfalso
          have h7 := (h6 0 0).1 hE
          cases h7 with
          | along ha =>
            obtain ⟨x, hx, p, hp, -⟩ := ha
            have : x = ⟨[], [], ⟨3, 0, []⟩⟩ := List.mem_singleton.1 (List.mem_of_getElem? hx)
            rw [this] at hp; cases hp
          | back ht hb _ =>
            have ht1 := ht
            simp [f8] at ht1
            subst ht1
            exact absurd hb (by decide)
  obtain ⟨G3, G4, A, E, rfl, rfl, rfl, hA, hE, hA0, hE0⟩ := hc2
  obtain ⟨x1, x2, -⟩ := hA.at_ (a := 0) (r := 0) (by omega) (by omega)
  obtain ⟨y1, y2, -⟩ := hE.at_ (a := 0) (r := 0) (by omega) (by omega)
  rw [hA0] at x2
  rw [hE0] at y2
  have HB5 : Hid (Below w.heap.size w w5) := Lib.hid ((HNN.out ▸ HBEL.out).trans (hb5.mono (by have := HBEL.out.size; have := HNN.out; omega)))
  clear hc hb5 hA hE hA0 hE0
  go_wp2_with fail
  go_ret
  exact ⟨rfl, HB5.out⟩
end Go.Proofs.Ytflbooopgjgkbaa

/- The reference's Small: what it lets by is small. -/
namespace Go.Proofs.Ytflbooopgjgkbaa
open Go.ChangeShapes Go.WideShapes Go.RowKit Go.Deep
set_option linter.unusedVariables false

def Says (p : Prop) (B : Nat) (w : World) (e : Ending) (w' : World) : Prop := (∃ b : Bool, e = .returned (.bool b) ∧ (b = true → p)) ∧ Below B w w'
theorem Says.no {p : Prop} {B : Nat} {w w' : World} (h : Below B w w') : Says p B w (.returned (.bool false)) w' := ⟨⟨false, rfl, fun h => by cases h⟩, h⟩

set_option maxRecDepth 100000 in
set_option maxHeartbeats 4000000 in
theorem small_any (m : List FunD) (v : Value) (w : World) (hv : VMod w v m) :
    Calls Try.prog 19 #[v] w (Says (SmallM m) w.heap.size w) := by
  obtain ⟨A, c, rfl, hm⟩ := hv
  have hml := hm.len
  by_cases h40 : 40 < m.length
  · go_enter Try.func19, Try.ntmps19
    go_wp2_with fail
    go_ret
    exact Says.no ((Below.refl _ _).alloc (Nat.le_refl _) _)
  · go_enter Try.func19, Try.ntmps19
    go_wp2_with fail
    obtain ⟨w1, hw1, hs1, hk1, hbel1, hc1, -⟩ := named w #[.slice A m.length c] 38
    have hc1 := hc1 0 _ rfl
    have hs1 : w.heap.size < w1.heap.size := by omega
    rw [← hw1]
    clear hw1
    go_loopw [3] (fun i wr => ∃ k : Nat, k ≤ m.length ∧ i = .int .i64 k ∧ Below w1.heap.size w1 wr ∧ Upto SmallF m k) (fun i _ => m.length - (intOf i).toNat)
    case atStart => exact ⟨0, Nat.zero_le _, rfl, Below.refl _ _, Upto.zero⟩
    case round =>
      obtain ⟨k, hk, rfl, hbel, hup⟩ := hrel
      obtain ⟨wo, rfl⟩ : ∃ wo, wo = wr := ⟨wr, rfl⟩
      have hs := hbel.size
      have hkw : Kept w1 wo := kept_of_below hbel
      have hbox := hkw _ _ hc1
      have hB : Below w.heap.size w wo := hbel1.trans (hbel.mono (by omega))
      by_cases hlt : k < m.length
      · obtain ⟨b, o, f, rfl, hf, ⟨hp, -⟩, ⟨hr, -⟩, ⟨Ar, cr, hreg, hregs⟩, ⟨Ab, cb, hblk, hblks⟩⟩ := (SFuns.keep (hk1.trans hkw) hm).at_ hlt
        have hrl := hregs.len
        have hbl := hblks.len
        by_cases hok : f.blocks.length ≤ 70 ∧ f.regs.length ≤ 300 ∧ f.params ≤ 1000
        · obtain ⟨ho1, ho2, ho3⟩ := hok
          go_wp2_with fail
          clear hp hr hreg
          obtain ⟨w2, hw2, hs2, hk2, hbel2, hc2, -⟩ := named wo #[.int .i64 f.params, .int .i64 f.result, .slice Ar f.regs.length cr, .slice Ab f.blocks.length cb] 25
          have hc2 := hc2 3 _ rfl
          have hs2 : wo.heap.size < w2.heap.size := by omega
          rw [← hw2]
          clear hw2 hblk
          go_loopw [5] (fun i wr => ∃ j : Nat, j ≤ f.blocks.length ∧ i = .int .i64 j ∧ Below w2.heap.size w2 wr ∧ Upto SmallB f.blocks j) (fun i _ => f.blocks.length - (intOf i).toNat)
          case atStart => exact ⟨0, Nat.zero_le _, rfl, Below.refl _ _, Upto.zero⟩
          case round =>
            obtain ⟨j, hj, rfl, hbel', hup'⟩ := hrel
            have hs' := hbel'.size
            have hkw' : Kept w2 wr := kept_of_below hbel'
            have hbox' := hkw' _ _ hc2
            have hB' : Below w.heap.size w wr := hB.trans ((hbel2.mono (by omega)).trans (hbel'.mono (by omega)))
            by_cases hlt' : j < f.blocks.length
            · obtain ⟨b', o', kb, rfl, hkb, ⟨Ap, cp, hphi, hphis⟩, ⟨Ai, ci, hins, hinss⟩, ⟨hkd, -⟩, ⟨har, -⟩, ⟨At, ct, hto, htos⟩⟩ := (SBlks.keep (hk2.trans hkw') hblks).at_ hlt'
              have hpl := hphis.len
              have hil := hinss.len
              have htl := htos.len
              by_cases hok' : kb.ins.length ≤ 300 ∧ kb.phis.length ≤ 300 ∧ kb.term.to.length ≤ 70
              · obtain ⟨hp1, hp2, hp3⟩ := hok'
                go_wp2_with fail
                clear hphi hkd har hto
                obtain ⟨w3, hw3, hs3, hk3, hbel3, hc3, -⟩ := named wr #[.slice Ap kb.phis.length cp, .slice Ai kb.ins.length ci, .int .i64 kb.term.kind, .int .i64 kb.term.arg, .slice At kb.term.to.length ct] 52
                have hc30 := hc3 0 _ rfl
                have hc31 := hc3 1 _ rfl
                have hs3 : wr.heap.size < w3.heap.size := by omega
                have hB3 : Below w.heap.size w w3 := hB'.trans (hbel3.mono (by omega))
                rw [← hw3]
                clear hw3 hins hc3
                have hinss3 := SInss.keep hk3 hinss
                have hphis3 := SPhis.keep hk3 hphis
                clear hinss hphis
                go_loopw [7] (fun i wi => ∃ n q : Nat, n ≤ kb.ins.length ∧ i = .int .i64 n ∧ wi = w3.drewN q ∧ Upto (fun x : InsD => x.args.length ≤ 300) kb.ins n) (fun i _ => kb.ins.length - (intOf i).toNat)
                case atStart => exact ⟨0, 0, Nat.zero_le _, rfl, rfl, Upto.zero⟩
                case round =>
                  obtain ⟨n, q, hn, rfl, rfl, hup3⟩ := hrel
                  by_cases hlt3 : n < kb.ins.length
                  · obtain ⟨b3, o3, x, rfl, hx, -, -, ⟨Aa, ca, hag, hags⟩, -, -⟩ := hinss3.at_ hlt3
                    have hal := hags.len
                    by_cases hok3 : x.args.length ≤ 300
                    · go_wp2_with fail
                      go_roundw
                      case rel => exact ⟨n + 1, _, by omega, by go_num, rfl, hup3.succ hx.out hok3⟩
                      case measure => simp [intOf]; omega
                    · go_wp2_with fail
                      go_ret
                      exact Says.no (below_drewN hB3 _)
                  · go_wp2_with fail
                    have hi3 := hup3.all (by omega)
                    have HI3 := Lib.hid hi3
                    clear hi3 hup3
                    go_loopw [8] (fun i wi => ∃ n q : Nat, n ≤ kb.phis.length ∧ i = .int .i64 n ∧ wi = w3.drewN q ∧ Upto (fun x : PhiD => x.args.length ≤ 300) kb.phis n) (fun i _ => kb.phis.length - (intOf i).toNat)
                    case atStart => exact ⟨0, q, Nat.zero_le _, rfl, rfl, Upto.zero⟩
                    case round =>
                      obtain ⟨n', q', hn', rfl, rfl, hup4⟩ := hrel
                      by_cases hlt4 : n' < kb.phis.length
                      · obtain ⟨b4, o4, x, rfl, hx, -, ⟨Aa, ca, hag, hags⟩⟩ := hphis3.at_ hlt4
                        have hal := hags.len
                        by_cases hok3 : x.args.length ≤ 300
                        · go_wp2_with fail
                          go_roundw
                          case rel => exact ⟨n' + 1, _, by omega, by go_num, rfl, hup4.succ hx.out hok3⟩
                          case measure => simp [intOf]; omega
                        · go_wp2_with fail
                          go_ret
                          exact Says.no (below_drewN hB3 _)
                      · go_wp2_with fail
                        go_roundw
                        case rel => exact ⟨j + 1, by omega, by go_num, below_drewN ((hbel'.trans (hbel3.mono (by omega)))) _, hup'.succ hkb.out ⟨hp1, hp2, hp3, HI3.out, hup4.all (by omega)⟩⟩
                        case measure => simp [intOf]; omega
              · have hno : 300 < kb.ins.length ∨ 300 < kb.phis.length ∨ 70 < kb.term.to.length := by omega
                clear hok'
                by_cases hq1 : 300 < kb.ins.length
                · clear hno
                  go_wp2_with fail
                  all_goals (go_ret; exact Says.no (hB'.alloc (by omega) _))
                · by_cases hq2 : 300 < kb.phis.length
                  · clear hno
                    go_wp2_with fail
                    all_goals (go_ret; exact Says.no (hB'.alloc (by omega) _))
                  · have hq3 : 70 < kb.term.to.length := by omega
                    clear hno
                    go_wp2_with fail
                    all_goals (go_ret; exact Says.no (hB'.alloc (by omega) _))
            · go_wp2_with fail
              go_roundw
              case rel => exact ⟨k + 1, by omega, by go_num, hbel.trans ((hbel2.mono (by omega)).trans (hbel'.mono (by omega))), hup.succ hf.out ⟨ho1, ho2, ho3, hup'.all (by omega)⟩⟩
              case measure => simp [intOf]; omega
        · have hno : 70 < f.blocks.length ∨ 300 < f.regs.length ∨ 1000 < f.params := by omega
          clear hok
          by_cases hq1 : 70 < f.blocks.length
          · clear hno
            go_wp2_with fail
            all_goals (go_ret; exact Says.no (hB.alloc (by omega) _))
          · by_cases hq2 : 300 < f.regs.length
            · clear hno
              go_wp2_with fail
              all_goals (go_ret; exact Says.no (hB.alloc (by omega) _))
            · have hq3 : 1000 < f.params := by omega
              clear hno
              go_wp2_with fail
              all_goals (go_ret; exact Says.no (hB.alloc (by omega) _))
      · go_wp2_with fail
        go_ret
        exact ⟨⟨true, rfl, fun _ => ⟨by omega, hup.all (by omega)⟩⟩, hB⟩
end Go.Proofs.Ytflbooopgjgkbaa
