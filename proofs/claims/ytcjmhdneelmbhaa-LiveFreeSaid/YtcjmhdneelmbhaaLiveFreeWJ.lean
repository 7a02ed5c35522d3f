/- The walk of LiveFree. -/
import Derived.Test.YtcjmhdneelmbhaaArEJ
import Derived.Test.YtcjmhdneelmbhaaLfSJ
import Derived.Test.YtcjmhdneelmbhaaMacOJ
import Derived.Test.YtcjmhdneelmbhaaRnOJ
import Derived.BigQuiet
import Derived.Laws.Closers25b
namespace Go.Proofs.Ytcjmhdneelmbhaa
open Go.ChangeShapes Go.WideShapes Go.RowKit Go.Deep
set_option linter.unusedVariables false

set_option maxRecDepth 100000 in
set_option maxHeartbeats 16000000 in
theorem liveFree_walk (m : List FunD) (n block reg imm f0 : Int) (args : List Int) (steps : Int) (v va : Value) (w : World) (hv : VMod w v m) (hargs : VS w 1 RInt va args) (hn64 : I64 n) (hb64 : I64 block) (hr64 : I64 reg) (hi64 : I64 imm) (hf64 : I64 f0) (hst : I64 steps) :
    Calls Try.prog 3 #[v, .int .i64 n, .int .i64 block, .int .i64 reg, .int .i64 imm, .int .i64 f0, va, .int .i64 steps] w fun e w' => e = .returned (.bool true) ∧ Below w.heap.size w w' := by
  have hv0 := hv
  obtain ⟨Am, cm, rfl, hm⟩ := hv
  obtain ⟨Aa, ca, rfl, ha⟩ := hargs
  have hml := hm.len
  have hal := ha.len
  have HV := Lib.hid hv0
  have HA := Lib.hid ha
  have HI64 := Lib.hid (And.intro hn64 (And.intro hb64 (And.intro hr64 (And.intro hi64 (And.intro hf64 hst)))))
  clear hm hv0 ha hn64 hb64 hr64 hi64 hf64 hst
  go_enter Try.func3, Try.ntmps3
  go_upto_region 1 with fail
  obtain ⟨w1, hw1, hs1, hk1, hbel1, hc1, -⟩ := named w #[.slice Am m.length cm] 24
  rw [← hw1]
  have c0 : w1.cell? ⟨w.heap.size, 0, none⟩ = some (.slice Am m.length cm) := hc1 0 _ rfl
  have HB1 := Lib.hid hbel1
  obtain ⟨N, hN⟩ : ∃ N, N = w.heap.size := ⟨_, rfl⟩
  rw [← hN] at c0 ⊢
  clear hw1 hs1 hk1 hc1 hbel1 hN
  go_wp2_with fail
  refine (up8_any w1).mono ?_
  rintro e w2 ⟨rfl, hb2⟩
  have c0 := kept_of_below hb2 _ _ c0
  have HB2 : Hid (Below w.heap.size w w2) := Lib.hid (HB1.out.trans (hb2.mono HB1.out.size))
  clear hb2
  go_wp2_with fail
  refine (small_any m _ w2 (VMod.keep (kept_of_below HB2.out) HV.out)).mono ?_
  rintro e w3 ⟨⟨bs, rfl, hsm⟩, hb3⟩
  have c0 := kept_of_below hb3 _ _ c0
  have HB4 : Hid (Below w.heap.size w w3) := Lib.hid (HB2.out.trans (hb3.mono HB2.out.size))
  cases bs
  · clear hb3 hsm
    go_wp2_with fail
    go_ret
    exact ⟨rfl, HB4.out⟩
  · have HSM := Lib.hid (hsm rfl)
    clear hb3 hsm
    by_cases hlong : 20 < args.length
    · have hd : decide ((20 : Int) < (args.length : Int)) = true := decide_eq_true (by omega)
      have hd2 : (20 : Int) < (args.length : Int) := by omega
      go_wp2_with fail
      go_ret
      exact ⟨rfl, HB4.out⟩
    · have hd : decide ((20 : Int) < (args.length : Int)) = false := decide_eq_false (by omega)
      have hd2 : ¬ (20 : Int) < (args.length : Int) := by omega
      have HB3 := HB4
      clear HB4
      go_wp2_with fail
      refine (live_any m n _ w3 (VMod.keep (kept_of_below HB3.out) HV.out) HSM.out).mono ?_
      rintro e w4 ⟨⟨va, vb, ve, rfl, hL⟩, hb4⟩
      have c0 := kept_of_below hb4 _ _ c0
      have HB4 : Hid (Below w.heap.size w w4) := Lib.hid (HB3.out.trans (hb4.mono HB3.out.size))
      clear hb4 hd hd2
      rcases hL with ⟨rfl, rfl, hE⟩ | ⟨hp, rfl, k, f, G3, G4, A, E, rfl, hf, rfl, rfl, -, -, -, hEE, -, hwE, hok⟩
      · obtain ⟨t1, x1, rfl⟩ : ∃ t x, ve = .iface t x := by
          rcases hE with ⟨h1, h2⟩ | ⟨_, _, h2⟩
          · exact err_form h2 h1
          · exact ⟨_, _, h2⟩
        clear hE
        go_wp2_with fail
        go_ret
        exact ⟨rfl, HB4.out⟩
      · have HF := Lib.hid (And.intro hp (And.intro hf (And.intro hEE (And.intro hwE hok))))
        obtain ⟨nb, hnb⟩ : ∃ nb, nb = f.blocks.length := ⟨_, rfl⟩
        have HNB := Lib.hid hnb
        have hkm := (List.getElem?_eq_some_iff.1 hf).1
        have hnb70 : nb ≤ 70 := by rw [hnb]; exact (HSM.out.2 f (List.mem_of_getElem? hf)).1
        rw [← hnb]
        clear hp hwE hok
        by_cases hb0 : block < 0
        · have hd1 : decide (block < 0) = true := decide_eq_true hb0
          clear hEE hf hnb
          go_wp2_with fail
          go_ret
          exact ⟨rfl, HB4.out⟩
        · have hd1 : decide (block < 0) = false := decide_eq_false hb0
          by_cases hb1 : (nb : Int) ≤ block
          · have hd2 : decide ((nb : Int) ≤ block) = true := decide_eq_true hb1
            clear hEE hf hnb
            go_wp2_with fail
            go_ret
            exact ⟨rfl, HB4.out⟩
          · obtain ⟨B, rfl⟩ : ∃ B : Nat, block = (B : Int) := ⟨block.toNat, by omega⟩
            have hd2 : decide ((nb : Int) ≤ (B : Int)) = false := decide_eq_false hb1
            have hBn : B < nb := by omega
            obtain ⟨bf, of, hAm, bk, ok, kb, cb, rb⟩ : ∃ bf of, Am = some ⟨bf, of, none⟩ ∧ ∃ bk ok kb cb, f.blocks[B]? = some kb ∧ w.cell? ⟨bf, of + k * 4 + 3, none⟩ = some (.slice (some ⟨bk, ok, none⟩) nb cb) ∧ w.cell? ⟨bk, ok + B * 5 + 3, none⟩ = some (.int .i64 kb.term.arg) := by
              obtain ⟨A', c', e, hm⟩ := HV.out
              simp only [Value.agg.injEq, Array.mk.injEq, List.cons.injEq, Value.slice.injEq, and_true] at e
              obtain ⟨rfl, -, rfl⟩ := e
              obtain ⟨bf, of, f', e1, hF', -, -, -, ⟨Ab, cb, x3, z3⟩⟩ := hm.at_ (k := k) hkm
              obtain rfl : f' = f := by have := hF'.out; rw [hf] at this; exact (Option.some.inj this).symm
              obtain ⟨bk, ok, kb, rfl, hBk, -, -, y2, y3, -⟩ := z3.at_ (k := B) (by rw [← hnb]; exact hBn)
              exact ⟨bf, of, e1, bk, ok, kb, cb, hBk.out, by rw [hnb]; exact x3, y3.1⟩
            subst hAm
            obtain ⟨hkb, x3, y3⟩ := rb
            have d3 := kept_of_below HB4.out _ _ x3
            have d4 := kept_of_below HB4.out _ _ y3
            have HKB := Lib.hid hkb
            obtain ⟨R, hR⟩ : ∃ R, R = f.regs.length := ⟨_, rfl⟩
            have HR := Lib.hid hR
            have dR := hEE.row.cell (by rw [← hnb]; exact hBn)
            rw [← hR] at dR
            have hk0 : (0 : Int) ≤ k := by omega
            have hk1 : (k : Int) < m.length := by omega
            have hB0 : (0 : Int) ≤ B := by omega
            have hB1 : (B : Int) < nb := by omega
            clear x3 y3 hkb
            by_cases hr0 : reg < 0
            · have hd3 : decide (reg < 0) = true := decide_eq_true hr0
              clear hEE hf hnb hR
              go_wp2_with fail
              go_ret
              exact ⟨rfl, HB4.out⟩
            · have hd3 : decide (reg < 0) = false := decide_eq_false hr0
              by_cases hr1 : (R : Int) ≤ reg
              · have hd4 : decide ((R : Int) ≤ reg) = true := decide_eq_true hr1
                clear hEE hf hnb hR
                go_wp2_with fail
                go_ret
                exact ⟨rfl, HB4.out⟩
              · obtain ⟨r, rfl⟩ : ∃ r : Nat, reg = (r : Int) := ⟨reg.toNat, by omega⟩
                have hd4 : decide ((R : Int) ≤ (r : Int)) = false := decide_eq_false hr1
                have hrR : r < R := by omega
                have dE := (hEE.cells B (by rw [← hnb]; exact hBn)).cell (i := r) (by rw [← hR]; exact hrR)
                have hr2 : (0 : Int) ≤ r := by omega
                have hr3 : (r : Int) < R := by omega
                cases hEb : E B r
                · rw [hEb] at dE
                  have HEB := Lib.hid hEb
                  by_cases hta : kb.term.arg = (r : Int)
                  · have hd5 : (kb.term.arg == (r : Int)) = true := by simpa using hta
                    clear hEE hf hnb hR hEb
                    go_wp2_with fail
                    go_ret
                    exact ⟨rfl, HB4.out⟩
                  · have hd5 : (kb.term.arg == (r : Int)) = false := by simpa using hta
                    have HTA := Lib.hid hta
                    clear hEE hf hnb hR hEb
                    go_upto_region 8 with fail
                    clear d3 d4 dR dE hd1 hd2 hd3 hd4 hd5 hta
                    go_upto_if 97 with fail
                    go_cut [7] (fun s7 wx => ∃ st : Int, s7 = .int .i64 st ∧ I64 st ∧ st ≤ 300 ∧ wx = w4)
                    case first =>
                      have hst := HI64.out.2.2.2.2.2
                      obtain ⟨hst1, hst2⟩ := hst
                      by_cases hs : 300 < steps
                      · have hd6 : decide (300 < steps) = true := decide_eq_true hs
                        go_wp2_with fail
                        go_meet
                        exact ⟨steps % 300, rfl, by unfold I64; omega, by omega, rfl⟩
                      · have hd6 : decide (300 < steps) = false := decide_eq_false hs
                        go_wp2_with fail
                        go_meet
                        exact ⟨steps, rfl, ⟨hst1, hst2⟩, by omega, rfl⟩
                    case rest =>
                    obtain ⟨st, rfl, hst, hst300, hwc⟩ := hcut
                    obtain rfl : w4 = wc := hwc.symm
                    have HST := Lib.hid (And.intro hst hst300)
                    clear hst
                    go_wp2_with fail
                    have HN4 : Hid (N < w4.heap.size) := Lib.hid (block_lt_of_cell c0)
                    refine (copy_parts m _ w4 (VMod.keep (kept_of_below HB4.out) HV.out) HSM.out).mono ?_
                    rintro e w5 ⟨⟨u, cs, rfl, ho, hF5⟩, hb5⟩
                    have c0 := kept_of_below hb5 _ _ c0
                    have HB5 : Hid (Below w.heap.size w w5) := Lib.hid (HB4.out.trans (hb5.mono HB4.out.size))
                    obtain ⟨g, cap, Ar, cr, gb, cb2, p, hi, Ap, cp, Ai, ci, At, ct, rfl, hreg, hblk, hcell, hfrz, hIR, hbnd, hput⟩ := parts_put ho hF5 HF.out.2.1 HKB.out
                    have HB45 := Lib.hid hb5
                    have HPU := Lib.hid hput
                    have HIR := Lib.hid hIR
                    have HRG := Lib.hid hreg
                    have HBL := Lib.hid hblk
                    have HCE := Lib.hid (And.intro hcell hfrz)
                    have HBN := Lib.hid hbnd
                    clear hb5 ho hF5 hput hIR hreg hblk hcell hfrz hbnd
                    go_upto_region 11 with fail
                    obtain ⟨w6, hw6, hs6, hk6, hb6, hc6, -⟩ := named w5 #[.slice (some ⟨g, 0, none⟩) m.length cap] 24
                    rw [← hw6]
                    obtain ⟨T, hT⟩ : ∃ T, T = w5.heap.size := ⟨_, rfl⟩
                    have o0 : w6.cell? ⟨w5.heap.size, 0, none⟩ = some (.slice (some ⟨g, 0, none⟩) m.length cap) := hc6 0 _ rfl
                    rw [← hT] at o0 ⊢
                    have c0 := hk6 _ _ c0
                    have HT := Lib.hid (And.intro hT (And.intro hs6 (And.intro hk6 hb6)))
                    have r0 := hk6 _ _ HRG.out.1
                    have hregs := SL.keep hk6 (fun b o x => RInt.keep hk6 b o x) HRG.out.2
                    obtain ⟨br, orr, ty, rfl, hty, er, -⟩ := hregs.int (k := r) (by rw [← HR.out]; exact hrR)
                    have q3 := hk6 _ _ HBL.out
                    obtain ⟨⟨e0, e1, e2, e3, e4⟩, -⟩ := HCE.out
                    have e0 := hk6 _ _ e0
                    have e1 := hk6 _ _ e1
                    have e2 := hk6 _ _ e2
                    have e3 := hk6 _ _ e3
                    have e4 := hk6 _ _ e4
                    rw [← HR.out] at r0
                    rw [← HNB.out] at q3
                    clear hw6 hs6 hk6 hb6 hc6 hT hregs
                    go_upto_if 111 with fail
                    go_cut [4] (fun s4 wx => ∃ im : Int, s4 = .int .i64 im ∧ I64 im ∧ wx = w6)
                    case first =>
                      have him := HI64.out.2.2.2.1
                      by_cases hty2 : ty = 2
                      · have hd7 : (ty == (2 : Int)) = true := by simpa using hty2
                        go_wp2_with fail
                        go_meet
                        exact ⟨_, rfl, ⟨bits_lo_i64 _ _ _, bits_hi_i64 _ _ _⟩, rfl⟩
                      · have hd7 : (ty == (2 : Int)) = false := by simpa using hty2
                        go_wp2_with fail
                        go_meet
                        exact ⟨imm, rfl, him, rfl⟩
                    case rest =>
                    obtain ⟨im, rfl, him, hwc⟩ := hcut
                    obtain rfl : w6 = wc := hwc.symm
                    have HIM := Lib.hid him
                    clear him
                    go_upto_region 14 with fail
                    obtain ⟨w7, hw7, hs7, hk7, hb7, hc7, hf7⟩ := named w6 #[.slice Ap kb.phis.length cp, .slice Ai kb.ins.length ci, .int .i64 kb.term.kind, .int .i64 kb.term.arg, .slice At kb.term.to.length ct] 40
                    rw [← hw7]
                    obtain ⟨Q, hQ⟩ : ∃ Q, Q = w6.heap.size := ⟨_, rfl⟩
                    have b0 : w7.cell? ⟨w6.heap.size, 0, none⟩ = _ := hc7 0 _ rfl
                    have b1 : w7.cell? ⟨w6.heap.size, 1, none⟩ = _ := hc7 1 _ rfl
                    have b2 : w7.cell? ⟨w6.heap.size, 2, none⟩ = _ := hc7 2 _ rfl
                    have b3 : w7.cell? ⟨w6.heap.size, 3, none⟩ = _ := hc7 3 _ rfl
                    have b4 : w7.cell? ⟨w6.heap.size, 4, none⟩ = _ := hc7 4 _ rfl
                    have bz := hf7 1
                    rw [← hQ] at b0 b1 b2 b3 b4 bz ⊢
                    obtain ⟨i45, p1, p2, p3, p4⟩ := info_parts Try.info46
                    obtain ⟨csi, hoi, hhi, hri⟩ := HIR.out
                    have HRI := Lib.hid hri
                    have HOG : Hid (∀ y, (Value.slice Ai kb.ins.length ci).ownBlock = some y → p ≤ y ∧ y < hi ∧ y < w5.heap.size) := Lib.hid fun y hy => ⟨(hoi.lt y hy).1, hhi y hy, (hoi.lt y hy).2⟩
                    have hoi7 : w7.ownsRow p 46 5 (.slice Ai kb.ins.length ci) kb.ins.length csi := ownsRow_block hoi fun g hg => (hb7.block g (by have := (hoi.lt g hg).2; have := HT.out.2.2.2.size; omega)).trans (HT.out.2.2.2.block g (hoi.lt g hg).2)
                    have hil300 : kb.ins.length ≤ 300 := ((HSM.out.2 f (List.mem_of_getElem? HF.out.2.1)).2.2.2 kb (List.mem_of_getElem? HKB.out)).1
                    have hpz : p ≤ w7.heap.size := by have h1 := HBN.out; have h2 := HT.out.2.2.2.size; have h3 := hb7.size; omega
                    have HO7 := Lib.hid hoi7
                    have HII := Lib.hid (And.intro p1 (And.intro p2 (And.intro p3 p4)))
                    have HB7 := Lib.hid (And.intro hQ (And.intro hs7 (And.intro hk7 hb7)))
                    clear hw7 hs7 hk7 hb7 hc7 hf7 hoi hhi hri hoi7 p1 p2 p3 p4 hQ
                    go_wp2_with (at_builtin; refine wpList_append_lies _ rfl _ _ _ rfl p 46 i45 (.agg #[.int .i64 0, .int .i64 0, .slice none 0 0, .int .i64 0, .int .i64 0]) 5 56 Try.underlying38 HII.out.1 HII.out.2.1 HII.out.2.2.1 HII.out.2.2.2 rfl (by decide) _ _ csi rfl (HO7.out.alloc _) ⟨w7.heap.size, 0, none⟩ 1 1 [.int .i64 1, .int .i64 (r : Int), .slice none 0 0, .int .i64 im, .int .i64 0] rfl rfl (news_cells _ #[.int .i64 1, .int .i64 (r : Int), .slice none 0 0, .int .i64 im, .int .i64 0] _ (by simp)) (by simp [Value.oneCell']) (by decide) (by unfold maxLen; omega) (by omega) (by simp; omega) (w7.heap.size + 1) (by simp) ?_)
                    intro g8 cap8 w8 hown8 hgrow8 hloc8 hlt8
                    have hk8 : ∀ y, y < w7.heap.size → (Value.slice Ai kb.ins.length ci).ownBlock ≠ some y → w8.heap[y]? = w7.heap[y]? := fun y hy hn => (hgrow8.block y (by simp; omega) (fun e => hn e.symm)).trans (Below.heap_alloc _ _ _ hy)
                    obtain ⟨hQ, hs7, hk7, hb7⟩ := HB7.out
                    obtain ⟨hT, hs6, hk6, hb6⟩ := HT.out
                    have hQ8 : w8.heap[Q]? = w7.heap[Q]? := hk8 Q (by omega) (fun e => by have := (HOG.out Q e).2.2; omega)
                    have hT8 : w8.heap[T]? = w7.heap[T]? := hk8 T (by omega) (fun e => by have := (HOG.out T e).2.2; omega)
                    have hg8 : w8.heap[g]? = w7.heap[g]? := hk8 g (by have := HBN.out; omega) (fun e => by have := HOG.out g e; have := HBN.out; omega)
                    have hgb8 : w8.heap[gb]? = w7.heap[gb]? := hk8 gb (by have := HBN.out; omega) (fun e => by have := HOG.out gb e; have := HBN.out; omega)
                    have b0 := (World.cell?_of_block (a := ⟨Q, 0, none⟩) hQ8).trans b0
                    have b1 := (World.cell?_of_block (a := ⟨Q, 1, none⟩) hQ8).trans b1
                    have b2 := (World.cell?_of_block (a := ⟨Q, 2, none⟩) hQ8).trans b2
                    have b3 := (World.cell?_of_block (a := ⟨Q, 3, none⟩) hQ8).trans b3
                    have b4 := (World.cell?_of_block (a := ⟨Q, 4, none⟩) hQ8).trans b4
                    have bz : w8.frozen? ⟨Q, 1, none⟩ = false := (World.frozen?_of_block (a := ⟨Q, 1, none⟩) hQ8).trans bz
                    have o8 := (World.cell?_of_block (a := ⟨T, 0, none⟩) hT8).trans (hk7 _ _ o0)
                    have q8 := (World.cell?_of_block (a := ⟨g, k * 4 + 3, none⟩) hg8).trans (hk7 _ _ q3)
                    have j0 := (World.cell?_of_block (a := ⟨gb, B * 5, none⟩) hgb8).trans (hk7 _ _ e0)
                    have j1 := (World.cell?_of_block (a := ⟨gb, B * 5 + 1, none⟩) hgb8).trans (hk7 _ _ e1)
                    have j2 := (World.cell?_of_block (a := ⟨gb, B * 5 + 2, none⟩) hgb8).trans (hk7 _ _ e2)
                    have j3 := (World.cell?_of_block (a := ⟨gb, B * 5 + 3, none⟩) hgb8).trans (hk7 _ _ e3)
                    have j4 := (World.cell?_of_block (a := ⟨gb, B * 5 + 4, none⟩) hgb8).trans (hk7 _ _ e4)
                    have HLT8 : Hid (gb ≠ g ∧ gb < w5.heap.size ∧ Q = w6.heap.size ∧ T = w5.heap.size ∧ w5.heap.size < w6.heap.size ∧ w7.heap.size = w6.heap.size + 1 ∧ w7.heap.size ≤ w8.heap.size) := Lib.hid ⟨HBN.out.2.2.2.2.2.2.2.2, HBN.out.2.2.2.1, hQ, hT, by omega, hs7, by have := hgrow8.size; simp at this; omega⟩
                    have hz8 : ∀ j, w8.frozen? ⟨gb, j, none⟩ = false := fun j => (World.frozen?_of_block (a := ⟨gb, j, none⟩) hgb8).trans ((hb7.frozen (p := ⟨gb, j, none⟩) (by have := HBN.out; show gb < _; omega)).trans ((hb6.frozen (p := ⟨gb, j, none⟩) (by have := HBN.out; show gb < _; omega)).trans (HCE.out.2 j)))
                    have HBW8 : Hid (Below w.heap.size w w8) := Lib.hid (((((HB5.out.trans (hb6.mono (HB5.out.size))).trans (hb7.mono (by have := HB5.out.size; omega))).alloc (by have := HB5.out.size; omega) _)).grown hgrow8 (by have := HB5.out.size; simp; omega) (fun j hj => by have := HOG.out j hj; have := HBN.out; have := HB4.out.size; omega))
                    have HHK : Hid (∀ y, y < w5.heap.size → (Value.slice Ai kb.ins.length ci).ownBlock ≠ some y → w8.heap[y]? = w5.heap[y]?) := Lib.hid fun y hy hn => (hk8 y (by omega) hn).trans ((hb7.block y (by omega)).trans (hb6.block y hy))
                    have HO8 := Lib.hid (And.intro hown8 (And.intro hloc8 hlt8))
                    clear hown8 hgrow8 hloc8 hlt8 hk8 hQ8 hT8 hg8 hgb8 hQ hs7 hk7 hb7 hT hs6 hk6 hb6 o0 q3 e0 e1 e2 e3 e4 r0 er
                    go_upto_region 15 with fail
                    obtain ⟨w9, hw9⟩ : ∃ w9, w9 = w8.setCell ⟨Q, 1, none⟩ (.slice (some ⟨g8, 0, none⟩) (kb.ins.length + 1) cap8) := ⟨_, rfl⟩
                    have hs9 : ∀ y, y ≠ Q → w9.heap[y]? = w8.heap[y]? := fun y hy => by rw [hw9]; exact Below.heap_setCell _ _ _ _ (by exact hy)
                    have hne9 : ∀ i : Nat, i ≠ 1 → w9.cell? ⟨Q, i, none⟩ = w8.cell? ⟨Q, i, none⟩ := fun i hi => by rw [hw9]; exact World.cell?_setCell_other _ _ _ _ (fun e => hi (by have := congrArg Addr.off e; simpa using this.symm))
                    have b0 := (hne9 0 (by omega)).trans b0
                    have b2 := (hne9 2 (by omega)).trans b2
                    have b3 := (hne9 3 (by omega)).trans b3
                    have b4 := (hne9 4 (by omega)).trans b4
                    have b1 : w9.cell? ⟨Q, 1, none⟩ = some (.slice (some ⟨g8, 0, none⟩) (kb.ins.length + 1) cap8) := by rw [hw9]; exact World.cell?_setCell_same _ _ _ b1
                    rw [← hw9]
                    have HL9 := HLT8.out
                    have o8 := (World.cell?_of_block (a := ⟨T, 0, none⟩) (hs9 T (by omega))).trans o8
                    have hgl := HBN.out.2.2.2.2.2.2.2.1
                    have q8 := (World.cell?_of_block (a := ⟨g, k * 4 + 3, none⟩) (hs9 g (by omega))).trans q8
                    have hgb9 := hs9 gb (by omega)
                    have j0 := (World.cell?_of_block (a := ⟨gb, B * 5, none⟩) hgb9).trans j0
                    have j1 := (World.cell?_of_block (a := ⟨gb, B * 5 + 1, none⟩) hgb9).trans j1
                    have j2 := (World.cell?_of_block (a := ⟨gb, B * 5 + 2, none⟩) hgb9).trans j2
                    have j3 := (World.cell?_of_block (a := ⟨gb, B * 5 + 3, none⟩) hgb9).trans j3
                    have j4 := (World.cell?_of_block (a := ⟨gb, B * 5 + 4, none⟩) hgb9).trans j4
                    have hz9 : ∀ j, w9.frozen? ⟨gb, j, none⟩ = false := fun j => (World.frozen?_of_block (a := ⟨gb, j, none⟩) hgb9).trans (hz8 j)
                    have z0 := hz9 (B * 5)
                    have z1 := hz9 (B * 5 + 1)
                    have z2 := hz9 (B * 5 + 2)
                    have z3 := hz9 (B * 5 + 3)
                    have z4 := hz9 (B * 5 + 4)
                    have HW9 := Lib.hid (And.intro hs9 hw9)
                    clear hne9 hgb9 hz9 hz8 hw9 hs9 HL9 hgl bz
                    go_still_tail 9, (by kernel_rfl)
                    change wpList _ _ _ _ _ w9.drew
                    go_upto_region 16 with fail
                    obtain ⟨w10, hw10⟩ : ∃ w10, w10 = (((((w9.setCell ⟨gb, B * 5, none⟩ (.slice Ap kb.phis.length cp)).setCell ⟨gb, B * 5 + 1, none⟩ (.slice (some ⟨g8, 0, none⟩) (kb.ins.length + 1) cap8)).setCell ⟨gb, B * 5 + 2, none⟩ (.int .i64 kb.term.kind)).setCell ⟨gb, B * 5 + 3, none⟩ (.int .i64 kb.term.arg)).setCell ⟨gb, B * 5 + 4, none⟩ (.slice At kb.term.to.length ct)).drew := ⟨_, rfl⟩
                    rw [← hw10]
                    obtain ⟨hx1, hx2, hx3, hx4⟩ := five_cells j0 j1 j2 j3 j4 hw10
                    obtain ⟨hs9, hw9⟩ := HW9.out
                    obtain ⟨b_1, b_2, b_3, b_4, b_5, b_6, b_7, b_8, b_9⟩ := HBN.out
                    obtain ⟨l_1, l_2, l_3, l_4, l_5, l_6, l_7⟩ := HLT8.out
                    have hnow : ∀ y, (y < p ∨ hi ≤ y) → (Value.slice Ai kb.ins.length ci).ownBlock ≠ some y := fun y hy e => by have := HOG.out y e; omega
                    have hK10 : ∀ y, y < w5.heap.size → y ≠ gb → (Value.slice Ai kb.ins.length ci).ownBlock ≠ some y → w10.heap[y]? = w5.heap[y]? := fun y hy hn ho => (hx3 y hn).trans ((hs9 y (by omega)).trans (HHK.out y hy ho))
                    have hgbx : ∀ j v, j ≠ B * 5 + 1 → w5.cell? ⟨gb, j, none⟩ = some v → w10.cell? ⟨gb, j, none⟩ = some v := fun j v hj h => (hx1 j hj).trans ((World.cell?_of_block (a := ⟨gb, j, none⟩) (hs9 gb (by omega))).trans ((World.cell?_of_block (a := ⟨gb, j, none⟩) (HHK.out gb b_4 (hnow gb b_6))).trans h))
                    have hg8 : g8 ≠ gb ∧ g8 ≠ Q ∧ g8 < w9.heap.size := by
                      refine ⟨fun e => ?_, fun e => ?_, ?_⟩
                      · rcases HO8.out.2.1 with h | h
                        · exact hnow gb b_6 (by rw [← e]; exact h)
                        · omega
                      · rcases HO8.out.2.1 with h | h
                        · have := HOG.out g8 h; omega
                        · omega
                      · have := HO8.out.2.2
                        rw [hw9]; simpa using this
                    have hown10 := ownsRow_block (w' := w10) HO8.out.1 fun y hy => by
                      obtain rfl : g8 = y := Option.some.inj hy
                      exact (hx3 g8 hg8.1).trans (hs9 g8 hg8.2.1)
                    have hsl := ins_more HRI.out (HI64.out.2.2.1) HIM.out hown10 fun y h1 h2 h3 => hK10 y (by omega) (fun e => by omega) h3
                    obtain ⟨t, ht⟩ : ∃ t, t = m.set k { f with blocks := f.blocks.set B { kb with ins := kb.ins ++ [(⟨1, r, [], im, 0⟩ : InsD)] } } := ⟨_, rfl⟩
                    have TT : TwoM m t k B r f kb ⟨1, r, [], im, 0⟩ := ⟨HF.out.2.1, HKB.out, rfl, rfl, ht, HTA.out, fun hw => by have h1 := (HF.out.2.2.2.1 B r).2 hw; rw [HEB.out] at h1; cases h1⟩
                    have HTT := Lib.hid TT
                    have HSMT := Lib.hid (TT.small HF.out.1 HSM.out (by show 0 ≤ 300; omega))
                    have HVT : Hid (VMod w10 (.agg #[.slice (some ⟨g, 0, none⟩) m.length cap]) t) := Lib.hid (by rw [ht]; exact HPU.out w10 (some ⟨g8, 0, none⟩) cap8 ⟨1, r, [], im, 0⟩ hK10 hgbx (by rw [List.length_append]; exact hx2) hsl)
                    clear ht TT
                    have HB10 : Hid (Below w.heap.size w w10) := Lib.hid (hx4 _ _ (by have := HB4.out.size; omega) (by rw [hw9]; exact HBW8.out.setCell (by show _ ≤ Q; have := HB4.out.size; have := HB5.out.size; omega) _))
                    have n10 : w10.cell? ⟨N, 0, none⟩ = some (.slice (some ⟨bf, of, none⟩) m.length cm) := by
                      have hN := HN4.out
                      have h5 := HB45.out.size
                      refine (World.cell?_of_block (a := ⟨N, 0, none⟩) (hK10 N (by omega) (by omega) (hnow N (by omega)))).trans ?_
                      refine Eq.trans ?_ c0
                      exact ((HT.out.2.2.2.cell (p := ⟨N, 0, none⟩) (by show N < _; omega))).symm
                    have o10 := (World.cell?_of_block (a := ⟨T, 0, none⟩) (hx3 T (by omega))).trans o8
                    clear hx1 hx2 hx3 hx4 hs9 hw9 b_1 b_2 b_3 b_4 b_5 b_6 b_7 b_8 b_9 l_1 l_2 l_3 l_4 l_5 l_6 l_7 hnow hK10 hgbx hg8 hown10 hsl hw10 j0 j1 j2 j3 j4 z0 z1 z2 z3 z4 q8 o8 b0 b1 b2 b3 b4 c0 hil300 hpz
                    have HR1 := Lib.hid (run_any m f0 args st _ Aa ca w10 (VMod.keep (kept_of_below HB10.out) HV.out) (SL.keep (kept_of_below HB10.out) (fun b o x => RInt.keep (kept_of_below HB10.out) b o x) HA.out) HSM.out HI64.out.2.2.2.2.1 HST.out.1)
                    go_wp2_with fail
                    refine HR1.out.mono ?_
                    rintro e w11 h11
                    obtain ⟨s, As, cs1, err, rfl, hb11, hso, hcase⟩ := run_told h11
                    have hst1 := store_new w11 s (.slice As s.out.length cs1) rfl
                    obtain ⟨w12, hw12⟩ : ∃ w12, w12 = w11.alloc (.cells (outC s (.slice As s.out.length cs1)) 49) := ⟨_, rfl⟩
                    rw [← hw12] at hst1
                    have HO12 := Lib.hid (OutAt.new hw12 hso)
                    have HB1112 : Below w11.heap.size w11 w12 := by rw [hw12]; exact (Below.refl _ _).alloc (Nat.le_refl _) _
                    have HB1012 : Hid (Below w10.heap.size w10 w12) := Lib.hid (hb11.trans (HB1112.mono hb11.size))
                    have HB12 : Hid (Below w.heap.size w w12) := Lib.hid (HB10.out.trans (HB1012.out.mono HB10.out.size))
                    have o12 := kept_of_below HB1012.out _ _ o10
                    have HCASE := Lib.hid hcase
                    obtain ⟨X, hX⟩ : ∃ X, X = w11.heap.size := ⟨_, rfl⟩
                    rw [← hX] at hst1 HO12
                    have HR2 : Hid (∀ z, I64 z → Calls Try.prog 12 #[.agg #[.slice (some ⟨g, 0, none⟩) m.length cap], .int .i64 f0, .slice Aa args.length ca, .int .i64 z] w12 (ToldRun t f0 args z w12)) := Lib.hid fun z hz => run_any t f0 args z _ Aa ca w12 (VMod.keep (kept_of_below HB1012.out) HVT.out) (SL.keep (kept_of_below HB12.out) (fun b o x => RInt.keep (kept_of_below HB12.out) b o x) HA.out) HSMT.out HI64.out.2.2.2.2.1 hz
                    clear h11 hb11 hso hcase HR1 HB1112 n10 o10
                    dsimp only
                    go_step
                    iterate 4 (first | (go_step; go_simp; go_step) | (go_step; go_step))
                    rw [← hX]
                    refine wpList_store_any _ rfl 49 (.tmp 24) (.tmp 146) rfl _ _ (by rfl) (by rfl) hst1 ?_
                    clear hst1 hw12 hX
                    by_cases hneg : st < 0
                    · obtain ⟨te, xe, rfl⟩ : ∃ te xe, err = .iface te xe := by
                        rcases HCASE.out with ⟨⟨te, xe, h⟩, -⟩ | ⟨-, -, h, -⟩
                        · exact ⟨te, xe, h⟩
                        · exfalso
                          unfold mayB at h
                          simp only [Bool.and_eq_true, decide_eq_true_eq] at h
                          omega
                      go_wp2_with fail
                      refine (HR2.out _ (by unfold I64; first | omega | (unfold wrap64; omega))).mono ?_
                      rintro e w13 h13
                      obtain ⟨pp, Ap2, cp2, err2, rfl, hb13, hpo, -⟩ := run_told h13
                      have hst2 := store_new w13 pp (.slice Ap2 pp.out.length cp2) rfl
                      obtain ⟨w14, hw14⟩ : ∃ w14, w14 = w13.alloc (.cells (outC pp (.slice Ap2 pp.out.length cp2)) 49) := ⟨_, rfl⟩
                      rw [← hw14] at hst2
                      have HB14 : Hid (Below w.heap.size w w14) := Lib.hid (by rw [hw14]; exact (HB12.out.trans (hb13.mono HB12.out.size)).alloc (Nat.le_trans HB12.out.size hb13.size) _)
                      clear h13 hb13 hpo hw14
                      dsimp only
                      go_step
                      iterate 4 (first | (go_step; go_simp; go_step) | (go_step; go_step))
                      refine wpList_store_any _ rfl 49 (.tmp 26) (.tmp 155) rfl _ _ (by rfl) (by rfl) hst2 ?_
                      clear hst2
                      go_wp2_with fail
                      go_ret
                      exact ⟨rfl, HB14.out⟩
                    · obtain ⟨z, rfl⟩ : ∃ z : Nat, st = z := ⟨st.toNat, by omega⟩
                      have hz300 : (z : Int) ≤ 300 := HST.out.2
                      go_wp2_with fail
                      refine (HR2.out _ (by unfold I64; omega)).mono ?_
                      rintro e w13 h13
                      obtain ⟨pp, Ap2, cp2, err2, rfl, hb13, hpo, hcase2⟩ := run_told h13
                      have hst2 := store_new w13 pp (.slice Ap2 pp.out.length cp2) rfl
                      obtain ⟨w14, hw14⟩ : ∃ w14, w14 = w13.alloc (.cells (outC pp (.slice Ap2 pp.out.length cp2)) 49) := ⟨_, rfl⟩
                      rw [← hw14] at hst2
                      have HP14 := Lib.hid (OutAt.new hw14 hpo)
                      have HB1314 : Below w13.heap.size w13 w14 := by rw [hw14]; exact (Below.refl _ _).alloc (Nat.le_refl _) _
                      have HB1214 : Hid (Below w12.heap.size w12 w14) := Lib.hid (hb13.trans (HB1314.mono hb13.size))
                      have HB14 : Hid (Below w.heap.size w w14) := Lib.hid (HB12.out.trans (HB1214.out.mono HB12.out.size))
                      have HO14 : Hid (OutAt w14 X s As cs1) := Lib.hid (HO12.out.keep (kept_of_below HB1214.out))
                      obtain ⟨Y, hY⟩ : ∃ Y, Y = w13.heap.size := ⟨_, rfl⟩
                      rw [← hY] at hst2 HP14
                      have HC2 := Lib.hid hcase2
                      clear h13 hb13 hpo hw14 hcase2 HB1314
                      dsimp only
                      go_step
                      iterate 4 (first | (go_step; go_simp; go_step) | (go_step; go_step))
                      rw [← hY]
                      refine wpList_store_any _ rfl 49 (.tmp 26) (.tmp 155) rfl _ _ (by rfl) (by rfl) hst2 ?_
                      clear hst2 hY
                      rcases HCASE.out with ⟨⟨te, xe, rfl⟩, -⟩ | ⟨rfl, hp, hmay, hs⟩
                      · go_wp2_with fail
                        go_ret
                        exact ⟨rfl, HB14.out⟩
                      rcases HC2.out with ⟨⟨te, xe, rfl⟩, -⟩ | ⟨rfl, hp2, hmay2, hs2⟩
                      · go_wp2_with fail
                        go_ret
                        exact ⟨rfl, HB14.out⟩
                      have hmm := hmay
                      unfold mayB takesB at hmm
                      simp only [Bool.and_eq_true, decide_eq_true_eq] at hmm
                      have hf0 : m[f0.toNat]? = some (funAt m f0) := by
                        unfold funAt
                        rw [List.getD_eq_getElem?_getD, List.getElem?_eq_getElem (by omega)]; rfl
                      have HAL := runs_alike HTT.out HF.out.1 hf0 (args := args) hmm.2.1.1 z
                      rw [show (2 * (z : Int)).toNat = 2 * z by omega] at hs2
                      rw [Int.toNat_natCast] at hs
                      rw [← hs, ← hs2] at HAL
                      have HAA := Lib.hid HAL
                      have HBG := Lib.hid (begins_any s.out pp.out As Ap2 cs1 cp2 w14 HO14.out.2 HP14.out.2)
                      have HAK := Lib.hid (alike_any s.out pp.out As Ap2 cs1 cp2 w14 HO14.out.2 HP14.out.2)
                      have c_0 : w14.cell? ⟨X, 0, none⟩ = some (.bool s.done) := HO14.out.1 0 (by omega)
                      have c_1 : w14.cell? ⟨X, 1, none⟩ = some (.int .i64 s.trap) := HO14.out.1 1 (by omega)
                      have c_2 : w14.cell? ⟨X, 2, none⟩ = some (.int .i64 s.value) := HO14.out.1 2 (by omega)
                      have c_3 : w14.cell? ⟨X, 3, none⟩ = some (.slice As s.out.length cs1) := HO14.out.1 3 (by omega)
                      have d_0 : w14.cell? ⟨Y, 0, none⟩ = some (.bool pp.done) := HP14.out.1 0 (by omega)
                      have d_1 : w14.cell? ⟨Y, 1, none⟩ = some (.int .i64 pp.trap) := HP14.out.1 1 (by omega)
                      have d_2 : w14.cell? ⟨Y, 2, none⟩ = some (.int .i64 pp.value) := HP14.out.1 2 (by omega)
                      have d_3 : w14.cell? ⟨Y, 3, none⟩ = some (.slice Ap2 pp.out.length cp2) := HP14.out.1 3 (by omega)
                      have LS := Lib.hid (load_mem (g := X) (o := 5) (w := w14) (s := s) (fun i hi => (HO14.out.1 (5 + i) (by omega)).trans (by rw [show 263 + (5 + i) = 268 + i by omega, cellM_mem _ _ hi])))
                      have LT := Lib.hid (load_mem (g := Y) (o := 5) (w := w14) (s := pp) (fun i hi => (HP14.out.1 (5 + i) (by omega)).trans (by rw [show 263 + (5 + i) = 268 + i by omega, cellM_mem _ _ hi])))
                      clear hp hmay hs hp2 hmay2 hs2 hmm hf0 HAL hneg
                      cases hd : s.done
                      · have HBE : Hid (beginsB s.out pp.out = true) := Lib.hid (by obtain ⟨rr, hrr⟩ := HAA.out.2; rw [hrr]; exact begins_app _ _)
                        rw [hd] at c_0
                        clear hd
                        go_wp2_with fail
                        refine HBG.out.mono ?_
                        rintro e w15 ⟨rfl, nn, rfl⟩
                        rw [HBE.out]
                        go_wp2_with fail
                        go_ret
                        exact ⟨rfl, below_drewN HB14.out nn⟩
                      · obtain ⟨q1, q2, q3, q4, q5⟩ := HAA.out.1 hd
                        rw [hd] at c_0
                        rw [q1] at d_0
                        rw [q2] at d_1
                        rw [q3] at d_2
                        have heq := eq_mem s pp w14
                        have f5 : (memL s == memL pp) = true := by
                          have : memL pp = memL s := by unfold memL; rw [q5]
                          rw [this]; simp
                        rw [f5] at heq
                        have HQ4 : Hid (decide (s.out = pp.out) = true) := Lib.hid (decide_eq_true q4.symm)
                        clear hd q1 q2 q3 q4 q5 f5
                        go_upto_region 22 with fail
                        go_step
                        iterate 21 (first | (go_step; go_simp; go_step) | (go_step; go_step))
                        refine wpList_load_w w14 (by rfl) 47 (.tmp 195) rfl _ (by rfl) LS.out ?_
                        (first | (go_step; go_simp; go_step) | (go_step; go_step))
                        refine wpList_load_w w14 (by rfl) 47 (.tmp 197) rfl _ (by rfl) LT.out ?_
                        go_wp2_with fail
                        refine HAK.out.mono ?_
                        rintro e w15 ⟨rfl, nn, rfl⟩
                        rw [HQ4.out]
                        go_wp2_with fail
                        go_ret
                        exact ⟨rfl, below_drewN HB14.out nn⟩
                · rw [hEb] at dE
                  clear hEE hf hnb hR hEb
                  go_wp2_with fail
                  go_ret
                  exact ⟨rfl, HB4.out⟩
end Go.Proofs.Ytcjmhdneelmbhaa
