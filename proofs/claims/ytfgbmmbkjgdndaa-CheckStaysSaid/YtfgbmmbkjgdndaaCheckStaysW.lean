/- The walk of CheckStays, given that ofInstr does what the document says. -/
import Derived.Test.YtfgbmmbkjgdndaaChkF
import Derived.Test.YtfgbmmbkjgdndaaChkP
import Derived.Test.YtfgbmmbkjgdndaaCopyM
import Derived.Test.YtfgbmmbkjgdndaaSameF
import Derived.Test.YtfgbmmbkjgdndaaCheckPartsW
import Derived.Test.YtfgbmmbkjgdndaaAhead
namespace Go.Proofs.Ytfgbmmbkjgdndaa
open Go.ChangeShapes Go.WideShapes Go.RowKit Go.Deep
set_option linter.unusedVariables false

/-- Rows whose numbers may be written over: where they lie, and that they are there. -/
def Told (w : World) (G n : Nat) (V : Nat → Value) (len : Nat → Nat) : Prop :=
  (∀ i, i < n → w.cell? ⟨G, i, none⟩ = some (V i)) ∧
  ∀ i, i < n → ∃ A c, V i = .slice A (len i) c ∧ (len i ≤ c ∧ c ≤ maxLen) ∧ (0 < len i → ∃ g, A = some ⟨g, 0, none⟩ ∧ G < g ∧ ∀ j, j < len i → (∃ u, w.cell? ⟨g, j, none⟩ = some u) ∧ w.frozen? ⟨g, j, none⟩ = false)
theorem Told.of_grid {w : World} {G n : Nat} {V : Nat → Value} {L : Nat → List Int} (h : Grid w G n V L) : Told w G n V (fun i => (L i).length) := by
  refine ⟨fun i hi => h.row.cell hi, fun i hi => ?_⟩
  have ho := h.own i hi
  rcases ho.2 with ⟨e, h0⟩ | ⟨g, c, cur, e, hb, hh, hn, hc, hsz, ht⟩
  · exact ⟨none, 0, by rw [e]; simp only [h0], by simp only [h0]; exact ⟨Nat.le_refl _, Nat.zero_le _⟩, fun hp => absurd hp (by simp only [h0]; exact Nat.lt_irrefl _)⟩
  · refine ⟨_, c, e, ⟨hn, hc⟩, fun _ => ⟨g, rfl, hb, fun j hj => ?_⟩⟩
    rw [e] at ho
    refine ⟨?_, ho.frozenAt j⟩
    obtain ⟨x, hx⟩ : ∃ x, ((L i).map (Value.int .i64))[j]? = some x := ⟨_, List.getElem?_eq_getElem (by simpa using hj)⟩
    have := ho.cells (g := g) rfl j x hx
    exact ⟨x, by rwa [show (⟨g, 0, none⟩ : Addr).add j = ⟨g, j, none⟩ by unfold Addr.add; split <;> simp_all] at this⟩
theorem Told.set {w : World} {G n : Nat} {V : Nat → Value} {len : Nat → Nat} (h : Told w G n V len) {a : Addr} (ha : G < a.block) (v : Value) : Told (w.setCell a v) G n V len := by
  refine ⟨fun i hi => (World.cell?_setCell_other _ _ _ _ (fun e => by subst e; exact Nat.lt_irrefl _ ha)).trans (h.1 i hi), fun i hi => ?_⟩
  obtain ⟨A, c, e, hb, h2⟩ := h.2 i hi
  refine ⟨A, c, e, hb, fun hp => ?_⟩
  obtain ⟨g, e2, hg, h3⟩ := h2 hp
  refine ⟨g, e2, hg, fun j hj => ?_⟩
  obtain ⟨⟨u, hu⟩, hf⟩ := h3 j hj
  refine ⟨?_, by rw [World.frozen?_setCell]; exact hf⟩
  by_cases e3 : a = ⟨g, j, none⟩
  · subst e3; exact ⟨v, World.cell?_setCell_same _ _ _ hu⟩
  · exact ⟨u, (World.cell?_setCell_other _ _ _ _ e3).trans hu⟩
theorem Told.drewN {w : World} {G n : Nat} {V : Nat → Value} {len : Nat → Nat} (h : Told w G n V len) (q : Nat) : Told (w.drewN q) G n V len := h

set_option maxRecDepth 100000 in
set_option maxHeartbeats 8000000 in
theorem checkStays_walk (OI : OfIns) (m : List FunD) (v : Value) (n : Int) (w : World) (hm : VMod w v m) (hn : (Lit.int .i64 n).wf = true) :
    Calls Try.prog 5 #[v, .int .i64 n] w fun e w' => e = .returned (.bool true) ∧ Below w.heap.size w w' := by
  have hm0 := hm
  have hn64 := bounds_i64 hn
  obtain ⟨A, c, rfl, hms⟩ := hm
  have hml := hms.len
  clear hn
  go_enter Try.func5, Try.ntmps5
  go_wp2_with fail
  obtain ⟨w1, hw1, hs1, hk1, hB1, hc1, -⟩ := named w #[.slice A m.length c] 30
  rw [← hw1]
  have q0 : w1.cell? ⟨w.heap.size, 0, none⟩ = some (.slice A m.length c) := hc1 0 _ rfl
  have hs1 : w.heap.size < w1.heap.size := by omega
  clear hw1 hc1
  refine (up_any _).mono ?_
  rintro e w2 ⟨rfl, hb2⟩
  have hB2 : Below w.heap.size w w2 := hB1.trans (hb2.mono hB1.size)
  have hk2 := kept_of_below hb2
  have q0 := hk2 _ _ q0
  go_wp2_with fail
  refine (small_any m _ _ (VMod.keep (hk1.trans hk2) hm0)).mono ?_
  rintro e w3 ⟨⟨bs, rfl, hsm⟩, hb3⟩
  have hB3 : Below w.heap.size w w3 := hB2.trans (hb3.mono hB2.size)
  have hk3 := kept_of_below hb3
  have q0 := hk3 _ _ q0
  cases bs
  · go_wp2_with fail
    go_ret
    exact ⟨rfl, hB3⟩
  · have hsm := hsm rfl
    have HS := Lib.hid hsm
    clear hsm
    go_wp2_with fail
    have hK3 := (hk1.trans hk2).trans hk3
    refine (copy_any m _ _ (VMod.keep hK3 hm0) HS.out).mono ?_
    rintro e w4 ⟨⟨r, rfl, A1, c1, rfl, hcp⟩, hb4⟩
    have hB4 : Below w.heap.size w w4 := hB3.trans (hb4.mono hB3.size)
    have hk4 := kept_of_below hb4
    have q0 := hk4 _ _ q0
    have hcp : SL w4 4 RFun A1 c1 m := SL.imp RFunB.plain hcp
    go_wp2_with fail
    obtain ⟨w5, hw5, hs5, hk5, hB5, hc5, -⟩ := named w4 #[.slice A1 m.length c1] 30
    rw [← hw5]
    have hK4 := hK3.trans hk4
    have hB5 : Below w.heap.size w w5 := hB4.trans (hB5.mono hB4.size)
    have q0 := hk5 _ _ q0
    have o0 : w5.cell? ⟨w4.heap.size, 0, none⟩ = some (.slice A1 m.length c1) := hc5 0 _ rfl
    have hvo : VMod w5 (.agg #[.slice A1 m.length c1]) m := ⟨A1, c1, rfl, SFuns.keep hk5 hcp⟩
    have hvm : VMod w5 (.agg #[.slice A m.length c]) m := VMod.keep (hK4.trans hk5) hm0
    have hl5 : w4.heap.size < w5.heap.size := by omega
    have hl4 : w.heap.size < w4.heap.size := by have := hB1.size; have := hb2.size; have := hb3.size; have := hb4.size; omega
    clear hw5 hc5 hcp hb2 hb3 hb4 hk1 hk2 hk3 hk4 hk5 hK3 hK4 hB1 hB2 hB3 hB4 hs1
    obtain ⟨N, hN⟩ : ∃ N, N = w4.heap.size := ⟨_, rfl⟩
    rw [← hN] at o0 hl5 hl4 ⊢
    clear hN hs5 hm0 hms
    have hlim := lim_of_small HS.out
    refine (module_any OI m _ _ hvo hlim).mono ?_
    rintro e w6 ⟨⟨ve, rfl, -⟩, hb6⟩
    have hB6 : Below w.heap.size w w6 := hB5.trans (hb6.mono hB5.size)
    have hk6 := kept_of_below hb6
    have q0 := hk6 _ _ q0
    have o0 := hk6 _ _ o0
    have hvo := VMod.keep hk6 hvo
    have hvm := VMod.keep hk6 hvm
    have hl6 := hb6.size
    clear hb6 hk6
    go_wp2_with fail
    refine (plain_any OI m _ _ hvo hlim).mono ?_
    rintro e w7 ⟨⟨vp, rfl⟩, hb7⟩
    have hB7 : Below w.heap.size w w7 := hB6.trans (hb7.mono hB6.size)
    have hk7 := kept_of_below hb7
    have q0 := hk7 _ _ q0
    have o0 := hk7 _ _ o0
    have hvo := VMod.keep hk7 hvo
    have hvm := VMod.keep hk7 hvm
    have hl7 := hb7.size
    clear hb7 hk7
    go_wp2_with fail
    refine (func_any OI m n _ _ hvo hn64 hlim).mono ?_
    rintro e w8 ⟨⟨vf, rfl⟩, hb8⟩
    have hB8 : Below w.heap.size w w8 := hB7.trans (hb8.mono hB7.size)
    have hk8 := kept_of_below hb8
    have q0 := hk8 _ _ q0
    have o0 := hk8 _ _ o0
    have hvo := VMod.keep hk8 hvo
    have hvm := VMod.keep hk8 hvm
    have hl8 := hb8.size
    clear hb8 hk8
    obtain ⟨hn1, hn2⟩ := hn64
    have hNl : N < w8.heap.size := by omega
    have hwl : w.heap.size < w8.heap.size := by omega
    have hS1 : Hid (same m m = true) := Lib.hid (same_yes rfl)
    clear hlim hB5 hB6 hB7 hl5 hl6 hl7 hl8
    by_cases h1 : n < 0
    · go_wp2_with fail
      refine (same_any m m _ _ _ hvo hvm).mono ?_
      rintro e w9 ⟨rfl, hb9⟩
      rw [hS1.out]
      go_wp2_with fail
      go_ret
      exact ⟨rfl, hB8.trans (hb9.mono hB8.size)⟩
    · obtain ⟨k, rfl⟩ := Int.eq_ofNat_of_zero_le (Int.not_lt.1 h1)
      by_cases h2 : k < m.length
      · have hk1 : (k : Int) < m.length := by omega
        have hof : SL w8 4 RFun A1 c1 m := by obtain ⟨A', c', e, h⟩ := hvo; cases e; exact h
        obtain ⟨bb, oo, f, rfl, hf, ⟨z0, y0⟩, ⟨z1, y1⟩, ⟨Ar, cr, z2, y2⟩, Ab, cb, z3, y3⟩ := hof.at_ h2
        have hf70 : Hid (f.blocks.length ≤ 70) := Lib.hid (HS.out.2 f (List.mem_of_getElem? hf.out)).1
        have hvf : VFun w8 (.agg #[.int .i64 f.params, .int .i64 f.result, .slice Ar f.regs.length cr, .slice Ab f.blocks.length cb]) f := ⟨Ar, cr, Ab, cb, rfl, y2, y3, y0, y1⟩
        clear hof
        go_wp2_with fail
        refine (ahead_any f _ _ hvf (by have := hf70.out; omega)).mono ?_
        rintro e w9 ⟨⟨V, G, rfl, hG, hgr⟩, hb9⟩
        obtain ⟨len, ht⟩ : ∃ len : Nat → Nat, Told w9 G f.blocks.length V len := ⟨_, Told.of_grid hgr⟩
        clear hgr
        go_wp2_with fail
        have hl9 := hb9.size
        go_loopw [9] (fun i wr => ∃ q : Nat, q ≤ f.blocks.length ∧ i = .int .i64 q ∧ Below w8.heap.size w8 wr ∧ Told wr G f.blocks.length V len) (fun i _ => f.blocks.length - (intOf i).toNat)
        case atStart => exact ⟨0, Nat.zero_le _, rfl, hb9, ht⟩
        case round =>
          obtain ⟨q, hq, rfl, hbq, htq⟩ := hrel
          obtain ⟨wo, rfl⟩ : ∃ wo, wo = wr := ⟨wr, rfl⟩
          have hbl70 := hf70.out
          by_cases hlt : q < f.blocks.length
          · go_wp2_with fail
            go_loopw [10] (fun i wr => ∃ p : Nat, p ≤ len q ∧ i = .int .i64 p ∧ Below w8.heap.size w8 wr ∧ Told wr G f.blocks.length V len) (fun i _ => len q - (intOf i).toNat)
            case atStart => exact ⟨0, Nat.zero_le _, rfl, hbq, htq⟩
            case round =>
              obtain ⟨p, hp, rfl, hbp, htp⟩ := hrel
              have hrow := htp.1 q hlt
              obtain ⟨Aq, cq, hV, hcq, hcell⟩ := htp.2 q hlt
              rw [hV] at hrow
              unfold maxLen at hcq
              have hq0 : (0 : Int) ≤ q := by omega
              have hq1 : (q : Int) < f.blocks.length := by omega
              by_cases hpt : p < len q
              · obtain ⟨g, rfl, hg, hc⟩ := hcell (by omega)
                obtain ⟨⟨x, hx⟩, hfz⟩ := hc p hpt
                have hp0 : (0 : Int) ≤ p := by omega
                have hp1 : (p : Int) < len q := by omega
                clear hcell hc
                go_wp2_with fail
                go_roundw
                case rel => exact ⟨p + 1, by omega, by go_num, hbp.setCell (by show _ ≤ g; omega) _, htp.set hg _⟩
                case measure => simp [intOf]; omega
              · obtain rfl : p = len q := by omega
                go_wp2_with fail
                go_roundw
                case rel => exact ⟨q + 1, by omega, by go_num, hbp, htp⟩
                case measure => simp [intOf]; omega
          · have hkw := kept_of_below hbq
            have q0 := hkw _ _ q0
            have o0 := hkw _ _ o0
            have z0 := hkw _ _ z0
            have z1 := hkw _ _ z1
            have z2 := hkw _ _ z2
            have z3 := hkw _ _ z3
            have hvf := VFun.keep hkw hvf
            have hk0 : (0 : Int) ≤ k := by omega
            go_wp2_with fail
            refine (ahead_any f _ _ hvf (by omega)).mono ?_
            rintro e w10 ⟨⟨V2, G2, rfl, hG2, hgr2⟩, hb10⟩
            have hB10 : Below w8.heap.size w8 w10 := hbq.trans (hb10.mono hbq.size)
            have hrd := hgr2.reads (by omega)
            have hvo := VMod.keep (kept_of_below hB10) hvo
            have hvm := VMod.keep (kept_of_below hB10) hvm
            have hkw10 := kept_of_below hb10
            have q0 := hkw10 _ _ q0
            have o0 := hkw10 _ _ o0
            clear hgr2 hb10 htq
            go_wp2_with fail
            go_loopw [12] (fun i wr => ∃ j : Nat, j ≤ f.blocks.length ∧ i = .int .i64 j ∧ Below w10.heap.size w10 wr) (fun i _ => f.blocks.length - (intOf i).toNat)
            case atStart => exact ⟨0, Nat.zero_le _, rfl, Below.refl _ _⟩
            case round =>
              obtain ⟨j, hj, rfl, hbj⟩ := hrel
              obtain ⟨wp, rfl⟩ : ∃ wp, wp = wr := ⟨wr, rfl⟩
              by_cases hlj : j < f.blocks.length
              · obtain ⟨b2, o2, l, he, hx, A2, c2, hc2, hs2⟩ := (SL.keep (kept_of_below hbj) (RRow.keep (kept_of_below hbj)) hrd).at_ (k := j) (by rw [rows_len]; exact hlj)
                simp only [Option.some.injEq, Addr.mk.injEq] at he
                obtain ⟨rfl, rfl, -⟩ := he
                have hge : Hid (∀ y ∈ l, (0 : Int) ≤ y) := Lib.hid (by
                  rw [rows_at hx.out]
                  intro y hy
                  have := aheadK_mem f.blocks 0 j y hy
                  simp at this; omega)
                have hll := hs2.len
                rw [Nat.zero_add, Nat.mul_one] at hc2
                have hj0 : (0 : Int) ≤ j := by omega
                have hj1 : (j : Int) < f.blocks.length := by omega
                go_wp2_with fail
                go_loopw [13] (fun i wr => ∃ p : Nat, p ≤ l.length ∧ i = .int .i64 p ∧ wr = wp) (fun i _ => l.length - (intOf i).toNat)
                case atStart => exact ⟨0, Nat.zero_le _, rfl, rfl⟩
                case round =>
                  obtain ⟨p, hp, rfl, rfl⟩ := hrel
                  by_cases hpt : p < l.length
                  · obtain ⟨b3, o3, y, rfl, hy, hyc, -⟩ := hs2.int hpt
                    have hy0 : (0 : Int) ≤ y := hge.out y (List.mem_of_getElem? hy.out)
                    have hp0 : (0 : Int) ≤ p := by omega
                    have hp1 : (p : Int) < l.length := by omega
                    go_wp2_with fail
                    go_roundw
                    case rel => exact ⟨p + 1, by omega, by go_num, by trivial⟩
                    case measure => simp [intOf]; omega
                  · go_wp2_with fail
                    go_roundw
                    case rel => exact ⟨j + 1, by omega, by go_num, hbj⟩
                    case measure => simp [intOf]; omega
              · have hkj := kept_of_below hbj
                have q0 := hkj _ _ q0
                have o0 := hkj _ _ o0
                have hBj : Below w.heap.size w wp := hB8.trans ((hB10.trans (hbj.mono hB10.size)).mono hB8.size)
                go_wp2_with fail
                refine (same_any m m _ _ _ (VMod.keep hkj hvo) (VMod.keep hkj hvm)).mono ?_
                rintro e w11 ⟨rfl, hb11⟩
                rw [hS1.out]
                go_wp2_with fail
                go_ret
                exact ⟨rfl, hBj.trans (hb11.mono hBj.size)⟩
      · go_wp2_with fail
        refine (same_any m m _ _ _ hvo hvm).mono ?_
        rintro e w9 ⟨rfl, hb9⟩
        rw [hS1.out]
        go_wp2_with fail
        go_ret
        exact ⟨rfl, hB8.trans (hb9.mono hB8.size)⟩
end Go.Proofs.Ytfgbmmbkjgdndaa
