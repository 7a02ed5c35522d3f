/- The walk of RunMore. -/
import Derived.Test.YtmoihkhnhnfpbaaRunM
import Derived.Test.YtmoihkhnhnfpbaaSmall
namespace Go.Proofs.Ytmoihkhnhnfpbaa
open Go.ChangeShapes Go.WideShapes Go.RowKit Go.Deep
set_option linter.unusedVariables false

theorem may_other {m : List FunD} {f : Int} {args : List Int} {z t : Int} (h : mayB m f args z = true) (h0 : 0 ≤ t) (h1 : t < 1048577) : mayB m f args t = true := by
  unfold mayB at h ⊢
  simp only [Bool.and_eq_true, decide_eq_true_eq] at h ⊢
  exact ⟨h.1, h.2.1, h0, by omega⟩
theorem may_range {m : List FunD} {f : Int} {args : List Int} {z : Int} (h : mayB m f args z = true) : 0 ≤ z ∧ z < 1048577 := by
  unfold mayB at h
  simp only [Bool.and_eq_true, decide_eq_true_eq] at h
  exact ⟨h.2.2.1, by have := h.2.2.2; omega⟩
theorem few_less {s : Int} (h : fewZ s < 1048577) : fewZ s ≤ 1000 := by
  by_cases hc : 1000 < s ∧ s ≤ 1048576
  · unfold fewZ; rw [if_pos hc]; omega
  · unfold fewZ at h ⊢; rw [if_neg hc] at h ⊢; omega

set_option maxRecDepth 100000 in
set_option maxHeartbeats 16000000 in
theorem runMore_walk (m : List FunD) (v : Value) (f : Int) (args : List Int) (va : Value) (steps more : Int) (w : World) (hm : VMod w v m) (hargs : VS w 1 RInt va args) (hf : I64 f) (hst : I64 steps) (hmo : I64 more) :
    Calls Try.prog 3 #[v, .int .i64 f, va, .int .i64 steps, .int .i64 more] w fun e w' => e = .returned (.bool true) ∧ Below w.heap.size w w' := by
  have hm0 := hm
  obtain ⟨A, c, rfl, hms⟩ := hm
  obtain ⟨Aa, ca, rfl, ha⟩ := hargs
  have hml := hms.len
  have hal := ha.len
  clear hms
  have HF := Lib.hid hf
  have HST := Lib.hid hst
  have HMO := Lib.hid hmo
  clear hf hst hmo
  go_enter Try.func3, Try.ntmps3
  go_wp2_with fail
  obtain ⟨w1, hw1, hs1, hk1, hB1, hc1, -⟩ := named w #[.slice A m.length c] 24
  rw [← hw1]
  have q0 : w1.cell? ⟨w.heap.size, 0, none⟩ = some (.slice A m.length c) := hc1 0 _ rfl
  clear hw1 hc1 hs1
  refine (up_any _).mono ?_
  rintro e w2 ⟨rfl, hb2⟩
  have hB2 : Below w.heap.size w w2 := hB1.trans (hb2.mono hB1.size)
  have q0 := kept_of_below hb2 _ _ q0
  go_wp2_with fail
  refine (small_any m _ _ (VMod.keep (kept_of_below hB2) hm0)).mono ?_
  rintro e w3 ⟨⟨bs, rfl, hsm⟩, hb3⟩
  have hB3 : Below w.heap.size w w3 := hB2.trans (hb3.mono hB2.size)
  have q0 := kept_of_below hb3 _ _ q0
  clear hb2 hb3 hB1 hB2 hk1
  cases bs
  · go_wp2_with fail
    go_ret
    exact ⟨rfl, hB3⟩
  · have HS := Lib.hid (hsm rfl)
    clear hsm
    by_cases hlen : 300 < args.length
    · have hlen' : (300 : Int) < args.length := by omega
      go_wp2_with fail
      go_ret
      exact ⟨rfl, hB3⟩
    · have hlen' : ¬ (300 : Int) < args.length := by omega
      go_wp2_with fail
      refine (few_any steps _ HST.out).mono ?_
      rintro e w4 ⟨rfl, rfl⟩
      have HZ : Hid (I64 (fewZ steps)) := Lib.hid (by have := HST.out; unfold I64 at this ⊢; unfold fewZ; split <;> omega)
      have HR1 := Lib.hid (run_any m f args (fewZ steps) _ Aa ca w4 (VMod.keep (kept_of_below hB3) hm0) (SInts.keep (kept_of_below hB3) ha) HS.out HF.out HZ.out)
      have HB3 := Lib.hid hB3
      have HA := Lib.hid ha
      have HM0 := Lib.hid hm0
      clear hB3 ha hm0 hlen hlen'
      go_wp2_with fail
      refine HR1.out.mono ?_
      rintro e w5 h5
      obtain ⟨s, As, cs, err, rfl, hb5, hso, hcase⟩ := run_told h5
      have q0 := kept_of_below hb5 _ _ q0
      have HB5 : Hid (Below w.heap.size w w5) := Lib.hid (HB3.out.trans (hb5.mono HB3.out.size))
      have hst := store_new w5 s (.slice As s.out.length cs) rfl
      obtain ⟨w6, hw6⟩ : ∃ w6, w6 = w5.alloc (.cells (outC s (.slice As s.out.length cs)) 31) := ⟨_, rfl⟩
      rw [← hw6] at hst
      have HO := Lib.hid (OutAt.new hw6 hso)
      have HB56 : Hid (Below w5.heap.size w5 w6) := Lib.hid (by rw [hw6]; exact (Below.refl _ _).alloc (Nat.le_refl _) _)
      have HB6 : Hid (Below w.heap.size w w6) := Lib.hid (HB5.out.trans (HB56.out.mono HB5.out.size))
      have q6 := kept_of_below HB56.out _ _ q0
      have HCASE := Lib.hid hcase
      have HQ6 := Lib.hid q6
      clear h5 hb5 hso HR1 hw6 hcase q0 q6
      dsimp only
      go_step
      iterate 4 (first | (go_step; go_simp; go_step) | (go_step; go_step))
      refine wpList_store_any _ rfl 31 (.tmp 13) (.tmp 38) rfl _ _ (by rfl) (by rfl) hst ?_
      have q6 := HQ6.out
      clear hst HQ6
      rcases HCASE.out with ⟨⟨te, xe, rfl⟩, -⟩ | ⟨rfl, hp, hmay, hs⟩
      · go_wp2_with fail
        go_ret
        exact ⟨rfl, HB6.out⟩
      · have hz0 := may_range hmay
        have hz1 := few_less hz0.2
        obtain ⟨k, hk⟩ : ∃ k : Nat, fewZ steps = k := ⟨(fewZ steps).toNat, by omega⟩
        rw [hk, Int.toNat_natCast] at hs
        have HMAY := Lib.hid (fun (t : Int) h0 h1 => may_other (t := t) hmay h0 h1)
        have HP := Lib.hid hp
        have HSR := Lib.hid hs
        have hk1 : k ≤ 1000 := by omega
        obtain ⟨m1, m2⟩ := HMO.out
        clear hz0 hz1 hmay hp hs HZ HCASE HST HB56
        have hq : ∃ q : Nat, (more < 0 ∧ -(more + 1) = q) ∨ (0 ≤ more ∧ more = q) := by
          by_cases h : more < 0
          · exact ⟨(-(more+1)).toNat, .inl ⟨h, by omega⟩⟩
          · exact ⟨more.toNat, .inr ⟨by omega, by omega⟩⟩
        obtain ⟨q, hq⟩ := hq
        obtain ⟨r, hr, hr1⟩ : ∃ r : Nat, (q : Int) % 500 = r ∧ r < 500 := ⟨q % 500, by omega, by omega⟩
        rcases hq with ⟨hneg, hmq⟩ | ⟨hneg, hmq⟩
        · go_wp2_with fail
          have HR2 := Lib.hid (run_any m f args ((k : Int) + r) _ Aa ca w6 (VMod.keep (kept_of_below HB6.out) HM0.out) (SInts.keep (kept_of_below HB6.out) HA.out) HS.out HF.out (by unfold I64; omega))
          refine HR2.out.mono ?_
          rintro e w7 h7
          obtain ⟨p, Ap, cp, err2, rfl, hb7, hpo, ⟨-, hno⟩ | ⟨rfl, -, -, hpe⟩⟩ := run_told h7
          · exact absurd ⟨HP.out, HMAY.out _ (by omega) (by omega)⟩ hno
          · rw [show ((k : Int) + r).toNat = k + r by omega] at hpe
            have HPE := Lib.hid hpe
            have HB7 : Hid (Below w.heap.size w w7) := Lib.hid (HB6.out.trans (hb7.mono HB6.out.size))
            have hst := store_new w7 p (.slice Ap p.out.length cp) rfl
            obtain ⟨w8, hw8⟩ : ∃ w8, w8 = w7.alloc (.cells (outC p (.slice Ap p.out.length cp)) 31) := ⟨_, rfl⟩
            rw [← hw8] at hst
            have HB78 : Hid (Below w7.heap.size w7 w8) := Lib.hid (by rw [hw8]; exact (Below.refl _ _).alloc (Nat.le_refl _) _)
            have HB68 : Hid (Below w6.heap.size w6 w8) := Lib.hid (hb7.trans (HB78.out.mono hb7.size))
            have HB8 : Hid (Below w.heap.size w w8) := Lib.hid (HB7.out.trans (HB78.out.mono HB7.out.size))
            have HO8 : Hid (OutAt w8 w5.heap.size s As cs) := Lib.hid (HO.out.keep (kept_of_below HB68.out))
            have HP8 : Hid (OutAt w8 w7.heap.size p Ap cp) := Lib.hid (OutAt.new hw8 hpo)
            have HQ8 := Lib.hid (kept_of_below HB68.out _ _ q6)
            clear h7 hb7 hpo hpe hw8 q6 HR2
            dsimp only
            go_step
            iterate 4 (first | (go_step; go_simp; go_step) | (go_step; go_step))
            refine wpList_store_any _ rfl 31 (.tmp 15) (.tmp 57) rfl _ _ (by rfl) (by rfl) hst ?_
            clear hst
            have q8 := HQ8.out
            go_wp2_with fail
            have HR3 := Lib.hid (run_any m f args 0 _ Aa ca w8 (VMod.keep (kept_of_below HB8.out) HM0.out) (SInts.keep (kept_of_below HB8.out) HA.out) HS.out HF.out (by unfold I64; omega))
            refine HR3.out.mono ?_
            rintro e w9 h9
            obtain ⟨n, An, cn, err3, rfl, hb9, hno, ⟨-, hno⟩ | ⟨rfl, -, -, hne⟩⟩ := run_told h9
            · exact absurd ⟨HP.out, HMAY.out _ (by omega) (by omega)⟩ hno
            · have HNE : Hid (n = runS m f.toNat args 0) := Lib.hid hne
              have HB9 : Hid (Below w.heap.size w w9) := Lib.hid (HB8.out.trans (hb9.mono HB8.out.size))
              have hst := store_new w9 n (.slice An n.out.length cn) rfl
              obtain ⟨w10, hw10⟩ : ∃ w10, w10 = w9.alloc (.cells (outC n (.slice An n.out.length cn)) 31) := ⟨_, rfl⟩
              rw [← hw10] at hst
              have HB910 : Hid (Below w9.heap.size w9 w10) := Lib.hid (by rw [hw10]; exact (Below.refl _ _).alloc (Nat.le_refl _) _)
              have HB810 : Hid (Below w8.heap.size w8 w10) := Lib.hid (hb9.trans (HB910.out.mono hb9.size))
              have HB10 : Hid (Below w.heap.size w w10) := Lib.hid (HB9.out.trans (HB910.out.mono HB9.out.size))
              have HO10 : Hid (OutAt w10 w5.heap.size s As cs) := Lib.hid (HO8.out.keep (kept_of_below HB810.out))
              have HP10 : Hid (OutAt w10 w7.heap.size p Ap cp) := Lib.hid (HP8.out.keep (kept_of_below HB810.out))
              have HN10 : Hid (OutAt w10 w9.heap.size n An cn) := Lib.hid (OutAt.new hw10 hno)
              clear h9 hb9 hno hne hw10 q8 HR3
              dsimp only
              go_step
              iterate 4 (first | (go_step; go_simp; go_step) | (go_step; go_step))
              refine wpList_store_any _ rfl 31 (.tmp 17) (.tmp 64) rfl _ _ (by rfl) (by rfl) hst ?_
              clear hst
              go_upto_region 13 with fail
              go_step
              iterate 7 (first | (go_step; go_simp; go_step) | (go_step; go_step))
              refine wpList_load_w w10 (by rfl) 31 (.tmp 17) rfl _ (by rfl) HN10.out.load ?_
              go_wp2_with fail
              have HSN : Hid (Calls Try.prog 10 #[.agg (outC n (.slice An n.out.length cn)), .agg Try.zeroCells31] w10 fun e w' => e = .returned (.bool (sameS n zeroS)) ∧ Below w10.heap.size w10 w') := Lib.hid (by rw [zero_out]; exact sameO_any n zeroS An none cn 0 w10 HN10.out.2 SL.nil)
              refine HSN.out.mono ?_
              rintro e w11 ⟨rfl, hb11⟩
              have HSAME : Hid (sameS n zeroS = true) := Lib.hid (by rw [HNE.out]; exact same_none _ _ _)
              rw [HSAME.out]
              have HB11 : Hid (Below w.heap.size w w11) := Lib.hid (HB10.out.trans (hb11.mono HB10.out.size))
              have HO11 : Hid (OutAt w11 w5.heap.size s As cs) := Lib.hid (HO10.out.keep (kept_of_below hb11))
              have HP11 : Hid (OutAt w11 w7.heap.size p Ap cp) := Lib.hid (HP10.out.keep (kept_of_below hb11))
              obtain ⟨c0, c3, c4⟩ := HO11.out.cells
              obtain ⟨-, d3, d4⟩ := HP11.out.cells
              obtain ⟨x1, x2, x3, x4, x5⟩ := more_facts m f.toNat args k r
              rw [← HSR.out, ← HPE.out] at x2 x3 x5
              rw [← HSR.out] at x1 x4
              have y2 : ¬ (p.steps : Int) < s.steps := by omega
              clear hb11 HSN HSAME HNE HSR HPE
              cases hd : s.done
              · have e4 : (s.steps : Int) = k := by have := x4 hd; omega
                rw [hd] at c0
                rw [e4] at c4 y2
                have HBE : Hid (beginsB s.out p.out = true) := Lib.hid (by obtain ⟨rr, hrr⟩ := x5; rw [hrr]; exact begins_app _ _)
                have HBG := Lib.hid (begins_any s.out p.out As Ap cs cp w11 HO11.out.2 HP11.out.2)
                clear x1 x2 x3 x4 x5 hd e4
                go_wp2_with fail
                refine HBG.out.mono ?_
                rintro e w12 ⟨rfl, n12, rfl⟩
                rw [HBE.out]
                go_wp2_with fail
                go_ret
                exact ⟨rfl, below_alike HB11.out n12⟩
              · have HPS : Hid (p = s) := Lib.hid (x3 hd)
                have y1 : ¬ (k : Int) < s.steps := by omega
                rw [hd] at c0
                have HSS := Lib.hid (sameO_any s p As Ap cs cp w11 HO11.out.2 HP11.out.2)
                have HSE : Hid (sameS s p = true) := Lib.hid (by rw [HPS.out]; exact same_refl s)
                clear x1 x2 x3 x4 x5 hd
                go_upto_region 16 with fail
                go_step
                iterate 2 (first | (go_step; go_simp; go_step) | (go_step; go_step))
                refine wpList_load_w w11 (by rfl) 31 (.tmp 13) rfl _ (by rfl) HO11.out.load ?_
                refine wpList_load_w w11 (by rfl) 31 (.tmp 15) rfl _ (by rfl) HP11.out.load ?_
                go_wp2_with fail
                refine HSS.out.mono ?_
                rintro e w12 ⟨rfl, hb12⟩
                rw [HSE.out]
                go_wp2_with fail
                go_ret
                exact ⟨rfl, HB11.out.trans (hb12.mono HB11.out.size)⟩
        · go_wp2_with fail
          have HR2 := Lib.hid (run_any m f args ((k : Int) + r) _ Aa ca w6 (VMod.keep (kept_of_below HB6.out) HM0.out) (SInts.keep (kept_of_below HB6.out) HA.out) HS.out HF.out (by unfold I64; omega))
          refine HR2.out.mono ?_
          rintro e w7 h7
          obtain ⟨p, Ap, cp, err2, rfl, hb7, hpo, ⟨-, hno⟩ | ⟨rfl, -, -, hpe⟩⟩ := run_told h7
          · exact absurd ⟨HP.out, HMAY.out _ (by omega) (by omega)⟩ hno
          · rw [show ((k : Int) + r).toNat = k + r by omega] at hpe
            have HPE := Lib.hid hpe
            have HB7 : Hid (Below w.heap.size w w7) := Lib.hid (HB6.out.trans (hb7.mono HB6.out.size))
            have hst := store_new w7 p (.slice Ap p.out.length cp) rfl
            obtain ⟨w8, hw8⟩ : ∃ w8, w8 = w7.alloc (.cells (outC p (.slice Ap p.out.length cp)) 31) := ⟨_, rfl⟩
            rw [← hw8] at hst
            have HB78 : Hid (Below w7.heap.size w7 w8) := Lib.hid (by rw [hw8]; exact (Below.refl _ _).alloc (Nat.le_refl _) _)
            have HB68 : Hid (Below w6.heap.size w6 w8) := Lib.hid (hb7.trans (HB78.out.mono hb7.size))
            have HB8 : Hid (Below w.heap.size w w8) := Lib.hid (HB7.out.trans (HB78.out.mono HB7.out.size))
            have HO8 : Hid (OutAt w8 w5.heap.size s As cs) := Lib.hid (HO.out.keep (kept_of_below HB68.out))
            have HP8 : Hid (OutAt w8 w7.heap.size p Ap cp) := Lib.hid (OutAt.new hw8 hpo)
            have HQ8 := Lib.hid (kept_of_below HB68.out _ _ q6)
            clear h7 hb7 hpo hpe hw8 q6 HR2
            dsimp only
            go_step
            iterate 4 (first | (go_step; go_simp; go_step) | (go_step; go_step))
            refine wpList_store_any _ rfl 31 (.tmp 15) (.tmp 57) rfl _ _ (by rfl) (by rfl) hst ?_
            clear hst
            have q8 := HQ8.out
            go_wp2_with fail
            have HR3 := Lib.hid (run_any m f args 0 _ Aa ca w8 (VMod.keep (kept_of_below HB8.out) HM0.out) (SInts.keep (kept_of_below HB8.out) HA.out) HS.out HF.out (by unfold I64; omega))
            refine HR3.out.mono ?_
            rintro e w9 h9
            obtain ⟨n, An, cn, err3, rfl, hb9, hno, ⟨-, hno⟩ | ⟨rfl, -, -, hne⟩⟩ := run_told h9
            · exact absurd ⟨HP.out, HMAY.out _ (by omega) (by omega)⟩ hno
            · have HNE : Hid (n = runS m f.toNat args 0) := Lib.hid hne
              have HB9 : Hid (Below w.heap.size w w9) := Lib.hid (HB8.out.trans (hb9.mono HB8.out.size))
              have hst := store_new w9 n (.slice An n.out.length cn) rfl
              obtain ⟨w10, hw10⟩ : ∃ w10, w10 = w9.alloc (.cells (outC n (.slice An n.out.length cn)) 31) := ⟨_, rfl⟩
              rw [← hw10] at hst
              have HB910 : Hid (Below w9.heap.size w9 w10) := Lib.hid (by rw [hw10]; exact (Below.refl _ _).alloc (Nat.le_refl _) _)
              have HB810 : Hid (Below w8.heap.size w8 w10) := Lib.hid (hb9.trans (HB910.out.mono hb9.size))
              have HB10 : Hid (Below w.heap.size w w10) := Lib.hid (HB9.out.trans (HB910.out.mono HB9.out.size))
              have HO10 : Hid (OutAt w10 w5.heap.size s As cs) := Lib.hid (HO8.out.keep (kept_of_below HB810.out))
              have HP10 : Hid (OutAt w10 w7.heap.size p Ap cp) := Lib.hid (HP8.out.keep (kept_of_below HB810.out))
              have HN10 : Hid (OutAt w10 w9.heap.size n An cn) := Lib.hid (OutAt.new hw10 hno)
              clear h9 hb9 hno hne hw10 q8 HR3
              dsimp only
              go_step
              iterate 4 (first | (go_step; go_simp; go_step) | (go_step; go_step))
              refine wpList_store_any _ rfl 31 (.tmp 17) (.tmp 64) rfl _ _ (by rfl) (by rfl) hst ?_
              clear hst
              go_upto_region 13 with fail
              go_step
              iterate 7 (first | (go_step; go_simp; go_step) | (go_step; go_step))
              refine wpList_load_w w10 (by rfl) 31 (.tmp 17) rfl _ (by rfl) HN10.out.load ?_
              go_wp2_with fail
              have HSN : Hid (Calls Try.prog 10 #[.agg (outC n (.slice An n.out.length cn)), .agg Try.zeroCells31] w10 fun e w' => e = .returned (.bool (sameS n zeroS)) ∧ Below w10.heap.size w10 w') := Lib.hid (by rw [zero_out]; exact sameO_any n zeroS An none cn 0 w10 HN10.out.2 SL.nil)
              refine HSN.out.mono ?_
              rintro e w11 ⟨rfl, hb11⟩
              have HSAME : Hid (sameS n zeroS = true) := Lib.hid (by rw [HNE.out]; exact same_none _ _ _)
              rw [HSAME.out]
              have HB11 : Hid (Below w.heap.size w w11) := Lib.hid (HB10.out.trans (hb11.mono HB10.out.size))
              have HO11 : Hid (OutAt w11 w5.heap.size s As cs) := Lib.hid (HO10.out.keep (kept_of_below hb11))
              have HP11 : Hid (OutAt w11 w7.heap.size p Ap cp) := Lib.hid (HP10.out.keep (kept_of_below hb11))
              obtain ⟨c0, c3, c4⟩ := HO11.out.cells
              obtain ⟨-, d3, d4⟩ := HP11.out.cells
              obtain ⟨x1, x2, x3, x4, x5⟩ := more_facts m f.toNat args k r
              rw [← HSR.out, ← HPE.out] at x2 x3 x5
              rw [← HSR.out] at x1 x4
              have y2 : ¬ (p.steps : Int) < s.steps := by omega
              clear hb11 HSN HSAME HNE HSR HPE
              cases hd : s.done
              · have e4 : (s.steps : Int) = k := by have := x4 hd; omega
                rw [hd] at c0
                rw [e4] at c4 y2
                have HBE : Hid (beginsB s.out p.out = true) := Lib.hid (by obtain ⟨rr, hrr⟩ := x5; rw [hrr]; exact begins_app _ _)
                have HBG := Lib.hid (begins_any s.out p.out As Ap cs cp w11 HO11.out.2 HP11.out.2)
                clear x1 x2 x3 x4 x5 hd e4
                go_wp2_with fail
                refine HBG.out.mono ?_
                rintro e w12 ⟨rfl, n12, rfl⟩
                rw [HBE.out]
                go_wp2_with fail
                go_ret
                exact ⟨rfl, below_alike HB11.out n12⟩
              · have HPS : Hid (p = s) := Lib.hid (x3 hd)
                have y1 : ¬ (k : Int) < s.steps := by omega
                rw [hd] at c0
                have HSS := Lib.hid (sameO_any s p As Ap cs cp w11 HO11.out.2 HP11.out.2)
                have HSE : Hid (sameS s p = true) := Lib.hid (by rw [HPS.out]; exact same_refl s)
                clear x1 x2 x3 x4 x5 hd
                go_upto_region 16 with fail
                go_step
                iterate 2 (first | (go_step; go_simp; go_step) | (go_step; go_step))
                refine wpList_load_w w11 (by rfl) 31 (.tmp 13) rfl _ (by rfl) HO11.out.load ?_
                refine wpList_load_w w11 (by rfl) 31 (.tmp 15) rfl _ (by rfl) HP11.out.load ?_
                go_wp2_with fail
                refine HSS.out.mono ?_
                rintro e w12 ⟨rfl, hb12⟩
                rw [HSE.out]
                go_wp2_with fail
                go_ret
                exact ⟨rfl, HB11.out.trans (hb12.mono HB11.out.size)⟩
end Go.Proofs.Ytmoihkhnhnfpbaa
