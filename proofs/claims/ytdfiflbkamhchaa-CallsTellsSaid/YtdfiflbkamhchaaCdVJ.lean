/- The walk of the document's To. -/
import Derived.Test.YtdfiflbkamhchaaCdTJ
import Derived.BigQuiet
import Derived.StillTailTactics
import Derived.Test.YtdfiflbkamhchaaIntSJ
namespace Go.Proofs.Ytdfiflbkamhchaa
open Go.ChangeShapes Go.WideShapes Go.RowKit Go.Deep
set_option linter.unusedVariables false

section
variable {P : Program} {ops : Array Oper} {w : World}
theorem still_of_quiet {Q : Act → Prop} : ∀ (l : List Oper) (a : Act), wpQuiet P ops (fun w' => w' = w) Q l a → wpStill P ops w Q l a := by
  intro l
  induction l with
  | nil => exact fun a h => h
  | cons o rest ih =>
    intro a h
    unfold wpQuiet at h
    unfold wpStill
    split at h
    · rename_i hw
      rw [if_pos hw]
      obtain ⟨v, h1, h2⟩ := h
      have h3 := h1 w rfl
      unfold Oper.quietAt at h3
      unfold Oper.still
      cases hr : (execOp a.eval o).run P w with
      | halt h w' => rw [hr] at h3; exact absurd h3 (by simp [Oper.quietUpon])
      | ok x w' =>
        rw [hr] at h3
        cases x with
        | value u => obtain ⟨rfl, rfl⟩ := h3; exact ⟨rfl, ih _ h2⟩
        | skip => obtain ⟨rfl, rfl⟩ := h3; exact ⟨rfl, ih _ h2⟩
        | enter f args => obtain ⟨rfl, h4⟩ := h3; exact ⟨rfl, v, h4, ih _ h2⟩
        | _ => exact absurd h3 (by simp [Oper.quietUpon])
    · rename_i hw
      rw [if_neg hw]
      exact ih _ h
end
theorem Try.info33 : (Try.prog.info? 33).map (fun i => (i.zero, i.size, i.bytes)) = some (some (.slice none 0 0), 1, 24) := by kernel_rfl
theorem Try.underlyingB28 : Try.prog.underlying 28 = some (.slice 33) := by kernel_rfl
theorem MtI.cell_ {W : World} {K n a c g : Nat} {G : Nat → Nat} {M : Nat → Nat → Bool} (h : MtI W K n n (.slice (some ⟨g, 0, none⟩) n c) G M) (ha : a < n) : W.cell? ⟨g, a, none⟩ = some (.slice (some ⟨G a, 0, none⟩) n n) := by
  obtain ⟨g', c', e1, e2⟩ := h.row_ ha
  simp only [Value.slice.injEq, Option.some.injEq, Addr.mk.injEq, and_true] at e1
  rw [e1.1]; exact e2
set_option maxRecDepth 100000 in
set_option maxHeartbeats 16000000 in
theorem refTo_any (m : List FunD) (v : Value) (w : World) (hv : VMod w v m) (hsm : SmallM m) : Calls Try.prog 18 #[v] w (ToldTo m w) := by
  have hv0 := hv
  obtain ⟨Am, cm, rfl, hm⟩ := hv
  have HSM := Lib.hid hsm
  have hn40 := hsm.1
  obtain ⟨n, hn⟩ : ∃ n, n = m.length := ⟨_, rfl⟩
  have HN := Lib.hid hn
  obtain ⟨i0, hi, hz0, hz1, hz2⟩ := info_parts Try.info33
  have HI := Lib.hid (And.intro hi (And.intro hz0 (And.intro hz1 hz2)))
  rw [← hn] at hv0 hn40 ⊢
  have HV := Lib.hid hv0
  have hmk := run_make_row' (P := Try.prog) 33 4 (.bool false) 1 Try.underlying33 Try.info4 rfl .i64 .i64 n (by omega) (by omega)
  clear hm hv0 hsm hn hi hz0 hz1 hz2
  go_enter Try.func18, Try.ntmps18
  go_upto_region 1 with fail
  obtain ⟨w1, hw1, hs1, hk1, hbel1, hc1, -⟩ := named w #[.slice Am n cm] 24
  rw [← hw1]
  have c0 : w1.cell? ⟨w.heap.size, 0, none⟩ = some (.slice Am n cm) := hc1 0 _ rfl
  have HB1 := Lib.hid hbel1
  obtain ⟨N, hN⟩ : ∃ N, N = w.heap.size := ⟨_, rfl⟩
  rw [← hN] at c0 ⊢
  have HC0 := Lib.hid c0
  clear hw1 hs1 hk1 hc1 hbel1 hN c0
  go_upto_region 3 with fail
  go_loopw [3, 4] (fun s3 s4 wq => ∃ (a : Nat) (vo : Value) (G : Nat → Nat), a ≤ n ∧ s4 = .int .i64 (a : Int) ∧ s3 = vo ∧ MtI wq w1.heap.size n a vo G (toM m) ∧ Below w1.heap.size w1 wq) (fun _ s4 _ => n - (intOf s4).toNat)
  case atStart => exact ⟨0, _, fun _ => 0, Nat.zero_le _, rfl, rfl, MtI.nil _ _ _ _ _, Below.refl _ _⟩
  case round =>
    obtain ⟨a, vo, G, ha, rfl, hvo, hM, hB⟩ := hrel
    obtain rfl := hvo.symm
    obtain ⟨wa, rfl⟩ : ∃ wa, wa = wr := ⟨_, rfl⟩
    have HMB := Lib.hid (And.intro hM hB)
    have c0 := kept_of_below hB _ _ HC0.out
    by_cases hal : a < n
    · obtain ⟨f, hf⟩ : ∃ f, m[a]? = some f := ⟨_, List.getElem?_eq_getElem (by rw [← HN.out]; exact hal)⟩
      have HF := Lib.hid hf
      have htm : ∀ j, toM m a j = callB f j := fun j => by unfold toM; rw [hf]
      have HTM := Lib.hid htm
      have ha0 : (0 : Int) ≤ a := by omega
      have ha1 : (a : Int) < n := by omega
      clear hM hB hf htm
      go_upto_region 7 with fail
      obtain ⟨R, hR⟩ : ∃ R, R = wa.heap.size := ⟨_, rfl⟩
      obtain ⟨wb, hwb⟩ : ∃ wb, wb = wa.alloc (.cells (madeCells #[.bool false] n) 4) := ⟨_, rfl⟩
      have hrw : wb.rowIs R 4 n (fun _ => .bool false) := by rw [hwb, hR]; exact World.rowIs_made _ _ _ _
      have hbb : Below wa.heap.size wa wb := by rw [hwb]; exact (Below.refl _ _).alloc (Nat.le_refl _) _
      rw [← hwb, ← hR]
      have HRW := Lib.hid (And.intro hrw hbb)
      have HR := Lib.hid hR
      clear hwb hrw hbb hR c0
      go_loopw [6] (fun s6 wq => ∃ b : Nat, b ≤ n ∧ s6 = .int .i64 (b : Int) ∧ wq.rowIs R 4 n (fun j => .bool (decide (j < b) && toM m a j)) ∧ Below wa.heap.size wa wq) (fun s6 _ => n - (intOf s6).toNat)
      case atStart => exact ⟨0, Nat.zero_le _, rfl, HRW.out.1.congr fun j _ => by simp, HRW.out.2⟩
      case round =>
        obtain ⟨b, hb, rfl, hr, hBb⟩ := hrel
        obtain ⟨wx, rfl⟩ : ∃ wx, wx = wr := ⟨_, rfl⟩
        have hBw : Below w1.heap.size w1 wx := HMB.out.2.trans (hBb.mono HMB.out.2.size)
        have HRX := Lib.hid (And.intro hr (And.intro hBb hBw))
        by_cases hbl : b < n
        · have c0 := kept_of_below hBw _ _ HC0.out
          have hb0 : (0 : Int) ≤ b := by omega
          have hb1 : (b : Int) < n := by omega
          clear hr hBb hBw
          go_wp2_with fail
          refine (refCalls_any m _ wx (VMod.keep (kept_of_below (HB1.out.trans (HRX.out.2.2.mono HB1.out.size))) HV.out) HSM.out HF.out (by omega)).mono ?_
          rintro e w5 ⟨rfl, hb5⟩
          have hr5 : w5.rowIs R 4 n (fun j => .bool (decide (j < b) && toM m a j)) := HRX.out.1.of_block (hb5.block R HRX.out.1.lt)
          have HR5 := Lib.hid hr5
          have HB5 : Hid (Below wa.heap.size wa w5) := Lib.hid (HRX.out.2.1.trans (hb5.mono HRX.out.2.1.size))
          have d1 := hr5.cell hbl
          have d2 := hr5.frozen b
          clear hr5 hb5
          go_wp2_with fail
          go_roundw
          case rel => exact ⟨b + 1, by omega, by go_num, (HR5.out.set b _).congr fun j _ => by
              by_cases e : j = b
              · subst e; simp [HTM.out]
              · rw [if_neg e]
                by_cases e2 : j < b
                · simp [e2, show j < b + 1 by omega]
                · simp [e2, show ¬ j < b + 1 by omega], HB5.out.setCell (by show wa.heap.size ≤ R; rw [HR.out]; exact Nat.le_refl _) _⟩
          case measure => simp [intOf]; omega
        · obtain rfl : n = b := by omega
          have HRD : Hid (wx.rowIs R 4 n (fun j => .bool (toM m a j))) := Lib.hid (hr.congr fun j hj => by simp [hj])
          have HM5 : Hid (MtI wx w1.heap.size n a vo G (toM m)) := Lib.hid (HMB.out.1.go fun k hk => hBb.block k hk)
          have HV1 : Hid (vo.ownBlock ≠ some R) := Lib.hid (fun e => by have := (HMB.out.1.row.lt R e).2; have := HR.out; omega)
          have HV2 : Hid (∀ i, i < a → G i ≠ R) := Lib.hid (fun i hi e => by have h1 := (HMB.out.1.vs i hi).2.1.lt; rw [e, HR.out] at h1; exact absurd h1 (Nat.lt_irrefl _))
          have HKR : Hid (w1.heap.size ≤ R) := Lib.hid (by rw [HR.out]; exact HMB.out.2.size)
          clear hr hBb hBw
          go_wp2_with (at_builtin; refine wpList_append_lies _ rfl (.tmp 34) (.tmp 36) 28 rfl w1.heap.size 33 i0 (.slice none 0 0) 1 24 Try.underlyingB28 HI.out.1 HI.out.2.1 HI.out.2.2.1 HI.out.2.2.2 rfl (by decide) _ _ _ rfl (HM5.out.row.alloc _) ⟨wx.heap.size, 0, none⟩ 1 1 [.slice (some ⟨R, 0, none⟩) n n] rfl rfl ?x1 ?x2 ?x0 ?x3 ?x4 ?x5 (wx.heap.size + 1) ?x6 ?_)
          case x1 => exact news_one_add wx _ _ rfl
          case x2 => (intro u hu; rw [List.mem_singleton.1 hu]; rfl)
          case x0 => omega
          case x3 => unfold maxLen; omega
          case x4 => omega
          case x5 => have := HRX.out.2.2.size; simp; omega
          case x6 => simp
          intro g7 cap7 w7 hown7 hgrow7 hloc7 hlt7
          have hgd : GroD wx w7 vo (.slice (some ⟨g7, 0, none⟩) (a + 1) cap7) := groD_append hgrow7 hloc7
          have HM7 := Lib.hid (HM5.out.push HKR.out HRD.out HV1.out HV2.out hgd hown7)
          have HB7 : Hid (Below w1.heap.size w1 w7) := Lib.hid ((HRX.out.2.2.alloc HRX.out.2.2.size _).grown hgrow7 (by have := HRX.out.2.2.size; simp; omega) (fun g' hg' => (HM5.out.row.lt g' hg').1))
          clear hown7 hgrow7 hloc7 hlt7 hgd
          go_wp2_with fail
          go_roundw
          case rel => exact ⟨a + 1, _, _, by omega, by go_num, rfl, HM7.out, HB7.out⟩
          case measure => simp [intOf]; omega
    · obtain rfl : n = a := by omega
      obtain ⟨A, cA, hvA⟩ := own_sliceL hM.row
      subst hvA
      have HT0 : Hid (ToI n (cF m) 0 0 0 (toM m)) := Lib.hid (ToI.start fun x y hx hy => toM_iff (by rw [← HN.out]; exact hy))
      clear hM hB
      go_upto_region 12 with fail
      clear c0
      go_loopw [7] (fun s7 wq => ∃ (k : Nat) (M : Nat → Nat → Bool), k ≤ n ∧ s7 = .int .i64 (k : Int) ∧ MtI wq w1.heap.size n n (.slice A n cA) G M ∧ ToI n (cF m) k 0 0 M ∧ Below w1.heap.size w1 wq) (fun s7 _ => n - (intOf s7).toNat)
      case atStart => exact ⟨0, _, Nat.zero_le _, rfl, HMB.out.1, HT0.out, HMB.out.2⟩
      case round =>
        obtain ⟨k, M, hk, rfl, hM, hI, hB⟩ := hrel
        obtain ⟨wk, rfl⟩ : ∃ wk, wk = wr := ⟨_, rfl⟩
        have HR1 := Lib.hid (And.intro hM (And.intro hI hB))
        by_cases hkl : k < n
        · obtain ⟨g, c', e1, -⟩ := hM.row_ (a := k) hkl
          simp only [Value.slice.injEq] at e1
          obtain ⟨rfl, -, rfl⟩ := e1
          have hk0 : (0 : Int) ≤ k := by omega
          have hk1 : (k : Int) < n := by omega
          clear hM hI hB
          go_upto_region 15 with fail
          go_loopw [8] (fun s8 wq => ∃ (a : Nat) (M : Nat → Nat → Bool), a ≤ n ∧ s8 = .int .i64 (a : Int) ∧ MtI wq w1.heap.size n n (.slice (some ⟨g, 0, none⟩) n cA) G M ∧ ToI n (cF m) k a 0 M ∧ Below w1.heap.size w1 wq) (fun s8 _ => n - (intOf s8).toNat)
          case atStart => exact ⟨0, M, Nat.zero_le _, rfl, HR1.out.1, HR1.out.2.1, HR1.out.2.2⟩
          case round =>
            obtain ⟨a, M2, ha, rfl, hM, hI, hB⟩ := hrel
            obtain ⟨wb, rfl⟩ : ∃ wb, wb = wr := ⟨_, rfl⟩
            have HR2 := Lib.hid (And.intro hM (And.intro hI hB))
            by_cases hal : a < n
            · have ha0 : (0 : Int) ≤ a := by omega
              have ha1 : (a : Int) < n := by omega
              have HAL := Lib.hid hal
              clear hM hI hB
              go_upto_region 18 with fail
              go_loopw [9] (fun s9 wq => ∃ (b : Nat) (M : Nat → Nat → Bool), b ≤ n ∧ s9 = .int .i64 (b : Int) ∧ MtI wq w1.heap.size n n (.slice (some ⟨g, 0, none⟩) n cA) G M ∧ ToI n (cF m) k a b M ∧ Below w1.heap.size w1 wq) (fun s9 _ => n - (intOf s9).toNat)
              case atStart => exact ⟨0, M2, Nat.zero_le _, rfl, HR2.out.1, HR2.out.2.1, HR2.out.2.2⟩
              case round =>
                obtain ⟨b, M3, hb, rfl, hM, hI, hB⟩ := hrel
                obtain ⟨wc, rfl⟩ : ∃ wc, wc = wr := ⟨_, rfl⟩
                have HR3 := Lib.hid (And.intro hM (And.intro hI hB))
                by_cases hbl : b < n
                · have dA := hM.cell_ hal
                  have dK := hM.cell_ hkl
                  have dab := (hM.vs a hal).2.1.cell hbl
                  have dak := (hM.vs a hal).2.1.cell hkl
                  have dkb := (hM.vs k hkl).2.1.cell hbl
                  have dfz := (hM.vs a hal).2.1.frozen b
                  have hNX := hI.next hkl hal hbl
                  obtain ⟨wd, hwd⟩ : ∃ wd, wd = wc.drew := ⟨_, rfl⟩
                  change World.cell? wc.drew _ = _ at dA
                  change World.cell? wc.drew _ = _ at dK
                  change World.cell? wc.drew _ = _ at dab
                  change World.cell? wc.drew _ = _ at dak
                  change World.cell? wc.drew _ = _ at dkb
                  change World.frozen? wc.drew _ = _ at dfz
                  rw [← hwd] at dA dK dab dak dkb dfz
                  have HWD := Lib.hid hwd
                  obtain ⟨ga, hga⟩ : ∃ ga, ga = G a := ⟨_, rfl⟩
                  obtain ⟨gk, hgk⟩ : ∃ gk, gk = G k := ⟨_, rfl⟩
                  rw [← hga] at dA dab dak dfz
                  rw [← hgk] at dK dkb
                  have HGA := Lib.hid hga
                  have hb0 : (0 : Int) ≤ b := by omega
                  have hb1 : (b : Int) < n := by omega
                  clear hga hgk hwd
                  cases hAB : M3 a b
                  · cases hAK : M3 a k
                    · rw [hAB] at dab hNX
                      rw [hAK] at dak hNX
                      have HNX : Hid (ToI n (cF m) k a (b + 1) (setT M3 a b false)) := Lib.hid (by simpa using hNX)
                      clear hM hI hB hNX hAB hAK
                      go_upto_region 20 with fail
                      refine wp_region_still_tail 31 (by kernel_rfl) (by kernel_rfl) ?_
                      simp only [List.take_succ_cons, List.take_zero, List.drop_succ_cons, List.drop_zero]
                      refine still_of_quiet _ _ ?_
                      change wpQuiet _ _ (fun w' => w' = wc.drew) (fun a' => wpList _ _ _ _ a' wc.drew) _ _
                      rw [← HWD.out]
                      repeat (go_big_quiet_step (fail))
                      refine wpQuiet_nil ?_
                      go_wp2_with fail
                      go_roundw
                      case rel => exact ⟨b + 1, setT M3 a b false, by omega, by go_num, by rw [HGA.out, HWD.out]; exact (HR3.out.1.go (W' := wc.drew) fun _ _ => rfl).set HAL.out false, HNX.out, (by rw [HWD.out]; exact HR3.out.2.2.drew : Below w1.heap.size w1 wd).setCell (by show w1.heap.size ≤ ga; rw [HGA.out]; exact (HR3.out.1.vs a HAL.out).1) _⟩
                      case measure => simp [intOf]; omega
                    · cases hKB : M3 k b
                      · rw [hAB] at dab hNX
                        rw [hAK] at dak hNX
                        rw [hKB] at dkb hNX
                        have HNX : Hid (ToI n (cF m) k a (b + 1) (setT M3 a b false)) := Lib.hid (by simpa using hNX)
                        clear hM hI hB hNX hAB hAK hKB
                        go_upto_region 20 with fail
                        refine wp_region_still_tail 31 (by kernel_rfl) (by kernel_rfl) ?_
                        simp only [List.take_succ_cons, List.take_zero, List.drop_succ_cons, List.drop_zero]
                        refine still_of_quiet _ _ ?_
                        change wpQuiet _ _ (fun w' => w' = wc.drew) (fun a' => wpList _ _ _ _ a' wc.drew) _ _
                        rw [← HWD.out]
                        repeat (go_big_quiet_step (fail))
                        refine wpQuiet_nil ?_
                        go_wp2_with fail
                        go_roundw
                        case rel => exact ⟨b + 1, setT M3 a b false, by omega, by go_num, by rw [HGA.out, HWD.out]; exact (HR3.out.1.go (W' := wc.drew) fun _ _ => rfl).set HAL.out false, HNX.out, (by rw [HWD.out]; exact HR3.out.2.2.drew : Below w1.heap.size w1 wd).setCell (by show w1.heap.size ≤ ga; rw [HGA.out]; exact (HR3.out.1.vs a HAL.out).1) _⟩
                        case measure => simp [intOf]; omega
                      · rw [hAB] at dab hNX
                        rw [hAK] at dak hNX
                        rw [hKB] at dkb hNX
                        have HNX : Hid (ToI n (cF m) k a (b + 1) (setT M3 a b true)) := Lib.hid (by simpa using hNX)
                        clear hM hI hB hNX hAB hAK hKB
                        go_upto_region 20 with fail
                        refine wp_region_still_tail 31 (by kernel_rfl) (by kernel_rfl) ?_
                        simp only [List.take_succ_cons, List.take_zero, List.drop_succ_cons, List.drop_zero]
                        refine still_of_quiet _ _ ?_
                        change wpQuiet _ _ (fun w' => w' = wc.drew) (fun a' => wpList _ _ _ _ a' wc.drew) _ _
                        rw [← HWD.out]
                        repeat (go_big_quiet_step (fail))
                        refine wpQuiet_nil ?_
                        go_wp2_with fail
                        go_roundw
                        case rel => exact ⟨b + 1, setT M3 a b true, by omega, by go_num, by rw [HGA.out, HWD.out]; exact (HR3.out.1.go (W' := wc.drew) fun _ _ => rfl).set HAL.out true, HNX.out, (by rw [HWD.out]; exact HR3.out.2.2.drew : Below w1.heap.size w1 wd).setCell (by show w1.heap.size ≤ ga; rw [HGA.out]; exact (HR3.out.1.vs a HAL.out).1) _⟩
                        case measure => simp [intOf]; omega
                  · rw [hAB] at dab hNX
                    have HNX : Hid (ToI n (cF m) k a (b + 1) (setT M3 a b true)) := Lib.hid (by simpa using hNX)
                    clear hM hI hB hNX hAB
                    go_upto_region 20 with fail
                    refine wp_region_still_tail 31 (by kernel_rfl) (by kernel_rfl) ?_
                    simp only [List.take_succ_cons, List.take_zero, List.drop_succ_cons, List.drop_zero]
                    refine still_of_quiet _ _ ?_
                    change wpQuiet _ _ (fun w' => w' = wc.drew) (fun a' => wpList _ _ _ _ a' wc.drew) _ _
                    rw [← HWD.out]
                    repeat (go_big_quiet_step (fail))
                    refine wpQuiet_nil ?_
                    go_wp2_with fail
                    go_roundw
                    case rel => exact ⟨b + 1, setT M3 a b true, by omega, by go_num, by rw [HGA.out, HWD.out]; exact (HR3.out.1.go (W' := wc.drew) fun _ _ => rfl).set HAL.out true, HNX.out, (by rw [HWD.out]; exact HR3.out.2.2.drew : Below w1.heap.size w1 wd).setCell (by show w1.heap.size ≤ ga; rw [HGA.out]; exact (HR3.out.1.vs a HAL.out).1) _⟩
                    case measure => simp [intOf]; omega
                · obtain rfl : n = b := by omega
                  have HNX := Lib.hid hI.row
                  clear hM hI hB
                  go_wp2_with fail
                  go_roundw
                  case rel => exact ⟨a + 1, M3, by omega, by go_num, HR3.out.1, HNX.out, HR3.out.2.2⟩
                  case measure => simp [intOf]; omega
            · obtain rfl : n = a := by omega
              have HNX := Lib.hid hI.round
              clear hM hI hB
              go_wp2_with fail
              go_roundw
              case rel => exact ⟨k + 1, M2, by omega, by go_num, HR2.out.1, HNX.out, HR2.out.2.2⟩
              case measure => simp [intOf]; omega
        · obtain rfl : n = k := by omega
          have HD : Hid (ToOk m.length (cF m) M) := Lib.hid (by rw [← HN.out]; exact ToI.done (fun f g h => by rw [HN.out]; exact cF_lt f g h) hI)
          clear hM hI hB
          go_wp2_with fail
          go_ret
          exact ⟨_, M, rfl, HD.out, by rw [← HN.out]; exact HR1.out.1.mtr, HB1.out.trans (HR1.out.2.2.mono HB1.out.size)⟩
end Go.Proofs.Ytdfiflbkamhchaa

/- Waves, as they are told: all functions, one behind the other; and as lists of lists of lists in memory. -/
namespace Go.Proofs.Ytdfiflbkamhchaa
open Go.ChangeShapes Go.WideShapes Go.RowKit Go.Deep
set_option linter.unusedVariables false

/-- What is told of waves, without memory. -/
structure WvF (n : Nat) (c : Nat → List Nat) (rs : List (List Nat)) (wv : Nat → Nat) (lx : List (List Nat)) : Prop where
  ra : RgA n c rs
  wo : ∃ ws, WvO c rs wv ws ∧ ws.length = lx.length
  lt : ∀ l ∈ lx, ∀ j ∈ l, j < rs.length
  nd : ∀ l ∈ lx, l.Nodup
  at_ : ∀ (W : Nat) (l : List Nat), lx[W]? = some l → ∀ j, j < rs.length → (j ∈ l ↔ wv (kyR (rs.getD j [])) = W + 1)
theorem WvF.of {n : Nat} {c : Nat → List Nat} {rs : List (List Nat)} {wv : Nat → Nat} {ix lx : List (List Nat)} (hR : RgA n c rs) (hO : WvO c rs wv (ofIx rs ix)) (hX : IxOk ix rs.length) (hl : lx.length = ix.length)
    (hx : ∀ (W : Nat) (l k : List Nat), ix[W]? = some l → lx[W]? = some k → k.Perm l ∧ ByKey (l.map fun i => rs.getD i []) (k.map fun i => rs.getD i [])) : WvF n c rs wv lx := by
  have hp : ∀ (W : Nat) (k : List Nat), lx[W]? = some k → ∃ l, ix[W]? = some l ∧ k.Perm l := fun W k hk => by
    have h1 := (List.getElem?_eq_some_iff.1 hk).1
    have h2 : ix[W]? = some ix[W] := List.getElem?_eq_getElem (by omega)
    exact ⟨_, h2, (hx W _ k h2 hk).1⟩
  have hp2 : ∀ k ∈ lx, ∃ l ∈ ix, k.Perm l := fun k hk => by
    obtain ⟨W, hW, e⟩ := List.mem_iff_getElem.1 hk
    obtain ⟨l, h1, h2⟩ := hp W k (by rw [List.getElem?_eq_getElem hW, e])
    exact ⟨l, List.mem_of_getElem? h1, h2⟩
  refine ⟨hR, ⟨_, hO, by rw [ofIx_len, hl]⟩, fun k hk j hj => ?_, fun k hk => ?_, fun W k hk j hj => ?_⟩
  · obtain ⟨l, h1, h2⟩ := hp2 k hk
    exact hX.lt l h1 j (h2.mem_iff.1 hj)
  · obtain ⟨l, h1, h2⟩ := hp2 k hk
    exact h2.nodup_iff.2 (hX.nd l h1)
  · obtain ⟨l, h1, h2⟩ := hp W k hk
    rw [h2.mem_iff]
    have hW := (List.getElem?_eq_some_iff.1 h1).1
    have h3 := hO.ws_ W (by rw [ofIx_len]; exact hW)
    unfold ofIx at h3
    rw [List.getElem?_map, h1] at h3
    have h4 : (l.map fun i => rs.getD i []) = rs.filter fun r => wv (kyR r) == W + 1 := Option.some.inj h3
    have hr : rs[j]? = some (rs.getD j []) := getD_at [] hj
    constructor
    · intro h
      have h5 : rs.getD j [] ∈ l.map fun i => rs.getD i [] := List.mem_map.2 ⟨j, h, rfl⟩
      rw [h4] at h5
      exact beq_iff_eq.1 (List.mem_filter.1 h5).2
    · intro h
      have h5 : rs.getD j [] ∈ rs.filter fun r => wv (kyR r) == W + 1 := List.mem_filter.2 ⟨List.mem_of_getElem? hr, by rw [h]; simp⟩
      rw [← h4] at h5
      obtain ⟨i, h6, h7⟩ := List.mem_map.1 h5
      have hil := hX.lt l (List.mem_of_getElem? h1) i h6
      have hri : rs[i]? = some (rs.getD i []) := getD_at [] hil
      have hk := kyR_mem (hR.o.ne _ (List.mem_of_getElem? hr))
      have h7' : rs.getD i [] = rs.getD j [] := h7
      have := hR.o.dj i j _ _ _ hri hr (by rw [h7']; exact hk) hk
      rw [← this]; exact h6
section
variable {n : Nat} {c : Nat → List Nat} {rs : List (List Nat)} {wv : Nat → Nat} {lx : List (List Nat)}
def elW (rs : List (List Nat)) (l : List Nat) : List Nat := l.flatMap fun j => rs.getD j []
theorem WvF.ring (h : WvF n c rs wv lx) {j : Nat} (hj : j < rs.length) : rs.getD j [] ∈ rs := List.mem_of_getElem? (getD_at [] hj)
theorem WvF.wave (h : WvF n c rs wv lx) {W : Nat} {l : List Nat} (hl : lx[W]? = some l) {f : Nat} (hf : f ∈ elW rs l) : wv f = W + 1 := by
  obtain ⟨j, h1, h2⟩ := List.mem_flatMap.1 hf
  have hj := h.lt l (List.mem_of_getElem? hl) j h1
  have h3 := (h.at_ W l hl j hj).1 h1
  obtain ⟨ws, hw, -⟩ := h.wo
  have hr := h.ring hj
  rw [hw.eq _ hr f h2 _ (kyR_mem (h.ra.o.ne _ hr))]; exact h3
theorem WvF.nodup (h : WvF n c rs wv lx) : (lx.flatMap (elW rs)).Nodup := by
  unfold List.Nodup
  rw [List.pairwise_flatMap]
  refine ⟨fun l hl => ?_, ?_⟩
  · unfold elW
    rw [List.pairwise_flatMap]
    refine ⟨fun j hj => (h.ra.o.st _ (h.ring (h.lt l hl j hj))).imp (fun {a b} q e => by omega), ?_⟩
    refine (h.nd l hl).imp_of_mem fun {a b} ha hb hab x hx y hy e => ?_
    subst e
    exact hab (h.ra.o.dj a b _ _ x (getD_at [] (h.lt l hl a ha)) (getD_at [] (h.lt l hl b hb)) hx hy)
  · rw [List.pairwise_iff_getElem]
    intro i j hi hj hij x hx y hy e
    have h1 := h.wave (List.getElem?_eq_getElem hi) hx
    have h2 := h.wave (List.getElem?_eq_getElem hj) hy
    rw [e] at h1
    omega
theorem WvF.mem (h : WvF n c rs wv lx) (f : Nat) : f ∈ lx.flatMap (elW rs) ↔ f < n := by
  rw [List.mem_flatMap]
  constructor
  · rintro ⟨l, h1, h2⟩
    obtain ⟨j, h3, h4⟩ := List.mem_flatMap.1 h2
    exact h.ra.lt (h.ring (h.lt l h1 j h3)) h4
  · intro hf
    obtain ⟨r, h1, h2⟩ := (h.ra.all f).1 hf
    obtain ⟨j, hj, e⟩ := List.mem_iff_getElem.1 h1
    obtain ⟨ws, hw, hwl⟩ := h.wo
    obtain ⟨p1, p2⟩ := hw.pos r h1 f h2
    have hW : wv f - 1 < lx.length := by omega
    have hr : rs.getD j [] = r := by rw [List.getD_eq_getElem?_getD, List.getElem?_eq_getElem hj, e]; rfl
    have hk := hw.eq r h1 f h2 _ (kyR_mem (h.ra.o.ne r h1))
    refine ⟨lx[wv f - 1], List.getElem_mem hW, List.mem_flatMap.2 ⟨j, ?_, by rw [hr]; exact h2⟩⟩
    refine (h.at_ _ _ (List.getElem?_eq_getElem hW) j hj).2 ?_
    rw [hr, ← hk]; omega
theorem WvF.len (h : WvF n c rs wv lx) : (lx.flatMap (elW rs)).length = n := by
  have h1 : (lx.flatMap (elW rs)).Perm (List.range n) := (List.perm_ext_iff_of_nodup h.nodup List.nodup_range).2 fun f => by rw [h.mem, List.mem_range]
  rw [h1.length_eq, List.length_range]
/-- The first function of the ring that one is in. -/
def kyF (rs : List (List Nat)) (f : Nat) : Nat := kyR ((rs.find? fun r => decide (f ∈ r)).getD [])
theorem WvF.ky (h : WvF n c rs wv lx) {r : List Nat} (hr : r ∈ rs) {f : Nat} (hf : f ∈ r) : kyF rs f = kyR r := by
  unfold kyF
  cases hq : rs.find? fun r => decide (f ∈ r) with
  | none =>
    have := List.find?_eq_none.1 hq r hr
    simp at this
    exact absurd hf this
  | some q =>
    have h1 := List.mem_of_find?_eq_some hq
    have h2 : f ∈ q := by have := List.find?_some hq; simpa using this
    rw [h.ra.o.one hr h1 hf h2]; rfl
/-- What is told of two functions of which the one calls the other. -/
theorem WvF.call (h : WvF n c rs wv lx) {a b : Nat} (ha : a < n) (hb : b ∈ c a) (hbn : b < n) : wv b ≤ wv a ∧ (wv b = wv a → kyF rs b = kyF rs a) := by
  obtain ⟨r, h1, h2⟩ := (h.ra.all a).1 ha
  obtain ⟨ws, hw, -⟩ := h.wo
  by_cases k : b ∈ r
  · exact ⟨Nat.le_of_eq (hw.eq r h1 b k a h2), fun _ => by rw [h.ky h1 k, h.ky h1 h2]⟩
  · have := hw.lt r h1 a h2 b hb k
    exact ⟨by omega, fun e => by omega⟩
end

/-! ### In memory -/
def R2 (w : World) (b o : Nat) (x : List (List Int)) : Prop := CS w b o 1 RRow x
theorem R2.keep {w w' : World} (h : Kept w w') (b o : Nat) (x : List (List Int)) (hv : R2 w b o x) : R2 w' b o x := CS.keep h (fun b o x => RRow.keep h b o x) hv
def wzL (rs : List (List Nat)) (l : List Nat) : List (List Int) := l.map fun j => natI (rs.getD j [])
def wz (rs : List (List Nat)) (lx : List (List Nat)) : List (List (List Int)) := lx.map (wzL rs)
/-- A row of the call's own, whose values each read as what stands in a list. -/
theorem vs_rows {α : Type} {w : World} {K : Nat} {e : TypeId} {v : Value} {vs : List Value} {xs : List α} {R : World → Nat → Nat → α → Prop} (h : w.ownsRow K e 1 v vs.length vs) (hl : vs.length = xs.length)
    (hR : ∀ (i : Nat) (u : Value) (x : α) (b o : Nat), vs[i]? = some u → xs[i]? = some x → w.cell? ⟨b, o, none⟩ = some u → R w b o x) : VS w 1 R v xs := by
  rcases h.2 with ⟨rfl, h0⟩ | ⟨g, cap, cur, rfl, hb, hh, hn, hc, hsz, ht⟩
  · refine ⟨none, 0, by rw [← hl, h0], by omega, ⟨by omega, fun _ => rfl⟩, fun hp => by omega⟩
  · refine ⟨some ⟨g, 0, none⟩, cap, by rw [hl], by omega, ⟨hc, fun e => by cases e⟩, fun _ => ⟨g, 0, rfl, fun i x hi => ?_⟩⟩
    have hil : i < vs.length := by rw [hl]; exact (List.getElem?_eq_some_iff.1 hi).1
    have hv := List.getElem?_eq_getElem hil
    refine hR i vs[i] x g (0 + i * 1) hv hi ?_
    rw [Nat.zero_add, Nat.mul_one, h.cellAt i (by omega)]; exact hv
theorem told_waves {w : World} {K K2 n : Nat} {U Vr : Nat → Value} {rs lx : List (List Nat)} (hP : PoolD w K2 (1 + lx.length) U (wvT Vr lx U)) (hr : ∀ (i : Nat) (r : List Nat), rs[i]? = some r → w.ownsRow K 3 1 (Vr i) r.length (natV r))
    (hlt : ∀ l ∈ lx, ∀ j ∈ l, j < rs.length) (hn : ∀ r ∈ rs, ∀ f ∈ r, f < n) (hn2 : n ≤ 1000) : VS w 1 R2 (U 0) (wz rs lx) := by
  have h0 : w.ownsRow K2 54 1 (U 0) ((List.range lx.length).map fun j => U (1 + j)).length ((List.range lx.length).map fun j => U (1 + j)) := by
    have h1 := hP.own 0 (by omega)
    rw [List.length_map, List.length_range]
    exact h1
  refine vs_rows h0 (by unfold wz; simp) fun i u x b o hu hx hc => ?_
  unfold wz at hx
  rw [List.getElem?_map] at hx
  obtain ⟨l, hl, rfl⟩ := Option.map_eq_some_iff.1 hx
  have hil := (List.getElem?_eq_some_iff.1 hl).1
  rw [List.getElem?_map, List.getElem?_range hil] at hu
  obtain rfl := Option.some.inj hu
  have h1 : w.ownsRow K2 34 1 (U (1 + i)) (l.map Vr).length (l.map Vr) := by
    have h2 := hP.own (1 + i) (by omega)
    have e : wvT Vr lx U (1 + i) = ⟨34, 1, l.length, l.map Vr⟩ := by
      unfold wvT
      rw [if_neg (by omega), show 1 + i - 1 = i by omega, List.getD_eq_getElem?_getD, hl]; rfl
    rw [e] at h2
    rw [List.length_map]
    exact h2
  obtain ⟨A, c, e, hs⟩ := vs_rows (R := RRow) (xs := wzL rs l) h1 (by unfold wzL; simp) fun i u x b o hu hx hc => by
    unfold wzL at hx
    rw [List.getElem?_map] at hx hu
    obtain ⟨j, hj, rfl⟩ := Option.map_eq_some_iff.1 hx
    rw [hj] at hu
    obtain rfl := Option.some.inj hu
    have hjl := hlt l (List.mem_of_getElem? hl) j (List.mem_of_getElem? hj)
    have h3 := hr j _ (getD_at [] hjl)
    rw [← natI_v, ← natI_len] at h3
    obtain ⟨A, c, e, hs⟩ := vs_of_own h3 (fun x hx => by
      unfold natI at hx
      obtain ⟨y, hy, rfl⟩ := List.mem_map.1 hx
      have := hn _ (List.mem_of_getElem? (getD_at [] hjl)) y hy
      unfold I64; omega)
    exact ⟨A, c, by rw [← e]; exact hc, hs⟩
  exact ⟨A, c, by rw [← e]; exact hc, hs⟩
end Go.Proofs.Ytdfiflbkamhchaa

/- How many waves and rings there are: the same, however they were found. -/
namespace Go.Proofs.Ytdfiflbkamhchaa
set_option linter.unusedVariables false

theorem TcC.ne {c : Nat → List Nat} {a b : Nat} (h : TcC c a b) (hn : ¬ TcC c b a) : ¬ CR c b a := fun k => by
  cases k with
  | refl => exact hn h
  | step q r => exact hn ⟨_, q, r⟩
theorem WvV.le_of {n : Nat} {c : Nat → List Nat} {V V' : Nat → Nat} (h : WvV n c V) (h' : WvV n c V') : ∀ (k a : Nat), a < n → V a = k → V a ≤ V' a := by
  intro k
  induction k with
  | zero => intro a _ e; omega
  | succ k ih =>
    intro a ha e
    rcases h.ex a ha with h0 | ⟨b, h1, h2, h3, h4⟩
    · omega
    · have h5 := ih b h1 (by omega)
      rcases (h'.le a b ha h2.cr).2 with h6 | h6
      · omega
      · exact absurd h6 (h2.ne h3)
theorem WvO.len_le {n : Nat} {c : Nat → List Nat} {rs rs' : List (List Nat)} {v v' : Nat → Nat} {ws ws' : List (List (List Nat))} (hc : ∀ f g, g ∈ c f → g < n) (H : WvO c rs v ws) (R : RgA n c rs) (H' : WvO c rs' v' ws') (R' : RgA n c rs') : ws.length ≤ ws'.length := by
  rcases Nat.eq_zero_or_pos ws.length with h0 | h0
  · omega
  · obtain ⟨r, h1, h2⟩ := H.wn (ws.length - 1) (by omega)
    have hk := R.lt h1 (kyR_mem (R.o.ne r h1))
    have h3 := (H.v R hc).le_of (H'.v R' hc) _ (kyR r) hk rfl
    obtain ⟨r', h4, h5⟩ := (R'.all _).1 hk
    have h6 := H'.pos r' h4 _ h5
    have h3' : v (kyR r) - 1 ≤ v' (kyR r) - 1 := h3
    omega
theorem WvF.len_eq {n : Nat} {c : Nat → List Nat} {rs rs' : List (List Nat)} {wv wv' : Nat → Nat} {lx lx' : List (List Nat)} (hc : ∀ f g, g ∈ c f → g < n) (h : WvF n c rs wv lx) (h' : WvF n c rs' wv' lx') : lx.length = lx'.length := by
  obtain ⟨ws, h1, h2⟩ := h.wo
  obtain ⟨ws', h3, h4⟩ := h'.wo
  have := h1.len_le hc h.ra h3 h'.ra
  have := h3.len_le hc h'.ra h1 h.ra
  omega
open Classical in
noncomputable def mtC (c : Nat → List Nat) : Nat → Nat → Bool := fun a b => decide (CR c a b ∧ CR c b a)
theorem mtC_ok (n : Nat) (c : Nat → List Nat) : MtOk n c (mtC c) := fun a b _ _ => by unfold mtC; simp
theorem ByKey.len_eq {n : Nat} {c : Nat → List Nat} {rs rs' l l' : List (List Nat)} (R : RgA n c rs) (R' : RgA n c rs') (B : ByKey rs l) (B' : ByKey rs' l') : l.length = l'.length := by
  rw [B.docR R (mtC_ok n c), B'.docR R' (mtC_ok n c)]
/-- No wave is empty, and no ring. -/
theorem WvF.full {n : Nat} {c : Nat → List Nat} {rs : List (List Nat)} {wv : Nat → Nat} {lx : List (List Nat)} (h : WvF n c rs wv lx) {W : Nat} {l : List Nat} (hl : lx[W]? = some l) : ∃ j t, l = j :: t ∧ rs.getD j [] ≠ [] := by
  obtain ⟨ws, h1, h2⟩ := h.wo
  have hW := (List.getElem?_eq_some_iff.1 hl).1
  obtain ⟨r, h3, h4⟩ := h1.wn W (by omega)
  obtain ⟨j, hj, e⟩ := List.mem_iff_getElem.1 h3
  have hr : rs.getD j [] = r := by rw [List.getD_eq_getElem?_getD, List.getElem?_eq_getElem hj, e]; rfl
  have hm : j ∈ l := (h.at_ W l hl j hj).2 (by rw [hr]; exact h4)
  cases l with
  | nil => cases hm
  | cons a t => exact ⟨a, t, rfl, h.ra.o.ne _ (h.ring (h.lt _ (List.mem_of_getElem? hl) a (by simp)))⟩
section
open Go.ChangeShapes Go.WideShapes Go.RowKit Go.Deep
/-- Waves told, and readable. -/
def ToldWR (m : List FunD) (w : World) (e : Ending) (w' : World) : Prop :=
  ∃ (v : Value) (rs lx : List (List Nat)) (wv : Nat → Nat), e = .returned v ∧ WvF m.length (cF m) rs wv lx ∧ VS w' 1 R2 v (wz rs lx) ∧ Below w.heap.size w w'
theorem waves_told (m : List FunD) (v : Value) (w : World) (hv : VMod w v m) (hsm : SmallM m) : Calls Try.prog 17 #[v] w (ToldWR m w) := by
  refine (waves_any m v w hv hsm).mono ?_
  rintro e w' ⟨K2, U, Vr, rs, wv, ix, lx, rfl, hK2, hK3, hRA, hO, hX, hll, hlx, hP, hrg, hb5⟩
  have hF := WvF.of hRA hO hX hll hlx
  exact ⟨U 0, rs, lx, wv, rfl, hF, told_waves (n := m.length) hP (fun i r hi => (hrg i r hi).1) hF.lt (fun r hr f hf => hRA.lt hr hf) (by have := hsm.1; omega), hb5⟩
end
end Go.Proofs.Ytdfiflbkamhchaa

/- What CallsTells compares: rows of rings, read; waves in their order; the most. -/
namespace Go.Proofs.Ytdfiflbkamhchaa
open Go.ChangeShapes Go.WideShapes Go.RowKit Go.Deep
set_option linter.unusedVariables false

theorem RowsM.vs {w : World} {K : Nat} {v : Value} {V : Nat → Value} {l : List (List Nat)} (h : RowsM w K v V l) (hn : ∀ r ∈ l, r.length ≤ 1000 ∧ ∀ f ∈ r, f < 1000) : VS w 1 RRow v (l.map natI) := by
  have h0 : w.ownsRow K 34 1 v ((List.range l.length).map V).length ((List.range l.length).map V) := by
    have h1 := h.row
    rw [List.length_map, List.length_range]
    exact h1
  refine vs_rows h0 (by simp) fun i u x b o hu hx hc => ?_
  rw [List.getElem?_map] at hx
  obtain ⟨r, hr, rfl⟩ := Option.map_eq_some_iff.1 hx
  have hil := (List.getElem?_eq_some_iff.1 hr).1
  rw [List.getElem?_map, List.getElem?_range hil] at hu
  obtain rfl := Option.some.inj hu
  have h3 := h.own i r hr
  have hb := hn r (List.mem_of_getElem? hr)
  rw [← natI_v, ← natI_len] at h3
  obtain ⟨A, c, e, hs⟩ := vs_of_own h3 (fun x hx => by
    unfold natI at hx
    obtain ⟨y, hy, rfl⟩ := List.mem_map.1 hx
    have := hb.2 y hy
    unfold I64; omega)
  exact ⟨A, c, by rw [← e]; exact hc, hs⟩

/-- Waves told, in their order. -/
def ToldWO (m : List FunD) (w : World) (e : Ending) (w' : World) : Prop :=
  ∃ (v : Value) (rs lx : List (List Nat)) (wv : Nat → Nat), e = .returned v ∧ WvF m.length (cF m) rs wv lx ∧ VS w' 1 R2 v (wz rs lx) ∧ Below w.heap.size w w' ∧
    (∀ M, MtOk m.length (cF m) M → ∀ (W : Nat) (l : List Nat), lx[W]? = some l → (l.map fun j => rs.getD j []) = (docR m.length M).filter fun r => wv (kyR r) == W + 1)
theorem waves_order (m : List FunD) (v : Value) (w : World) (hv : VMod w v m) (hsm : SmallM m) : Calls Try.prog 17 #[v] w (ToldWO m w) := by
  refine (waves_any m v w hv hsm).mono ?_
  rintro e w' ⟨K2, U, Vr, rs, wv, ix, lx, rfl, hK2, hK3, hRA, hO, hX, hll, hlx, hP, hrg, hb5⟩
  have hF := WvF.of hRA hO hX hll hlx
  refine ⟨U 0, rs, lx, wv, rfl, hF, told_waves (n := m.length) hP (fun i r hi => (hrg i r hi).1) hF.lt (fun r hr f hf => hRA.lt hr hf) (by have := hsm.1; omega), hb5, fun M hM W l hl => ?_⟩
  have hW := (List.getElem?_eq_some_iff.1 hl).1
  have hi : ix[W]? = some ix[W] := List.getElem?_eq_getElem (by omega)
  obtain ⟨-, hk⟩ := hlx W _ l hi hl
  have h3 := hO.ws_ W (by rw [ofIx_len]; omega)
  unfold ofIx at h3
  rw [List.getElem?_map, hi] at h3
  rw [show (ix[W].map fun i => rs.getD i []) = rs.filter fun r => wv (kyR r) == W + 1 from Option.some.inj h3] at hk
  exact hk.filter hRA hM

/-- The highest so far. -/
def mostK (wv : Nat → Nat) (D : List (List Nat)) (i : Nat) : Nat := maxL (fun x => x) ((D.take i).map fun r => wv (kyR r)) 0
theorem mostK_succ {wv : Nat → Nat} {D : List (List Nat)} {i : Nat} {r : List Nat} (h : D[i]? = some r) : mostK wv D (i + 1) = max (mostK wv D i) (wv (kyR r)) := by
  unfold mostK
  rw [take_succ_of h, List.map_append, List.map_cons, List.map_nil, maxL_snoc]
theorem mostK_all {n : Nat} {c : Nat → List Nat} {rs : List (List Nat)} {wv : Nat → Nat} {lx : List (List Nat)} {M : Nat → Nat → Bool} (h : WvF n c rs wv lx) (hM : MtOk n c M) : mostK wv (docR n M) (docR n M).length = lx.length := by
  obtain ⟨ws, h1, h2⟩ := h.wo
  unfold mostK
  rw [List.take_length]
  refine Nat.le_antisymm ?_ ?_
  · rcases maxL_is (fun x => x) ((docR n M).map fun r => wv (kyR r)) 0 with k | ⟨x, hx, k⟩
    · rw [k]; exact Nat.zero_le _
    · rw [k]
      obtain ⟨r, hr, rfl⟩ := List.mem_map.1 hx
      have hr2 := (docR_mem h.ra hM r).1 hr
      have := (h1.pos r hr2 _ (kyR_mem (h.ra.o.ne r hr2))).2
      show wv (kyR r) ≤ _
      omega
  · by_cases e : lx.length = 0
    · omega
    · obtain ⟨r, hr, hk⟩ := h1.wn (lx.length - 1) (by omega)
      have := maxL_all (fun x => x) ((docR n M).map fun r => wv (kyR r)) 0 (wv (kyR r)) (List.mem_map.2 ⟨r, (docR_mem h.ra hM r).2 hr, rfl⟩)
      have e2 : lx.length - 1 + 1 = lx.length := by omega
      rw [hk, e2] at this
      exact this
/-- So many of the first so many are of wave W. -/
def cntK (wv : Nat → Nat) (W : Nat) (D : List (List Nat)) (i : Nat) : Nat := ((D.take i).filter fun r => wv (kyR r) == W + 1).length
theorem cntK_yes {wv : Nat → Nat} {W : Nat} {D : List (List Nat)} {i : Nat} {r : List Nat} (h : D[i]? = some r) (hk : wv (kyR r) = W + 1) : cntK wv W D (i + 1) = cntK wv W D i + 1 ∧ (D.filter fun r => wv (kyR r) == W + 1)[cntK wv W D i]? = some r := by
  have hb : (fun r => wv (kyR r) == W + 1) r = true := by show (wv (kyR r) == W + 1) = true; rw [hk]; exact beq_self_eq_true _
  constructor
  · unfold cntK
    rw [take_succ_of h, List.filter_append, List.filter_cons_of_pos (p := fun r => wv (kyR r) == W + 1) (a := r) hb]; simp
  · have h2 : D = D.take i ++ r :: D.drop (i + 1) := by
      obtain ⟨q, e⟩ := List.getElem?_eq_some_iff.1 h
      rw [← e]; simp
    have key : ∀ A B : List (List Nat), ((A ++ r :: B).filter fun r => wv (kyR r) == W + 1)[(A.filter fun r => wv (kyR r) == W + 1).length]? = some r := by
      intro A B
      rw [List.filter_append, List.filter_cons_of_pos (p := fun r => wv (kyR r) == W + 1) (a := r) hb, List.getElem?_append_right (Nat.le_refl _)]
      simp
    have h3 := key (D.take i) (D.drop (i + 1))
    rw [← h2] at h3
    exact h3
theorem cntK_no {wv : Nat → Nat} {W : Nat} {D : List (List Nat)} {i : Nat} {r : List Nat} (h : D[i]? = some r) (hk : wv (kyR r) ≠ W + 1) : cntK wv W D (i + 1) = cntK wv W D i := by
  unfold cntK
  rw [take_succ_of h, List.filter_append, List.filter_cons_of_neg (by rw [beq_iff_eq]; exact hk)]; simp
theorem cntK_all (wv : Nat → Nat) (W : Nat) (D : List (List Nat)) : cntK wv W D D.length = (D.filter fun r => wv (kyR r) == W + 1).length := by unfold cntK; rw [List.take_length]
end Go.Proofs.Ytdfiflbkamhchaa
