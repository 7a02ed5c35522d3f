/- The law's example, its drawers, the document's Less. -/
import Derived.Test.YtcjmhdneelmbhaaTbRJ
import Derived.Test.YtcjmhdneelmbhaaEqEJ
import Derived.Test.YtcjmhdneelmbhaaTbTJ
import Derived.Laws.StructEq
namespace Go.Proofs.Ytcjmhdneelmbhaa
open Go.ChangeShapes Go.WideShapes Go.RowKit Go.Deep
set_option linter.unusedVariables false

theorem TabM.frame_below {w w' : World} {K b g bm n : Nat} {U : Nat → Value} {ds : List (List VD)} (h : TabM w K b g bm n U ds) (hf : FrX (TabX b g bm n U) w w') : Below K w w' :=
  ⟨hf.os, hf.tape, hf.output, hf.size, fun y hy => hf.block y (by have := h.lo; have := (h.lt (.inl rfl)).2; omega) (fun hx => by have := (h.lt hx).1; omega)⟩
def dsA : List (List VD) := List.replicate 2 []
def dsB : List (List VD) := putV 2 dsA (1, 4)
theorem res_a : resV 2 dsA (1, 4) = (1, 0) := by decide
theorem res_b : resV 2 dsB (1, 7) = (0, 0) := by decide
theorem in_c : inV 2 (putV 2 dsB (1, 7)) (1, 4) = true := by decide
theorem h_c : hV 2 (putV 2 dsB (1, 7)) (1, 4) = 1 := by decide
set_option maxRecDepth 100000 in
set_option maxHeartbeats 4000000 in
theorem up10_any (w : World) : Calls Try.prog 15 #[] w fun e w' => e = .returned (.bool true) ∧ Below w.heap.size w w' := by
  go_enter Try.func15, Try.ntmps15
  go_wp2_with fail
  refine (new_yes 2 w (by omega) (by omega)).mono ?_
  rintro e w1 ⟨rfl, hb1, hT1⟩
  have HB1 := Lib.hid hb1
  have HT1 : Hid (TabM w1 w.heap.size (w.heap.size + 2) w.heap.size (w.heap.size + 1) 2 (fun _ => .slice none 0 0) dsA) := Lib.hid hT1
  clear hb1 hT1
  go_wp2_with fail
  refine (put_any HT1.out 1 4 (by unfold I64; omega)).mono ?_
  rintro e w2 ⟨rfl, U2, hT2, hf2, hx2⟩
  rw [res_a]
  have HT2 : Hid (TabM w2 w.heap.size (w.heap.size + 2) w.heap.size (w.heap.size + 1) 2 U2 dsB) := Lib.hid hT2
  have HB2 : Hid (Below w.heap.size w w2) := Lib.hid (HB1.out.trans (HT1.out.frame_below hf2))
  clear hT2 hf2 hx2
  have hE : errV 0 = .nilIface := rfl
  rw [hE]
  go_wp2_with fail
  refine (put_any HT2.out 1 7 (by unfold I64; omega)).mono ?_
  rintro e w3 ⟨rfl, U3, hT3, hf3, hx3⟩
  rw [res_b, hE]
  have HT3 := Lib.hid hT3
  have HB3 : Hid (Below w.heap.size w w3) := Lib.hid (HB2.out.trans (HT2.out.frame_below hf3))
  clear hT3 hf3 hx3 hE
  go_wp2_with fail
  refine (find_any HT3.out 1 4 (by unfold I64; omega) (by unfold I64; omega)).mono ?_
  rintro e w4 ⟨rfl, rfl⟩
  rw [in_c, h_c]
  go_wp2_with fail
  go_ret
  exact ⟨rfl, HB3.out⟩
/-- How many drawers a number speaks of. -/
def pickN (c : Int) : Nat := 1 + ((if c < 0 then -(c + 1) else c) % 16).toNat
theorem pickN_in (c : Int) : 1 ≤ pickN c ∧ pickN c ≤ 16 := by
  unfold pickN
  have := Int.emod_nonneg (if c < 0 then -(c + 1) else c) (b := 16) (by omega)
  have := Int.emod_lt_of_pos (if c < 0 then -(c + 1) else c) (b := 16) (by omega)
  omega
theorem pick_any (c : Int) (hc : I64 c) (w : World) : Calls Try.prog 19 #[.int .i64 c] w fun e w' => e = .returned (.int .i64 (pickN c : Int)) ∧ w' = w := by
  obtain ⟨h1, h2⟩ := hc
  by_cases h : c < 0
  · obtain ⟨q, hq⟩ : ∃ q : Nat, -(c + 1) = (q : Int) := ⟨(-(c + 1)).toNat, by omega⟩
    obtain ⟨r, hr, hr1⟩ : ∃ r : Nat, (q : Int) % 16 = r ∧ r < 16 := ⟨q % 16, by omega, by omega⟩
    have HE : Hid ((pickN c : Int) = 1 + r) := Lib.hid (by unfold pickN; rw [if_pos h, hq, hr]; omega)
    have d : decide (c < 0) = true := decide_eq_true h
    go_enter Try.func19, Try.ntmps19
    go_wp2_with fail
    go_ret
    exact ⟨by rw [HE.out]; rfl, rfl⟩
  · have HE : Hid ((pickN c : Int) = 1 + c % 16) := Lib.hid (by unfold pickN; rw [if_neg h]; omega)
    have d : decide (c < 0) = false := decide_eq_false h
    go_enter Try.func19, Try.ntmps19
    go_wp2_with fail
    go_ret
    exact ⟨by rw [HE.out]; rfl, rfl⟩
theorem less_any (x y : VD) (w : World) : Calls Try.prog 23 #[.agg #[.int .i64 x.1, .int .i64 x.2], .agg #[.int .i64 y.1, .int .i64 y.2]] w fun e w' => e = .returned (.bool (ltV x y)) ∧ Below w.heap.size w w' := by
  obtain ⟨x1, x2⟩ := x
  obtain ⟨y1, y2⟩ := y
  dsimp only
  have hB : ∀ A B, Below w.heap.size w ((w.alloc A).alloc B) := fun A B => ((Below.refl _ _).alloc (Nat.le_refl _) _).alloc (by simp) _
  by_cases h1 : x1 < y1
  · have d1 : decide (x1 < y1) = true := decide_eq_true h1
    have HE : Hid (ltV (x1, x2) (y1, y2) = true) := Lib.hid (by unfold ltV; exact decide_eq_true (.inl h1))
    clear h1
    go_enter Try.func23, Try.ntmps23
    go_wp2_with fail
    go_ret
    exact ⟨by rw [HE.out]; rfl, hB _ _⟩
  · have d1 : decide (x1 < y1) = false := decide_eq_false h1
    by_cases h2 : x1 = y1
    · have d2 : (x1 == y1) = true := by simpa using h2
      have HE : Hid (ltV (x1, x2) (y1, y2) = decide (x2 < y2)) := Lib.hid (by unfold ltV; rw [Bool.eq_iff_iff, decide_eq_true_iff, decide_eq_true_iff]; dsimp only; omega)
      clear h1 h2
      go_enter Try.func23, Try.ntmps23
      go_wp2_with fail
      go_ret
      exact ⟨by rw [HE.out]; rfl, hB _ _⟩
    · have d2 : (x1 == y1) = false := by simpa using h2
      have HE : Hid (ltV (x1, x2) (y1, y2) = false) := Lib.hid (by unfold ltV; apply decide_eq_false; dsimp only; omega)
      clear h1 h2
      go_enter Try.func23, Try.ntmps23
      go_wp2_with fail
      go_ret
      exact ⟨by rw [HE.out]; rfl, hB _ _⟩
end Go.Proofs.Ytcjmhdneelmbhaa

/- Values compared by '=='. -/
namespace Go.Proofs.Ytcjmhdneelmbhaa
open Go.ChangeShapes Go.WideShapes Go.RowKit Go.Deep
set_option linter.unusedVariables false

theorem valHeld : Try.prog.stoodInHeld 69 = false := by kernel_rfl
theorem valGuard : Try.prog.eqGuardType Try.prog.depth 69 = false := by kernel_rfl
theorem neqVal (x y : VD) (w : World) : (binOp .neq 69 (.agg #[.int .i64 x.1, .int .i64 x.2]) (.agg #[.int .i64 y.1, .int .i64 y.2])).run Try.prog w = .ok (.bool (!(decide (x = y)))) w := by
  have h1 : Try.prog.underlying 69 = some (.struct (Try.prog.fieldsOf 69)) := by rw [Try.underlying69]; kernel_rfl
  rw [run_neq_struct, run_equalIn_agg w 9999 _ _ _ h1 valHeld]
  rw [Try.underlying69] at h1
  simp only [Option.some.injEq, TypeDesc.struct.injEq] at h1
  rw [← h1]
  obtain ⟨x1, x2⟩ := x
  obtain ⟨y1, y2⟩ := y
  have e1 : ∀ w, (Op.equalIn 9999 3 (.int .i64 x1) (.int .i64 y1)).run Try.prog w = .ok (x1 == y1) w := fun w => run_equalIn_int w 9998 3 .i64 .i64 x1 y1 Try.underlying3
  have e2 : ∀ w, (Op.equalIn 9999 2 (.int .i64 x2) (.int .i64 y2)).run Try.prog w = .ok (x2 == y2) w := fun w => run_equalIn_int w 9998 2 .i64 .i64 x2 y2 Try.underlying2
  have p1 : ∀ w, (part 3 #[.int .i64 x1, .int .i64 x2] 0).run Try.prog w = .ok (.int .i64 x1) w := fun w => by kernel_rfl
  have p2 : ∀ w, (part 3 #[.int .i64 y1, .int .i64 y2] 0).run Try.prog w = .ok (.int .i64 y1) w := fun w => by kernel_rfl
  have p3 : ∀ w, (part 2 #[.int .i64 x1, .int .i64 x2] 1).run Try.prog w = .ok (.int .i64 x2) w := fun w => by kernel_rfl
  have p4 : ∀ w, (part 2 #[.int .i64 y1, .int .i64 y2] 1).run Try.prog w = .ok (.int .i64 y2) w := fun w => by kernel_rfl
  by_cases h2 : x1 = y1
  · subst h2
    by_cases h3 : x2 = y2
    · subst h3
      simp [Op.eqFields, e1, e2, p1, p3, Result.andThen]
    · simp [Op.eqFields, e1, e2, p1, p2, p3, p4, Result.andThen, h3]
  · simp [Op.eqFields, e1, p1, p2, Result.andThen, h2]
/-- A cell of a row of the caller's own is written over. -/
theorem own_setV {w : World} {K size g cap n j : Nat} {e : TypeId} {xs : List Value} (h : w.ownsRow K e size (.slice (some ⟨g, 0, none⟩) n cap) n xs) (hj : j < n * size) (u : Value) : (w.setCell ⟨g, j, none⟩ u).ownsRow K e size (.slice (some ⟨g, 0, none⟩) n cap) n (xs.set j u) := by
  obtain ⟨h1, ⟨h0, _⟩ | ⟨g', c', cur, hv, hb, hh, hn, hc, hsz, ht⟩⟩ := h
  · cases h0
  · injection hv with hv1 hv2 hv3
    injection hv1 with hv1
    injection hv1 with hv1
    subst hv1 hv3
    refine ⟨by rw [List.length_set]; exact h1, .inr ⟨g, cap, cur.setIfInBounds j u, rfl, hb, ?_, hn, hc, by simpa using hsz, ?_⟩⟩
    · simp [World.setCell, Array.getElem?_modify, hh]
    · rw [← ht]
      rw [Array.toList_setIfInBounds, List.take_set]
end Go.Proofs.Ytcjmhdneelmbhaa

/- The walk of InternStays. -/
namespace Go.Proofs.Ytcjmhdneelmbhaa
open Go.ChangeShapes Go.WideShapes Go.RowKit Go.Deep
set_option linter.unusedVariables false

/-- The blocks of a table stay while others are written that are new. -/
theorem TabM.fr {w w' : World} {K b g bm n : Nat} {U : Nat → Value} {ds : List (List VD)} {X : Nat → Prop} {a : World} (h : TabM w K b g bm n U ds) (hwa : Below w.heap.size w a) (hf : FrX X a w') (hX : ∀ y, X y → w.heap.size ≤ y) : TabM w' K b g bm n U ds :=
  h.below (hwa.trans (hf.below hwa.size hX))
set_option maxRecDepth 100000 in
set_option maxHeartbeats 16000000 in
theorem internStays_walk (a : Int) (puts : List VD) (v : Value) (w : World) (ha : I64 a) (hv : VS w 2 RVal v puts) : Calls Try.prog 7 #[.int .i64 a, v] w fun e w' => e = .returned (.bool true) ∧ Below w.heap.size w w' := by
  obtain ⟨Ap, cp, rfl, hs⟩ := hv
  have hpl := hs.len
  have HS := Lib.hid hs
  have HA := Lib.hid ha
  obtain ⟨p, hp⟩ : ∃ p, p = pickN a := ⟨_, rfl⟩
  obtain ⟨hp1, hp2⟩ : 1 ≤ p ∧ p ≤ 16 := by rw [hp]; exact pickN_in a
  have HP := Lib.hid hp
  obtain ⟨M, hM⟩ : ∃ M, M = puts.length := ⟨_, rfl⟩
  have HM := Lib.hid hM
  rw [← hM] at hpl ⊢
  clear ha hp hs hM
  go_enter Try.func7, Try.ntmps7
  go_wp2_with fail
  refine (up10_any w).mono ?_
  rintro e w1 ⟨rfl, hb1⟩
  have HB1 := Lib.hid hb1
  clear hb1
  go_wp2_with fail
  refine (pick_any a HA.out w1).mono ?_
  rintro e w2 ⟨rfl, rfl⟩
  rw [← HP.out]
  go_wp2_with fail
  refine (new_yes p w2 hp1 hp2).mono ?_
  rintro e w3 ⟨rfl, hb3, hT⟩
  obtain ⟨b, hb⟩ : ∃ b, b = w2.heap.size + 2 := ⟨_, rfl⟩
  obtain ⟨g, hg⟩ : ∃ g, g = w2.heap.size := ⟨_, rfl⟩
  obtain ⟨bm, hbm⟩ : ∃ bm, bm = w2.heap.size + 1 := ⟨_, rfl⟩
  rw [← hb, ← hbm] at hT
  rw [← hb]
  obtain ⟨K, hK⟩ : ∃ K, K = w2.heap.size := ⟨_, rfl⟩
  rw [← hK] at hT
  have HT := Lib.hid hT
  have HB3 : Hid (Below w.heap.size w w3) := Lib.hid (HB1.out.trans (hb3.mono HB1.out.size))
  have HK : Hid (w.heap.size ≤ K) := Lib.hid (by rw [hK]; exact HB1.out.size)
  clear hb3 hT hb hg hbm hK
  go_wp2_with fail
  go_loopw [8] (fun s8 wr => ∃ (i : Nat) (U : Nat → Value) (ds : List (List VD)), i ≤ M ∧ s8 = .int .i64 i ∧ Hid (TabM wr K b K bm p U ds) ∧ Hid (Below w.heap.size w wr)) (fun s8 _ => M - (intOf s8).toNat)
  case atStart => exact ⟨0, _, _, Nat.zero_le _, rfl, HT, HB3⟩
  case round =>
    obtain ⟨i, U, ds, hiM, rfl, HTr, HBr⟩ := hrel
    by_cases hlt : i < M ∧ i < 60
    · obtain ⟨hlt1, hlt2⟩ := hlt
      have d1 : (i : Int) < 60 := by omega
      obtain ⟨bp, op, x, rfl, hx, h0, h1⟩ := HS.out.at_ (k := i) (by rw [← HM.out]; exact hlt1)
      have HX := Lib.hid (And.intro h0.2 h1.2)
      have e0 := kept_of_below HBr.out _ _ h0.1
      have e1 := kept_of_below HBr.out _ _ h1.1
      have hi0 : (0 : Int) ≤ i := by omega
      have hi1 : (i : Int) < M := by omega
      clear h0 h1 hx
      go_wp2_with fail
      go_still_tail 11, (by kernel_rfl)
      change wpList _ _ _ _ _ wr.drew
      go_wp2_with fail
      refine (put_any (HTr.out.go (w' := wr.drew) (fun _ _ => rfl)) x.1 x.2 HX.out.2).mono ?_
      rintro e w4 ⟨rfl, U4, hT4, hf4, hx4⟩
      have HT4 := Lib.hid hT4
      have HB4 : Hid (Below w.heap.size w w4) := Lib.hid ((HBr.out.drew).trans (((HTr.out.go (w' := wr.drew) (fun _ _ => rfl)).frame_below hf4).mono HK.out))
      clear hT4 hf4 hx4
      go_wp2_with fail
      go_roundw
      case rel => exact ⟨i + 1, U4, _, hlt1, by go_num, HT4, HB4⟩
      case measure => simp [intOf]; omega
    · have hh : M ≤ i ∨ (i < M ∧ 60 ≤ i) := by omega
      clear hlt
      rcases hh with hh | ⟨hh1, hh2⟩
      · obtain rfl : i = M := by omega
        clear hh hiM
        go_upto_region 9 with fail
        obtain ⟨wL, rfl⟩ : ∃ wL, wL = wr := ⟨_, rfl⟩
        go_wp2_with fail
        refine (values_any HTr.out).mono ?_
        rintro e w5 ⟨vv, rfl, hown5, hb5⟩
        obtain ⟨L, hL⟩ : ∃ L, L = totV ds := ⟨_, rfl⟩
        have hL4 : L ≤ 4096 := by rw [hL]; exact HTr.out.tot
        have HLL := Lib.hid hL
        rw [vals_len, ← hL] at hown5
        obtain ⟨Av, cv, hvv⟩ := own_sliceL hown5
        subst hvv
        have HO5 := Lib.hid hown5
        have HBr5 := Lib.hid hb5
        have HB5 : Hid (Below w.heap.size w w5) := Lib.hid (HBr.out.trans (hb5.mono HBr.out.size))
        have HVL : Hid ((valsV ds).length = L) := Lib.hid (by rw [vals_len, hL])
        clear hown5 hb5 hL
        go_upto_region 10 with fail
        go_cut [10] (fun so wx => ∃ vo, so = vo ∧ Hid (wx.ownsRow w5.heap.size 69 2 vo L (cellsV (valsV ds))) ∧ Hid (Below w5.heap.size w5 wx))
        case first =>
          obtain ⟨i0, hi0, hz0, hz1, hz2⟩ := info_parts Try.infoVal69
          have HI0 := Lib.hid (And.intro hi0 (And.intro hz0 (And.intro hz1 hz2)))
          clear hi0 hz0 hz1 hz2
          have hown0 : (w5.alloc (.cells #[] 69)).ownsRow w5.heap.size 69 2 (.slice (some ⟨w5.heap.size, 0, none⟩) 0 0) 0 [] := World.ownsRow_lit w5 #[] 0 (Nat.le_refl _) (by unfold maxLen; omega) rfl
          have HW0 := Lib.hid hown0
          clear hown0
          rcases Nat.eq_zero_or_pos L with rfl | hLp
          · have hrun : ∀ ty, (Builtin.append_ #[59, 59] ty #[.slice (some ⟨w5.heap.size, 0, none⟩) 0 0, .slice Av 0 cv]).run Try.prog (w5.alloc (.cells #[] 69)) = .ok (.slice (some ⟨w5.heap.size, 0, none⟩) 0 0) (w5.alloc (.cells #[] 69)) := fun ty => append_empty Try.underlying59 HI0.out.1 HW0.out Av cv
            go_wp2_with (at_builtin; refine Lib.wpList_append_run _ rfl _ _ _ _ rfl _ _ rfl rfl _ _ (hrun _) ?_)
            go_meet
            refine ⟨_, rfl, Lib.hid ?_, Lib.hid ((Below.refl _ _).alloc (Nat.le_refl _) _)⟩
            rw [List.eq_nil_of_length_eq_zero HVL.out]
            exact HW0.out
          · obtain ⟨gv, hA⟩ : ∃ gv, Av = some ⟨gv, 0, none⟩ := by
              rcases HO5.out.2 with ⟨_, h0⟩ | ⟨gv, c', cur, e, -⟩
              · omega
              · simp only [Value.slice.injEq] at e
                exact ⟨gv, e.1⟩
            subst hA
            go_wp2_with (at_builtin; refine wpList_append_lies _ rfl _ _ _ rfl w5.heap.size 69 i0 (.agg #[.int .i64 0, .int .i64 0]) 2 16 Try.underlying59 HI0.out.1 HI0.out.2.1 HI0.out.2.2.1 HI0.out.2.2.2 rfl (by decide) _ _ _ rfl HW0.out ⟨gv, 0, none⟩ L cv (cellsV (valsV ds)) rfl (by rw [cellsV_len, HVL.out]) (fun jj u hu => (HO5.out.alloc _).cells (g := gv) rfl jj u hu) (fun u hu => cellsV_one hu) hLp (by unfold maxLen; omega) (by omega) (by simp) (w5.heap.size + 1) (by simp) ?_)
            intro g' cap' w8 hown8 hgrow8 hloc8 hlt8
            have HO8 : Hid (w8.ownsRow w5.heap.size 69 2 (.slice (some ⟨g', 0, none⟩) L cap') L (cellsV (valsV ds))) := Lib.hid (by simpa using hown8)
            have HB8 : Hid (Below w5.heap.size w5 w8) := Lib.hid (((Below.refl _ w5).alloc (Nat.le_refl _) _).grown hgrow8 (by simp) (fun y hy => (HW0.out.lt y hy).1))
            clear hown8 hgrow8 hloc8 hlt8
            go_wp2_with fail
            go_meet
            exact ⟨_, rfl, HO8, HB8⟩
        case rest =>
        obtain ⟨vo, hvo, HO6, HB56⟩ := hcut
        obtain rfl := hvo.symm
        obtain ⟨w6, hw6⟩ : ∃ w6, w6 = wc := ⟨_, rfl⟩
        rw [← hw6] at HO6 HB56 ⊢
        clear hw6
        obtain ⟨Ao, co, hvo2⟩ := own_sliceL HO6.out
        subst hvo2
        have HBr6 : Hid (Below wL.heap.size wL w6) := Lib.hid (HBr5.out.trans (HB56.out.mono HBr5.out.size))
        have HT6 : Hid (TabM w6 K b K bm p U ds) := Lib.hid (HTr.out.below HBr6.out)
        go_wp2_with fail
        refine (ranks_any HT6.out).mono ?_
        rintro e w7 ⟨br, cr, fr, rfl, hbr, hcr, hmr, hrr, hb7⟩
        have HM7 := Lib.hid (And.intro hbr (And.intro hcr hmr))
        have HO57 : Hid (w7.ownsRow wL.heap.size 69 2 (.slice Av L cv) L (cellsV (valsV ds))) := Lib.hid (ownsRow_block HO5.out fun y hy => by
          have h1 := (HO5.out.lt y hy).2
          exact (hb7.block y (by have := HB56.out.size; omega)).trans (HB56.out.block y h1))
        have HO67 : Hid (w7.ownsRow w5.heap.size 69 2 (.slice Ao L co) L (cellsV (valsV ds))) := Lib.hid (ownsRow_block HO6.out fun y hy => hb7.block y (HO6.out.lt y hy).2)
        have HBr7 : Hid (Below wL.heap.size wL w7) := Lib.hid (HBr6.out.trans (hb7.mono HBr6.out.size))
        clear hbr hcr hmr hrr hb7
        go_wp2_with fail
        go_loopw [12] (fun s12 wr => ∃ (i c : Nat) (f : Int → Option Int) (s : Nat) (xs : List Value), i ≤ L ∧ s12 = .int .i64 i ∧ c ≤ 4096 + i ∧ Hid (MpI wr br c f s) ∧ Hid (wr.ownsRow wL.heap.size 69 2 (.slice Av L cv) L xs) ∧ Hid (FrX (fun y => (Value.slice Av L cv).ownBlock = some y ∨ y = br) w7 wr)) (fun s12 _ => L - (intOf s12).toNat)
        case atStart => exact ⟨0, cr, fr, _, _, Nat.zero_le _, rfl, HM7.out.2.1, Lib.hid HM7.out.2.2, HO57, Lib.hid (FrX.refl _ _)⟩
        case round =>
          obtain ⟨z, c, f, s, xs, hzL, rfl, hc, HMl, HOl, HFl⟩ := hrel
          by_cases hlz : z < L
          · obtain ⟨gv, hA⟩ : ∃ gv, Av = some ⟨gv, 0, none⟩ := by
              rcases HO5.out.2 with ⟨_, h0⟩ | ⟨gv, c', cur, e, -⟩
              · omega
              · simp only [Value.slice.injEq] at e
                exact ⟨gv, e.1⟩
            subst hA
            have hz1 : z * 2 < L * 2 := by omega
            have hz2 : z * 2 + 1 < L * 2 := by omega
            have hxl := HOl.out.1
            have q0 := (HOl.out.cellAt (z * 2) hz1).trans (List.getElem?_eq_getElem (by omega))
            have q1 := (HOl.out.cellAt (z * 2 + 1) hz2).trans (List.getElem?_eq_getElem (by omega))
            have f0 := HOl.out.frozenAt (z * 2)
            have f1 := HOl.out.frozenAt (z * 2 + 1)
            generalize xs[z * 2] = y0 at q0
            generalize xs[z * 2 + 1] = y1 at q1
            have hz0 : (0 : Int) ≤ z := by omega
            have hz3 : (z : Int) < L := by omega
            have hL5 : (L : Int) ≤ 4096 := by omega
            have hgv5 := (HO5.out.lt gv rfl).2
            have hbrne : br ≠ gv := fun e => by have := HM7.out.1; have := HB56.out.size; omega
            obtain ⟨wX, hwX⟩ : ∃ wX, wX = (wr.setCell ⟨gv, z * 2, none⟩ (.int .i64 0)).setCell ⟨gv, z * 2 + 1, none⟩ (.int .i64 0) := ⟨_, rfl⟩
            have hbX : wX.heap[br]? = wr.heap[br]? := by rw [hwX, Below.heap_setCell _ _ _ _ hbrne, Below.heap_setCell _ _ _ _ hbrne]
            have HOX : Hid (wX.ownsRow wL.heap.size 69 2 (.slice (some ⟨gv, 0, none⟩) L cv) L ((xs.set (z * 2) (.int .i64 0)).set (z * 2 + 1) (.int .i64 0))) := Lib.hid (by rw [hwX]; exact own_setV (own_setV HOl.out hz1 _) hz2 _)
            have HFX : Hid (FrX (fun y => (Value.slice (some ⟨gv, 0, none⟩) L cv).ownBlock = some y ∨ y = br) w7 wX) := Lib.hid (by rw [hwX]; exact (HFl.out.setCell (p := ⟨gv, z * 2, none⟩) (.inl (.inl rfl)) _).setCell (p := ⟨gv, z * 2 + 1, none⟩) (.inl (.inl rfl)) _)
            obtain ⟨w9, hrun9, hm9, hg9, hz9⟩ := (HMl.out.kept hbX).store (by unfold maxLen; omega) (x := (z : Int) + 100000) (y := 1) (by unfold I64; omega) (by unfold I64; omega)
            have HM9 := Lib.hid hm9
            have HO9 : Hid (w9.ownsRow wL.heap.size 69 2 (.slice (some ⟨gv, 0, none⟩) L cv) L ((xs.set (z * 2) (.int .i64 0)).set (z * 2 + 1) (.int .i64 0))) := Lib.hid (ownsRow_block HOX.out fun y hy => hg9.block y (HOX.out.lt y hy).2 (fun e => hbrne (by
              have e1 : gv = y := Option.some.inj hy
              have e2 : y = br := Option.some.inj e
              rw [← e2, e1])))
            have HF9 : Hid (FrX (fun y => (Value.slice (some ⟨gv, 0, none⟩) L cv).ownBlock = some y ∨ y = br) w7 w9) := Lib.hid (HFX.out.grown hg9 (fun y hy => .inl (.inr (Option.some.inj hy).symm)))
            rw [hwX] at hrun9
            clear hm9 hg9 hz9 hbX hwX hgv5 hbrne hxl hz1 hz2
            go_wp2_with fail
            go_roundw
            case rel => exact ⟨z + 1, c + 1, _, _, _, hlz, by go_num, by omega, HM9, HO9, HF9⟩
            case measure => simp [intOf]; omega
          · obtain rfl : z = L := by omega
            clear hzL hlz
            obtain ⟨wM, rfl⟩ : ∃ wM, wM = wr := ⟨_, rfl⟩
            have hX : ∀ y, ((Value.slice Av z cv).ownBlock = some y ∨ y = br) → wL.heap.size ≤ y := fun y hy => by
              rcases hy with hy | hy
              · exact (HO5.out.lt y hy).1
              · rw [hy]; have := HM7.out.1; have := HBr6.out.size; omega
            have hbM : Below wL.heap.size wL wM := HBr7.out.trans (HFl.out.below HBr7.out.size hX)
            have HTM : Hid (TabM wM K b K bm p U ds) := Lib.hid (HTr.out.below hbM)
            have HBM : Hid (Below w.heap.size w wM) := Lib.hid (HBr.out.trans (hbM.mono HBr.out.size))
            have HOo : Hid (wM.ownsRow w5.heap.size 69 2 (.slice Ao z co) z (cellsV (valsV ds))) := Lib.hid (ownsRow_block HO67.out fun y hy => HFl.out.block y (HO67.out.lt y hy).2 (fun e => by
              have h1 := HO6.out.lt y hy
              rcases e with e | e
              · have := (HO5.out.lt y e).2; omega
              · have := HM7.out.1; omega))
            clear hX hbM
            go_wp2_with fail
            refine (values_any HTM.out).mono ?_
            rintro e w10 ⟨vw, rfl, hown10, hb10⟩
            rw [vals_len, ← HLL.out] at hown10
            obtain ⟨Aw, cw, hvw⟩ := own_sliceL hown10
            subst hvw
            have HOw := Lib.hid hown10
            have HT10 : Hid (TabM w10 K b K bm p U ds) := Lib.hid (HTM.out.below hb10)
            have HB10 := Lib.hid hb10
            have HBw10 : Hid (Below w.heap.size w w10) := Lib.hid (HBM.out.trans (hb10.mono HBM.out.size))
            have hdL : ((z : Int) != (z : Int)) = false := by simp
            clear hown10 hb10
            go_wp2_with fail
            refine (ranks_any HT10.out).mono ?_
            rintro e w11 ⟨br2, c2, f2, rfl, -, -, hm11, -, hb11⟩
            rw [← HLL.out] at hm11
            have hlen : ∀ ty, (Builtin.len_ #[70] ty #[.map (some br2)]).run Try.prog w11 = .ok (.int .i64 (z : Int)) w11 := fun ty => hm11.len ty
            have HBw11 : Hid (Below w.heap.size w w11) := Lib.hid (HBw10.out.trans (hb11.mono HBw10.out.size))
            have HOw11 : Hid (w11.ownsRow wM.heap.size 69 2 (.slice Aw z cw) z (cellsV (valsV ds))) := Lib.hid (ownsRow_block HOw.out fun y hy => hb11.block y (HOw.out.lt y hy).2)
            have HOo11 : Hid (w11.ownsRow w5.heap.size 69 2 (.slice Ao z co) z (cellsV (valsV ds))) := Lib.hid (ownsRow_block HOo.out fun y hy => by
              have h1 := (HOo.out.lt y hy).2
              exact (hb11.block y (by have := HB10.out.size; omega)).trans (HB10.out.block y h1))
            clear hm11 hb11
            go_wp2_with fail
            clear hlen
            go_loopw [14] (fun s14 wx => ∃ (j q : Nat), j ≤ z ∧ s14 = .int .i64 j ∧ wx = w11.drewN q) (fun s14 _ => z - (intOf s14).toNat)
            case atStart => exact ⟨0, 0, Nat.zero_le _, rfl, rfl⟩
            case round =>
              obtain ⟨j, q, hjz, rfl, rfl⟩ := hrel
              by_cases hlj : j < z
              · obtain ⟨x, hx⟩ : ∃ x, (valsV ds)[j]? = some x := ⟨_, List.getElem?_eq_getElem (by rw [HVL.out]; exact hlj)⟩
                obtain ⟨hx1, hx2⟩ := cellsV_at hx
                obtain ⟨gw, hAw⟩ : ∃ gw, Aw = some ⟨gw, 0, none⟩ := by
                  rcases HOw.out.2 with ⟨_, h0⟩ | ⟨gw, c', cur, e, -⟩
                  · omega
                  · simp only [Value.slice.injEq] at e
                    exact ⟨gw, e.1⟩
                obtain ⟨go, hAo⟩ : ∃ go, Ao = some ⟨go, 0, none⟩ := by
                  rcases HOo.out.2 with ⟨_, h0⟩ | ⟨go, c', cur, e, -⟩
                  · omega
                  · simp only [Value.slice.injEq] at e
                    exact ⟨go, e.1⟩
                subst hAw hAo
                have q0 := (HOw11.out.cellAt (j * 2) (by omega)).trans hx1
                have q1 := (HOw11.out.cellAt (j * 2 + 1) (by omega)).trans hx2
                have q2 := (HOo11.out.cellAt (j * 2) (by omega)).trans hx1
                have q3 := (HOo11.out.cellAt (j * 2 + 1) (by omega)).trans hx2
                have hneq : ∀ u, (binOp .neq 69 (.agg #[.int .i64 x.1, .int .i64 x.2]) (.agg #[.int .i64 x.1, .int .i64 x.2])).run Try.prog u = .ok (.bool false) u := fun u => by
                  have := neqVal x x u
                  rw [decide_eq_true rfl] at this
                  exact this
                have hgu := valGuard
                have hj0 : (0 : Int) ≤ j := by omega
                have hj1 : (j : Int) < z := by omega
                clear hx hx1 hx2
                go_wp2_with fail
                go_quiet (fail)
                go_wp2_with fail
                go_roundw
                case rel => exact ⟨j + 1, _, hlj, by go_num, rfl⟩
                case measure => simp [intOf]; omega
              · obtain rfl : j = z := by omega
                clear hjz hlj
                go_wp2_with fail
                go_ret
                exact ⟨rfl, below_drewN HBw11.out _⟩
      · have d1 : ¬ (i : Int) < 60 := by omega
        have hi1 : (i : Int) < M := by omega
        have d2 : decide ((i : Int) < 60) = false := decide_eq_false d1
        go_upto_region 9 with fail
        clear d1 d2 hi1 hh1 hh2 hiM
        obtain ⟨wL, rfl⟩ : ∃ wL, wL = wr := ⟨_, rfl⟩
        go_wp2_with fail
        refine (values_any HTr.out).mono ?_
        rintro e w5 ⟨vv, rfl, hown5, hb5⟩
        obtain ⟨L, hL⟩ : ∃ L, L = totV ds := ⟨_, rfl⟩
        have hL4 : L ≤ 4096 := by rw [hL]; exact HTr.out.tot
        have HLL := Lib.hid hL
        rw [vals_len, ← hL] at hown5
        obtain ⟨Av, cv, hvv⟩ := own_sliceL hown5
        subst hvv
        have HO5 := Lib.hid hown5
        have HBr5 := Lib.hid hb5
        have HB5 : Hid (Below w.heap.size w w5) := Lib.hid (HBr.out.trans (hb5.mono HBr.out.size))
        have HVL : Hid ((valsV ds).length = L) := Lib.hid (by rw [vals_len, hL])
        clear hown5 hb5 hL
        go_upto_region 10 with fail
        go_cut [10] (fun so wx => ∃ vo, so = vo ∧ Hid (wx.ownsRow w5.heap.size 69 2 vo L (cellsV (valsV ds))) ∧ Hid (Below w5.heap.size w5 wx))
        case first =>
          obtain ⟨i0, hi0, hz0, hz1, hz2⟩ := info_parts Try.infoVal69
          have HI0 := Lib.hid (And.intro hi0 (And.intro hz0 (And.intro hz1 hz2)))
          clear hi0 hz0 hz1 hz2
          have hown0 : (w5.alloc (.cells #[] 69)).ownsRow w5.heap.size 69 2 (.slice (some ⟨w5.heap.size, 0, none⟩) 0 0) 0 [] := World.ownsRow_lit w5 #[] 0 (Nat.le_refl _) (by unfold maxLen; omega) rfl
          have HW0 := Lib.hid hown0
          clear hown0
          rcases Nat.eq_zero_or_pos L with rfl | hLp
          · have hrun : ∀ ty, (Builtin.append_ #[59, 59] ty #[.slice (some ⟨w5.heap.size, 0, none⟩) 0 0, .slice Av 0 cv]).run Try.prog (w5.alloc (.cells #[] 69)) = .ok (.slice (some ⟨w5.heap.size, 0, none⟩) 0 0) (w5.alloc (.cells #[] 69)) := fun ty => append_empty Try.underlying59 HI0.out.1 HW0.out Av cv
            go_wp2_with (at_builtin; refine Lib.wpList_append_run _ rfl _ _ _ _ rfl _ _ rfl rfl _ _ (hrun _) ?_)
            go_meet
            refine ⟨_, rfl, Lib.hid ?_, Lib.hid ((Below.refl _ _).alloc (Nat.le_refl _) _)⟩
            rw [List.eq_nil_of_length_eq_zero HVL.out]
            exact HW0.out
          · obtain ⟨gv, hA⟩ : ∃ gv, Av = some ⟨gv, 0, none⟩ := by
              rcases HO5.out.2 with ⟨_, h0⟩ | ⟨gv, c', cur, e, -⟩
              · omega
              · simp only [Value.slice.injEq] at e
                exact ⟨gv, e.1⟩
            subst hA
            go_wp2_with (at_builtin; refine wpList_append_lies _ rfl _ _ _ rfl w5.heap.size 69 i0 (.agg #[.int .i64 0, .int .i64 0]) 2 16 Try.underlying59 HI0.out.1 HI0.out.2.1 HI0.out.2.2.1 HI0.out.2.2.2 rfl (by decide) _ _ _ rfl HW0.out ⟨gv, 0, none⟩ L cv (cellsV (valsV ds)) rfl (by rw [cellsV_len, HVL.out]) (fun jj u hu => (HO5.out.alloc _).cells (g := gv) rfl jj u hu) (fun u hu => cellsV_one hu) hLp (by unfold maxLen; omega) (by omega) (by simp) (w5.heap.size + 1) (by simp) ?_)
            intro g' cap' w8 hown8 hgrow8 hloc8 hlt8
            have HO8 : Hid (w8.ownsRow w5.heap.size 69 2 (.slice (some ⟨g', 0, none⟩) L cap') L (cellsV (valsV ds))) := Lib.hid (by simpa using hown8)
            have HB8 : Hid (Below w5.heap.size w5 w8) := Lib.hid (((Below.refl _ w5).alloc (Nat.le_refl _) _).grown hgrow8 (by simp) (fun y hy => (HW0.out.lt y hy).1))
            clear hown8 hgrow8 hloc8 hlt8
            go_wp2_with fail
            go_meet
            exact ⟨_, rfl, HO8, HB8⟩
        case rest =>
        obtain ⟨vo, hvo, HO6, HB56⟩ := hcut
        obtain rfl := hvo.symm
        obtain ⟨w6, hw6⟩ : ∃ w6, w6 = wc := ⟨_, rfl⟩
        rw [← hw6] at HO6 HB56 ⊢
        clear hw6
        obtain ⟨Ao, co, hvo2⟩ := own_sliceL HO6.out
        subst hvo2
        have HBr6 : Hid (Below wL.heap.size wL w6) := Lib.hid (HBr5.out.trans (HB56.out.mono HBr5.out.size))
        have HT6 : Hid (TabM w6 K b K bm p U ds) := Lib.hid (HTr.out.below HBr6.out)
        go_wp2_with fail
        refine (ranks_any HT6.out).mono ?_
        rintro e w7 ⟨br, cr, fr, rfl, hbr, hcr, hmr, hrr, hb7⟩
        have HM7 := Lib.hid (And.intro hbr (And.intro hcr hmr))
        have HO57 : Hid (w7.ownsRow wL.heap.size 69 2 (.slice Av L cv) L (cellsV (valsV ds))) := Lib.hid (ownsRow_block HO5.out fun y hy => by
          have h1 := (HO5.out.lt y hy).2
          exact (hb7.block y (by have := HB56.out.size; omega)).trans (HB56.out.block y h1))
        have HO67 : Hid (w7.ownsRow w5.heap.size 69 2 (.slice Ao L co) L (cellsV (valsV ds))) := Lib.hid (ownsRow_block HO6.out fun y hy => hb7.block y (HO6.out.lt y hy).2)
        have HBr7 : Hid (Below wL.heap.size wL w7) := Lib.hid (HBr6.out.trans (hb7.mono HBr6.out.size))
        clear hbr hcr hmr hrr hb7
        go_wp2_with fail
        go_loopw [12] (fun s12 wr => ∃ (i c : Nat) (f : Int → Option Int) (s : Nat) (xs : List Value), i ≤ L ∧ s12 = .int .i64 i ∧ c ≤ 4096 + i ∧ Hid (MpI wr br c f s) ∧ Hid (wr.ownsRow wL.heap.size 69 2 (.slice Av L cv) L xs) ∧ Hid (FrX (fun y => (Value.slice Av L cv).ownBlock = some y ∨ y = br) w7 wr)) (fun s12 _ => L - (intOf s12).toNat)
        case atStart => exact ⟨0, cr, fr, _, _, Nat.zero_le _, rfl, HM7.out.2.1, Lib.hid HM7.out.2.2, HO57, Lib.hid (FrX.refl _ _)⟩
        case round =>
          obtain ⟨z, c, f, s, xs, hzL, rfl, hc, HMl, HOl, HFl⟩ := hrel
          by_cases hlz : z < L
          · obtain ⟨gv, hA⟩ : ∃ gv, Av = some ⟨gv, 0, none⟩ := by
              rcases HO5.out.2 with ⟨_, h0⟩ | ⟨gv, c', cur, e, -⟩
              · omega
              · simp only [Value.slice.injEq] at e
                exact ⟨gv, e.1⟩
            subst hA
            have hz1 : z * 2 < L * 2 := by omega
            have hz2 : z * 2 + 1 < L * 2 := by omega
            have hxl := HOl.out.1
            have q0 := (HOl.out.cellAt (z * 2) hz1).trans (List.getElem?_eq_getElem (by omega))
            have q1 := (HOl.out.cellAt (z * 2 + 1) hz2).trans (List.getElem?_eq_getElem (by omega))
            have f0 := HOl.out.frozenAt (z * 2)
            have f1 := HOl.out.frozenAt (z * 2 + 1)
            generalize xs[z * 2] = y0 at q0
            generalize xs[z * 2 + 1] = y1 at q1
            have hz0 : (0 : Int) ≤ z := by omega
            have hz3 : (z : Int) < L := by omega
            have hL5 : (L : Int) ≤ 4096 := by omega
            have hgv5 := (HO5.out.lt gv rfl).2
            have hbrne : br ≠ gv := fun e => by have := HM7.out.1; have := HB56.out.size; omega
            obtain ⟨wX, hwX⟩ : ∃ wX, wX = (wr.setCell ⟨gv, z * 2, none⟩ (.int .i64 0)).setCell ⟨gv, z * 2 + 1, none⟩ (.int .i64 0) := ⟨_, rfl⟩
            have hbX : wX.heap[br]? = wr.heap[br]? := by rw [hwX, Below.heap_setCell _ _ _ _ hbrne, Below.heap_setCell _ _ _ _ hbrne]
            have HOX : Hid (wX.ownsRow wL.heap.size 69 2 (.slice (some ⟨gv, 0, none⟩) L cv) L ((xs.set (z * 2) (.int .i64 0)).set (z * 2 + 1) (.int .i64 0))) := Lib.hid (by rw [hwX]; exact own_setV (own_setV HOl.out hz1 _) hz2 _)
            have HFX : Hid (FrX (fun y => (Value.slice (some ⟨gv, 0, none⟩) L cv).ownBlock = some y ∨ y = br) w7 wX) := Lib.hid (by rw [hwX]; exact (HFl.out.setCell (p := ⟨gv, z * 2, none⟩) (.inl (.inl rfl)) _).setCell (p := ⟨gv, z * 2 + 1, none⟩) (.inl (.inl rfl)) _)
            obtain ⟨w9, hrun9, hm9, hg9, hz9⟩ := (HMl.out.kept hbX).store (by unfold maxLen; omega) (x := (z : Int) + 100000) (y := 1) (by unfold I64; omega) (by unfold I64; omega)
            have HM9 := Lib.hid hm9
            have HO9 : Hid (w9.ownsRow wL.heap.size 69 2 (.slice (some ⟨gv, 0, none⟩) L cv) L ((xs.set (z * 2) (.int .i64 0)).set (z * 2 + 1) (.int .i64 0))) := Lib.hid (ownsRow_block HOX.out fun y hy => hg9.block y (HOX.out.lt y hy).2 (fun e => hbrne (by
              have e1 : gv = y := Option.some.inj hy
              have e2 : y = br := Option.some.inj e
              rw [← e2, e1])))
            have HF9 : Hid (FrX (fun y => (Value.slice (some ⟨gv, 0, none⟩) L cv).ownBlock = some y ∨ y = br) w7 w9) := Lib.hid (HFX.out.grown hg9 (fun y hy => .inl (.inr (Option.some.inj hy).symm)))
            rw [hwX] at hrun9
            clear hm9 hg9 hz9 hbX hwX hgv5 hbrne hxl hz1 hz2
            go_wp2_with fail
            go_roundw
            case rel => exact ⟨z + 1, c + 1, _, _, _, hlz, by go_num, by omega, HM9, HO9, HF9⟩
            case measure => simp [intOf]; omega
          · obtain rfl : z = L := by omega
            clear hzL hlz
            obtain ⟨wM, rfl⟩ : ∃ wM, wM = wr := ⟨_, rfl⟩
            have hX : ∀ y, ((Value.slice Av z cv).ownBlock = some y ∨ y = br) → wL.heap.size ≤ y := fun y hy => by
              rcases hy with hy | hy
              · exact (HO5.out.lt y hy).1
              · rw [hy]; have := HM7.out.1; have := HBr6.out.size; omega
            have hbM : Below wL.heap.size wL wM := HBr7.out.trans (HFl.out.below HBr7.out.size hX)
            have HTM : Hid (TabM wM K b K bm p U ds) := Lib.hid (HTr.out.below hbM)
            have HBM : Hid (Below w.heap.size w wM) := Lib.hid (HBr.out.trans (hbM.mono HBr.out.size))
            have HOo : Hid (wM.ownsRow w5.heap.size 69 2 (.slice Ao z co) z (cellsV (valsV ds))) := Lib.hid (ownsRow_block HO67.out fun y hy => HFl.out.block y (HO67.out.lt y hy).2 (fun e => by
              have h1 := HO6.out.lt y hy
              rcases e with e | e
              · have := (HO5.out.lt y e).2; omega
              · have := HM7.out.1; omega))
            clear hX hbM
            go_wp2_with fail
            refine (values_any HTM.out).mono ?_
            rintro e w10 ⟨vw, rfl, hown10, hb10⟩
            rw [vals_len, ← HLL.out] at hown10
            obtain ⟨Aw, cw, hvw⟩ := own_sliceL hown10
            subst hvw
            have HOw := Lib.hid hown10
            have HT10 : Hid (TabM w10 K b K bm p U ds) := Lib.hid (HTM.out.below hb10)
            have HB10 := Lib.hid hb10
            have HBw10 : Hid (Below w.heap.size w w10) := Lib.hid (HBM.out.trans (hb10.mono HBM.out.size))
            have hdL : ((z : Int) != (z : Int)) = false := by simp
            clear hown10 hb10
            go_wp2_with fail
            refine (ranks_any HT10.out).mono ?_
            rintro e w11 ⟨br2, c2, f2, rfl, -, -, hm11, -, hb11⟩
            rw [← HLL.out] at hm11
            have hlen : ∀ ty, (Builtin.len_ #[70] ty #[.map (some br2)]).run Try.prog w11 = .ok (.int .i64 (z : Int)) w11 := fun ty => hm11.len ty
            have HBw11 : Hid (Below w.heap.size w w11) := Lib.hid (HBw10.out.trans (hb11.mono HBw10.out.size))
            have HOw11 : Hid (w11.ownsRow wM.heap.size 69 2 (.slice Aw z cw) z (cellsV (valsV ds))) := Lib.hid (ownsRow_block HOw.out fun y hy => hb11.block y (HOw.out.lt y hy).2)
            have HOo11 : Hid (w11.ownsRow w5.heap.size 69 2 (.slice Ao z co) z (cellsV (valsV ds))) := Lib.hid (ownsRow_block HOo.out fun y hy => by
              have h1 := (HOo.out.lt y hy).2
              exact (hb11.block y (by have := HB10.out.size; omega)).trans (HB10.out.block y h1))
            clear hm11 hb11
            go_wp2_with fail
            clear hlen
            go_loopw [14] (fun s14 wx => ∃ (j q : Nat), j ≤ z ∧ s14 = .int .i64 j ∧ wx = w11.drewN q) (fun s14 _ => z - (intOf s14).toNat)
            case atStart => exact ⟨0, 0, Nat.zero_le _, rfl, rfl⟩
            case round =>
              obtain ⟨j, q, hjz, rfl, rfl⟩ := hrel
              by_cases hlj : j < z
              · obtain ⟨x, hx⟩ : ∃ x, (valsV ds)[j]? = some x := ⟨_, List.getElem?_eq_getElem (by rw [HVL.out]; exact hlj)⟩
                obtain ⟨hx1, hx2⟩ := cellsV_at hx
                obtain ⟨gw, hAw⟩ : ∃ gw, Aw = some ⟨gw, 0, none⟩ := by
                  rcases HOw.out.2 with ⟨_, h0⟩ | ⟨gw, c', cur, e, -⟩
                  · omega
                  · simp only [Value.slice.injEq] at e
                    exact ⟨gw, e.1⟩
                obtain ⟨go, hAo⟩ : ∃ go, Ao = some ⟨go, 0, none⟩ := by
                  rcases HOo.out.2 with ⟨_, h0⟩ | ⟨go, c', cur, e, -⟩
                  · omega
                  · simp only [Value.slice.injEq] at e
                    exact ⟨go, e.1⟩
                subst hAw hAo
                have q0 := (HOw11.out.cellAt (j * 2) (by omega)).trans hx1
                have q1 := (HOw11.out.cellAt (j * 2 + 1) (by omega)).trans hx2
                have q2 := (HOo11.out.cellAt (j * 2) (by omega)).trans hx1
                have q3 := (HOo11.out.cellAt (j * 2 + 1) (by omega)).trans hx2
                have hneq : ∀ u, (binOp .neq 69 (.agg #[.int .i64 x.1, .int .i64 x.2]) (.agg #[.int .i64 x.1, .int .i64 x.2])).run Try.prog u = .ok (.bool false) u := fun u => by
                  have := neqVal x x u
                  rw [decide_eq_true rfl] at this
                  exact this
                have hgu := valGuard
                have hj0 : (0 : Int) ≤ j := by omega
                have hj1 : (j : Int) < z := by omega
                clear hx hx1 hx2
                go_wp2_with fail
                go_quiet (fail)
                go_wp2_with fail
                go_roundw
                case rel => exact ⟨j + 1, _, hlj, by go_num, rfl⟩
                case measure => simp [intOf]; omega
              · obtain rfl : j = z := by omega
                clear hjz hlj
                go_wp2_with fail
                go_ret
                exact ⟨rfl, below_drewN HBw11.out _⟩
end Go.Proofs.Ytcjmhdneelmbhaa
