/- The walk of RunRuns. (Written by gen/genrunruns.py.) -/
import Derived.Test.YtooblmiffgjmjaaGreatDoorRefDJ
import Derived.Test.YtooblmiffgjmjaaGreatDoorRunOJ
import Derived.Test.YtooblmiffgjmjaaGreatDoorEqEJ
import Derived.Test.YtooblmiffgjmjaaGreatDoorSmallJ
import Derived.Deep.RegionHeld
namespace Go.Proofs.YtooblmiffgjmjaaGreatDoor
open Go.ChangeShapes Go.WideShapes Go.RowKit Go.Deep
set_option linter.unusedVariables false

def HoldsErr (w : World) : Prop := w.cell? ⟨0, 0, none⟩ = some (.iface 116 (.agg #[.pointer (some ⟨1, 33, none⟩)]))
theorem HoldsErr.below {w w' : World} (h : HoldsErr w) (hb : Below w.heap.size w w') : HoldsErr w' := (hb.cell (p := ⟨0, 0, none⟩) (block_lt_of_cell h)).trans h
theorem yieldsIf_load_out2 {ops : Array Oper} {S : World → Prop} {op : Oper} {a : Act} {s : St} {A : Option Addr} {c : Nat} (hw : Region.wanted op (yielded ops a.tmps) = true) (x : Operand) (ho : op.op = .load 31 x)
    (g : Nat) (hx : a.eval x = .pointer (some ⟨g, 0, none⟩)) (hS : ∀ w, S w → OutAt w g s A c) : YieldsIf Tryz.prog ops S op (.agg (outC s (.slice A s.out.length c))) a :=
  .inl ⟨hw, fun w hw' => by
    unfold execOp
    simp only [ho, hx, Sem.run_bind, Sem.run_pure, Result.andThen_ok, (hS w hw').load]⟩
theorem run_toldZ {m : List FunD} {f : Int} {args : List Int} {steps : Int} {w : World} {e : Ending} {w' : World} (h : ToldRun m f args steps w e w') :
    ∃ s A c err, e = .returned (.tuple #[.agg (outC s (.slice A s.out.length c)), err]) ∧ Below w.heap.size w w' ∧ SL w' 1 RW A c s.out ∧
      ((¬ Proper m ∧ ErrAt w' err (modE m) ∧ s = zeroS) ∨ (Proper m ∧ mayB m f args steps = false ∧ err = .iface 41 (.int .i64 1) ∧ s = zeroS) ∨ (Proper m ∧ mayB m f args steps = true ∧ err = .nilIface ∧ s = runS m f.toNat args steps.toNat)) := by
  obtain ⟨o, err, rfl, hb, ⟨hp, he, rfl⟩ | ⟨hp, hm, rfl, rfl⟩ | ⟨hp, hm, rfl, A, c, rfl, hs⟩⟩ := h
  · exact ⟨zeroS, none, 0, err, rfl, hb, SL.nil, .inl ⟨hp, he, rfl⟩⟩
  · exact ⟨zeroS, none, 0, _, rfl, hb, SL.nil, .inr (.inl ⟨hp, hm, rfl, rfl⟩)⟩
  · exact ⟨_, A, c, _, rfl, hb, SL.imp (fun b o x hx => hx.2) hs.sl, .inr (.inr ⟨hp, hm, rfl, rfl⟩)⟩
theorem same_zero : sameS zeroS zeroS = true := same_refl zeroS

set_option maxRecDepth 100000 in
set_option maxHeartbeats 16000000 in
theorem runRuns_walk (OI : OfIns) (m : List FunD) (v : Value) (f : Int) (args : List Int) (va : Value) (steps : Int) (w : World) (hm : VMod w v m) (hargs : VS w 1 RInt va args) (hf : I64 f) (hst : I64 steps) (hg : HoldsErr w) :
    Calls Tryz.prog 3 #[v, .int .i64 f, va, .int .i64 steps] w fun e w' => e = .returned (.bool true) ∧ Below w.heap.size w w' := by
  have hm0 := hm
  obtain ⟨A, c, rfl, hms⟩ := hm
  obtain ⟨Aa, ca, rfl, ha⟩ := hargs
  have hml := hms.len
  have hal := ha.len
  clear hms
  have HF := Lib.hid hf
  have HST := Lib.hid hst
  have HG := Lib.hid hg
  clear hf hst hg
  go_enter Tryz.func3, Tryz.ntmps3
  go_wp2_with fail
  obtain ⟨w1, hw1, hs1, hk1, hB1, hc1, -⟩ := named w #[.slice A m.length c] 24
  rw [← hw1]
  have q0 : w1.cell? ⟨w.heap.size, 0, none⟩ = some (.slice A m.length c) := hc1 0 _ rfl
  clear hw1 hc1 hs1
  refine (up_any _).mono ?_
  rintro e w2 ⟨rfl, hb2⟩
  have hB2 : Below w.heap.size w w2 := hB1.trans (hb2.mono hB1.size)
  have q0 := kept_of_below hb2 _ _ q0
  go_wp2_with fail
  refine (small_any m _ _ (VMod.keep (kept_of_below hB2) hm0)).mono ?_
  rintro e w3 ⟨⟨bs, rfl, hsm⟩, hb3⟩
  have hB3 : Below w.heap.size w w3 := hB2.trans (hb3.mono hB2.size)
  have q0 := kept_of_below hb3 _ _ q0
  clear hb2 hb3 hB1 hB2 hk1
  cases bs
  · go_wp2_with fail
    go_ret
    exact ⟨rfl, hB3⟩
  · have HS := Lib.hid (hsm rfl)
    clear hsm
    by_cases hlen : 300 < args.length
    · have hlen' : (300 : Int) < args.length := by omega
      go_wp2_with fail
      go_ret
      exact ⟨rfl, hB3⟩
    · have hlen' : ¬ (300 : Int) < args.length := by omega
      go_wp2_with fail
      refine (few_any steps _ HST.out).mono ?_
      rintro e w4 ⟨rfl, rfl⟩
      have HZ : Hid (I64 (fewZ steps)) := Lib.hid (by have := HST.out; unfold I64 at this ⊢; unfold fewZ; split <;> omega)
      have HR1 := Lib.hid (run_any m f args (fewZ steps) _ Aa ca w4 (VMod.keep (kept_of_below hB3) hm0) (SInts.keep (kept_of_below hB3) ha) HS.out HF.out HZ.out)
      have HB3 := Lib.hid hB3
      have HA := Lib.hid ha
      have HM0 := Lib.hid hm0
      clear hB3 ha hm0 hlen hlen'
      go_wp2_with fail
      refine HR1.out.mono ?_
      rintro e w5 h5
      obtain ⟨s, As, cs, err, rfl, hb5, hso, hcase⟩ := run_toldZ h5
      have q0 := kept_of_below hb5 _ _ q0
      have HB5 : Hid (Below w.heap.size w w5) := Lib.hid (HB3.out.trans (hb5.mono HB3.out.size))
      have hst := store_new w5 s (.slice As s.out.length cs) rfl
      obtain ⟨w6, hw6⟩ : ∃ w6, w6 = w5.alloc (.cells (outC s (.slice As s.out.length cs)) 31) := ⟨_, rfl⟩
      obtain ⟨X, hX⟩ : ∃ X, X = w5.heap.size := ⟨_, rfl⟩
      have hoa := OutAt.new hw6 hso
      rw [← hX] at hoa
      rw [← hw6] at hst
      have HO := Lib.hid hoa
      have HB56 : Hid (Below w5.heap.size w5 w6) := Lib.hid (by rw [hw6]; exact (Below.refl _ _).alloc (Nat.le_refl _) _)
      have HB6 : Hid (Below w.heap.size w w6) := Lib.hid (HB5.out.trans (HB56.out.mono HB5.out.size))
      have q6 := kept_of_below HB56.out _ _ q0
      have HCASE := Lib.hid hcase
      have HQ6 := Lib.hid q6
      clear h5 hb5 hso HR1 hw6 hcase q0 q6 hoa
      dsimp only
      go_step
      iterate 4 (first | (go_step; go_simp; go_step) | (go_step; go_step))
      refine wpList_store_any _ rfl 31 (.tmp 11) (.tmp 37) rfl _ _ (by rfl) (by rfl) hst ?_
      clear hst
      rw [← hX]
      clear hX
      have q6 := HQ6.out
      have HMR := Lib.hid (module_ref m _ w6 (VMod.keep (kept_of_below HB6.out) HM0.out) (fun f hf => SmallG.of (HS.out.2 f hf)))
      clear HQ6
      go_wp2_with fail
      refine HMR.out.mono ?_
      rintro e w7 ⟨rfl, hb7⟩
      have q7 := kept_of_below hb7 _ _ q6
      have HB67 := Lib.hid hb7
      have HB7 : Hid (Below w.heap.size w w7) := Lib.hid (HB6.out.trans (hb7.mono HB6.out.size))
      have HO7 := Lib.hid (HO.out.keep (kept_of_below hb7))
      have HIN := Lib.hid (modE_in m)
      clear hb7 q6 HMR HO
      obtain ⟨p, hpe⟩ : ∃ p, p = modE m := ⟨_, rfl⟩
      have HPE := Lib.hid hpe
      rw [← hpe]
      clear hpe
      obtain ⟨p1, p2⟩ := p
      have HSZ : Hid (∀ W : World, Below w7.heap.size w7 W → s = zeroS → Calls Tryz.prog 10 #[.agg (outC s (.slice As s.out.length cs)), .agg Tryz.zeroCells31] W fun e w' => e = .returned (.bool true) ∧ Below W.heap.size W w') := Lib.hid (fun W hW hz => by
        rw [zero_out]
        have h1 := sameO_any s zeroS As none cs 0 W (HO7.out.keep (kept_of_below hW)).2 SL.nil
        have h2 : sameS s zeroS = true := by rw [hz]; exact same_zero
        rw [h2] at h1
        exact h1)
      rcases HCASE.out with ⟨hnp, hea, hz⟩ | ⟨hp, hmay, rfl, hz⟩ | ⟨hp, hmay, rfl, hz⟩
      · -- not proper
        have hn0 : p1 ≠ 0 := fun h => hnp (by show (modE m).1 = 0; rw [← HPE.out]; exact h)
        have hin2 : 1 ≤ p1 ∧ p1 ≤ 8 := by have h := HIN.out; rw [← HPE.out] at h; rcases h with h | h; exact absurd h hn0; omega
        have hea7 := hea.keep (kept_of_below (HB56.out.trans (HB67.out.mono HB56.out.size)))
        rw [← HPE.out] at hea7
        have HOF := Lib.hid (of_any err (p1, p2) w7 hea7 hin2 (HG.out.below HB7.out))
        have HZS := Lib.hid hz
        have hne : (p1 != 0) = true := by simpa using hn0
        clear hnp hea hz hea7 hn0 hin2
        go_wp2_with fail
        refine HOF.out.mono ?_
        rintro e w8 ⟨rfl, hb8⟩
        have HO8 := Lib.hid (HO7.out.keep (kept_of_below hb8))
        have HB8 : Hid (Below w.heap.size w w8) := Lib.hid (HB7.out.trans (hb8.mono HB7.out.size))
        have HSC := Lib.hid (HSZ.out w8 hb8 HZS.out)
        clear hb8 HOF
        go_upto_region 10 with fail
        go_step
        iterate 12 (first | (go_step; go_simp; go_step) | (go_step; go_step))
        refine wpList_load_w w8 (by rfl) 31 (.tmp 11) rfl _ (by rfl) HO8.out.load ?_
        go_wp2_with fail
        refine HSC.out.mono ?_
        rintro e w9 ⟨rfl, hb9⟩
        have HB9 : Hid (Below w.heap.size w w9) := Lib.hid (HB8.out.trans (hb9.mono HB8.out.size))
        clear hb9
        go_wp2_with fail
        go_ret
        exact ⟨rfl, HB9.out⟩
      · -- it may not be run so
        have h0 : p1 = 0 := by have h : (modE m).1 = 0 := hp; rw [← HPE.out] at h; exact h
        subst h0
        have HMA := Lib.hid (rmay_any m f args (fewZ steps) _ _ w7 (VMod.keep (kept_of_below HB7.out) HM0.out) ⟨Aa, ca, rfl, SInts.keep (kept_of_below HB7.out) HA.out⟩ (proper_ok hp).2)
        rw [hmay] at HMA
        have HZS := Lib.hid hz
        have he := eqlErr
        clear hp hmay hz
        go_wp2_with fail
        refine HMA.out.mono ?_
        rintro e w8 ⟨rfl, hb8⟩
        have HO8 := Lib.hid (HO7.out.keep (kept_of_below hb8))
        have HB8 : Hid (Below w.heap.size w w8) := Lib.hid (HB7.out.trans (hb8.mono HB7.out.size))
        have HSC := Lib.hid (HSZ.out w8 hb8 HZS.out)
        clear hb8 HMA q7
        go_upto_region 13 with fail
        go_step
        iterate 7 (first | (go_step; go_simp; go_step) | (go_step; go_step))
        refine wpList_load_w w8 (by rfl) 31 (.tmp 11) rfl _ (by rfl) HO8.out.load ?_
        go_wp2_with fail
        refine HSC.out.mono ?_
        rintro e w9 ⟨rfl, hb9⟩
        have HB9 : Hid (Below w.heap.size w w9) := Lib.hid (HB8.out.trans (hb9.mono HB8.out.size))
        clear hb9
        go_wp2_with fail
        go_ret
        exact ⟨rfl, HB9.out⟩
      · -- it is run
        have h0 : p1 = 0 := by have h : (modE m).1 = 0 := hp; rw [← HPE.out] at h; exact h
        subst h0
        have HMA := Lib.hid (rmay_any m f args (fewZ steps) _ _ w7 (VMod.keep (kept_of_below HB7.out) HM0.out) ⟨Aa, ca, rfl, SInts.keep (kept_of_below HB7.out) HA.out⟩ (proper_ok hp).2)
        rw [hmay] at HMA
        have hm2 := hmay
        unfold mayB takesB at hm2
        simp only [Bool.and_eq_true, decide_eq_true_eq] at hm2
        obtain ⟨⟨hf0, hf1⟩, ⟨hpar, -⟩, hk0, hk1⟩ := hm2
        obtain ⟨n, rfl⟩ : ∃ n : Nat, f = n := ⟨f.toNat, by omega⟩
        obtain ⟨k, hk⟩ : ∃ k : Nat, fewZ steps = k := ⟨(fewZ steps).toNat, by omega⟩
        have hfa := (funAt_get (m := m) (i := (n : Int)) ⟨by omega, hf1⟩).1
        rw [Int.toNat_natCast] at hfa
        rw [hk] at hz HMA ⊢
        rw [Int.toNat_natCast, Int.toNat_natCast] at hz
        have HSE := Lib.hid hz
        have HRUN : Hid (∀ w', Below w7.heap.size w7 w' → Calls Tryz.prog 12 #[.agg #[.slice A m.length c], .int .i64 n, .slice Aa args.length ca, .int .i64 k] w' (ToldRR m n args k w')) := Lib.hid (fun w' hw' =>
          rrun_any m n _ args k _ _ w' (VMod.keep (kept_of_below (HB7.out.trans (hw'.mono HB7.out.size))) HM0.out) ⟨Aa, ca, rfl, SInts.keep (kept_of_below (HB7.out.trans (hw'.mono HB7.out.size))) HA.out⟩ (proper_ok hp).2 (fun g hg b hb x hx => by have := ((HS.out.2 g hg).2.2.2 b hb).2.2.2.1 x hx; omega) (by omega) hfa hpar)
        clear hp hmay hz hf0 hf1 hpar hk0 hk1 hk hfa
        go_wp2_with fail
        refine HMA.out.mono ?_
        rintro e w8 ⟨rfl, hb8⟩
        have HO8 := Lib.hid (HO7.out.keep (kept_of_below hb8))
        have q8 := kept_of_below hb8 _ _ q7
        have HB78 := Lib.hid hb8
        have HB8 : Hid (Below w.heap.size w w8) := Lib.hid (HB7.out.trans (hb8.mono HB7.out.size))
        clear hb8 HMA q7
        go_upto_region 14 with fail
        have hS : ∀ w' : World, Below w8.heap.size w8 w' → OutAt w' X s As cs ∧ w'.cell? ⟨w.heap.size, 0, none⟩ = some (.slice A m.length c) := fun w' h => ⟨HO8.out.keep (kept_of_below h), kept_of_below h _ _ q8⟩
        have hS0 := hS _ (Below.refl w8.heap.size w8).drew
        have hB0 := Lib.hid (Below.refl w8.heap.size w8).drew
        have HSS := Lib.hid hS
        clear hS q8
        refine wp_region_held_drew (S := fun w' => OutAt w' X s As cs ∧ w'.cell? ⟨w.heap.size, 0, none⟩ = some (.slice A m.length c)) (by kernel_rfl) hS0 (fun hHeld => ?_)
        clear hHeld
        refine takeH (i := 0) (some 85) (v := ?_) rfl (by kernel_rfl) (by kernel_rfl) (by kernel_rfl) (fun _ _ _ h => h) hS0 (fun o ho => ?_) ?_
        rotate_left
        · simp only [List.getElem?_toArray, List.getElem?_cons_zero, Option.some.injEq] at ho; subst ho; refine Or.inl ⟨by rfl, fun w' hSw => ?_⟩; (try dsimp only at hSw); go_simp; try with_reducible rfl
        simp only [Act.put, List.setIfInBounds_toArray, List.set_cons_zero, List.set_cons_succ]
        refine takeH (i := 1) (some 86) (v := ?_) rfl (by kernel_rfl) (by kernel_rfl) (by kernel_rfl) (fun _ _ _ h => h) hS0 (fun o ho => ?_) ?_
        rotate_left
        · simp only [List.getElem?_toArray, List.getElem?_cons_zero, List.getElem?_cons_succ, Option.some.injEq] at ho; subst ho; refine Or.inl ⟨by rfl, fun w' hSw => ?_⟩; (try dsimp only at hSw); go_simp; try with_reducible rfl
        simp only [Act.put, List.setIfInBounds_toArray, List.set_cons_zero, List.set_cons_succ]
        refine takeH (i := 2) (some 87) (v := ?_) rfl (by kernel_rfl) (by kernel_rfl) (by kernel_rfl) (fun _ _ _ h => h) hS0 (fun o ho => ?_) ?_
        rotate_left
        · simp only [List.getElem?_toArray, List.getElem?_cons_zero, List.getElem?_cons_succ, Option.some.injEq] at ho; subst ho; refine Or.inl ⟨by rfl, fun w' hSw => ?_⟩; (try dsimp only at hSw); go_simp; try with_reducible rfl
        simp only [Act.put, List.setIfInBounds_toArray, List.set_cons_zero, List.set_cons_succ]
        refine takeH (i := 3) (some 88) (v := ?_) rfl (by kernel_rfl) (by kernel_rfl) (by kernel_rfl) (fun _ _ _ h => h) hS0 (fun o ho => ?_) ?_
        rotate_left
        · simp only [List.getElem?_toArray, List.getElem?_cons_zero, List.getElem?_cons_succ, Option.some.injEq] at ho; subst ho; refine Or.inl ⟨by rfl, fun w' hSw => ?_⟩; (try dsimp only at hSw); go_simp; try with_reducible rfl
        simp only [Act.put, List.setIfInBounds_toArray, List.set_cons_zero, List.set_cons_succ]
        refine takeH (i := 4) (some 89) (v := ?_) rfl (by kernel_rfl) (by kernel_rfl) (by kernel_rfl) (fun _ _ _ h => h) hS0 (fun o ho => ?_) ?_
        rotate_left
        · simp only [List.getElem?_toArray, List.getElem?_cons_zero, List.getElem?_cons_succ, Option.some.injEq] at ho; subst ho; refine Or.inl ⟨by rfl, fun w' hSw => ?_⟩; (try dsimp only at hSw); go_simp; try with_reducible rfl
        simp only [Act.put, List.setIfInBounds_toArray, List.set_cons_zero, List.set_cons_succ]
        refine takeH (i := 5) (some 90) (v := ?_) rfl (by kernel_rfl) (by kernel_rfl) (by kernel_rfl) (fun _ _ _ h => h) hS0 (fun o ho => ?_) ?_
        rotate_left
        · simp only [List.getElem?_toArray, List.getElem?_cons_zero, List.getElem?_cons_succ, Option.some.injEq] at ho; subst ho; refine Or.inl ⟨by rfl, fun w' hSw => ?_⟩; (try dsimp only at hSw); go_simp; try with_reducible rfl
        simp only [Act.put, List.setIfInBounds_toArray, List.set_cons_zero, List.set_cons_succ]
        refine takeH (i := 6) (some 91) (v := .agg (outC s (.slice As s.out.length cs))) rfl (by kernel_rfl) (by kernel_rfl) (by kernel_rfl) (fun _ _ _ h => h) hS0 (fun o ho => ?_) ?_
        · simp only [List.getElem?_toArray, List.getElem?_cons_zero, List.getElem?_cons_succ, Option.some.injEq] at ho; subst ho; exact yieldsIf_load_out2 (by rfl) (.tmp 11) rfl X rfl (fun w' hSw => hSw.1)
        simp only [Act.put, List.setIfInBounds_toArray, List.set_cons_zero, List.set_cons_succ]
        refine takeH (i := 7) (some 92) (v := ?_) rfl (by kernel_rfl) (by kernel_rfl) (by kernel_rfl) (fun _ _ _ h => h) hS0 (fun o ho => ?_) ?_
        rotate_left
        · simp only [List.getElem?_toArray, List.getElem?_cons_zero, List.getElem?_cons_succ, Option.some.injEq] at ho; subst ho; refine Or.inl ⟨by rfl, fun w' hSw => ?_⟩; (try dsimp only at hSw); go_simp; try with_reducible rfl
        simp only [Act.put, List.setIfInBounds_toArray, List.set_cons_zero, List.set_cons_succ]
        refine takeH (i := 8) (some 93) (v := ?_) rfl (by kernel_rfl) (by kernel_rfl) (by kernel_rfl) (fun _ _ _ h => h) hS0 (fun o ho => ?_) ?_
        rotate_left
        · simp only [List.getElem?_toArray, List.getElem?_cons_zero, List.getElem?_cons_succ, Option.some.injEq] at ho; subst ho; refine Or.inl ⟨by rfl, fun w' hSw => ?_⟩; (try dsimp only at hSw); go_simp; try with_reducible rfl
        simp only [Act.put, List.setIfInBounds_toArray, List.set_cons_zero, List.set_cons_succ]
        refine takeH (i := 9) (some 94) (v := ?_) rfl (by kernel_rfl) (by kernel_rfl) (by kernel_rfl) (fun _ _ _ h => h) hS0 (fun o ho => ?_) ?_
        rotate_left
        · simp only [List.getElem?_toArray, List.getElem?_cons_zero, List.getElem?_cons_succ, Option.some.injEq] at ho; subst ho; refine Or.inl ⟨by rfl, fun w' hSw => ?_⟩; (try dsimp only at hSw); go_simp; try with_reducible rfl
        simp only [Act.put, List.setIfInBounds_toArray, List.set_cons_zero, List.set_cons_succ]
        refine takeH (i := 10) (some 95) (v := ?_) rfl (by kernel_rfl) (by kernel_rfl) (by kernel_rfl) (fun _ _ _ h => h) hS0 (fun o ho => ?_) ?_
        rotate_left
        · simp only [List.getElem?_toArray, List.getElem?_cons_zero, List.getElem?_cons_succ, Option.some.injEq] at ho; subst ho; refine Or.inl ⟨by rfl, fun w' hSw => ?_⟩; (try dsimp only at hSw); go_simp; try with_reducible rfl
        simp only [Act.put, List.setIfInBounds_toArray, List.set_cons_zero, List.set_cons_succ]
        refine oneH (i := 11) (by kernel_rfl) (fun o ho K hK => ?_)
        simp only [List.getElem?_toArray, List.getElem?_cons_zero, List.getElem?_cons_succ, Option.some.injEq] at ho; subst ho
        go_simp
        refine (HRUN.out _ (HB78.out.trans (hB0.out.mono HB78.out.size))).mono ?_
        rintro e w9 ⟨⟨Ar, cr, rfl, hsr⟩, hb9⟩
        have HB9 := Lib.hid (hB0.out.trans (hb9.mono hB0.out.size))
        have HSR := Lib.hid hsr
        clear hb9 hsr
        go_wp2_with fail
        refine hK.out _ _ (HSS.out _ HB9.out) ?_
        clear hK K
        try simp only [Act.put, List.setIfInBounds_toArray, List.set_cons_zero, List.set_cons_succ]
        refine oneH (i := 12) (by kernel_rfl) (fun o ho K hK => ?_)
        simp only [List.getElem?_toArray, List.getElem?_cons_zero, List.getElem?_cons_succ, Option.some.injEq] at ho; subst ho
        go_simp
        refine (sameO_any s (runS m n args k) As Ar cs cr w9 (HSS.out _ HB9.out).1.2 HSR.out).mono ?_
        rintro e w10 ⟨rfl, hb10⟩
        have HB10 := Lib.hid (HB9.out.trans (hb10.mono HB9.out.size))
        have hS8 := HSS.out _ HB10.out
        have HYES : Hid (sameS s (runS m n args k) = true) := Lib.hid (by rw [HSE.out]; exact same_refl _)
        rw [HYES.out]
        clear hb10
        go_wp2_with fail
        refine hK.out _ _ hS8 ?_
        clear hK K
        try simp only [Act.put, List.setIfInBounds_toArray, List.set_cons_zero, List.set_cons_succ]
        refine takeH (i := 13) (some 98) (v := ?_) rfl (by kernel_rfl) (by kernel_rfl) (by kernel_rfl) (fun _ _ _ h => h) hS8 (fun o ho => ?_) ?_
        rotate_left
        · simp only [List.getElem?_toArray, List.getElem?_cons_zero, List.getElem?_cons_succ, Option.some.injEq] at ho; subst ho; refine Or.inl ⟨by rfl, fun w' hSw => ?_⟩; (try dsimp only at hSw); go_simp; try with_reducible rfl
        simp only [Act.put, List.setIfInBounds_toArray, List.set_cons_zero, List.set_cons_succ]
        refine takeH (i := 14) (some 8) (v := ?_) rfl (by kernel_rfl) (by kernel_rfl) (by kernel_rfl) (fun _ _ _ h => h) hS8 (fun o ho => ?_) ?_
        rotate_left
        · simp only [List.getElem?_toArray, List.getElem?_cons_zero, List.getElem?_cons_succ, Option.some.injEq] at ho; subst ho; refine Or.inl ⟨by rfl, fun w' hSw => ?_⟩; (try dsimp only at hSw); go_simp; try with_reducible rfl
        simp only [Act.put, List.setIfInBounds_toArray, List.set_cons_zero, List.set_cons_succ]
        refine wpAnyH_done (by kernel_rfl) ?_ _
        go_wp2_with fail
        go_ret
        exact ⟨rfl, HB8.out.trans (HB10.out.mono HB8.out.size)⟩
end Go.Proofs.YtooblmiffgjmjaaGreatDoor
