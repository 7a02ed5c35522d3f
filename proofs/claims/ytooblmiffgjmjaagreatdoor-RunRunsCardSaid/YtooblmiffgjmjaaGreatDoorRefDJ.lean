/- The document's machine: a run. -/
import Derived.Test.YtooblmiffgjmjaaGreatDoorRnCJ
import Derived.Test.YtooblmiffgjmjaaGreatDoorRunOJ
import Derived.Test.YtooblmiffgjmjaaGreatDoorArMJ
import Derived.Deep.QuietTactic
import Derived.BigQuiet
namespace Go.Proofs.YtooblmiffgjmjaaGreatDoor
open Go.ChangeShapes Go.WideShapes Go.RowKit Go.Deep
set_option linter.unusedVariables false

theorem callP_all (K P most : Nat) (m : List FunD) (hall : ∀ g ∈ m, FunOk m g) (hsmF : ∀ g ∈ m, ∀ b ∈ g.blocks, ∀ x ∈ b.ins, x.args.length ≤ 1000) (hmost : most ≤ 1048576) (L : Nat) : CallP K P m most L := by
  induction L using Nat.strongRecOn with
  | ind L ih => exact rcall_any K P most m hall hsmF hmost L ih

theorem zero_ref : Tryz.zeroCells71 = refC zeroS (.slice none 0 0) (.slice none 0 0) 0 := by kernel_rfl
theorem zero_ref_set (vf : Value) (most : Int) : (Tryz.zeroCells71.setIfInBounds 0 vf).setIfInBounds 1 (.int .i64 most) = refC zeroS vf (.slice none 0 0) most := by
  rw [zero_ref]
  apply Array.ext
  · simp [refC]
  · intro j h1 h2
    have hj : j < 71 := by simpa [refC] using h1
    rw [Array.getElem_setIfInBounds (by simpa [refC] using hj), Array.getElem_setIfInBounds (by simpa [refC] using hj)]
    simp only [refC, Array.getElem_ofFn]
    unfold cellR
    by_cases e1 : 1 = j
    · rw [if_pos e1, if_neg (by omega), if_pos e1.symm]
    · rw [if_neg e1]
      by_cases e0 : 0 = j
      · rw [if_pos e0, if_pos e0.symm]
      · rw [if_neg e0, if_neg (Ne.symm e0), if_neg (Ne.symm e0), if_neg (Ne.symm e1), if_neg (Ne.symm e1)]
theorem loadR_out {K P : Nat} {m : List FunD} {most : Int} {w : World} {s : St} {vf vo : Value} (h : RfM K P m most w s vf vo) : (Instr.loadAt 31 (.pointer (some ⟨P, 2, none⟩))).run Tryz.prog w = .ok (.agg (outC s vo)) w := by
  have hl := run_loadCells_list (P := Tryz.prog) (w := w) ⟨P, 2, none⟩ (outC s vo).toList (fun j v hv => by
    rw [add_plain']
    have hj : j < 69 := by have := (List.getElem?_eq_some_iff.1 hv).1; rwa [Array.length_toList, outC_size] at this
    rw [Array.getElem?_toList] at hv
    have h2 := outC_get s (qo vo) hj
    rw [h.cell (by omega)]
    unfold cellR
    rw [if_neg (by omega), if_neg (by omega), show 261 + (2 + j) = 263 + j by omega]
    exact h2.symm.trans hv)
  rw [Array.length_toList, outC_size, Array.toArray_toList] at hl
  have hagg : (isAgg 31).run Tryz.prog w = .ok true w := by
    unfold isAgg
    rw [Sem.run_bind, run_underlying Tryz.underlying31 w]
    rfl
  have hsz : (sizeOf 31).run Tryz.prog w = .ok 69 w := by
    have := out_size
    cases hq : Tryz.prog.info? 31 with
    | none => simp [hq] at this
    | some i => simp [hq] at this; simp [sizeOf, typeInfo, hq, this]
  simp only [Instr.loadAt, Instr.sureAddr, loadVar, Sem.run_bind, Sem.run_pure, Result.andThen_ok, hagg, hsz, hl, if_true]
def ToldRR (m : List FunD) (f : Nat) (l : List Int) (k : Nat) (w : World) (e : Ending) (w' : World) : Prop :=
  (∃ A c, e = .returned (.agg (outC (runS m f l k) (.slice A (runS m f l k).out.length c))) ∧ SL w' 1 RW A c (runS m f l k).out) ∧ Below w.heap.size w w'
/-- The end of a run: what was told is loaded, and lies in the result. -/
theorem rend {K P g B : Nat} {m : List FunD} {most : Int} {w w5 : World} {s : St} {vf vo : Value} (h : RfM K P m most w5 s vf vo) (hb : Below B w w5) (hg : w5.heap[g]? = some (.cells Tryz.zeroCells31 31 (0, 0))) (hgB : B ≤ g) (hgK : g < K) :
    ∃ A c, vo = .slice A s.out.length c ∧ (Instr.storeAt 31 (.pointer (some ⟨g, 0, none⟩)) (.agg (outC s (.slice A s.out.length c)))).run Tryz.prog w5 = .ok () (w5.setRow g (outC s (.slice A s.out.length c))) ∧
      (w5.setRow g (outC s (.slice A s.out.length c))).heap[g]? = some (.cells (outC s (.slice A s.out.length c)) 31 (0, 0)) ∧ SL (w5.setRow g (outC s (.slice A s.out.length c))) 1 RW A c s.out ∧ Below B w (w5.setRow g (outC s (.slice A s.out.length c))) := by
  obtain ⟨A, c, hv, hs⟩ := sl_of_own h.out rfl
  subst hv
  refine ⟨A, c, rfl, store_out hg zero_out_size rfl, setRow_heap w5 g _ _ _ _ hg, SL.imp (fun b o x hx => (World.cell?_of_block (a := ⟨b, o, none⟩) (setRow_other w5 g b _ (by have := hx.1; omega))).trans hx.2) hs, hb.trans (below_row hgB)⟩

set_option maxRecDepth 100000 in
set_option maxHeartbeats 8000000 in
theorem rrun_any (m : List FunD) (f : Nat) (F : FunD) (l : List Int) (k : Nat) (v vl : Value) (w : World) (hv : VMod w v m) (hl : VS w 1 RInt vl l) (hall : ∀ g ∈ m, FunOk m g) (hsmF : ∀ g ∈ m, ∀ b ∈ g.blocks, ∀ x ∈ b.ins, x.args.length ≤ 1000) (hk : k ≤ 1048576) (hf : m[f]? = some F) (hlp : (l.length : Int) = F.params) :
    Calls Tryz.prog 12 #[v, .int .i64 f, vl, .int .i64 k] w (ToldRR m f l k w) := by
  obtain ⟨Am, cm, rfl, hm⟩ := hv
  obtain ⟨w3, hw3⟩ : ∃ w3, w3 = ((w.alloc (.cells #[.slice Am m.length cm] 24)).alloc (.cells Tryz.zeroCells31 31)).alloc (.cells ((Tryz.zeroCells71.setIfInBounds 0 (.slice Am m.length cm)).setIfInBounds 1 (.int .i64 k)) 71) := ⟨_, rfl⟩
  have hB3 : Below w.heap.size w w3 := by rw [hw3]; exact (((Below.refl _ _).alloc (Nat.le_refl _) _).alloc (by simp) _).alloc (by simp; omega) _
  have hs3 : w3.heap.size = w.heap.size + 3 := by rw [hw3]; simp
  have hr3 : w3.heap[w.heap.size + 1]? = some (.cells Tryz.zeroCells31 31 (0, 0)) := by
    rw [hw3]
    refine (Below.heap_alloc _ _ _ (by simp)).trans ?_
    have := heap_alloc_new (w.alloc (.cells #[.slice Am m.length cm] 24)) (.cells Tryz.zeroCells31 31)
    rwa [show (w.alloc (.cells #[.slice Am m.length cm] 24)).heap.size = w.heap.size + 1 by simp] at this
  have hp3 : w3.heap[w.heap.size + 2]? = some (.cells (refC zeroS (.slice Am m.length cm) (.slice none 0 0) k) 71 (0, 0)) := by
    rw [hw3, zero_ref_set]
    have := heap_alloc_new ((w.alloc (.cells #[.slice Am m.length cm] 24)).alloc (.cells Tryz.zeroCells31 31)) (.cells (refC zeroS (.slice Am m.length cm) (.slice none 0 0) k) 71)
    rwa [show ((w.alloc (.cells #[.slice Am m.length cm] 24)).alloc (.cells Tryz.zeroCells31 31)).heap.size = w.heap.size + 2 by simp] at this
  obtain ⟨P, hP⟩ : ∃ P, P = w.heap.size + 2 := ⟨_, rfl⟩
  rw [← hP] at hp3
  have hM : RfM (P + 1) P m k w3 (startS f l) (.slice Am m.length cm) (.slice none 0 0) := by
    have h0 : RfM (P + 1) P m k w3 zeroS (.slice Am m.length cm) (.slice none 0 0) :=
      ⟨hp3, ⟨Am, cm, rfl, SL.imp (fun b o x hx => RFunB.go (B := fun b => b < w.heap.size) (w := w) (w' := w3) (fun a v _ h => kept_of_below hB3 _ _ h) (fun b hb => ⟨by omega, by omega⟩) b o x (rfun_b b o x hx)) hm⟩, World.ownsRow_nil _ _ _ _, by omega, by omega, fun k => by show I64 0; unfold I64; decide⟩
    exact h0.ghost ⟨rfl, rfl, rfl, rfl, rfl, rfl⟩
  have hl3 : VS w3 1 RInt vl l := by obtain ⟨A, c, e, h⟩ := hl; exact ⟨A, c, e, SInts.keep (kept_of_below hB3) h⟩
  have HCALL := Lib.hid (callP_all (P + 1) P k m hall hsmF hk k f F l vl w3 (startS f l) (.slice Am m.length cm) (.slice none 0 0) hf hlp hl3 hM rfl rfl (Nat.zero_le _) (Nat.sub_le _ _) (Nat.le_refl _))
  have HB3 := Lib.hid hB3
  have HX3 : Hid (w3.heap.size = w.heap.size + 3 ∧ P = w.heap.size + 2) := Lib.hid ⟨hs3, hP⟩
  have HR3 := Lib.hid hr3
  have HRB : Hid (∀ (w' : World) (vo' : Value), Mv NoX P w3 w' (.slice none 0 0) vo' → Below w.heap.size w w' ∧ w'.heap[w.heap.size + 1]? = some (.cells Tryz.zeroCells31 31 (0, 0))) := Lib.hid (fun w' vo' hm =>
    ⟨HB3.out.trans (hm.below (by have := HX3.out; omega) (by have := HX3.out; omega) (fun _ e => e.elim) (fun g hg => by cases hg)), (hm.block _ (by have := HX3.out; omega) (by have := HX3.out; omega) (fun e => e) (fun e => by cases e)).trans HR3.out⟩)
  clear hB3 hs3 hr3 hp3 hM hl3 hm hall hsmF hf hlp hl
  go_enter Tryz.func12, Tryz.ntmps12
  go_upto_region 2 with fail
  rw [← hw3, show w.heap.size + 1 + 1 = P by omega]
  clear hw3 hP
  go_wp2_with fail
  refine HCALL.out.mono ?_
  rintro e w4 (⟨vo', u, j, t, rfl, hg, htd, hts, htn, htm, hu64, hM4, hv4⟩ | ⟨vo', rfl, hM4, hv4⟩)
  · have x2 : w4.cell? ⟨P, 2, none⟩ = some (.bool t.done) := hM4.cell (by omega)
    have x4 : w4.cell? ⟨P, 4, none⟩ = some (.int .i64 t.value) := hM4.cell (by omega)
    have y2 := hM4.free 2
    have y4 := hM4.free 4
    have HM5 : Hid (RfM (P + 1) P m k (w4.setCell ⟨P, 2, none⟩ (.bool true)) { t with done := true } (.slice Am m.length cm) vo') := Lib.hid
      (hM4.set (by omega) (set_mid (i := 263) (by omega) (by omega) rfl rfl rfl (mid_cases (fun _ => rfl) (fun _ => rfl) (fun _ => rfl) (fun _ => rfl) (fun h => absurd rfl h) (fun _ => rfl) (fun _ => rfl) (fun _ => rfl) (fun _ => rfl))) rfl hM4.m64)
    have HM6 : Hid (RfM (P + 1) P m k ((w4.setCell ⟨P, 2, none⟩ (.bool true)).setCell ⟨P, 4, none⟩ (.int .i64 u)) { t with done := true, value := u } (.slice Am m.length cm) vo') := Lib.hid
      (HM5.out.set (by omega) (set_mid (i := 265) (by omega) (by omega) rfl rfl rfl (mid_cases (fun _ => rfl) (fun _ => rfl) (fun _ => rfl) (fun _ => rfl) (fun _ => rfl) (fun _ => rfl) (fun h => absurd rfl h) (fun _ => rfl) (fun _ => rfl))) rfl hM4.m64)
    have HE : Hid ({ t with done := true, value := u } = runS m f l k) := Lib.hid (by
      have h1 : giveS m t u = { t with done := true, value := u } := by unfold giveS; rw [hts]; rfl
      have h2 : (startS f l).steps = 0 := rfl
      unfold runS
      rw [show k = (j + 1) + (k - (j + 1)) by omega, loopS_add, hg, h1, loopS_done rfl])
    have HV6 := Lib.hid ((hv4.trans (Mv.set NoX P vo' w4 (p := ⟨P, 2, none⟩) (.inl rfl) (.bool true))).trans (Mv.set NoX P vo' _ (p := ⟨P, 4, none⟩) (.inl rfl) (.int .i64 u)))
    clear hg htd hts htn htm hu64 hM4 hv4
    go_upto_region 6 with fail
    clear x2 x4 y2 y4
    generalize (w4.setCell ⟨P, 2, none⟩ (.bool true)).setCell ⟨P, 4, none⟩ (.int .i64 u) = w6 at *
    have hM7 := HM6.out
    rw [HE.out] at hM7
    obtain ⟨A, c, rfl, hst', hgw, hsl, hbl⟩ := rend hM7 (HRB.out _ _ HV6.out).1 (HRB.out _ _ HV6.out).2 (by omega) (by have := HX3.out; omega)
    have hld := loadR_out hM7
    have HGW := Lib.hid hgw
    have HTO : Hid (SL _ 1 RW A c (runS m f l k).out ∧ Below w.heap.size w _) := Lib.hid (And.intro hsl hbl)
    clear hM7 hgw hsl hbl HM5 HM6 HV6
    go_step
    go_step
    go_simp
    go_step
    go_step
    go_simp
    go_step
    go_step
    go_simp
    go_step
    refine wpList_load_any w6 rfl 31 (.tmp 35) rfl _ (by rfl) hld ?_
    refine wpList_store_any w6 rfl 31 (.tmp 8) (.tmp 36) rfl _ _ (by rfl) (by rfl) hst' ?_
    go_wp2_with fail
    refine bodyPost_ret (results_cell_row rfl _ _ (w.heap.size + 1) 31 (outC (runS m f l k) (.slice A (runS m f l k).out.length c)) (0, 0) _ (by rfl) HGW.out Tryz.underlying31 (by rfl) (by rw [outC_size]; exact out_size)) rfl ?_
    exact ⟨⟨A, c, rfl, HTO.out.1⟩, HTO.out.2⟩
  · have hM7 : RfM (P + 1) P m k w4 (runS m f l k) (.slice Am m.length cm) vo' := hM4
    obtain ⟨A, c, rfl, hst', hgw, hsl, hbl⟩ := rend hM7 (HRB.out _ _ hv4).1 (HRB.out _ _ hv4).2 (by omega) (by have := HX3.out; omega)
    have hld := loadR_out hM7
    have HGW := Lib.hid hgw
    have HTO : Hid (SL _ 1 RW A c (runS m f l k).out ∧ Below w.heap.size w _) := Lib.hid (And.intro hsl hbl)
    clear hM7 hgw hsl hbl hM4 hv4
    go_upto_region 6 with fail
    go_step
    go_step
    go_simp
    go_step
    go_step
    go_simp
    go_step
    go_step
    go_simp
    go_step
    refine wpList_load_any w4 rfl 31 (.tmp 35) rfl _ (by rfl) hld ?_
    refine wpList_store_any w4 rfl 31 (.tmp 8) (.tmp 36) rfl _ _ (by rfl) (by rfl) hst' ?_
    go_wp2_with fail
    refine bodyPost_ret (results_cell_row rfl _ _ (w.heap.size + 1) 31 (outC (runS m f l k) (.slice A (runS m f l k).out.length c)) (0, 0) _ (by rfl) HGW.out Tryz.underlying31 (by rfl) (by rw [outC_size]; exact out_size)) rfl ?_
    exact ⟨⟨A, c, rfl, HTO.out.1⟩, HTO.out.2⟩
end Go.Proofs.YtooblmiffgjmjaaGreatDoor

/- The document's machine: may a function be run so? -/
namespace Go.Proofs.YtooblmiffgjmjaaGreatDoor
open Go.ChangeShapes Go.WideShapes Go.RowKit Go.Deep
set_option linter.unusedVariables false

theorem fit_all {F : FunD} {l : List Int} {k : Nat} {t a : Int} (ht : F.regs[k]? = some t) (ha : l[k]? = some a) : ((F.regs.zip l).take (k + 1)).all fitB = (((F.regs.zip l).take k).all fitB && fitB (t, a)) := by
  have h : (F.regs.zip l)[k]? = some (t, a) := by rw [List.getElem?_zip_eq_some]; exact ⟨ht, ha⟩
  rw [List.take_add_one, h, List.all_append]; simp
theorem fit_bad {F : FunD} {l : List Int} {k : Nat} {t a : Int} (ht : F.regs[k]? = some t) (ha : l[k]? = some a) (hb : fitB (t, a) = false) : (F.regs.zip l).all fitB = false := by
  have h : (F.regs.zip l)[k]? = some (t, a) := by rw [List.getElem?_zip_eq_some]; exact ⟨ht, ha⟩
  rw [Bool.eq_false_iff]
  intro hh
  have := List.all_eq_true.1 hh _ (List.mem_of_getElem? h)
  rw [hb] at this; cases this

set_option maxRecDepth 100000 in
set_option maxHeartbeats 8000000 in
theorem rmay_any (m : List FunD) (f : Int) (l : List Int) (k : Int) (v vl : Value) (w : World) (hv : VMod w v m) (hl : VS w 1 RInt vl l) (hall : ∀ g ∈ m, FunOk m g) :
    Calls Tryz.prog 11 #[v, .int .i64 f, vl, .int .i64 k] w fun e w' => e = .returned (.bool (mayB m f l k)) ∧ Below w.heap.size w w' := by
  obtain ⟨Am, cm, rfl, hm⟩ := hv
  obtain ⟨Al, cl, rfl, hls⟩ := hl
  have hml := hm.len
  have hll := hls.len
  obtain ⟨w1, hw1, hs1, hk1, hB1, hc1, -⟩ := named w #[.slice Am m.length cm] 24
  have q0 : w1.cell? ⟨w.heap.size, 0, none⟩ = some (.slice Am m.length cm) := hc1 0 _ rfl
  have hm1 := SFuns.keep hk1 hm
  have hl1 := SInts.keep hk1 hls
  have HB1 := Lib.hid hB1
  have HALL := Lib.hid hall
  clear hs1 hk1 hB1 hc1 hm hls hall
  by_cases h1 : f < 0
  · have HE : Hid (mayB m f l k = false) := Lib.hid (by unfold mayB; rw [decide_eq_false (by omega)]; rfl)
    clear hm1 hl1
    go_enter Tryz.func11, Tryz.ntmps11
    go_upto_region 1 with fail
    rw [← hw1]; clear hw1
    go_wp2_with fail
    go_ret
    exact ⟨by rw [HE.out]; rfl, HB1.out⟩
  have b1 : decide (f < 0) = false := decide_eq_false h1
  by_cases h2 : (m.length : Int) ≤ f
  · have HE : Hid (mayB m f l k = false) := Lib.hid (by unfold mayB; rw [decide_eq_false (by omega)]; rfl)
    clear hm1 hl1
    go_enter Tryz.func11, Tryz.ntmps11
    go_upto_region 1 with fail
    rw [← hw1]; clear hw1
    go_wp2_with fail
    go_ret
    exact ⟨by rw [HE.out]; rfl, HB1.out⟩
  have b2 : decide ((m.length : Int) ≤ f) = false := decide_eq_false h2
  by_cases h3 : k < 0
  · have HE : Hid (mayB m f l k = false) := Lib.hid (by unfold mayB; rw [decide_eq_false (show ¬ (0 ≤ k ∧ k < ((1048577 : Nat) : Int)) by omega)]; simp)
    clear hm1 hl1
    go_enter Tryz.func11, Tryz.ntmps11
    go_upto_region 1 with fail
    rw [← hw1]; clear hw1
    go_wp2_with fail
    go_ret
    exact ⟨by rw [HE.out]; rfl, HB1.out⟩
  have b3 : decide (k < 0) = false := decide_eq_false h3
  by_cases h4 : 1048576 < k
  · have HE : Hid (mayB m f l k = false) := Lib.hid (by unfold mayB; rw [decide_eq_false (show ¬ (0 ≤ k ∧ k < ((1048577 : Nat) : Int)) by omega)]; simp)
    clear hm1 hl1
    go_enter Tryz.func11, Tryz.ntmps11
    go_upto_region 1 with fail
    rw [← hw1]; clear hw1
    go_wp2_with fail
    go_ret
    exact ⟨by rw [HE.out]; rfl, HB1.out⟩
  have b4 : decide (1048576 < k) = false := decide_eq_false h4
  obtain ⟨n, rfl⟩ : ∃ n : Nat, f = n := ⟨f.toNat, by omega⟩
  have hnl : n < m.length := by omega
  obtain ⟨b, o, F, rfl, hF, ⟨c0, z0⟩, ⟨c1, z1⟩, ⟨Ar, cr, c2, z2⟩, -⟩ := hm1.at_ hnl
  have hG := HALL.out F (List.mem_of_getElem? hF.out)
  have hn0 : (0 : Int) ≤ n := by omega
  have hn1 : (n : Int) < m.length := by omega
  have HFA : Hid (funAt m n = F) := Lib.hid (by unfold funAt; rw [Int.toNat_natCast]; exact getD_of hF.out)
  have HMF : Hid (mayB m n l k = (decide ((l.length : Int) = F.params) && (F.regs.zip l).all fitB)) := Lib.hid (by
    unfold mayB takesB; rw [decide_eq_true ⟨hn0, hn1⟩, decide_eq_true (show (0 ≤ k ∧ k < ((1048577 : Nat) : Int)) by omega), HFA.out]; simp)
  have HG := Lib.hid hG
  have HL1 := Lib.hid hl1
  have HZ2 := Lib.hid z2
  by_cases h5 : (l.length : Int) = F.params
  · have HM2 : Hid (mayB m n l k = (F.regs.zip l).all fitB) := Lib.hid (by rw [HMF.out, decide_eq_true h5]; rfl)
    have hlr : l.length ≤ F.regs.length := by have := hG.par.2.2; omega
    have e5 : ((l.length : Int) != F.params) = false := by rw [h5]; simp
    clear h5 hm1 hl1 hF z0 z1 z2 hG HMF c1
    go_enter Tryz.func11, Tryz.ntmps11
    go_upto_region 1 with fail
    rw [← hw1]; clear hw1
    go_wp2_with fail
    go_loopw [9] (fun s9 wq => ∃ i : Nat, i ≤ l.length ∧ s9 = .int .i64 (i : Int) ∧ ((F.regs.zip l).take i).all fitB = true ∧ wq = w1) (fun s9 _ => l.length - (intOf s9).toNat)
    case atStart => exact ⟨0, Nat.zero_le _, rfl, rfl, rfl⟩
    case round =>
      obtain ⟨i, hi, rfl, hall, rfl⟩ := hrel
      have HA := Lib.hid hall
      clear hall
      by_cases hil : i < l.length
      · obtain ⟨br, or_, t, rfl, ht, htc, -⟩ := HZ2.out.int (k := i) (by omega)
        obtain ⟨bl, ol, a, rfl, ha, hac, -⟩ := HL1.out.int hil
        have HFT := Lib.hid (fit_all ht.out ha.out)
        have HFB := Lib.hid (fun h => fit_bad (F := F) (l := l) ht.out ha.out h)
        have hi0 : (0 : Int) ≤ i := by omega
        have hi1 : (i : Int) < l.length := by omega
        have hi2 : (i : Int) < F.regs.length := by omega
        clear ht ha
        by_cases t2 : t = 2
        · subst t2
          by_cases a0 : a = 0
          · subst a0
            have HN : Hid (((F.regs.zip l).take (i + 1)).all fitB = true) := Lib.hid (by rw [HFT.out, HA.out]; rfl)
            go_wp2_with fail
            go_roundw
            case rel => exact ⟨i + 1, by omega, by go_num, HN.out, trivial⟩
            case measure => simp [intOf]; omega
          · have e0 : (a != 0) = true := by simpa using a0
            by_cases a1 : a = 1
            · subst a1
              have HN : Hid (((F.regs.zip l).take (i + 1)).all fitB = true) := Lib.hid (by rw [HFT.out, HA.out]; rfl)
              clear a0
              go_wp2_with fail
              go_roundw
              case rel => exact ⟨i + 1, by omega, by go_num, HN.out, trivial⟩
              case measure => simp [intOf]; omega
            · have e1 : (a != 1) = true := by simpa using a1
              have HN : Hid (mayB m n l k = false) := Lib.hid (by
                rw [HM2.out]
                refine HFB.out ?_
                unfold fitB
                rw [decide_eq_false (show ¬ (0 ≤ a ∧ a < ((2 : Nat) : Int)) by omega)]; rfl)
              clear a0 a1
              go_wp2_with fail
              go_ret
              exact ⟨by rw [HN.out]; rfl, HB1.out⟩
        · have e2 : (t == 2) = false := by rw [beq_eq_false_iff_ne]; exact t2
          have HN : Hid (((F.regs.zip l).take (i + 1)).all fitB = true) := Lib.hid (by
            rw [HFT.out, HA.out]; unfold fitB
            have : (t != 2) = true := by simpa using t2
            rw [this]; rfl)
          clear t2
          go_wp2_with fail
          go_roundw
          case rel => exact ⟨i + 1, by omega, by go_num, HN.out, trivial⟩
          case measure => simp [intOf]; omega
      · have HN : Hid (mayB m n l k = true) := Lib.hid (by
          rw [HM2.out]
          have := HA.out
          rwa [List.take_of_length_le (by rw [List.length_zip]; omega)] at this)
        go_wp2_with fail
        go_ret
        exact ⟨by rw [HN.out]; rfl, HB1.out⟩
  · have HE : Hid (mayB m n l k = false) := Lib.hid (by rw [HMF.out, decide_eq_false h5]; rfl)
    have e5 : ((l.length : Int) != F.params) = true := by simpa using h5
    clear hm1 hl1 h5 hF z0 z1 z2 hG c1 HMF
    go_enter Tryz.func11, Tryz.ntmps11
    go_upto_region 1 with fail
    rw [← hw1]; clear hw1
    go_wp2_with fail
    go_ret
    exact ⟨by rw [HE.out]; rfl, HB1.out⟩
end Go.Proofs.YtooblmiffgjmjaaGreatDoor

/- The reference's small functions of layer 2: is, worst, end. -/
namespace Go.Proofs.YtooblmiffgjmjaaGreatDoor
open Go.ChangeShapes Go.WideShapes Go.RowKit Go.Deep
set_option linter.unusedVariables false

/-- Is a register there, and of a type (below 0: of any)? -/
def isE (regs : List Int) (r t : Int) : Int := if 0 ≤ r ∧ r < regs.length then (if 0 ≤ t ∧ reg regs r ≠ t then 3 else 0) else 4
def worstE (a b : Int) : Int := if a = 4 ∨ b = 4 then 4 else if a ≠ 0 then a else b

theorem worst_any (a b : Int) (w : World) : Calls Tryz.prog 28 #[.int .i64 a, .int .i64 b] w fun e w' => e = .returned (.int .i64 (worstE a b)) ∧ w = w' := by
  by_cases h1 : a = 4
  · have HE : Hid (worstE a b = 4) := Lib.hid (if_pos (.inl h1))
    have h1' : (a == 4) = true := by simp [h1]
    clear h1
    go_enter Tryz.func28, Tryz.ntmps28
    go_wp2_with fail
    go_ret
    exact ⟨by rw [HE.out]; rfl, rfl⟩
  · have h1' : (a == 4) = false := by simp [h1]
    by_cases h2 : b = 4
    · have HE : Hid (worstE a b = 4) := Lib.hid (if_pos (.inr h2))
      have h2' : (b == 4) = true := by simp [h2]
      clear h1 h2
      go_enter Tryz.func28, Tryz.ntmps28
      go_wp2_with fail
      go_ret
      exact ⟨by rw [HE.out]; rfl, rfl⟩
    · have h2' : (b == 4) = false := by simp [h2]
      by_cases h3 : a = 0
      · have HE : Hid (worstE a b = b) := Lib.hid (by unfold worstE; rw [if_neg (by omega), if_neg (by omega)])
        have h3' : (a != 0) = false := by simp [h3]
        clear h1 h2 h3
        go_enter Tryz.func28, Tryz.ntmps28
        go_wp2_with fail
        go_ret
        exact ⟨by rw [HE.out]; rfl, rfl⟩
      · have HE : Hid (worstE a b = a) := Lib.hid (by unfold worstE; rw [if_neg (by omega), if_pos h3])
        have h3' : (a != 0) = true := by rw [bne_iff_ne]; exact h3
        clear h1 h2 h3
        go_enter Tryz.func28, Tryz.ntmps28
        go_wp2_with fail
        go_ret
        exact ⟨by rw [HE.out]; rfl, rfl⟩

set_option maxRecDepth 100000 in
set_option maxHeartbeats 1000000 in
theorem is_reg (f : FunD) (v : Value) (r t : Int) (w : World) (hv : VFun w v f) (ht : I64 t) :
    Calls Tryz.prog 27 #[v, .int .i64 r, .int .i64 t] w fun e w' => e = .returned (.int .i64 (isE f.regs r t)) ∧ Below w.heap.size w w' := by
  obtain ⟨Ar, cr, Ab, cb, rfl, hr, -, -, -⟩ := hv
  have hrl := hr.len
  have hB : Below w.heap.size w (w.alloc (.cells #[.int .i64 f.params, .int .i64 f.result, .slice Ar f.regs.length cr, .slice Ab f.blocks.length cb] 52)) := (Below.refl _ _).alloc (Nat.le_refl _) _
  by_cases h1 : r < 0
  · have HE : Hid (isE f.regs r t = 4) := Lib.hid (if_neg (by omega))
    have h1' : decide (r < 0) = true := by simpa using h1
    go_enter Tryz.func27, Tryz.ntmps27
    go_wp2_with fail
    go_ret
    exact ⟨by rw [HE.out]; rfl, hB⟩
  · have h1' : decide (r < 0) = false := by simpa using h1
    obtain ⟨k, rfl⟩ := Int.eq_ofNat_of_zero_le (Int.not_lt.1 h1)
    by_cases h2 : k < f.regs.length
    · have h2' : decide ((f.regs.length : Int) ≤ k) = false := by simp; omega
      have h2c : (k : Int) < f.regs.length := by omega
      obtain ⟨b, o, x, rfl, hx, hxc, -⟩ := hr.int h2
      have hrg : reg f.regs k = x := reg_of rfl hx.out
      have hblt := block_lt_of_cell hxc
      dsimp only at hblt
      by_cases h3 : 0 ≤ t
      · have h3' : decide (0 ≤ t) = true := by simpa using h3
        by_cases h4 : x = t
        · have HE : Hid (isE f.regs k t = 0) := Lib.hid (by unfold isE; rw [if_pos (by omega), if_neg (by rw [hrg]; exact fun h => h.2 h4)])
          have h4' : (x != t) = false := by simp [h4]
          clear h4 hrg h1
          go_enter Tryz.func27, Tryz.ntmps27
          go_wp2_with fail
          go_ret
          exact ⟨by rw [HE.out]; rfl, hB⟩
        · have HE : Hid (isE f.regs k t = 3) := Lib.hid (by unfold isE; rw [if_pos (by omega), if_pos (by rw [hrg]; exact ⟨h3, h4⟩)])
          have h4' : (x != t) = true := by rw [bne_iff_ne]; exact h4
          clear h4 hrg h1
          go_enter Tryz.func27, Tryz.ntmps27
          go_wp2_with fail
          go_ret
          exact ⟨by rw [HE.out]; rfl, hB⟩
      · have h3' : decide (0 ≤ t) = false := by simpa using h3
        have HE : Hid (isE f.regs k t = 0) := Lib.hid (by unfold isE; rw [if_pos (by omega), if_neg (fun h => h3 h.1)])
        clear hrg h1
        go_enter Tryz.func27, Tryz.ntmps27
        go_wp2_with fail
        go_ret
        exact ⟨by rw [HE.out]; rfl, hB⟩
    · have HE : Hid (isE f.regs k t = 4) := Lib.hid (if_neg (by omega))
      have h2' : decide ((f.regs.length : Int) ≤ k) = true := by simp; omega
      have h2c : (f.regs.length : Int) ≤ k := by omega
      go_enter Tryz.func27, Tryz.ntmps27
      go_wp2_with fail
      go_ret
      exact ⟨by rw [HE.out]; rfl, hB⟩

set_option maxRecDepth 100000 in
set_option maxHeartbeats 1000000 in
theorem end_ref (f : FunD) (t : TermD) (v u : Value) (w : World) (hv : VFun w v f) (hu : VTerm w u t) (hk : t.kind = 1 ∨ t.kind = 2 ∨ t.kind = 3) (hres : 0 ≤ f.result) :
    Calls Tryz.prog 30 #[v, u] w fun e w' => e = .returned (.int .i64 (termE f t)) ∧ Below w.heap.size w w' := by
  have hv0 := hv
  obtain ⟨Ar, cr, Ab, cb, rfl, hr, hb, hp64, hr64⟩ := hv
  obtain ⟨At, ct, rfl, hto, hk64, ha64⟩ := hu
  have hB : Below w.heap.size w ((w.alloc (.cells #[.int .i64 f.params, .int .i64 f.result, .slice Ar f.regs.length cr, .slice Ab f.blocks.length cb] 52)).alloc (.cells #[.int .i64 t.kind, .int .i64 t.arg, .slice At t.to.length ct] 45)) := ((Below.refl _ _).alloc (Nat.le_refl _) _).alloc (by simp) _
  by_cases h2 : t.kind = 2
  · have HE : Hid (isE f.regs t.arg 2 = termE f t) := Lib.hid (by
      unfold termE wantOf isE
      rw [if_pos h2, if_neg (show ¬ (2 : Int) = 0 by decide)]
      by_cases h : 0 ≤ t.arg ∧ t.arg < f.regs.length
      · rw [if_pos h, if_pos h]
        by_cases h' : reg f.regs t.arg = 2
        · rw [if_pos h', if_neg (fun x => x.2 h')]
        · rw [if_neg h', if_pos ⟨by decide, h'⟩]
      · rw [if_neg h, if_neg h])
    have h2' : (t.kind == 2) = true := by simp [h2]
    clear h2 hk
    go_enter Tryz.func30, Tryz.ntmps30
    go_wp2_with fail
    refine (is_reg f _ t.arg 2 _ (VFun.keep (kept_of_below hB) hv0) (by unfold I64; omega)).mono ?_
    rintro e w1 ⟨rfl, hb1⟩
    rw [HE.out]
    go_wp2_with fail
    go_ret
    exact ⟨rfl, hB.trans (hb1.mono hB.size)⟩
  · have h2' : (t.kind == 2) = false := by simp [h2]
    by_cases h3 : t.kind = 3
    · have h3' : (t.kind == 3) = true := by simp [h3]
      by_cases h0 : f.result = 0
      · have h0' : (f.result != 0) = false := by simp [h0]
        by_cases ha : t.arg = -1
        · have HE : Hid (termE f t = 0) := Lib.hid (by unfold termE wantOf; rw [if_neg h2, if_pos h3, if_pos h0, if_pos ha])
          have ha' : (t.arg != -1) = false := by simp [ha]
          clear h2 h3 h0 ha hk
          go_enter Tryz.func30, Tryz.ntmps30
          go_wp2_with fail
          go_ret
          exact ⟨by rw [HE.out]; rfl, hB⟩
        · have HE : Hid (termE f t = 3) := Lib.hid (by unfold termE wantOf; rw [if_neg h2, if_pos h3, if_pos h0, if_neg ha])
          have ha' : (t.arg != -1) = true := by rw [bne_iff_ne]; exact ha
          clear h2 h3 h0 ha hk
          go_enter Tryz.func30, Tryz.ntmps30
          go_wp2_with fail
          go_ret
          exact ⟨by rw [HE.out]; rfl, hB⟩
      · have h0' : (f.result != 0) = true := by rw [bne_iff_ne]; exact h0
        have HE : Hid (isE f.regs t.arg f.result = termE f t) := Lib.hid (by
          unfold termE wantOf isE
          rw [if_neg h2, if_pos h3, if_neg h0]
          by_cases h : 0 ≤ t.arg ∧ t.arg < f.regs.length
          · rw [if_pos h, if_pos h]
            by_cases h' : reg f.regs t.arg = f.result
            · rw [if_pos h', if_neg (fun x => x.2 h')]
            · rw [if_neg h', if_pos ⟨hres, h'⟩]
          · rw [if_neg h, if_neg h])
        clear h2 h3 h0 hk
        go_enter Tryz.func30, Tryz.ntmps30
        go_wp2_with fail
        refine (is_reg f _ t.arg f.result _ (VFun.keep (kept_of_below hB) hv0) hr64).mono ?_
        rintro e w1 ⟨rfl, hb1⟩
        rw [HE.out]
        go_wp2_with fail
        go_ret
        exact ⟨rfl, hB.trans (hb1.mono hB.size)⟩
    · have h3' : (t.kind == 3) = false := by simp [h3]
      by_cases ha : t.arg = -1
      · have HE : Hid (termE f t = 0) := Lib.hid (by unfold termE wantOf; rw [if_neg h2, if_neg h3, if_pos rfl, if_pos ha])
        have ha' : (t.arg != -1) = false := by simp [ha]
        clear h2 h3 ha hk
        go_enter Tryz.func30, Tryz.ntmps30
        go_wp2_with fail
        go_ret
        exact ⟨by rw [HE.out]; rfl, hB⟩
      · have HE : Hid (termE f t = 3) := Lib.hid (by unfold termE wantOf; rw [if_neg h2, if_neg h3, if_pos rfl, if_neg ha])
        have ha' : (t.arg != -1) = true := by rw [bne_iff_ne]; exact ha
        clear h2 h3 ha hk
        go_enter Tryz.func30, Tryz.ntmps30
        go_wp2_with fail
        go_ret
        exact ⟨by rw [HE.out]; rfl, hB⟩
end Go.Proofs.YtooblmiffgjmjaaGreatDoor

/- The reference's shape of a block's end. -/
namespace Go.Proofs.YtooblmiffgjmjaaGreatDoor
open Go.ChangeShapes Go.WideShapes Go.RowKit Go.Deep
set_option linter.unusedVariables false

set_option maxRecDepth 100000 in
set_option maxHeartbeats 8000000 in
theorem shape_any (f : FunD) (t : TermD) (v u : Value) (w : World) (hv : VFun w v f) (hu : VTerm w u t) :
    Calls Tryz.prog 49 #[v, u] w fun e w' => e = .returned (.bool (shapeB f.blocks.length t)) ∧ Below w.heap.size w w' := by
  obtain ⟨Ar, cr, Ab, cb, rfl, hr, hb, hp64, hr64⟩ := hv
  obtain ⟨At, ct, rfl, hto, hk64, ha64⟩ := hu
  have hbl := hb.len
  have htl := hto.len
  obtain ⟨w1, hw1⟩ : ∃ w1, w1 = ((w.alloc (.cells #[.int .i64 f.params, .int .i64 f.result, .slice Ar f.regs.length cr, .slice Ab f.blocks.length cb] 52)).alloc (.cells #[.int .i64 t.kind, .int .i64 t.arg, .slice At t.to.length ct] 45)) := ⟨_, rfl⟩
  have hB : Below w.heap.size w w1 := by rw [hw1]; exact ((Below.refl _ _).alloc (Nat.le_refl _) _).alloc (by simp) _
  have hto := SInts.keep (kept_of_below hB) hto
  have hc3 : w1.cell? ⟨w.heap.size, 3, none⟩ = some (.slice Ab f.blocks.length cb) := by rw [hw1]; simp
  have hd0 : w1.cell? ⟨w.heap.size + 1, 0, none⟩ = some (.int .i64 t.kind) := by rw [hw1]; simp
  have hd2 : w1.cell? ⟨w.heap.size + 1, 2, none⟩ = some (.slice At t.to.length ct) := by rw [hw1]; simp
  have hs1 : w.heap.size + 1 < w1.heap.size := by rw [hw1]; simp
  go_enter Tryz.func49, Tryz.ntmps49
  go_wp2_with fail
  rw [← hw1]
  clear hw1
  go_loopw [5] (fun i wr => ∃ j q : Nat, j ≤ t.to.length ∧ i = .int .i64 j ∧ Hid ((t.to.take j).all (toB f.blocks.length) = true) ∧ wr = w1.drewN q) (fun i _ => t.to.length - (intOf i).toNat)
  case atStart => exact ⟨0, 0, Nat.zero_le _, rfl, Lib.hid rfl, rfl⟩
  case round =>
    obtain ⟨j, q, hj, rfl, hj2, rfl⟩ := hrel
    by_cases hjt : j < t.to.length
    · obtain ⟨b', o', x, rfl, hx, hxc, -⟩ := hto.int hjt
      have hk0 : (0 : Int) ≤ j := by omega
      have hk1 : (j : Int) < t.to.length := by omega
      by_cases x1 : x < 1
      · have HF : Hid (toB f.blocks.length x = false) := Lib.hid (decide_eq_false (by omega))
        have x1' : decide (x < 1) = true := by simpa using x1
        clear x1
        go_wp2_with fail
        go_quiet (fail)
        go_wp2_with fail
        go_ret
        exact ⟨by rw [show shapeB f.blocks.length t = false by unfold shapeB; rw [all_stop hx.out HF.out]; simp]; rfl, below_drewN (below_drewN hB _) _⟩
      · have x1' : decide (x < 1) = false := by simpa using x1
        by_cases x2 : (f.blocks.length : Int) ≤ x
        · have HF : Hid (toB f.blocks.length x = false) := Lib.hid (decide_eq_false (by omega))
          have x2' : decide ((f.blocks.length : Int) ≤ x) = true := by simpa using x2
          clear x1 x2
          go_wp2_with fail
          go_quiet (fail)
          go_wp2_with fail
          go_ret
          exact ⟨by rw [show shapeB f.blocks.length t = false by unfold shapeB; rw [all_stop hx.out HF.out]; simp]; rfl, below_drewN (below_drewN hB _) _⟩
        · have HF : Hid (toB f.blocks.length x = true) := Lib.hid (decide_eq_true (by omega))
          have x2' : decide ((f.blocks.length : Int) ≤ x) = false := by simpa using x2
          clear x1 x2
          go_wp2_with fail
          go_quiet (fail)
          go_wp2_with fail
          go_roundw
          case rel => exact ⟨j + 1, _, by omega, by go_num, Lib.hid (by rw [all_step hx.out hj2.out]; exact HF.out), rfl⟩
          case measure => simp [intOf]; omega
    · have hd := all_done hj2.out (Nat.le_of_not_lt hjt)
      have HD : Hid (shapeB f.blocks.length t = tosB t) := Lib.hid (by unfold shapeB; rw [hd, Bool.and_true])
      clear hd hj2
      by_cases k1 : t.kind = 1
      · have HT : Hid (tosB t = decide (t.to.length = 1)) := Lib.hid (by unfold tosB; rw [if_pos k1])
        have k1' : (t.kind == 1) = true := by simp [k1]
        have k2' : (t.kind == 2) = false := by simp [k1]
        have k3' : (t.kind == 3) = false := by simp [k1]
        by_cases l1 : t.to.length = 1
        · have l1' : ((t.to.length : Int) == 1) = true := by simp [l1]
          have HT' : Hid (tosB t = true) := Lib.hid (by rw [HT.out, decide_eq_true l1])
          clear k1 l1 HT
          go_wp2_with fail
          go_quiet (fail)
          go_wp2_with fail
          go_ret
          exact ⟨by rw [HD.out, HT'.out]; rfl, below_drewN (below_drewN hB _) _⟩
        · have l1' : ((t.to.length : Int) == 1) = false := by simp; omega
          have HT' : Hid (tosB t = false) := Lib.hid (by rw [HT.out, decide_eq_false l1])
          clear k1 l1 HT
          go_wp2_with fail
          go_quiet (fail)
          go_wp2_with fail
          go_ret
          exact ⟨by rw [HD.out, HT'.out]; rfl, below_drewN (below_drewN hB _) _⟩
      · have k1' : (t.kind == 1) = false := by simp [k1]
        by_cases k2 : t.kind = 2
        · have HT : Hid (tosB t = (decide (t.to.length = 2) && decide (t.to.getD 0 0 ≠ t.to.getD 1 0))) := Lib.hid (by unfold tosB; rw [if_neg k1, if_pos k2])
          have k2' : (t.kind == 2) = true := by simp [k2]
          have k3' : (t.kind == 3) = false := by simp [k2]
          by_cases l2 : t.to.length = 2
          · have l2' : ((t.to.length : Int) == 2) = true := by simp [l2]
            have g0 : 0 < t.to.length := by omega
            have g1 : 1 < t.to.length := by omega
            have g1' : (1 : Int) < t.to.length := by omega
            have g0' : (0 : Int) < t.to.length := by omega
            obtain ⟨b', o', x, rfl, hx, hxc, -⟩ := hto.int g0
            obtain ⟨b2, o2, y, he, hy, hyc, -⟩ := hto.int g1
            obtain ⟨rfl, rfl⟩ : b' = b2 ∧ o' = o2 := by simpa using he
            have hltx := block_lt_of_cell hxc
            have l2'' : 2 ≤ t.to.length := by omega
            simp only [Nat.add_zero] at hxc
            have HX : Hid (t.to.getD 0 0 = x) := Lib.hid (by rw [List.getD_eq_getElem?_getD, hx.out]; rfl)
            have HY : Hid (t.to.getD 1 0 = y) := Lib.hid (by rw [List.getD_eq_getElem?_getD, hy.out]; rfl)
            by_cases hxy : x = y
            · have hxy' : (x != y) = false := by simp [hxy]
              have HT' : Hid (tosB t = false) := Lib.hid (by rw [HT.out, HX.out, HY.out, decide_eq_true l2, decide_eq_false (fun h => h hxy)]; rfl)
              clear k1 k2 l2 HT hxy g0 g1 g0' g1' HX HY
              go_wp2_with fail
              go_quiet (fail)
              go_wp2_with fail
              go_ret
              exact ⟨by rw [HD.out, HT'.out]; rfl, below_drewN (below_drewN hB _) _⟩
            · have hxy' : (x != y) = true := by rw [bne_iff_ne]; exact hxy
              have HT' : Hid (tosB t = true) := Lib.hid (by rw [HT.out, HX.out, HY.out, decide_eq_true l2, decide_eq_true hxy]; rfl)
              clear k1 k2 l2 HT hxy g0 g1 g0' g1' HX HY
              go_wp2_with fail
              go_quiet (fail)
              go_wp2_with fail
              go_ret
              exact ⟨by rw [HD.out, HT'.out]; rfl, below_drewN (below_drewN hB _) _⟩
          · have l2' : ((t.to.length : Int) == 2) = false := by simp; omega
            have HT' : Hid (tosB t = false) := Lib.hid (by rw [HT.out, decide_eq_false l2]; rfl)
            clear k1 k2 l2 HT
            go_wp2_with fail
            go_quiet (fail)
            go_wp2_with fail
            go_ret
            exact ⟨by rw [HD.out, HT'.out]; rfl, below_drewN (below_drewN hB _) _⟩
        · have k2' : (t.kind == 2) = false := by simp [k2]
          by_cases k3 : t.kind = 3
          · have HT : Hid (tosB t = decide (t.to.length = 0)) := Lib.hid (by unfold tosB; rw [if_neg k1, if_neg k2, if_pos k3])
            have k3' : (t.kind == 3) = true := by simp [k3]
            by_cases l0 : t.to.length = 0
            · have l0' : ((t.to.length : Int) == 0) = true := by rw [l0]; rfl
              have HT' : Hid (tosB t = true) := Lib.hid (by rw [HT.out, decide_eq_true l0])
              clear k1 k2 k3 l0 HT
              go_wp2_with fail
              go_quiet (fail)
              go_wp2_with fail
              go_ret
              exact ⟨by rw [HD.out, HT'.out]; rfl, below_drewN (below_drewN hB _) _⟩
            · have l0' : ((t.to.length : Int) == 0) = false := by rw [beq_eq_false_iff_ne]; omega
              have HT' : Hid (tosB t = false) := Lib.hid (by rw [HT.out, decide_eq_false l0])
              clear k1 k2 k3 l0 HT
              go_wp2_with fail
              go_quiet (fail)
              go_wp2_with fail
              go_ret
              exact ⟨by rw [HD.out, HT'.out]; rfl, below_drewN (below_drewN hB _) _⟩
          · have HT' : Hid (tosB t = false) := Lib.hid (by unfold tosB; rw [if_neg k1, if_neg k2, if_neg k3])
            have k3' : (t.kind == 3) = false := by simp [k3]
            clear k1 k2 k3
            go_wp2_with fail
            go_quiet (fail)
            go_wp2_with fail
            go_ret
            exact ⟨by rw [HD.out, HT'.out]; rfl, below_drewN (below_drewN hB _) _⟩
end Go.Proofs.YtooblmiffgjmjaaGreatDoor
