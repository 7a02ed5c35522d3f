/- Whether a function may be entered so; a run. -/
import Derived.Test.YtcjmhdneelmbhaaMacPJ
import Derived.Test.YtcjmhdneelmbhaaLimJ
import Derived.Test.YtcjmhdneelmbhaaArEJ
import Derived.Laws.StructEq
import Derived.Test.YtcjmhdneelmbhaaSpecJ
namespace Go.Proofs.Ytcjmhdneelmbhaa
open Go.ChangeShapes Go.WideShapes Go.RowKit Go.Deep
set_option linter.unusedVariables false

def fitB (p : Int × Int) : Bool := (p.1 != 2) || decide (0 ≤ p.2 ∧ p.2 < ((2 : Nat) : Int))
/-- May a function be entered with these arguments? -/
def takesB (F : FunD) (args : List Int) : Bool := decide ((args.length : Int) = F.params) && (F.regs.zip args).all fitB

set_option maxRecDepth 100000 in
set_option maxHeartbeats 4000000 in
theorem takes_any (F : FunD) (args : List Int) (v : Value) (A : Option Addr) (c : Nat) (w : World) (hv : VFun w v F) (ha : SL w 1 RInt A c args) (hp : F.params ≤ F.regs.length) :
    Calls Try.prog 29 #[v, .slice A args.length c] w fun e w' => e = .returned (.bool (takesB F args)) ∧ Below w.heap.size w w' := by
  obtain ⟨Ar, cr, Ab, cb, rfl, hr, hb, hp64, hr64⟩ := hv
  have hal := ha.len
  have hrl := hr.len
  obtain ⟨w1, hw1, hs1, hk1, hB1, hc1, -⟩ := named w #[.int .i64 F.params, .int .i64 F.result, .slice Ar F.regs.length cr, .slice Ab F.blocks.length cb] 43
  have d0 : w1.cell? ⟨w.heap.size, 0, none⟩ = some (.int .i64 F.params) := hc1 0 _ rfl
  have d2 : w1.cell? ⟨w.heap.size, 2, none⟩ = some (.slice Ar F.regs.length cr) := hc1 2 _ rfl
  have ha1 := SInts.keep hk1 ha
  have hr1 := SInts.keep hk1 hr
  have hlt : w.heap.size < w1.heap.size := by omega
  by_cases hl : (args.length : Int) = F.params
  · have hlb : ((args.length : Int) != F.params) = false := by simp [hl]
    have HT : Hid (takesB F args = (F.regs.zip args).all fitB) := Lib.hid (by unfold takesB; rw [decide_eq_true hl]; rfl)
    have HLE : Hid (args.length ≤ F.regs.length) := Lib.hid (by omega)
    have HB1 := Lib.hid hB1
    clear hl hc1 hs1 hk1 hB1 ha hr hb
    go_enter Try.func29, Try.ntmps29
    go_wp2_with fail
    rw [← hw1]
    clear hw1
    go_loopw [14] (fun i wr => ∃ j : Nat, j ≤ args.length ∧ i = .int .i64 j ∧ Hid (((F.regs.zip args).take j).all fitB = true) ∧ wr = w1) (fun i _ => args.length - (intOf i).toNat)
    case atStart => exact ⟨0, Nat.zero_le _, rfl, Lib.hid rfl, rfl⟩
    case round =>
      obtain ⟨j, hj, rfl, hi, rfl⟩ := hrel
      by_cases hjt : j < args.length
      · have hjr : j < F.regs.length := by have := HLE.out; omega
        obtain ⟨b, o, a, rfl, hx, hxc, -⟩ := ha1.int hjt
        obtain ⟨b2, o2, t, rfl, ht, htc, -⟩ := hr1.int hjr
        have HZ : Hid ((F.regs.zip args)[j]? = some (t, a)) := Lib.hid (by rw [List.getElem?_zip_eq_some]; exact ⟨ht.out, hx.out⟩)
        have hj0 : (0 : Int) ≤ j := by omega
        have hj1 : (j : Int) < args.length := by omega
        have hj2 : (j : Int) < F.regs.length := by omega
        have HST := Lib.hid (all_step HZ.out hi.out)
        by_cases h2 : t = 2
        · have h2b : (t == 2) = true := by simp [h2]
          by_cases hb : 0 ≤ a ∧ a < ((2 : Nat) : Int)
          · have hd : decide (0 ≤ a ∧ a < ((2 : Nat) : Int)) = true := decide_eq_true hb
            have HF : Hid (fitB (t, a) = true) := Lib.hid (by unfold fitB; dsimp only; rw [hd]; simp)
            have HW := Lib.hid (within_any a 2 wr)
            rw [hd] at HW
            clear h2 hb hd
            go_wp2_with fail
            refine HW.out.mono ?_
            rintro e w' ⟨rfl, rfl⟩
            go_wp2_with fail
            go_roundw
            case rel => exact ⟨j + 1, by omega, by go_num, Lib.hid (by rw [HST.out]; exact HF.out), trivial⟩
            case measure => simp [intOf]; omega
          · have hd : decide (0 ≤ a ∧ a < ((2 : Nat) : Int)) = false := decide_eq_false hb
            have HF : Hid (fitB (t, a) = false) := Lib.hid (by unfold fitB; dsimp only; rw [hd, h2]; rfl)
            have HW := Lib.hid (within_any a 2 wr)
            rw [hd] at HW
            have HE : Hid (takesB F args = false) := Lib.hid (by rw [HT.out]; exact all_stop HZ.out HF.out)
            clear h2 hb hd
            go_wp2_with fail
            refine HW.out.mono ?_
            rintro e w' ⟨rfl, rfl⟩
            go_wp2_with fail
            go_ret
            exact ⟨by rw [HE.out]; rfl, HB1.out⟩
        · have h2b : (t == 2) = false := by simp [h2]
          have HF : Hid (fitB (t, a) = true) := Lib.hid (by unfold fitB; simp [h2])
          clear h2
          go_wp2_with fail
          go_roundw
          case rel => exact ⟨j + 1, by omega, by go_num, Lib.hid (by rw [HST.out]; exact HF.out), trivial⟩
          case measure => simp [intOf]; omega
      · have HE : Hid (takesB F args = true) := Lib.hid (by rw [HT.out]; exact all_done hi.out (by rw [List.length_zip]; have := HLE.out; omega))
        go_wp2_with fail
        go_ret
        exact ⟨by rw [HE.out]; rfl, HB1.out⟩
  · have hlb : ((args.length : Int) != F.params) = true := by rw [bne_iff_ne]; exact hl
    have HE : Hid (takesB F args = false) := Lib.hid (by unfold takesB; rw [decide_eq_false hl]; rfl)
    have HB1 := Lib.hid hB1
    clear hl hc1 hs1 hk1 hB1 ha hr hb
    go_enter Try.func29, Try.ntmps29
    go_wp2_with fail
    rw [← hw1]
    go_ret
    exact ⟨by rw [HE.out]; rfl, HB1.out⟩
end Go.Proofs.Ytcjmhdneelmbhaa

/- A run: what run.Run tells. (Written by gen/genmacs.py.) -/
namespace Go.Proofs.Ytcjmhdneelmbhaa
open Go.ChangeShapes Go.WideShapes Go.RowKit Go.Deep
set_option linter.unusedVariables false

theorem results_two {P : Program} {fn : Func} {p u : Tmp} {ty : TypeId} (h : fn.results = #[.cell p ty, .tmp u]) : fn.results = #[.cell p ty, .tmp u] := h
theorem zero_out : Try.zeroCells49 = outC zeroS (.slice none 0 0) := by kernel_rfl
theorem store_zero {g : Nat} {w : World} (hg : w.heap[g]? = some (.cells Try.zeroCells49 49 (0, 0))) :
    (Instr.storeAt 49 (.pointer (some ⟨g, 0, none⟩)) (.agg Try.zeroCells49)).run Try.prog w = .ok () (w.setRow g Try.zeroCells49) := by
  have := store_out (s := zeroS) (vo := .slice none 0 0) hg zero_out_size rfl
  rwa [← zero_out] at this
theorem zero_first : Try.zeroCells49[0]? = some (.bool false) := by kernel_rfl
theorem err_row {w : World} {R : Nat} {cs : Array Value} {v : Value} {p : Int × Int} (h : ErrAt w v p) (hR : w.heap[R]? = some (.cells Try.zeroCells49 49 (0, 0))) : ErrAt (w.setRow R cs) v p := by
  rcases h with h1 | h1 | ⟨h1, h2, g, h3, h4, h5⟩
  · exact .inl h1
  · exact .inr (.inl h1)
  · have hg : g ≠ R := fun e => by
      subst e
      have := h4.symm.trans ((cell_of_block hR 0).trans zero_first)
      cases this
    exact .inr (.inr ⟨h1, h2, g, h3, (World.cell?_of_block (a := ⟨g, 0, none⟩) (setRow_other w R g cs hg)).trans h4, (World.cell?_of_block (a := ⟨g, 1, none⟩) (setRow_other w R g cs hg)).trans h5⟩)
theorem below_row {B g : Nat} {w : World} {cs : Array Value} (h : B ≤ g) : Below B w (w.setRow g cs) := ⟨rfl, rfl, rfl, by simp [World.setRow], fun k hk => setRow_other w g k cs (by omega)⟩

/-- May a proper module's function be run so? -/
def mayB (m : List FunD) (f : Int) (args : List Int) (steps : Int) : Bool := decide (0 ≤ f ∧ f < m.length) && (takesB (funAt m f) args && decide (0 ≤ steps ∧ steps < ((1048577 : Nat) : Int)))
/-- What a run tells. -/
def ToldRun (m : List FunD) (f : Int) (args : List Int) (steps : Int) (w : World) (e : Ending) (w' : World) : Prop :=
  ∃ o err, e = .returned (.tuple #[o, err]) ∧ Below w.heap.size w w' ∧
    ((¬ Proper m ∧ ErrAt w' err (modE m) ∧ o = .agg (outC zeroS (.slice none 0 0))) ∨
     (Proper m ∧ mayB m f args steps = false ∧ err = .iface 57 (.int .i64 1) ∧ o = .agg (outC zeroS (.slice none 0 0))) ∨
     (Proper m ∧ mayB m f args steps = true ∧ err = .nilIface ∧ ∃ A c, o = .agg (outC (runS m f.toNat args steps.toNat) (.slice A (runS m f.toNat args steps.toNat).out.length c)) ∧ OwnO w' w.heap.size A c (runS m f.toNat args steps.toNat).out))

set_option maxRecDepth 100000 in
set_option maxHeartbeats 16000000 in
theorem run_any (m : List FunD) (f : Int) (args : List Int) (steps : Int) (v : Value) (A : Option Addr) (c : Nat) (w : World) (hv : VMod w v m) (ha : SL w 1 RInt A c args) (hsm : SmallM m) (hf64 : I64 f) (hs64 : I64 steps) :
    Calls Try.prog 12 #[v, .int .i64 f, .slice A args.length c, .int .i64 steps] w (ToldRun m f args steps w) := by
  have hv0 := hv
  obtain ⟨Am, cm, rfl, hm⟩ := hv
  have hml := hm.len
  obtain ⟨w2, hw2⟩ : ∃ w2, w2 = (w.alloc (.cells #[.slice Am m.length cm] 24)).alloc (.cells Try.zeroCells49 49) := ⟨_, rfl⟩
  have hB2 : Below w.heap.size w w2 := by rw [hw2]; exact ((Below.refl _ _).alloc (Nat.le_refl _) _).alloc (by simp) _
  have hs2 : w2.heap.size = w.heap.size + 2 := by rw [hw2]; simp
  have q0 : w2.cell? ⟨w.heap.size, 0, none⟩ = some (.slice Am m.length cm) := by rw [hw2]; simp
  have hr2 : w2.heap[w.heap.size + 1]? = some (.cells Try.zeroCells49 49 (0, 0)) := by
    rw [hw2]
    have := heap_alloc_new (w.alloc (.cells #[.slice Am m.length cm] 24)) (.cells Try.zeroCells49 49)
    rwa [show (w.alloc (.cells #[.slice Am m.length cm] 24)).heap.size = w.heap.size + 1 by simp] at this
  have HV2 := Lib.hid (VMod.keep (kept_of_below hB2) hv0)
  have HM := Lib.hid hm
  have HA := Lib.hid ha
  have HSM := Lib.hid hsm
  have HF64 := Lib.hid hf64
  have HS64 := Lib.hid hs64
  have HR2 := Lib.hid hr2
  have HBB2 := Lib.hid hB2
  clear hv0 hm ha hsm hf64 hs64 hr2 hB2
  go_enter Try.func12, Try.ntmps12
  go_wp2_with fail
  rw [← hw2]
  clear hw2
  refine (module_any ofIns m _ _ HV2.out (lim_of_small HSM.out)).mono ?_
  rintro e w3 ⟨⟨ve, rfl, hErr⟩, hb3⟩
  have HRS : Hid (∀ w', Below w2.heap.size w2 w' → w'.heap[w.heap.size + 1]? = some (.cells Try.zeroCells49 49 (0, 0))) := Lib.hid (fun w' h => (h.block _ (by omega)).trans HR2.out)
  have q3 := kept_of_below hb3 _ _ q0
  have HB3 : Hid (Below w2.heap.size w2 w3) := Lib.hid hb3
  have hlt3 : w.heap.size < w3.heap.size := by have := hb3.size; omega
  have HERR := Lib.hid hErr
  clear q0 hb3 hErr
  by_cases hp : Proper m
  · have hve := HERR.out.nil hp
    subst hve
    have HPR := Lib.hid hp
    clear hp
    go_wp2_with fail
    refine (within_any f m.length w3).mono ?_
    rintro e w4 ⟨rfl, rfl⟩
    by_cases h1 : 0 ≤ f ∧ f < m.length
    · rw [decide_eq_true h1]
      have HB := HB3
      obtain ⟨n, hn⟩ : ∃ n : Nat, f = n := ⟨f.toNat, by omega⟩
      have hnl : n < m.length := by omega
      have hk3 : Kept w w3 := kept_of_below (HBB2.out.trans (HB3.out.mono HBB2.out.size))
      obtain ⟨b, o, F, rfl, hF, ⟨c0, z0⟩, ⟨c1, z1⟩, ⟨Ar, cr, c2, z2⟩, ⟨Ab, cb, c3, z3⟩⟩ := (SFuns.keep hk3 HM.out).at_ hnl
      have hG := (proper_ok HPR.out).2 F (List.mem_of_getElem? hF.out)
      have HTK := Lib.hid (takes_any F args (.agg #[.int .i64 F.params, .int .i64 F.result, .slice Ar F.regs.length cr, .slice Ab F.blocks.length cb]) A c w3 ⟨Ar, cr, Ab, cb, rfl, z2, z3, z0, z1⟩ (SInts.keep hk3 HA.out) hG.par.2.2)
      have HFA : Hid (funAt m f = F) := Lib.hid (by unfold funAt; rw [hn, Int.toNat_natCast]; exact getD_of hF.out)
      have HFN := Lib.hid hF.out
      have hn0 : (0 : Int) ≤ n := by omega
      have hn1 : (n : Int) < m.length := by omega
      have HMF : Hid (mayB m f args steps = (takesB F args && decide (0 ≤ steps ∧ steps < ((1048577 : Nat) : Int)))) := Lib.hid (by unfold mayB; rw [decide_eq_true h1, HFA.out]; rfl)
      have HG := Lib.hid hG
      have HK3 := Lib.hid hk3
      clear h1 z0 z1 z2 z3 hF hG hk3
      subst hn
      go_wp2_with fail
      refine HTK.out.mono ?_
      rintro e w5 ⟨rfl, hb5⟩
      have q5 := kept_of_below hb5 _ _ q3
      have HB : Hid (Below w2.heap.size w2 w5) := Lib.hid (HB3.out.trans (hb5.mono HB3.out.size))
      have hlt5 : w.heap.size < w5.heap.size := by have := hb5.size; omega
      have HK5 := Lib.hid (HK3.out.trans (kept_of_below hb5))
      clear q3 hb5 c0 c1 c2 c3 HTK hlt3
      cases ht : takesB F args
      · have HMAY : Hid (mayB m n args steps = false) := Lib.hid (by rw [HMF.out, ht]; rfl)
        clear ht
        have hres' := HRS.out w5 HB.out
        have hst' := store_zero hres'
        have hgw := setRow_heap w5 (w.heap.size + 1) _ Try.zeroCells49 _ _ hres'
        have HGW := Lib.hid hgw
        have HFB : Hid (Below w.heap.size w (w5.setRow (w.heap.size + 1) Try.zeroCells49)) := Lib.hid ((HBB2.out.trans (HB.out.mono HBB2.out.size)).trans (below_row (by omega)))
        clear hres' hgw
        go_upto_region 5 with fail
        go_step
        go_step
        go_simp
        go_step
        go_step
        go_simp
        go_step
        refine wpList_store_any w5 rfl 49 (.tmp 8) (.tmp 38) rfl _ _ (by rfl) (by rfl) hst' ?_
        clear hst'
        go_wp2_with fail
        refine bodyPost_ret (results_cell_row_tmp rfl _ _ (w.heap.size + 1) 49 Try.zeroCells49 (0, 0) _ (by rfl) HGW.out Try.underlying49 (by rfl) (by kernel_rfl)) rfl ?_
        exact ⟨_, _, rfl, HFB.out, .inr (.inl ⟨HPR.out, HMAY.out, rfl, by rw [zero_out]⟩)⟩
      · have HT := Lib.hid ht
        clear ht
        go_wp2_with fail
        refine (within_any steps 1048577 w5).mono ?_
        rintro e w6 ⟨rfl, rfl⟩
        by_cases h2 : 0 ≤ steps ∧ steps < ((1048577 : Nat) : Int)
        · rw [decide_eq_true h2]
          have HMAY : Hid (mayB m n args steps = true) := Lib.hid (by rw [HMF.out, HT.out, decide_eq_true h2]; rfl)
          obtain ⟨k, hk⟩ : ∃ k : Nat, steps = k := ⟨steps.toNat, by omega⟩
          subst hk
          have HOUT := Lib.hid (outcome_any m w5 n args k (some ⟨b, o, none⟩) A cm c (SFuns.keep HK5.out HM.out) (SInts.keep HK5.out HA.out) (fun g hg => (HSM.out.2 g hg).1) HSM.out.1 HPR.out F HFN.out (by
            have := HT.out; unfold takesB at this; rw [Bool.and_eq_true] at this; exact of_decide_eq_true this.1) (fun g hg b hb x hx => by have := ((HSM.out.2 g hg).2.2.2 b hb).2.2.2.1 x hx; omega) (by omega))
          clear h2
          go_wp2_with fail
          refine HOUT.out.mono ?_
          rintro e w6 ⟨⟨Ao, co, rfl, hso⟩, hb6⟩
          have hr6 := HRS.out w6 (HB.out.trans (hb6.mono HB.out.size))
          have hst' := store_out (s := runS m n args k) (vo := .slice Ao (runS m n args k).out.length co) hr6 zero_out_size rfl
          have hgw := setRow_heap w6 (w.heap.size + 1) _ (outC (runS m n args k) (.slice Ao (runS m n args k).out.length co)) _ _ hr6
          have HGW := Lib.hid hgw
          have hb7 : Below w.heap.size w w6 := (HBB2.out.trans (HB.out.mono HBB2.out.size)).trans (hb6.mono (HBB2.out.trans (HB.out.mono HBB2.out.size)).size)
          have HFB : Hid (Below w.heap.size w (w6.setRow (w.heap.size + 1) (outC (runS m n args k) (.slice Ao (runS m n args k).out.length co)))) := Lib.hid (hb7.trans (below_row (by omega)))
          have HSO : Hid (OwnO (w6.setRow (w.heap.size + 1) (outC (runS m n args k) (.slice Ao (runS m n args k).out.length co))) w.heap.size Ao co (runS m n args k).out) := Lib.hid (OwnO.row hso (by have := HB.out.size; omega) (by have := HB.out.size; omega))
          clear hr6 hgw hb7 hso hb6 q5
          dsimp only
          go_step
          refine wpList_store_any w6 rfl 49 (.tmp 8) (.tmp 45) rfl _ _ (by rfl) (by rfl) hst' ?_
          clear hst'
          go_wp2_with fail
          refine bodyPost_ret (results_cell_row_tmp rfl _ _ (w.heap.size + 1) 49 (outC (runS m n args k) (.slice Ao (runS m n args k).out.length co)) (0, 0) _ (by rfl) HGW.out Try.underlying49 (by rfl) (by rw [outC_size]; exact out_size)) rfl ?_
          exact ⟨_, _, rfl, HFB.out, .inr (.inr ⟨HPR.out, HMAY.out, rfl, Ao, co, rfl, HSO.out⟩)⟩
        · rw [decide_eq_false h2]
          have HMAY : Hid (mayB m n args steps = false) := Lib.hid (by rw [HMF.out, HT.out, decide_eq_false h2]; rfl)
          clear h2
          have hres' := HRS.out w5 HB.out
          have hst' := store_zero hres'
          have hgw := setRow_heap w5 (w.heap.size + 1) _ Try.zeroCells49 _ _ hres'
          have HGW := Lib.hid hgw
          have HFB : Hid (Below w.heap.size w (w5.setRow (w.heap.size + 1) Try.zeroCells49)) := Lib.hid ((HBB2.out.trans (HB.out.mono HBB2.out.size)).trans (below_row (by omega)))
          clear hres' hgw
          go_upto_region 5 with fail
          go_step
          go_step
          go_simp
          go_step
          go_step
          go_simp
          go_step
          refine wpList_store_any w5 rfl 49 (.tmp 8) (.tmp 38) rfl _ _ (by rfl) (by rfl) hst' ?_
          clear hst'
          go_wp2_with fail
          refine bodyPost_ret (results_cell_row_tmp rfl _ _ (w.heap.size + 1) 49 Try.zeroCells49 (0, 0) _ (by rfl) HGW.out Try.underlying49 (by rfl) (by kernel_rfl)) rfl ?_
          exact ⟨_, _, rfl, HFB.out, .inr (.inl ⟨HPR.out, HMAY.out, rfl, by rw [zero_out]⟩)⟩
    · rw [decide_eq_false h1]
      have HMAY : Hid (mayB m f args steps = false) := Lib.hid (by unfold mayB; rw [decide_eq_false h1]; rfl)
      have HB := HB3
      clear h1
      have hres' := HRS.out w3 HB.out
      have hst' := store_zero hres'
      have hgw := setRow_heap w3 (w.heap.size + 1) _ Try.zeroCells49 _ _ hres'
      have HGW := Lib.hid hgw
      have HFB : Hid (Below w.heap.size w (w3.setRow (w.heap.size + 1) Try.zeroCells49)) := Lib.hid ((HBB2.out.trans (HB.out.mono HBB2.out.size)).trans (below_row (by omega)))
      clear hres' hgw
      go_upto_region 5 with fail
      go_step
      go_step
      go_simp
      go_step
      go_step
      go_simp
      go_step
      refine wpList_store_any w3 rfl 49 (.tmp 8) (.tmp 38) rfl _ _ (by rfl) (by rfl) hst' ?_
      clear hst'
      go_wp2_with fail
      refine bodyPost_ret (results_cell_row_tmp rfl _ _ (w.heap.size + 1) 49 Try.zeroCells49 (0, 0) _ (by rfl) HGW.out Try.underlying49 (by rfl) (by kernel_rfl)) rfl ?_
      exact ⟨_, _, rfl, HFB.out, .inr (.inl ⟨HPR.out, HMAY.out, rfl, by rw [zero_out]⟩)⟩
  · obtain ⟨te, xe, rfl⟩ := HERR.out.iface (fun h => hp h)
    have HNP := Lib.hid hp
    have HB := HB3
    have HER : Hid (ErrAt (w3.setRow (w.heap.size + 1) Try.zeroCells49) (.iface te xe) (modE m)) := Lib.hid (err_row HERR.out (HRS.out w3 HB3.out))
    clear hp
    have hres' := HRS.out w3 HB.out
    have hst' := store_zero hres'
    have hgw := setRow_heap w3 (w.heap.size + 1) _ Try.zeroCells49 _ _ hres'
    have HGW := Lib.hid hgw
    have HFB : Hid (Below w.heap.size w (w3.setRow (w.heap.size + 1) Try.zeroCells49)) := Lib.hid ((HBB2.out.trans (HB.out.mono HBB2.out.size)).trans (below_row (by omega)))
    clear hres' hgw
    go_upto_region 3 with fail
    go_step
    go_step
    go_simp
    go_step
    go_step
    go_simp
    go_step
    refine wpList_store_any w3 rfl 49 (.tmp 8) (.tmp 15) rfl _ _ (by rfl) (by rfl) hst' ?_
    clear hst'
    go_wp2_with fail
    refine bodyPost_ret (results_cell_row_tmp rfl _ _ (w.heap.size + 1) 49 Try.zeroCells49 (0, 0) _ (by rfl) HGW.out Try.underlying49 (by rfl) (by kernel_rfl)) rfl ?_
    exact ⟨_, _, rfl, HFB.out, .inl ⟨HNP.out, HER.out, by rw [zero_out]⟩⟩
end Go.Proofs.Ytcjmhdneelmbhaa

/- Two rows of numbers: does the one begin the other, are they alike. -/
namespace Go.Proofs.Ytcjmhdneelmbhaa
open Go.ChangeShapes Go.WideShapes Go.RowKit Go.Deep
set_option linter.unusedVariables false

/-- Does the one begin the other? -/
def beginsB (a b : List Int) : Bool := decide (b.take a.length = a)
theorem begins_long {a b : List Int} (h : b.length < a.length) : beginsB a b = false := by
  unfold beginsB
  rw [decide_eq_false_iff_not]
  intro e
  have := congrArg List.length e
  rw [List.length_take] at this; omega
theorem begins_stop {a b : List Int} {j : Nat} {x y : Int} (hx : a[j]? = some x) (hy : b[j]? = some y) (h : x ≠ y) : beginsB a b = false := by
  unfold beginsB
  rw [decide_eq_false_iff_not]
  intro e
  have hj := (List.getElem?_eq_some_iff.1 hx).1
  rw [← e, List.getElem?_take, if_pos hj, hy] at hx
  exact h (Option.some.inj hx).symm
theorem take_both {a b : List Int} {j : Nat} {x : Int} (hx : a[j]? = some x) (hy : b[j]? = some x) (h : a.take j = b.take j) : a.take (j + 1) = b.take (j + 1) := by
  rw [take_succ_of hx, take_succ_of hy, h]
theorem begins_done {a b : List Int} {j : Nat} (h : a.take j = b.take j) (hj : a.length ≤ j) (hl : a.length ≤ b.length) (hj2 : j ≤ a.length) : beginsB a b = true := by
  obtain rfl : j = a.length := by omega
  unfold beginsB
  rw [decide_eq_true_iff, ← h, List.take_length]

set_option maxRecDepth 100000 in
set_option maxHeartbeats 4000000 in
theorem begins_any (a b : List Int) (A B : Option Addr) (c d : Nat) (w : World) (ha : SL w 1 RW A c a) (hb : SL w 1 RW B d b) :
    Calls Try.prog 13 #[.slice A a.length c, .slice B b.length d] w fun e w' => e = .returned (.bool (beginsB a b)) ∧ ∃ n, w' = w.drewN n := by
  have hal := ha.len
  have hbl := hb.len
  by_cases hl : b.length < a.length
  · have HE := Lib.hid (begins_long hl)
    go_enter Try.func13, Try.ntmps13
    go_wp2_with fail
    go_ret
    exact ⟨by rw [HE.out]; rfl, 0, rfl⟩
  · have hlb : ¬ ((b.length : Int) < a.length) := by omega
    have HL : Hid (a.length ≤ b.length) := Lib.hid (by omega)
    go_enter Try.func13, Try.ntmps13
    go_wp2_with fail
    go_loopw [5] (fun i wr => ∃ j q : Nat, j ≤ a.length ∧ i = .int .i64 j ∧ Hid (a.take j = b.take j) ∧ wr = w.drewN q) (fun i _ => a.length - (intOf i).toNat)
    case atStart => exact ⟨0, 0, Nat.zero_le _, rfl, Lib.hid rfl, rfl⟩
    case round =>
      obtain ⟨j, q, hj, rfl, hi, rfl⟩ := hrel
      by_cases hjt : j < a.length
      · have hjb : j < b.length := by have := HL.out; omega
        obtain ⟨b1, o1, x, rfl, hx, hxc⟩ := ha.at_ hjt
        obtain ⟨b2, o2, y, rfl, hy, hyc⟩ := hb.at_ hjb
        rw [Nat.mul_one] at hxc hyc
        have hxc : w.cell? ⟨b1, o1 + j, none⟩ = some (.int .i64 x) := hxc
        have hyc : w.cell? ⟨b2, o2 + j, none⟩ = some (.int .i64 y) := hyc
        have hj0 : (0 : Int) ≤ j := by omega
        have hj1 : (j : Int) < a.length := by omega
        have hj2 : (j : Int) < b.length := by omega
        by_cases hxy : x = y
        · have hxb : (x != y) = false := by simp [hxy]
          have HN : Hid (a.take (j + 1) = b.take (j + 1)) := Lib.hid (take_both hx.out (by rw [hxy]; exact hy.out) hi.out)
          clear hxy
          go_wp2_with fail
          go_quiet (fail)
          go_wp2_with fail
          go_roundw
          case rel => exact ⟨j + 1, _, by omega, by go_num, HN, rfl⟩
          case measure => simp [intOf]; omega
        · have hxb : (x != y) = true := by simp [hxy]
          have HE := Lib.hid (begins_stop hx.out hy.out hxy)
          clear hxy
          go_wp2_with fail
          go_quiet (fail)
          go_wp2_with fail
          go_ret
          exact ⟨by rw [HE.out]; rfl, _, by rw [World.drewN_drewN]⟩
      · have HE := Lib.hid (begins_done hi.out (Nat.le_of_not_lt hjt) HL.out hj)
        go_wp2_with fail
        go_ret
        exact ⟨by rw [HE.out]; rfl, q, rfl⟩
theorem alike_any (a b : List Int) (A B : Option Addr) (c d : Nat) (w : World) (ha : SL w 1 RW A c a) (hb : SL w 1 RW B d b) :
    Calls Try.prog 14 #[.slice A a.length c, .slice B b.length d] w fun e w' => e = .returned (.bool (decide (a = b))) ∧ ∃ n, w' = w.drewN n := by
  have HB := Lib.hid (begins_any a b A B c d w ha hb)
  by_cases hl : a.length = b.length
  · have hlb : ((a.length : Int) == b.length) = true := by rw [hl]; simp
    have HE : Hid (beginsB a b = decide (a = b)) := Lib.hid (by
      unfold beginsB
      rw [hl, List.take_length]
      by_cases h : a = b
      · rw [decide_eq_true h, decide_eq_true h.symm]
      · rw [decide_eq_false h, decide_eq_false (fun e => h e.symm)])
    clear ha hb hl
    go_enter Try.func14, Try.ntmps14
    go_wp2_with fail
    refine HB.out.mono ?_
    rintro e w' ⟨rfl, n, rfl⟩
    rw [HE.out]
    go_wp2_with fail
    go_ret
    exact ⟨rfl, n, rfl⟩
  · have hlb : ((a.length : Int) == b.length) = false := by rw [beq_eq_false_iff_ne]; omega
    have HE : Hid (decide (a = b) = false) := Lib.hid (decide_eq_false (fun e => hl (congrArg List.length e)))
    clear ha hb hl
    go_enter Try.func14, Try.ntmps14
    go_wp2_with fail
    go_ret
    exact ⟨by rw [HE.out]; rfl, 0, rfl⟩
end Go.Proofs.Ytcjmhdneelmbhaa

/- The reference's Small: what it lets by is small. -/
namespace Go.Proofs.Ytcjmhdneelmbhaa
open Go.ChangeShapes Go.WideShapes Go.RowKit Go.Deep
set_option linter.unusedVariables false

def Says (p : Prop) (B : Nat) (w : World) (e : Ending) (w' : World) : Prop := (∃ b : Bool, e = .returned (.bool b) ∧ (b = true → p)) ∧ Below B w w'
theorem Says.no {p : Prop} {B : Nat} {w w' : World} (h : Below B w w') : Says p B w (.returned (.bool false)) w' := ⟨⟨false, rfl, fun h => by cases h⟩, h⟩

set_option maxRecDepth 100000 in
set_option maxHeartbeats 4000000 in
theorem small_any (m : List FunD) (v : Value) (w : World) (hv : VMod w v m) :
    Calls Try.prog 9 #[v] w (Says (SmallM m) w.heap.size w) := by
  obtain ⟨A, c, rfl, hm⟩ := hv
  have hml := hm.len
  by_cases h40 : 40 < m.length
  · go_enter Try.func9, Try.ntmps9
    go_wp2_with fail
    go_ret
    exact Says.no ((Below.refl _ _).alloc (Nat.le_refl _) _)
  · go_enter Try.func9, Try.ntmps9
    go_wp2_with fail
    obtain ⟨w1, hw1, hs1, hk1, hbel1, hc1, -⟩ := named w #[.slice A m.length c] 24
    have hc1 := hc1 0 _ rfl
    have hs1 : w.heap.size < w1.heap.size := by omega
    rw [← hw1]
    clear hw1
    go_loopw [3] (fun i wr => ∃ k : Nat, k ≤ m.length ∧ i = .int .i64 k ∧ Below w1.heap.size w1 wr ∧ Upto SmallF m k) (fun i _ => m.length - (intOf i).toNat)
    case atStart => exact ⟨0, Nat.zero_le _, rfl, Below.refl _ _, Upto.zero⟩
    case round =>
      obtain ⟨k, hk, rfl, hbel, hup⟩ := hrel
      obtain ⟨wo, rfl⟩ : ∃ wo, wo = wr := ⟨wr, rfl⟩
      have hs := hbel.size
      have hkw : Kept w1 wo := kept_of_below hbel
      have hbox := hkw _ _ hc1
      have hB : Below w.heap.size w wo := hbel1.trans (hbel.mono (by omega))
      by_cases hlt : k < m.length
      · obtain ⟨b, o, f, rfl, hf, ⟨hp, -⟩, ⟨hr, -⟩, ⟨Ar, cr, hreg, hregs⟩, ⟨Ab, cb, hblk, hblks⟩⟩ := (SFuns.keep (hk1.trans hkw) hm).at_ hlt
        have hrl := hregs.len
        have hbl := hblks.len
        by_cases hok : f.blocks.length ≤ 70 ∧ f.regs.length ≤ 300 ∧ f.params ≤ 1000
        · obtain ⟨ho1, ho2, ho3⟩ := hok
          go_wp2_with fail
          clear hp hr hreg
          obtain ⟨w2, hw2, hs2, hk2, hbel2, hc2, -⟩ := named wo #[.int .i64 f.params, .int .i64 f.result, .slice Ar f.regs.length cr, .slice Ab f.blocks.length cb] 43
          have hc2 := hc2 3 _ rfl
          have hs2 : wo.heap.size < w2.heap.size := by omega
          rw [← hw2]
          clear hw2 hblk
          go_loopw [5] (fun i wr => ∃ j : Nat, j ≤ f.blocks.length ∧ i = .int .i64 j ∧ Below w2.heap.size w2 wr ∧ Upto SmallB f.blocks j) (fun i _ => f.blocks.length - (intOf i).toNat)
          case atStart => exact ⟨0, Nat.zero_le _, rfl, Below.refl _ _, Upto.zero⟩
          case round =>
            obtain ⟨j, hj, rfl, hbel', hup'⟩ := hrel
            have hs' := hbel'.size
            have hkw' : Kept w2 wr := kept_of_below hbel'
            have hbox' := hkw' _ _ hc2
            have hB' : Below w.heap.size w wr := hB.trans ((hbel2.mono (by omega)).trans (hbel'.mono (by omega)))
            by_cases hlt' : j < f.blocks.length
            · obtain ⟨b', o', kb, rfl, hkb, ⟨Ap, cp, hphi, hphis⟩, ⟨Ai, ci, hins, hinss⟩, ⟨hkd, -⟩, ⟨har, -⟩, ⟨At, ct, hto, htos⟩⟩ := (SBlks.keep (hk2.trans hkw') hblks).at_ hlt'
              have hpl := hphis.len
              have hil := hinss.len
              have htl := htos.len
              by_cases hok' : kb.ins.length ≤ 300 ∧ kb.phis.length ≤ 300 ∧ kb.term.to.length ≤ 70
              · obtain ⟨hp1, hp2, hp3⟩ := hok'
                go_wp2_with fail
                clear hphi hkd har hto
                obtain ⟨w3, hw3, hs3, hk3, hbel3, hc3, -⟩ := named wr #[.slice Ap kb.phis.length cp, .slice Ai kb.ins.length ci, .int .i64 kb.term.kind, .int .i64 kb.term.arg, .slice At kb.term.to.length ct] 40
                have hc30 := hc3 0 _ rfl
                have hc31 := hc3 1 _ rfl
                have hs3 : wr.heap.size < w3.heap.size := by omega
                have hB3 : Below w.heap.size w w3 := hB'.trans (hbel3.mono (by omega))
                rw [← hw3]
                clear hw3 hins hc3
                have hinss3 := SInss.keep hk3 hinss
                have hphis3 := SPhis.keep hk3 hphis
                clear hinss hphis
                go_loopw [7] (fun i wi => ∃ n q : Nat, n ≤ kb.ins.length ∧ i = .int .i64 n ∧ wi = w3.drewN q ∧ Upto (fun x : InsD => x.args.length ≤ 300) kb.ins n) (fun i _ => kb.ins.length - (intOf i).toNat)
                case atStart => exact ⟨0, 0, Nat.zero_le _, rfl, rfl, Upto.zero⟩
                case round =>
                  obtain ⟨n, q, hn, rfl, rfl, hup3⟩ := hrel
                  by_cases hlt3 : n < kb.ins.length
                  · obtain ⟨b3, o3, x, rfl, hx, -, -, ⟨Aa, ca, hag, hags⟩, -, -⟩ := hinss3.at_ hlt3
                    have hal := hags.len
                    by_cases hok3 : x.args.length ≤ 300
                    · go_wp2_with fail
                      go_roundw
                      case rel => exact ⟨n + 1, _, by omega, by go_num, rfl, hup3.succ hx.out hok3⟩
                      case measure => simp [intOf]; omega
                    · go_wp2_with fail
                      go_ret
                      exact Says.no (below_drewN hB3 _)
                  · go_wp2_with fail
                    have hi3 := hup3.all (by omega)
                    have HI3 := Lib.hid hi3
                    clear hi3 hup3
                    go_loopw [8] (fun i wi => ∃ n q : Nat, n ≤ kb.phis.length ∧ i = .int .i64 n ∧ wi = w3.drewN q ∧ Upto (fun x : PhiD => x.args.length ≤ 300) kb.phis n) (fun i _ => kb.phis.length - (intOf i).toNat)
                    case atStart => exact ⟨0, q, Nat.zero_le _, rfl, rfl, Upto.zero⟩
                    case round =>
                      obtain ⟨n', q', hn', rfl, rfl, hup4⟩ := hrel
                      by_cases hlt4 : n' < kb.phis.length
                      · obtain ⟨b4, o4, x, rfl, hx, -, ⟨Aa, ca, hag, hags⟩⟩ := hphis3.at_ hlt4
                        have hal := hags.len
                        by_cases hok3 : x.args.length ≤ 300
                        · go_wp2_with fail
                          go_roundw
                          case rel => exact ⟨n' + 1, _, by omega, by go_num, rfl, hup4.succ hx.out hok3⟩
                          case measure => simp [intOf]; omega
                        · go_wp2_with fail
                          go_ret
                          exact Says.no (below_drewN hB3 _)
                      · go_wp2_with fail
                        go_roundw
                        case rel => exact ⟨j + 1, by omega, by go_num, below_drewN ((hbel'.trans (hbel3.mono (by omega)))) _, hup'.succ hkb.out ⟨hp1, hp2, hp3, HI3.out, hup4.all (by omega)⟩⟩
                        case measure => simp [intOf]; omega
              · have hno : 300 < kb.ins.length ∨ 300 < kb.phis.length ∨ 70 < kb.term.to.length := by omega
                clear hok'
                by_cases hq1 : 300 < kb.ins.length
                · clear hno
                  go_wp2_with fail
                  all_goals (go_ret; exact Says.no (hB'.alloc (by omega) _))
                · by_cases hq2 : 300 < kb.phis.length
                  · clear hno
                    go_wp2_with fail
                    all_goals (go_ret; exact Says.no (hB'.alloc (by omega) _))
                  · have hq3 : 70 < kb.term.to.length := by omega
                    clear hno
                    go_wp2_with fail
                    all_goals (go_ret; exact Says.no (hB'.alloc (by omega) _))
            · go_wp2_with fail
              go_roundw
              case rel => exact ⟨k + 1, by omega, by go_num, hbel.trans ((hbel2.mono (by omega)).trans (hbel'.mono (by omega))), hup.succ hf.out ⟨ho1, ho2, ho3, hup'.all (by omega)⟩⟩
              case measure => simp [intOf]; omega
        · have hno : 70 < f.blocks.length ∨ 300 < f.regs.length ∨ 1000 < f.params := by omega
          clear hok
          by_cases hq1 : 70 < f.blocks.length
          · clear hno
            go_wp2_with fail
            all_goals (go_ret; exact Says.no (hB.alloc (by omega) _))
          · by_cases hq2 : 300 < f.regs.length
            · clear hno
              go_wp2_with fail
              all_goals (go_ret; exact Says.no (hB.alloc (by omega) _))
            · have hq3 : 1000 < f.params := by omega
              clear hno
              go_wp2_with fail
              all_goals (go_ret; exact Says.no (hB.alloc (by omega) _))
      · go_wp2_with fail
        go_ret
        exact ⟨⟨true, rfl, fun _ => ⟨by omega, hup.all (by omega)⟩⟩, hB⟩
end Go.Proofs.Ytcjmhdneelmbhaa

/- Two arrays of numbers are equal as their numbers are; loads of whole arrays. -/
namespace Go.Proofs.Ytcjmhdneelmbhaa
open Go.ChangeShapes Go.WideShapes Go.RowKit Go.Deep
set_option linter.unusedVariables false

theorem all_range_ints : ∀ (xs ys : List Int), xs.length = ys.length → ((List.range xs.length).all fun i => xs.getD i 0 == ys.getD i 0) = (xs == ys)
  | [], [], _ => rfl
  | x :: xs, y :: ys, h => by
    have ih := all_range_ints xs ys (by simpa using h)
    rw [List.length_cons, List.range_succ_eq_map, List.all_cons, List.all_map]
    simp only [List.getD_cons_zero, Function.comp_def, List.getD_cons_succ, ih]
    simp [List.cons_beq_cons]
  | [], _ :: _, h => by simp at h
  | _ :: _, [], h => by simp at h
section
variable {P : Program} (w : World)
theorem run_equalIn_words (d : Nat) (t e : TypeId) (n : Nat) (ht : P.underlying t = some (.array n e)) (he : P.underlying e = some (.int .i64)) (hsz : ∀ w, (sizeOf e).run P w = .ok 1 w)
    (xs ys : List Int) (hx : xs.length = n) (hy : ys.length = n) :
    (Op.equalIn (d + 2) t (.agg (xs.map (Value.int .i64)).toArray) (.agg (ys.map (Value.int .i64)).toArray)).run P w = .ok (xs == ys) w := by
  rw [← all_range_ints xs ys (hx.trans hy.symm), hx, List.range_eq_range', Op.equalIn]
  simp only [Sem.run_bind, run_underlying ht, Result.andThen_ok, hsz, Std.Legacy.Range.forIn_eq_forIn_range', Std.Legacy.Range.size, Nat.sub_zero, Nat.add_sub_cancel, Nat.div_one]
  have hl : ∀ i ∈ List.range' 0 n 1, i < n := fun i hi => by simpa using (List.mem_range'_1.1 hi).2
  generalize List.range' 0 n 1 = l at hl ⊢
  induction l with
  | nil => simp
  | cons i l ih =>
    have hi : i < n := hl i (by simp)
    have px : (part e (xs.map (Value.int .i64)).toArray (i * 1)).run P w = .ok (Value.int .i64 (xs.getD i 0)) w := by
      simp [part, isAgg, run_underlying he, List.getD, List.getElem?_eq_getElem (show i < xs.length by omega)]
    have py : (part e (ys.map (Value.int .i64)).toArray (i * 1)).run P w = .ok (Value.int .i64 (ys.getD i 0)) w := by
      simp [part, isAgg, run_underlying he, List.getD, List.getElem?_eq_getElem (show i < ys.length by omega)]
    have pe : (Op.equalIn (d + 1) e (Value.int .i64 (xs.getD i 0)) (Value.int .i64 (ys.getD i 0))).run P w = .ok (xs.getD i 0 == ys.getD i 0) w := run_equalIn_int w d e .i64 .i64 _ _ he
    simp only [List.forIn_cons, Sem.run_bind, px, py, pe, Result.andThen_ok, List.all_cons]
    cases hb : (xs.getD i 0 == ys.getD i 0)
    · simp
    · simp only [Bool.not_true, Bool.false_eq_true, if_false, Sem.run_pure, Result.andThen_ok, Bool.true_and]
      exact ih fun j hj => hl j (by simp [hj])
end
/-- The words of memory. -/
def memL (s : St) : List Int := (List.range 64).map s.mem
def memC (s : St) : Array Value := ((memL s).map (Value.int .i64)).toArray
theorem memL_len (s : St) : (memL s).length = 64 := by simp [memL]
theorem memC_get (s : St) {i : Nat} (hi : i < 64) : (memC s)[i]? = some (.int .i64 (s.mem i)) := by
  unfold memC memL
  rw [List.getElem?_toArray, List.getElem?_map, List.getElem?_map, List.getElem?_range hi]; rfl
theorem size_word (w : World) : (sizeOf 2).run Try.prog w = .ok 1 w := by kernel_rfl
theorem eq_mem (s t : St) (w : World) : (Op.equalIn 10000 47 (.agg (memC s)) (.agg (memC t))).run Try.prog w = .ok (memL s == memL t) w :=
  run_equalIn_words w 9998 47 2 64 Try.underlying47 Try.underlying2 size_word _ _ (memL_len s) (memL_len t)
theorem words_size : (Try.prog.info? 47).map (·.size) = some 64 := by kernel_rfl
/-- Memory is loaded whole, out of an outcome's block. -/
theorem load_mem {g o : Nat} {w : World} {s : St} (h : ∀ i, i < 64 → w.cell? ⟨g, o + i, none⟩ = some (.int .i64 (s.mem i))) : (Instr.loadAt 47 (.pointer (some ⟨g, o, none⟩))).run Try.prog w = .ok (.agg (memC s)) w := by
  have hl := run_loadCells_list (P := Try.prog) (w := w) ⟨g, o, none⟩ (memC s).toList (fun j v hv => by
    rw [add_plain']
    rw [Array.getElem?_toList] at hv
    have hj : j < 64 := by
      have := (Array.getElem?_eq_some_iff.1 hv).1
      simpa [memC, memL_len] using this
    rw [memC_get s hj] at hv
    rw [h j hj]; exact hv)
  have hs : (memC s).toList.length = 64 := by simp [memC, memL_len]
  rw [hs, Array.toArray_toList] at hl
  have hagg : (isAgg 47).run Try.prog w = .ok true w := by
    unfold isAgg
    rw [Sem.run_bind, run_underlying Try.underlying47 w]
    rfl
  have hsz : (sizeOf 47).run Try.prog w = .ok 64 w := by
    have := words_size
    cases hq : Try.prog.info? 47 with
    | none => simp [hq] at this
    | some i => simp [hq] at this; simp [sizeOf, typeInfo, hq, this]
  simp only [Instr.loadAt, Instr.sureAddr, loadVar, Sem.run_bind, Sem.run_pure, Result.andThen_ok, hagg, hsz, hl, if_true]
/-- A load that is wanted. -/
theorem wpList_load_w {P : Program} (w : World) {ops : Array Oper} {rest : List Oper} {o : Oper} {a : Act} {Q : Exit → Act → World → Prop} (hw : Region.wanted o (yielded ops a.tmps) = true) (t : TypeId) (x : Operand)
    (ho : o.op = .load t x) (v : Value) (hv : a.eval x = v) {u : Value} {w' : World} (hr : (Instr.loadAt t v).run P w = .ok u w') (h : wpList P ops Q rest (a.put o.dst u) w') : wpList P ops Q (o :: rest) a w :=
  wpList_step fun K hK => by
    rw [if_pos hw]
    unfold Oper.wp execOp
    simp only [ho, Sem.run_bind, Sem.run_pure, Result.andThen_ok, hv, hr]
    exact hK _ _ h

def sameS (s t : St) : Bool := decide (s.done = t.done ∧ s.trap = t.trap ∧ s.value = t.value ∧ s.steps = t.steps ∧ memL s = memL t ∧ s.out = t.out)
end Go.Proofs.Ytcjmhdneelmbhaa

/- What a run tells, for a caller; an outcome in a block of its own. -/
namespace Go.Proofs.Ytcjmhdneelmbhaa
open Go.ChangeShapes Go.WideShapes Go.RowKit Go.Deep
set_option linter.unusedVariables false

theorem SL.nil {α : Type} {w : World} {sz : Nat} {R : World → Nat → Nat → α → Prop} : SL w sz R none 0 [] := ⟨Nat.le_refl _, ⟨by unfold maxLen; omega, fun _ => rfl⟩, fun h => absurd h (by simp)⟩
/-- An outcome is stored into a block that was just made. -/
theorem store_new (w : World) (s : St) (vo : Value) (h : vo.oneCell' = true) :
    (Instr.storeAt 49 (.pointer (some ⟨w.heap.size, 0, none⟩)) (.agg (outC s vo))).run Try.prog (w.alloc (.cells Try.zeroCells49 49)) = .ok () (w.alloc (.cells (outC s vo) 49)) :=
  run_storeAt_new w 49 Try.zeroCells49 (outC s vo) (by rw [outC_size]; exact out_size) (by rw [outC_size]; exact zero_out_size) (out_one s vo h)
/-- What a block of an outcome holds. -/
theorem out_cells {w : World} {g : Nat} {s : St} {vo : Value} (h : w.heap[g]? = some (.cells (outC s vo) 49 (0, 0))) :
    w.cell? ⟨g, 0, none⟩ = some (.bool s.done) ∧ w.cell? ⟨g, 1, none⟩ = some (.int .i64 s.trap) ∧ w.cell? ⟨g, 2, none⟩ = some (.int .i64 s.value) ∧ w.cell? ⟨g, 3, none⟩ = some vo ∧ w.cell? ⟨g, 4, none⟩ = some (.int .i64 s.steps) := by
  have hc : ∀ i, i < 69 → w.cell? ⟨g, i, none⟩ = some (cellM s ⟨.slice none 0 0, .slice none 0 0, .slice none 0 0, .slice none 0 0, vo⟩ (263 + i)) := fun i hi => (cell_of_block h i).trans (outC_get s ⟨_, _, _, _, _⟩ hi)
  exact ⟨hc 0 (by omega), hc 1 (by omega), hc 2 (by omega), hc 3 (by omega), hc 4 (by omega)⟩

/-- A run, told for a caller. -/
def ToldR (m : List FunD) (f : Int) (args : List Int) (steps : Int) (w : World) (e : Ending) (w' : World) : Prop :=
  ∃ s A c err, e = .returned (.tuple #[.agg (outC s (.slice A s.out.length c)), err]) ∧ Below w.heap.size w w' ∧ SL w' 1 RW A c s.out ∧
    ((∃ t x, err = .iface t x) ∧ ¬ (Proper m ∧ mayB m f args steps = true) ∨ err = .nilIface ∧ Proper m ∧ mayB m f args steps = true ∧ s = runS m f.toNat args steps.toNat)
theorem run_told {m : List FunD} {f : Int} {args : List Int} {steps : Int} {w : World} {e : Ending} {w' : World} (h : ToldRun m f args steps w e w') : ToldR m f args steps w e w' := by
  obtain ⟨o, err, rfl, hb, ⟨hp, he, rfl⟩ | ⟨hp, hm, rfl, rfl⟩ | ⟨hp, hm, rfl, A, c, rfl, hs⟩⟩ := h
  · exact ⟨zeroS, none, 0, err, rfl, hb, SL.nil, .inl ⟨he.iface hp, fun h => hp h.1⟩⟩
  · exact ⟨zeroS, none, 0, _, rfl, hb, SL.nil, .inl ⟨⟨_, _, rfl⟩, fun h => by rw [hm] at h; cases h.2⟩⟩
  · exact ⟨_, A, c, _, rfl, hb, SL.imp (fun b o x hx => hx.2) hs.sl, .inr ⟨rfl, hp, hm, rfl⟩⟩
/-- An outcome in a block of its own. -/
def OutAt (w : World) (g : Nat) (s : St) (A : Option Addr) (c : Nat) : Prop :=
  (∀ i, i < 69 → w.cell? ⟨g, i, none⟩ = some (cellM s ⟨.slice none 0 0, .slice none 0 0, .slice none 0 0, .slice none 0 0, .slice A s.out.length c⟩ (263 + i))) ∧ SL w 1 RW A c s.out
theorem OutAt.keep {w w' : World} {g : Nat} {s : St} {A : Option Addr} {c : Nat} (h : OutAt w g s A c) (hk : Kept w w') : OutAt w' g s A c :=
  ⟨fun i hi => hk _ _ (h.1 i hi), SL.keep hk (fun b o x hx => hk _ _ hx) h.2⟩
theorem OutAt.new {w w' : World} {s : St} {A : Option Addr} {c : Nat} (hw : w' = w.alloc (.cells (outC s (.slice A s.out.length c)) 49)) (h : SL w 1 RW A c s.out) : OutAt w' w.heap.size s A c := by
  subst hw
  have hk : Kept w (w.alloc (.cells (outC s (.slice A s.out.length c)) 49)) := kept_of_below ((Below.refl w.heap.size w).alloc (Nat.le_refl _) _)
  exact ⟨fun i hi => (cell_of_block (heap_alloc_new w _) i).trans (outC_get s ⟨_, _, _, _, _⟩ hi), SL.keep hk (fun b o x hx => hk _ _ hx) h⟩
theorem OutAt.load {w : World} {g : Nat} {s : St} {A : Option Addr} {c : Nat} (h : OutAt w g s A c) :
    (Instr.loadAt 49 (.pointer (some ⟨g, 0, none⟩))).run Try.prog w = .ok (.agg (outC s (.slice A s.out.length c))) w := by
  have hl := run_loadCells_list (P := Try.prog) (w := w) ⟨g, 0, none⟩ (outC s (.slice A s.out.length c)).toList (fun j v hv => by
    rw [add_plain']
    have hj : j < 69 := by have := (List.getElem?_eq_some_iff.1 hv).1; rwa [Array.length_toList, outC_size] at this
    rw [Array.getElem?_toList] at hv
    rw [Nat.zero_add, h.1 j hj, ← hv]
    exact (outC_get s ⟨_, _, _, _, _⟩ hj).symm)
  rw [Array.length_toList, outC_size, Array.toArray_toList] at hl
  have hagg : (isAgg 49).run Try.prog w = .ok true w := by
    unfold isAgg
    rw [Sem.run_bind, run_underlying Try.underlying49 w]
    rfl
  have hsz : (sizeOf 49).run Try.prog w = .ok 69 w := by
    have := out_size
    cases hq : Try.prog.info? 49 with
    | none => simp [hq] at this
    | some i => simp [hq] at this; simp [sizeOf, typeInfo, hq, this]
  simp only [Instr.loadAt, Instr.sureAddr, loadVar, Sem.run_bind, Sem.run_pure, Result.andThen_ok, hagg, hsz, hl, if_true]
theorem OutAt.cells {w : World} {g : Nat} {s : St} {A : Option Addr} {c : Nat} (h : OutAt w g s A c) :
    w.cell? ⟨g, 0, none⟩ = some (.bool s.done) ∧ w.cell? ⟨g, 3, none⟩ = some (.slice A s.out.length c) ∧ w.cell? ⟨g, 4, none⟩ = some (.int .i64 s.steps) :=
  ⟨h.1 0 (by omega), h.1 3 (by omega), h.1 4 (by omega)⟩
theorem begins_app (a r : List Int) : beginsB a (a ++ r) = true := by
  unfold beginsB
  simp
end Go.Proofs.Ytcjmhdneelmbhaa
