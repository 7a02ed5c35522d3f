/- A run: what run.Run tells. (Written by gen/genmacs.py.) -/
import Derived.Test.YtoidhjmhakajlaaMacRJ
import Derived.Laws.StructEq
namespace Go.Proofs.Ytoidhjmhakajlaa
open Go.ChangeShapes Go.WideShapes Go.RowKit Go.Deep
set_option linter.unusedVariables false

theorem results_two {P : Program} {fn : Func} {p u : Tmp} {ty : TypeId} (h : fn.results = #[.cell p ty, .tmp u]) : fn.results = #[.cell p ty, .tmp u] := h
theorem zero_out : Try.zeroCells31 = outC zeroS (.slice none 0 0) := by kernel_rfl
theorem store_zero {g : Nat} {w : World} (hg : w.heap[g]? = some (.cells Try.zeroCells31 31 (0, 0))) :
    (Instr.storeAt 31 (.pointer (some ⟨g, 0, none⟩)) (.agg Try.zeroCells31)).run Try.prog w = .ok () (w.setRow g Try.zeroCells31) := by
  have := store_out (s := zeroS) (vo := .slice none 0 0) hg zero_out_size rfl
  rwa [← zero_out] at this
theorem zero_first : Try.zeroCells31[0]? = some (.bool false) := by kernel_rfl
theorem err_row {w : World} {R : Nat} {cs : Array Value} {v : Value} {p : Int × Int} (h : ErrAt w v p) (hR : w.heap[R]? = some (.cells Try.zeroCells31 31 (0, 0))) : ErrAt (w.setRow R cs) v p := by
  rcases h with h1 | h1 | ⟨h1, h2, g, h3, h4, h5⟩
  · exact .inl h1
  · exact .inr (.inl h1)
  · have hg : g ≠ R := fun e => by
      subst e
      have := h4.symm.trans ((cell_of_block hR 0).trans zero_first)
      cases this
    exact .inr (.inr ⟨h1, h2, g, h3, (World.cell?_of_block (a := ⟨g, 0, none⟩) (setRow_other w R g cs hg)).trans h4, (World.cell?_of_block (a := ⟨g, 1, none⟩) (setRow_other w R g cs hg)).trans h5⟩)
theorem below_row {B g : Nat} {w : World} {cs : Array Value} (h : B ≤ g) : Below B w (w.setRow g cs) := ⟨rfl, rfl, rfl, by simp [World.setRow], fun k hk => setRow_other w g k cs (by omega)⟩

/-- May a proper module's function be run so? -/
def mayB (m : List FunD) (f : Int) (args : List Int) (steps : Int) : Bool := decide (0 ≤ f ∧ f < m.length) && (takesB (funAt m f) args && decide (0 ≤ steps ∧ steps < ((1048577 : Nat) : Int)))
/-- What a run tells. -/
def ToldRun (m : List FunD) (f : Int) (args : List Int) (steps : Int) (w : World) (e : Ending) (w' : World) : Prop :=
  ∃ o err, e = .returned (.tuple #[o, err]) ∧ Below w.heap.size w w' ∧
    ((¬ Proper m ∧ ErrAt w' err (modE m) ∧ o = .agg (outC zeroS (.slice none 0 0))) ∨
     (Proper m ∧ mayB m f args steps = false ∧ err = .iface 63 (.int .i64 1) ∧ o = .agg (outC zeroS (.slice none 0 0))) ∨
     (Proper m ∧ mayB m f args steps = true ∧ err = .nilIface ∧ ∃ A c, o = .agg (outC (runS m f.toNat args steps.toNat) (.slice A (runS m f.toNat args steps.toNat).out.length c)) ∧ OwnO w' w.heap.size A c (runS m f.toNat args steps.toNat).out))

set_option maxRecDepth 100000 in
set_option maxHeartbeats 16000000 in
theorem run_any (m : List FunD) (f : Int) (args : List Int) (steps : Int) (v : Value) (A : Option Addr) (c : Nat) (w : World) (hv : VMod w v m) (ha : SL w 1 RInt A c args) (hsm : SmallM m) (hf64 : I64 f) (hs64 : I64 steps) :
    Calls Try.prog 9 #[v, .int .i64 f, .slice A args.length c, .int .i64 steps] w (ToldRun m f args steps w) := by
  have hv0 := hv
  obtain ⟨Am, cm, rfl, hm⟩ := hv
  have hml := hm.len
  obtain ⟨w2, hw2⟩ : ∃ w2, w2 = (w.alloc (.cells #[.slice Am m.length cm] 24)).alloc (.cells Try.zeroCells31 31) := ⟨_, rfl⟩
  have hB2 : Below w.heap.size w w2 := by rw [hw2]; exact ((Below.refl _ _).alloc (Nat.le_refl _) _).alloc (by simp) _
  have hs2 : w2.heap.size = w.heap.size + 2 := by rw [hw2]; simp
  have q0 : w2.cell? ⟨w.heap.size, 0, none⟩ = some (.slice Am m.length cm) := by rw [hw2]; simp
  have hr2 : w2.heap[w.heap.size + 1]? = some (.cells Try.zeroCells31 31 (0, 0)) := by
    rw [hw2]
    have := heap_alloc_new (w.alloc (.cells #[.slice Am m.length cm] 24)) (.cells Try.zeroCells31 31)
    rwa [show (w.alloc (.cells #[.slice Am m.length cm] 24)).heap.size = w.heap.size + 1 by simp] at this
  have HV2 := Lib.hid (VMod.keep (kept_of_below hB2) hv0)
  have HM := Lib.hid hm
  have HA := Lib.hid ha
  have HSM := Lib.hid hsm
  have HF64 := Lib.hid hf64
  have HS64 := Lib.hid hs64
  have HR2 := Lib.hid hr2
  have HBB2 := Lib.hid hB2
  clear hv0 hm ha hsm hf64 hs64 hr2 hB2
  go_enter Try.func9, Try.ntmps9
  go_wp2_with fail
  rw [← hw2]
  clear hw2
  refine (module_any ofIns m _ _ HV2.out (lim_of_small HSM.out)).mono ?_
  rintro e w3 ⟨⟨ve, rfl, hErr⟩, hb3⟩
  have HRS : Hid (∀ w', Below w2.heap.size w2 w' → w'.heap[w.heap.size + 1]? = some (.cells Try.zeroCells31 31 (0, 0))) := Lib.hid (fun w' h => (h.block _ (by omega)).trans HR2.out)
  have q3 := kept_of_below hb3 _ _ q0
  have HB3 : Hid (Below w2.heap.size w2 w3) := Lib.hid hb3
  have hlt3 : w.heap.size < w3.heap.size := by have := hb3.size; omega
  have HERR := Lib.hid hErr
  clear q0 hb3 hErr
  by_cases hp : Proper m
  · have hve := HERR.out.nil hp
    subst hve
    have HPR := Lib.hid hp
    clear hp
    go_wp2_with fail
    refine (within_any f m.length w3).mono ?_
    rintro e w4 ⟨rfl, rfl⟩
    by_cases h1 : 0 ≤ f ∧ f < m.length
    · rw [decide_eq_true h1]
      have HB := HB3
      obtain ⟨n, hn⟩ : ∃ n : Nat, f = n := ⟨f.toNat, by omega⟩
      have hnl : n < m.length := by omega
      have hk3 : Kept w w3 := kept_of_below (HBB2.out.trans (HB3.out.mono HBB2.out.size))
      obtain ⟨b, o, F, rfl, hF, ⟨c0, z0⟩, ⟨c1, z1⟩, ⟨Ar, cr, c2, z2⟩, ⟨Ab, cb, c3, z3⟩⟩ := (SFuns.keep hk3 HM.out).at_ hnl
      have hG := (proper_ok HPR.out).2 F (List.mem_of_getElem? hF.out)
      have HTK := Lib.hid (takes_any F args (.agg #[.int .i64 F.params, .int .i64 F.result, .slice Ar F.regs.length cr, .slice Ab F.blocks.length cb]) A c w3 ⟨Ar, cr, Ab, cb, rfl, z2, z3, z0, z1⟩ (SInts.keep hk3 HA.out) hG.par.2.2)
      have HFA : Hid (funAt m f = F) := Lib.hid (by unfold funAt; rw [hn, Int.toNat_natCast]; exact getD_of hF.out)
      have HFN := Lib.hid hF.out
      have hn0 : (0 : Int) ≤ n := by omega
      have hn1 : (n : Int) < m.length := by omega
      have HMF : Hid (mayB m f args steps = (takesB F args && decide (0 ≤ steps ∧ steps < ((1048577 : Nat) : Int)))) := Lib.hid (by unfold mayB; rw [decide_eq_true h1, HFA.out]; rfl)
      have HG := Lib.hid hG
      have HK3 := Lib.hid hk3
      clear h1 z0 z1 z2 z3 hF hG hk3
      subst hn
      go_wp2_with fail
      refine HTK.out.mono ?_
      rintro e w5 ⟨rfl, hb5⟩
      have q5 := kept_of_below hb5 _ _ q3
      have HB : Hid (Below w2.heap.size w2 w5) := Lib.hid (HB3.out.trans (hb5.mono HB3.out.size))
      have hlt5 : w.heap.size < w5.heap.size := by have := hb5.size; omega
      have HK5 := Lib.hid (HK3.out.trans (kept_of_below hb5))
      clear q3 hb5 c0 c1 c2 c3 HTK hlt3
      cases ht : takesB F args
      · have HMAY : Hid (mayB m n args steps = false) := Lib.hid (by rw [HMF.out, ht]; rfl)
        clear ht
        have hres' := HRS.out w5 HB.out
        have hst' := store_zero hres'
        have hgw := setRow_heap w5 (w.heap.size + 1) _ Try.zeroCells31 _ _ hres'
        have HGW := Lib.hid hgw
        have HFB : Hid (Below w.heap.size w (w5.setRow (w.heap.size + 1) Try.zeroCells31)) := Lib.hid ((HBB2.out.trans (HB.out.mono HBB2.out.size)).trans (below_row (by omega)))
        clear hres' hgw
        go_upto_region 5 with fail
        go_step
        go_step
        go_simp
        go_step
        go_step
        go_simp
        go_step
        refine wpList_store_any w5 rfl 31 (.tmp 8) (.tmp 38) rfl _ _ (by rfl) (by rfl) hst' ?_
        clear hst'
        go_wp2_with fail
        refine bodyPost_ret (results_cell_row_tmp rfl _ _ (w.heap.size + 1) 31 Try.zeroCells31 (0, 0) _ (by rfl) HGW.out Try.underlying31 (by rfl) (by kernel_rfl)) rfl ?_
        exact ⟨_, _, rfl, HFB.out, .inr (.inl ⟨HPR.out, HMAY.out, rfl, by rw [zero_out]⟩)⟩
      · have HT := Lib.hid ht
        clear ht
        go_wp2_with fail
        refine (within_any steps 1048577 w5).mono ?_
        rintro e w6 ⟨rfl, rfl⟩
        by_cases h2 : 0 ≤ steps ∧ steps < ((1048577 : Nat) : Int)
        · rw [decide_eq_true h2]
          have HMAY : Hid (mayB m n args steps = true) := Lib.hid (by rw [HMF.out, HT.out, decide_eq_true h2]; rfl)
          obtain ⟨k, hk⟩ : ∃ k : Nat, steps = k := ⟨steps.toNat, by omega⟩
          subst hk
          have HOUT := Lib.hid (outcome_any m w5 n args k (some ⟨b, o, none⟩) A cm c (SFuns.keep HK5.out HM.out) (SInts.keep HK5.out HA.out) (fun g hg => (HSM.out.2 g hg).1) HSM.out.1 HPR.out F HFN.out (by
            have := HT.out; unfold takesB at this; rw [Bool.and_eq_true] at this; exact of_decide_eq_true this.1) (fun g hg b hb x hx => by have := ((HSM.out.2 g hg).2.2.2 b hb).2.2.2.1 x hx; omega) (by omega))
          clear h2
          go_wp2_with fail
          refine HOUT.out.mono ?_
          rintro e w6 ⟨⟨Ao, co, rfl, hso⟩, hb6⟩
          have hr6 := HRS.out w6 (HB.out.trans (hb6.mono HB.out.size))
          have hst' := store_out (s := runS m n args k) (vo := .slice Ao (runS m n args k).out.length co) hr6 zero_out_size rfl
          have hgw := setRow_heap w6 (w.heap.size + 1) _ (outC (runS m n args k) (.slice Ao (runS m n args k).out.length co)) _ _ hr6
          have HGW := Lib.hid hgw
          have hb7 : Below w.heap.size w w6 := (HBB2.out.trans (HB.out.mono HBB2.out.size)).trans (hb6.mono (HBB2.out.trans (HB.out.mono HBB2.out.size)).size)
          have HFB : Hid (Below w.heap.size w (w6.setRow (w.heap.size + 1) (outC (runS m n args k) (.slice Ao (runS m n args k).out.length co)))) := Lib.hid (hb7.trans (below_row (by omega)))
          have HSO : Hid (OwnO (w6.setRow (w.heap.size + 1) (outC (runS m n args k) (.slice Ao (runS m n args k).out.length co))) w.heap.size Ao co (runS m n args k).out) := Lib.hid (OwnO.row hso (by have := HB.out.size; omega) (by have := HB.out.size; omega))
          clear hr6 hgw hb7 hso hb6 q5
          dsimp only
          go_step
          refine wpList_store_any w6 rfl 31 (.tmp 8) (.tmp 45) rfl _ _ (by rfl) (by rfl) hst' ?_
          clear hst'
          go_wp2_with fail
          refine bodyPost_ret (results_cell_row_tmp rfl _ _ (w.heap.size + 1) 31 (outC (runS m n args k) (.slice Ao (runS m n args k).out.length co)) (0, 0) _ (by rfl) HGW.out Try.underlying31 (by rfl) (by rw [outC_size]; exact out_size)) rfl ?_
          exact ⟨_, _, rfl, HFB.out, .inr (.inr ⟨HPR.out, HMAY.out, rfl, Ao, co, rfl, HSO.out⟩)⟩
        · rw [decide_eq_false h2]
          have HMAY : Hid (mayB m n args steps = false) := Lib.hid (by rw [HMF.out, HT.out, decide_eq_false h2]; rfl)
          clear h2
          have hres' := HRS.out w5 HB.out
          have hst' := store_zero hres'
          have hgw := setRow_heap w5 (w.heap.size + 1) _ Try.zeroCells31 _ _ hres'
          have HGW := Lib.hid hgw
          have HFB : Hid (Below w.heap.size w (w5.setRow (w.heap.size + 1) Try.zeroCells31)) := Lib.hid ((HBB2.out.trans (HB.out.mono HBB2.out.size)).trans (below_row (by omega)))
          clear hres' hgw
          go_upto_region 5 with fail
          go_step
          go_step
          go_simp
          go_step
          go_step
          go_simp
          go_step
          refine wpList_store_any w5 rfl 31 (.tmp 8) (.tmp 38) rfl _ _ (by rfl) (by rfl) hst' ?_
          clear hst'
          go_wp2_with fail
          refine bodyPost_ret (results_cell_row_tmp rfl _ _ (w.heap.size + 1) 31 Try.zeroCells31 (0, 0) _ (by rfl) HGW.out Try.underlying31 (by rfl) (by kernel_rfl)) rfl ?_
          exact ⟨_, _, rfl, HFB.out, .inr (.inl ⟨HPR.out, HMAY.out, rfl, by rw [zero_out]⟩)⟩
    · rw [decide_eq_false h1]
      have HMAY : Hid (mayB m f args steps = false) := Lib.hid (by unfold mayB; rw [decide_eq_false h1]; rfl)
      have HB := HB3
      clear h1
      have hres' := HRS.out w3 HB.out
      have hst' := store_zero hres'
      have hgw := setRow_heap w3 (w.heap.size + 1) _ Try.zeroCells31 _ _ hres'
      have HGW := Lib.hid hgw
      have HFB : Hid (Below w.heap.size w (w3.setRow (w.heap.size + 1) Try.zeroCells31)) := Lib.hid ((HBB2.out.trans (HB.out.mono HBB2.out.size)).trans (below_row (by omega)))
      clear hres' hgw
      go_upto_region 5 with fail
      go_step
      go_step
      go_simp
      go_step
      go_step
      go_simp
      go_step
      refine wpList_store_any w3 rfl 31 (.tmp 8) (.tmp 38) rfl _ _ (by rfl) (by rfl) hst' ?_
      clear hst'
      go_wp2_with fail
      refine bodyPost_ret (results_cell_row_tmp rfl _ _ (w.heap.size + 1) 31 Try.zeroCells31 (0, 0) _ (by rfl) HGW.out Try.underlying31 (by rfl) (by kernel_rfl)) rfl ?_
      exact ⟨_, _, rfl, HFB.out, .inr (.inl ⟨HPR.out, HMAY.out, rfl, by rw [zero_out]⟩)⟩
  · obtain ⟨te, xe, rfl⟩ := HERR.out.iface (fun h => hp h)
    have HNP := Lib.hid hp
    have HB := HB3
    have HER : Hid (ErrAt (w3.setRow (w.heap.size + 1) Try.zeroCells31) (.iface te xe) (modE m)) := Lib.hid (err_row HERR.out (HRS.out w3 HB3.out))
    clear hp
    have hres' := HRS.out w3 HB.out
    have hst' := store_zero hres'
    have hgw := setRow_heap w3 (w.heap.size + 1) _ Try.zeroCells31 _ _ hres'
    have HGW := Lib.hid hgw
    have HFB : Hid (Below w.heap.size w (w3.setRow (w.heap.size + 1) Try.zeroCells31)) := Lib.hid ((HBB2.out.trans (HB.out.mono HBB2.out.size)).trans (below_row (by omega)))
    clear hres' hgw
    go_upto_region 3 with fail
    go_step
    go_step
    go_simp
    go_step
    go_step
    go_simp
    go_step
    refine wpList_store_any w3 rfl 31 (.tmp 8) (.tmp 15) rfl _ _ (by rfl) (by rfl) hst' ?_
    clear hst'
    go_wp2_with fail
    refine bodyPost_ret (results_cell_row_tmp rfl _ _ (w.heap.size + 1) 31 Try.zeroCells31 (0, 0) _ (by rfl) HGW.out Try.underlying31 (by rfl) (by kernel_rfl)) rfl ?_
    exact ⟨_, _, rfl, HFB.out, .inl ⟨HNP.out, HER.out, by rw [zero_out]⟩⟩
end Go.Proofs.Ytoidhjmhakajlaa

/- Two arrays of numbers are equal as their numbers are; the document's Same. -/
namespace Go.Proofs.Ytoidhjmhakajlaa
open Go.ChangeShapes Go.WideShapes Go.RowKit Go.Deep
set_option linter.unusedVariables false

/-- Does the one begin the other? -/
def beginsB (a b : List Int) : Bool := decide (b.take a.length = a)
theorem begins_long {a b : List Int} (h : b.length < a.length) : beginsB a b = false := by
  unfold beginsB
  rw [decide_eq_false_iff_not]
  intro e
  have := congrArg List.length e
  rw [List.length_take] at this; omega
theorem begins_stop {a b : List Int} {j : Nat} {x y : Int} (hx : a[j]? = some x) (hy : b[j]? = some y) (h : x ≠ y) : beginsB a b = false := by
  unfold beginsB
  rw [decide_eq_false_iff_not]
  intro e
  have hj := (List.getElem?_eq_some_iff.1 hx).1
  rw [← e, List.getElem?_take, if_pos hj, hy] at hx
  exact h (Option.some.inj hx).symm
theorem take_both {a b : List Int} {j : Nat} {x : Int} (hx : a[j]? = some x) (hy : b[j]? = some x) (h : a.take j = b.take j) : a.take (j + 1) = b.take (j + 1) := by
  rw [take_succ_of hx, take_succ_of hy, h]
theorem begins_done {a b : List Int} {j : Nat} (h : a.take j = b.take j) (hj : a.length ≤ j) (hl : a.length ≤ b.length) (hj2 : j ≤ a.length) : beginsB a b = true := by
  obtain rfl : j = a.length := by omega
  unfold beginsB
  rw [decide_eq_true_iff, ← h, List.take_length]

set_option maxRecDepth 100000 in
set_option maxHeartbeats 4000000 in
theorem begins_any (a b : List Int) (A B : Option Addr) (c d : Nat) (w : World) (ha : SL w 1 RW A c a) (hb : SL w 1 RW B d b) :
    Calls Try.prog 11 #[.slice A a.length c, .slice B b.length d] w fun e w' => e = .returned (.bool (beginsB a b)) ∧ ∃ n, w' = w.drewN n := by
  have hal := ha.len
  have hbl := hb.len
  by_cases hl : b.length < a.length
  · have HE := Lib.hid (begins_long hl)
    go_enter Try.func11, Try.ntmps11
    go_wp2_with fail
    go_ret
    exact ⟨by rw [HE.out]; rfl, 0, rfl⟩
  · have hlb : ¬ ((b.length : Int) < a.length) := by omega
    have HL : Hid (a.length ≤ b.length) := Lib.hid (by omega)
    go_enter Try.func11, Try.ntmps11
    go_wp2_with fail
    go_loopw [5] (fun i wr => ∃ j q : Nat, j ≤ a.length ∧ i = .int .i64 j ∧ Hid (a.take j = b.take j) ∧ wr = w.drewN q) (fun i _ => a.length - (intOf i).toNat)
    case atStart => exact ⟨0, 0, Nat.zero_le _, rfl, Lib.hid rfl, rfl⟩
    case round =>
      obtain ⟨j, q, hj, rfl, hi, rfl⟩ := hrel
      by_cases hjt : j < a.length
      · have hjb : j < b.length := by have := HL.out; omega
        obtain ⟨b1, o1, x, rfl, hx, hxc⟩ := ha.at_ hjt
        obtain ⟨b2, o2, y, rfl, hy, hyc⟩ := hb.at_ hjb
        rw [Nat.mul_one] at hxc hyc
        have hxc : w.cell? ⟨b1, o1 + j, none⟩ = some (.int .i64 x) := hxc
        have hyc : w.cell? ⟨b2, o2 + j, none⟩ = some (.int .i64 y) := hyc
        have hj0 : (0 : Int) ≤ j := by omega
        have hj1 : (j : Int) < a.length := by omega
        have hj2 : (j : Int) < b.length := by omega
        by_cases hxy : x = y
        · have hxb : (x != y) = false := by simp [hxy]
          have HN : Hid (a.take (j + 1) = b.take (j + 1)) := Lib.hid (take_both hx.out (by rw [hxy]; exact hy.out) hi.out)
          clear hxy
          go_wp2_with fail
          go_quiet (fail)
          go_wp2_with fail
          go_roundw
          case rel => exact ⟨j + 1, _, by omega, by go_num, HN, rfl⟩
          case measure => simp [intOf]; omega
        · have hxb : (x != y) = true := by simp [hxy]
          have HE := Lib.hid (begins_stop hx.out hy.out hxy)
          clear hxy
          go_wp2_with fail
          go_quiet (fail)
          go_wp2_with fail
          go_ret
          exact ⟨by rw [HE.out]; rfl, _, by rw [World.drewN_drewN]⟩
      · have HE := Lib.hid (begins_done hi.out (Nat.le_of_not_lt hjt) HL.out hj)
        go_wp2_with fail
        go_ret
        exact ⟨by rw [HE.out]; rfl, q, rfl⟩
theorem alike_any (a b : List Int) (A B : Option Addr) (c d : Nat) (w : World) (ha : SL w 1 RW A c a) (hb : SL w 1 RW B d b) :
    Calls Try.prog 12 #[.slice A a.length c, .slice B b.length d] w fun e w' => e = .returned (.bool (decide (a = b))) ∧ ∃ n, w' = w.drewN n := by
  have HB := Lib.hid (begins_any a b A B c d w ha hb)
  by_cases hl : a.length = b.length
  · have hlb : ((a.length : Int) == b.length) = true := by rw [hl]; simp
    have HE : Hid (beginsB a b = decide (a = b)) := Lib.hid (by
      unfold beginsB
      rw [hl, List.take_length]
      by_cases h : a = b
      · rw [decide_eq_true h, decide_eq_true h.symm]
      · rw [decide_eq_false h, decide_eq_false (fun e => h e.symm)])
    clear ha hb hl
    go_enter Try.func12, Try.ntmps12
    go_wp2_with fail
    refine HB.out.mono ?_
    rintro e w' ⟨rfl, n, rfl⟩
    rw [HE.out]
    go_wp2_with fail
    go_ret
    exact ⟨rfl, n, rfl⟩
  · have hlb : ((a.length : Int) == b.length) = false := by rw [beq_eq_false_iff_ne]; omega
    have HE : Hid (decide (a = b) = false) := Lib.hid (decide_eq_false (fun e => hl (congrArg List.length e)))
    clear ha hb hl
    go_enter Try.func12, Try.ntmps12
    go_wp2_with fail
    go_ret
    exact ⟨by rw [HE.out]; rfl, 0, rfl⟩

/-- So many steps, at most. -/
def fewZ (s : Int) : Int := if 1000 < s ∧ s ≤ 1048576 then s % 1000 else s
theorem few_any (s : Int) (w : World) (hs : I64 s) : Calls Try.prog 8 #[.int .i64 s] w fun e w' => e = .returned (.int .i64 (fewZ s)) ∧ w' = w := by
  obtain ⟨h1, h2⟩ := hs
  by_cases ha : 1000 < s
  · by_cases hb : s ≤ 1048576
    · have HE : Hid (fewZ s = s % 1000) := Lib.hid (by unfold fewZ; rw [if_pos ⟨ha, hb⟩])
      go_enter Try.func8, Try.ntmps8
      go_wp2_with fail
      go_ret
      exact ⟨by rw [HE.out]; rfl, rfl⟩
    · have HE : Hid (fewZ s = s) := Lib.hid (by unfold fewZ; rw [if_neg (fun h => hb h.2)])
      have hbb : decide (s ≤ 1048576) = false := decide_eq_false hb
      go_enter Try.func8, Try.ntmps8
      go_wp2_with fail
      go_ret
      exact ⟨by rw [HE.out]; rfl, rfl⟩
  · have HE : Hid (fewZ s = s) := Lib.hid (by unfold fewZ; rw [if_neg (fun h => ha h.1)])
    have hab : decide (1000 < s) = false := decide_eq_false ha
    go_enter Try.func8, Try.ntmps8
    go_wp2_with fail
    go_ret
    exact ⟨by rw [HE.out]; rfl, rfl⟩

theorem all_range_ints : ∀ (xs ys : List Int), xs.length = ys.length → ((List.range xs.length).all fun i => xs.getD i 0 == ys.getD i 0) = (xs == ys)
  | [], [], _ => rfl
  | x :: xs, y :: ys, h => by
    have ih := all_range_ints xs ys (by simpa using h)
    rw [List.length_cons, List.range_succ_eq_map, List.all_cons, List.all_map]
    simp only [List.getD_cons_zero, Function.comp_def, List.getD_cons_succ, ih]
    simp [List.cons_beq_cons]
  | [], _ :: _, h => by simp at h
  | _ :: _, [], h => by simp at h
section
variable {P : Program} (w : World)
theorem run_equalIn_words (d : Nat) (t e : TypeId) (n : Nat) (ht : P.underlying t = some (.array n e)) (he : P.underlying e = some (.int .i64)) (hsz : ∀ w, (sizeOf e).run P w = .ok 1 w)
    (xs ys : List Int) (hx : xs.length = n) (hy : ys.length = n) :
    (Op.equalIn (d + 2) t (.agg (xs.map (Value.int .i64)).toArray) (.agg (ys.map (Value.int .i64)).toArray)).run P w = .ok (xs == ys) w := by
  rw [← all_range_ints xs ys (hx.trans hy.symm), hx, List.range_eq_range', Op.equalIn]
  simp only [Sem.run_bind, run_underlying ht, Result.andThen_ok, hsz, Std.Legacy.Range.forIn_eq_forIn_range', Std.Legacy.Range.size, Nat.sub_zero, Nat.add_sub_cancel, Nat.div_one]
  have hl : ∀ i ∈ List.range' 0 n 1, i < n := fun i hi => by simpa using (List.mem_range'_1.1 hi).2
  generalize List.range' 0 n 1 = l at hl ⊢
  induction l with
  | nil => simp
  | cons i l ih =>
    have hi : i < n := hl i (by simp)
    have px : (part e (xs.map (Value.int .i64)).toArray (i * 1)).run P w = .ok (Value.int .i64 (xs.getD i 0)) w := by
      simp [part, isAgg, run_underlying he, List.getD, List.getElem?_eq_getElem (show i < xs.length by omega)]
    have py : (part e (ys.map (Value.int .i64)).toArray (i * 1)).run P w = .ok (Value.int .i64 (ys.getD i 0)) w := by
      simp [part, isAgg, run_underlying he, List.getD, List.getElem?_eq_getElem (show i < ys.length by omega)]
    have pe : (Op.equalIn (d + 1) e (Value.int .i64 (xs.getD i 0)) (Value.int .i64 (ys.getD i 0))).run P w = .ok (xs.getD i 0 == ys.getD i 0) w := run_equalIn_int w d e .i64 .i64 _ _ he
    simp only [List.forIn_cons, Sem.run_bind, px, py, pe, Result.andThen_ok, List.all_cons]
    cases hb : (xs.getD i 0 == ys.getD i 0)
    · simp
    · simp only [Bool.not_true, Bool.false_eq_true, if_false, Sem.run_pure, Result.andThen_ok, Bool.true_and]
      exact ih fun j hj => hl j (by simp [hj])
end
/-- The words of memory. -/
def memL (s : St) : List Int := (List.range 64).map s.mem
def memC (s : St) : Array Value := ((memL s).map (Value.int .i64)).toArray
theorem memL_len (s : St) : (memL s).length = 64 := by simp [memL]
theorem memC_get (s : St) {i : Nat} (hi : i < 64) : (memC s)[i]? = some (.int .i64 (s.mem i)) := by
  unfold memC memL
  rw [List.getElem?_toArray, List.getElem?_map, List.getElem?_map, List.getElem?_range hi]; rfl
theorem size_word (w : World) : (sizeOf 2).run Try.prog w = .ok 1 w := by kernel_rfl
theorem eq_mem (s t : St) (w : World) : (Op.equalIn 10000 29 (.agg (memC s)) (.agg (memC t))).run Try.prog w = .ok (memL s == memL t) w :=
  run_equalIn_words w 9998 29 2 64 Try.underlying29 Try.underlying2 size_word _ _ (memL_len s) (memL_len t)
theorem words_size : (Try.prog.info? 29).map (·.size) = some 64 := by kernel_rfl
/-- Memory is loaded whole, out of an outcome's block. -/
theorem load_mem {g o : Nat} {w : World} {s : St} (h : ∀ i, i < 64 → w.cell? ⟨g, o + i, none⟩ = some (.int .i64 (s.mem i))) : (Instr.loadAt 29 (.pointer (some ⟨g, o, none⟩))).run Try.prog w = .ok (.agg (memC s)) w := by
  have hl := run_loadCells_list (P := Try.prog) (w := w) ⟨g, o, none⟩ (memC s).toList (fun j v hv => by
    rw [add_plain']
    rw [Array.getElem?_toList] at hv
    have hj : j < 64 := by
      have := (Array.getElem?_eq_some_iff.1 hv).1
      simpa [memC, memL_len] using this
    rw [memC_get s hj] at hv
    rw [h j hj]; exact hv)
  have hs : (memC s).toList.length = 64 := by simp [memC, memL_len]
  rw [hs, Array.toArray_toList] at hl
  have hagg : (isAgg 29).run Try.prog w = .ok true w := by
    unfold isAgg
    rw [Sem.run_bind, run_underlying Try.underlying29 w]
    rfl
  have hsz : (sizeOf 29).run Try.prog w = .ok 64 w := by
    have := words_size
    cases hq : Try.prog.info? 29 with
    | none => simp [hq] at this
    | some i => simp [hq] at this; simp [sizeOf, typeInfo, hq, this]
  simp only [Instr.loadAt, Instr.sureAddr, loadVar, Sem.run_bind, Sem.run_pure, Result.andThen_ok, hagg, hsz, hl, if_true]
/-- A load that is wanted. -/
theorem wpList_load_w {P : Program} (w : World) {ops : Array Oper} {rest : List Oper} {o : Oper} {a : Act} {Q : Exit → Act → World → Prop} (hw : Region.wanted o (yielded ops a.tmps) = true) (t : TypeId) (x : Operand)
    (ho : o.op = .load t x) (v : Value) (hv : a.eval x = v) {u : Value} {w' : World} (hr : (Instr.loadAt t v).run P w = .ok u w') (h : wpList P ops Q rest (a.put o.dst u) w') : wpList P ops Q (o :: rest) a w :=
  wpList_step fun K hK => by
    rw [if_pos hw]
    unfold Oper.wp execOp
    simp only [ho, Sem.run_bind, Sem.run_pure, Result.andThen_ok, hv, hr]
    exact hK _ _ h

def sameS (s t : St) : Bool := decide (s.done = t.done ∧ s.trap = t.trap ∧ s.value = t.value ∧ s.steps = t.steps ∧ memL s = memL t ∧ s.out = t.out)
end Go.Proofs.Ytoidhjmhakajlaa
