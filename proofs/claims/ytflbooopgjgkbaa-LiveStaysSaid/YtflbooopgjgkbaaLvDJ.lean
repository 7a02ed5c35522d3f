/- The program's alongEdges, goBack. -/
import Derived.Test.YtflbooopgjgkbaaLvBJ
import Derived.BigQuiet
namespace Go.Proofs.Ytflbooopgjgkbaa
open Go.ChangeShapes Go.WideShapes Go.RowKit Go.Deep
set_option linter.unusedVariables false

theorem prP_at {ah args : List Int} {j : Nat} {x a : Int} (hx : ah[j]? = some x) (ha : args[j]? = some a) : (prP ah args)[j]? = some (x.toNat, a.toNat) := by
  unfold prP
  have h1 := List.getElem?_eq_some_iff.1 hx
  have h2 := List.getElem?_eq_some_iff.1 ha
  rw [List.getElem?_map, (List.getElem?_zip_eq_some (z := (x, a))).2 ⟨hx, ha⟩]; rfl
theorem prP_len {ah args : List Int} (h : args.length = ah.length) : (prP ah args).length = ah.length := by unfold prP; rw [List.length_map, List.length_zip, h]; omega
theorem ah_lt {bs : List BlkD} {t j : Nat} {x : Int} (h : (aheadL bs t)[j]? = some x) : ∃ q : Nat, x = (q : Int) ∧ q < bs.length := by
  have h2 := aheadK_mem bs 0 t x (List.mem_of_getElem? h)
  simp at h2
  exact ⟨x.toNat, by omega, by omega⟩
theorem ahead_row {Wa W : World} {Ga b : Nat} {bs : List BlkD} (hah : SL Wa 1 RRow (some ⟨Ga, 0, none⟩) bs.length (rows bs)) (hb : b < bs.length) (hW : Below Wa.heap.size Wa W) :
    ∃ A c, W.cell? ⟨Ga, b, none⟩ = some (.slice A (aheadL bs b).length c) ∧ SL W 1 RInt A c (aheadL bs b) := by
  obtain ⟨bg, og, l, hbo, hl, hcs⟩ := (SL.keep (kept_of_below hW) (RRow.keep (kept_of_below hW)) hah).at_ (k := b) (by rw [rows_len]; exact hb)
  simp only [Option.some.injEq, Addr.mk.injEq, and_true] at hbo
  obtain ⟨rfl, rfl⟩ := hbo
  have e := rows_at hl.out
  subst e
  obtain ⟨A, c, h1, h2⟩ := hcs
  rw [Nat.mul_one, Nat.zero_add] at h1
  exact ⟨A, c, h1, h2⟩

set_option maxRecDepth 100000 in
set_option maxHeartbeats 8000000 in
theorem alongEdges_any (bs : List BlkD) (Wa : World) (H Ga R K : Nat) (W : World) (vo : Value) (mk ph : Nat → Nat → Bool) (s : LvS) (h : WsM Wa H Ga bs.length R K W vo mk ph s) (hf : FewS bs.length R s) (hn : bs.length ≤ 64) (hR : R ≤ 256) (b : Nat) (hb : b < bs.length)
    (hah : SL Wa 1 RRow (some ⟨Ga, 0, none⟩) bs.length (rows bs)) (ps : List PhiD) (A : Option Addr) (c : Nat) (hps : SL Wa 2 RPhi A c ps) (hpl : ps.length ≤ 1000)
    (hok : ∀ p ∈ ps, p.args.length = (aheadL bs b).length ∧ ∀ a ∈ p.args, InR R a) :
    Calls Try.prog 58 #[.pointer (some ⟨H + 4 * (bs.length + 1), 0, none⟩), .int .i64 (b : Int), .slice A ps.length c] W fun e W' => ToldW Wa H Ga bs.length R K W vo mk ph (alE mk ph (aheadL bs b) s ps) e W' ∧ FewS bs.length R (alE mk ph (aheadL bs b) s ps) := by
  obtain ⟨P, hP⟩ : ∃ P, H + 4 * (bs.length + 1) = P := ⟨_, rfl⟩
  have HP := Lib.hid hP
  have HM := Lib.hid h
  have HF := Lib.hid hf
  have HAH := Lib.hid hah
  have HPS := Lib.hid hps
  have HOK := Lib.hid hok
  have HZ : Hid (Wa.heap.size = H ∧ H ≤ P) := Lib.hid ⟨h.hz, by omega⟩
  have hb0 : (0 : Int) ≤ b := by omega
  have hb1 : (b : Int) < bs.length := by omega
  obtain ⟨n, hnn⟩ : ∃ n, bs.length = n := ⟨_, rfl⟩
  have HNN := Lib.hid hnn
  obtain ⟨m, hm⟩ : ∃ m, (aheadL bs b).length = m := ⟨_, rfl⟩
  have hm64 : m ≤ 64 := by rw [← hm]; have := aheadK_len bs 0 b; unfold aheadL; omega
  have HMM := Lib.hid hm
  rw [hP]
  rw [hnn] at hb1
  clear h hf hah hps hok hP hnn hm
  go_enter Try.func58, Try.ntmps58
  go_wp2_with fail
  go_loopw [12] (fun s12 wq => ∃ (k : Nat) (v' : Value), k ≤ ps.length ∧ s12 = .int .i64 (k : Int) ∧ WsM Wa H Ga bs.length R K wq v' mk ph (alE mk ph (aheadL bs b) s (ps.take k)) ∧ FewS bs.length R (alE mk ph (aheadL bs b) s (ps.take k)) ∧ GroS H P W wq vo v') (fun s12 _ => ps.length - (intOf s12).toNat)
  case atStart => exact ⟨0, vo, Nat.zero_le _, rfl, HM.out, HF.out, GroS.refl _ _ _ _⟩
  case round =>
    obtain ⟨k, v', hk, rfl, hM, hF, hG⟩ := hrel
    obtain ⟨wL, rfl⟩ : ∃ wL, wL = wr := ⟨_, rfl⟩
    have HMK := Lib.hid hM
    have HFK := Lib.hid hF
    have HGK := Lib.hid hG
    by_cases hkl : k < ps.length
    · have hbw : Below Wa.heap.size Wa wL := by rw [HZ.out.1]; exact hM.bel
      obtain ⟨bp, op, p, rfl, hp, hpd, A2, c2, hpa, hsl⟩ := HPS.out.at_ hkl
      obtain ⟨hlen, hreg⟩ := HOK.out p (List.mem_of_getElem? hp.out)
      rw [hlen, HMM.out] at hpa
      have hpd1 := kept_of_below hbw _ _ hpd.1
      have hpa1 := kept_of_below hbw _ _ hpa
      have hk0 : (0 : Int) ≤ k := by omega
      have hk1 : (k : Int) < ps.length := by omega
      have HPP := Lib.hid hp
      have HREG := Lib.hid (And.intro hlen hreg)
      have HSL := Lib.hid hsl
      obtain ⟨Q, hQ⟩ : ∃ Q, Q = wL.heap.size := ⟨_, rfl⟩
      obtain ⟨wB, hwB⟩ : ∃ wB, wB = wL.alloc (.cells #[.int .i64 p.dst, .slice A2 m c2] 83) := ⟨_, rfl⟩
      have hbQ : wB.heap[Q]? = some (.cells #[.int .i64 p.dst, .slice A2 m c2] 83) := by rw [hwB, hQ]; exact heap_alloc_new _ _
      have hbelB : Below wL.heap.size wL wB := by rw [hwB]; exact (Below.refl _ _).alloc (Nat.le_refl _) _
      have hMB := hM.below hbelB
      obtain ⟨t0, -⟩ := hMB.cells HP.out
      obtain ⟨A3, c3, hr0, hr2⟩ := ahead_row HAH.out hb (Below.refl Wa.heap.size Wa)
      rw [HMM.out] at hr0
      have hr1 := kept_of_below (show Below Wa.heap.size Wa wB by rw [HZ.out.1]; exact hMB.bel) _ _ hr0
      rw [HNN.out] at t0
      have HMB := Lib.hid hMB
      have HBQ := Lib.hid hbQ
      have HQ : Hid (Q = wL.heap.size ∧ wB.heap.size = Q + 1 ∧ P < Q) := Lib.hid ⟨hQ, by rw [hwB, hQ]; simp, by
        have h1 := (Array.getElem?_eq_some_iff.1 hM.box).1
        rw [HP.out] at h1; omega⟩
      have HR2 : Hid (∀ W, Below Wa.heap.size Wa W → SL W 1 RInt A3 c3 (aheadL bs b) ∧ SL W 1 RInt A2 c2 p.args) := Lib.hid (fun W hW => ⟨SInts.keep (kept_of_below hW) hr2, SInts.keep (kept_of_below hW) HSL.out⟩)
      have HNQ : Hid (v'.ownBlock ≠ some Q) := Lib.hid (fun e => by have := (hM.op.lt Q e).2; omega)
      have HGB : Hid (GroS H P W wB vo v') := Lib.hid (hG.mono hbelB)
      clear hM hF hG hbw hp hpd hpa hsl hlen hreg hMB hbelB hr2 hr0
      go_upto_region 3 with fail
      rw [← hwB, ← hQ]
      clear hwB hQ hpd1 hpa1
      go_wp2_with fail
      clear t0 hr1
      go_loopw [24] (fun s24 wq => ∃ (j : Nat) (v2 : Value), j ≤ m ∧ s24 = .int .i64 (j : Int) ∧ WsM Wa H Ga bs.length R K wq v2 mk ph (atEs mk ph (alE mk ph (aheadL bs b) s (ps.take k)) ((prP (aheadL bs b) p.args).take j)) ∧ FewS bs.length R (atEs mk ph (alE mk ph (aheadL bs b) s (ps.take k)) ((prP (aheadL bs b) p.args).take j)) ∧ GroS H P wB wq v' v2) (fun s24 _ => m - (intOf s24).toNat)
      case atStart => exact ⟨0, v', Nat.zero_le _, rfl, HMB.out, HFK.out, GroS.refl _ _ _ _⟩
      case round =>
        obtain ⟨j, v2, hj, rfl, hM, hF, hG⟩ := hrel
        have HMJ := Lib.hid hM
        have HFJ := Lib.hid hF
        have HGJ := Lib.hid hG
        by_cases hjm : j < m
        · have hbw : Below Wa.heap.size Wa wr := by rw [HZ.out.1]; exact hM.bel
          obtain ⟨sA, sP⟩ := HR2.out wr hbw
          obtain ⟨bt, ot, x, rfl, hx, hxc, -⟩ := sA.int (k := j) (by rw [HMM.out]; exact hjm)
          obtain ⟨bu, ou, y, rfl, hy, hyc, -⟩ := sP.int (k := j) (by rw [HREG.out.1, HMM.out]; exact hjm)
          obtain ⟨q, rfl, hq⟩ := ah_lt hx.out
          have hyr := HREG.out.2 y (List.mem_of_getElem? hy.out)
          obtain ⟨z, rfl⟩ : ∃ z : Nat, y = (z : Int) := ⟨y.toNat, by have := hyr.1; omega⟩
          have hz : z < R := by have := hyr.2; omega
          have hbQ2 : wr.heap[Q]? = some (.cells #[.int .i64 p.dst, .slice (some ⟨bu, ou, none⟩) m c2] 83) := (hG.block Q (by have := HQ.out; omega) (by have := HQ.out; omega) HNQ.out).trans HBQ.out
          have d0 := cell_of_block hbQ2 0
          have d1 := cell_of_block hbQ2 1
          have hcl := atEnd_any Wa H Ga bs.length R K wr v2 mk ph _ hM hF hn hR q z hq hz
          rw [HP.out] at hcl
          have HCL := Lib.hid hcl
          have hST := prP_at hx.out hy.out
          have hFS := hF.atE mk ph hq hz
          have HST := Lib.hid hST
          have HFS := Lib.hid hFS
          have hj0 : (0 : Int) ≤ j := by omega
          have hj1 : (j : Int) < m := by omega
          clear hM hF hG hbw sA sP hx hy hyr hbQ2 hcl hST hFS
          go_wp2_with (go_at_call 74; refine HCL.out.mono ?_; rintro e w5 ⟨rfl, v3, hM5, hG5⟩)
          rw [HP.out] at hG5
          go_roundw
          case rel =>
            refine ⟨j + 1, v3, by omega, by go_num, ?_, ?_, HGJ.out.trans hG5⟩
            · rw [take_succ_of HST.out, atEs_snoc]; simpa using hM5
            · rw [take_succ_of HST.out, atEs_snoc]; simpa using HFS.out
          case measure => simp [intOf]; omega
        · obtain rfl : j = m := by omega
          have e : (prP (aheadL bs b) p.args).take j = prP (aheadL bs b) p.args := List.take_of_length_le (by rw [prP_len HREG.out.1, HMM.out]; exact Nat.le_refl _)
          have HE := Lib.hid e
          clear hM hF hG e
          go_wp2_with fail
          go_roundw
          case rel =>
            refine ⟨k + 1, v2, by omega, by go_num, ?_, ?_, HGB.out.trans HGJ.out⟩
            · have h1 := HMJ.out; rw [HE.out] at h1; rw [take_succ_of HPP.out, alE_snoc]; exact h1
            · have h1 := HFJ.out; rw [HE.out] at h1; rw [take_succ_of HPP.out, alE_snoc]; exact h1
          case measure => simp [intOf]; omega
    · obtain rfl : k = ps.length := by omega
      clear hM hF hG
      go_wp2_with fail
      go_end0
      have e : ps.take ps.length = ps := List.take_length
      have h1 := HMK.out
      have h2 := HFK.out
      rw [e] at h1 h2
      exact ⟨⟨rfl, v', h1, by rw [HP.out]; exact HGK.out⟩, h2⟩
end Go.Proofs.Ytflbooopgjgkbaa

/- The program's goBack. -/
namespace Go.Proofs.Ytflbooopgjgkbaa
open Go.ChangeShapes Go.WideShapes Go.RowKit Go.Deep
set_option linter.unusedVariables false

theorem size_place (w : World) : (sizeOf (Try.prog.elem 88)).run Try.prog w = .ok 2 w := by kernel_rfl
theorem elem_places : Try.prog.underlying 88 = some (.slice (Try.prog.elem 88)) := by kernel_rfl
theorem own_popP {w : World} {K : Nat} {v : Value} {op : List (Nat × Nat)} {e : Nat × Nat} (h : w.ownsRow K 137 2 v (op ++ [e]).length (opF (op ++ [e]))) :
    ∃ g cap, v = .slice (some ⟨g, 0, none⟩) (op.length + 1) cap ∧ w.cell? ⟨g, op.length * 2, none⟩ = some (.int .i64 (e.1 : Int)) ∧ w.cell? ⟨g, op.length * 2 + 1, none⟩ = some (.int .i64 (e.2 : Int)) ∧ op.length + 1 ≤ cap ∧ cap ≤ maxLen ∧
      (∀ W, (Instr.slice 88 (.slice (some ⟨g, 0, none⟩) (op.length + 1) cap) none (some (.int .i64 op.length)) none).run Try.prog W = .ok (.slice (some ⟨g, 0, none⟩) op.length cap) W) ∧
      w.ownsRow K 137 2 (.slice (some ⟨g, 0, none⟩) op.length cap) op.length (opF op) := by
  have hl : (op ++ [e]).length = op.length + 1 := by simp
  rw [hl] at h
  have h0 := h
  obtain ⟨h1, ⟨-, h2⟩ | ⟨g, cap, cur, rfl, hb, hh, hn, hc, hsz, ht⟩⟩ := h
  · omega
  · have hf : (opF op).length = op.length * 2 := by rw [opF_len]; omega
    have hs : opF (op ++ [e]) = opF op ++ [.int .i64 (e.1 : Int), .int .i64 (e.2 : Int)] := opF_snoc op e.1 e.2
    refine ⟨g, cap, rfl, ?_, ?_, hn, hc, fun W => ?_, ownsRow_pop hf (by rw [← hs]; exact h0)⟩
    · rw [h0.cellAt _ (by omega), hs, List.getElem?_append_right (by omega)]; simp [hf]
    · rw [h0.cellAt _ (by omega), hs, List.getElem?_append_right (by omega)]; simp [hf]
    · rw [run_slice_h W 88 (some ⟨g, 0, none⟩) (op.length + 1) cap elem_places .i64 op.length (by omega) (by omega), size_place]
      have hc0 : cap ≠ 0 := by omega
      simp [Result.andThen, sliced, hc0, Addr.add]

set_option maxRecDepth 100000 in
set_option maxHeartbeats 8000000 in
theorem goBack_any (bs : List BlkD) (Wa : World) (H Ga R K : Nat) (W : World) (vo : Value) (s : LvS) (h : WsM Wa H Ga bs.length R K W vo (mkB bs) (phB bs) s) (hf : FewS bs.length R s) (hn : bs.length ≤ 64) (hR : R ≤ 256)
    (hah : SL Wa 1 RRow (some ⟨Ga, 0, none⟩) bs.length (rows bs)) (hgot : GotS bs s) (htold : ToldS bs s) :
    Calls Try.prog 59 #[.pointer (some ⟨H + 4 * (bs.length + 1), 0, none⟩)] W fun e W' => e = .returned (.tuple #[]) ∧ ∃ vo' s', WsM Wa H Ga bs.length R K W' vo' (mkB bs) (phB bs) s' ∧ GroS H (H + 4 * (bs.length + 1)) W W' vo vo' ∧ GotS bs s' ∧ ToldS bs s' ∧ s'.op = [] := by
  obtain ⟨P, hP⟩ : ∃ P, H + 4 * (bs.length + 1) = P := ⟨_, rfl⟩
  have HP := Lib.hid hP
  have HM := Lib.hid h
  have HF := Lib.hid hf
  have HAH := Lib.hid hah
  have HGT := Lib.hid (And.intro hgot htold)
  have HZ : Hid (Wa.heap.size = H ∧ H ≤ P) := Lib.hid ⟨h.hz, by omega⟩
  have hnR : bs.length * R ≤ 16384 := by have := Nat.mul_le_mul hn hR; omega
  have HNR := Lib.hid hnR
  rw [hP]
  clear h hf hah hgot htold hP hnR
  go_enter Try.func59, Try.ntmps59
  go_wp2_with fail
  go_loopg [] (msS bs.length R s) (fun gk wq => ∃ (v' : Value) (s' : LvS), gk = msS bs.length R s' ∧ WsM Wa H Ga bs.length R K wq v' (mkB bs) (phB bs) s' ∧ FewS bs.length R s' ∧ GotS bs s' ∧ ToldS bs s' ∧ GroS H P W wq vo v')
  case atStart => exact ⟨vo, s, rfl, HM.out, HF.out, HGT.out.1, HGT.out.2, GroS.refl _ _ _ _⟩
  case round =>
    obtain ⟨v', s', hgk, hM, hF, hgot, htold, hG⟩ := hrel
    obtain ⟨wL, rfl⟩ : ∃ wL, wL = wr := ⟨_, rfl⟩
    obtain ⟨p0, -, -, -, -, p5, p6⟩ := hM.cells HP.out
    have HMK := Lib.hid hM
    have HFK := Lib.hid hF
    have HGK := Lib.hid hG
    have HGO := Lib.hid hgot
    have HTO := Lib.hid htold
    have HK := Lib.hid hgk
    rcases List.eq_nil_or_concat s'.op with he | ⟨op, ⟨b, r⟩, he⟩
    · have ho := hM.op
      rw [he] at ho
      obtain ⟨Av, cv, hv⟩ := own_sliceL ho
      rw [hv] at p5
      have HE := Lib.hid he
      clear hM hF hgot htold hG he ho hv p0 p6 hgk
      go_wp2_with fail
      go_end0
      exact ⟨rfl, v', s', HMK.out, HGK.out, HGO.out, HTO.out, HE.out⟩
    · rw [List.concat_eq_append] at he
      have ho := hM.op
      rw [he] at ho
      obtain ⟨g, cap, hv, he1, he2, hcap, hcm, hrun, hpop⟩ := own_popP ho
      have HE := Lib.hid he
      have hol : op.length ≤ 16384 := by
        have h1 := hF.le
        have := HNR.out
        rw [he] at h1; simp at h1; omega
      have hbr : b < bs.length ∧ r < R := hF.2 (b, r) (by rw [he]; simp)
      rw [hv] at p5
      have HV := Lib.hid hv
      have HPOP := Lib.hid hpop
      have HBR := Lib.hid hbr
      have HRUN := Lib.hid hrun
      have hgP : P < g := by have h1 := (ho.lt g (by rw [hv]; rfl)).1; have := hM.hk; have := HP.out; omega
      have hgS : g < wL.heap.size := (ho.lt g (by rw [hv]; rfl)).2
      clear hM hF hgot htold hG he ho hv hpop hbr hrun hgk
      obtain ⟨lo, hlo⟩ : ∃ lo, op.length = lo := ⟨_, rfl⟩
      have HLO := Lib.hid hlo
      rw [hlo] at p5 he1 he2 hcap hol
      rw [hlo] at HRUN HV
      have ew : IntKind.i64.wrap (lo : Int) = (lo : Int) := Go.IntWalk.i64_in _ (by omega)
      have hl0 : (0 : Int) ≤ lo := by omega
      have hl1 : (lo : Int) < (lo : Int) + 1 := by omega
      clear hlo
      go_upto_region 1 with fail
      refine wp_region_last (L := 13) (S := fun w' : World => w'.cell? ⟨P, 5, none⟩ = some (.slice (some ⟨g, 0, none⟩) (lo + 1) cap) ∧ w'.cell? ⟨g, lo * 2, none⟩ = some (.int .i64 (b : Int)) ∧ w'.cell? ⟨g, lo * 2 + 1, none⟩ = some (.int .i64 (r : Int))) (by kernel_rfl) (by rfl) (by kernel_rfl) (by kernel_rfl) ?_
      change wpAnyH _ _ _ _ _ _ _ _ (World.drew _)
      have hS0 : wL.drew.cell? ⟨P, 5, none⟩ = some (.slice (some ⟨g, 0, none⟩) (lo + 1) cap) ∧ wL.drew.cell? ⟨g, lo * 2, none⟩ = some (.int .i64 (b : Int)) ∧ wL.drew.cell? ⟨g, lo * 2 + 1, none⟩ = some (.int .i64 (r : Int)) := ⟨p5, he1, he2⟩
      refine takeH (i := 0) (some 11) (v := ?_) rfl (by kernel_rfl) (by kernel_rfl) (by kernel_rfl) (fun _ _ _ h => h) hS0 (fun o ho => ?_) ?_
      rotate_left
      · simp only [List.getElem?_toArray, List.getElem?_cons_zero, Option.some.injEq] at ho; subst ho; refine Or.inl ⟨by rfl, fun w' hSw => ?_⟩; (try dsimp only at hSw); go_simp; try with_reducible rfl
      simp only [Act.put, List.setIfInBounds_toArray, List.set_cons_zero, List.set_cons_succ]
      refine takeH (i := 1) (some 12) (v := ?_) rfl (by kernel_rfl) (by kernel_rfl) (by kernel_rfl) (fun _ _ _ h => h) hS0 (fun o ho => ?_) ?_
      rotate_left
      · simp only [List.getElem?_toArray, List.getElem?_cons_zero, List.getElem?_cons_succ, Option.some.injEq] at ho; subst ho; refine Or.inl ⟨by rfl, fun w' hSw => ?_⟩; (try dsimp only at hSw); go_simp; try with_reducible rfl
      simp only [Act.put, List.setIfInBounds_toArray, List.set_cons_zero, List.set_cons_succ]
      refine takeH (i := 2) (some 13) (v := ?_) rfl (by kernel_rfl) (by kernel_rfl) (by kernel_rfl) (fun _ _ _ h => h) hS0 (fun o ho => ?_) ?_
      rotate_left
      · simp only [List.getElem?_toArray, List.getElem?_cons_zero, List.getElem?_cons_succ, Option.some.injEq] at ho; subst ho; refine Or.inl ⟨by rfl, fun w' hSw => ?_⟩; (try dsimp only at hSw); go_simp; try with_reducible rfl
      simp only [Act.put, List.setIfInBounds_toArray, List.set_cons_zero, List.set_cons_succ]
      refine takeH (i := 3) (some 14) (v := ?_) rfl (by kernel_rfl) (by kernel_rfl) (by kernel_rfl) (fun _ _ _ h => h) hS0 (fun o ho => ?_) ?_
      rotate_left
      · simp only [List.getElem?_toArray, List.getElem?_cons_zero, List.getElem?_cons_succ, Option.some.injEq] at ho; subst ho; refine Or.inl ⟨by rfl, fun w' hSw => ?_⟩; (try dsimp only at hSw); go_simp; try with_reducible rfl
      simp only [Act.put, List.setIfInBounds_toArray, List.set_cons_zero, List.set_cons_succ]
      refine takeH (i := 4) (some 15) (v := ?_) rfl (by kernel_rfl) (by kernel_rfl) (by kernel_rfl) (fun _ _ _ h => h) hS0 (fun o ho => ?_) ?_
      rotate_left
      · simp only [List.getElem?_toArray, List.getElem?_cons_zero, List.getElem?_cons_succ, Option.some.injEq] at ho; subst ho; refine Or.inl ⟨by rfl, fun w' hSw => ?_⟩; (try dsimp only at hSw); go_simp; try with_reducible rfl
      simp only [Act.put, List.setIfInBounds_toArray, List.set_cons_zero, List.set_cons_succ]
      refine takeH (i := 5) (some 16) (v := ?_) rfl (by kernel_rfl) (by kernel_rfl) (by kernel_rfl) (fun _ _ _ h => h) hS0 (fun o ho => ?_) ?_
      rotate_left
      · simp only [List.getElem?_toArray, List.getElem?_cons_zero, List.getElem?_cons_succ, Option.some.injEq] at ho; subst ho; refine Or.inl ⟨by rfl, fun w' hSw => ?_⟩; (try dsimp only at hSw); go_simp; try with_reducible rfl
      simp only [Act.put, List.setIfInBounds_toArray, List.set_cons_zero, List.set_cons_succ]
      refine takeH (i := 6) (some 17) (v := ?_) rfl (by kernel_rfl) (by kernel_rfl) (by kernel_rfl) (fun _ _ _ h => h) hS0 (fun o ho => ?_) ?_
      rotate_left
      · simp only [List.getElem?_toArray, List.getElem?_cons_zero, List.getElem?_cons_succ, Option.some.injEq] at ho; subst ho; refine Or.inl ⟨by rfl, fun w' hSw => ?_⟩; (try dsimp only at hSw); go_simp; try with_reducible rfl
      simp only [Act.put, List.setIfInBounds_toArray, List.set_cons_zero, List.set_cons_succ]
      refine takeH (i := 7) (some 18) (v := ?_) rfl (by kernel_rfl) (by kernel_rfl) (by kernel_rfl) (fun _ _ _ h => h) hS0 (fun o ho => ?_) ?_
      rotate_left
      · simp only [List.getElem?_toArray, List.getElem?_cons_zero, List.getElem?_cons_succ, Option.some.injEq] at ho; subst ho; refine Or.inl ⟨by rfl, fun w' hSw => ?_⟩; (try dsimp only at hSw); go_simp; try with_reducible rfl
      simp only [Act.put, List.setIfInBounds_toArray, List.set_cons_zero, List.set_cons_succ]
      refine takeH (i := 8) (some 19) (v := ?_) rfl (by kernel_rfl) (by kernel_rfl) (by kernel_rfl) (fun _ _ _ h => h) hS0 (fun o ho => ?_) ?_
      rotate_left
      · simp only [List.getElem?_toArray, List.getElem?_cons_zero, List.getElem?_cons_succ, Option.some.injEq] at ho; subst ho; refine Or.inl ⟨by rfl, fun w' hSw => ?_⟩; (try dsimp only at hSw); go_simp; try with_reducible rfl
      simp only [Act.put, List.setIfInBounds_toArray, List.set_cons_zero, List.set_cons_succ]
      refine takeH (i := 9) (some 20) (v := ?_) rfl (by kernel_rfl) (by kernel_rfl) (by kernel_rfl) (fun _ _ _ h => h) hS0 (fun o ho => ?_) ?_
      rotate_left
      · simp only [List.getElem?_toArray, List.getElem?_cons_zero, List.getElem?_cons_succ, Option.some.injEq] at ho; subst ho; refine Or.inl ⟨by rfl, fun w' hSw => ?_⟩; (try dsimp only at hSw); go_simp; try with_reducible rfl
      simp only [Act.put, List.setIfInBounds_toArray, List.set_cons_zero, List.set_cons_succ]
      refine takeH (i := 10) (some 21) (v := ?_) rfl (by kernel_rfl) (by kernel_rfl) (by kernel_rfl) (fun _ _ _ h => h) hS0 (fun o ho => ?_) ?_
      rotate_left
      · simp only [List.getElem?_toArray, List.getElem?_cons_zero, List.getElem?_cons_succ, Option.some.injEq] at ho; subst ho; refine Or.inl ⟨by rfl, fun w' hSw => ?_⟩; (try dsimp only at hSw); go_simp; try with_reducible rfl
      simp only [Act.put, List.setIfInBounds_toArray, List.set_cons_zero, List.set_cons_succ]
      refine takeH (i := 11) (some 22) (v := ?_) rfl (by kernel_rfl) (by kernel_rfl) (by kernel_rfl) (fun _ _ _ h => h) hS0 (fun o ho => ?_) ?_
      rotate_left
      · simp only [List.getElem?_toArray, List.getElem?_cons_zero, List.getElem?_cons_succ, Option.some.injEq] at ho; subst ho; refine Or.inl ⟨by rfl, fun w' hSw => ?_⟩; (try dsimp only at hSw); go_simp; try with_reducible rfl
      simp only [Act.put, List.setIfInBounds_toArray, List.set_cons_zero, List.set_cons_succ]
      refine oneH (i := 12) (by kernel_rfl) (fun o ho K' hK => ?_)
      simp only [List.getElem?_toArray, List.getElem?_cons_zero, List.getElem?_cons_succ, Option.some.injEq] at ho; subst ho
      go_simp
      have hbal : Below wL.heap.size wL (wL.alloc (.cells #[.int .i64 0, .int .i64 0] 137)).drew := ((Below.refl _ wL).alloc (Nat.le_refl _) _).drew
      have hPW : P < wL.heap.size := by omega
      have hS1 : (wL.alloc (.cells #[.int .i64 0, .int .i64 0] 137)).drew.cell? ⟨P, 5, none⟩ = some (.slice (some ⟨g, 0, none⟩) (lo + 1) cap) ∧ (wL.alloc (.cells #[.int .i64 0, .int .i64 0] 137)).drew.cell? ⟨g, lo * 2, none⟩ = some (.int .i64 (b : Int)) ∧ (wL.alloc (.cells #[.int .i64 0, .int .i64 0] 137)).drew.cell? ⟨g, lo * 2 + 1, none⟩ = some (.int .i64 (r : Int)) :=
        ⟨(hbal.cell (p := ⟨P, 5, none⟩) hPW).trans p5, (hbal.cell (p := ⟨g, lo * 2, none⟩) hgS).trans he1, (hbal.cell (p := ⟨g, lo * 2 + 1, none⟩) hgS).trans he2⟩
      refine hK.out _ _ hS1 ?_
      clear hK K'
      refine wpAnyH_done (by kernel_rfl) ?_ _
      refine lastH (by decide) (fun o ho K' hK => ?_)
      simp only [List.getElem?_toArray, List.getElem?_cons_zero, List.getElem?_cons_succ, Option.some.injEq] at ho; subst ho
      go_simp
      refine hK.out _ _ ?_
      clear hK K'
      obtain ⟨Q, hQ⟩ : ∃ Q, Q = wL.heap.size := ⟨_, rfl⟩
      obtain ⟨wA, hwA⟩ : ∃ wA, wA = (wL.alloc (.cells #[.int .i64 (b : Int), .int .i64 (r : Int)] 137)).drew := ⟨_, rfl⟩
      have hbQ : wA.heap[Q]? = some (.cells #[.int .i64 (b : Int), .int .i64 (r : Int)] 137) := by rw [hwA, hQ]; exact heap_alloc_new _ _
      have hbelA : Below wL.heap.size wL wA := by rw [hwA]; exact ((Below.refl _ _).alloc (Nat.le_refl _) _).drew
      have hMA := HMK.out.below hbelA
      have hzA : wA.heap.size = Q + 1 := by rw [hwA, hQ]; show (wL.alloc _).heap.size = _; simp
      have HQ : Hid (Q = wL.heap.size ∧ wA.heap.size = Q + 1 ∧ P < Q) := Lib.hid ⟨hQ, hzA, by omega⟩
      have HBQ := Lib.hid hbQ
      have HBELA := Lib.hid hbelA
      have HMA := Lib.hid hMA
      have HPOPA : Hid (wA.ownsRow K 137 2 (.slice (some ⟨g, 0, none⟩) lo cap) op.length (opF op)) := Lib.hid (by have h1 := HPOP.out; rw [HLO.out] at h1 ⊢; exact ownsRow_block h1 (fun x hx => hbelA.block x (h1.lt x hx).2))
      obtain ⟨-, -, -, -, -, r5, r6⟩ := hMA.cells HP.out
      rw [HV.out] at r5
      rw [← hwA, ← hQ]
      have hrun := HRUN.out
      clear hwA hQ hbQ hbelA hMA hS0 hS1 hbal p5 p6 he1 he2 hzA p0
      go_wp2_with fail
      refine wp_region_last (L := 14) (S := fun w' : World => w'.cell? ⟨P, 5, none⟩ = some (.slice (some ⟨g, 0, none⟩) (lo + 1) cap)) (by kernel_rfl) (by rfl) (by kernel_rfl) (by kernel_rfl) ?_
      change wpAnyH _ _ _ _ _ _ _ _ (World.drew _)
      have hS2 : wA.drew.cell? ⟨P, 5, none⟩ = some (.slice (some ⟨g, 0, none⟩) (lo + 1) cap) := r5
      have hf2 : wA.drew.frozen? ⟨P, 5, none⟩ = false := r6
      refine takeH (i := 0) (some 23) (v := ?_) rfl (by kernel_rfl) (by kernel_rfl) (by kernel_rfl) (fun _ _ _ h => h) hS2 (fun o ho => ?_) ?_
      rotate_left
      · simp only [List.getElem?_toArray, List.getElem?_cons_zero, Option.some.injEq] at ho; subst ho; refine Or.inl ⟨by rfl, fun w' hSw => ?_⟩; (try dsimp only at hSw); go_simp; try with_reducible rfl
      simp only [Act.put, List.setIfInBounds_toArray, List.set_cons_zero, List.set_cons_succ]
      refine takeH (i := 1) (some 24) (v := ?_) rfl (by kernel_rfl) (by kernel_rfl) (by kernel_rfl) (fun _ _ _ h => h) hS2 (fun o ho => ?_) ?_
      rotate_left
      · simp only [List.getElem?_toArray, List.getElem?_cons_zero, List.getElem?_cons_succ, Option.some.injEq] at ho; subst ho; refine Or.inl ⟨by rfl, fun w' hSw => ?_⟩; (try dsimp only at hSw); go_simp; try with_reducible rfl
      simp only [Act.put, List.setIfInBounds_toArray, List.set_cons_zero, List.set_cons_succ]
      refine takeH (i := 2) (some 25) (v := ?_) rfl (by kernel_rfl) (by kernel_rfl) (by kernel_rfl) (fun _ _ _ h => h) hS2 (fun o ho => ?_) ?_
      rotate_left
      · simp only [List.getElem?_toArray, List.getElem?_cons_zero, List.getElem?_cons_succ, Option.some.injEq] at ho; subst ho; refine Or.inl ⟨by rfl, fun w' hSw => ?_⟩; (try dsimp only at hSw); go_simp; try with_reducible rfl
      simp only [Act.put, List.setIfInBounds_toArray, List.set_cons_zero, List.set_cons_succ]
      refine takeH (i := 3) (some 26) (v := ?_) rfl (by kernel_rfl) (by kernel_rfl) (by kernel_rfl) (fun _ _ _ h => h) hS2 (fun o ho => ?_) ?_
      rotate_left
      · simp only [List.getElem?_toArray, List.getElem?_cons_zero, List.getElem?_cons_succ, Option.some.injEq] at ho; subst ho; refine Or.inl ⟨by rfl, fun w' hSw => ?_⟩; (try dsimp only at hSw); go_simp; try with_reducible rfl
      simp only [Act.put, List.setIfInBounds_toArray, List.set_cons_zero, List.set_cons_succ]
      refine takeH (i := 4) (some 27) (v := ?_) rfl (by kernel_rfl) (by kernel_rfl) (by kernel_rfl) (fun _ _ _ h => h) hS2 (fun o ho => ?_) ?_
      rotate_left
      · simp only [List.getElem?_toArray, List.getElem?_cons_zero, List.getElem?_cons_succ, Option.some.injEq] at ho; subst ho; refine Or.inl ⟨by rfl, fun w' hSw => ?_⟩; (try dsimp only at hSw); go_simp; try with_reducible rfl
      simp only [Act.put, List.setIfInBounds_toArray, List.set_cons_zero, List.set_cons_succ]
      refine takeH (i := 5) (some 28) (v := ?_) rfl (by kernel_rfl) (by kernel_rfl) (by kernel_rfl) (fun _ _ _ h => h) hS2 (fun o ho => ?_) ?_
      rotate_left
      · simp only [List.getElem?_toArray, List.getElem?_cons_zero, List.getElem?_cons_succ, Option.some.injEq] at ho; subst ho; refine Or.inl ⟨by rfl, fun w' hSw => ?_⟩; (try dsimp only at hSw); go_simp; try with_reducible rfl
      simp only [Act.put, List.setIfInBounds_toArray, List.set_cons_zero, List.set_cons_succ]
      refine takeH (i := 6) (some 29) (v := ?_) rfl (by kernel_rfl) (by kernel_rfl) (by kernel_rfl) (fun _ _ _ h => h) hS2 (fun o ho => ?_) ?_
      rotate_left
      · simp only [List.getElem?_toArray, List.getElem?_cons_zero, List.getElem?_cons_succ, Option.some.injEq] at ho; subst ho; refine Or.inl ⟨by rfl, fun w' hSw => ?_⟩; (try dsimp only at hSw); go_simp; try with_reducible rfl
      simp only [Act.put, List.setIfInBounds_toArray, List.set_cons_zero, List.set_cons_succ]
      refine takeH (i := 7) (some 30) (v := ?_) rfl (by kernel_rfl) (by kernel_rfl) (by kernel_rfl) (fun _ _ _ h => h) hS2 (fun o ho => ?_) ?_
      rotate_left
      · simp only [List.getElem?_toArray, List.getElem?_cons_zero, List.getElem?_cons_succ, Option.some.injEq] at ho; subst ho; refine Or.inl ⟨by rfl, fun w' hSw => ?_⟩; (try dsimp only at hSw); go_simp; try with_reducible rfl
      simp only [Act.put, List.setIfInBounds_toArray, List.set_cons_zero, List.set_cons_succ]
      refine takeH (i := 8) (some 31) (v := ?_) rfl (by kernel_rfl) (by kernel_rfl) (by kernel_rfl) (fun _ _ _ h => h) hS2 (fun o ho => ?_) ?_
      rotate_left
      · simp only [List.getElem?_toArray, List.getElem?_cons_zero, List.getElem?_cons_succ, Option.some.injEq] at ho; subst ho; refine Or.inl ⟨by rfl, fun w' hSw => ?_⟩; (try dsimp only at hSw); go_simp; try with_reducible rfl
      simp only [Act.put, List.setIfInBounds_toArray, List.set_cons_zero, List.set_cons_succ]
      refine takeH (i := 9) (some 32) (v := ?_) rfl (by kernel_rfl) (by kernel_rfl) (by kernel_rfl) (fun _ _ _ h => h) hS2 (fun o ho => ?_) ?_
      rotate_left
      · simp only [List.getElem?_toArray, List.getElem?_cons_zero, List.getElem?_cons_succ, Option.some.injEq] at ho; subst ho; refine Or.inl ⟨by rfl, fun w' hSw => ?_⟩; (try dsimp only at hSw); go_simp; try with_reducible rfl
      simp only [Act.put, List.setIfInBounds_toArray, List.set_cons_zero, List.set_cons_succ]
      refine takeH (i := 10) (some 33) (v := ?_) rfl (by kernel_rfl) (by kernel_rfl) (by kernel_rfl) (fun _ _ _ h => h) hS2 (fun o ho => ?_) ?_
      rotate_left
      · simp only [List.getElem?_toArray, List.getElem?_cons_zero, List.getElem?_cons_succ, Option.some.injEq] at ho; subst ho; refine Or.inl ⟨by rfl, fun w' hSw => ?_⟩; (try dsimp only at hSw); go_simp; try with_reducible rfl
      simp only [Act.put, List.setIfInBounds_toArray, List.set_cons_zero, List.set_cons_succ]
      refine takeH (i := 11) (some 34) (v := ?_) rfl (by kernel_rfl) (by kernel_rfl) (by kernel_rfl) (fun _ _ _ h => h) hS2 (fun o ho => ?_) ?_
      rotate_left
      · simp only [List.getElem?_toArray, List.getElem?_cons_zero, List.getElem?_cons_succ, Option.some.injEq] at ho; subst ho; refine Or.inl ⟨by rfl, fun w' hSw => ?_⟩; (try dsimp only at hSw); go_simp; try with_reducible rfl
      simp only [Act.put, List.setIfInBounds_toArray, List.set_cons_zero, List.set_cons_succ]
      refine takeH (i := 12) (some 35) (v := ?_) rfl (by kernel_rfl) (by kernel_rfl) (by kernel_rfl) (fun _ _ _ h => h) hS2 (fun o ho => ?_) ?_
      rotate_left
      · simp only [List.getElem?_toArray, List.getElem?_cons_zero, List.getElem?_cons_succ, Option.some.injEq] at ho; subst ho; refine Or.inl ⟨by rfl, fun w' hSw => ?_⟩; (try dsimp only at hSw); go_simp; try with_reducible rfl
      simp only [Act.put, List.setIfInBounds_toArray, List.set_cons_zero, List.set_cons_succ]
      refine takeH (i := 13) (some 36) (v := ?_) rfl (by kernel_rfl) (by kernel_rfl) (by kernel_rfl) (fun _ _ _ h => h) hS2 (fun o ho => ?_) ?_
      rotate_left
      · simp only [List.getElem?_toArray, List.getElem?_cons_zero, List.getElem?_cons_succ, Option.some.injEq] at ho; subst ho; refine Or.inl ⟨by rfl, fun w' hSw => ?_⟩; (try dsimp only at hSw); go_simp; try with_reducible rfl
      simp only [Act.put, List.setIfInBounds_toArray, List.set_cons_zero, List.set_cons_succ]
      refine wpAnyH_done (by kernel_rfl) ?_ _
      refine lastH (by decide) (fun o ho K' hK => ?_)
      simp only [List.getElem?_toArray, List.getElem?_cons_zero, List.getElem?_cons_succ, Option.some.injEq] at ho; subst ho
      go_simp
      refine hK.out _ _ ?_
      clear hK K'
      obtain ⟨wP, hwP⟩ : ∃ wP, wP = (wA.setCell ⟨P, 5, none⟩ (.slice (some ⟨g, 0, none⟩) lo cap)).drew := ⟨_, rfl⟩
      have hMP : WsM Wa H Ga bs.length R K wP (.slice (some ⟨g, 0, none⟩) lo cap) (mkB bs) (phB bs) ⟨s'.A, s'.E, op⟩ := by
        have h1 := WsM.setOp HMA.out (W7 := wA) (v' := .slice (some ⟨g, 0, none⟩) lo cap) (l := op) ⟨rfl, rfl, rfl, Nat.le_refl _, fun _ _ _ => rfl, fun x h => .inl (by rw [HV.out]; exact h)⟩ HPOPA.out
        rw [HP.out] at h1
        rw [hwP]; exact h1.below (Below.refl _ _).drew
      have hbQ : wP.heap[Q]? = some (.cells #[.int .i64 (b : Int), .int .i64 (r : Int)] 137) := by
        rw [hwP]
        have h1 : (wA.setCell ⟨P, 5, none⟩ (.slice (some ⟨g, 0, none⟩) lo cap)).heap[Q]? = wA.heap[Q]? := Below.heap_setCell _ _ _ _ (by have := HQ.out; show Q ≠ P; omega)
        exact h1.trans HBQ.out
      have hGP : GroS H P W wP vo (.slice (some ⟨g, 0, none⟩) lo cap) := by
        rw [hwP]
        refine (HGK.out.mono HBELA.out).trans (GroS.trans (b := wA) (v := .slice (some ⟨g, 0, none⟩) lo cap) ⟨rfl, rfl, rfl, Nat.le_refl _, fun _ _ _ _ => rfl, fun x h => .inl (by rw [HV.out]; exact h)⟩ ?_)
        exact (GroS.store wA (.slice (some ⟨g, 0, none⟩) lo cap) (p := ⟨P, 5, none⟩) (by have := HZ.out; show H ≤ P ∧ P ≤ P; omega) _).mono (Below.refl _ _).drew
      have hfew : FewS bs.length R ⟨s'.A, s'.E, op⟩ := by
        have h1 := HFK.out
        unfold FewS at h1 ⊢
        rw [HE.out] at h1
        exact ⟨by have := h1.1; simp at this; show op.length ≤ cntA bs.length R s'.A; omega, fun x hx => h1.2 x (by have hx : x ∈ op := hx; simp [hx])⟩
      have hms : msS bs.length R s' = msS bs.length R ⟨s'.A, s'.E, op⟩ + 1 := by unfold msS; rw [HE.out]; simp; omega
      have hmid := MidS.start HGO.out HTO.out HE.out
      have HMS := Lib.hid hms
      have HMID := Lib.hid hmid
      have HFEW := Lib.hid hfew
      have HGP := Lib.hid hGP
      have HMP := Lib.hid hMP
      have HBQP := Lib.hid hbQ
      obtain ⟨t0, -⟩ := hMP.cells HP.out
      have d0 := cell_of_block hbQ 0
      obtain ⟨A3, c3, hr0, hr2⟩ := ahead_row HAH.out HBR.out.1 (Below.refl Wa.heap.size Wa)
      obtain ⟨m, hm⟩ : ∃ m, (aheadL bs b).length = m := ⟨_, rfl⟩
      have hm64 : m ≤ 64 := by rw [← hm]; have := aheadK_len bs 0 b; unfold aheadL; omega
      have HMM := Lib.hid hm
      rw [hm] at hr0
      have hr1 := kept_of_below (show Below Wa.heap.size Wa wP by rw [HZ.out.1]; exact hMP.bel) _ _ hr0
      have HR2 := Lib.hid hr2
      have hb0 : (0 : Int) ≤ b := by omega
      have hb1 : (b : Int) < bs.length := by have := HBR.out.1; omega
      rw [← hwP]
      clear hwP hMP hbQ hGP hfew hms hmid hr2 hr0 hm hS2 hf2 r5 r6 hrun
      go_wp2_with fail
      go_quiet (fail)
      have hbd : Below wP.heap.size wP (wP.drewN nq) := below_drewN (Below.refl _ _) nq
      have HMC := Lib.hid (HMP.out.below hbd)
      have HBQC : Hid ((wP.drewN nq).heap[Q]? = some (.cells #[.int .i64 (b : Int), .int .i64 (r : Int)] 137)) := Lib.hid ((hbd.block Q (Array.getElem?_eq_some_iff.1 HBQP.out).1).trans HBQP.out)
      have HGC := Lib.hid (HGP.out.mono hbd)
      have HQN : Hid ((Value.slice (some ⟨g, 0, none⟩) lo cap).ownBlock ≠ some Q) := Lib.hid (fun e => by
        have e : g = Q := by injection e
        have := HQ.out; omega)
      clear hbd t0 d0 hr1 HMP HBQP HGP
      generalize wP.drewN nq = wC at *
      go_wp2_with fail
      go_loopw [46] (fun s46 wq => ∃ (j : Nat) (v2 : Value) (s2 : LvS), j ≤ m ∧ s46 = .int .i64 (j : Int) ∧ WsM Wa H Ga bs.length R K wq v2 (mkB bs) (phB bs) s2 ∧ FewS bs.length R s2 ∧ MidS bs (b, r) j s2 ∧ msS bs.length R s2 = msS bs.length R ⟨s'.A, s'.E, op⟩ ∧ GroS H P wC wq (.slice (some ⟨g, 0, none⟩) lo cap) v2) (fun s46 _ => m - (intOf s46).toNat)
      case atStart => exact ⟨0, _, _, Nat.zero_le _, rfl, HMC.out, HFEW.out, HMID.out, rfl, GroS.refl _ _ _ _⟩
      case round =>
        obtain ⟨j, v2, s2, hj, rfl, hM, hF, hmid, hms, hG⟩ := hrel
        have HMJ := Lib.hid hM
        have HFJ := Lib.hid hF
        have HGJ := Lib.hid hG
        have HDJ := Lib.hid hmid
        have HSJ := Lib.hid hms
        by_cases hjm : j < m
        · have hbw : Below Wa.heap.size Wa wr := by rw [HZ.out.1]; exact hM.bel
          obtain ⟨bt, ot, x, rfl, hx, hxc, -⟩ := (SInts.keep (kept_of_below hbw) HR2.out).int (k := j) (by rw [HMM.out]; exact hjm)
          obtain ⟨q, rfl, hq⟩ := ah_lt hx.out
          have hbQ2 : wr.heap[Q]? = some (.cells #[.int .i64 (b : Int), .int .i64 (r : Int)] 137) := (hG.block Q (Array.getElem?_eq_some_iff.1 HBQC.out).1 (by have := HQ.out; omega) HQN.out).trans HBQC.out
          have d1 := cell_of_block hbQ2 1
          have hcl := atEnd_any Wa H Ga bs.length R K wr v2 (mkB bs) (phB bs) s2 hM hF hn hR q r hq HBR.out.2
          rw [HP.out] at hcl
          have HCL := Lib.hid hcl
          have HFS := Lib.hid (hF.atE (mkB bs) (phB bs) hq HBR.out.2)
          have HDS := Lib.hid (hmid.step HBR.out.1 hx.out)
          have HMSS := Lib.hid ((msS_atE (mkB bs) (phB bs) (s := s2) hq HBR.out.2).trans hms)
          have hj0 : (0 : Int) ≤ j := by omega
          have hj1 : (j : Int) < m := by omega
          clear hM hF hG hbw hx hbQ2 hcl hmid hms
          go_wp2_with (go_at_call 74; refine HCL.out.mono ?_; rintro e w5 ⟨rfl, v3, hM5, hG5⟩)
          rw [HP.out] at hG5
          go_roundw
          case rel => exact ⟨j + 1, v3, _, by omega, by go_num, hM5, HFS.out, by simpa using HDS.out, HMSS.out, HGJ.out.trans hG5⟩
          case measure => simp [intOf]; omega
        · obtain rfl : j = m := by omega
          have HDN := Lib.hid (hmid.done (by rw [show ((b, r) : Nat × Nat).1 = b from rfl, HMM.out]; exact Nat.le_refl _))
          have hlt : msS bs.length R s2 < gk := by rw [HK.out, HMS.out, HSJ.out]; omega
          have HLT := Lib.hid hlt
          clear hM hF hG hmid hms hlt
          go_wp2_with fail
          go_roundg (msS bs.length R s2)
          case measure => exact HLT.out
          case rel => exact ⟨v2, s2, rfl, HMJ.out, HFJ.out, HDN.out.1, HDN.out.2, HGC.out.trans HGJ.out⟩
end Go.Proofs.Ytflbooopgjgkbaa
