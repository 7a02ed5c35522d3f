/- The program's Count: how often registers are named. -/
import Derived.Test.YtdfiflbkamhchaaDoorGrNxJ
import Derived.Test.YtdfiflbkamhchaaDoorChkBJ
import Derived.LaidEql
import Derived.Test.YtdfiflbkamhchaaDoorArMJ
namespace Go.Proofs.YtdfiflbkamhchaaDoor
open Go.ChangeShapes Go.WideShapes Go.RowKit Go.Deep
set_option linter.unusedVariables false

/-! ### In mathematics -/
def ctA (l : List Int) (r : Nat) : Nat := l.countP fun a => decide (a = (r : Int))
def ctP (ps : List PhiD) (j r : Nat) : Nat := ((ps.take j).map fun p => ctA p.args r).sum
def ctI (ins : List InsD) (j r : Nat) : Nat := ((ins.take j).map fun x => ctA x.args r).sum
def ctK (k : BlkD) (r : Nat) : Nat := ctP k.phis k.phis.length r + ctI k.ins k.ins.length r + (if k.term.arg = (r : Int) then 1 else 0)
def ctF (bs : List BlkD) (i r : Nat) : Nat := ((bs.take i).map fun k => ctK k r).sum
theorem ctA_snoc {l : List Int} {j : Nat} {a : Int} (h : l[j]? = some a) (r : Nat) : ctA (l.take (j + 1)) r = ctA (l.take j) r + (if a = (r : Int) then 1 else 0) := by
  unfold ctA
  rw [take_succ_of h, List.countP_append]
  by_cases e : a = (r : Int) <;> simp [e]
theorem ctP_succ {ps : List PhiD} {j : Nat} {p : PhiD} (h : ps[j]? = some p) (r : Nat) : ctP ps (j + 1) r = ctP ps j r + ctA p.args r := by unfold ctP; rw [take_succ_of h]; simp
theorem ctI_succ {ps : List InsD} {j : Nat} {p : InsD} (h : ps[j]? = some p) (r : Nat) : ctI ps (j + 1) r = ctI ps j r + ctA p.args r := by unfold ctI; rw [take_succ_of h]; simp
theorem ctF_succ {bs : List BlkD} {j : Nat} {k : BlkD} (h : bs[j]? = some k) (r : Nat) : ctF bs (j + 1) r = ctF bs j r + ctK k r := by unfold ctF; rw [take_succ_of h]; simp
theorem ctA_le (l : List Int) (r : Nat) : ctA l r ≤ l.length := List.countP_le_length
theorem sum_le_of {l : List Nat} {c : Nat} (h : ∀ x ∈ l, x ≤ c) : l.sum ≤ c * l.length := by
  induction l with
  | nil => simp
  | cons a l ih =>
    have h1 := h a (by simp)
    have h2 := ih (fun x hx => h x (by simp [hx]))
    rw [List.sum_cons, List.length_cons, Nat.mul_succ]; omega
theorem ctP_le {ps : List PhiD} (h : ∀ p ∈ ps, p.args.length ≤ 300) (hl : ps.length ≤ 300) (j r : Nat) : ctP ps j r ≤ 90000 := by
  unfold ctP
  have h1 := sum_le_of (l := (ps.take j).map fun p => ctA p.args r) (c := 300) (fun x hx => by
    obtain ⟨p, hp, rfl⟩ := List.mem_map.1 hx
    exact Nat.le_trans (ctA_le _ _) (h p (List.mem_of_mem_take hp)))
  rw [List.length_map, List.length_take] at h1
  have h2 : 300 * min j ps.length ≤ 300 * 300 := Nat.mul_le_mul (Nat.le_refl _) (by omega)
  omega
theorem ctI_le {ps : List InsD} (h : ∀ p ∈ ps, p.args.length ≤ 300) (hl : ps.length ≤ 300) (j r : Nat) : ctI ps j r ≤ 90000 := by
  unfold ctI
  have h1 := sum_le_of (l := (ps.take j).map fun p => ctA p.args r) (c := 300) (fun x hx => by
    obtain ⟨p, hp, rfl⟩ := List.mem_map.1 hx
    exact Nat.le_trans (ctA_le _ _) (h p (List.mem_of_mem_take hp)))
  rw [List.length_map, List.length_take] at h1
  have h2 : 300 * min j ps.length ≤ 300 * 300 := Nat.mul_le_mul (Nat.le_refl _) (by omega)
  omega
theorem lv_phis {f : FunD} (h : LvOk f) {i : Nat} {k : BlkD} (hk : f.blocks[i]? = some k) : ∀ p ∈ k.phis, p.args.length ≤ 300 := fun p hp => by
  have h1 := ((h.phi i k hk).2 p hp).1
  have h2 := aheadK_len f.blocks 0 i
  have := h.nb
  rw [h1]; unfold aheadL; omega
theorem ctK_le {f : FunD} (h : LvOk f) {i : Nat} {k : BlkD} (hk : f.blocks[i]? = some k) (r : Nat) : ctK k r ≤ 180001 := by
  unfold ctK
  have h1 := ctP_le (lv_phis h hk) (h.phi i k hk).1 k.phis.length r
  have h2 := ctI_le (fun x hx => ((h.use i k hk).ins x hx).2.2) (h.use i k hk).len k.ins.length r
  split <;> omega
theorem ctF_le {f : FunD} (h : LvOk f) (i r : Nat) : ctF f.blocks i r ≤ 180001 * 64 := by
  unfold ctF
  have h1 := sum_le_of (l := (f.blocks.take i).map fun k => ctK k r) (c := 180001) (fun x hx => by
    obtain ⟨k, hk, rfl⟩ := List.mem_map.1 hx
    obtain ⟨j, hj⟩ := List.mem_iff_getElem?.1 (List.mem_of_mem_take hk)
    exact ctK_le h hj r)
  rw [List.length_map, List.length_take] at h1
  have := h.nb
  have h2 : 180001 * min i f.blocks.length ≤ 180001 * 64 := Nat.mul_le_mul (Nat.le_refl _) (by omega)
  omega

/-! ### The walks -/
set_option maxRecDepth 100000 in
set_option maxHeartbeats 8000000 in
theorem add_any (w : World) (G R : Nat) (F : Nat → Nat) (rs : List Int) (A : Option Addr) (c : Nat) (hrow : w.rowIs G 3 R (fun r => .int .i64 (F r : Int))) (hrs : ∀ w', FrX (fun b => b = G) w w' → SL w' 1 RInt A c rs) (hok : ∀ a ∈ rs, InR R a) (hl : rs.length ≤ 1000) (hF : ∀ r, F r ≤ 100000000) :
    Calls Tryd.prog 14 #[.slice (some ⟨G, 0, none⟩) R R, .slice A rs.length c] w fun e w' => e = .returned (.tuple #[]) ∧ w'.rowIs G 3 R (fun r => .int .i64 ((F r + ctA rs r : Nat) : Int)) ∧ FrX (fun b => b = G) w w' := by
  have HR := Lib.hid hrow
  have HS := Lib.hid hrs
  have HOK := Lib.hid hok
  have HF := Lib.hid hF
  obtain ⟨lz, hlz⟩ : ∃ lz, rs.length = lz := ⟨_, rfl⟩
  have HLZ := Lib.hid hlz
  rw [hlz] at hl ⊢
  clear hrow hrs hok hF hlz
  go_enter Tryd.func14, Tryd.ntmps14
  go_wp2_with fail
  go_loopw [8] (fun s8 wq => ∃ j : Nat, j ≤ lz ∧ s8 = .int .i64 (j : Int) ∧ wq.rowIs G 3 R (fun r => .int .i64 ((F r + ctA (rs.take j) r : Nat) : Int)) ∧ FrX (fun b => b = G) w wq) (fun s8 _ => lz - (intOf s8).toNat)
  case atStart => exact ⟨0, Nat.zero_le _, rfl, HR.out.congr fun r _ => by simp [ctA], FrX.refl _ _⟩
  case round =>
    obtain ⟨j, hj, rfl, hr, hfr⟩ := hrel
    have HRJ := Lib.hid hr
    have HFJ := Lib.hid hfr
    by_cases hjl : j < lz
    · obtain ⟨bt, ot, y, rfl, hy, hyc, -⟩ := (HS.out wr hfr).int (k := j) (by rw [HLZ.out]; exact hjl)
      have hyr := HOK.out y (List.mem_of_getElem? hy.out)
      obtain ⟨d, rfl⟩ : ∃ d : Nat, y = (d : Int) := ⟨y.toNat, by have := hyr.1; omega⟩
      have hdR : d < R := by have := hyr.2; omega
      have x0 := hr.cell hdR
      have f0 := hr.frozen d
      obtain ⟨z, hz⟩ : ∃ z, F d + ctA (rs.take j) d = z := ⟨_, rfl⟩
      rw [hz] at x0
      have hz9 : z ≤ 200000000 := by
        have h1 := HF.out d
        have h2 := ctA_le (rs.take j) d
        rw [List.length_take] at h2; omega
      have HZ := Lib.hid hz
      have HST := Lib.hid (ctA_snoc hy.out)
      have hd0 : (0 : Int) ≤ d := by omega
      have hd1 : (d : Int) < R := by omega
      have hj0 : (0 : Int) ≤ j := by omega
      have hj1 : (j : Int) < lz := by omega
      clear hr hfr hy hyr hz
      go_wp2_with fail
      go_roundw
      case rel =>
        refine ⟨j + 1, by omega, by go_num, (HRJ.out.set d _).congr fun r _ => ?_, HFJ.out.setCell (p := ⟨G, d, none⟩) (.inl rfl) _⟩
        rw [HST.out r]
        by_cases e : r = d
        · subst e; rw [if_pos rfl, if_pos rfl, ← HZ.out]; simp; omega
        · rw [if_neg e, if_neg (show ¬ (d : Int) = (r : Int) by omega)]; simp
      case measure => simp [intOf]; omega
    · obtain rfl : j = lz := by omega
      clear hr hfr
      go_wp2_with fail
      go_end0
      refine ⟨rfl, ?_, HFJ.out⟩
      have h1 := HRJ.out
      rw [List.take_of_length_le (by rw [HLZ.out]; exact Nat.le_refl _)] at h1
      exact h1
/-- How often registers are named, or what is amiss. -/
def ToldCt (m : List FunD) (n : Int) (w : World) (e : Ending) (w' : World) : Prop :=
  (∃ vc ve, e = .returned (.tuple #[vc, ve]) ∧
    ((vc = .slice none 0 0 ∧ ((¬ Proper m ∧ ErrAt w' ve (modE m)) ∨ (Proper m ∧ ¬ (0 ≤ n ∧ n < m.length) ∧ ve = .iface 38 (.int .i64 1)))) ∨
     (Proper m ∧ ve = .nilIface ∧ ∃ (k : Nat) (f : FunD) (G : Nat), n = (k : Int) ∧ m[k]? = some f ∧ vc = .slice (some ⟨G, 0, none⟩) f.regs.length f.regs.length ∧ w.heap.size ≤ G ∧ w'.rowIs G 3 f.regs.length (fun r => .int .i64 (ctF f.blocks f.blocks.length r : Int)) ∧ LvOk f))) ∧ Below w.heap.size w w'
set_option maxRecDepth 100000 in
set_option maxHeartbeats 16000000 in
theorem count_any (m : List FunD) (n : Int) (v : Value) (w : World) (hv : VMod w v m) (hsm : SmallM m) : Calls Tryd.prog 7 #[v, .int .i64 n] w (ToldCt m n w) := by
  have hv0 := hv
  obtain ⟨Am, cm, rfl, hm⟩ := hv
  have HSM := Lib.hid hsm
  have HMM := Lib.hid hm
  clear hm hsm
  go_enter Tryd.func7, Tryd.ntmps7
  go_upto_region 1 with fail
  obtain ⟨w1, hw1, hs1, hk1, hbel1, hc1, -⟩ := named w #[.slice Am m.length cm] 24
  rw [← hw1]
  have c0 : w1.cell? ⟨w.heap.size, 0, none⟩ = some (.slice Am m.length cm) := hc1 0 _ rfl
  have HB1 := Lib.hid hbel1
  have HS1 : Hid (w1.heap.size = w.heap.size + 1) := Lib.hid hs1
  have HV1 := Lib.hid (VMod.keep hk1 hv0)
  obtain ⟨N, hN⟩ : ∃ N, N = w.heap.size := ⟨_, rfl⟩
  have HN := Lib.hid hN
  rw [← hN] at c0 ⊢
  clear hw1 hs1 hk1 hc1 hbel1 hv0 hN
  go_wp2_with fail
  refine (whether_any m n _ _ HV1.out HSM.out).mono ?_
  rintro e w3 ⟨⟨ve, rfl, hErr⟩, hb3⟩
  have q3 := kept_of_below hb3 _ _ c0
  have HB3 : Hid (Below w.heap.size w w3) := Lib.hid (HB1.out.trans (hb3.mono (by have := HS1.out; omega)))
  have HN3 : Hid (N < w3.heap.size) := Lib.hid (by have := hb3.size; have := HS1.out; have := HN.out; omega)
  have HERR := Lib.hid hErr
  clear c0 hb3 hErr
  rcases HERR.out with ⟨hp, he⟩ | ⟨hp, hn, rfl⟩ | ⟨hp, hn, rfl⟩
  · obtain ⟨te, xe, hve⟩ := err_form he hp
    subst hve
    have HPR := Lib.hid hp
    have HE := Lib.hid he
    clear hp he
    go_wp2_with fail
    (try simp only [Exit.inBlock, Exit.then])
    refine bodyPost_ret (results_tmp2 rfl _ _ _) rfl ?_
    exact ⟨⟨_, _, rfl, .inl ⟨rfl, .inl ⟨HPR.out, HE.out⟩⟩⟩, HB3.out⟩
  · have HPR := Lib.hid (And.intro hp hn)
    clear hp hn
    go_wp2_with fail
    (try simp only [Exit.inBlock, Exit.then])
    refine bodyPost_ret (results_tmp2 rfl _ _ _) rfl ?_
    exact ⟨⟨_, _, rfl, .inl ⟨rfl, .inr ⟨HPR.out.1, HPR.out.2, rfl⟩⟩⟩, HB3.out⟩
  · obtain ⟨k, rfl⟩ : ∃ k : Nat, n = (k : Int) := ⟨n.toNat, by omega⟩
    have hkl : k < m.length := by omega
    have hk3 : Kept w w3 := kept_of_below HB3.out
    obtain ⟨b, o, f, rfl, hF, ⟨c0, z0⟩, ⟨c1, z1⟩, ⟨Ar, cr, c2, z2⟩, ⟨Ab, cb, c3, z3⟩⟩ := (SFuns.keep hk3 HMM.out).at_ hkl
    have hok := lv_ok hp HSM.out (List.mem_of_getElem? hF.out)
    have HBS := Lib.hid z3
    have HPR := Lib.hid hp
    have HOK := Lib.hid hok
    have HFF := Lib.hid hF
    have hk0 : (0 : Int) ≤ k := by omega
    have hk1 : (k : Int) < m.length := by omega
    have hnr := hok.nr
    have hnb := hok.nb
    obtain ⟨R, hR⟩ : ∃ R, f.regs.length = R := ⟨_, rfl⟩
    have HRR := Lib.hid hR
    rw [hR] at c2 hnr
    have hmk := run_make_row' (P := Tryd.prog) 32 3 (.int .i64 0) 8 Tryd.underlying32 Tryd.info3 rfl .i64 .i64 R (by omega) (by omega)
    have hbb := block_lt_of_cell c3
    clear hp hn hk3 hok hF z0 z1 z2 z3 hR
    go_upto_region 5 with fail
    clear hmk
    obtain ⟨G, hG⟩ : ∃ G, G = w3.heap.size := ⟨_, rfl⟩
    obtain ⟨w4, hw4⟩ : ∃ w4, w4 = w3.alloc (.cells (madeCells #[.int .i64 0] R) 3) := ⟨_, rfl⟩
    have b1 : w4.heap[G]? = some (.cells (madeCells #[.int .i64 0] R) 3) := by rw [hw4, hG]; exact heap_alloc_new _ _
    have hbel : Below w3.heap.size w3 w4 := by rw [hw4]; exact (Below.refl _ _).alloc (Nat.le_refl _) _
    have HROW := Lib.hid (row_madeQ b1)
    have HGZ : Hid (G = w3.heap.size ∧ w4.heap.size = G + 1 ∧ w.heap.size ≤ G) := Lib.hid ⟨hG, by rw [hw4, hG]; simp, by have := HB3.out.size; omega⟩
    have HB4 : Hid (∀ W, FrX (fun b => b = G) w4 W → Below w3.heap.size w3 W) := Lib.hid (fun W h => hbel.trans (h.below hbel.size (fun b hb => by have hb : b = G := hb; omega)))
    have q4 := kept_of_below hbel _ _ q3
    have d3 := kept_of_below hbel _ _ c3
    rw [← hw4, ← hG]
    clear hw4 hG b1 hbel q3 c0 c1 c2 c3 hbb
    go_wp2_with fail
    clear q4 d3
    go_loopw [35] (fun s35 wq => ∃ i : Nat, i ≤ f.blocks.length ∧ s35 = .int .i64 (i : Int) ∧ wq.rowIs G 3 R (fun r => .int .i64 (ctF f.blocks i r : Int)) ∧ FrX (fun b => b = G) w4 wq) (fun s35 _ => f.blocks.length - (intOf s35).toNat)
    case atStart => exact ⟨0, Nat.zero_le _, rfl, HROW.out.congr fun r _ => by simp [ctF], FrX.refl _ _⟩
    case round =>
      obtain ⟨i, hi, rfl, hr, hfr⟩ := hrel
      obtain ⟨wL, rfl⟩ : ∃ wL, wL = wr := ⟨_, rfl⟩
      have HRL := Lib.hid hr
      have HFL := Lib.hid hfr
      by_cases hil : i < f.blocks.length
      · have hbw := HB4.out wL hfr
        obtain ⟨bk, ok, kb, rfl, hk, ⟨A1, a1, k0', hs1⟩, ⟨A2, a2, k1', hs2⟩, k2', k3', A3, a3, k4', hs3⟩ := HBS.out.at_ hil
        have hkp := kept_of_below hbw
        have k0 := hkp _ _ k0'
        have k1 := hkp _ _ k1'
        have k2 := hkp _ _ k2'.1
        have k3 := hkp _ _ k3'.1
        have k4 := hkp _ _ k4'
        have hi0 : (0 : Int) ≤ i := by omega
        have hi1 : (i : Int) < f.blocks.length := by omega
        have HKK := Lib.hid hk
        have HPS := Lib.hid hs1
        have HIS := Lib.hid hs2
        have hpl := (HOK.out.phi i kb hk).1
        have hinl := (HOK.out.use i kb hk).len
        have HPI := Lib.hid (HOK.out.phi i kb hk).2
        have HUI := Lib.hid (HOK.out.use i kb hk)
        have HP3 := Lib.hid (lv_phis HOK.out hk)
        have HCF := Lib.hid (fun r => ctF_le HOK.out i r)
        obtain ⟨Q, hQ⟩ : ∃ Q, Q = wL.heap.size := ⟨_, rfl⟩
        obtain ⟨wB, hwB⟩ : ∃ wB, wB = wL.alloc (.cells #[.slice A1 kb.phis.length a1, .slice A2 kb.ins.length a2, .int .i64 kb.term.kind, .int .i64 kb.term.arg, .slice A3 kb.term.to.length a3] 52) := ⟨_, rfl⟩
        have hbQ : wB.heap[Q]? = some (.cells #[.slice A1 kb.phis.length a1, .slice A2 kb.ins.length a2, .int .i64 kb.term.kind, .int .i64 kb.term.arg, .slice A3 kb.term.to.length a3] 52) := by rw [hwB, hQ]; exact heap_alloc_new _ _
        have hbelB : Below wL.heap.size wL wB := by rw [hwB]; exact (Below.refl _ _).alloc (Nat.le_refl _) _
        have HQ : Hid (Q = wL.heap.size ∧ wB.heap.size = Q + 1 ∧ G < Q) := Lib.hid ⟨hQ, by rw [hwB, hQ]; simp, by have := hr.lt; omega⟩
        have HBQ := Lib.hid hbQ
        have HFB : Hid (FrX (fun b => b = G) w4 wB) := Lib.hid (hfr.trans (.of_below hbelB))
        have HRB := Lib.hid (hr.of_block (hbelB.block G hr.lt))
        have q0 := cell_of_block hbQ 0
        go_upto_region 8 with fail
        rw [← hwB, ← hQ]
        clear hr hfr hbw hkp k0 k1 k2 k3 k4 k0' k1' k2' k3' k4' hs1 hs2 hs3 hk hQ hwB hbQ hbelB
        go_wp2_with fail
        clear q0
        go_loopw [42] (fun s42 wq => ∃ j : Nat, j ≤ kb.phis.length ∧ s42 = .int .i64 (j : Int) ∧ wq.rowIs G 3 R (fun r => .int .i64 ((ctF f.blocks i r + ctP kb.phis j r : Nat) : Int)) ∧ FrX (fun b => b = G) wB wq) (fun s42 _ => kb.phis.length - (intOf s42).toNat)
        case atStart => exact ⟨0, Nat.zero_le _, rfl, HRB.out.congr fun r _ => by simp [ctP], FrX.refl _ _⟩
        case round =>
          obtain ⟨j, hj, rfl, hr, hfr⟩ := hrel
          obtain ⟨wj, rfl⟩ : ∃ wj, wj = wr := ⟨_, rfl⟩
          have HRJ := Lib.hid hr
          have HFJ := Lib.hid hfr
          by_cases hjl : j < kb.phis.length
          · have hbw := HB4.out wj (HFB.out.trans hfr)
            obtain ⟨bp, op, p, rfl, hp, hpd, A5, a5, hpa, hps⟩ := HPS.out.at_ hjl
            have hkp := kept_of_below hbw
            have d0 := hkp _ _ hpd.1
            have d1 := hkp _ _ hpa
            have hpr := (HPI.out p (List.mem_of_getElem? hp.out)).2.2
            have hp3 := HP3.out p (List.mem_of_getElem? hp.out)
            have HPP := Lib.hid hp
            have hj0 : (0 : Int) ≤ j := by omega
            have hj1 : (j : Int) < kb.phis.length := by omega
            have hcl := add_any (wj.alloc (.cells #[.int .i64 p.dst, .slice A5 p.args.length a5] 56)) G R (fun r => ctF f.blocks i r + ctP kb.phis j r) p.args A5 a5 (hr.alloc _) (fun w' hf => SInts.keep (kept_of_below (HB4.out w' (HFB.out.trans ((HFJ.out.alloc _).trans hf)))) hps) (fun a ha => by rw [← HRR.out]; exact hpr a ha) (by omega) (fun r => by have := HCF.out r; have := ctP_le HP3.out hpl j r; omega)
            have HCL := Lib.hid hcl
            clear hr hfr hbw hkp hpd hpa hps hp hpr hp3 hcl
            go_wp2_with (go_at_call 14; refine HCL.out.mono ?_; rintro e w5 ⟨rfl, hr5, hf5⟩)
            go_roundw
            case rel => exact ⟨j + 1, by omega, by go_num, hr5.congr fun r _ => by rw [ctP_succ HPP.out, Nat.add_assoc], (HFJ.out.alloc _).trans hf5⟩
            case measure => simp [intOf]; omega
          · obtain rfl : j = kb.phis.length := by omega
            have hbQ2 : wj.heap[Q]? = _ := (hfr.block Q (by have := HQ.out; omega) (by have := HQ.out; show ¬ Q = G; omega)).trans HBQ.out
            have q1 := cell_of_block hbQ2 1
            clear hr hfr hbQ2
            go_wp2_with fail
            clear q1
            go_loopw [54] (fun s54 wq => ∃ j : Nat, j ≤ kb.ins.length ∧ s54 = .int .i64 (j : Int) ∧ wq.rowIs G 3 R (fun r => .int .i64 ((ctF f.blocks i r + ctP kb.phis kb.phis.length r + ctI kb.ins j r : Nat) : Int)) ∧ FrX (fun b => b = G) wB wq) (fun s54 _ => kb.ins.length - (intOf s54).toNat)
            case atStart => exact ⟨0, Nat.zero_le _, rfl, HRJ.out.congr fun r _ => by simp [ctI], HFJ.out⟩
            case round =>
              obtain ⟨j, hj, rfl, hr, hfr⟩ := hrel
              obtain ⟨wi, rfl⟩ : ∃ wi, wi = wr := ⟨_, rfl⟩
              have HRI := Lib.hid hr
              have HFI := Lib.hid hfr
              by_cases hjl : j < kb.ins.length
              · have hbw := HB4.out wi (HFB.out.trans hfr)
                obtain ⟨bp, op, x, rfl, hx, h0, h1, ⟨A5, a5, h2, hps⟩, h3, h4⟩ := HIS.out.at_ hjl
                have hkp := kept_of_below hbw
                have d0 := hkp _ _ h0.1
                have d1 := hkp _ _ h1.1
                have d2 := hkp _ _ h2
                have d3 := hkp _ _ h3.1
                have d4 := hkp _ _ h4.1
                obtain ⟨hxa, -, hxl⟩ := HUI.out.ins x (List.mem_of_getElem? hx.out)
                have HXX := Lib.hid hx
                have hj0 : (0 : Int) ≤ j := by omega
                have hj1 : (j : Int) < kb.ins.length := by omega
                have hcl := add_any (wi.alloc (.cells #[.int .i64 x.op, .int .i64 x.dst, .slice A5 x.args.length a5, .int .i64 x.imm, .int .i64 x.fn] 54)) G R (fun r => ctF f.blocks i r + ctP kb.phis kb.phis.length r + ctI kb.ins j r) x.args A5 a5 (hr.alloc _) (fun w' hf => SInts.keep (kept_of_below (HB4.out w' (HFB.out.trans ((HFI.out.alloc _).trans hf)))) hps) (fun a ha => by rw [← HRR.out]; exact hxa a ha) (by omega) (fun r => by have := HCF.out r; have := ctP_le HP3.out hpl kb.phis.length r; have := ctI_le (fun x hx => (HUI.out.ins x hx).2.2) hinl j r; omega)
                have HCL := Lib.hid hcl
                clear hr hfr hbw hkp h0 h1 h2 h3 h4 hps hx hxa hxl hcl
                go_wp2_with (go_at_call 14; refine HCL.out.mono ?_; rintro e w5 ⟨rfl, hr5, hf5⟩)
                go_roundw
                case rel => exact ⟨j + 1, by omega, by go_num, hr5.congr fun r _ => by rw [ctI_succ HXX.out, Nat.add_assoc (ctF f.blocks i r + ctP kb.phis kb.phis.length r)], (HFI.out.alloc _).trans hf5⟩
                case measure => simp [intOf]; omega
              · obtain rfl : j = kb.ins.length := by omega
                have hbQ2 : wi.heap[Q]? = _ := (hfr.block Q (by have := HQ.out; omega) (by have := HQ.out; show ¬ Q = G; omega)).trans HBQ.out
                have q3 := cell_of_block hbQ2 3
                have HSF := Lib.hid (ctF_succ HKK.out)
                by_cases hd : kb.term.arg = -1
                · rw [hd] at q3
                  have HRN : Hid (wi.rowIs G 3 R (fun r => .int .i64 (ctF f.blocks (i + 1) r : Int))) := Lib.hid (hr.congr fun r _ => by rw [HSF.out r]; unfold ctK; rw [if_neg (by rw [hd]; omega), Nat.add_zero, Nat.add_assoc])
                  clear hr hfr hbQ2 hd
                  go_wp2_with fail
                  go_roundw
                  case rel => exact ⟨i + 1, by omega, by go_num, HRN.out, HFB.out.trans HFI.out⟩
                  case measure => simp [intOf]; omega
                · obtain ⟨d, hde, hdR⟩ : ∃ d : Nat, kb.term.arg = (d : Int) ∧ d < R := by
                    rw [← HRR.out]
                    rcases HUI.out.arg with h1 | h1
                    · exact absurd h1 hd
                    · exact ⟨kb.term.arg.toNat, by have := h1.1; omega, by have := h1.1; have := h1.2; omega⟩
                  rw [hde] at q3
                  have HDE := Lib.hid hde
                  have hd0 : (0 : Int) ≤ d := by omega
                  have hcl := add_any (wi.alloc (.cells #[.int .i64 (d : Int)] 3)) G R (fun r => ctF f.blocks i r + ctP kb.phis kb.phis.length r + ctI kb.ins kb.ins.length r) [(d : Int)] (some ⟨wi.heap.size, 0, none⟩) 1 (hr.alloc _) (fun w' hf => SL.one ⟨(World.cell?_of_block (a := ⟨wi.heap.size, 0, none⟩) (hf.block _ (by simp) (by have := hr.lt; show ¬ wi.heap.size = G; omega))).trans (by simp), by unfold I64; omega⟩) (fun a ha => by rw [List.mem_singleton.1 ha]; exact ⟨by omega, by omega⟩) (by simp) (fun r => by have := HCF.out r; have := ctP_le HP3.out hpl kb.phis.length r; have := ctI_le (fun x hx => (HUI.out.ins x hx).2.2) hinl kb.ins.length r; omega)
                  have HCL := Lib.hid hcl
                  clear hr hfr hbQ2 hd hde hcl
                  go_wp2_with (go_at_call 14; refine HCL.out.mono ?_; rintro e w5 ⟨rfl, hr5, hf5⟩)
                  go_roundw
                  case rel =>
                    refine ⟨i + 1, by omega, by go_num, hr5.congr fun r _ => ?_, HFB.out.trans ((HFI.out.alloc _).trans hf5)⟩
                    rw [HSF.out r]
                    unfold ctK ctA
                    rw [HDE.out]
                    by_cases e : (d : Int) = (r : Int)
                    · simp [e]; omega
                    · simp [e]; omega
                  case measure => simp [intOf]; omega
      · obtain rfl : i = f.blocks.length := by omega
        clear hr hfr
        go_wp2_with fail
        (try simp only [Exit.inBlock, Exit.then])
        refine bodyPost_ret (results_tmp2 rfl _ _ _) rfl ?_
        refine ⟨⟨_, _, rfl, .inr ⟨HPR.out, rfl, k, f, G, rfl, HFF.out, by rw [HRR.out]; rfl, HGZ.out.2.2, by rw [HRR.out]; exact HRL.out, HOK.out⟩⟩, HB3.out.trans ((HB4.out _ HFL.out).mono HB3.out.size)⟩
end Go.Proofs.YtdfiflbkamhchaaDoor

/- The document's Count: how often a register is named. -/
namespace Go.Proofs.YtdfiflbkamhchaaDoor
open Go.ChangeShapes Go.WideShapes Go.RowKit Go.Deep
set_option linter.unusedVariables false

set_option maxRecDepth 100000 in
set_option maxHeartbeats 16000000 in
theorem count8_any (f : FunD) (r : Nat) (v : Value) (w : World) (hv : VFun w v f) (hok : LvOk f) :
    Calls Tryd.prog 11 #[v, .int .i64 (r : Int)] w fun e w' => e = .returned (.int .i64 (ctF f.blocks f.blocks.length r : Int)) ∧ Below w.heap.size w w' := by
  have hv0 := hv
  obtain ⟨Ar, cr, A, c, rfl, -, hbl, -, -⟩ := hv
  have hnb := hok.nb
  have HOK := Lib.hid hok
  have hct0 : ctF f.blocks 0 r = 0 := by simp [ctF]
  have HCT0 := Lib.hid hct0
  clear hok hct0
  go_enter Tryd.func11, Tryd.ntmps11
  go_upto_region 1 with fail
  obtain ⟨w1, hw1, hs1, hk1, hbel1, hc1, -⟩ := named w #[.int .i64 f.params, .int .i64 f.result, .slice Ar f.regs.length cr, .slice A f.blocks.length c] 41
  rw [← hw1]
  have c3 : w1.cell? ⟨w.heap.size, 3, none⟩ = some (.slice A f.blocks.length c) := hc1 3 _ rfl
  have HB1 := Lib.hid hbel1
  have HBL := Lib.hid (SBlks.keep hk1 hbl)
  clear hw1 hs1 hk1 hc1 hbel1 hv0 hbl
  go_wp2_with fail
  go_loopw [5, 6] (fun s5 s6 wq => ∃ i : Nat, i ≤ f.blocks.length ∧ s5 = .int .i64 ((ctF f.blocks i r : Nat) : Int) ∧ s6 = .int .i64 (i : Int) ∧ wq = w1) (fun _ s6 _ => f.blocks.length - (intOf s6).toNat)
  case atStart => exact ⟨0, Nat.zero_le _, by rw [HCT0.out]; rfl, rfl, rfl⟩
  case round =>
    obtain ⟨i, hi, rfl, rfl, hww⟩ := hrel
    subst hww
    by_cases hil : i < f.blocks.length
    · obtain ⟨bk, ok, k, rfl, hk, ⟨A1, a1, k0, hs1⟩, ⟨A2, a2, k1, hs2⟩, -, k3', -⟩ := HBL.out.at_ hil
      have k3 := k3'.1
      obtain ⟨a, ha⟩ : ∃ a, a = ctF f.blocks i r := ⟨_, rfl⟩
      have hab : a ≤ 180001 * 64 := by rw [ha]; exact ctF_le HOK.out i r
      have hphl := lv_phis HOK.out hk.out
      have hpl := (HOK.out.phi i k hk.out).1
      have hui := HOK.out.use i k hk.out
      have hil2 := hui.len
      have HUI := Lib.hid hui
      have HPH := Lib.hid hphl
      have HA : Hid (ctF f.blocks (i + 1) r = a + ctP k.phis k.phis.length r + ctI k.ins k.ins.length r + (if k.term.arg = (r : Int) then 1 else 0)) := Lib.hid (by rw [ctF_succ hk.out, ← ha]; unfold ctK; omega)
      have hpa := ctP_le hphl hpl k.phis.length r
      have HPS := Lib.hid hs1
      have HIS := Lib.hid hs2
      have hi0 : (0 : Int) ≤ i := by omega
      have hi1 : (i : Int) < f.blocks.length := by omega
      rw [← ha]
      clear hk k3' hui hphl ha hs1 hs2
      go_wp2_with fail
      obtain ⟨w1, rfl⟩ : ∃ w1, w1 = wr := ⟨_, rfl⟩
      go_loopw [5, 7] (fun s5 s7 wq => ∃ j : Nat, j ≤ k.phis.length ∧ s5 = .int .i64 ((a + ctP k.phis j r : Nat) : Int) ∧ s7 = .int .i64 (j : Int) ∧ wq = w1) (fun _ s7 _ => k.phis.length - (intOf s7).toNat)
      case atStart => exact ⟨0, Nat.zero_le _, by simp [ctP], rfl, rfl⟩
      case round =>
        obtain ⟨j, hj, rfl, rfl, hww⟩ := hrel
        subst hww
        obtain ⟨b, hb⟩ : ∃ b, b = a + ctP k.phis j r := ⟨_, rfl⟩
        have hbb : b ≤ 180001 * 64 + 90000 := by have := ctP_le HPH.out hpl j r; omega
        by_cases hjl : j < k.phis.length
        · obtain ⟨bp, op, p, rfl, hp, -, A5, a5, p5, hps⟩ := HPS.out.at_ hjl
          have hp3 := HPH.out p (List.mem_of_getElem? hp.out)
          have HP2 : Hid (a + ctP k.phis (j + 1) r = b + ctA (p.args.take p.args.length) r) := Lib.hid (by rw [List.take_length, ctP_succ hp.out, hb]; omega)
          have HSP := Lib.hid hps
          have hj0 : (0 : Int) ≤ j := by omega
          have hj1 : (j : Int) < k.phis.length := by omega
          rw [← hb]
          clear hp hb hps hpa
          go_wp2_with fail
          obtain ⟨w1, rfl⟩ : ∃ w1, w1 = wr := ⟨_, rfl⟩
          go_loopw [5, 8] (fun s5 s8 wq => ∃ x : Nat, x ≤ p.args.length ∧ s5 = .int .i64 ((b + ctA (p.args.take x) r : Nat) : Int) ∧ s8 = .int .i64 (x : Int) ∧ wq = w1) (fun _ s8 _ => p.args.length - (intOf s8).toNat)
          case atStart => exact ⟨0, Nat.zero_le _, by simp [ctA], rfl, rfl⟩
          case round =>
            obtain ⟨x, hx, rfl, rfl, hww⟩ := hrel
            subst hww
            by_cases hxl : x < p.args.length
            · obtain ⟨bu, ou, y, rfl, hy, hyc, -⟩ := HSP.out.int (k := x) hxl
              have hst := ctA_snoc hy.out r
              obtain ⟨z, hz⟩ : ∃ z, z = ctA (p.args.take x) r := ⟨_, rfl⟩
              have hzl : z ≤ 300 := by have := ctA_le (p.args.take x) r; rw [List.length_take] at this; omega
              rw [← hz] at hst
              rw [← hz]
              have hx0 : (0 : Int) ≤ x := by omega
              have hx1 : (x : Int) < p.args.length := by omega
              by_cases he : y = (r : Int)
              · rw [if_pos he] at hst
                have hb1 : (y == (r : Int)) = true := by simp [he]
                have HST := Lib.hid hst
                clear hst hz hy he
                go_wp2_with fail
                go_roundw
                case rel => exact ⟨x + 1, by omega, by rw [HST.out]; go_num, by go_num, trivial⟩
                case measure => simp [intOf]; omega
              · rw [if_neg he] at hst
                have hb1 : (y == (r : Int)) = false := by simp [he]
                have HST := Lib.hid hst
                clear hst hz hy he
                go_wp2_with fail
                go_roundw
                case rel => exact ⟨x + 1, by omega, by rw [HST.out]; rfl, by go_num, trivial⟩
                case measure => simp [intOf]; omega
            · obtain rfl : x = p.args.length := by omega
              go_wp2_with fail
              go_roundw
              case rel => exact ⟨j + 1, by omega, by rw [HP2.out], by go_num, trivial⟩
              case measure => simp [intOf]; omega
        · obtain rfl : j = k.phis.length := by omega
          have HA2 : Hid (ctF f.blocks (i + 1) r = b + ctI k.ins k.ins.length r + (if k.term.arg = (r : Int) then 1 else 0)) := Lib.hid (by rw [HA.out, hb])
          rw [← hb]
          clear hb hpa
          go_wp2_with fail
          obtain ⟨w1, rfl⟩ : ∃ w1, w1 = wr := ⟨_, rfl⟩
          go_loopw [5, 9] (fun s5 s9 wq => ∃ j : Nat, j ≤ k.ins.length ∧ s5 = .int .i64 ((b + ctI k.ins j r : Nat) : Int) ∧ s9 = .int .i64 (j : Int) ∧ wq = w1) (fun _ s9 _ => k.ins.length - (intOf s9).toNat)
          case atStart => exact ⟨0, Nat.zero_le _, by simp [ctI], rfl, rfl⟩
          case round =>
            obtain ⟨j, hj, rfl, rfl, hww⟩ := hrel
            subst hww
            obtain ⟨d, hd⟩ : ∃ d, d = b + ctI k.ins j r := ⟨_, rfl⟩
            have hdb : d ≤ 180001 * 64 + 180000 := by have := ctI_le (fun x hx => (HUI.out.ins x hx).2.2) hil2 j r; omega
            by_cases hjl : j < k.ins.length
            · obtain ⟨bp, op, p, rfl, hp, -, -, ⟨A5, a5, p5, hps⟩, -, -⟩ := HIS.out.at_ hjl
              have hp3 := (HUI.out.ins p (List.mem_of_getElem? hp.out)).2.2
              have HP2 : Hid (b + ctI k.ins (j + 1) r = d + ctA (p.args.take p.args.length) r) := Lib.hid (by rw [List.take_length, ctI_succ hp.out, hd]; omega)
              have HSP := Lib.hid hps
              have hj0 : (0 : Int) ≤ j := by omega
              have hj1 : (j : Int) < k.ins.length := by omega
              rw [← hd]
              clear hp hd hps
              go_wp2_with fail
              obtain ⟨w1, rfl⟩ : ∃ w1, w1 = wr := ⟨_, rfl⟩
              go_loopw [5, 10] (fun s5 s10 wq => ∃ x : Nat, x ≤ p.args.length ∧ s5 = .int .i64 ((d + ctA (p.args.take x) r : Nat) : Int) ∧ s10 = .int .i64 (x : Int) ∧ wq = w1) (fun _ s10 _ => p.args.length - (intOf s10).toNat)
              case atStart => exact ⟨0, Nat.zero_le _, by simp [ctA], rfl, rfl⟩
              case round =>
                obtain ⟨x, hx, rfl, rfl, hww⟩ := hrel
                subst hww
                by_cases hxl : x < p.args.length
                · obtain ⟨bu, ou, y, rfl, hy, hyc, -⟩ := HSP.out.int (k := x) hxl
                  have hst := ctA_snoc hy.out r
                  obtain ⟨z, hz⟩ : ∃ z, z = ctA (p.args.take x) r := ⟨_, rfl⟩
                  have hzl : z ≤ 300 := by have := ctA_le (p.args.take x) r; rw [List.length_take] at this; omega
                  rw [← hz] at hst
                  rw [← hz]
                  have hx0 : (0 : Int) ≤ x := by omega
                  have hx1 : (x : Int) < p.args.length := by omega
                  by_cases he : y = (r : Int)
                  · rw [if_pos he] at hst
                    have hb1 : (y == (r : Int)) = true := by simp [he]
                    have HST := Lib.hid hst
                    clear hst hz hy he
                    go_wp2_with fail
                    go_roundw
                    case rel => exact ⟨x + 1, by omega, by rw [HST.out]; go_num, by go_num, trivial⟩
                    case measure => simp [intOf]; omega
                  · rw [if_neg he] at hst
                    have hb1 : (y == (r : Int)) = false := by simp [he]
                    have HST := Lib.hid hst
                    clear hst hz hy he
                    go_wp2_with fail
                    go_roundw
                    case rel => exact ⟨x + 1, by omega, by rw [HST.out]; rfl, by go_num, trivial⟩
                    case measure => simp [intOf]; omega
                · obtain rfl : x = p.args.length := by omega
                  go_wp2_with fail
                  go_roundw
                  case rel => exact ⟨j + 1, by omega, by rw [HP2.out], by go_num, trivial⟩
                  case measure => simp [intOf]; omega
            · obtain rfl : j = k.ins.length := by omega
              rw [← hd]
              have HA3 : Hid (ctF f.blocks (i + 1) r = d + (if k.term.arg = (r : Int) then 1 else 0)) := Lib.hid (by rw [HA2.out, hd])
              clear hd
              by_cases he : k.term.arg = (r : Int)
              · have hst : ctF f.blocks (i + 1) r = d + 1 := by rw [HA3.out, if_pos he]
                have HST := Lib.hid hst
                have hb1 : (k.term.arg == (r : Int)) = true := by simp [he]
                clear he hst
                go_wp2_with fail
                go_roundw
                case rel => exact ⟨i + 1, by omega, by rw [HST.out]; go_num, by go_num, trivial⟩
                case measure => simp [intOf]; omega
              · have hst : ctF f.blocks (i + 1) r = d := by rw [HA3.out, if_neg he]; rfl
                have HST := Lib.hid hst
                have hb1 : (k.term.arg == (r : Int)) = false := by simp [he]
                clear he hst
                go_wp2_with fail
                go_roundw
                case rel => exact ⟨i + 1, by omega, by rw [HST.out], by go_num, trivial⟩
                case measure => simp [intOf]; omega
    · obtain rfl : i = f.blocks.length := by omega
      go_wp2_with fail
      go_ret
      exact ⟨rfl, HB1.out⟩
end Go.Proofs.YtdfiflbkamhchaaDoor

/- What live's two functions tell, by cases. -/
namespace Go.Proofs.YtdfiflbkamhchaaDoor
open Go.ChangeShapes Go.WideShapes Go.RowKit Go.Deep
set_option linter.unusedVariables false

/-- What is told when nothing is amiss. -/
theorem ToldLive.ok {m : List FunD} {k : Nat} {f : FunD} {w w' : World} {va vb ve : Value} (hp : Proper m) (hf : m[k]? = some f)
    (h : (va = .slice none 0 0 ∧ vb = .slice none 0 0 ∧ ((¬ Proper m ∧ ErrAt w' ve (modE m)) ∨ (Proper m ∧ ¬ (0 ≤ (k : Int) ∧ (k : Int) < m.length) ∧ ve = .iface 38 (.int .i64 1)))) ∨
     (Proper m ∧ ve = .nilIface ∧ ∃ (k2 : Nat) (f : FunD) (G3 G4 : Nat) (A E : Nat → Nat → Bool), (k : Int) = (k2 : Int) ∧ m[k2]? = some f ∧ va = .slice (some ⟨G3, 0, none⟩) f.blocks.length f.blocks.length ∧ vb = .slice (some ⟨G4, 0, none⟩) f.blocks.length f.blocks.length ∧ w.heap.size ≤ G3 ∧ G3 + f.blocks.length < G4 ∧
       BG1 w' G3 f.blocks.length f.regs.length A ∧ BG1 w' G4 f.blocks.length f.regs.length E ∧ (∀ b r, A b r = true ↔ Want f.blocks false b r) ∧ (∀ b r, E b r = true ↔ Want f.blocks true b r) ∧ LvOk f)) :
    ∃ (G3 G4 : Nat) (A E : Nat → Nat → Bool), ve = .nilIface ∧ va = .slice (some ⟨G3, 0, none⟩) f.blocks.length f.blocks.length ∧ vb = .slice (some ⟨G4, 0, none⟩) f.blocks.length f.blocks.length ∧ w.heap.size ≤ G3 ∧ G3 + f.blocks.length < G4 ∧
       BG1 w' G3 f.blocks.length f.regs.length A ∧ BG1 w' G4 f.blocks.length f.regs.length E ∧ (∀ b r, A b r = true ↔ Want f.blocks false b r) ∧ (∀ b r, E b r = true ↔ Want f.blocks true b r) ∧ LvOk f := by
  have hkl := (List.getElem?_eq_some_iff.1 hf).1
  rcases h with ⟨-, -, h⟩ | ⟨-, h0, k2, f2, G3, G4, A, E, h2, h3, h4⟩
  · exfalso
    rcases h with ⟨h4, _⟩ | ⟨_, h4, _⟩
    · exact h4 hp
    · exact h4 ⟨by omega, by omega⟩
  · obtain rfl : k = k2 := by omega
    obtain rfl : f = f2 := Option.some.inj (hf.symm.trans h3)
    exact ⟨G3, G4, A, E, h0, h4⟩
theorem ToldCt.ok {m : List FunD} {k : Nat} {f : FunD} {w w' : World} {vc ve : Value} (hp : Proper m) (hf : m[k]? = some f)
    (h : (vc = .slice none 0 0 ∧ ((¬ Proper m ∧ ErrAt w' ve (modE m)) ∨ (Proper m ∧ ¬ (0 ≤ (k : Int) ∧ (k : Int) < m.length) ∧ ve = .iface 38 (.int .i64 1)))) ∨
     (Proper m ∧ ve = .nilIface ∧ ∃ (k2 : Nat) (f : FunD) (G : Nat), (k : Int) = (k2 : Int) ∧ m[k2]? = some f ∧ vc = .slice (some ⟨G, 0, none⟩) f.regs.length f.regs.length ∧ w.heap.size ≤ G ∧ w'.rowIs G 3 f.regs.length (fun r => .int .i64 (ctF f.blocks f.blocks.length r : Int)) ∧ LvOk f)) :
    ∃ G, ve = .nilIface ∧ vc = .slice (some ⟨G, 0, none⟩) f.regs.length f.regs.length ∧ w.heap.size ≤ G ∧ w'.rowIs G 3 f.regs.length (fun r => .int .i64 (ctF f.blocks f.blocks.length r : Int)) := by
  have hkl := (List.getElem?_eq_some_iff.1 hf).1
  rcases h with ⟨-, h⟩ | ⟨-, h0, k2, f2, G, h2, h3, h4, h5, h6, -⟩
  · exfalso
    rcases h with ⟨h4, _⟩ | ⟨_, h4, _⟩
    · exact h4 hp
    · exact h4 ⟨by omega, by omega⟩
  · obtain rfl : k = k2 := by omega
    obtain rfl : f = f2 := Option.some.inj (hf.symm.trans h3)
    exact ⟨G, h0, h4, h5, h6⟩
/-- Whether something is amiss. -/
def BadL (m : List FunD) (n : Int) : Prop := ¬ (Proper m ∧ 0 ≤ n ∧ n < m.length)
theorem ToldLive.bad {m : List FunD} {n : Int} {w : World} {e : Ending} {w' : World} (hb : BadL m n) (h : ToldLive m n w e w') : (∃ t x, e = .returned (.tuple #[.slice none 0 0, .slice none 0 0, .iface t x])) ∧ Below w.heap.size w w' := by
  obtain ⟨⟨va, vb, ve, rfl, h⟩, h2⟩ := h
  refine ⟨?_, h2⟩
  rcases h with ⟨rfl, rfl, h⟩ | ⟨hp, -, k2, f2, G3, G4, A, E, h2, h3, -⟩
  · rcases h with ⟨h1, h3⟩ | ⟨_, _, rfl⟩
    · obtain ⟨t, x, rfl⟩ := err_form h3 h1
      exact ⟨t, x, rfl⟩
    · exact ⟨_, _, rfl⟩
  · exact absurd ⟨hp, by omega, by have := (List.getElem?_eq_some_iff.1 h3).1; omega⟩ hb
theorem ToldCt.bad {m : List FunD} {n : Int} {w : World} {e : Ending} {w' : World} (hb : BadL m n) (h : ToldCt m n w e w') : (∃ t x, e = .returned (.tuple #[.slice none 0 0, .iface t x])) ∧ Below w.heap.size w w' := by
  obtain ⟨⟨vc, ve, rfl, h⟩, h2⟩ := h
  refine ⟨?_, h2⟩
  rcases h with ⟨rfl, h⟩ | ⟨hp, -, k2, f2, G, h2, h3, -⟩
  · rcases h with ⟨h1, h3⟩ | ⟨_, _, rfl⟩
    · obtain ⟨t, x, rfl⟩ := err_form h3 h1
      exact ⟨t, x, rfl⟩
    · exact ⟨_, _, rfl⟩
  · exact absurd ⟨hp, by omega, by have := (List.getElem?_eq_some_iff.1 h3).1; omega⟩ hb
end Go.Proofs.YtdfiflbkamhchaaDoor

/- Two interface values of one integer type are equal as their numbers are; one of them against nil is not. Over any program. -/
namespace Go.Proofs.YtdfiflbkamhchaaDoor
section
variable {P : Program} (w : World)

theorem run_equalIn_iface_int (d : Nat) {ti tn : TypeId} {ms : Array (String × TypeId)} {i : TypeInfo} {k : IntKind} (a b : Int)
    (hi : P.underlying ti = some (.interface ms)) (hn : P.underlying tn = some (.int k)) (hinfo : P.info? tn = some i) (hcomp : i.comparable = true) :
    (Op.equalIn (d + 2) ti (.iface tn (.int k a)) (.iface tn (.int k b))).run P w = .ok (a == b) w := by
  simp [Op.equalIn, run_underlying hi, run_underlying hn, typeInfo, hinfo, hcomp]

theorem run_eql_iface_int {ti tn : TypeId} {ms : Array (String × TypeId)} {i : TypeInfo} {k : IntKind} (a b : Int)
    (hi : P.underlying ti = some (.interface ms)) (hn : P.underlying tn = some (.int k)) (hinfo : P.info? tn = some i) (hcomp : i.comparable = true) :
    (binOp .eql ti (.iface tn (.int k a)) (.iface tn (.int k b))).run P w = .ok (.bool (a == b)) w := by
  simp only [binOp]
  simp [Op.equal, Op.maxDepth, run_equalIn_iface_int w 9998 a b hi hn hinfo hcomp]
end
end Go.Proofs.YtdfiflbkamhchaaDoor

/- Two errors that are Codes are equal as their numbers are. -/
namespace Go.Proofs.YtdfiflbkamhchaaDoor
open Go.ChangeShapes Go.WideShapes Go.RowKit Go.Deep
set_option linter.unusedVariables false

theorem codeInfo : Tryd.prog.info? 38 = some ((Tryd.prog.info? 38).get!) := by kernel_rfl
theorem codeComp : ((Tryd.prog.info? 38).get!).comparable = true := by kernel_rfl
theorem eqlErr (x y : Int) (w : World) : (binOp .eql 29 (.iface 38 (.int .i64 x)) (.iface 38 (.int .i64 y))).run Tryd.prog w = .ok (.bool (x == y)) w :=
  run_eql_iface_int w x y Tryd.underlying29 Tryd.underlying38 codeInfo codeComp

end Go.Proofs.YtdfiflbkamhchaaDoor
