/- The reference's Func, and Module. (Written by gen/genrefj.py.) -/
import Derived.Test.YtdfiflbkamhchaaDoorRefIJ
import Derived.Test.YtdfiflbkamhchaaDoorEqEJ
import Derived.BigQuiet
namespace Go.Proofs.YtdfiflbkamhchaaDoor
open Go.ChangeShapes Go.WideShapes Go.RowKit Go.Deep
set_option linter.unusedVariables false

theorem outer_good {f : FunD} (h : outerE f = 0) : (∀ t ∈ f.regs, t = 1 ∨ t = 2) ∧ 0 ≤ f.result ∧ ∀ b ∈ f.blocks, b.term.kind = 1 ∨ b.term.kind = 2 ∨ b.term.kind = 3 := by
  unfold outerE at h
  split at h
  · split at h
    · rename_i h1 h2
      unfold typedB at h2
      rw [Bool.and_eq_true, Bool.and_eq_true] at h2
      refine ⟨fun t ht => of_decide_eq_true (List.all_eq_true.1 h2.1.1 t ht), by have := of_decide_eq_true h2.2; omega, fun b hb => ?_⟩
      split at h
      · rename_i h3
        rw [Bool.and_eq_true] at h3
        have h4 := List.all_eq_true.1 h3.1 b hb
        unfold shapeB at h4
        rw [Bool.and_eq_true] at h4
        have h5 := h4.1
        unfold tosB at h5
        by_cases g1 : b.term.kind = 1
        · exact .inl g1
        · by_cases g2 : b.term.kind = 2
          · exact .inr (.inl g2)
          · by_cases g3 : b.term.kind = 3
            · exact .inr (.inr g3)
            · rw [if_neg g1, if_neg g2, if_neg g3] at h5; cases h5
      · omega
    · omega
  · omega
/-- Small enough for the document's Module (whatever the parameters and the Tos are). -/
def SmallG (f : FunD) : Prop := f.blocks.length ≤ 70 ∧ ∀ b ∈ f.blocks, b.ins.length ≤ 300 ∧ b.phis.length ≤ 300 ∧ ∀ x ∈ b.ins, x.args.length ≤ 300
theorem SmallG.of {f : FunD} (h : SmallF f) : SmallG f := ⟨h.1, fun b hb => ⟨(h.2.2.2 b hb).1, (h.2.2.2 b hb).2.1, (h.2.2.2 b hb).2.2.2.1⟩⟩
theorem nearS_of {f : FunD} (h : SmallG f) : NearS f.blocks := fun b hb => by have := h.2 b hb; exact ⟨by have := this.2.1; omega, by have := this.1; omega⟩

def phi1 (f : FunD) (p : PhiD) (k : Nat) : Int := if decide (0 ≤ p.dst ∧ p.dst < f.regs.length) && areAtB (p.args.take k) f.regs.length then 0 else 4
def phi2 (f : FunD) (p : PhiD) (k : Nat) : Int := if (p.args.take k).all (fun a => decide (reg f.regs a = reg f.regs p.dst)) then 0 else 3
theorem phi1_zero (f : FunD) (p : PhiD) : phi1 f p 0 = isE f.regs p.dst (-1) := by
  unfold phi1 isE areAtB
  by_cases h : 0 ≤ p.dst ∧ p.dst < f.regs.length
  · simp [h]
  · simp [h]
theorem phi1_step {f : FunD} {p : PhiD} {k : Nat} {a : Int} (h : p.args[k]? = some a) : phi1 f p (k + 1) = worstE (phi1 f p k) (isE f.regs a (-1)) := by
  unfold phi1 areAtB isE worstE
  rw [take_succ_of h, List.all_append]
  generalize (p.args.take k).all (fun a => decide (0 ≤ a ∧ a < (f.regs.length : Int))) = q
  cases q <;> by_cases h1 : 0 ≤ p.dst ∧ p.dst < f.regs.length <;> by_cases h3 : 0 ≤ a ∧ a < f.regs.length <;> simp [h1, h3]
theorem phi2_step {f : FunD} {p : PhiD} {k : Nat} {a : Int} (h : p.args[k]? = some a) (h0 : phi2 f p k = 0) (hin : isIn f.regs.length a = true) (hr : 0 ≤ reg f.regs p.dst) : phi2 f p (k + 1) = isE f.regs a (reg f.regs p.dst) := by
  have hin := of_decide_eq_true hin
  unfold phi2 at *
  rw [take_succ_of h, List.all_append]
  have h2 : (p.args.take k).all (fun a => decide (reg f.regs a = reg f.regs p.dst)) = true := by
    split at h0
    · assumption
    · omega
  rw [h2]
  unfold isE
  rw [if_pos hin]
  by_cases h3 : reg f.regs a = reg f.regs p.dst <;> simp [h3, hr]
theorem phiE_four {f : FunD} {p : PhiD} {k : Nat} (hk : p.args.length ≤ k) (h : phi1 f p k ≠ 0) : phiE f p = 4 ∧ phi1 f p k = 4 := by
  unfold phi1 at *
  rw [List.take_of_length_le hk] at *
  unfold phiE
  split at h
  · omega
  · rename_i h2; rw [if_neg h2, if_neg h2]; exact ⟨rfl, rfl⟩
theorem phi1_in {f : FunD} {p : PhiD} {k : Nat} (hk : p.args.length ≤ k) (h : phi1 f p k = 0) : (decide (0 ≤ p.dst ∧ p.dst < f.regs.length) && areAtB p.args f.regs.length) = true := by
  unfold phi1 at h
  rw [List.take_of_length_le hk] at h
  split at h
  · assumption
  · omega
theorem phiE_in {f : FunD} {p : PhiD} {k : Nat} (hk : p.args.length ≤ k) (h : (decide (0 ≤ p.dst ∧ p.dst < f.regs.length) && areAtB p.args f.regs.length) = true) : phiE f p = phi2 f p k := by
  unfold phiE phi2; rw [if_pos h, List.take_of_length_le hk]
theorem phiE_three {f : FunD} {p : PhiD} {k : Nat} (h : (decide (0 ≤ p.dst ∧ p.dst < f.regs.length) && areAtB p.args f.regs.length) = true) (h2 : phi2 f p k ≠ 0) : phiE f p = 3 ∧ phi2 f p k = 3 := by
  unfold phiE phi2 at *
  rw [if_pos h]
  split at h2
  · omega
  · rename_i h3
    refine ⟨if_neg (fun h4 => h3 ?_), if_neg h3⟩
    rw [List.all_eq_true] at *
    exact fun a ha => h4 a (List.mem_of_mem_take ha)

/-- Where the second loop over a phi's Args stands. -/
def Phi2 (f : FunD) (p : PhiD) (a : Nat) (c : Int) : Prop :=
  (c = 0 → (decide (0 ≤ p.dst ∧ p.dst < f.regs.length) && areAtB p.args f.regs.length) = true ∧ phi2 f p a = 0) ∧ (c ≠ 0 → phiE f p = c)
theorem phi2_start {f : FunD} {p : PhiD} {bad : Int} (h1 : bad ≠ 0 → phiE f p = 4 ∧ bad = 4) (h2 : bad = 0 → (decide (0 ≤ p.dst ∧ p.dst < f.regs.length) && areAtB p.args f.regs.length) = true) : Phi2 f p 0 bad :=
  ⟨fun h => ⟨h2 h, by simp [phi2]⟩, fun h => (h1 h).1.trans (h1 h).2.symm⟩
theorem phi2_dst {f : FunD} {p : PhiD} {a : Nat} (h : Phi2 f p a 0) : 0 ≤ p.dst ∧ p.dst < f.regs.length := by
  have h1 := (h.1 rfl).1
  rw [Bool.and_eq_true] at h1
  exact of_decide_eq_true h1.1
theorem phi2_next {f : FunD} {p : PhiD} {a : Nat} {z x : Int} (hz : p.args[a]? = some z) (h : Phi2 f p a 0) (hx : reg f.regs p.dst = x) (hx0 : 0 ≤ x) : Phi2 f p (a + 1) (isE f.regs z x) := by
  obtain ⟨h1, h2⟩ := h.1 rfl
  have h3 := h1
  rw [Bool.and_eq_true] at h3
  have h4 : isIn f.regs.length z = true := by
    have := List.all_eq_true.1 h3.2 z (List.mem_of_getElem? hz)
    exact this
  have h5 := phi2_step hz h2 h4 (by rw [hx]; exact hx0)
  rw [hx] at h5
  rw [← h5]
  refine ⟨fun h6 => ⟨h1, h6⟩, fun h6 => ?_⟩
  obtain ⟨h7, h8⟩ := phiE_three h1 h6
  rw [h7, h8]
theorem phi2_done {f : FunD} {p : PhiD} {a : Nat} (h : Phi2 f p a 0) (hk : p.args.length ≤ a) : phiE f p = 0 := by
  obtain ⟨h1, h2⟩ := h.1 rfl
  rw [phiE_in hk h1, h2]

set_option maxRecDepth 100000 in
set_option maxHeartbeats 16000000 in
theorem func_ref (m : List FunD) (n : Nat) (f : FunD) (v : Value) (w : World) (hv : VMod w v m) (hf : m[n]? = some f) (hsm : SmallG f) :
    Calls Tryd.prog 17 #[v, .int .i64 n] w fun e w' => e = .returned (.int .i64 (funE m f)) ∧ Below w.heap.size w w' := by
  have hv0 := hv
  obtain ⟨Am, cm, rfl, hm⟩ := hv
  have hml := hm.len
  have hlt : n < m.length := (List.getElem?_eq_some_iff.1 hf).1
  have hk0 : (0 : Int) ≤ n := by omega
  have hk1 : (n : Int) < m.length := by omega
  obtain ⟨b, o, f', rfl, hf', ⟨hgp, hgp64⟩, ⟨hgr, hgr64⟩, ⟨Ar, cr, hgreg, hr⟩, ⟨Ab, cb, hgblk, hb⟩⟩ := hm.at_ hlt
  obtain rfl : f = f' := Option.some.inj (hf.symm.trans hf'.out)
  have hbl := block_lt_of_cell hgp
  have hB2 := fun A B => ((Below.refl w.heap.size w).alloc (Nat.le_refl _) A).alloc (by simp) B
  obtain ⟨w2, hw2⟩ : ∃ w2, w2 = (w.alloc (.cells #[.slice (some ⟨b, o, none⟩) m.length cm] 24)).alloc (.cells #[.int .i64 f.params, .int .i64 f.result, .slice Ar f.regs.length cr, .slice Ab f.blocks.length cb] 41) := ⟨_, rfl⟩
  have hB2 : Below w.heap.size w w2 := by rw [hw2]; exact hB2 _ _
  have cM : w2.cell? ⟨w.heap.size, 0, none⟩ = some (.slice (some ⟨b, o, none⟩) m.length cm) := by rw [hw2]; simp
  have cF0 : w2.cell? ⟨w.heap.size + 1, 0, none⟩ = some (.int .i64 f.params) := by rw [hw2]; simp
  have cF1 : w2.cell? ⟨w.heap.size + 1, 1, none⟩ = some (.int .i64 f.result) := by rw [hw2]; simp
  have cF2 : w2.cell? ⟨w.heap.size + 1, 2, none⟩ = some (.slice Ar f.regs.length cr) := by rw [hw2]; simp
  have cF3 : w2.cell? ⟨w.heap.size + 1, 3, none⟩ = some (.slice Ab f.blocks.length cb) := by rw [hw2]; simp
  have hs2 : w.heap.size + 1 < w2.heap.size := by rw [hw2]; simp
  have hk2 := kept_of_below hB2
  have hvf0 : VFun w (.agg #[.int .i64 f.params, .int .i64 f.result, .slice Ar f.regs.length cr, .slice Ab f.blocks.length cb]) f := ⟨Ar, cr, Ab, cb, rfl, hr, hb, hgp64, hgr64⟩
  have hvf := VFun.keep hk2 hvf0
  have HMV := Lib.hid (VMod.keep hk2 hv0)
  have hbl1 : b < w.heap.size + 1 := by have := hbl; dsimp only at this; omega
  dsimp only at hbl
  have HSM := Lib.hid hsm
  have hnn : f.blocks.length ≤ 70 := hsm.1
  clear hsm hf' hf hv0 hvf0
  go_enter Tryd.func17, Tryd.ntmps17
  go_wp2_with fail
  rw [← hw2]
  clear hw2 hgp hgr hgreg hgblk
  refine (outer_any f _ _ hvf (by omega) (nearS_of HSM.out)).mono ?_
  rintro e w3 ⟨rfl, hb3⟩
  have hB3 : Below w.heap.size w w3 := hB2.trans (hb3.mono hB2.size)
  by_cases ho : outerE f = 0
  · have ho' : (outerE f != 0) = false := by simp [ho]
    obtain ⟨hty, hres, hkind⟩ := outer_good ho
    have HFE : Hid (funE m f = firstE (f.blocks.map (blockE m f))) := Lib.hid (by unfold funE; rw [if_pos ho])
    have HTY := Lib.hid hty
    have HKI := Lib.hid hkind
    clear ho hty hkind
    go_wp2_with fail
    go_loopw [7] (fun i wr => ∃ k : Nat, k ≤ f.blocks.length ∧ i = .int .i64 k ∧ Hid (firstE ((f.blocks.map (blockE m f)).take k) = 0) ∧ Below w2.heap.size w2 wr) (fun i _ => f.blocks.length - (intOf i).toNat)
    case atStart => exact ⟨0, Nat.zero_le _, rfl, Lib.hid rfl, hb3⟩
    case round =>
      obtain ⟨k, hk, rfl, hi, hbel⟩ := hrel
      obtain ⟨wo, rfl⟩ : ∃ wo, wo = wr := ⟨wr, rfl⟩
      have hs := hbel.size
      have hkw : Kept w2 wo := kept_of_below hbel
      have hB : Below w.heap.size w wo := hB2.trans (hbel.mono hB2.size)
      have cF3o := hkw _ _ cF3
      by_cases hlt : k < f.blocks.length
      · obtain ⟨b2, o2, kb, rfl, hkb, ⟨Ap, cp, hphi, hphis⟩, ⟨Ai, ci, hins, hinss⟩, ⟨hkd, h64k⟩, ⟨har, h64a⟩, ⟨At, ct, hto, htos⟩⟩ := (SBlks.keep (hk2.trans hkw) hb).at_ hlt
        have hpl := hphis.len
        have hil := hinss.len
        have htl := htos.len
        have hbk0 : (0 : Int) ≤ k := by omega
        have hbk1 : (k : Int) < f.blocks.length := by omega
        have HBS := Lib.hid (HSM.out.2 kb (List.mem_of_getElem? hkb.out))
        have HSN : Hid (firstE ((f.blocks.map (blockE m f)).take (k + 1)) = blockE m f kb) := Lib.hid (firstE_snoc (map_at _ hkb.out) hi.out)
        have HSP : Hid (blockE m f kb ≠ 0 → funE m f = blockE m f kb) := Lib.hid (fun h => HFE.out.trans (firstE_stop (map_at _ hkb.out) hi.out h))
        have HKB := Lib.hid (HKI.out kb (List.mem_of_getElem? hkb.out))
        go_wp2_with fail
        clear hphi hins hkd har hto
        obtain ⟨w4, hw4, hs4, hk4, hbel4, hc4, -⟩ := named wo #[.slice Ap kb.phis.length cp, .slice Ai kb.ins.length ci, .int .i64 kb.term.kind, .int .i64 kb.term.arg, .slice At kb.term.to.length ct] 52
        have cB0 := hc4 0 _ rfl
        have cB1 := hc4 1 _ rfl
        have cB2 := hc4 2 _ rfl
        have cB3 := hc4 3 _ rfl
        have cB4 := hc4 4 _ rfl
        have hb4 : Below w2.heap.size w2 w4 := hbel.trans (hbel4.mono (by omega))
        have hphis4 := SPhis.keep hk4 hphis
        have hinss4 := SInss.keep hk4 hinss
        have htos4 := SInts.keep hk4 htos
        have hs4 : wo.heap.size < w4.heap.size := by omega
        rw [← hw4]
        clear hw4 hc4 hphis hinss htos
        go_loopw [9] (fun i wr => ∃ j : Nat, j ≤ kb.phis.length ∧ i = .int .i64 j ∧ Hid (firstE ((kb.phis.map (phiE f)).take j) = 0) ∧ Below w4.heap.size w4 wr) (fun i _ => kb.phis.length - (intOf i).toNat)
        case atStart => exact ⟨0, Nat.zero_le _, rfl, Lib.hid rfl, Below.refl _ _⟩
        case round =>
          obtain ⟨j, hj, rfl, hi2, hbel'⟩ := hrel
          obtain ⟨wp, rfl⟩ : ∃ wp, wp = wr := ⟨wr, rfl⟩
          have hsp := hbel'.size
          have hkp : Kept w4 wp := kept_of_below hbel'
          have hbp : Below w2.heap.size w2 wp := hb4.trans (hbel'.mono hb4.size)
          have hBp : Below w.heap.size w wp := hB2.trans (hbp.mono hB2.size)
          have cF0p := kept_of_below hbp _ _ cF0
          have cF1p := kept_of_below hbp _ _ cF1
          have cF2p := kept_of_below hbp _ _ cF2
          have cF3p := kept_of_below hbp _ _ cF3
          have hsw : w.heap.size + 1 < wp.heap.size := Nat.lt_of_lt_of_le hs2 hbp.size
          have cB0p := hkp _ _ cB0
          have cB1p := hkp _ _ cB1
          by_cases hjt : j < kb.phis.length
          · obtain ⟨b3', o3', p, rfl, hp, ⟨hpd, hpd64⟩, Aa, ca, hag, hags⟩ := (SPhis.keep hkp hphis4).at_ hjt
            have hal := hags.len
            have hj0 : (0 : Int) ≤ j := by omega
            have hj1 : (j : Int) < kb.phis.length := by omega
            have HPS : Hid (firstE ((kb.phis.map (phiE f)).take (j + 1)) = phiE f p) := Lib.hid (firstE_snoc (map_at _ hp.out) hi2.out)
            have HPB : Hid (phiE f p ≠ 0 → funE m f = phiE f p) := Lib.hid (fun h => by
              have h1 := firstE_stop (map_at _ hp.out) hi2.out h
              have h2 : blockE m f kb = phiE f p := by unfold blockE; rw [h1, if_neg h]
              rw [HSP.out (by rw [h2]; exact h), h2])
            go_wp2_with fail
            clear hpd hag
            obtain ⟨w5, hw5, hs5, hk5, hbel5, hc5, -⟩ := named wp #[.int .i64 p.dst, .slice Aa p.args.length ca] 56
            have cP0 := hc5 0 _ rfl
            have cP1 := hc5 1 _ rfl
            have hb5 : Below w2.heap.size w2 w5 := hbp.trans (hbel5.mono (by have := hbp.size; omega))
            have hb45 : Below w4.heap.size w4 w5 := hbel'.trans (hbel5.mono hsp)
            have hags5 := SInts.keep hk5 hags
            have hs5 : wp.heap.size < w5.heap.size := by omega
            rw [← hw5]
            clear hw5 hc5 hags
            have hvf5 := VFun.keep (kept_of_below hb5) hvf
            refine (is_reg f _ p.dst (-1) _ hvf5 (by unfold I64; omega)).mono ?_
            rintro e w6 ⟨rfl, hb6⟩
            have H0 := Lib.hid (phi1_zero f p)
            go_wp2_with fail
            go_loopw [6, 11] (fun bd i wr => ∃ a : Nat, a ≤ p.args.length ∧ i = .int .i64 a ∧ bd = .int .i64 (phi1 f p a) ∧ Below w5.heap.size w5 wr) (fun _ i _ => p.args.length - (intOf i).toNat)
            case atStart => exact ⟨0, Nat.zero_le _, rfl, by rw [H0.out], hb6⟩
            case round =>
              obtain ⟨a, ha, rfl, rfl, hbel6⟩ := hrel
              have hs := hbel6.size
              have hkw := kept_of_below hbel6
              have cF0q := hkw _ _ (kept_of_below hb5 _ _ cF0)
              have cF1q := hkw _ _ (kept_of_below hb5 _ _ cF1)
              have cF2q := hkw _ _ (kept_of_below hb5 _ _ cF2)
              have cF3q := hkw _ _ (kept_of_below hb5 _ _ cF3)
              have cP0q := hkw _ _ cP0
              have cP1q := hkw _ _ cP1
              by_cases hat : a < p.args.length
              · obtain ⟨b3, o3, z, rfl, hz, hzc, -⟩ := (SInts.keep hkw hags5).int hat
                have ha0 : (0 : Int) ≤ a := by omega
                have ha1 : (a : Int) < p.args.length := by omega
                have HF := Lib.hid (phi1_step (f := f) hz.out)
                generalize phi1 f p a = bad at *
                go_wp2_with fail
                refine wp_region_last (L := 9) (S := fun w' => w'.cell? ⟨w.heap.size + 1, 0, none⟩ = some (.int .i64 f.params) ∧ w'.cell? ⟨w.heap.size + 1, 1, none⟩ = some (.int .i64 f.result) ∧ w'.cell? ⟨w.heap.size + 1, 2, none⟩ = some (.slice Ar f.regs.length cr) ∧ w'.cell? ⟨w.heap.size + 1, 3, none⟩ = some (.slice (some ⟨b2, o2, none⟩) f.blocks.length cb) ∧ w'.cell? ⟨wp.heap.size, 1, none⟩ = some (.slice (some ⟨b3, o3, none⟩) p.args.length ca) ∧ w'.cell? ⟨b3, o3 + a, none⟩ = some (.int .i64 z)) (by kernel_rfl) (by rfl) (by kernel_rfl) (by kernel_rfl) ?_
                change wpAnyH _ _ _ _ _ _ _ _ (World.drew _)
                have hS : ∀ w', Below wr.heap.size wr w' → w'.cell? ⟨w.heap.size + 1, 0, none⟩ = some (.int .i64 f.params) ∧ w'.cell? ⟨w.heap.size + 1, 1, none⟩ = some (.int .i64 f.result) ∧ w'.cell? ⟨w.heap.size + 1, 2, none⟩ = some (.slice Ar f.regs.length cr) ∧ w'.cell? ⟨w.heap.size + 1, 3, none⟩ = some (.slice (some ⟨b2, o2, none⟩) f.blocks.length cb) ∧ w'.cell? ⟨wp.heap.size, 1, none⟩ = some (.slice (some ⟨b3, o3, none⟩) p.args.length ca) ∧ w'.cell? ⟨b3, o3 + a, none⟩ = some (.int .i64 z) :=
                  fun w' h => ⟨kept_of_below h _ _ cF0q, kept_of_below h _ _ cF1q, kept_of_below h _ _ cF2q, kept_of_below h _ _ cF3q, kept_of_below h _ _ cP1q, kept_of_below h _ _ hzc⟩
                have hbdr : Below wr.heap.size wr wr.drew := (Below.refl _ _).drew
                have hS0 := hS wr.drew hbdr
                have HREG := Lib.hid (is_reg f _ z (-1) wr.drew (VFun.keep (hkw.trans (kept_of_below hbdr)) hvf5) (by unfold I64; omega))
                clear cF0q cF1q cF2q cF3q cP1q hzc
                refine takeH (i := 0) (some 59) (v := ?_) rfl (by kernel_rfl) (by kernel_rfl) (by kernel_rfl) (fun _ _ _ h => h) hS0 (fun o ho => ?_) ?_
                rotate_left
                · simp only [List.getElem?_toArray, List.getElem?_cons_zero, Option.some.injEq] at ho; subst ho; refine Or.inl ⟨by rfl, fun w' hSw => ?_⟩; (try dsimp only at hSw); go_simp; try with_reducible rfl
                simp only [Act.put, List.setIfInBounds_toArray, List.set_cons_zero, List.set_cons_succ]
                refine takeH (i := 1) (some 60) (v := ?_) rfl (by kernel_rfl) (by kernel_rfl) (by kernel_rfl) (fun _ _ _ h => h) hS0 (fun o ho => ?_) ?_
                rotate_left
                · simp only [List.getElem?_toArray, List.getElem?_cons_zero, List.getElem?_cons_succ, Option.some.injEq] at ho; subst ho; refine Or.inl ⟨by rfl, fun w' hSw => ?_⟩; (try dsimp only at hSw); go_simp; try with_reducible rfl
                simp only [Act.put, List.setIfInBounds_toArray, List.set_cons_zero, List.set_cons_succ]
                refine takeH (i := 2) (some 61) (v := ?_) rfl (by kernel_rfl) (by kernel_rfl) (by kernel_rfl) (fun _ _ _ h => h) hS0 (fun o ho => ?_) ?_
                rotate_left
                · simp only [List.getElem?_toArray, List.getElem?_cons_zero, List.getElem?_cons_succ, Option.some.injEq] at ho; subst ho; refine Or.inl ⟨by rfl, fun w' hSw => ?_⟩; (try dsimp only at hSw); go_simp; try with_reducible rfl
                simp only [Act.put, List.setIfInBounds_toArray, List.set_cons_zero, List.set_cons_succ]
                refine takeH (i := 3) (some 62) (v := ?_) rfl (by kernel_rfl) (by kernel_rfl) (by kernel_rfl) (fun _ _ _ h => h) hS0 (fun o ho => ?_) ?_
                rotate_left
                · simp only [List.getElem?_toArray, List.getElem?_cons_zero, List.getElem?_cons_succ, Option.some.injEq] at ho; subst ho; refine Or.inl ⟨by rfl, fun w' hSw => ?_⟩; (try dsimp only at hSw); go_simp; try with_reducible rfl
                simp only [Act.put, List.setIfInBounds_toArray, List.set_cons_zero, List.set_cons_succ]
                refine takeH (i := 4) (some 63) (v := ?_) rfl (by kernel_rfl) (by kernel_rfl) (by kernel_rfl) (fun _ _ _ h => h) hS0 (fun o ho => ?_) ?_
                rotate_left
                · simp only [List.getElem?_toArray, List.getElem?_cons_zero, List.getElem?_cons_succ, Option.some.injEq] at ho; subst ho; refine Or.inl ⟨by rfl, fun w' hSw => ?_⟩; (try dsimp only at hSw); go_simp; try with_reducible rfl
                simp only [Act.put, List.setIfInBounds_toArray, List.set_cons_zero, List.set_cons_succ]
                refine takeH (i := 5) (some 64) (v := ?_) rfl (by kernel_rfl) (by kernel_rfl) (by kernel_rfl) (fun _ _ _ h => h) hS0 (fun o ho => ?_) ?_
                rotate_left
                · simp only [List.getElem?_toArray, List.getElem?_cons_zero, List.getElem?_cons_succ, Option.some.injEq] at ho; subst ho; refine Or.inl ⟨by rfl, fun w' hSw => ?_⟩; (try dsimp only at hSw); go_simp; try with_reducible rfl
                simp only [Act.put, List.setIfInBounds_toArray, List.set_cons_zero, List.set_cons_succ]
                refine takeH (i := 6) (some 65) (v := ?_) rfl (by kernel_rfl) (by kernel_rfl) (by kernel_rfl) (fun _ _ _ h => h) hS0 (fun o ho => ?_) ?_
                rotate_left
                · simp only [List.getElem?_toArray, List.getElem?_cons_zero, List.getElem?_cons_succ, Option.some.injEq] at ho; subst ho; refine Or.inl ⟨by rfl, fun w' hSw => ?_⟩; (try dsimp only at hSw); go_simp; try with_reducible rfl
                simp only [Act.put, List.setIfInBounds_toArray, List.set_cons_zero, List.set_cons_succ]
                refine oneH (i := 7) (by kernel_rfl) (fun o ho K hK => ?_)
                simp only [List.getElem?_toArray, List.getElem?_cons_zero, List.getElem?_cons_succ, Option.some.injEq] at ho; subst ho
                go_simp
                refine HREG.out.mono ?_
                rintro e w7 ⟨rfl, hb7⟩
                have hb6' : Below wr.heap.size wr w7 := hbdr.trans hb7
                have hS6 := hS w7 hb6'
                go_wp2_with fail
                refine hK.out _ _ hS6 ?_
                clear hK K
                refine oneH (i := 8) (by kernel_rfl) (fun o ho K hK => ?_)
                simp only [List.getElem?_toArray, List.getElem?_cons_zero, List.getElem?_cons_succ, Option.some.injEq] at ho; subst ho
                go_simp
                refine (worst_any bad (isE f.regs z (-1)) _).mono ?_
                rintro e w7 ⟨rfl, rfl⟩
                go_wp2_with fail
                refine hK.out _ _ hS6 ?_
                clear hK K
                refine wpAnyH_done (by kernel_rfl) ?_ _
                refine lastH (by decide) (fun o ho K hK => ?_)
                simp only [List.getElem?_toArray, List.getElem?_cons_zero, List.getElem?_cons_succ, Option.some.injEq] at ho; subst ho
                go_simp
                refine hK.out _ _ ?_
                clear hK K
                go_wp2_with fail
                go_roundw
                case rel => exact ⟨a + 1, by omega, by go_num, by rw [HF.out], hbel6.trans (hb6'.mono hs)⟩
                case measure => simp [intOf]; omega
              · have hle : p.args.length ≤ a := by omega
                have HF1 := Lib.hid (fun h => phiE_four (f := f) hle h)
                have HF2 := Lib.hid (fun h => phi1_in (f := f) hle h)
                generalize phi1 f p a = bad at *
                clear hle cF0q cF1q cF2q cF3q cP0q
                obtain ⟨wq, rfl⟩ : ∃ wq, wq = wr := ⟨wr, rfl⟩
                go_wp2_with fail
                clear cP1q
                go_loopw [6, 12] (fun bd i wr => ∃ (a : Nat) (c : Int), a ≤ p.args.length ∧ i = .int .i64 a ∧ bd = .int .i64 c ∧ Phi2 f p a c ∧ Below w5.heap.size w5 wr) (fun _ i _ => p.args.length - (intOf i).toNat)
                case atStart => exact ⟨0, bad, Nat.zero_le _, rfl, rfl, phi2_start HF1.out HF2.out, hbel6⟩
                case round =>
                  obtain ⟨a', c, ha', rfl, rfl, hph, hbel7⟩ := hrel
                  clear HF1 HF2
                  obtain ⟨w7, rfl⟩ : ∃ w7, w7 = wr := ⟨wr, rfl⟩
                  have hs7 := hbel7.size
                  have hkw7 := kept_of_below hbel7
                  have cF0r := hkw7 _ _ (kept_of_below hb5 _ _ cF0)
                  have cF1r := hkw7 _ _ (kept_of_below hb5 _ _ cF1)
                  have cF2r := hkw7 _ _ (kept_of_below hb5 _ _ cF2)
                  have cF3r := hkw7 _ _ (kept_of_below hb5 _ _ cF3)
                  have cP0r := hkw7 _ _ cP0
                  have cP1r := hkw7 _ _ cP1
                  have hb7 : Below w2.heap.size w2 w7 := hb5.trans (hbel7.mono hb5.size)
                  have HPH := Lib.hid hph
                  clear hph
                  by_cases hc : c = 0
                  · subst hc
                    by_cases hat : a' < p.args.length
                    · obtain ⟨hin1, hin2⟩ := phi2_dst HPH.out
                      obtain ⟨d, hd⟩ : ∃ d : Nat, p.dst = d := ⟨p.dst.toNat, by omega⟩
                      have hdl : d < f.regs.length := by omega
                      obtain ⟨b3, o3, z, rfl, hz, hzc, -⟩ := (SInts.keep hkw7 hags5).int hat
                      obtain ⟨b8, o8, x, rfl, hx, hxc, hx64⟩ := (SInts.keep (hk2.trans ((kept_of_below hb5).trans hkw7)) hr).int hdl
                      have ha0 : (0 : Int) ≤ a' := by omega
                      have ha1 : (a' : Int) < p.args.length := by omega
                      have hd0 : (0 : Int) ≤ d := by omega
                      have hd1 : (d : Int) < f.regs.length := by omega
                      have hx0 : 0 ≤ x := by have := HTY.out x (List.mem_of_getElem? hx.out); omega
                      have HNX := Lib.hid (phi2_next hz.out HPH.out (reg_of hd hx.out) hx0)
                      rw [hd] at cP0r
                      have hbd7 : Below w5.heap.size w5 w7.drew := hbel7.drew
                      have hvd : VFun w7.drew (.agg #[.int .i64 f.params, .int .i64 f.result, .slice (some ⟨b8, o8, none⟩) f.regs.length cr, .slice (some ⟨b2, o2, none⟩) f.blocks.length cb]) f := VFun.keep (w' := w7) hkw7 hvf5
                      clear hd hin1 hin2 hx0 hat hdl
                      go_wp2_with fail
                      go_still_tail 12, (by kernel_rfl)
                      change wpList _ _ _ _ _ w7.drew
                      generalize w7.drew = w8 at *
                      go_wp2_with fail
                      refine (is_reg f _ z x _ hvd hx64).mono ?_
                      rintro e w9 ⟨rfl, hb9⟩
                      go_wp2_with fail
                      go_roundw
                      case rel => exact ⟨a' + 1, _, by omega, by go_num, rfl, HNX.out, hbd7.trans (hb9.mono hbd7.size)⟩
                      case measure => simp [intOf]; omega
                    · have ha1 : decide ((a' : Int) < p.args.length) = false := by simp; omega
                      have HE0 := Lib.hid (phi2_done HPH.out (Nat.le_of_not_lt hat))
                      go_wp2_with fail
                      go_roundw
                      case rel => exact ⟨j + 1, by omega, by go_num, Lib.hid (HPS.out.trans HE0.out), hb45.trans (hbel7.mono hb45.size)⟩
                      case measure => simp [intOf]; omega
                  · have hcb : (c == 0) = false := by simp [hc]
                    have hcn : (c != 0) = true := by simp [hc]
                    have HEC := Lib.hid (HPH.out.2 hc)
                    have HFC : Hid (funE m f = c) := Lib.hid ((HPB.out (by rw [HEC.out]; exact hc)).trans HEC.out)
                    clear hc
                    by_cases hat : a' < p.args.length
                    · have ha1 : decide ((a' : Int) < p.args.length) = true := by simp; omega
                      go_wp2_with fail
                      go_ret
                      exact ⟨by rw [HFC.out]; rfl, hB2.trans (hb7.mono hB2.size)⟩
                    · have ha1 : decide ((a' : Int) < p.args.length) = false := by simp; omega
                      go_wp2_with fail
                      go_ret
                      exact ⟨by rw [HFC.out]; rfl, hB2.trans (hb7.mono hB2.size)⟩
          · have hd1 : firstE (kb.phis.map (phiE f)) = 0 := by have := hi2.out; rwa [List.take_of_length_le (by rw [List.length_map]; omega)] at this
            have HP0 := Lib.hid hd1
            clear hd1
            go_wp2_with fail
            go_loopw [13] (fun i wr => ∃ l : Nat, l ≤ kb.ins.length ∧ i = .int .i64 l ∧ Hid (firstE ((kb.ins.map (insE m f)).take l) = 0) ∧ Below wp.heap.size wp wr) (fun i _ => kb.ins.length - (intOf i).toNat)
            case atStart => exact ⟨0, Nat.zero_le _, rfl, Lib.hid rfl, Below.refl _ _⟩
            case round =>
              obtain ⟨l, hl, rfl, hi3, hbel8⟩ := hrel
              obtain ⟨wi, rfl⟩ : ∃ wi, wi = wr := ⟨wr, rfl⟩
              have hsi := hbel8.size
              have hki := kept_of_below hbel8
              have hbi : Below w2.heap.size w2 wi := hbp.trans (hbel8.mono hbp.size)
              have hki2 := kept_of_below hbi
              have cMi := hki2 _ _ cM
              have cF0i := hki2 _ _ cF0
              have cF1i := hki2 _ _ cF1
              have cF2i := hki2 _ _ cF2
              have cF3i := hki2 _ _ cF3
              have cB1i := hki _ _ cB1p
              have cB2i := hki _ _ (hkp _ _ cB2)
              have cB3i := hki _ _ (hkp _ _ cB3)
              have cB4i := hki _ _ (hkp _ _ cB4)
              have hvfi := VFun.keep hki2 hvf
              have HMi := Lib.hid (VMod.keep hki2 HMV.out)
              by_cases hlt3 : l < kb.ins.length
              · obtain ⟨b6, o6, x, rfl, hx, ⟨hx1, hx1'⟩, ⟨hx2, hx2'⟩, ⟨Aa, ca, hx3, hx3'⟩, ⟨hx4, hx4'⟩, ⟨hx5, hx5'⟩⟩ := (SInss.keep (hkp.trans hki) hinss4).at_ hlt3
                have hl0 : (0 : Int) ≤ l := by omega
                have hl1 : (l : Int) < kb.ins.length := by omega
                have hal : x.args.length ≤ 100000 := by have := HBS.out.2.2 x (List.mem_of_getElem? hx.out); omega
                have HIS : Hid (firstE ((kb.ins.map (insE m f)).take (l + 1)) = insE m f x) := Lib.hid (firstE_snoc (map_at _ hx.out) hi3.out)
                have HIB : Hid (insE m f x ≠ 0 → funE m f = insE m f x) := Lib.hid (fun h => by
                  have h1 := firstE_stop (map_at _ hx.out) hi3.out h
                  have h2 : blockE m f kb = insE m f x := by unfold blockE; rw [if_pos HP0.out, h1, if_neg h]
                  rw [HSP.out (by rw [h2]; exact h), h2])
                have hbd8 : Below w2.heap.size w2 wi.drew := hbi.drew
                have hbdp : Below wp.heap.size wp wi.drew := hbel8.drew
                have HVI : Hid (VIns wi.drew (.agg #[.int .i64 x.op, .int .i64 x.dst, .slice Aa x.args.length ca, .int .i64 x.imm, .int .i64 x.fn]) x) := Lib.hid ⟨Aa, ca, rfl, hx3', hx1', hx2', hx4', hx5'⟩
                have HVF : Hid (VFun wi.drew (.agg #[.int .i64 f.params, .int .i64 f.result, .slice Ar f.regs.length cr, .slice (some ⟨b2, o2, none⟩) f.blocks.length cb]) f) := Lib.hid hvfi
                have HVM : Hid (VMod wi.drew (.agg #[.slice (some ⟨b, o, none⟩) m.length cm]) m) := HMi
                clear hvfi HMi hlt3 hx3' hal
                have hal : x.args.length ≤ 100000 := by have := HBS.out.2.2 x (List.mem_of_getElem? hx.out); omega
                have HAL := Lib.hid hal
                clear hal
                go_wp2_with fail
                go_still_tail 7, (by kernel_rfl)
                change wpList _ _ _ _ _ wi.drew
                generalize wi.drew = w8 at *
                go_wp2_with fail
                refine (instr_ref m f x _ _ _ _ HVM.out HVF.out HVI.out HTY.out HAL.out).mono ?_
                rintro e w9 ⟨rfl, hb9⟩
                rw [insR_eq HTY.out]
                generalize insE m f x = bad at *
                by_cases h0 : bad = 0
                · subst h0
                  go_wp2_with fail
                  go_roundw
                  case rel => exact ⟨l + 1, by omega, by go_num, HIS, hbdp.trans (hb9.mono hbdp.size)⟩
                  case measure => simp [intOf]; omega
                · have h0' : (bad != 0) = true := by simp [h0]
                  have HFC := Lib.hid (HIB.out h0)
                  clear h0
                  go_wp2_with fail
                  go_ret
                  exact ⟨by rw [HFC.out]; rfl, (hB2.trans (hbd8.mono hB2.size)).trans (hb9.mono (hB2.trans (hbd8.mono hB2.size)).size)⟩
              · have hd3 : firstE (kb.ins.map (insE m f)) = 0 := by have := hi3.out; rwa [List.take_of_length_le (by rw [List.length_map]; omega)] at this
                have HBE : Hid (blockE m f kb = termE f kb.term) := Lib.hid (by unfold blockE; rw [if_pos HP0.out, if_pos hd3])
                have hto9 := SInts.keep (hkp.trans hki) htos4
                have hl1 : decide ((l : Int) < kb.ins.length) = false := by simp; omega
                clear hd3
                go_wp2_with fail
                refine (end_ref f kb.term _ _ _ hvfi ⟨At, ct, rfl, hto9, h64k, h64a⟩ HKB.out hres).mono ?_
                rintro e w9 ⟨rfl, hb9⟩
                rw [HBE.out] at HSN HSP
                generalize termE f kb.term = bad at *
                by_cases h0 : bad = 0
                · subst h0
                  go_wp2_with fail
                  go_roundw
                  case rel => exact ⟨k + 1, by omega, by go_num, HSN, hbi.trans (hb9.mono hbi.size)⟩
                  case measure => simp [intOf]; omega
                · have h0' : (bad != 0) = true := by simp [h0]
                  have HFC := Lib.hid (HSP.out h0)
                  clear h0
                  go_wp2_with fail
                  go_ret
                  exact ⟨by rw [HFC.out]; rfl, (hB2.trans (hbi.mono hB2.size)).trans (hb9.mono (hB2.trans (hbi.mono hB2.size)).size)⟩
      · have HD : Hid (funE m f = 0) := Lib.hid (by rw [HFE.out]; have := hi.out; rwa [List.take_of_length_le (by rw [List.length_map]; omega)] at this)
        go_wp2_with fail
        go_ret
        exact ⟨by rw [HD.out]; rfl, hB⟩
  · have ho' : (outerE f != 0) = true := by rw [bne_iff_ne]; exact ho
    have HFE : Hid (funE m f = outerE f) := Lib.hid (by unfold funE; rw [if_neg ho])
    clear ho
    go_wp2_with fail
    go_ret
    exact ⟨by rw [HFE.out]; rfl, hB3⟩
end Go.Proofs.YtdfiflbkamhchaaDoor

/- The reference's Module: it tells what the document says. -/
namespace Go.Proofs.YtdfiflbkamhchaaDoor
open Go.ChangeShapes Go.WideShapes Go.RowKit Go.Deep
set_option linter.unusedVariables false

set_option maxRecDepth 100000 in
set_option maxHeartbeats 4000000 in
theorem module_ref (m : List FunD) (v : Value) (w : World) (hv : VMod w v m) (hsm : ∀ f ∈ m, SmallG f) :
    Calls Tryd.prog 9 #[v] w fun e w' => e = .returned (.tuple #[.int .i64 (modE m).1, .int .i64 (modE m).2]) ∧ Below w.heap.size w w' := by
  have hm0 := hv
  obtain ⟨Am, cm, rfl, hms⟩ := hv
  have hml := hms.len
  by_cases h32 : 32 < m.length
  · have HE : Hid (modE m = (5, -1)) := Lib.hid (if_pos h32)
    go_enter Tryd.func9, Tryd.ntmps9
    go_wp2_with fail
    go_ret2
    exact ⟨by rw [HE.out]; rfl, (Below.refl _ _).alloc (Nat.le_refl _) _⟩
  · have HM : Hid (modE m = modK m m 0) := Lib.hid (if_neg h32)
    have HSM := Lib.hid hsm
    clear hsm
    go_enter Tryd.func9, Tryd.ntmps9
    go_wp2_with fail
    obtain ⟨w1, hw1, hs1, hk1, hB1, hc1, -⟩ := named w #[.slice Am m.length cm] 24
    rw [← hw1]
    have q0 : w1.cell? ⟨w.heap.size, 0, none⟩ = some (.slice Am m.length cm) := hc1 0 _ rfl
    have hs1 : w.heap.size < w1.heap.size := by omega
    clear hw1 hc1
    go_loopw [4] (fun i wr => ∃ k : Nat, k ≤ m.length ∧ i = .int .i64 k ∧ Below w1.heap.size w1 wr ∧ Hid ((modK m (m.take k) 0).1 = 0)) (fun i _ => m.length - (intOf i).toNat)
    case atStart => exact ⟨0, Nat.zero_le _, rfl, Below.refl _ _, Lib.hid rfl⟩
    case round =>
      obtain ⟨k, hk, rfl, hbel, hi⟩ := hrel
      have hkw : Kept w1 wr := kept_of_below hbel
      have hB : Below w.heap.size w wr := hB1.trans (hbel.mono hB1.size)
      have hso := hbel.size
      have a0 := hkw _ _ q0
      have n0 : w.heap.size < wr.heap.size := by omega
      by_cases hlt : k < m.length
      · have hx := List.getElem?_eq_getElem hlt
        generalize m[k] = f at hx
        have HX := Lib.hid hx
        have HF := Lib.hid (HSM.out f (List.mem_of_getElem? hx))
        have hvm := VMod.keep (hk1.trans hkw) hm0
        clear hx
        go_wp2_with fail
        refine (func_ref m k f _ _ hvm HX.out HF.out).mono ?_
        rintro e w7 ⟨rfl, hb7⟩
        have hb7' : Below w1.heap.size w1 w7 := hbel.trans (hb7.mono hbel.size)
        have hB7 : Below w.heap.size w w7 := hB.trans (hb7.mono hB.size)
        have HST := Lib.hid (modK_step HX.out hi.out)
        have HSP := Lib.hid (fun h => HM.out.trans (modK_stop HX.out hi.out h))
        generalize funE m f = bad at *
        by_cases hc : bad = 0
        · subst hc
          go_wp2_with fail
          go_roundw
          case rel => exact ⟨k + 1, by omega, by go_num, hb7', Lib.hid (by rw [HST.out]; simp)⟩
          case measure => simp [intOf]; omega
        · have hcb : (bad != 0) = true := by simp [hc]
          have HC := Lib.hid (HSP.out hc)
          clear hc
          go_wp2_with fail
          go_ret2
          exact ⟨by rw [HC.out]; rfl, hB7⟩
      · have HE : Hid (modE m = (0, -1)) := Lib.hid (by
          have := hi.out
          rw [List.take_of_length_le (Nat.le_of_not_lt hlt)] at this
          rw [HM.out]; exact modK_ok this)
        go_wp2_with fail
        go_ret2
        exact ⟨by rw [HE.out]; rfl, hB⟩
end Go.Proofs.YtdfiflbkamhchaaDoor

/- The document's first example of layer 8. -/
namespace Go.Proofs.YtdfiflbkamhchaaDoor
open Go.ChangeShapes Go.WideShapes Go.RowKit Go.Deep
set_option linter.unusedVariables false

theorem sl_nil8 {α : Type} {w : World} {sz : Nat} {R : World → Nat → Nat → α → Prop} : SL w sz R none 0 [] := ⟨Nat.le_refl _, ⟨by unfold maxLen; omega, fun _ => rfl⟩, fun h => absurd h (by simp)⟩
def f8 : FunD := ⟨1, 1, [1], [⟨[], [], ⟨3, 0, []⟩⟩]⟩
theorem proper8 : Proper [f8] := by unfold Proper; decide
set_option maxRecDepth 100000 in
set_option maxHeartbeats 4000000 in
theorem up8_any (w : World) : Calls Tryd.prog 4 #[] w fun e w' => e = .returned (.bool true) ∧ Below w.heap.size w w' := by
  go_enter Tryd.func4, Tryd.ntmps4
  go_wp2_with fail
  obtain ⟨N, hN⟩ : ∃ N, N = w.heap.size := ⟨_, rfl⟩
  obtain ⟨W4, hW4⟩ : ∃ W4, W4 = (((w.alloc (.cells #[.int .i64 1] 3)).alloc (.cells #[.slice none 0 0, .slice none 0 0, .int .i64 3, .int .i64 0, .slice none 0 0] 52)).alloc (.cells #[.int .i64 1, .int .i64 1, .slice (some ⟨N, 0, none⟩) 1 1, .slice (some ⟨N + 1, 0, none⟩) 1 1] 41)).alloc (.cells #[.int .i64 1, .int .i64 1, .slice (some ⟨N, 0, none⟩) 1 1, .slice (some ⟨N + 1, 0, none⟩) 1 1] 41) := ⟨_, rfl⟩
  have hb : W4.heap[N]? = some (.cells #[.int .i64 1] 3) ∧ W4.heap[N + 1]? = some (.cells #[.slice none 0 0, .slice none 0 0, .int .i64 3, .int .i64 0, .slice none 0 0] 52) ∧ W4.heap[N + 1 + 1 + 1]? = some (.cells #[.int .i64 1, .int .i64 1, .slice (some ⟨N, 0, none⟩) 1 1, .slice (some ⟨N + 1, 0, none⟩) 1 1] 41) ∧ Below N w W4 := by
    subst hW4 hN
    have h0 := heap_alloc_new w (.cells #[.int .i64 1] 3)
    have h1 := heap_alloc_new (w.alloc (.cells #[.int .i64 1] 3)) (.cells #[.slice none 0 0, .slice none 0 0, .int .i64 3, .int .i64 0, .slice none 0 0] 52)
    have h3 := heap_alloc_new (((w.alloc (.cells #[.int .i64 1] 3)).alloc (.cells #[.slice none 0 0, .slice none 0 0, .int .i64 3, .int .i64 0, .slice none 0 0] 52)).alloc (.cells #[.int .i64 1, .int .i64 1, .slice (some ⟨w.heap.size, 0, none⟩) 1 1, .slice (some ⟨w.heap.size + 1, 0, none⟩) 1 1] 41)) (.cells #[.int .i64 1, .int .i64 1, .slice (some ⟨w.heap.size, 0, none⟩) 1 1, .slice (some ⟨w.heap.size + 1, 0, none⟩) 1 1] 41)
    refine ⟨?_, ?_, by simpa using h3, ((((Below.refl _ w).alloc (Nat.le_refl _) _).alloc (by simp) _).alloc (by first | (simp; done) | (simp; omega)) _).alloc (by first | (simp; done) | (simp; omega)) _⟩
    · exact (Below.heap_alloc _ _ _ (by first | (simp; done) | (simp; omega))).trans ((Below.heap_alloc _ _ _ (by first | (simp; done) | (simp; omega))).trans ((Below.heap_alloc _ _ _ (by simp)).trans h0))
    · exact (Below.heap_alloc _ _ _ (by first | (simp; done) | (simp; omega))).trans ((Below.heap_alloc _ _ _ (by simp)).trans (by simpa using h1))
  obtain ⟨b0, b1, b3, hbel⟩ := hb
  have i0 : I64 0 := by unfold I64; omega
  have i1 : I64 1 := by unfold I64; omega
  have i3 : I64 3 := by unfold I64; omega
  have hblk : RBlk W4 (N + 1) 0 ⟨[], [], ⟨3, 0, []⟩⟩ := ⟨⟨none, 0, cell_of_block b1 0, sl_nil8⟩, ⟨none, 0, cell_of_block b1 1, sl_nil8⟩, ⟨cell_of_block b1 2, i3⟩, ⟨cell_of_block b1 3, i0⟩, ⟨none, 0, cell_of_block b1 4, sl_nil8⟩⟩
  have hfun : RFun W4 (N + 1 + 1 + 1) 0 f8 := ⟨⟨cell_of_block b3 0, i1⟩, ⟨cell_of_block b3 1, i1⟩, ⟨some ⟨N, 0, none⟩, 1, cell_of_block b3 2, SL.one ⟨cell_of_block b0 0, i1⟩⟩, ⟨some ⟨N + 1, 0, none⟩, 1, cell_of_block b3 3, SL.one hblk⟩⟩
  have hsm : SmallM [f8] := ⟨by simp, fun f hf => by rw [List.mem_singleton.1 hf]; exact ⟨by simp [f8], by simp [f8], by simp [f8], fun b hb => by simp [f8] at hb; subst hb; exact ⟨by simp, by simp, by simp, by simp, by simp⟩⟩⟩
  have hlv := live_any [f8] 0 (.agg #[.slice (some ⟨N + 1 + 1 + 1, 0, none⟩) 1 1]) W4 ⟨_, _, rfl, SL.one hfun⟩ hsm
  have HLV := Lib.hid hlv
  have HBEL := Lib.hid hbel
  have HNN := Lib.hid hN
  rw [← hN, ← hW4]
  clear hlv hbel hsm hfun hblk b0 b1 b3 hW4 hN i0 i1 i3
  refine HLV.out.mono ?_
  rintro e w5 ⟨⟨va, vb, ve, rfl, hc⟩, hb5⟩
  have hc2 : ∃ (G3 G4 : Nat) (A E : Nat → Nat → Bool), va = .slice (some ⟨G3, 0, none⟩) 1 1 ∧ vb = .slice (some ⟨G4, 0, none⟩) 1 1 ∧ ve = .nilIface ∧ BG1 w5 G3 1 1 A ∧ BG1 w5 G4 1 1 E ∧ A 0 0 = true ∧ E 0 0 = false := by
    rcases hc with ⟨-, -, ⟨h, -⟩ | ⟨-, h, -⟩⟩ | ⟨-, h0, k, f, G3, G4, A, E, hk, hf, h1, h2, -, -, h3, h4, h5, h6, -⟩
    · exact absurd proper8 h
    · exact absurd ⟨by omega, by simp⟩ h
    · obtain rfl : k = 0 := by omega
      obtain rfl : f8 = f := by simpa using hf
      refine ⟨G3, G4, A, E, h1, h2, h0, h3, h4, ?_, ?_⟩
      · exact (h5 0 0).2 (.use (x := ⟨[], [], ⟨3, 0, []⟩⟩) rfl (by decide) rfl)
      · cases hE : E 0 0
        · rfl
        · exfalso
          have h7 := (h6 0 0).1 hE
          cases h7 with
          | along ha =>
            obtain ⟨x, hx, p, hp, -⟩ := ha
            have : x = ⟨[], [], ⟨3, 0, []⟩⟩ := List.mem_singleton.1 (List.mem_of_getElem? hx)
            rw [this] at hp; cases hp
          | back ht hb _ =>
            have ht1 := ht
            simp [f8] at ht1
            subst ht1
            exact absurd hb (by decide)
  obtain ⟨G3, G4, A, E, rfl, rfl, rfl, hA, hE, hA0, hE0⟩ := hc2
  obtain ⟨x1, x2, -⟩ := hA.at_ (a := 0) (r := 0) (by omega) (by omega)
  obtain ⟨y1, y2, -⟩ := hE.at_ (a := 0) (r := 0) (by omega) (by omega)
  rw [hA0] at x2
  rw [hE0] at y2
  have HB5 : Hid (Below w.heap.size w w5) := Lib.hid ((HNN.out ▸ HBEL.out).trans (hb5.mono (by have := HBEL.out.size; have := HNN.out; omega)))
  clear hc hb5 hA hE hA0 hE0
  go_wp2_with fail
  go_ret
  exact ⟨rfl, HB5.out⟩
end Go.Proofs.YtdfiflbkamhchaaDoor
