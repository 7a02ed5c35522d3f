/- The program's Calls. -/
import Derived.Test.YtdfiflbkamhchaaCaQJ
import Derived.Test.YtdfiflbkamhchaaLastJ
import Derived.BigQuiet
namespace Go.Proofs.Ytdfiflbkamhchaa
open Go.ChangeShapes Go.WideShapes Go.RowKit Go.Deep
set_option linter.unusedVariables false

theorem isAtC_any (a b : Int) (w : World) : Calls Try.prog 32 #[.int .i64 a, .int .i64 b] w fun e w' => e = .returned (.bool (decide (0 ≤ a ∧ a < b))) ∧ w = w' := by
  by_cases h0 : 0 ≤ a
  · by_cases h1 : a < b
    · have e : decide (0 ≤ a ∧ a < b) = true := decide_eq_true ⟨h0, h1⟩
      rw [e]; clear e
      go_enter Try.func32, Try.ntmps32
      go_wp2_with fail
      go_ret
      exact ⟨rfl, rfl⟩
    · have e : decide (0 ≤ a ∧ a < b) = false := decide_eq_false (fun h => h1 h.2)
      rw [e]; clear e
      go_enter Try.func32, Try.ntmps32
      go_wp2_with fail
      go_ret
      exact ⟨rfl, rfl⟩
  · have e : decide (0 ≤ a ∧ a < b) = false := decide_eq_false (fun h => h0 h.1)
    rw [e]; clear e
    go_enter Try.func32, Try.ntmps32
    go_wp2_with fail
    go_ret
    exact ⟨rfl, rfl⟩

def ToldCs (m : List FunD) (w : World) (e : Ending) (w' : World) : Prop :=
  ∃ G V, e = .returned (.slice (some ⟨G, 0, none⟩) m.length m.length) ∧ w.heap.size ≤ G ∧ CallsM w' m.length G V (cF m) ∧ Below w.heap.size w w'
def insP (f : FunD) (i : Nat) : List InsD := (f.blocks.take i).flatMap fun b => b.ins
theorem insP_all (f : FunD) : insP f f.blocks.length = insF f := by unfold insP insF; rw [List.take_length]
theorem insP_succ {f : FunD} {i : Nat} {b : BlkD} (h : f.blocks[i]? = some b) : insP f (i + 1) = insP f i ++ b.ins := by
  unfold insP
  rw [List.take_add_one, h, List.flatMap_append]; simp
set_option maxRecDepth 100000 in
set_option maxHeartbeats 16000000 in
theorem callsOf_any (m : List FunD) (v : Value) (w : World) (hv : VMod w v m) (hsm : SmallM m) : Calls Try.prog 15 #[v] w (ToldCs m w) := by
  have hv0 := hv
  obtain ⟨Am, cm, rfl, hm⟩ := hv
  have HSM := Lib.hid hsm
  have HMM := Lib.hid hm
  have hnl := hsm.1
  obtain ⟨n, hn⟩ : ∃ n, n = m.length := ⟨_, rfl⟩
  have HN := Lib.hid hn
  rw [← hn] at hnl ⊢
  have hmkR := run_make_row' (P := Try.prog) 54 34 (.slice none 0 0) 24 Try.underlyingC54 Try.info34 rfl .i64 .i64 n (by omega) (by omega)
  have hmk := run_make_row' (P := Try.prog) 34 3 (.int .i64 0) 8 Try.underlying34 Try.info3 rfl .i64 .i64 n (by omega) (by omega)
  clear hm hsm hv0 hn
  go_enter Try.func15, Try.ntmps15
  go_upto_region 4 with fail
  clear hmkR hmk
  obtain ⟨W0, hW0⟩ : ∃ W0, W0 = ((w.alloc (.cells #[.slice Am n cm] 24)).alloc (.cells (madeCells #[.slice none 0 0] n) 34)).alloc (.cells (madeCells #[.int .i64 0] n) 3) := ⟨_, rfl⟩
  obtain ⟨N, hN⟩ : ∃ N, N = w.heap.size := ⟨_, rfl⟩
  have hM0 : CpM w n (.slice Am n cm) (fun _ => .slice none 0 0) (fun _ => []) (fun _ => 0) W0 := by
    have z1 : (w.alloc (.cells #[.slice Am n cm] 24)).heap.size = w.heap.size + 1 := by simp
    have z2 : ((w.alloc (.cells #[.slice Am n cm] 24)).alloc (.cells (madeCells #[.slice none 0 0] n) 34)).heap.size = w.heap.size + 2 := by simp
    have k1 := World.rowIs_made (w.alloc (.cells #[.slice Am n cm] 24)) (.slice none 0 0) n 34
    have k2 := World.rowIs_made ((w.alloc (.cells #[.slice Am n cm] 24)).alloc (.cells (madeCells #[.slice none 0 0] n) 34)) (.int .i64 0) n 3
    rw [z1] at k1
    rw [z2] at k2
    refine ⟨?_, ?_, ?_, ?_, ⟨fun i _ => World.ownsRow_nil _ _ _ _, fun _ _ _ _ _ => .inl rfl⟩, by rw [hW0]; simp⟩
    · rw [hW0]; exact (((Below.refl _ w).alloc (Nat.le_refl _) _).alloc (by simp) _).alloc (by simp; omega) _
    · rw [hW0]
      refine (World.cell?_alloc_lt _ _ _ (by simp; omega)).trans ((World.cell?_alloc_lt _ _ _ (by simp)).trans ?_)
      exact cell_of_block (heap_alloc_new w (.cells #[.slice Am n cm] 24)) 0
    · rw [hW0]; exact (k1.of_block (Below.heap_alloc _ _ _ (by simp)))
    · rw [hW0]; exact k2
  have HM0 := Lib.hid hM0
  have HNN := Lib.hid hN
  rw [← hW0]
  have hsz : (w.alloc (.cells #[.slice Am n cm] 24)).heap.size = N + 1 := by rw [hN]; simp
  rw [← hN]
  clear hM0 hW0 hN hsz
  go_wp2_with fail
  go_loopw [19] (fun i wq => ∃ (f : Nat) (V : Nat → Value) (LA : Nat → Nat), f ≤ n ∧ i = .int .i64 (f : Int) ∧ CpM w n (.slice Am n cm) V (fun i => if i < f then cF m i else []) LA wq ∧ ∀ g, LA g ≤ f) (fun i _ => n - (intOf i).toNat)
  case atStart => exact ⟨0, _, _, Nat.zero_le _, rfl, HM0.out.congr (fun i _ => by simp) (fun _ _ => rfl), fun g => Nat.le_refl _⟩
  case round =>
    obtain ⟨f, V, LA, hfn, rfl, hM, hLA⟩ := hrel
    obtain ⟨wL, rfl⟩ : ∃ wL, wL = wr := ⟨_, rfl⟩
    have HM := Lib.hid hM
    have HLA := Lib.hid hLA
    by_cases hf : f < n
    · have hkp : Kept w wL := kept_of_below hM.bel
      obtain ⟨b, o, x, hAm, hF, ⟨-, -⟩, ⟨-, -⟩, -, ⟨Ab, cb, x3, z3⟩⟩ := HMM.out.at_ (k := f) (by rw [← HN.out]; exact hf)
      have d3 := hkp _ _ x3
      have q0 : wL.cell? ⟨N, 0, none⟩ = some (.slice (some ⟨b, o, none⟩) n cm) := by rw [HNN.out, ← hAm]; exact hM.bx
      have HAM := Lib.hid hAm
      have hxm := List.mem_of_getElem? hF.out
      have hsx := HSM.out.2 x hxm
      have hnb := hsx.1
      have HBS := Lib.hid z3
      have HXF := Lib.hid hF.out
      have HSX := Lib.hid hsx
      have hf0 : (0 : Int) ≤ f := by omega
      have hf1 : (f : Int) < n := by omega
      clear hM hLA hkp x3 z3 hF hxm hsx hAm
      go_upto_region 8 with fail
      clear q0 d3
      go_loopw [29] (fun i wq => ∃ (k : Nat) (V2 : Nat → Value) (LA2 : Nat → Nat), k ≤ x.blocks.length ∧ i = .int .i64 (k : Int) ∧ CpM w n (.slice Am n cm) V2 (updN (fun i => if i < f then cF m i else []) f (accC n (insP x k))) LA2 wq ∧ ∀ g, g < n → LA2 g ≤ f + 1 ∧ (LA2 g = f + 1 ↔ g ∈ accC n (insP x k))) (fun i _ => x.blocks.length - (intOf i).toNat)
      case atStart => exact ⟨0, V, LA, Nat.zero_le _, rfl, HM.out.congr (fun i _ => by
        by_cases e : i = f
        · subst e; rw [updN_here, if_neg (by omega)]; rfl
        · rw [updN_else _ _ e]) (fun _ _ => rfl), fun g _ => ⟨by have := HLA.out g; omega, ⟨fun e => by have := HLA.out g; omega, fun h => by simp [insP, accC] at h⟩⟩⟩
      case round =>
        obtain ⟨k, V2, LA2, hk, rfl, hM, hLA2⟩ := hrel
        obtain ⟨wk, rfl⟩ : ∃ wk, wk = wr := ⟨_, rfl⟩
        have HM2 := Lib.hid hM
        have HLA2 := Lib.hid hLA2
        by_cases hkl : k < x.blocks.length
        · have hkp : Kept w wk := kept_of_below hM.bel
          obtain ⟨bk, ok, kb, rfl, hB, ⟨A1, a1, y0, -⟩, ⟨A2, a2, y1, hs2⟩, y2, y3, A3, a3, y4, -⟩ := HBS.out.at_ hkl
          have k0 := hkp _ _ y0
          have k1 := hkp _ _ y1
          have k2 := hkp _ _ y2.1
          have k3 := hkp _ _ y3.1
          have k4 := hkp _ _ y4
          have HIS := Lib.hid hs2
          have HKB := Lib.hid hB.out
          have hsb := HSX.out.2.2.2 kb (List.mem_of_getElem? hB.out)
          have hil := hsb.1
          have hki0 : (0 : Int) ≤ k := by omega
          have hki1 : (k : Int) < x.blocks.length := by omega
          obtain ⟨wB, hwB⟩ : ∃ wB, wB = wk.alloc (.cells #[.slice A1 kb.phis.length a1, .slice A2 kb.ins.length a2, .int .i64 kb.term.kind, .int .i64 kb.term.arg, .slice A3 kb.term.to.length a3] 40) := ⟨_, rfl⟩
          have HMB := Lib.hid (hM.below (w' := wB) (by rw [hwB]; exact (Below.refl _ _).alloc (Nat.le_refl _) _))
          obtain ⟨Q, hQ⟩ : ∃ Q, Q = wk.heap.size := ⟨_, rfl⟩
          have hbQ : wB.heap[Q]? = some (.cells #[.slice A1 kb.phis.length a1, .slice A2 kb.ins.length a2, .int .i64 kb.term.kind, .int .i64 kb.term.arg, .slice A3 kb.term.to.length a3] 40) := by rw [hwB, hQ]; exact heap_alloc_new _ _
          have q0 := cell_of_block hbQ 0
          have q1 := cell_of_block hbQ 1
          clear hM hLA2 hkp y0 y1 y2 y3 y4 hs2 hB hsb
          go_upto_region 10 with fail
          rw [← hwB, ← hQ]
          clear hwB hbQ hQ k0 k1 k2 k3 k4
          go_upto_region 11 with fail
          clear q0 q1
          go_loopw [36] (fun i wq => ∃ (j : Nat) (V3 : Nat → Value) (LA3 : Nat → Nat), j ≤ kb.ins.length ∧ i = .int .i64 (j : Int) ∧ CpM w n (.slice Am n cm) V3 (updN (fun i => if i < f then cF m i else []) f (accC n (insP x k ++ kb.ins.take j))) LA3 wq ∧ ∀ g, g < n → LA3 g ≤ f + 1 ∧ (LA3 g = f + 1 ↔ g ∈ accC n (insP x k ++ kb.ins.take j))) (fun i _ => kb.ins.length - (intOf i).toNat)
          case atStart => exact ⟨0, V2, LA2, Nat.zero_le _, rfl, by rw [List.take_zero, List.append_nil]; exact HMB.out, by rw [List.take_zero, List.append_nil]; exact HLA2.out⟩
          case round =>
            obtain ⟨j, V3, LA3, hj, rfl, hM, hLA3⟩ := hrel
            obtain ⟨wj, rfl⟩ : ∃ wj, wj = wr := ⟨_, rfl⟩
            have HM3 := Lib.hid hM
            have HLA3 := Lib.hid hLA3
            by_cases hjl : j < kb.ins.length
            · have hkp : Kept w wj := kept_of_below hM.bel
              obtain ⟨bi, oi, y, rfl, hY, h0, h1, ⟨A5, a5, h2, -⟩, h3, h4⟩ := HIS.out.at_ hjl
              have d0 := hkp _ _ h0.1
              have d1 := hkp _ _ h1.1
              have d2 := hkp _ _ h2
              have d3 := hkp _ _ h3.1
              have d4 := hkp _ _ h4.1
              have hfn64 := h4.2
              have HTK : Hid (insP x k ++ kb.ins.take (j + 1) = (insP x k ++ kb.ins.take j) ++ [y]) := Lib.hid (by rw [take_succ_of hY.out, List.append_assoc])
              obtain ⟨l, hl⟩ : ∃ l, l = accC n (insP x k ++ kb.ins.take j) := ⟨_, rfl⟩
              have HL := Lib.hid hl
              have hlen : l.length ≤ 40 := by rw [hl]; have := accC_len n (insP x k ++ kb.ins.take j); omega
              have HLT : Hid (∀ z ∈ l, z < n) := Lib.hid (fun z hz => by rw [hl] at hz; exact accC_lt hz)
              have hj0 : (0 : Int) ≤ j := by omega
              have hj1 : (j : Int) < kb.ins.length := by omega
              obtain ⟨wB2, hwB2⟩ : ∃ wB2, wB2 = wj.alloc (.cells #[.int .i64 y.op, .int .i64 y.dst, .slice A5 y.args.length a5, .int .i64 y.imm, .int .i64 y.fn] 46) := ⟨_, rfl⟩
              rw [← hl] at hM hLA3
              have hMB := hM.below (w' := wB2) (by rw [hwB2]; exact (Below.refl _ _).alloc (Nat.le_refl _) _)
              have HLA3 := Lib.hid hLA3
              obtain ⟨D, hD⟩ : ∃ D, D = wj.heap.size := ⟨_, rfl⟩
              have hbD : wB2.heap[D]? = some (.cells #[.int .i64 y.op, .int .i64 y.dst, .slice A5 y.args.length a5, .int .i64 y.imm, .int .i64 y.fn] 46) := by rw [hwB2, hD]; exact heap_alloc_new _ _
              have g0 : wB2.cell? ⟨D, 0, none⟩ = some (.int .i64 y.op) := cell_of_block hbD 0
              have g4 : wB2.cell? ⟨D, 4, none⟩ = some (.int .i64 y.fn) := cell_of_block hbD 4
              have hDN : N + 3 ≤ D := by rw [hD, HNN.out]; exact hM.kw
              have hDB : D < wB2.heap.size := (Array.getElem?_eq_some_iff.1 hbD).1
              have HMB := Lib.hid hMB
              have HBD := Lib.hid hbD
              clear hM hLA3 hkp h0 h1 h2 h3 h4 hY hl HM3
              go_upto_region 13 with fail
              rw [← hwB2, ← hD]
              clear hwB2 hbD hD d0 d1 d2 d3 d4
              by_cases hop : y.op = 17
              · have hopb : (y.op == (17 : Int)) = true := by rw [hop]; rfl
                rw [hop] at g0
                by_cases hin : 0 ≤ y.fn ∧ y.fn < n
                · obtain ⟨q, hq⟩ : ∃ q : Nat, y.fn = (q : Int) := ⟨y.fn.toNat, by omega⟩
                  have hqn : q < n := by omega
                  have hdin : decide (0 ≤ (q : Int) ∧ (q : Int) < n) = true := decide_eq_true (by omega)
                  rw [hq] at g4
                  have hla := HLA3.out q hqn
                  have r0 := hMB.la.cell hqn
                  have r1 := hMB.la.frozen q
                  rw [← HNN.out] at r0 r1
                  obtain ⟨lq, hlq⟩ : ∃ lq, lq = LA3 q := ⟨_, rfl⟩
                  rw [← hlq] at r0 hla
                  have HISC : Hid (isC n y) := Lib.hid ⟨hop, hin.1, hin.2⟩
                  have HQ := Lib.hid hq
                  have hq0 : (0 : Int) ≤ q := by omega
                  have hq1 : (q : Int) < n := by omega
                  by_cases hseen : lq = f + 1
                  · have hd1 : ((lq : Int) != (f : Int) + 1) = false := by rw [hseen]; simp
                    have hne2 : (lq : Int) = (f : Int) + 1 := by omega
                    have HSAME : Hid (accC n (insP x k ++ kb.ins.take (j + 1)) = l) := Lib.hid (by
                      rw [HTK.out, accC_snoc, ← HL.out]
                      unfold accS
                      rw [if_neg (fun h => h.2 (by rw [HQ.out, Int.toNat_natCast]; exact hla.2.1 hseen))])
                    clear hMB hin hq hla hseen hlq hop
                    go_wp2_with (go_at_call 32; refine (isAtC_any _ _ _).mono ?_; rintro e w5 ⟨rfl, rfl⟩)
                    go_roundw
                    case rel => exact ⟨j + 1, V3, LA3, by omega, by go_num, by rw [HSAME.out]; exact HMB.out, by rw [HSAME.out]; exact HLA3.out⟩
                    case measure => simp [intOf]; omega
                  · have hd1 : ((lq : Int) != (f : Int) + 1) = true := by simp; omega
                    have hne2 : ¬ ((lq : Int) = (f : Int) + 1) := by omega
                    have hnl2 : q ∉ l := fun h => hseen (hla.2.2 h)
                    have HNEW : Hid (accC n (insP x k ++ kb.ins.take (j + 1)) = l ++ [q]) := Lib.hid (by
                      rw [HTK.out, accC_snoc, ← HL.out]
                      unfold accS
                      rw [if_pos ⟨HISC.out, by rw [HQ.out, Int.toNat_natCast]; exact hnl2⟩, HQ.out, Int.toNat_natCast])
                    clear hin hq hla hseen hlq hop hnl2 hMB
                    go_upto_region 14 with (go_at_call 32; refine (isAtC_any _ _ _).mono ?_; rintro e w5 ⟨rfl, rfl⟩)
                    go_upto_region 15 with fail
                    have e1 : ((f : Int) + 1) = ((f + 1 : Nat) : Int) := by omega
                    obtain ⟨f1, hf1'⟩ : ∃ f1, f1 = f + 1 := ⟨_, rfl⟩
                    have e2 : ((f : Int) + 1) = (f1 : Int) := by omega
                    rw [e2]
                    obtain ⟨wC, hwC⟩ : ∃ wC, wC = wB2.setCell ⟨N + 2, q, none⟩ (.int .i64 (f1 : Int)) := ⟨_, rfl⟩
                    rw [← hwC]
                    have hMC : CpM w n (.slice Am n cm) V3 (updN (fun i => if i < f then cF m i else []) f l) (updN LA3 q f1) wC := by
                      have h1 := HMB.out.setLa q f1
                      rw [← HNN.out, ← hwC] at h1
                      exact h1
                    have hDC : wC.heap[D]? = wB2.heap[D]? := by rw [hwC]; exact Below.heap_setCell _ _ _ _ (by show D ≠ N + 2; omega)
                    have g4' : wC.cell? ⟨D, 4, none⟩ = some (.int .i64 (q : Int)) := (World.cell?_of_block (a := ⟨D, 4, none⟩) hDC).trans g4
                    have hDsz : D < wC.heap.size := by rw [hwC]; simpa using hDB
                    have HF1 := Lib.hid hf1'
                    have HDB : Hid (wC.heap[D]? = some (.cells #[.int .i64 y.op, .int .i64 y.dst, .slice A5 y.args.length a5, .int .i64 y.imm, .int .i64 y.fn] 46)) := Lib.hid (hDC.trans HBD.out)
                    have r2 := hMC.gr.cell hf
                    have r3 := hMC.gr.frozen f
                    rw [← HNN.out] at r2 r3
                    have how : wC.ownsRow (N + 3) 3 1 (V3 f) l.length (natV l) := by
                      have h1 := hMC.pool.own f hf
                      have h2 : updN (fun i => if i < f then cF m i else []) f l f = l := updN_here _ _ _
                      rw [h2, ← HNN.out] at h1
                      exact h1
                    have HOW := Lib.hid how
                    have HMC := Lib.hid hMC
                    obtain ⟨Av, cv, hvs⟩ := own_sliceL how
                    have hkw : N + 3 ≤ wC.heap.size := by rw [HNN.out]; exact hMC.kw
                    clear hwC e1 hf1' hDC g0 g4 r0 r1 how hMC hd1 hne2 HMB HISC
                    obtain ⟨i0, hi, hz0, hz1, hz2⟩ := info_parts Try.info3
                    have HI := Lib.hid (And.intro hi (And.intro hz0 (And.intro hz1 hz2)))
                    clear hi hz0 hz1 hz2
                    have hS : ∀ w', Below wC.heap.size wC w' → w'.cell? ⟨N + 1, f, none⟩ = some (V3 f) ∧ w'.cell? ⟨D, 4, none⟩ = some (.int .i64 (q : Int)) := fun w' hb => ⟨(hb.cell (p := ⟨N + 1, f, none⟩) (by show N + 1 < wC.heap.size; omega)).trans r2, (hb.cell (p := ⟨D, 4, none⟩) hDsz).trans g4'⟩
                    have hS0 := hS wC.drew (Below.refl _ _).drew
                    rw [hvs] at hS0
                    refine wp_region_last (L := 11) (S := fun w' : World => w'.cell? ⟨N + 1, f, none⟩ = some (.slice Av l.length cv) ∧ w'.cell? ⟨D, 4, none⟩ = some (.int .i64 (q : Int))) (by kernel_rfl) (by rfl) (by kernel_rfl) (by kernel_rfl) ?_
                    change wpAnyH _ _ _ _ _ _ _ _ (World.drew _)
                    refine takeH (i := 0) (some 65) (v := ?_) rfl (by kernel_rfl) (by kernel_rfl) (by kernel_rfl) (fun _ _ _ h => h) hS0 (fun o ho => ?_) ?_
                    rotate_left
                    · simp only [List.getElem?_toArray, List.getElem?_cons_zero, Option.some.injEq] at ho; subst ho; refine Or.inl ⟨by rfl, fun w' hSw => ?_⟩; (try dsimp only at hSw); go_simp; try with_reducible rfl
                    simp only [Act.put, List.setIfInBounds_toArray, List.set_cons_zero, List.set_cons_succ]
                    refine takeH (i := 1) (some 66) (v := ?_) rfl (by kernel_rfl) (by kernel_rfl) (by kernel_rfl) (fun _ _ _ h => h) hS0 (fun o ho => ?_) ?_
                    rotate_left
                    · simp only [List.getElem?_toArray, List.getElem?_cons_zero, List.getElem?_cons_succ, Option.some.injEq] at ho; subst ho; refine Or.inl ⟨by rfl, fun w' hSw => ?_⟩; (try dsimp only at hSw); go_simp; try with_reducible rfl
                    simp only [Act.put, List.setIfInBounds_toArray, List.set_cons_zero, List.set_cons_succ]
                    refine takeH (i := 2) (some 67) (v := ?_) rfl (by kernel_rfl) (by kernel_rfl) (by kernel_rfl) (fun _ _ _ h => h) hS0 (fun o ho => ?_) ?_
                    rotate_left
                    · simp only [List.getElem?_toArray, List.getElem?_cons_zero, List.getElem?_cons_succ, Option.some.injEq] at ho; subst ho; refine Or.inl ⟨by rfl, fun w' hSw => ?_⟩; (try dsimp only at hSw); go_simp; try with_reducible rfl
                    simp only [Act.put, List.setIfInBounds_toArray, List.set_cons_zero, List.set_cons_succ]
                    refine takeH (i := 3) (some 68) (v := ?_) rfl (by kernel_rfl) (by kernel_rfl) (by kernel_rfl) (fun _ _ _ h => h) hS0 (fun o ho => ?_) ?_
                    rotate_left
                    · simp only [List.getElem?_toArray, List.getElem?_cons_zero, List.getElem?_cons_succ, Option.some.injEq] at ho; subst ho; refine Or.inl ⟨by rfl, fun w' hSw => ?_⟩; (try dsimp only at hSw); go_simp; try with_reducible rfl
                    simp only [Act.put, List.setIfInBounds_toArray, List.set_cons_zero, List.set_cons_succ]
                    refine takeH (i := 4) (some 69) (v := ?_) rfl (by kernel_rfl) (by kernel_rfl) (by kernel_rfl) (fun _ _ _ h => h) hS0 (fun o ho => ?_) ?_
                    rotate_left
                    · simp only [List.getElem?_toArray, List.getElem?_cons_zero, List.getElem?_cons_succ, Option.some.injEq] at ho; subst ho; refine Or.inl ⟨by rfl, fun w' hSw => ?_⟩; (try dsimp only at hSw); go_simp; try with_reducible rfl
                    simp only [Act.put, List.setIfInBounds_toArray, List.set_cons_zero, List.set_cons_succ]
                    refine takeH (i := 5) (some 70) (v := ?_) rfl (by kernel_rfl) (by kernel_rfl) (by kernel_rfl) (fun _ _ _ h => h) hS0 (fun o ho => ?_) ?_
                    rotate_left
                    · simp only [List.getElem?_toArray, List.getElem?_cons_zero, List.getElem?_cons_succ, Option.some.injEq] at ho; subst ho; refine Or.inl ⟨by rfl, fun w' hSw => ?_⟩; (try dsimp only at hSw); go_simp; try with_reducible rfl
                    simp only [Act.put, List.setIfInBounds_toArray, List.set_cons_zero, List.set_cons_succ]
                    refine takeH (i := 6) (some 71) (v := ?_) rfl (by kernel_rfl) (by kernel_rfl) (by kernel_rfl) (fun _ _ _ h => h) hS0 (fun o ho => ?_) ?_
                    rotate_left
                    · simp only [List.getElem?_toArray, List.getElem?_cons_zero, List.getElem?_cons_succ, Option.some.injEq] at ho; subst ho; refine Or.inl ⟨by rfl, fun w' hSw => ?_⟩; (try dsimp only at hSw); go_simp; try with_reducible rfl
                    simp only [Act.put, List.setIfInBounds_toArray, List.set_cons_zero, List.set_cons_succ]
                    refine takeH (i := 7) (some 72) (v := ?_) rfl (by kernel_rfl) (by kernel_rfl) (by kernel_rfl) (fun _ _ _ h => h) hS0 (fun o ho => ?_) ?_
                    rotate_left
                    · simp only [List.getElem?_toArray, List.getElem?_cons_zero, List.getElem?_cons_succ, Option.some.injEq] at ho; subst ho; refine Or.inl ⟨by rfl, fun w' hSw => ?_⟩; (try dsimp only at hSw); go_simp; try with_reducible rfl
                    simp only [Act.put, List.setIfInBounds_toArray, List.set_cons_zero, List.set_cons_succ]
                    refine oneH (i := 8) (by kernel_rfl) (fun o ho K' hK => ?_)
                    simp only [List.getElem?_toArray, List.getElem?_cons_zero, List.getElem?_cons_succ, Option.some.injEq] at ho; subst ho
                    go_simp
                    have hb8 : Below wC.heap.size wC (wC.alloc (.cells #[.int .i64 (q : Int)] 3)).drew := ((Below.refl _ wC).alloc (Nat.le_refl _) _).drew
                    refine hK.out _ _ (by rw [← hvs]; exact hS _ hb8) ?_
                    clear hK K'
                    refine oneH (i := 9) (by kernel_rfl) (fun o ho K' hK => ?_)
                    simp only [List.getElem?_toArray, List.getElem?_cons_zero, List.getElem?_cons_succ, Option.some.injEq] at ho; subst ho
                    refine step_append_lies _ (by rfl) _ _ _ (by rfl) (N + 3) 3 i0 (.int .i64 0) 1 8 Try.underlying34 HI.out.1 HI.out.2.1 HI.out.2.2.1 HI.out.2.2.2 rfl (by decide) (.slice Av l.length cv) _ _ (by rfl) (by rw [← hvs]; exact HOW.out.alloc _)
                      ⟨wC.heap.size, 0, none⟩ 1 1 [.int .i64 (q : Int)] (by rfl) (by rfl) (news_one_add wC _ _ rfl) (ints_oneCell .i64 [(q : Int)]) (by decide) (by unfold maxLen; omega) (by omega) (by simp; omega) (wC.heap.size + 1) (by simp) ?_
                    intro g cap w7 hown7 hgrow7 hloc7 hlt7
                    rw [← hvs] at hgrow7 hloc7
                    have hgd : GroD wC w7 (V3 f) (.slice (some ⟨g, 0, none⟩) (l.length + 1) cap) := groD_drew (groD_append hgrow7 hloc7)
                    have hMN := HMC.out.push (t := f) (l := l ++ [q]) hf hgd (by
                      show w7.ownsRow (w.heap.size + 3) 3 1 _ (l ++ [q]).length (natV (l ++ [q]))
                      rw [natV_snoc, List.length_append, ← HNN.out]; exact hown7)
                    have hMN2 : CpM w n (.slice Am n cm) (updN V3 f (.slice (some ⟨g, 0, none⟩) (l.length + 1) cap)) (updN (fun i => if i < f then cF m i else []) f (accC n (insP x k ++ kb.ins.take (j + 1)))) (updN LA3 q f1) (w7.setCell ⟨N + 1, f, none⟩ (.slice (some ⟨g, 0, none⟩) (l.length + 1) cap)) := by
                      rw [HNEW.out, HNN.out]
                      refine hMN.congr (fun i _ => ?_) (fun _ _ => rfl)
                      by_cases e : i = f
                      · rw [e, updN_here, updN_here]
                      · rw [updN_else _ _ e, updN_else _ _ e, updN_else _ _ e]
                    have HMN := Lib.hid hMN2
                    have HLN : Hid (∀ g, g < n → updN LA3 q f1 g ≤ f + 1 ∧ (updN LA3 q f1 g = f + 1 ↔ g ∈ accC n (insP x k ++ kb.ins.take (j + 1)))) := Lib.hid (fun z hz => by
                      rw [HNEW.out]
                      by_cases e : z = q
                      · rw [e, updN_here]
                        exact ⟨by rw [HF1.out]; exact Nat.le_refl _, fun _ => by simp, fun _ => HF1.out⟩
                      · rw [updN_else _ _ e]
                        refine ⟨(HLA3.out z hz).1, (HLA3.out z hz).2.trans ⟨fun h => List.mem_append_left _ h, fun h => ?_⟩⟩
                        rcases List.mem_append.1 h with h | h
                        · exact h
                        · exact absurd (List.mem_singleton.1 h) e)
                    have hno : ∀ b, b < N + 3 → (V3 f).ownBlock ≠ some b := fun b hb e => by have := (HOW.out.lt b e).1; omega
                    have hb7 : ∀ b, b < N + 3 → w7.heap[b]? = wC.heap[b]? := fun b hb => hgd.block b (by omega) (hno b hb)
                    have hS7 : w7.cell? ⟨N + 1, f, none⟩ = some (.slice Av l.length cv) ∧ w7.cell? ⟨D, 4, none⟩ = some (.int .i64 (q : Int)) := ⟨(World.cell?_of_block (hb7 (N + 1) (by omega))).trans (by rw [r2, hvs]), by
                      refine (World.cell?_of_block (a := ⟨D, 4, none⟩) ?_).trans g4'
                      refine hgd.block D hDsz fun e => ?_
                      have h9 := HOW.out.2
                      rcases h9 with ⟨h9, _⟩ | ⟨g9, c9, cur9, h9, h10, h11, -⟩
                      · rw [h9] at e; cases e
                      · rw [h9] at e
                        have e9 : g9 = D := Option.some.inj e
                        rw [e9] at h11
                        have h12 := HDB.out
                        rw [h11] at h12
                        exact absurd h12 (by simp)⟩
                    have hfz7 : w7.frozen? ⟨N + 1, f, none⟩ = false := (World.frozen?_of_block (a := ⟨N + 1, f, none⟩) (hb7 (N + 1) (by omega))).trans r3
                    refine hK.out _ _ hS7 ?_
                    clear hK K' hMN hMN2 hgd hown7 hgrow7 hloc7 hb7 hno
                    try simp only [Act.put, List.setIfInBounds_toArray, List.set_cons_zero, List.set_cons_succ]
                    refine takeH (i := 10) (some 75) (v := ?_) rfl (by kernel_rfl) (by kernel_rfl) (by kernel_rfl) (fun _ _ _ h => h) hS7 (fun o ho => ?_) ?_
                    rotate_left
                    · simp only [List.getElem?_toArray, List.getElem?_cons_zero, List.getElem?_cons_succ, Option.some.injEq] at ho; subst ho; refine Or.inl ⟨by rfl, fun w' hSw => ?_⟩; (try dsimp only at hSw); go_simp; try with_reducible rfl
                    simp only [Act.put, List.setIfInBounds_toArray, List.set_cons_zero, List.set_cons_succ]
                    refine wpAnyH_done (by kernel_rfl) ?_ _
                    refine lastH (by decide) (fun o ho K' hK => ?_)
                    simp only [List.getElem?_toArray, List.getElem?_cons_zero, List.getElem?_cons_succ, Option.some.injEq] at ho; subst ho
                    have hcg7 := hS7.1
                    go_simp
                    refine hK.out _ _ ?_
                    clear hK K' hS7 hfz7 hcg7 hS hS0 r2 r3 hvs g4'
                    go_wp2_with fail
                    go_roundw
                    case rel => exact ⟨j + 1, _, _, by omega, by go_num, HMN.out, HLN.out⟩
                    case measure => simp [intOf]; omega
                · have hdin : decide (0 ≤ y.fn ∧ y.fn < (n : Int)) = false := decide_eq_false hin
                  have HSAME : Hid (accC n (insP x k ++ kb.ins.take (j + 1)) = l) := Lib.hid (by
                    rw [HTK.out, accC_snoc, ← HL.out]
                    unfold accS
                    rw [if_neg (fun h => hin ⟨h.1.2.1, h.1.2.2⟩)])
                  clear hMB hop hin
                  go_wp2_with (go_at_call 32; refine (isAtC_any _ _ _).mono ?_; rw [hdin]; rintro e w5 ⟨rfl, rfl⟩)
                  go_roundw
                  case rel => exact ⟨j + 1, V3, LA3, by omega, by go_num, by rw [HSAME.out]; exact HMB.out, by rw [HSAME.out]; exact HLA3.out⟩
                  case measure => simp [intOf]; omega
              · have hopb : (y.op == (17 : Int)) = false := by simp; exact hop
                have HSAME : Hid (accC n (insP x k ++ kb.ins.take (j + 1)) = l) := Lib.hid (by
                  rw [HTK.out, accC_snoc, ← HL.out]
                  unfold accS
                  rw [if_neg (fun h => hop h.1.1)])
                clear hMB
                go_wp2_with fail
                go_roundw
                case rel => exact ⟨j + 1, V3, LA3, by omega, by go_num, by rw [HSAME.out]; exact HMB.out, by rw [HSAME.out]; exact HLA3.out⟩
                case measure => simp [intOf]; omega
            · obtain rfl : j = kb.ins.length := by omega
              have HN2 : Hid (CpM w n (.slice Am n cm) V3 (updN (fun i => if i < f then cF m i else []) f (accC n (insP x (k + 1)))) LA3 wj ∧ ∀ g, g < n → LA3 g ≤ f + 1 ∧ (LA3 g = f + 1 ↔ g ∈ accC n (insP x (k + 1)))) := Lib.hid (by
                rw [List.take_length] at hM hLA3
                rw [insP_succ HKB.out]; exact ⟨hM, hLA3⟩)
              clear hM hLA3
              go_wp2_with fail
              go_roundw
              case rel => exact ⟨k + 1, V3, LA3, by omega, by go_num, HN2.out.1, HN2.out.2⟩
              case measure => simp [intOf]; omega
        · obtain rfl : k = x.blocks.length := by omega
          rw [insP_all] at hM hLA2
          have hacl := accC_len n (insF x)
          have how : wk.ownsRow (w.heap.size + 3) 3 1 (V2 f) (accC n (insF x)).length (natV (accC n (insF x))) := by
            have h1 := hM.pool.own f hf
            have h2 : updN (fun i => if i < f then cF m i else []) f (accC n (insF x)) f = accC n (insF x) := updN_here _ _ _
            rw [h2] at h1
            exact h1
          have hsort := sortInts_any how (by omega) (fun z hz => by have := accC_lt hz; omega)
          have r2 := hM.gr.cell hf
          rw [← HNN.out] at r2
          have HMK := Lib.hid hM
          have HLK := Lib.hid hLA2
          have HSO := Lib.hid hsort
          clear hM hLA2 how hsort hacl
          go_wp2_with (go_at_call 33; refine HSO.out.mono ?_; rintro e w5 ⟨rfl, hgd5, hown5⟩)
          have hM5 := HMK.out.sorted (l := sortN (accC n (insF x))) hf hgd5 (by
            show w5.ownsRow _ 3 1 _ (sortN (accC n (insF x))).length (natV (sortN (accC n (insF x))))
            rw [sortN_len]; exact hown5)
          have hM6 : CpM w n (.slice Am n cm) V2 (fun i => if i < f + 1 then cF m i else []) LA2 w5 := by
            refine hM5.congr (fun i _ => ?_) (fun _ _ => rfl)
            by_cases e : i = f
            · subst e
              rw [updN_here, if_pos (by omega), HN.out, cF_sort HXF.out]
            · rw [updN_else _ _ e, updN_else _ _ e]
              by_cases e2 : i < f
              · rw [if_pos e2, if_pos (by omega)]
              · rw [if_neg e2, if_neg (by omega)]
          have HM6 := Lib.hid hM6
          have HLQ : Hid (∀ g, g < n → LA2 g ≤ f + 1) := Lib.hid (fun g hg => (HLK.out g hg).1)
          clear hM5 hM6 hgd5 hown5 r2
          go_roundw
          case rel => exact ⟨f + 1, V2, fun g => if g < n then LA2 g else 0, by omega, by go_num, HM6.out.congr (fun _ _ => rfl) (fun i hi => by rw [if_pos hi]), fun g => by
            show (if g < n then LA2 g else 0) ≤ f + 1
            by_cases e : g < n
            · rw [if_pos e]; exact HLQ.out g e
            · rw [if_neg e]; omega⟩
          case measure => simp [intOf]; omega
    · obtain rfl : f = n := by omega
      have hCM : CallsM wL f (w.heap.size + 1) V (cF m) := ⟨hM.gr, fun i hi => by
        have h1 := hM.pool.own i hi
        have h2 : wL.ownsRow (w.heap.size + 3) 3 1 (V i) (cF m i).length (natV (cF m i)) := by
          simp only [if_pos hi] at h1
          exact h1
        rw [← natI_v, ← natI_len] at h2
        exact vs_of_own h2 (fun x hx => by
          unfold natI at hx
          obtain ⟨y, hy, rfl⟩ := List.mem_map.1 hx
          have := cF_lt i y hy
          rw [← HN.out] at this
          unfold I64; omega)⟩
      have HCM := Lib.hid hCM
      have HBL := Lib.hid hM.bel
      clear hM hLA hCM
      go_wp2_with fail
      go_ret
      refine ⟨w.heap.size + 1, V, by rw [← HN.out, ← HNN.out]; rfl, by omega, ?_, HBL.out⟩
      rw [← HN.out]; exact HCM.out
end Go.Proofs.Ytdfiflbkamhchaa

/- The document's Calls; a square of truths in memory. -/
namespace Go.Proofs.Ytdfiflbkamhchaa
open Go.ChangeShapes Go.WideShapes Go.RowKit Go.Deep
set_option linter.unusedVariables false

theorem callB_of {f : FunD} {b : Nat} {y : InsD} (h : y ∈ insF f) (h1 : y.op = 17) (h2 : y.fn = (b : Int)) : callB f b = true := callB_iff.2 ⟨y, h, h1, h2⟩
theorem callB_no {f : FunD} {b : Nat} (h : ∀ y ∈ insP f f.blocks.length, ¬ (y.op = 17 ∧ y.fn = (b : Int))) : callB f b = false := by
  cases hc : callB f b with
  | false => rfl
  | true =>
    obtain ⟨y, h1, h2⟩ := callB_iff.1 hc
    exact absurd h2 (h y (by unfold insP; rw [List.take_length]; exact h1))
theorem insP_in {f : FunD} {k : Nat} {kb : BlkD} {y : InsD} (h : f.blocks[k]? = some kb) (hy : y ∈ kb.ins) : y ∈ insF f := List.mem_flatMap.2 ⟨kb, List.mem_of_getElem? h, hy⟩
theorem insP_next {f : FunD} {k : Nat} {kb : BlkD} (h : f.blocks[k]? = some kb) : insP f (k + 1) = insP f k ++ kb.ins := by
  unfold insP
  rw [take_succ_of h, List.flatMap_append]; simp

set_option maxRecDepth 100000 in
set_option maxHeartbeats 8000000 in
theorem refCalls_any (m : List FunD) (v : Value) (w : World) (hv : VMod w v m) (hsm : SmallM m) {a b : Nat} {f : FunD} (hf : m[a]? = some f) (hb : b ≤ 1000) :
    Calls Try.prog 21 #[v, .int .i64 (a : Int), .int .i64 (b : Int)] w fun e w' => e = .returned (.bool (callB f b)) ∧ Below w.heap.size w w' := by
  obtain ⟨Am, cm, rfl, hm⟩ := hv
  have hal := (List.getElem?_eq_some_iff.1 hf).1
  have hnl := hsm.1
  obtain ⟨n, hn⟩ : ∃ n, n = m.length := ⟨_, rfl⟩
  have HN := Lib.hid hn
  obtain ⟨b0, o0, x, rfl, hF, ⟨-, -⟩, ⟨-, -⟩, -, ⟨Ab, cb, x3, z3⟩⟩ := hm.at_ (k := a) hal
  obtain rfl : x = f := by have := hF.out; rw [hf] at this; exact (Option.some.inj this).symm
  have hsx := hsm.2 x (List.mem_of_getElem? hf)
  have hnb := hsx.1
  have HSX := Lib.hid hsx
  have HBS := Lib.hid z3
  have HX3 := Lib.hid x3
  rw [← hn] at hal hnl ⊢
  clear hm hsm hsx z3 x3 hF hf hn
  go_enter Try.func21, Try.ntmps21
  go_upto_region 1 with fail
  obtain ⟨w1, hw1, hs1, hk1, hbel1, hc1, -⟩ := named w #[.slice (some ⟨b0, o0, none⟩) n cm] 24
  rw [← hw1]
  have c0 : w1.cell? ⟨w.heap.size, 0, none⟩ = some (.slice (some ⟨b0, o0, none⟩) n cm) := hc1 0 _ rfl
  have HB1 := Lib.hid hbel1
  have HK1 := Lib.hid hk1
  have d3 := hk1 _ _ HX3.out
  obtain ⟨N, hN⟩ : ∃ N, N = w.heap.size := ⟨_, rfl⟩
  rw [← hN] at c0 ⊢
  have ha0 : (0 : Int) ≤ a := by omega
  have ha1 : (a : Int) < n := by omega
  clear hw1 hs1 hk1 hc1 hbel1 hN
  go_upto_region 2 with fail
  go_loopw [7] (fun s7 wq => ∃ k : Nat, k ≤ x.blocks.length ∧ s7 = .int .i64 (k : Int) ∧ (∀ y ∈ insP x k, ¬ (y.op = 17 ∧ y.fn = (b : Int))) ∧ wq = w1) (fun s7 _ => x.blocks.length - (intOf s7).toNat)
  case atStart => exact ⟨0, Nat.zero_le _, rfl, by simp [insP], rfl⟩
  case round =>
    obtain ⟨k, hk, rfl, hno, hw⟩ := hrel
    obtain rfl : w1 = wr := hw.symm
    have HNO := Lib.hid hno
    by_cases hkl : k < x.blocks.length
    · obtain ⟨bk, ok, kb, rfl, hB, ⟨A1, a1, y0, -⟩, ⟨A2, a2, y1, hs2⟩, y2, y3, A3, a3, y4, -⟩ := HBS.out.at_ hkl
      have k1 := HK1.out _ _ y1
      have HIS := Lib.hid hs2
      have HKB := Lib.hid hB.out
      have hil := (HSX.out.2.2.2 kb (List.mem_of_getElem? hB.out)).1
      have hki0 : (0 : Int) ≤ k := by omega
      have hki1 : (k : Int) < x.blocks.length := by omega
      clear hno y0 y1 y2 y3 y4 hs2 hB
      go_upto_region 6 with fail
      clear k1
      go_loopw [9] (fun s9 wq => ∃ j : Nat, j ≤ kb.ins.length ∧ s9 = .int .i64 (j : Int) ∧ (∀ y ∈ kb.ins.take j, ¬ (y.op = 17 ∧ y.fn = (b : Int))) ∧ wq = w1) (fun s9 _ => kb.ins.length - (intOf s9).toNat)
      case atStart => exact ⟨0, Nat.zero_le _, rfl, by simp, rfl⟩
      case round =>
        obtain ⟨j, hj, rfl, hno, hw⟩ := hrel
        obtain rfl : w1 = wr := hw.symm
        have HNO2 := Lib.hid hno
        by_cases hjl : j < kb.ins.length
        · obtain ⟨bi, oi, y, rfl, hY, h0, h1, ⟨A5, a5, h2, -⟩, h3, h4⟩ := HIS.out.at_ hjl
          have d0 := HK1.out _ _ h0.1
          have d4 := HK1.out _ _ h4.1
          have HY := Lib.hid hY.out
          have hj0 : (0 : Int) ≤ j := by omega
          have hj1 : (j : Int) < kb.ins.length := by omega
          clear hno h0 h1 h2 h3 h4 hY
          by_cases hop : y.op = 17
          · rw [hop] at d0
            by_cases hfn : y.fn = (b : Int)
            · have hy : callB x b = true := callB_of (insP_in HKB.out (List.mem_of_getElem? HY.out)) hop hfn
              rw [hfn] at d4
              clear hop hfn
              go_wp2_with fail
              go_ret
              exact ⟨rfl, HB1.out⟩
            · have hd : (y.fn == (b : Int)) = false := by simpa using hfn
              have HNX : Hid (∀ z ∈ kb.ins.take (j + 1), ¬ (z.op = 17 ∧ z.fn = (b : Int))) := Lib.hid (fun z hz => by
                rw [take_succ_of HY.out] at hz
                rcases List.mem_append.1 hz with h | h
                · exact HNO2.out z h
                · rw [List.mem_singleton.1 h]; exact fun h2 => hfn h2.2)
              clear hop
              go_wp2_with fail
              go_roundw
              case rel => exact ⟨j + 1, by omega, by go_num, HNX.out, trivial⟩
              case measure => simp [intOf]; omega
          · have hd : (y.op == (17 : Int)) = false := by simpa using hop
            have HNX : Hid (∀ z ∈ kb.ins.take (j + 1), ¬ (z.op = 17 ∧ z.fn = (b : Int))) := Lib.hid (fun z hz => by
              rw [take_succ_of HY.out] at hz
              rcases List.mem_append.1 hz with h | h
              · exact HNO2.out z h
              · rw [List.mem_singleton.1 h]; exact fun h2 => hop h2.1)
            go_wp2_with fail
            go_roundw
            case rel => exact ⟨j + 1, by omega, by go_num, HNX.out, trivial⟩
            case measure => simp [intOf]; omega
        · obtain rfl : j = kb.ins.length := by omega
          have HNX : Hid (∀ z ∈ insP x (k + 1), ¬ (z.op = 17 ∧ z.fn = (b : Int))) := Lib.hid (fun z hz => by
            rw [insP_next HKB.out] at hz
            rcases List.mem_append.1 hz with h | h
            · exact HNO.out z h
            · exact HNO2.out z (by rw [List.take_length]; exact h))
          clear hno
          go_wp2_with fail
          go_roundw
          case rel => exact ⟨k + 1, by omega, by go_num, HNX.out, trivial⟩
          case measure => simp [intOf]; omega
    · obtain rfl : k = x.blocks.length := by omega
      have hy : callB x b = false := callB_no hno
      clear hno
      go_wp2_with fail
      go_ret
      exact ⟨rfl, HB1.out⟩

/-- A square of truths, to be read. -/
def MtR (W : World) (n : Nat) (v : Value) (M : Nat → Nat → Bool) : Prop :=
  ∃ A c, v = .slice A n c ∧ ∀ i, i < n → ∃ g h, A = some ⟨g, 0, none⟩ ∧ W.cell? ⟨g, i, none⟩ = some (.slice (some ⟨h, 0, none⟩) n n) ∧ ∀ j, j < n → W.cell? ⟨h, j, none⟩ = some (.bool (M i j))
theorem MtR.keep {W W' : World} {n : Nat} {v : Value} {M : Nat → Nat → Bool} (h : MtR W n v M) (hk : Kept W W') : MtR W' n v M := by
  obtain ⟨A, c, e, h1⟩ := h
  refine ⟨A, c, e, fun i hi => ?_⟩
  obtain ⟨g, q, e1, e2, e3⟩ := h1 i hi
  exact ⟨g, q, e1, hk _ _ e2, fun j hj => hk _ _ (e3 j hj)⟩
theorem MtR.at_ {W : World} {n c g : Nat} {M : Nat → Nat → Bool} (h : MtR W n (.slice (some ⟨g, 0, none⟩) n c) M) {i : Nat} (hi : i < n) : ∃ q, W.cell? ⟨g, i, none⟩ = some (.slice (some ⟨q, 0, none⟩) n n) ∧ ∀ j, j < n → W.cell? ⟨q, j, none⟩ = some (.bool (M i j)) := by
  obtain ⟨A, c', e, h1⟩ := h
  obtain ⟨g', q, e1, e2, e3⟩ := h1 i hi
  simp only [Value.slice.injEq] at e
  rw [← e.1] at e1
  simp only [Option.some.injEq, Addr.mk.injEq, and_true] at e1
  subst e1
  exact ⟨q, e2, e3⟩
end Go.Proofs.Ytdfiflbkamhchaa
