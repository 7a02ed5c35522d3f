/- The program's reachedAhead: of each block those that are reached and lead to it. -/
import Derived.Test.YtooblmiffgjmjaaDmF
namespace Go.Proofs.Ytooblmiffgjmjaa
open Go.ChangeShapes Go.WideShapes Go.RowKit Go.Deep
set_option linter.unusedVariables false

def raL (bs : List BlkD) (k b : Nat) : List Nat := (List.range k).filter fun c => reachF bs c && decide (b ∈ nxF bs c)
def raJ (bs : List BlkD) (k j b : Nat) : List Nat := raL bs k b ++ (if b ∈ (nxF bs k).take j then [k] else [])
theorem raL_zero (bs : List BlkD) (b : Nat) : raL bs 0 b = [] := rfl
theorem raL_succ (bs : List BlkD) (k b : Nat) : raL bs (k + 1) b = raL bs k b ++ (if (reachF bs k && decide (b ∈ nxF bs k)) = true then [k] else []) := by
  unfold raL
  rw [List.range_succ, List.filter_append]
  congr 1
  by_cases h : (reachF bs k && decide (b ∈ nxF bs k)) = true
  · rw [if_pos h]; simp [h]
  · rw [if_neg h]; simp [h]
theorem raL_not {bs : List BlkD} {k : Nat} (h : reachF bs k = false) (b : Nat) : raL bs k b = raL bs (k + 1) b := by rw [raL_succ, h]; simp
theorem raJ_zero (bs : List BlkD) (k b : Nat) : raL bs k b = raJ bs k 0 b := by unfold raJ; simp
theorem raJ_all {bs : List BlkD} {k j : Nat} (h : reachF bs k = true) (hj : (nxF bs k).length ≤ j) (b : Nat) : raJ bs k j b = raL bs (k + 1) b := by
  unfold raJ; rw [raL_succ, h, List.take_of_length_le hj]; simp
theorem nxF_nodup (bs : List BlkD) (k : Nat) : (nxF bs k).Nodup := by
  unfold nxF; split
  · exact nextN_nodup _ _
  · simp
theorem raJ_step {bs : List BlkD} {k j t : Nat} (ht : (nxF bs k)[j]? = some t) (b : Nat) : (if b = t then raJ bs k j t ++ [k] else raJ bs k j b) = raJ bs k (j + 1) b := by
  have hnd := nxF_nodup bs k
  have hnot : t ∉ (nxF bs k).take j := fun hm => by
    obtain ⟨i, hi, he⟩ := List.mem_iff_getElem.1 hm
    have hi' : i < j := by simp at hi; omega
    have hjl := (List.getElem?_eq_some_iff.1 ht).1
    rw [List.getElem_take] at he
    have := (List.getElem?_eq_some_iff.1 ht).2
    exact List.pairwise_iff_getElem.1 hnd i j (by omega) hjl hi' (he.trans this.symm)
  unfold raJ
  rw [take_succ_of ht]
  by_cases e : b = t
  · subst e; rw [if_pos rfl, if_neg hnot, if_pos (by simp)]; simp
  · rw [if_neg e]
    congr 1
    by_cases hm : b ∈ (nxF bs k).take j
    · rw [if_pos hm, if_pos (by simp [hm])]
    · rw [if_neg hm, if_neg (by simp [hm, e])]
theorem raL_len (bs : List BlkD) (k b : Nat) : (raL bs k b).length ≤ k := by unfold raL; exact Nat.le_trans (List.length_filter_le _ _) (by simp)
theorem raL_lt {bs : List BlkD} {k b c : Nat} (h : c ∈ raL bs k b) : c < k ∧ reachF bs c = true ∧ b ∈ nxF bs c := by
  unfold raL at h
  rw [List.mem_filter, List.mem_range, Bool.and_eq_true, decide_eq_true_iff] at h
  exact h
/-- A row of rows of the call's own that grows: what else changes is new. -/
theorem Gri.frX {w w4 w' : World} {G K n t : Nat} {V : Nat → Value} {L : Nat → List Int} (h : Gri w4 G K n V L) (ht : t < n) (hf : FrX (fun b => b = G) w w4) (hK : w.heap.size ≤ K) {g cap m : Nat} {o : Obj} (hg : (w4.alloc o).grownBy w' (V t).ownBlock) : FrX (fun b => b = G) w (w'.setCell ⟨G, t, none⟩ (.slice (some ⟨g, 0, none⟩) m cap)) :=
  ((hf.alloc o).grown hg (fun b hb => .inr (by have := ((h.own t ht).lt b hb).1; omega))).setCell (.inl rfl) _
def ToldRA (bs : List BlkD) (w : World) (e : Ending) (w' : World) : Prop :=
  (∃ G K V, e = .returned (.slice (some ⟨G, 0, none⟩) bs.length bs.length) ∧ w.heap.size ≤ G ∧ Gri w' G K bs.length V (fun b => zs (raL bs bs.length b))) ∧ Below w.heap.size w w'

set_option maxRecDepth 100000 in
set_option maxHeartbeats 8000000 in
theorem reachedAhead_any (f : FunD) (v : Value) (w : World) (hv : VFun w v f) (hn : f.blocks.length ≤ 1000) : Calls Try.prog 42 #[v] w (ToldRA f.blocks w) := by
  have hv0 := hv
  obtain ⟨i0, hi, hz0, hz1, hz2⟩ := info_parts Try.info3
  have HI := Lib.hid (And.intro hi (And.intro hz0 (And.intro hz1 hz2)))
  clear hi hz0 hz1 hz2
  obtain ⟨Ar, cr, A, c, rfl, -, -, -, -⟩ := hv
  have HV := Lib.hid hv0
  go_enter Try.func42, Try.ntmps42
  go_upto_region 1 with fail
  obtain ⟨w1, hw1, hs1, hk1, hbel1, hc1, -⟩ := named w #[.int .i64 f.params, .int .i64 f.result, .slice Ar f.regs.length cr, .slice A f.blocks.length c] 25
  rw [← hw1]
  have c0 : w1.cell? ⟨w.heap.size, 0, none⟩ = some (.int .i64 f.params) := hc1 0 _ rfl
  have c1 : w1.cell? ⟨w.heap.size, 1, none⟩ = some (.int .i64 f.result) := hc1 1 _ rfl
  have c2 : w1.cell? ⟨w.heap.size, 2, none⟩ = some (.slice Ar f.regs.length cr) := hc1 2 _ rfl
  have c3 : w1.cell? ⟨w.heap.size, 3, none⟩ = some (.slice A f.blocks.length c) := hc1 3 _ rfl
  have HC := Lib.hid (And.intro c0 (And.intro c1 (And.intro c2 c3)))
  have HB1 := Lib.hid hbel1
  have HS1 := Lib.hid hs1
  have HN := Lib.hid (next_any f _ w1 (VFun.keep hk1 hv0) (by omega))
  clear hw1 hs1 hbel1 hc1 hv0 hk1
  go_wp2_with fail
  refine HN.out.mono ?_
  rintro e w2 ⟨⟨V1, G1, rfl, hG1, hg1⟩, hb2⟩
  have HB2 : Hid (Below w1.heap.size w1 w2) := Lib.hid hb2
  have hG1l : G1 < w2.heap.size := hg1.row.lt
  have HG1 := Lib.hid (hg1.reads (by omega) (fun i hi x hx => by obtain ⟨q, hq, rfl⟩ := zs_mem hx; have := nxF_lt f.blocks i q hq; unfold I64; omega))
  have hmk := run_make_row' (P := Try.prog) 35 22 (.slice none 0 0) 24 Try.underlying35 Try.info22 rfl .i64 .i64 f.blocks.length (by omega) (by omega)
  have hk2 : ∀ i, w2.cell? ⟨w.heap.size, i, none⟩ = w1.cell? ⟨w.heap.size, i, none⟩ := fun i => hb2.cell (p := ⟨w.heap.size, i, none⟩) (by have := HS1.out; show w.heap.size < _; omega)
  have hN2 : w.heap.size < w2.heap.size := by have := hb2.size; have := HS1.out; omega
  clear c0 c1 c2 c3 hG1 hg1 hb2 HN
  go_upto_region 3 with fail
  clear hmk
  obtain ⟨G, hG⟩ : ∃ G, G = w2.heap.size := ⟨_, rfl⟩
  obtain ⟨w4, hw4⟩ : ∃ w4, w4 = w2.alloc (.cells (madeCells #[.slice none 0 0] f.blocks.length) 22) := ⟨_, rfl⟩
  have hb4 : Below w2.heap.size w2 w4 := by rw [hw4]; exact (Below.refl _ _).alloc (Nat.le_refl _) _
  have HGM : Hid (∀ K, G < K → Gri w4 G K f.blocks.length (fun _ => .slice none 0 0) (fun _ => [])) := Lib.hid (fun K hK => by rw [hw4]; exact Gri.made w2 G K _ hG hK)
  have hG4 : G < w4.heap.size := by rw [hw4, hG]; simp
  have HB4 : Hid (Below w1.heap.size w1 w4) := Lib.hid (HB2.out.trans (hb4.mono HB2.out.size))
  have HGG : Hid (w1.heap.size ≤ G ∧ w2.heap.size = G) := Lib.hid ⟨by rw [hG]; exact HB2.out.size, hG.symm⟩
  have HSG := Lib.hid hb4
  have HGS : Hid (G1 < G) := Lib.hid (by omega)
  have hk4 : ∀ i, w4.cell? ⟨w.heap.size, i, none⟩ = w1.cell? ⟨w.heap.size, i, none⟩ := fun i => (hb4.cell (p := ⟨w.heap.size, i, none⟩) hN2).trans (hk2 i)
  have c0 := (hk4 0).trans HC.out.1
  have c1 := (hk4 1).trans HC.out.2.1
  have c2 := (hk4 2).trans HC.out.2.2.1
  have c3 := (hk4 3).trans HC.out.2.2.2
  have HB4w : Hid (Below w.heap.size w w4) := Lib.hid (HB1.out.trans (HB4.out.mono (by have := HS1.out; omega)))
  have HRE := Lib.hid (reached_any f _ w4 (VFun.keep (kept_of_below HB4w.out) HV.out) hn)
  rw [← hw4, ← hG]
  clear hw4 hG hk2 hk4 hb4 hN2
  go_wp2_with fail
  refine HRE.out.mono ?_
  rintro e w6 ⟨⟨R, rfl, hR, hrr⟩, hb6⟩
  have hg6 := (HGM.out w6.heap.size (by have := hb6.size; omega)).of_blocks (w' := w6) (hb6.block G hG4) (fun g h1 h2 => by have := hb6.size; omega)
  have HG6 := Lib.hid (hg6.congr (L' := fun b => zs (raL f.blocks 0 b)) fun i _ => rfl)
  have HRR := Lib.hid hrr
  have HRG : Hid (G < R) := Lib.hid (by omega)
  have HN6 : Hid (SL w6 1 RRow (some ⟨G1, 0, none⟩) f.blocks.length ((List.range f.blocks.length).map fun i => zs (nxF f.blocks i))) := Lib.hid (by
    have hkk : Kept w2 w6 := (kept_of_below HSG.out).trans (kept_of_below hb6)
    exact SL.keep hkk (RRow.keep hkk) HG1.out)
  have HB6 : Hid (Below w.heap.size w w6) := Lib.hid (HB4w.out.trans (hb6.mono HB4w.out.size))
  have hR6 : R < w6.heap.size := hrr.lt
  have HN2 : Hid (∀ w', FrX (fun b => b = G) w6 w' → SL w' 1 RRow (some ⟨G1, 0, none⟩) f.blocks.length ((List.range f.blocks.length).map fun i => zs (nxF f.blocks i))) := Lib.hid (fun w' hf => by
    have hkk : Below w2.heap.size w2 w' := (HSG.out.trans (hb6.mono HSG.out.size)).trans (hf.below (by have := HSG.out.size; have := hb6.size; omega) (fun b hb => by have := HGG.out.2; omega))
    exact SL.keep (kept_of_below hkk) (RRow.keep (kept_of_below hkk)) HG1.out)
  have HGW : Hid (w.heap.size ≤ G ∧ G < w6.heap.size) := Lib.hid (by have := HGG.out.1; have := HS1.out; have := hb6.size; omega)
  clear hg6 hrr hb6 hR c0 c1 c2 c3 HRE
  go_wp2_with fail
  go_loopw [17] (fun s17 wq => ∃ (k : Nat) (V : Nat → Value), k ≤ f.blocks.length ∧ s17 = .int .i64 (k : Int) ∧ Gri wq G w6.heap.size f.blocks.length V (fun b => zs (raL f.blocks k b)) ∧ FrX (fun b => b = G) w6 wq) (fun s17 _ => f.blocks.length - (intOf s17).toNat)
  case atStart => exact ⟨0, _, Nat.zero_le _, rfl, HG6.out, FrX.refl _ _⟩
  case round =>
    obtain ⟨k, V, hk, rfl, hg, hfr⟩ := hrel
    obtain ⟨wo, rfl⟩ : ∃ wo, wo = wr := ⟨wr, rfl⟩
    have HG := Lib.hid hg
    have HFR := Lib.hid hfr
    by_cases hkn : k < f.blocks.length
    · have xr := (HRR.out.of_block (hfr.block R hR6 (by have := HRG.out; omega))).cell hkn
      have hk0 : (0 : Int) ≤ k := by omega
      have hk1 : (k : Int) < f.blocks.length := by omega
      cases hre : reachF f.blocks k
      · have HN3 := Lib.hid (hg.congr (L' := fun b => zs (raL f.blocks (k + 1) b)) fun b _ => by rw [raL_not hre])
        rw [hre] at xr
        clear hg hfr hre
        go_wp2_with fail
        go_roundw
        case rel => exact ⟨k + 1, V, by omega, by go_num, HN3.out, HFR.out⟩
        case measure => simp [intOf]; omega
      · rw [hre] at xr
        have HRK := Lib.hid hre
        obtain ⟨bg, og, l, hbo, hl, hcs⟩ := (HN2.out wo hfr).at_ (k := k) (by simp; exact hkn)
        simp only [Option.some.injEq, Addr.mk.injEq, and_true] at hbo
        obtain ⟨rfl, rfl⟩ := hbo
        have hlz : l = zs (nxF f.blocks k) := (map_range_at _ hl.out).1
        subst hlz
        obtain ⟨A2, c2, hcA, hslA⟩ := hcs
        have hcA : wo.cell? ⟨G1, k, none⟩ = some (.slice A2 (nxF f.blocks k).length c2) := by rw [Nat.mul_one, Nat.zero_add, zs_len] at hcA; exact hcA
        have HCA : Hid (∀ w', FrX (fun b => b = G) w6 w' → w'.cell? ⟨G1, k, none⟩ = some (.slice A2 (nxF f.blocks k).length c2)) := Lib.hid (fun w' hf => by
          have := hf.block G1 (by have := HGW.out; have := HGS.out; omega) (by have := HGS.out; omega)
          have h2 := hfr.block G1 (by have := HGW.out; have := HGS.out; omega) (by have := HGS.out; omega)
          exact (World.cell?_of_block (a := ⟨G1, k, none⟩) (this.trans h2.symm)).trans hcA)
        have hnl : (nxF f.blocks k).length ≤ f.blocks.length := by unfold nxF; split; exact nextN_few _ _; simp
        have HG7 := Lib.hid (hg.congr (L' := fun b => zs (raJ f.blocks k 0 b)) fun b _ => by rw [raJ_zero])
        clear hg hfr hre hslA hl
        go_upto_region 8 with fail
        clear hcA
        go_loopw [29] (fun s29 wq => ∃ (j : Nat) (V : Nat → Value), j ≤ (nxF f.blocks k).length ∧ s29 = .int .i64 (j : Int) ∧ Gri wq G w6.heap.size f.blocks.length V (fun b => zs (raJ f.blocks k j b)) ∧ FrX (fun b => b = G) w6 wq) (fun s29 _ => (nxF f.blocks k).length - (intOf s29).toNat)
        case atStart => exact ⟨0, V, Nat.zero_le _, rfl, HG7.out, HFR.out⟩
        case round =>
          obtain ⟨j, V2, hj, rfl, hg, hfr⟩ := hrel
          have HGJ := Lib.hid hg
          have HFJ := Lib.hid hfr
          by_cases hjl : j < (nxF f.blocks k).length
          · obtain ⟨bg, og, l, hbo, hl, hcs⟩ := (HN2.out wr hfr).at_ (k := k) (by simp; exact hkn)
            simp only [Option.some.injEq, Addr.mk.injEq, and_true] at hbo
            obtain ⟨rfl, rfl⟩ := hbo
            have hlz : l = zs (nxF f.blocks k) := (map_range_at _ hl.out).1
            subst hlz
            obtain ⟨A3, c3, hcA3, hslA⟩ := hcs
            have hcA4 := HCA.out wr hfr
            rw [Nat.mul_one, Nat.zero_add, zs_len] at hcA3
            rw [hcA3] at hcA4
            simp only [Option.some.injEq, Value.slice.injEq] at hcA4
            obtain ⟨rfl, -, rfl⟩ := hcA4
            obtain ⟨bt, ot, x, rfl, hx, hxc, -⟩ := hslA.int (k := j) (by rw [zs_len]; exact hjl)
            obtain ⟨t, ht, rfl⟩ := zs_at hx.out
            have htn : t < f.blocks.length := nxF_lt f.blocks k t (List.mem_of_getElem? ht)
            have hj0 : (0 : Int) ≤ j := by omega
            have hj1 : (j : Int) < (nxF f.blocks k).length := by omega
            have ht0 : (0 : Int) ≤ t := by omega
            have ht1 : (t : Int) < f.blocks.length := by omega
            have hrow := hg.row.cell htn
            have hrowf := hg.row.frozen t
            have how := hg.own t htn
            have HOW := Lib.hid how
            have HT := Lib.hid ht
            have hll : (zs (raJ f.blocks k j t)).length ≤ 2000 := by
              rw [zs_len]; unfold raJ
              have := raL_len f.blocks k t
              rw [List.length_append]
              split <;> simp <;> omega
            have hz6 := hfr.size
            clear hg hfr hx ht hl hcA3 hslA how
            go_wp2_with (at_builtin; refine wpList_append_lies _ rfl (.tmp 38) (.tmp 40) 22 rfl w6.heap.size 3 i0 (.int .i64 0) 1 8 Try.underlying22 HI.out.1 HI.out.2.1 HI.out.2.2.1 HI.out.2.2.2 rfl (by decide) (V2 t) _ _ rfl (HOW.out.alloc _) ⟨wr.heap.size, 0, none⟩ 1 1 [.int .i64 (k : Int)] rfl rfl ?e1 ?e2 ?e0 ?e3 ?e4 ?e5 (wr.heap.size + 1) ?e6 ?_)
            case e1 => exact news_one_add wr _ _ rfl
            case e2 => exact ints_oneCell .i64 [(k : Int)]
            case e0 => omega
            case e3 => unfold maxLen; omega
            case e4 => omega
            case e5 => simp; omega
            case e6 => simp
            intro g cap w7 hown7 hgrow7 hloc7 hlt7
            have hgp := Gri.push (HGJ.out.alloc _) htn hown7 hgrow7 (by simpa using hloc7)
            have HGP := Lib.hid (hgp.congr (L' := fun b => zs (raJ f.blocks k (j + 1) b)) fun b _ => by
              show (if b = t then zs (raJ f.blocks k j t) ++ [(k : Int)] else zs (raJ f.blocks k j b)) = _
              rw [← raJ_step HT.out b]
              by_cases e : b = t
              · rw [if_pos e, if_pos e, zs_snoc]
              · rw [if_neg e, if_neg e])
            have HFP := Lib.hid (HGJ.out.frX htn HFJ.out (Nat.le_refl _) hgrow7 (g := g) (cap := cap) (m := (zs (raJ f.blocks k j t)).length + 1))
            have hG7 : w7.heap[G]? = (wr.alloc (.cells #[.int .i64 (k : Int)] 3)).heap[G]? := hgrow7.block _ (by have := HGW.out; simp; omega) (fun e => by have := (HOW.out.lt _ e.symm).1; have := HGW.out; omega)
            have hrow7 := (World.cell?_of_block (a := ⟨G, t, none⟩) hG7).trans ((HGJ.out.row.alloc _).cell htn)
            have hfr7 := (World.frozen?_of_block (a := ⟨G, t, none⟩) hG7).trans ((HGJ.out.row.alloc _).frozen t)
            clear hgp hown7 hgrow7 hloc7 hG7 hrow hrowf hxc
            go_wp2_with fail
            go_roundw
            case rel => exact ⟨j + 1, _, by omega, by go_num, HGP.out, HFP.out⟩
            case measure => simp [intOf]; omega
          · have HGN := Lib.hid (hg.congr (L' := fun b => zs (raL f.blocks (k + 1) b)) fun b _ => by rw [raJ_all HRK.out (by omega)])
            clear hg hfr
            go_wp2_with fail
            go_roundw
            case rel => exact ⟨k + 1, V2, by omega, by go_num, HGN.out, HFJ.out⟩
            case measure => simp [intOf]; omega
    · have hkk : k = f.blocks.length := by omega
      subst hkk
      have HBF : Hid (Below w.heap.size w wo) := Lib.hid (HB6.out.trans (hfr.below HB6.out.size (fun y hy => by have := HGW.out; omega)))
      clear hg hfr
      go_wp2_with fail
      go_ret
      exact ⟨⟨G, _, V, rfl, HGW.out.1, HG.out⟩, HBF.out⟩
end Go.Proofs.Ytooblmiffgjmjaa
