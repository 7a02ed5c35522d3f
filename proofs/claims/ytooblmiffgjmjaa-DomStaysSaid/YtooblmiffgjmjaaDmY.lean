/- The program's Under. -/
import Derived.Test.YtooblmiffgjmjaaDmU
namespace Go.Proofs.Ytooblmiffgjmjaa
open Go.ChangeShapes Go.WideShapes Go.RowKit Go.Deep
set_option linter.unusedVariables false

def unL (bs : List BlkD) (m a : Nat) : List Nat := (List.range m).filter fun b => decide (nearD bs b = (a : Int))
theorem unL_succ (bs : List BlkD) (m a : Nat) : unL bs (m + 1) a = unL bs m a ++ (if nearD bs m = (a : Int) then [m] else []) := by
  unfold unL
  rw [List.range_succ, List.filter_append]
  congr 1
  by_cases h : nearD bs m = (a : Int)
  · rw [if_pos h]; simp [h]
  · rw [if_neg h]; simp [h]
theorem unL_len (bs : List BlkD) (m a : Nat) : (unL bs m a).length ≤ m := by unfold unL; exact Nat.le_trans (List.length_filter_le _ _) (by simp)
theorem unL_lt {bs : List BlkD} {m a b : Nat} (h : b ∈ unL bs m a) : b < m := by unfold unL at h; rw [List.mem_filter, List.mem_range] at h; exact h.1
def ToldUn (bs : List BlkD) (w : World) (e : Ending) (w' : World) : Prop :=
  (∃ G K V, e = .returned (.slice (some ⟨G, 0, none⟩) bs.length bs.length) ∧ w.heap.size ≤ G ∧ w.heap.size ≤ K ∧ Gri w' G K bs.length V (fun b => zs (unL bs bs.length b))) ∧ Below w.heap.size w w'

set_option maxRecDepth 100000 in
set_option maxHeartbeats 8000000 in
theorem under_any (f : FunD) (v : Value) (w : World) (hv : VFun w v f) (hn : f.blocks.length ≤ 1000) : Calls Try.prog 19 #[v] w (ToldUn f.blocks w) := by
  have hv0 := hv
  obtain ⟨i0, hi, hz0, hz1, hz2⟩ := info_parts Try.info3
  have HI := Lib.hid (And.intro hi (And.intro hz0 (And.intro hz1 hz2)))
  clear hi hz0 hz1 hz2
  obtain ⟨Ar, cr, A, c, rfl, -, -, -, -⟩ := hv
  have HV := Lib.hid hv0
  go_enter Try.func19, Try.ntmps19
  go_upto_region 1 with fail
  obtain ⟨w1, hw1, hs1, hk1, hbel1, hc1, -⟩ := named w #[.int .i64 f.params, .int .i64 f.result, .slice Ar f.regs.length cr, .slice A f.blocks.length c] 25
  rw [← hw1]
  have c0 : w1.cell? ⟨w.heap.size, 0, none⟩ = some (.int .i64 f.params) := hc1 0 _ rfl
  have c1 : w1.cell? ⟨w.heap.size, 1, none⟩ = some (.int .i64 f.result) := hc1 1 _ rfl
  have c2 : w1.cell? ⟨w.heap.size, 2, none⟩ = some (.slice Ar f.regs.length cr) := hc1 2 _ rfl
  have c3 : w1.cell? ⟨w.heap.size, 3, none⟩ = some (.slice A f.blocks.length c) := hc1 3 _ rfl
  have HB1 := Lib.hid hbel1
  have HS1 := Lib.hid hs1
  have HN := Lib.hid (nearest_any f _ w1 (VFun.keep hk1 hv0) hn)
  clear hw1 hs1 hbel1 hc1 hv0 hk1
  go_wp2_with fail
  refine HN.out.mono ?_
  rintro e w2 ⟨⟨H, rfl, hH, hnr, ord, hNB⟩, hb2⟩
  have HB2 : Hid (Below w1.heap.size w1 w2) := Lib.hid hb2
  have HNB := Lib.hid hNB
  have HNR := Lib.hid hnr
  have hHl : H < w2.heap.size := hnr.lt
  have hmk := run_make_row' (P := Try.prog) 35 22 (.slice none 0 0) 24 Try.underlying35 Try.info22 rfl .i64 .i64 f.blocks.length (by omega) (by omega)
  clear c0 c1 c2 c3 hH hnr hb2 HN hNB
  go_upto_region 3 with fail
  clear hmk
  obtain ⟨G, hG⟩ : ∃ G, G = w2.heap.size := ⟨_, rfl⟩
  obtain ⟨w4, hw4⟩ : ∃ w4, w4 = w2.alloc (.cells (madeCells #[.slice none 0 0] f.blocks.length) 22) := ⟨_, rfl⟩
  have hb4 : Below w2.heap.size w2 w4 := by rw [hw4]; exact (Below.refl _ _).alloc (Nat.le_refl _) _
  have hG4 : G < w4.heap.size := by rw [hw4, hG]; simp
  have hgm : Gri w4 G w4.heap.size f.blocks.length (fun _ => .slice none 0 0) (fun _ => []) := by rw [hw4]; exact Gri.made w2 G _ _ hG (by rw [hG]; simp)
  have HG4 := Lib.hid (hgm.congr (L' := fun b => zs (unL f.blocks 0 b)) fun i _ => rfl)
  have HB4 : Hid (Below w.heap.size w w4) := Lib.hid (HB1.out.trans ((HB2.out.trans (hb4.mono HB2.out.size)).mono (by have := HS1.out; omega)))
  have HNR4 := Lib.hid (HNR.out.of_block (hb4.block H hHl))
  have HGW : Hid (w.heap.size ≤ G ∧ H < G ∧ G < w4.heap.size) := Lib.hid (by have := HB2.out.size; have := HS1.out; omega)
  rw [← hw4, ← hG]
  clear hw4 hG hb4 hHl HNR hgm hG4
  go_wp2_with fail
  go_loopw [14] (fun s17 wq => ∃ (k : Nat) (V : Nat → Value), k ≤ f.blocks.length ∧ s17 = .int .i64 (k : Int) ∧ Gri wq G w4.heap.size f.blocks.length V (fun b => zs (unL f.blocks k b)) ∧ FrX (fun b => b = G) w4 wq) (fun s17 _ => f.blocks.length - (intOf s17).toNat)
  case atStart => exact ⟨0, _, Nat.zero_le _, rfl, HG4.out, FrX.refl _ _⟩
  case round =>
    obtain ⟨k, V, hk, rfl, hg, hfr⟩ := hrel
    have HG := Lib.hid hg
    have HFR := Lib.hid hfr
    by_cases hkn : k < f.blocks.length
    · have xr := (HNR4.out.of_block (hfr.block H HNR4.out.lt (by have := HGW.out; omega))).cell hkn
      have hk0 : (0 : Int) ≤ k := by omega
      have hk1 : (k : Int) < f.blocks.length := by omega
      by_cases hneg : nearD f.blocks k < 0
      · have hge : ¬ (nearD f.blocks k ≥ 0) := by omega
        have HGN := Lib.hid (hg.congr (L' := fun b => zs (unL f.blocks (k + 1) b)) fun b _ => by rw [unL_succ, if_neg (by omega)]; simp)
        clear hg hfr
        go_wp2_with fail
        go_roundw
        case rel => exact ⟨k + 1, V, by omega, by go_num, HGN.out, HFR.out⟩
        case measure => simp [intOf]; omega
      · have hge : (nearD f.blocks k ≥ 0) := by omega
        obtain ⟨t, htn, hte⟩ : ∃ t : Nat, t < f.blocks.length ∧ nearD f.blocks k = (t : Int) := by
          by_cases h1 : fromB f.blocks 0 (-1) k = false ∨ k = 0
          · have := HNB.out.none k hkn h1; omega
          · obtain ⟨a, ha, he, -⟩ := HNB.out.some k hkn (by cases hf : fromB f.blocks 0 (-1) k; exact absurd (.inl hf) h1; rfl) (fun e => h1 (.inr e))
            exact ⟨a, ha, he⟩
        rw [hte] at xr
        have HTE := Lib.hid hte
        have ht0 : (0 : Int) ≤ t := by omega
        have ht1 : (t : Int) < f.blocks.length := by omega
        have htg : ((t : Int) ≥ 0) := by omega
        have hrow := hg.row.cell htn
        have hrowf := hg.row.frozen t
        have HOW := Lib.hid (hg.own t htn)
        have hll : (zs (unL f.blocks k t)).length ≤ 2000 := by
          rw [zs_len]; have := unL_len f.blocks k t; omega
        have hz6 := hfr.size
        clear hg hfr hte hge hneg
        go_wp2_with (at_builtin; refine wpList_append_lies _ rfl (.tmp 26) (.tmp 28) 22 rfl w4.heap.size 3 i0 (.int .i64 0) 1 8 Try.underlying22 HI.out.1 HI.out.2.1 HI.out.2.2.1 HI.out.2.2.2 rfl (by decide) (V t) _ _ rfl (HOW.out.alloc _) ⟨wr.heap.size, 0, none⟩ 1 1 [.int .i64 (k : Int)] rfl rfl ?e1 ?e2 ?e0 ?e3 ?e4 ?e5 (wr.heap.size + 1) ?e6 ?_)
        case e1 => exact news_one_add wr _ _ rfl
        case e2 => exact ints_oneCell .i64 [(k : Int)]
        case e0 => omega
        case e3 => unfold maxLen; omega
        case e4 => omega
        case e5 => simp; omega
        case e6 => simp
        intro g cap w7 hown7 hgrow7 hloc7 hlt7
        have hgp := Gri.push (HG.out.alloc _) htn hown7 hgrow7 (by simpa using hloc7)
        have HGP := Lib.hid (hgp.congr (L' := fun b => zs (unL f.blocks (k + 1) b)) fun b _ => by
          show (if b = t then zs (unL f.blocks k t) ++ [(k : Int)] else zs (unL f.blocks k b)) = _
          rw [unL_succ, HTE.out]
          by_cases e : b = t
          · rw [if_pos e, if_pos (by omega), zs_snoc, e]
          · rw [if_neg e, if_neg (by omega)]; simp)
        have HFP := Lib.hid (HG.out.frX htn HFR.out (Nat.le_refl _) hgrow7 (g := g) (cap := cap) (m := (zs (unL f.blocks k t)).length + 1))
        have hG7 : w7.heap[G]? = (wr.alloc (.cells #[.int .i64 (k : Int)] 3)).heap[G]? := hgrow7.block _ (by have := HGW.out; simp; omega) (fun e => by have := (HOW.out.lt _ e.symm).1; have := HGW.out; omega)
        have hrow7 := (World.cell?_of_block (a := ⟨G, t, none⟩) hG7).trans ((HG.out.row.alloc _).cell htn)
        have hfr7 := (World.frozen?_of_block (a := ⟨G, t, none⟩) hG7).trans ((HG.out.row.alloc _).frozen t)
        clear hgp hown7 hgrow7 hloc7 hG7 hrow hrowf
        go_wp2_with fail
        go_roundw
        case rel => exact ⟨k + 1, _, by omega, by go_num, HGP.out, HFP.out⟩
        case measure => simp [intOf]; omega
    · have hkk : k = f.blocks.length := by omega
      subst hkk
      have HBF : Hid (Below w.heap.size w wr) := Lib.hid (HB4.out.trans (hfr.below HB4.out.size (fun y hy => by have := HGW.out; omega)))
      clear hg hfr
      go_wp2_with fail
      go_ret
      exact ⟨⟨G, _, V, rfl, HGW.out.1, HB4.out.size, HG.out⟩, HBF.out⟩
end Go.Proofs.Ytooblmiffgjmjaa
