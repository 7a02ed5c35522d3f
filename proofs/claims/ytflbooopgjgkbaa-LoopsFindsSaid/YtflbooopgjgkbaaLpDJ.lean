/- The example at the head of the statements of layer 7 holds. -/
import Derived.Test.YtflbooopgjgkbaaLpSJ
import Derived.Test.YtflbooopgjgkbaaClnJ
import Derived.Deep.RegionHeld3
namespace Go.Proofs.Ytflbooopgjgkbaa
open Go.ChangeShapes Go.WideShapes Go.RowKit Go.Deep
set_option linter.unusedVariables false
set_option linter.unusedSimpArgs false

def ex7 : List BlkD := [⟨[], [], ⟨0, 0, [1]⟩⟩, ⟨[], [], ⟨0, 0, [2, 3]⟩⟩, ⟨[], [], ⟨0, 0, [1]⟩⟩, ⟨[], [], ⟨0, 0, []⟩⟩]
theorem ex7_hd : hdL ex7 4 = [1] := by decide +kernel
theorem ex7_lb : lbL ex7 1 4 = [1, 2] := by decide +kernel
theorem ex7_en : enL ex7 1 = [0] := by decide +kernel
/-- Where each end leads, in memory. -/
def toV (N i : Nat) : Value := if i = 0 then .slice (some ⟨N, 0, none⟩) 1 1 else if i = 1 then .slice (some ⟨N + 1, 0, none⟩) 2 2 else if i = 2 then .slice (some ⟨N + 2, 0, none⟩) 1 1 else .slice none 0 0
def flatB (N j : Nat) : List Value := (List.range j).flatMap fun i => [.slice none 0 0, .slice none 0 0, .int .i64 0, .int .i64 0, toV N i]
theorem flatB_succ (N j : Nat) : flatB N (j + 1) = flatB N j ++ [.slice none 0 0, .slice none 0 0, .int .i64 0, .int .i64 0, toV N j] := by unfold flatB; rw [List.range_succ, List.flatMap_append]; simp
theorem oneV {N j : Nat} {u : Value} (h : u ∈ [Value.slice none 0 0, .slice none 0 0, .int .i64 0, .int .i64 0, toV N j]) : u.oneCell' = true := by
  simp only [List.mem_cons, List.not_mem_nil, or_false] at h
  rcases h with rfl | rfl | rfl | rfl | rfl
  · rfl
  · rfl
  · rfl
  · rfl
  · unfold toV; split
    · rfl
    · split
      · rfl
      · split <;> rfl
theorem cells_new_ (w : World) (cs : List Value) (t : TypeId) : ∀ j u, cs[j]? = some u → ((w.alloc (.cells cs.toArray t)).drew).cell? ((⟨w.heap.size, 0, none⟩ : Addr).add j) = some u := by
  intro j u hj
  have hb := heap_alloc_new w (.cells cs.toArray t)
  have := cell_of_row (w.alloc (.cells cs.toArray t)) w.heap.size j cs.toArray t (0, 0) hb
  have e : ((⟨w.heap.size, 0, none⟩ : Addr).add j) = ⟨w.heap.size, j, none⟩ := by unfold Addr.add; split <;> simp_all
  rw [e]
  exact this.trans (by simpa using hj)
/-- How many blocks the example has so far. -/
def UpI (W5 : World) (N j : Nat) (wq : World) : Prop := ∃ v, wq.heap[N + 4]? = some (.cells #[.int .i64 0, .int .i64 0, .slice none 0 0, v] 25) ∧ wq.ownsRow (N + 5) 52 5 v j (flatB N j) ∧ FrX (fun b => b = N + 4) W5 wq ∧ N + 5 ≤ wq.heap.size
def UpV (W5 : World) (N j : Nat) (wq : World) (v : Value) : Prop := wq.heap[N + 4]? = some (.cells #[.int .i64 0, .int .i64 0, .slice none 0 0, v] 25) ∧ wq.ownsRow (N + 5) 52 5 v j (flatB N j) ∧ FrX (fun b => b = N + 4) W5 wq ∧ N + 5 ≤ wq.heap.size ∧ W5.heap.size = N + 5
theorem UpI.step {W5 wq wC : World} {N j : Nat} {v v' : Value} (h : UpV W5 N j wq v) (hg : GroD wq wC v v') (_ho : wq.ownsRow (N + 5) 52 5 v j (flatB N j)) (_hj : j < 4) (hn : wC.ownsRow (N + 5) 52 5 v' (j + 1) (flatB N j ++ [.slice none 0 0, .slice none 0 0, .int .i64 0, .int .i64 0, toV N j])) :
    UpI W5 N (j + 1) (wC.setCell ⟨N + 4, 3, none⟩ v') := by
  obtain ⟨h1, h2, h3, h4, h5⟩ := h
  have hb : wC.heap[N + 4]? = wq.heap[N + 4]? := hg.block (N + 4) (by omega) (fun e => by have := (h2.lt _ e).1; omega)
  refine ⟨v', set_of_block v' (hb.trans h1), ownsRow_setCell_below (by rw [flatB_succ]; exact hn) (a := ⟨N + 4, 3, none⟩) (by show N + 4 < N + 5; omega) _, ?_, by have := hg.size; simp; omega⟩
  exact (hg.fr h3 (fun g hgg => .inr (by have := (h2.lt g hgg).1; omega))).setCell (.inl rfl) _

set_option maxRecDepth 100000 in
set_option maxHeartbeats 8000000 in
theorem up7_any (w : World) : Calls Try.prog 8 #[] w fun e w' => e = .returned (.bool true) ∧ Below w.heap.size w w' := by
  obtain ⟨ib, hi, hz0, hz1, hz2⟩ := info_parts Try.info52
  have HIB := Lib.hid (And.intro hi (And.intro hz0 (And.intro hz1 hz2)))
  clear hi hz0 hz1 hz2
  go_enter Try.func8, Try.ntmps8
  go_upto_region 3 with fail
  obtain ⟨N, hN⟩ : ∃ N, N = w.heap.size := ⟨_, rfl⟩
  rw [← hN]
  obtain ⟨W5, hW⟩ : ∃ W, W = ((((w.alloc (.cells #[.int .i64 1] 3)).alloc (.cells #[.int .i64 2, .int .i64 3] 3)).alloc (.cells #[.int .i64 1] 3)).alloc
    (.cells #[.int .i64 0, .int .i64 0, .slice (some ⟨N, 0, none⟩) 1 1, .int .i64 0, .int .i64 0, .slice (some ⟨N + 1, 0, none⟩) 2 2, .int .i64 0, .int .i64 0, .slice (some ⟨N + 1 + 1, 0, none⟩) 1 1, .int .i64 0, .int .i64 0, .slice none 0 0] 48)).alloc
    (.cells #[.int .i64 0, .int .i64 0, .slice none 0 0, .slice none 0 0] 25) := ⟨_, rfl⟩
  rw [← hW]
  obtain ⟨b0, b1, b2, b3, b4, hsz, hbel⟩ := boxes5 w N hN _ _ _ _ _ W5.drew (by rw [hW])
  have HB0 : Hid (W5.heap[N]? = some (.cells #[.int .i64 1] 3)) := Lib.hid b0
  have HB1 : Hid (W5.heap[N + 1]? = some (.cells #[.int .i64 2, .int .i64 3] 3)) := Lib.hid b1
  have HB2 : Hid (W5.heap[N + 2]? = some (.cells #[.int .i64 1] 3)) := Lib.hid b2
  have HB3 : Hid (W5.heap[N + 3]? = some (.cells #[.int .i64 0, .int .i64 0, .slice (some ⟨N, 0, none⟩) 1 1, .int .i64 0, .int .i64 0, .slice (some ⟨N + 1, 0, none⟩) 2 2, .int .i64 0, .int .i64 0, .slice (some ⟨N + 1 + 1, 0, none⟩) 1 1, .int .i64 0, .int .i64 0, .slice none 0 0] 48)) := Lib.hid b3
  have HU0 : Hid (UpI W5 N 0 W5) := Lib.hid ⟨_, b4, World.ownsRow_nil _ _ _ _, FrX.refl _ _, by have : W5.heap.size = N + 5 := hsz; omega⟩
  have HSZ : Hid (W5.heap.size = N + 5) := Lib.hid hsz
  have HBEL : Hid (Below N w W5) := Lib.hid ⟨hbel.os, hbel.tape, hbel.output, hbel.size, hbel.block⟩
  have HN := Lib.hid hN
  rw [show N + 1 + 1 + 1 + 1 = N + 4 from rfl, show N + 1 + 1 + 1 = N + 3 from rfl]
  clear hW b0 b1 b2 b3 b4 hsz hbel hN
  go_wp2_with fail
  go_loopw [3] (fun s3 wq => ∃ j : Nat, j ≤ 4 ∧ s3 = .int .i64 (j : Int) ∧ UpI W5 N j wq) (fun s3 _ => 4 - (intOf s3).toNat)
  case atStart => exact ⟨0, by omega, rfl, HU0.out⟩
  case round =>
    obtain ⟨j, hj, rfl, hup⟩ := hrel
    by_cases hj4 : j < 4
    · obtain ⟨v, hf, how, hfr, hz⟩ := hup
      have HUP : Hid (UpV W5 N j wr v) := Lib.hid ⟨hf, how, hfr, hz, HSZ.out⟩
      have HOW := Lib.hid how
      have HFZ : Hid (wr.frozen? ⟨N + 4, 3, none⟩ = false) := Lib.hid (by unfold World.frozen?; simp [hf])
      have cv : wr.cell? ⟨N + 4, 3, none⟩ = some v := cell_of_block hf 3
      have hb3 := (hfr.block (N + 3) (by have := HSZ.out; omega) (by omega)).trans HB3.out
      have hterm : wr.cell? ⟨N + 3, j * 3, none⟩ = some (.int .i64 0) ∧ wr.cell? ⟨N + 3, j * 3 + 1, none⟩ = some (.int .i64 0) ∧ wr.cell? ⟨N + 3, j * 3 + 2, none⟩ = some (toV N j) := by
        rcases (by omega : j = 0 ∨ j = 1 ∨ j = 2 ∨ j = 3) with rfl | rfl | rfl | rfl
        · exact ⟨cell_of_block hb3 0, cell_of_block hb3 1, cell_of_block hb3 2⟩
        · exact ⟨cell_of_block hb3 3, cell_of_block hb3 4, cell_of_block hb3 5⟩
        · exact ⟨cell_of_block hb3 6, cell_of_block hb3 7, cell_of_block hb3 8⟩
        · exact ⟨cell_of_block hb3 9, cell_of_block hb3 10, cell_of_block hb3 11⟩
      obtain ⟨t0, t1, t2⟩ := hterm
      have hj0 : (0 : Int) ≤ j := by omega
      have hj1 : (j : Int) < 4 := by omega
      obtain ⟨At, nt, ct, htv⟩ : ∃ A n c, toV N j = .slice A n c := by
        unfold toV; split
        · exact ⟨_, _, _, rfl⟩
        · split
          · exact ⟨_, _, _, rfl⟩
          · split
            · exact ⟨_, _, _, rfl⟩
            · exact ⟨_, _, _, rfl⟩
      have HTV := Lib.hid htv
      rw [htv] at t2
      clear hf how hfr hb3 htv
      go_upto_region 6 with fail
      refine wp_region_last (L := 10) (S := fun w' => w'.cell? ⟨N + 4, 3, none⟩ = some v ∧ w'.cell? ⟨N + 3, j * 3, none⟩ = some (.int .i64 0) ∧ w'.cell? ⟨N + 3, j * 3 + 1, none⟩ = some (.int .i64 0) ∧ w'.cell? ⟨N + 3, j * 3 + 2, none⟩ = some ((.slice At nt ct))) (by kernel_rfl) (by rfl) (by kernel_rfl) (by kernel_rfl) ?_
      change wpAnyH _ _ _ _ _ _ _ _ (World.drew _)
      have hS : ∀ w', Below wr.heap.size wr w' → w'.cell? ⟨N + 4, 3, none⟩ = some v ∧ w'.cell? ⟨N + 3, j * 3, none⟩ = some (.int .i64 0) ∧ w'.cell? ⟨N + 3, j * 3 + 1, none⟩ = some (.int .i64 0) ∧ w'.cell? ⟨N + 3, j * 3 + 2, none⟩ = some ((.slice At nt ct)) := fun w' h => ⟨kept_of_below h _ _ cv, kept_of_below h _ _ t0, kept_of_below h _ _ t1, kept_of_below h _ _ t2⟩
      have hS0 := hS wr.drew (Below.refl _ _).drew
      clear cv t0 t1 t2
      refine takeH (i := 0) (some 17) (v := ?_) rfl (by kernel_rfl) (by kernel_rfl) (by kernel_rfl) (fun _ _ _ h => h) hS0 (fun o ho => ?_) ?_
      rotate_left
      · simp only [List.getElem?_toArray, List.getElem?_cons_zero, Option.some.injEq] at ho; subst ho; refine Or.inl ⟨by rfl, fun w' hSw => ?_⟩; (try dsimp only at hSw); go_simp; try with_reducible rfl
      simp only [Act.put, List.setIfInBounds_toArray, List.set_cons_zero, List.set_cons_succ]
      refine takeH (i := 1) (some 18) (v := ?_) rfl (by kernel_rfl) (by kernel_rfl) (by kernel_rfl) (fun _ _ _ h => h) hS0 (fun o ho => ?_) ?_
      rotate_left
      · simp only [List.getElem?_toArray, List.getElem?_cons_zero, List.getElem?_cons_succ, Option.some.injEq] at ho; subst ho; refine Or.inl ⟨by rfl, fun w' hSw => ?_⟩; (try dsimp only at hSw); go_simp; try with_reducible rfl
      simp only [Act.put, List.setIfInBounds_toArray, List.set_cons_zero, List.set_cons_succ]
      refine takeH (i := 2) (some 19) (v := ?_) rfl (by kernel_rfl) (by kernel_rfl) (by kernel_rfl) (fun _ _ _ h => h) hS0 (fun o ho => ?_) ?_
      rotate_left
      · simp only [List.getElem?_toArray, List.getElem?_cons_zero, List.getElem?_cons_succ, Option.some.injEq] at ho; subst ho; refine Or.inl ⟨by rfl, fun w' hSw => ?_⟩; (try dsimp only at hSw); go_simp; try with_reducible rfl
      simp only [Act.put, List.setIfInBounds_toArray, List.set_cons_zero, List.set_cons_succ]
      refine takeH (i := 3) (some 20) (v := ?_) rfl (by kernel_rfl) (by kernel_rfl) (by kernel_rfl) (fun _ _ _ h => h) hS0 (fun o ho => ?_) ?_
      rotate_left
      · simp only [List.getElem?_toArray, List.getElem?_cons_zero, List.getElem?_cons_succ, Option.some.injEq] at ho; subst ho; refine Or.inl ⟨by rfl, fun w' hSw => ?_⟩; (try dsimp only at hSw); go_simp; try with_reducible rfl
      simp only [Act.put, List.setIfInBounds_toArray, List.set_cons_zero, List.set_cons_succ]
      refine takeH (i := 4) (some 21) (v := ?_) rfl (by kernel_rfl) (by kernel_rfl) (by kernel_rfl) (fun _ _ _ h => h) hS0 (fun o ho => ?_) ?_
      rotate_left
      · simp only [List.getElem?_toArray, List.getElem?_cons_zero, List.getElem?_cons_succ, Option.some.injEq] at ho; subst ho; refine Or.inl ⟨by rfl, fun w' hSw => ?_⟩; (try dsimp only at hSw); go_simp; try with_reducible rfl
      simp only [Act.put, List.setIfInBounds_toArray, List.set_cons_zero, List.set_cons_succ]
      refine takeH (i := 5) (some 22) (v := ?_) rfl (by kernel_rfl) (by kernel_rfl) (by kernel_rfl) (fun _ _ _ h => h) hS0 (fun o ho => ?_) ?_
      rotate_left
      · simp only [List.getElem?_toArray, List.getElem?_cons_zero, List.getElem?_cons_succ, Option.some.injEq] at ho; subst ho; refine Or.inl ⟨by rfl, fun w' hSw => ?_⟩; (try dsimp only at hSw); go_simp; try with_reducible rfl
      simp only [Act.put, List.setIfInBounds_toArray, List.set_cons_zero, List.set_cons_succ]
      refine takeH (i := 6) (some 23) (v := ?_) rfl (by kernel_rfl) (by kernel_rfl) (by kernel_rfl) (fun _ _ _ h => h) hS0 (fun o ho => ?_) ?_
      rotate_left
      · simp only [List.getElem?_toArray, List.getElem?_cons_zero, List.getElem?_cons_succ, Option.some.injEq] at ho; subst ho; refine Or.inl ⟨by rfl, fun w' hSw => ?_⟩; (try dsimp only at hSw); go_simp; try with_reducible rfl
      simp only [Act.put, List.setIfInBounds_toArray, List.set_cons_zero, List.set_cons_succ]
      refine oneH (i := 7) (by kernel_rfl) (fun o ho K' hK => ?_)
      simp only [List.getElem?_toArray, List.getElem?_cons_zero, List.getElem?_cons_succ, Option.some.injEq] at ho; subst ho
      go_simp
      have hb8 : Below wr.heap.size wr (wr.alloc (.cells #[.slice none 0 0, .slice none 0 0, .int .i64 0, .int .i64 0, (.slice At nt ct)] 52)).drew := ((Below.refl _ wr).alloc (Nat.le_refl _) _).drew
      refine hK.out _ _ (hS _ hb8) ?_
      clear hK K'
      refine oneH (i := 8) (by kernel_rfl) (fun o ho K' hK => ?_)
      simp only [List.getElem?_toArray, List.getElem?_cons_zero, List.getElem?_cons_succ, Option.some.injEq] at ho; subst ho
      refine step_append_lies _ (by rfl) _ _ _ (by rfl) (N + 5) 52 ib (.agg #[.slice none 0 0, .slice none 0 0, .int .i64 0, .int .i64 0, .slice none 0 0]) 5 88 Try.underlying23 HIB.out.1 HIB.out.2.1 HIB.out.2.2.1 HIB.out.2.2.2 rfl (by decide) v j _ (by rfl) (HOW.out.alloc _)
        ⟨wr.heap.size, 0, none⟩ 1 1 [.slice none 0 0, .slice none 0 0, .int .i64 0, .int .i64 0, (.slice At nt ct)] (by rfl) (by rfl) (cells_new_ wr [.slice none 0 0, .slice none 0 0, .int .i64 0, .int .i64 0, (.slice At nt ct)] 52) (by intro u hu; exact oneV (N := N) (j := j) (by rw [HTV.out]; exact hu)) (by decide) (by unfold maxLen; omega) (by omega) (by simp; omega) (wr.heap.size + 1) (by simp) ?_
      intro g cap wC hownC hgrowC hlocC hltC
      have HGR : Hid (GroD wr wC v (.slice (some ⟨g, 0, none⟩) (j + 1) cap)) := Lib.hid (groD_drew (groD_append (w := wr.drew) hgrowC hlocC))
      have hvb : ∀ b, b < N + 5 → wC.heap[b]? = wr.heap[b]? := fun b hb => HGR.out.block b (by omega) (fun e => by have := (HOW.out.lt b e).1; omega)
      have hSC : wC.cell? ⟨N + 4, 3, none⟩ = some v ∧ wC.cell? ⟨N + 3, j * 3, none⟩ = some (.int .i64 0) ∧ wC.cell? ⟨N + 3, j * 3 + 1, none⟩ = some (.int .i64 0) ∧ wC.cell? ⟨N + 3, j * 3 + 2, none⟩ = some ((.slice At nt ct)) := ⟨(World.cell?_of_block (a := ⟨N + 4, 3, none⟩) (hvb (N + 4) (by omega))).trans hS0.1, (World.cell?_of_block (a := ⟨N + 3, j * 3, none⟩) (hvb (N + 3) (by omega))).trans hS0.2.1, (World.cell?_of_block (a := ⟨N + 3, j * 3 + 1, none⟩) (hvb (N + 3) (by omega))).trans hS0.2.2.1, (World.cell?_of_block (a := ⟨N + 3, j * 3 + 2, none⟩) (hvb (N + 3) (by omega))).trans hS0.2.2.2⟩
      have xf : wC.frozen? ⟨N + 4, 3, none⟩ = false := (World.frozen?_of_block (a := ⟨N + 4, 3, none⟩) (hvb (N + 4) (by omega))).trans HFZ.out
      have xc := hSC.1
      have HNW := Lib.hid (UpI.step (j := j) HUP.out HGR.out HOW.out (by omega) (by rw [HTV.out]; exact hownC))
      refine hK.out _ _ hSC ?_
      clear hK K' hgrowC hlocC hownC
      simp only [Act.put, List.setIfInBounds_toArray, List.set_cons_zero, List.set_cons_succ]
      refine takeH (i := 9) (some 26) (v := ?_) rfl (by kernel_rfl) (by kernel_rfl) (by kernel_rfl) (fun _ _ _ h => h) hSC (fun o ho => ?_) ?_
      rotate_left
      · simp only [List.getElem?_toArray, List.getElem?_cons_zero, List.getElem?_cons_succ, Option.some.injEq] at ho; subst ho; refine Or.inl ⟨by rfl, fun w' hSw => ?_⟩; (try dsimp only at hSw); go_simp; try with_reducible rfl
      simp only [Act.put, List.setIfInBounds_toArray, List.set_cons_zero, List.set_cons_succ]
      refine wpAnyH_done (by kernel_rfl) ?_ _
      refine lastH (by decide) (fun o ho K' hK => ?_)
      simp only [List.getElem?_toArray, List.getElem?_cons_zero, List.getElem?_cons_succ, Option.some.injEq] at ho; subst ho
      go_simp
      refine hK.out _ _ ?_
      clear hK K' hSC hS0 hS xc xf hvb
      go_wp2_with fail
      go_roundw
      case rel => exact ⟨j + 1, by omega, by go_num, HNW.out⟩
      case measure => simp [intOf]; omega
    · obtain rfl : j = 4 := by omega
      obtain ⟨v, hf, how, hfr, hz⟩ := hup
      obtain ⟨g, cap, rfl⟩ : ∃ g cap, v = .slice (some ⟨g, 0, none⟩) 4 cap := by
        rcases how.2 with ⟨_, h2⟩ | ⟨g, cap, cur, h2, _⟩
        · omega
        · exact ⟨g, cap, h2⟩
      have c0 : wr.cell? ⟨N + 4, 0, none⟩ = some (.int .i64 0) := cell_of_block hf 0
      have c1 : wr.cell? ⟨N + 4, 1, none⟩ = some (.int .i64 0) := cell_of_block hf 1
      have c2 : wr.cell? ⟨N + 4, 2, none⟩ = some (.slice none 0 0) := cell_of_block hf 2
      have c3 : wr.cell? ⟨N + 4, 3, none⟩ = some (.slice (some ⟨g, 0, none⟩) 4 cap) := cell_of_block hf 3
      have hnil {α : Type} {sz : Nat} {R : World → Nat → Nat → α → Prop} : SL wr sz R none 0 [] := ⟨Nat.le_refl _, ⟨by unfold maxLen; omega, fun _ => rfl⟩, fun h => absurd h (by simp)⟩
      have hSZ := HSZ.out
      have e0 : SL wr 1 RInt (some ⟨N, 0, none⟩) 1 [1] := SL.one ⟨cell_of_block ((hfr.block N (by omega) (by omega)).trans HB0.out) 0, by unfold I64; decide⟩
      have e1 : SL wr 1 RInt (some ⟨N + 1, 0, none⟩) 2 [2, 3] := by
        have hb0 := (hfr.block (N + 1) (by omega) (by omega)).trans HB1.out
        refine ⟨by simp, ⟨by unfold maxLen; omega, fun e => by cases e⟩, fun _ => ⟨N + 1, 0, rfl, fun i x hi => ?_⟩⟩
        match i, hi with
        | 0, hi => obtain rfl := Option.some.inj hi; exact ⟨cell_of_block hb0 0, by unfold I64; omega⟩
        | 1, hi => obtain rfl := Option.some.inj hi; exact ⟨cell_of_block hb0 1, by unfold I64; omega⟩
      have e2 : SL wr 1 RInt (some ⟨N + 2, 0, none⟩) 1 [1] := SL.one ⟨cell_of_block ((hfr.block (N + 2) (by omega) (by omega)).trans HB2.out) 0, by unfold I64; decide⟩
      have hcell : ∀ i u, (flatB N 4)[i]? = some u → wr.cell? ⟨g, i, none⟩ = some u := fun i u hi => by
        have hlt : i < 20 := by have := (List.getElem?_eq_some_iff.1 hi).1; simpa [flatB, List.range_succ] using this
        rw [how.cellAt i (by omega)]; exact hi
      have hv : VFun wr (.agg #[.int .i64 0, .int .i64 0, .slice none 0 0, .slice (some ⟨g, 0, none⟩) 4 cap]) ⟨0, 0, [], ex7⟩ := by
        have hcm : 4 ≤ cap ∧ cap ≤ maxLen := by
          rcases how.2 with ⟨h1, _⟩ | ⟨g', cap', cur, h2, _, _, h3, h4, _⟩
          · cases h1
          · simp only [Value.slice.injEq] at h2; omega
        refine ⟨none, 0, some ⟨g, 0, none⟩, cap, rfl, hnil, ⟨by simp [ex7]; omega, ⟨hcm.2, fun e => by cases e⟩, fun _ => ⟨g, 0, rfl, fun i x hi => ?_⟩⟩, by unfold I64; decide, by unfold I64; decide⟩
        match i, hi with
        | 0, hi => obtain rfl := Option.some.inj hi; exact ⟨⟨none, 0, hcell 0 _ rfl, hnil⟩, ⟨none, 0, hcell 1 _ rfl, hnil⟩, ⟨hcell 2 _ rfl, by unfold I64; decide⟩, ⟨hcell 3 _ rfl, by unfold I64; decide⟩, ⟨some ⟨N, 0, none⟩, 1, hcell 4 _ rfl, e0⟩⟩
        | 1, hi => obtain rfl := Option.some.inj hi; exact ⟨⟨none, 0, hcell 5 _ rfl, hnil⟩, ⟨none, 0, hcell 6 _ rfl, hnil⟩, ⟨hcell 7 _ rfl, by unfold I64; decide⟩, ⟨hcell 8 _ rfl, by unfold I64; decide⟩, ⟨some ⟨N + 1, 0, none⟩, 2, hcell 9 _ rfl, e1⟩⟩
        | 2, hi => obtain rfl := Option.some.inj hi; exact ⟨⟨none, 0, hcell 10 _ rfl, hnil⟩, ⟨none, 0, hcell 11 _ rfl, hnil⟩, ⟨hcell 12 _ rfl, by unfold I64; decide⟩, ⟨hcell 13 _ rfl, by unfold I64; decide⟩, ⟨some ⟨N + 2, 0, none⟩, 1, hcell 14 _ rfl, e2⟩⟩
        | 3, hi => obtain rfl := Option.some.inj hi; exact ⟨⟨none, 0, hcell 15 _ rfl, hnil⟩, ⟨none, 0, hcell 16 _ rfl, hnil⟩, ⟨hcell 17 _ rfl, by unfold I64; decide⟩, ⟨hcell 18 _ rfl, by unfold I64; decide⟩, ⟨none, 0, hcell 19 _ rfl, hnil⟩⟩
      have HLS := Lib.hid (loops_any ⟨0, 0, [], ex7⟩ _ wr hv (by simp [ex7]))
      have HF := Lib.hid hf
      have HV := Lib.hid hv
      have HBW : Hid (Below w.heap.size w wr) := Lib.hid (by rw [← HN.out]; exact HBEL.out.trans (hfr.below (by omega) (fun b hb => by omega)))
      have hNz : N + 4 < wr.heap.size := by omega
      clear hf how hfr hz hnil e0 e1 e2 hcell hv
      go_wp2_with fail
      refine HLS.out.mono ?_
      rintro e w2 ⟨⟨U, hs, rfl, hH, hM, -⟩, hb2⟩
      have hM : LsM ex7 w2 wr.heap.size (hdL ex7 4).length U hs (fun i => lbL ex7 (hs i) 4) := hM
      have hH : ∀ i, i < (hdL ex7 4).length → (hdL ex7 4)[i]? = some (hs i) := hH
      rw [ex7_hd] at hM hH
      have hh0 : hs 0 = 1 := (Option.some.inj (hH 0 (by decide))).symm
      obtain ⟨gl, cl, hU0, hgl1, hgl2, q0, q1, q2⟩ := hM.at_ (i := 0) (by decide)
      obtain ⟨A1, k1, hU1, hs1⟩ := hM.vs (i := 0) (by decide) (by rw [hh0, ex7_lb]; decide)
      obtain ⟨A2, k2, hU2, hs2⟩ := hM.vsE (i := 0) (by decide) (by rw [hh0, ex7_en]; decide)
      rw [hh0, ex7_lb] at hU1 hs1
      rw [hh0, ex7_en] at hU2 hs2
      rw [hh0] at q0
      rw [hU0]
      simp only [Nat.mul_zero, Nat.zero_add, Nat.zero_mul] at q0 q1 q2 hU1 hU2 hs1 hs2
      rw [hU1] at q1 hs1
      rw [hU2] at q2 hs2
      have HS1 := Lib.hid hs1
      have HS2 := Lib.hid hs2
      have HQ1 := Lib.hid q1
      have HQ2 := Lib.hid q2
      have HBF : Hid (Below w.heap.size w w2) := Lib.hid (HBW.out.trans (hb2.mono HBW.out.size))
      have HL12 : Hid (∀ w' : World, VS (w'.alloc (.cells #[.int .i64 1, .int .i64 2] 3)) 1 RInt (.slice (some ⟨w'.heap.size, 0, none⟩) 2 2) (zs [1, 2])) := Lib.hid (fun w' => by
        have hb := heap_alloc_new w' (.cells #[.int .i64 1, .int .i64 2] 3)
        refine ⟨some ⟨w'.heap.size, 0, none⟩, 2, rfl, ⟨by simp [zs], ⟨by unfold maxLen; omega, fun e => by cases e⟩, fun _ => ⟨w'.heap.size, 0, rfl, fun i x hi => ?_⟩⟩⟩
        match i, hi with
        | 0, hi => obtain rfl := Option.some.inj hi; exact ⟨cell_of_block hb 0, by show I64 (1 : Int); unfold I64; decide⟩
        | 1, hi => obtain rfl := Option.some.inj hi; exact ⟨cell_of_block hb 1, by show I64 (2 : Int); unfold I64; decide⟩)
      have HL0 : Hid (∀ w' : World, VS (w'.alloc (.cells #[.int .i64 0] 3)) 1 RInt (.slice (some ⟨w'.heap.size, 0, none⟩) 1 1) (zs [0])) := Lib.hid (fun w' => by
        have hb := heap_alloc_new w' (.cells #[.int .i64 0] 3)
        exact ⟨_, _, rfl, SL.one ⟨cell_of_block hb 0, by unfold I64; decide⟩⟩)
      have HA := Lib.hid (sameInts_any (zs [1, 2]) (zs [1, 2]) _ _ (w2.alloc (.cells #[.int .i64 1, .int .i64 2] 3)) (HS1.out _ ((Below.refl _ _).alloc (Nat.le_refl _) _)) (HL12.out w2))
      clear hM hH hU0 hU1 hU2 hs1 hs2 hb2 HLS q2
      simp only [List.length_cons, List.length_nil, Nat.zero_add]
      go_wp2_with fail
      refine HA.out.mono ?_
      rintro e w4 ⟨rfl, n4, hw4⟩
      have HK4 : Hid (Below w2.heap.size w2 w4) := Lib.hid (by rw [hw4]; exact below_drewN ((Below.refl _ _).alloc (Nat.le_refl _) _) n4)
      have q24 := (HK4.out.cell (p := ⟨gl, 2, none⟩) hgl2).trans HQ2.out
      have HB := Lib.hid (sameInts_any (zs [0]) (zs [0]) _ _ (w4.alloc (.cells #[.int .i64 0] 3)) (HS2.out _ (HK4.out.alloc HK4.out.size _)) (HL0.out w4))
      clear hw4 HA q0 q1
      simp only [decide_true, List.length_cons, List.length_nil, Nat.zero_add] at HB ⊢
      go_wp2_with fail
      refine HB.out.mono ?_
      rintro e w5 ⟨rfl, n5, hw5⟩
      have HK5 : Hid (Below w.heap.size w w5) := Lib.hid (by rw [hw5]; exact HBF.out.trans ((below_drewN (HK4.out.alloc HK4.out.size _) n5).mono HBF.out.size))
      clear hw5 HB q24
      simp only [decide_true]
      go_wp2_with fail
      go_ret
      exact ⟨rfl, HK5.out⟩
end Go.Proofs.Ytflbooopgjgkbaa

/- The program's Depth: in how many loops each block is. -/
namespace Go.Proofs.Ytflbooopgjgkbaa
open Go.ChangeShapes Go.WideShapes Go.RowKit Go.Deep
set_option linter.unusedVariables false

/-! ### In mathematics -/
/-- In how many loops a block is. -/
def dpN (bs : List BlkD) (b : Nat) : Nat := ((List.range bs.length).filter fun h => lpB bs h b).length
theorem dpN_le (bs : List BlkD) (b : Nat) : dpN bs b ≤ bs.length := by unfold dpN; exact Nat.le_trans (List.length_filter_le _ _) (by simp)
theorem cnt_one {p q : Nat → Bool} {b : Nat} (he : ∀ h, h ≠ b → p h = q h) (hq : q b = false) (n : Nat) :
    ((List.range n).filter p).length = ((List.range n).filter q).length + (if b < n ∧ p b = true then 1 else 0) := by
  induction n with
  | zero => simp
  | succ n ih =>
    rw [List.range_succ, List.filter_append, List.filter_append, List.length_append, List.length_append, ih]
    by_cases e : n = b
    · subst e
      rw [if_neg (fun h => by omega)]
      cases hp : p n
      · simp [hp, hq]
      · simp [hp, hq]
    · have h1 : ([n].filter p).length = ([n].filter q).length := by
        cases hp : p n
        · have := he n e; rw [hp] at this; simp [hp, ← this]
        · have := he n e; rw [hp] at this; simp [hp, ← this]
      rw [h1]
      by_cases hl : b < n ∧ p b = true
      · rw [if_pos hl, if_pos ⟨by omega, hl.2⟩]; omega
      · rw [if_neg hl, if_neg (fun h => hl ⟨by omega, h.2⟩)]; omega
theorem dp_out {bs : List BlkD} {hd : Nat → Bool} {ar : Nat → Int} (N : NestE bs hd ar) {b : Nat} (hb : b < bs.length) (ha : ar b < 0) : dpN bs b = if hd b = true then 1 else 0 := by
  rcases N.ar b hb with ⟨_, h2⟩ | ⟨a, h2, _⟩
  · have h3 := cnt_one (p := fun h => lpB bs h b) (q := fun _ => false) (b := b) (fun h hne => h2 h hne) rfl bs.length
    have h4 : ((List.range bs.length).filter fun _ => false).length = 0 := by simp
    unfold dpN
    rw [h3, h4, lp_self_iff, N.hd b hb]
    by_cases e : hdB bs b = true
    · rw [if_pos ⟨hb, e⟩, if_pos e]
    · rw [if_neg (fun k => e k.2), if_neg e]
  · omega
theorem dp_in {bs : List BlkD} {ord : Nat → Nat} (NN : NearB bs (nearD bs) ord) {hd : Nat → Bool} {ar : Nat → Int} (N : NestE bs hd ar) {b a : Nat} (hb : b < bs.length) (ha : ar b = (a : Int)) :
    dpN bs b = dpN bs a + (if hd b = true then 1 else 0) := by
  rcases N.ar b hb with ⟨h2, _⟩ | ⟨a', h2, h3, h4, h5, h6⟩
  · omega
  · obtain rfl : a' = a := by omega
    have h7 := cnt_one (p := fun h => lpB bs h b) (q := fun h => lpB bs h a') (b := b) (fun h hne => by
      cases e : lpB bs h b
      · cases e2 : lpB bs h a'
        · rfl
        · rw [lp_trans NN e2 h5] at e; cases e
      · exact (h6 h hne e).symm) (by
      cases e : lpB bs b a'
      · rfl
      · exact absurd (lp_anti NN h5 e) h4) bs.length
    unfold dpN
    rw [h7]
    simp only [lp_self_iff]
    rw [N.hd b hb]
    by_cases e : hdB bs b = true
    · rw [if_pos ⟨hb, e⟩, if_pos e]
    · rw [if_neg (fun k => e k.2), if_neg e]
theorem dp_none {bs : List BlkD} {ord : Nat → Nat} (NN : NearB bs (nearD bs) ord) {b : Nat} (hb : b ∉ orderF bs) : dpN bs b = 0 := by
  unfold dpN
  rw [List.length_eq_zero_iff, List.filter_eq_nil_iff]
  intro h _ hl
  exact hb (orderF_mem.2 (lp_reach NN hl))
/-- What is known when the first k of the order were gone through. -/
def dpS (bs : List BlkD) (k x : Nat) : Nat := if x ∈ (orderF bs).take k then dpN bs x else 0
theorem dpS_le (bs : List BlkD) (k x : Nat) : dpS bs k x ≤ bs.length := by unfold dpS; split; exact dpN_le _ _; omega
theorem dpS_step {bs : List BlkD} {k b : Nat} (hb : (orderF bs)[k]? = some b) (x : Nat) : dpS bs (k + 1) x = if x = b then dpN bs b else dpS bs k x := by
  unfold dpS
  rw [take_succ_of hb]
  by_cases e : x = b
  · subst e; rw [if_pos (by simp), if_pos rfl]
  · rw [if_neg e]
    by_cases e2 : x ∈ (orderF bs).take k
    · rw [if_pos e2, if_pos (by simp [e2])]
    · rw [if_neg e2, if_neg (by simp [e2, e])]
theorem dpS_new {bs : List BlkD} {k b : Nat} (hb : (orderF bs)[k]? = some b) : dpS bs k b = 0 := by
  unfold dpS
  rw [if_neg]
  intro h
  have hnd := orderF_nodup bs
  obtain ⟨j, hj⟩ := List.mem_iff_getElem?.1 h
  have hjk : j < k := by have := (List.getElem?_eq_some_iff.1 hj).1; simp at this; omega
  rw [List.getElem?_take_of_lt hjk] at hj
  have h1 := List.getElem?_eq_some_iff.1 hj
  have h2 := List.getElem?_eq_some_iff.1 hb
  exact List.pairwise_iff_getElem.1 hnd j k h1.1 h2.1 hjk (h1.2.trans h2.2.symm)
theorem dpS_head {bs : List BlkD} {ord : Nat → Nat} (NN : NearB bs (nearD bs) ord) {k b a : Nat} (hb : (orderF bs)[k]? = some b) (hl : lpB bs a b = true) (hne : a ≠ b) : dpS bs k a = dpN bs a := by
  unfold dpS
  rw [if_pos]
  have h1 := orderF_dm hb a (lp_dm NN hl)
  rw [take_succ_of hb, List.mem_append, List.mem_singleton] at h1
  rcases h1 with h | h
  · exact h
  · exact absurd h hne
theorem dpS_all {bs : List BlkD} {ord : Nat → Nat} (NN : NearB bs (nearD bs) ord) {k : Nat} (hk : (orderF bs).length ≤ k) (x : Nat) : dpS bs k x = dpN bs x := by
  unfold dpS
  rw [List.take_of_length_le hk]
  by_cases e : x ∈ orderF bs
  · rw [if_pos e]
  · rw [if_neg e, dp_none NN e]

/-- What is told: of each block in how many loops it is; in memory of the call's own. -/
def ToldDp (bs : List BlkD) (w : World) (e : Ending) (w' : World) : Prop :=
  (∃ G, e = .returned (.slice (some ⟨G, 0, none⟩) bs.length bs.length) ∧ w.heap.size ≤ G ∧ w'.rowIs G 3 bs.length (fun b => .int .i64 (dpN bs b : Int)) ∧ ∃ ord, NearB bs (nearD bs) ord) ∧ Below w.heap.size w w'
set_option maxRecDepth 100000 in
set_option maxHeartbeats 8000000 in
theorem depth_any (f : FunD) (v : Value) (w : World) (hv : VFun w v f) (hn : f.blocks.length ≤ 1000) : Calls Try.prog 15 #[v] w (ToldDp f.blocks w) := by
  have hv0 := hv
  obtain ⟨Ar, cr, A, c, rfl, -, -, -, -⟩ := hv
  go_enter Try.func15, Try.ntmps15
  go_upto_region 1 with fail
  obtain ⟨w1, hw1, hs1, hk1, hbel1, hc1, -⟩ := named w #[.int .i64 f.params, .int .i64 f.result, .slice Ar f.regs.length cr, .slice A f.blocks.length c] 25
  rw [← hw1]
  have c0 : w1.cell? ⟨w.heap.size, 0, none⟩ = some (.int .i64 f.params) := hc1 0 _ rfl
  have c1 : w1.cell? ⟨w.heap.size, 1, none⟩ = some (.int .i64 f.result) := hc1 1 _ rfl
  have c2 : w1.cell? ⟨w.heap.size, 2, none⟩ = some (.slice Ar f.regs.length cr) := hc1 2 _ rfl
  have c3 : w1.cell? ⟨w.heap.size, 3, none⟩ = some (.slice A f.blocks.length c) := hc1 3 _ rfl
  have HB1 := Lib.hid hbel1
  have HS1 : Hid (w1.heap.size = w.heap.size + 1) := Lib.hid hs1
  have hV1 := VFun.keep hk1 hv0
  clear hw1 hs1 hk1 hc1 hbel1 hv0
  go_wp2_with fail
  refine (waysOf_any f _ w1 hV1 hn).mono ?_
  rintro e w2 ⟨⟨nm, en, Ao, co, Gn, Ga, G1, A2, c2', ord, rfl, hW, hNB⟩, hb2⟩
  obtain ⟨n, hnn⟩ : ∃ n, f.blocks.length = n := ⟨_, rfl⟩
  obtain ⟨ln, hln⟩ : ∃ ln, (orderF f.blocks).length = ln := ⟨_, rfl⟩
  have HNN := Lib.hid hnn
  have HLN := Lib.hid hln
  have hlnn : ln ≤ n := by rw [← hln, ← hnn]; exact orderF_len _
  have HW := Lib.hid hW
  have HNB := Lib.hid hNB
  have HB2 : Hid (Below w.heap.size w w2) := Lib.hid (HB1.out.trans (hb2.mono (by have := HS1.out; omega)))
  unfold wyV
  rw [hnn, hln]
  rw [hnn] at hn
  clear hnn hln hW hNB hb2 c0 c1 c2 c3 hV1 HB1 HS1
  go_wp2_with fail
  obtain ⟨w3, hw3, hs3, hk3, hbel3, hc3, -⟩ := named w2 #[.slice Ao ln co, .slice (some ⟨Gn, 0, none⟩) n n, .slice (some ⟨Ga, 0, none⟩) n n, .slice (some ⟨G1, 0, none⟩) n n, .slice A2 n c2'] 70
  rw [← hw3]
  have hW3 := HW.out.keep hk3
  have hne := nest_any f.blocks ord HNB.out nm en Ao co Gn Ga G1 A2 c2' w3 hW3
  unfold wyV at hne
  rw [HNN.out, HLN.out] at hne
  have HW3 := Lib.hid hW3
  have HC3 := Lib.hid hc3
  have HB3 : Hid (Below w.heap.size w w3) := Lib.hid (HB2.out.trans (hbel3.mono HB2.out.size))
  have HS3 : Hid (w3.heap.size = w2.heap.size + 1) := Lib.hid hs3
  clear hw3 hs3 hk3 hc3 hbel3 hW3
  refine hne.mono ?_
  rintro e w4 ⟨⟨GA, GR, Au, cu, hd, ar, rfl, rA, rR, hNE⟩, hb4⟩
  have HNE := Lib.hid hNE
  have HRA := Lib.hid rA
  have HRR := Lib.hid rR
  have HB4 := Lib.hid hb4
  rw [HNN.out]
  clear hne hNE rA rR hb4
  have hmk := run_make_row' (P := Try.prog) 22 3 (.int .i64 0) 8 Try.underlying22 Try.info3 rfl .i64 .i64 n (by omega) (by omega)
  go_upto_region 4 with fail
  clear hmk
  obtain ⟨T, hT⟩ : ∃ T, T = w4.heap.size := ⟨_, rfl⟩
  obtain ⟨w5, hw5⟩ : ∃ w5, w5 = (w4.alloc (.cells #[.slice (some ⟨GA, 0, none⟩) n n, .slice (some ⟨GR, 0, none⟩) n n, .slice Au n cu] 73)).alloc (.cells (madeCells #[.int .i64 0] n) 3) := ⟨_, rfl⟩
  obtain ⟨b0, b1, hbel⟩ : w5.heap[T]? = some (.cells #[.slice (some ⟨GA, 0, none⟩) n n, .slice (some ⟨GR, 0, none⟩) n n, .slice Au n cu] 73) ∧ w5.heap[T + 1]? = some (.cells (madeCells #[.int .i64 0] n) 3) ∧ Below T w4 w5 := by
    subst hw5 hT
    have h1 := heap_alloc_new w4 (.cells #[.slice (some ⟨GA, 0, none⟩) n n, .slice (some ⟨GR, 0, none⟩) n n, .slice Au n cu] 73)
    have h2 := heap_alloc_new (w4.alloc (.cells #[.slice (some ⟨GA, 0, none⟩) n n, .slice (some ⟨GR, 0, none⟩) n n, .slice Au n cu] 73)) (.cells (madeCells #[.int .i64 0] n) 3)
    exact ⟨(Below.heap_alloc _ _ _ (by simp)).trans h1, by simpa using h2, ((Below.refl _ w4).alloc (Nat.le_refl _) _).alloc (by simp) _⟩
  have hsz5 : w5.heap.size = T + 2 := by rw [hw5, hT]; simp
  have lA := HRA.out.lt
  have lR := HRR.out.lt
  rw [← hT] at lA lR
  have hrow := row_made b1
  have HTB := Lib.hid b0
  have HROW := Lib.hid hrow
  have HRA5 : Hid (w5.rowIs GA 4 n (fun b => .bool (hd b))) := Lib.hid (by have h1 := HRA.out; rw [HNN.out] at h1; exact h1.of_block (hbel.block GA lA))
  have HRR5 : Hid (w5.rowIs GR 3 n (fun b => .int .i64 (ar b))) := Lib.hid (by have h1 := HRR.out; rw [HNN.out] at h1; exact h1.of_block (hbel.block GR lR))
  have HS5 : Hid (w2.heap.size + 1 ≤ T ∧ w.heap.size ≤ w2.heap.size ∧ w3.heap.size = w2.heap.size + 1) := Lib.hid ⟨by have := HB4.out.size; have := HS3.out; omega, HB2.out.size, HS3.out⟩
  have HBB5 : Hid (Below w.heap.size w w5) := Lib.hid ((HB3.out.trans (HB4.out.mono (by have := HS5.out; omega))).trans (hbel.mono (by have := HS5.out; omega)))
  have HB35 : Hid (Below w3.heap.size w3 w5) := Lib.hid (HB4.out.trans (hbel.mono (by have := HS5.out; omega)))
  have hOo : SL w5 1 RInt Ao co (zs (orderF f.blocks)) := SInts.keep (kept_of_below HB35.out) HW3.out.ord
  have HOO := Lib.hid hOo
  rw [← hw5, ← hT]
  clear hw5 hT hbel b0 b1 hrow HRA HRR HB2 HB4 HB3 HS3 hOo
  have HLA := Lib.hid lA
  have HLR := Lib.hid lR
  have HSZ5 := Lib.hid hsz5
  clear lA lR hsz5
  have HTC := Lib.hid (And.intro (cell_of_block HTB.out 0) (And.intro (cell_of_block HTB.out 1) (cell_of_block HTB.out 2)))
  have x0 : w5.cell? ⟨w2.heap.size, 0, none⟩ = some (.slice Ao ln co) := (HB35.out.cell (p := ⟨w2.heap.size, 0, none⟩) (by have := HS5.out; show w2.heap.size < w3.heap.size; omega)).trans (HC3.out 0 _ rfl)
  go_wp2_with fail
  go_loopw [19] (fun s19 wr => ∃ k : Nat, k ≤ ln ∧ s19 = .int .i64 (k : Int) ∧ wr.rowIs (T + 1) 3 n (fun b => .int .i64 (dpS f.blocks k b : Int)) ∧ FrX (fun b => b = T + 1) w5 wr) (fun s19 _ => ln - (intOf s19).toNat)
  case atStart => exact ⟨0, Nat.zero_le _, rfl, HROW.out.congr fun _ _ => by simp [dpS], FrX.refl _ _⟩
  case round =>
    obtain ⟨k, hk, rfl, hR, hfr⟩ := hrel
    have HR := Lib.hid hR
    have HFR := Lib.hid hfr
    by_cases hkl : k < ln
    · obtain ⟨b, hOb⟩ : ∃ b, (orderF f.blocks)[k]? = some b := ⟨_, List.getElem?_eq_getElem (by rw [HLN.out]; exact hkl)⟩
      have hbn : b < n := by rw [← HNN.out]; exact reachF_lt (orderF_mem.1 (List.mem_iff_getElem?.2 ⟨_, hOb⟩))
      obtain ⟨bo, oo, rfl, hcs⟩ := HW3.out.ord.2.2 (by rw [zs_len, HLN.out]; omega)
      have hT5 : T + 2 = w5.heap.size := HSZ5.out.symm
      have hbo3 : w3.cell? ⟨bo, oo + k, none⟩ = some (.int .i64 (b : Int)) := by
        have h1 := (hcs k (b : Int) (by unfold zs; rw [List.getElem?_map, hOb]; rfl)).1
        rw [Nat.mul_one] at h1; exact h1
      have hbl := block_lt_of_cell hbo3
      have hbo : w5.cell? ⟨bo, oo + k, none⟩ = some (.int .i64 (b : Int)) := (HB35.out.cell (p := ⟨bo, oo + k, none⟩) hbl).trans hbo3
      have x1 : wr.cell? ⟨T, 0, none⟩ = some (.slice (some ⟨GA, 0, none⟩) n n) := (World.cell?_of_block (a := ⟨T, 0, none⟩) (hfr.block T (by omega) (by omega))).trans HTC.out.1
      have x2 : wr.cell? ⟨T, 1, none⟩ = some (.slice (some ⟨GR, 0, none⟩) n n) := (World.cell?_of_block (a := ⟨T, 1, none⟩) (hfr.block T (by omega) (by omega))).trans HTC.out.2.1
      have dA := (HRA5.out.of_block (hfr.block GA (by have := HLA.out; omega) (by have := HLA.out; omega))).cell hbn
      have dR := (HRR5.out.of_block (hfr.block GR (by have := HLR.out; omega) (by have := HLR.out; omega))).cell hbn
      have cO : wr.cell? ⟨bo, oo + k, none⟩ = some (.int .i64 (b : Int)) := (World.cell?_of_block (a := ⟨bo, oo + k, none⟩) (hfr.block bo (block_lt_of_cell hbo) (by have := HS5.out; show ¬ bo = T + 1; have : bo < w3.heap.size := hbl; omega))).trans hbo
      have hD0 := hR.cell hbn
      rw [dpS_new hOb] at hD0
      have hDf := hR.frozen b
      have HOb := Lib.hid hOb
      have hk0 : (0 : Int) ≤ k := by omega
      have hk1 : (k : Int) < ln := by omega
      have hdb : dpN f.blocks b ≤ n := by rw [← HNN.out]; exact dpN_le _ _
      have hal := HNE.out.ar b (by rw [HNN.out]; exact hbn)
      have HAL := Lib.hid hal
      by_cases hneg : ar b < 0
      · have hout := dp_out HNE.out (by rw [HNN.out]; exact hbn) hneg
        have HOUT := Lib.hid hout
        clear hal hout hOb hbo hbo3 hbl hcs hR hfr hT5
        cases hh : hd b
        · rw [hh] at dA
          clear hD0 hDf
          go_wp2_with fail
          go_roundw
          case rel =>
            refine ⟨k + 1, by omega, by go_num, HR.out.congr fun x _ => ?_, HFR.out⟩
            rw [dpS_step HOb.out]
            by_cases e : x = b
            · subst e; rw [HOUT.out, hh, dpS_new HOb.out]; simp
            · simp [e]
          case measure => simp [intOf]; omega
        · rw [hh] at dA
          go_wp2_with fail
          go_roundw
          case rel =>
            refine ⟨k + 1, by omega, by go_num, (HR.out.set b _).congr fun x _ => ?_, HFR.out.setCell (p := ⟨T + 1, b, none⟩) (.inl rfl) _⟩
            rw [dpS_step HOb.out]
            by_cases e : x = b
            · subst e; rw [HOUT.out, hh]; simp
            · simp [e]
          case measure => simp [intOf]; omega
      · obtain ⟨a, ha⟩ : ∃ a : Nat, ar b = (a : Int) := ⟨(ar b).toNat, by omega⟩
        have hin := dp_in HNB.out HNE.out (by rw [HNN.out]; exact hbn) ha
        have hl : a < n ∧ a ≠ b ∧ lpB f.blocks a b = true := by
          rcases hal with ⟨h2, _⟩ | ⟨a', h2, h3, h4, h5, h6⟩
          · omega
          · obtain rfl : a' = a := by omega
            exact ⟨by rw [← HNN.out]; exact h3, h4, h5⟩
        have hDa := hR.cell hl.1
        rw [dpS_head HNB.out hOb hl.2.2 hl.2.1] at hDa
        have hda : dpN f.blocks a ≤ n := by rw [← HNN.out]; exact dpN_le _ _
        have HIN := Lib.hid hin
        have hla := hl.1
        have HLL := Lib.hid hl
        rw [ha] at dR
        have hGA := HLA.out
        have hGR := HLR.out
        clear hal hin hOb hbo hbo3 hbl hcs hR hfr hT5 hl hneg ha
        cases hh : hd b
        · rw [hh] at dA
          go_wp2_with fail
          go_roundw
          case rel =>
            refine ⟨k + 1, by omega, by go_num, (HR.out.set b _).congr fun x _ => ?_, HFR.out.setCell (p := ⟨T + 1, b, none⟩) (.inl rfl) _⟩
            rw [dpS_step HOb.out]
            by_cases e : x = b
            · subst e; rw [HIN.out, hh]; simp
            · simp [e]
          case measure => simp [intOf]; omega
        · rw [hh] at dA
          go_wp2_with fail
          go_roundw
          case rel =>
            refine ⟨k + 1, by omega, by go_num, ((HR.out.set b _).set b _).congr fun x _ => ?_, (HFR.out.setCell (p := ⟨T + 1, b, none⟩) (.inl rfl) _).setCell (p := ⟨T + 1, b, none⟩) (.inl rfl) _⟩
            rw [dpS_step HOb.out]
            by_cases e : x = b
            · subst e; rw [HIN.out, hh]; simp
            · simp [e]
          case measure => simp [intOf]; omega
    · obtain rfl : k = ln := by omega
      clear hR hfr
      go_wp2_with fail
      go_ret
      refine ⟨⟨T + 1, by rw [HNN.out]; rfl, by have := HS5.out; omega, ?_, ord, HNB.out⟩, HBB5.out.trans (HFR.out.below (by have := HBB5.out.size; omega) (fun b hb => by have : b = T + 1 := hb; have := HS5.out; omega))⟩
      rw [HNN.out]
      exact HR.out.congr fun b _ => by rw [dpS_all HNB.out (by rw [HLN.out]; exact Nat.le_refl _)]
end Go.Proofs.Ytflbooopgjgkbaa
