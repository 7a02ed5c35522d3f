/- The example at the head of the statements of layer 7 holds. -/
import Derived.Test.YtbhndfknjkeilaaLpSJ
import Derived.Test.YtbhndfknjkeilaaClnJ
import Derived.Deep.RegionHeld3
import Derived.Test.YtbhndfknjkeilaaDmEJ
namespace Go.Proofs.Ytbhndfknjkeilaa
open Go.ChangeShapes Go.WideShapes Go.RowKit Go.Deep
set_option linter.unusedVariables false
set_option linter.unusedSimpArgs false

def ex7 : List BlkD := [⟨[], [], ⟨0, 0, [1]⟩⟩, ⟨[], [], ⟨0, 0, [2, 3]⟩⟩, ⟨[], [], ⟨0, 0, [1]⟩⟩, ⟨[], [], ⟨0, 0, []⟩⟩]
theorem ex7_hd : hdL ex7 4 = [1] := by decide +kernel
theorem ex7_lb : lbL ex7 1 4 = [1, 2] := by decide +kernel
theorem ex7_en : enL ex7 1 = [0] := by decide +kernel
/-- Where each end leads, in memory. -/
def toV (N i : Nat) : Value := if i = 0 then .slice (some ⟨N, 0, none⟩) 1 1 else if i = 1 then .slice (some ⟨N + 1, 0, none⟩) 2 2 else if i = 2 then .slice (some ⟨N + 2, 0, none⟩) 1 1 else .slice none 0 0
def flatB (N j : Nat) : List Value := (List.range j).flatMap fun i => [.slice none 0 0, .slice none 0 0, .int .i64 0, .int .i64 0, toV N i]
theorem flatB_succ (N j : Nat) : flatB N (j + 1) = flatB N j ++ [.slice none 0 0, .slice none 0 0, .int .i64 0, .int .i64 0, toV N j] := by unfold flatB; rw [List.range_succ, List.flatMap_append]; simp
theorem oneV {N j : Nat} {u : Value} (h : u ∈ [Value.slice none 0 0, .slice none 0 0, .int .i64 0, .int .i64 0, toV N j]) : u.oneCell' = true := by
  simp only [List.mem_cons, List.not_mem_nil, or_false] at h
  rcases h with rfl | rfl | rfl | rfl | rfl
  · rfl
  · rfl
  · rfl
  · rfl
  · unfold toV; split
    · rfl
    · split
      · rfl
      · split <;> rfl
theorem cells_new_ (w : World) (cs : List Value) (t : TypeId) : ∀ j u, cs[j]? = some u → ((w.alloc (.cells cs.toArray t)).drew).cell? ((⟨w.heap.size, 0, none⟩ : Addr).add j) = some u := by
  intro j u hj
  have hb := heap_alloc_new w (.cells cs.toArray t)
  have := cell_of_row (w.alloc (.cells cs.toArray t)) w.heap.size j cs.toArray t (0, 0) hb
  have e : ((⟨w.heap.size, 0, none⟩ : Addr).add j) = ⟨w.heap.size, j, none⟩ := by unfold Addr.add; split <;> simp_all
  rw [e]
  exact this.trans (by simpa using hj)
/-- How many blocks the example has so far. -/
def UpI (W5 : World) (N j : Nat) (wq : World) : Prop := ∃ v, wq.heap[N + 4]? = some (.cells #[.int .i64 0, .int .i64 0, .slice none 0 0, v] 25) ∧ wq.ownsRow (N + 5) 48 5 v j (flatB N j) ∧ FrX (fun b => b = N + 4) W5 wq ∧ N + 5 ≤ wq.heap.size
def UpV (W5 : World) (N j : Nat) (wq : World) (v : Value) : Prop := wq.heap[N + 4]? = some (.cells #[.int .i64 0, .int .i64 0, .slice none 0 0, v] 25) ∧ wq.ownsRow (N + 5) 48 5 v j (flatB N j) ∧ FrX (fun b => b = N + 4) W5 wq ∧ N + 5 ≤ wq.heap.size ∧ W5.heap.size = N + 5
theorem UpI.step {W5 wq wC : World} {N j : Nat} {v v' : Value} (h : UpV W5 N j wq v) (hg : GroD wq wC v v') (_ho : wq.ownsRow (N + 5) 48 5 v j (flatB N j)) (_hj : j < 4) (hn : wC.ownsRow (N + 5) 48 5 v' (j + 1) (flatB N j ++ [.slice none 0 0, .slice none 0 0, .int .i64 0, .int .i64 0, toV N j])) :
    UpI W5 N (j + 1) (wC.setCell ⟨N + 4, 3, none⟩ v') := by
  obtain ⟨h1, h2, h3, h4, h5⟩ := h
  have hb : wC.heap[N + 4]? = wq.heap[N + 4]? := hg.block (N + 4) (by omega) (fun e => by have := (h2.lt _ e).1; omega)
  refine ⟨v', set_of_block v' (hb.trans h1), ownsRow_setCell_below (by rw [flatB_succ]; exact hn) (a := ⟨N + 4, 3, none⟩) (by show N + 4 < N + 5; omega) _, ?_, by have := hg.size; simp; omega⟩
  exact (hg.fr h3 (fun g hgg => .inr (by have := (h2.lt g hgg).1; omega))).setCell (.inl rfl) _

set_option maxRecDepth 100000 in
set_option maxHeartbeats 8000000 in
theorem up7_any (w : World) : Calls Try.prog 7 #[] w fun e w' => e = .returned (.bool true) ∧ Below w.heap.size w w' := by
  obtain ⟨ib, hi, hz0, hz1, hz2⟩ := info_parts Try.info48
  have HIB := Lib.hid (And.intro hi (And.intro hz0 (And.intro hz1 hz2)))
  clear hi hz0 hz1 hz2
  go_enter Try.func7, Try.ntmps7
  go_upto_region 3 with fail
  obtain ⟨N, hN⟩ : ∃ N, N = w.heap.size := ⟨_, rfl⟩
  rw [← hN]
  obtain ⟨W5, hW⟩ : ∃ W, W = ((((w.alloc (.cells #[.int .i64 1] 3)).alloc (.cells #[.int .i64 2, .int .i64 3] 3)).alloc (.cells #[.int .i64 1] 3)).alloc
    (.cells #[.int .i64 0, .int .i64 0, .slice (some ⟨N, 0, none⟩) 1 1, .int .i64 0, .int .i64 0, .slice (some ⟨N + 1, 0, none⟩) 2 2, .int .i64 0, .int .i64 0, .slice (some ⟨N + 1 + 1, 0, none⟩) 1 1, .int .i64 0, .int .i64 0, .slice none 0 0] 43)).alloc
    (.cells #[.int .i64 0, .int .i64 0, .slice none 0 0, .slice none 0 0] 25) := ⟨_, rfl⟩
  rw [← hW]
  obtain ⟨b0, b1, b2, b3, b4, hsz, hbel⟩ := boxes5 w N hN _ _ _ _ _ W5.drew (by rw [hW])
  have HB0 : Hid (W5.heap[N]? = some (.cells #[.int .i64 1] 3)) := Lib.hid b0
  have HB1 : Hid (W5.heap[N + 1]? = some (.cells #[.int .i64 2, .int .i64 3] 3)) := Lib.hid b1
  have HB2 : Hid (W5.heap[N + 2]? = some (.cells #[.int .i64 1] 3)) := Lib.hid b2
  have HB3 : Hid (W5.heap[N + 3]? = some (.cells #[.int .i64 0, .int .i64 0, .slice (some ⟨N, 0, none⟩) 1 1, .int .i64 0, .int .i64 0, .slice (some ⟨N + 1, 0, none⟩) 2 2, .int .i64 0, .int .i64 0, .slice (some ⟨N + 1 + 1, 0, none⟩) 1 1, .int .i64 0, .int .i64 0, .slice none 0 0] 43)) := Lib.hid b3
  have HU0 : Hid (UpI W5 N 0 W5) := Lib.hid ⟨_, b4, World.ownsRow_nil _ _ _ _, FrX.refl _ _, by have : W5.heap.size = N + 5 := hsz; omega⟩
  have HSZ : Hid (W5.heap.size = N + 5) := Lib.hid hsz
  have HBEL : Hid (Below N w W5) := Lib.hid ⟨hbel.os, hbel.tape, hbel.output, hbel.size, hbel.block⟩
  have HN := Lib.hid hN
  rw [show N + 1 + 1 + 1 + 1 = N + 4 from rfl, show N + 1 + 1 + 1 = N + 3 from rfl]
  clear hW b0 b1 b2 b3 b4 hsz hbel hN
  go_wp2_with fail
  go_loopw [3] (fun s3 wq => ∃ j : Nat, j ≤ 4 ∧ s3 = .int .i64 (j : Int) ∧ UpI W5 N j wq) (fun s3 _ => 4 - (intOf s3).toNat)
  case atStart => exact ⟨0, by omega, rfl, HU0.out⟩
  case round =>
    obtain ⟨j, hj, rfl, hup⟩ := hrel
    by_cases hj4 : j < 4
    · obtain ⟨v, hf, how, hfr, hz⟩ := hup
      have HUP : Hid (UpV W5 N j wr v) := Lib.hid ⟨hf, how, hfr, hz, HSZ.out⟩
      have HOW := Lib.hid how
      have HFZ : Hid (wr.frozen? ⟨N + 4, 3, none⟩ = false) := Lib.hid (by unfold World.frozen?; simp [hf])
      have cv : wr.cell? ⟨N + 4, 3, none⟩ = some v := cell_of_block hf 3
      have hb3 := (hfr.block (N + 3) (by have := HSZ.out; omega) (by omega)).trans HB3.out
      have hterm : wr.cell? ⟨N + 3, j * 3, none⟩ = some (.int .i64 0) ∧ wr.cell? ⟨N + 3, j * 3 + 1, none⟩ = some (.int .i64 0) ∧ wr.cell? ⟨N + 3, j * 3 + 2, none⟩ = some (toV N j) := by
        rcases (by omega : j = 0 ∨ j = 1 ∨ j = 2 ∨ j = 3) with rfl | rfl | rfl | rfl
        · exact ⟨cell_of_block hb3 0, cell_of_block hb3 1, cell_of_block hb3 2⟩
        · exact ⟨cell_of_block hb3 3, cell_of_block hb3 4, cell_of_block hb3 5⟩
        · exact ⟨cell_of_block hb3 6, cell_of_block hb3 7, cell_of_block hb3 8⟩
        · exact ⟨cell_of_block hb3 9, cell_of_block hb3 10, cell_of_block hb3 11⟩
      obtain ⟨t0, t1, t2⟩ := hterm
      have hj0 : (0 : Int) ≤ j := by omega
      have hj1 : (j : Int) < 4 := by omega
      obtain ⟨At, nt, ct, htv⟩ : ∃ A n c, toV N j = .slice A n c := by
        unfold toV; split
        · exact ⟨_, _, _, rfl⟩
        · split
          · exact ⟨_, _, _, rfl⟩
          · split
            · exact ⟨_, _, _, rfl⟩
            · exact ⟨_, _, _, rfl⟩
      have HTV := Lib.hid htv
      rw [htv] at t2
      clear hf how hfr hb3 htv
      go_upto_region 6 with fail
      refine wp_region_last (L := 10) (S := fun w' => w'.cell? ⟨N + 4, 3, none⟩ = some v ∧ w'.cell? ⟨N + 3, j * 3, none⟩ = some (.int .i64 0) ∧ w'.cell? ⟨N + 3, j * 3 + 1, none⟩ = some (.int .i64 0) ∧ w'.cell? ⟨N + 3, j * 3 + 2, none⟩ = some ((.slice At nt ct))) (by kernel_rfl) (by rfl) (by kernel_rfl) (by kernel_rfl) ?_
      change wpAnyH _ _ _ _ _ _ _ _ (World.drew _)
      have hS : ∀ w', Below wr.heap.size wr w' → w'.cell? ⟨N + 4, 3, none⟩ = some v ∧ w'.cell? ⟨N + 3, j * 3, none⟩ = some (.int .i64 0) ∧ w'.cell? ⟨N + 3, j * 3 + 1, none⟩ = some (.int .i64 0) ∧ w'.cell? ⟨N + 3, j * 3 + 2, none⟩ = some ((.slice At nt ct)) := fun w' h => ⟨kept_of_below h _ _ cv, kept_of_below h _ _ t0, kept_of_below h _ _ t1, kept_of_below h _ _ t2⟩
      have hS0 := hS wr.drew (Below.refl _ _).drew
      clear cv t0 t1 t2
      refine takeH (i := 0) (some 17) (v := ?_) rfl (by kernel_rfl) (by kernel_rfl) (by kernel_rfl) (fun _ _ _ h => h) hS0 (fun o ho => ?_) ?_
      rotate_left
      · simp only [List.getElem?_toArray, List.getElem?_cons_zero, Option.some.injEq] at ho; subst ho; refine Or.inl ⟨by rfl, fun w' hSw => ?_⟩; (try dsimp only at hSw); go_simp; try with_reducible rfl
      simp only [Act.put, List.setIfInBounds_toArray, List.set_cons_zero, List.set_cons_succ]
      refine takeH (i := 1) (some 18) (v := ?_) rfl (by kernel_rfl) (by kernel_rfl) (by kernel_rfl) (fun _ _ _ h => h) hS0 (fun o ho => ?_) ?_
      rotate_left
      · simp only [List.getElem?_toArray, List.getElem?_cons_zero, List.getElem?_cons_succ, Option.some.injEq] at ho; subst ho; refine Or.inl ⟨by rfl, fun w' hSw => ?_⟩; (try dsimp only at hSw); go_simp; try with_reducible rfl
      simp only [Act.put, List.setIfInBounds_toArray, List.set_cons_zero, List.set_cons_succ]
      refine takeH (i := 2) (some 19) (v := ?_) rfl (by kernel_rfl) (by kernel_rfl) (by kernel_rfl) (fun _ _ _ h => h) hS0 (fun o ho => ?_) ?_
      rotate_left
      · simp only [List.getElem?_toArray, List.getElem?_cons_zero, List.getElem?_cons_succ, Option.some.injEq] at ho; subst ho; refine Or.inl ⟨by rfl, fun w' hSw => ?_⟩; (try dsimp only at hSw); go_simp; try with_reducible rfl
      simp only [Act.put, List.setIfInBounds_toArray, List.set_cons_zero, List.set_cons_succ]
      refine takeH (i := 3) (some 20) (v := ?_) rfl (by kernel_rfl) (by kernel_rfl) (by kernel_rfl) (fun _ _ _ h => h) hS0 (fun o ho => ?_) ?_
      rotate_left
      · simp only [List.getElem?_toArray, List.getElem?_cons_zero, List.getElem?_cons_succ, Option.some.injEq] at ho; subst ho; refine Or.inl ⟨by rfl, fun w' hSw => ?_⟩; (try dsimp only at hSw); go_simp; try with_reducible rfl
      simp only [Act.put, List.setIfInBounds_toArray, List.set_cons_zero, List.set_cons_succ]
      refine takeH (i := 4) (some 21) (v := ?_) rfl (by kernel_rfl) (by kernel_rfl) (by kernel_rfl) (fun _ _ _ h => h) hS0 (fun o ho => ?_) ?_
      rotate_left
      · simp only [List.getElem?_toArray, List.getElem?_cons_zero, List.getElem?_cons_succ, Option.some.injEq] at ho; subst ho; refine Or.inl ⟨by rfl, fun w' hSw => ?_⟩; (try dsimp only at hSw); go_simp; try with_reducible rfl
      simp only [Act.put, List.setIfInBounds_toArray, List.set_cons_zero, List.set_cons_succ]
      refine takeH (i := 5) (some 22) (v := ?_) rfl (by kernel_rfl) (by kernel_rfl) (by kernel_rfl) (fun _ _ _ h => h) hS0 (fun o ho => ?_) ?_
      rotate_left
      · simp only [List.getElem?_toArray, List.getElem?_cons_zero, List.getElem?_cons_succ, Option.some.injEq] at ho; subst ho; refine Or.inl ⟨by rfl, fun w' hSw => ?_⟩; (try dsimp only at hSw); go_simp; try with_reducible rfl
      simp only [Act.put, List.setIfInBounds_toArray, List.set_cons_zero, List.set_cons_succ]
      refine takeH (i := 6) (some 23) (v := ?_) rfl (by kernel_rfl) (by kernel_rfl) (by kernel_rfl) (fun _ _ _ h => h) hS0 (fun o ho => ?_) ?_
      rotate_left
      · simp only [List.getElem?_toArray, List.getElem?_cons_zero, List.getElem?_cons_succ, Option.some.injEq] at ho; subst ho; refine Or.inl ⟨by rfl, fun w' hSw => ?_⟩; (try dsimp only at hSw); go_simp; try with_reducible rfl
      simp only [Act.put, List.setIfInBounds_toArray, List.set_cons_zero, List.set_cons_succ]
      refine oneH (i := 7) (by kernel_rfl) (fun o ho K' hK => ?_)
      simp only [List.getElem?_toArray, List.getElem?_cons_zero, List.getElem?_cons_succ, Option.some.injEq] at ho; subst ho
      go_simp
      have hb8 : Below wr.heap.size wr (wr.alloc (.cells #[.slice none 0 0, .slice none 0 0, .int .i64 0, .int .i64 0, (.slice At nt ct)] 48)).drew := ((Below.refl _ wr).alloc (Nat.le_refl _) _).drew
      refine hK.out _ _ (hS _ hb8) ?_
      clear hK K'
      refine oneH (i := 8) (by kernel_rfl) (fun o ho K' hK => ?_)
      simp only [List.getElem?_toArray, List.getElem?_cons_zero, List.getElem?_cons_succ, Option.some.injEq] at ho; subst ho
      refine step_append_lies _ (by rfl) _ _ _ (by rfl) (N + 5) 48 ib (.agg #[.slice none 0 0, .slice none 0 0, .int .i64 0, .int .i64 0, .slice none 0 0]) 5 88 Try.underlying23 HIB.out.1 HIB.out.2.1 HIB.out.2.2.1 HIB.out.2.2.2 rfl (by decide) v j _ (by rfl) (HOW.out.alloc _)
        ⟨wr.heap.size, 0, none⟩ 1 1 [.slice none 0 0, .slice none 0 0, .int .i64 0, .int .i64 0, (.slice At nt ct)] (by rfl) (by rfl) (cells_new_ wr [.slice none 0 0, .slice none 0 0, .int .i64 0, .int .i64 0, (.slice At nt ct)] 48) (by intro u hu; exact oneV (N := N) (j := j) (by rw [HTV.out]; exact hu)) (by decide) (by unfold maxLen; omega) (by omega) (by simp; omega) (wr.heap.size + 1) (by simp) ?_
      intro g cap wC hownC hgrowC hlocC hltC
      have HGR : Hid (GroD wr wC v (.slice (some ⟨g, 0, none⟩) (j + 1) cap)) := Lib.hid (groD_drew (groD_append (w := wr.drew) hgrowC hlocC))
      have hvb : ∀ b, b < N + 5 → wC.heap[b]? = wr.heap[b]? := fun b hb => HGR.out.block b (by omega) (fun e => by have := (HOW.out.lt b e).1; omega)
      have hSC : wC.cell? ⟨N + 4, 3, none⟩ = some v ∧ wC.cell? ⟨N + 3, j * 3, none⟩ = some (.int .i64 0) ∧ wC.cell? ⟨N + 3, j * 3 + 1, none⟩ = some (.int .i64 0) ∧ wC.cell? ⟨N + 3, j * 3 + 2, none⟩ = some ((.slice At nt ct)) := ⟨(World.cell?_of_block (a := ⟨N + 4, 3, none⟩) (hvb (N + 4) (by omega))).trans hS0.1, (World.cell?_of_block (a := ⟨N + 3, j * 3, none⟩) (hvb (N + 3) (by omega))).trans hS0.2.1, (World.cell?_of_block (a := ⟨N + 3, j * 3 + 1, none⟩) (hvb (N + 3) (by omega))).trans hS0.2.2.1, (World.cell?_of_block (a := ⟨N + 3, j * 3 + 2, none⟩) (hvb (N + 3) (by omega))).trans hS0.2.2.2⟩
      have xf : wC.frozen? ⟨N + 4, 3, none⟩ = false := (World.frozen?_of_block (a := ⟨N + 4, 3, none⟩) (hvb (N + 4) (by omega))).trans HFZ.out
      have xc := hSC.1
      have HNW := Lib.hid (UpI.step (j := j) HUP.out HGR.out HOW.out (by omega) (by rw [HTV.out]; exact hownC))
      refine hK.out _ _ hSC ?_
      clear hK K' hgrowC hlocC hownC
      simp only [Act.put, List.setIfInBounds_toArray, List.set_cons_zero, List.set_cons_succ]
      refine takeH (i := 9) (some 26) (v := ?_) rfl (by kernel_rfl) (by kernel_rfl) (by kernel_rfl) (fun _ _ _ h => h) hSC (fun o ho => ?_) ?_
      rotate_left
      · simp only [List.getElem?_toArray, List.getElem?_cons_zero, List.getElem?_cons_succ, Option.some.injEq] at ho; subst ho; refine Or.inl ⟨by rfl, fun w' hSw => ?_⟩; (try dsimp only at hSw); go_simp; try with_reducible rfl
      simp only [Act.put, List.setIfInBounds_toArray, List.set_cons_zero, List.set_cons_succ]
      refine wpAnyH_done (by kernel_rfl) ?_ _
      refine lastH (by decide) (fun o ho K' hK => ?_)
      simp only [List.getElem?_toArray, List.getElem?_cons_zero, List.getElem?_cons_succ, Option.some.injEq] at ho; subst ho
      go_simp
      refine hK.out _ _ ?_
      clear hK K' hSC hS0 hS xc xf hvb
      go_wp2_with fail
      go_roundw
      case rel => exact ⟨j + 1, by omega, by go_num, HNW.out⟩
      case measure => simp [intOf]; omega
    · obtain rfl : j = 4 := by omega
      obtain ⟨v, hf, how, hfr, hz⟩ := hup
      obtain ⟨g, cap, rfl⟩ : ∃ g cap, v = .slice (some ⟨g, 0, none⟩) 4 cap := by
        rcases how.2 with ⟨_, h2⟩ | ⟨g, cap, cur, h2, _⟩
        · omega
        · exact ⟨g, cap, h2⟩
      have c0 : wr.cell? ⟨N + 4, 0, none⟩ = some (.int .i64 0) := cell_of_block hf 0
      have c1 : wr.cell? ⟨N + 4, 1, none⟩ = some (.int .i64 0) := cell_of_block hf 1
      have c2 : wr.cell? ⟨N + 4, 2, none⟩ = some (.slice none 0 0) := cell_of_block hf 2
      have c3 : wr.cell? ⟨N + 4, 3, none⟩ = some (.slice (some ⟨g, 0, none⟩) 4 cap) := cell_of_block hf 3
      have hnil {α : Type} {sz : Nat} {R : World → Nat → Nat → α → Prop} : SL wr sz R none 0 [] := ⟨Nat.le_refl _, ⟨by unfold maxLen; omega, fun _ => rfl⟩, fun h => absurd h (by simp)⟩
      have hSZ := HSZ.out
      have e0 : SL wr 1 RInt (some ⟨N, 0, none⟩) 1 [1] := SL.one ⟨cell_of_block ((hfr.block N (by omega) (by omega)).trans HB0.out) 0, by unfold I64; decide⟩
      have e1 : SL wr 1 RInt (some ⟨N + 1, 0, none⟩) 2 [2, 3] := by
        have hb0 := (hfr.block (N + 1) (by omega) (by omega)).trans HB1.out
        refine ⟨by simp, ⟨by unfold maxLen; omega, fun e => by cases e⟩, fun _ => ⟨N + 1, 0, rfl, fun i x hi => ?_⟩⟩
        match i, hi with
        | 0, hi => obtain rfl := Option.some.inj hi; exact ⟨cell_of_block hb0 0, by unfold I64; omega⟩
        | 1, hi => obtain rfl := Option.some.inj hi; exact ⟨cell_of_block hb0 1, by unfold I64; omega⟩
      have e2 : SL wr 1 RInt (some ⟨N + 2, 0, none⟩) 1 [1] := SL.one ⟨cell_of_block ((hfr.block (N + 2) (by omega) (by omega)).trans HB2.out) 0, by unfold I64; decide⟩
      have hcell : ∀ i u, (flatB N 4)[i]? = some u → wr.cell? ⟨g, i, none⟩ = some u := fun i u hi => by
        have hlt : i < 20 := by have := (List.getElem?_eq_some_iff.1 hi).1; simpa [flatB, List.range_succ] using this
        rw [how.cellAt i (by omega)]; exact hi
      have hv : VFun wr (.agg #[.int .i64 0, .int .i64 0, .slice none 0 0, .slice (some ⟨g, 0, none⟩) 4 cap]) ⟨0, 0, [], ex7⟩ := by
        have hcm : 4 ≤ cap ∧ cap ≤ maxLen := by
          rcases how.2 with ⟨h1, _⟩ | ⟨g', cap', cur, h2, _, _, h3, h4, _⟩
          · cases h1
          · simp only [Value.slice.injEq] at h2; omega
        refine ⟨none, 0, some ⟨g, 0, none⟩, cap, rfl, hnil, ⟨by simp [ex7]; omega, ⟨hcm.2, fun e => by cases e⟩, fun _ => ⟨g, 0, rfl, fun i x hi => ?_⟩⟩, by unfold I64; decide, by unfold I64; decide⟩
        match i, hi with
        | 0, hi => obtain rfl := Option.some.inj hi; exact ⟨⟨none, 0, hcell 0 _ rfl, hnil⟩, ⟨none, 0, hcell 1 _ rfl, hnil⟩, ⟨hcell 2 _ rfl, by unfold I64; decide⟩, ⟨hcell 3 _ rfl, by unfold I64; decide⟩, ⟨some ⟨N, 0, none⟩, 1, hcell 4 _ rfl, e0⟩⟩
        | 1, hi => obtain rfl := Option.some.inj hi; exact ⟨⟨none, 0, hcell 5 _ rfl, hnil⟩, ⟨none, 0, hcell 6 _ rfl, hnil⟩, ⟨hcell 7 _ rfl, by unfold I64; decide⟩, ⟨hcell 8 _ rfl, by unfold I64; decide⟩, ⟨some ⟨N + 1, 0, none⟩, 2, hcell 9 _ rfl, e1⟩⟩
        | 2, hi => obtain rfl := Option.some.inj hi; exact ⟨⟨none, 0, hcell 10 _ rfl, hnil⟩, ⟨none, 0, hcell 11 _ rfl, hnil⟩, ⟨hcell 12 _ rfl, by unfold I64; decide⟩, ⟨hcell 13 _ rfl, by unfold I64; decide⟩, ⟨some ⟨N + 2, 0, none⟩, 1, hcell 14 _ rfl, e2⟩⟩
        | 3, hi => obtain rfl := Option.some.inj hi; exact ⟨⟨none, 0, hcell 15 _ rfl, hnil⟩, ⟨none, 0, hcell 16 _ rfl, hnil⟩, ⟨hcell 17 _ rfl, by unfold I64; decide⟩, ⟨hcell 18 _ rfl, by unfold I64; decide⟩, ⟨none, 0, hcell 19 _ rfl, hnil⟩⟩
      have HLS := Lib.hid (loops_any ⟨0, 0, [], ex7⟩ _ wr hv (by simp [ex7]))
      have HF := Lib.hid hf
      have HV := Lib.hid hv
      have HBW : Hid (Below w.heap.size w wr) := Lib.hid (by rw [← HN.out]; exact HBEL.out.trans (hfr.below (by omega) (fun b hb => by omega)))
      have hNz : N + 4 < wr.heap.size := by omega
      clear hf how hfr hz hnil e0 e1 e2 hcell hv
      go_wp2_with fail
      refine HLS.out.mono ?_
      rintro e w2 ⟨⟨U, hs, rfl, hH, hM, -⟩, hb2⟩
      have hM : LsM ex7 w2 wr.heap.size (hdL ex7 4).length U hs (fun i => lbL ex7 (hs i) 4) := hM
      have hH : ∀ i, i < (hdL ex7 4).length → (hdL ex7 4)[i]? = some (hs i) := hH
      rw [ex7_hd] at hM hH
      have hh0 : hs 0 = 1 := (Option.some.inj (hH 0 (by decide))).symm
      obtain ⟨gl, cl, hU0, hgl1, hgl2, q0, q1, q2⟩ := hM.at_ (i := 0) (by decide)
      obtain ⟨A1, k1, hU1, hs1⟩ := hM.vs (i := 0) (by decide) (by rw [hh0, ex7_lb]; decide)
      obtain ⟨A2, k2, hU2, hs2⟩ := hM.vsE (i := 0) (by decide) (by rw [hh0, ex7_en]; decide)
      rw [hh0, ex7_lb] at hU1 hs1
      rw [hh0, ex7_en] at hU2 hs2
      rw [hh0] at q0
      rw [hU0]
      simp only [Nat.mul_zero, Nat.zero_add, Nat.zero_mul] at q0 q1 q2 hU1 hU2 hs1 hs2
      rw [hU1] at q1 hs1
      rw [hU2] at q2 hs2
      have HS1 := Lib.hid hs1
      have HS2 := Lib.hid hs2
      have HQ1 := Lib.hid q1
      have HQ2 := Lib.hid q2
      have HBF : Hid (Below w.heap.size w w2) := Lib.hid (HBW.out.trans (hb2.mono HBW.out.size))
      have HL12 : Hid (∀ w' : World, VS (w'.alloc (.cells #[.int .i64 1, .int .i64 2] 3)) 1 RInt (.slice (some ⟨w'.heap.size, 0, none⟩) 2 2) (zs [1, 2])) := Lib.hid (fun w' => by
        have hb := heap_alloc_new w' (.cells #[.int .i64 1, .int .i64 2] 3)
        refine ⟨some ⟨w'.heap.size, 0, none⟩, 2, rfl, ⟨by simp [zs], ⟨by unfold maxLen; omega, fun e => by cases e⟩, fun _ => ⟨w'.heap.size, 0, rfl, fun i x hi => ?_⟩⟩⟩
        match i, hi with
        | 0, hi => obtain rfl := Option.some.inj hi; exact ⟨cell_of_block hb 0, by show I64 (1 : Int); unfold I64; decide⟩
        | 1, hi => obtain rfl := Option.some.inj hi; exact ⟨cell_of_block hb 1, by show I64 (2 : Int); unfold I64; decide⟩)
      have HL0 : Hid (∀ w' : World, VS (w'.alloc (.cells #[.int .i64 0] 3)) 1 RInt (.slice (some ⟨w'.heap.size, 0, none⟩) 1 1) (zs [0])) := Lib.hid (fun w' => by
        have hb := heap_alloc_new w' (.cells #[.int .i64 0] 3)
        exact ⟨_, _, rfl, SL.one ⟨cell_of_block hb 0, by unfold I64; decide⟩⟩)
      have HA := Lib.hid (sameInts_any (zs [1, 2]) (zs [1, 2]) _ _ (w2.alloc (.cells #[.int .i64 1, .int .i64 2] 3)) (HS1.out _ ((Below.refl _ _).alloc (Nat.le_refl _) _)) (HL12.out w2))
      clear hM hH hU0 hU1 hU2 hs1 hs2 hb2 HLS q2
      simp only [List.length_cons, List.length_nil, Nat.zero_add]
      go_wp2_with fail
      refine HA.out.mono ?_
      rintro e w4 ⟨rfl, n4, hw4⟩
      have HK4 : Hid (Below w2.heap.size w2 w4) := Lib.hid (by rw [hw4]; exact below_drewN ((Below.refl _ _).alloc (Nat.le_refl _) _) n4)
      have q24 := (HK4.out.cell (p := ⟨gl, 2, none⟩) hgl2).trans HQ2.out
      have HB := Lib.hid (sameInts_any (zs [0]) (zs [0]) _ _ (w4.alloc (.cells #[.int .i64 0] 3)) (HS2.out _ (HK4.out.alloc HK4.out.size _)) (HL0.out w4))
      clear hw4 HA q0 q1
      simp only [decide_true, List.length_cons, List.length_nil, Nat.zero_add] at HB ⊢
      go_wp2_with fail
      refine HB.out.mono ?_
      rintro e w5 ⟨rfl, n5, hw5⟩
      have HK5 : Hid (Below w.heap.size w w5) := Lib.hid (by rw [hw5]; exact HBF.out.trans ((below_drewN (HK4.out.alloc HK4.out.size _) n5).mono HBF.out.size))
      clear hw5 HB q24
      simp only [decide_true]
      go_wp2_with fail
      go_ret
      exact ⟨rfl, HK5.out⟩
end Go.Proofs.Ytbhndfknjkeilaa

/- The program's Dominates. -/
namespace Go.Proofs.Ytbhndfknjkeilaa
open Go.ChangeShapes Go.WideShapes Go.RowKit Go.Deep
set_option linter.unusedVariables false

theorem Try.info36 : (Try.prog.info? 36).map (fun i => (i.zero, i.size, i.bytes)) = some (some (.slice none 0 0), 1, 24) := by kernel_rfl
/-- Rows of truths, one behind the other. -/
structure BGr (w : World) (G D0 n : Nat) (M : Nat → Nat → Bool) : Prop where
  row : w.rowIs G 36 n (fun a => .slice (some ⟨D0 + a, 0, none⟩) n n)
  cells : ∀ a, a < n → w.rowIs (D0 + a) 4 n (fun b => .bool (M a b))
  lt : G < D0
theorem BGr.congr {w : World} {G D0 n : Nat} {M M' : Nat → Nat → Bool} (h : BGr w G D0 n M) (he : ∀ a b, a < n → b < n → M a b = M' a b) : BGr w G D0 n M' :=
  ⟨h.row, fun a ha => (h.cells a ha).congr fun b hb => by rw [he a b ha hb], h.lt⟩
theorem BGr.of_blocks {w w' : World} {G D0 n : Nat} {M : Nat → Nat → Bool} (h : BGr w G D0 n M) (hb : ∀ y, G ≤ y → y < D0 + n → w'.heap[y]? = w.heap[y]?) : BGr w' G D0 n M :=
  ⟨h.row.of_block (hb G (Nat.le_refl _) (by have := h.lt; omega)), fun a ha => (h.cells a ha).of_block (hb _ (by have := h.lt; omega) (by omega)), h.lt⟩
theorem BGr.set {w : World} {G D0 n : Nat} {M : Nat → Nat → Bool} (h : BGr w G D0 n M) (q b : Nat) (x : Bool) : BGr (w.setCell ⟨D0 + q, b, none⟩ (.bool x)) G D0 n (fun a b' => if a = q ∧ b' = b then x else M a b') := by
  have hs : ∀ y, y ≠ D0 + q → (w.setCell ⟨D0 + q, b, none⟩ (.bool x)).heap[y]? = w.heap[y]? := fun y hy => Below.heap_setCell _ _ _ _ hy
  have hlt := h.lt
  refine ⟨h.row.of_block (hs G (by omega)), fun a ha => ?_, hlt⟩
  by_cases e : a = q
  · subst e
    exact ((h.cells a ha).set b (.bool x)).congr fun b' _ => by by_cases e2 : b' = b <;> simp [e2]
  · exact ((h.cells a ha).of_block (hs _ (by omega))).congr fun b' _ => by simp [e]
/-- How many rows are made. -/
def LayB (w4 : World) (G n j : Nat) (wq : World) : Prop :=
  wq.heap.size = G + 1 + j ∧ wq.rowIs G 36 n (fun a => if a < j then .slice (some ⟨G + 1 + a, 0, none⟩) n n else .slice none 0 0) ∧ (∀ a, a < j → wq.rowIs (G + 1 + a) 4 n (fun _ => .bool false)) ∧ FrX (fun b => b = G) w4 wq
theorem LayB.step {w4 wq : World} {G n j : Nat} (h : LayB w4 G n j wq) : LayB w4 G n (j + 1) ((wq.setCell ⟨G, j, none⟩ (.slice (some ⟨wq.heap.size, 0, none⟩) n n)).alloc (.cells (madeCells #[.bool false] n) 4)) := by
  obtain ⟨h1, h2, h3, h4⟩ := h
  have hs : ∀ y, y ≠ G → (wq.setCell ⟨G, j, none⟩ (.slice (some ⟨wq.heap.size, 0, none⟩) n n)).heap[y]? = wq.heap[y]? := fun y hy => Below.heap_setCell _ _ _ _ hy
  have hz : (wq.setCell ⟨G, j, none⟩ (.slice (some ⟨wq.heap.size, 0, none⟩) n n)).heap.size = wq.heap.size := by simp
  have hnew := heap_alloc_new (wq.setCell ⟨G, j, none⟩ (.slice (some ⟨wq.heap.size, 0, none⟩) n n)) (.cells (madeCells #[.bool false] n) 4)
  refine ⟨by simp; omega, ?_, fun a ha => ?_, (h4.setCell (.inl rfl) _).alloc _⟩
  · refine ((h2.set j _).of_block (Below.heap_alloc _ _ _ (by have := h2.lt; omega))).congr fun a _ => ?_
    by_cases e : a = j
    · subst e; simp only [if_true]; rw [if_pos (by omega), h1]
    · simp only [if_neg e]
      by_cases e2 : a < j
      · rw [if_pos e2, if_pos (by omega)]
      · rw [if_neg e2, if_neg (by omega)]
  · by_cases e : a = j
    · subst e
      have e : G + 1 + a = (wq.setCell ⟨G, a, none⟩ (.slice (some ⟨wq.heap.size, 0, none⟩) n n)).heap.size := by omega
      rw [← e] at hnew
      exact ⟨_, hnew, size_madeCells _ _, fun i hi => by simp [madeCells, hi, Nat.mod_one]⟩
    · exact (h3 a (by omega)).of_block ((Below.heap_alloc _ _ _ (by omega)).trans (hs _ (by omega)))
theorem LayB.all {w4 wq : World} {G n : Nat} (h : LayB w4 G n n wq) : BGr wq G (G + 1) n (fun _ _ => false) :=
  ⟨h.2.1.congr fun a ha => by rw [if_pos ha], h.2.2.1, by omega⟩
def ToldDo (bs : List BlkD) (w : World) (e : Ending) (w' : World) : Prop :=
  (∃ G D0, e = .returned (.slice (some ⟨G, 0, none⟩) bs.length bs.length) ∧ w.heap.size ≤ G ∧ BGr w' G D0 bs.length (dmB bs) ∧ ∃ ord, NearB bs (nearD bs) ord) ∧ Below w.heap.size w w'

set_option maxRecDepth 100000 in
set_option maxHeartbeats 8000000 in
theorem domDominates_any (f : FunD) (v : Value) (w : World) (hv : VFun w v f) (hn : f.blocks.length ≤ 1000) : Calls Try.prog 15 #[v] w (ToldDo f.blocks w) := by
  have hv0 := hv
  obtain ⟨Ar, cr, A, c, rfl, -, -, -, -⟩ := hv
  have HV := Lib.hid hv0
  go_enter Try.func15, Try.ntmps15
  go_upto_region 1 with fail
  obtain ⟨w1, hw1, hs1, hk1, hbel1, hc1, -⟩ := named w #[.int .i64 f.params, .int .i64 f.result, .slice Ar f.regs.length cr, .slice A f.blocks.length c] 25
  rw [← hw1]
  have c0 : w1.cell? ⟨w.heap.size, 0, none⟩ = some (.int .i64 f.params) := hc1 0 _ rfl
  have c1 : w1.cell? ⟨w.heap.size, 1, none⟩ = some (.int .i64 f.result) := hc1 1 _ rfl
  have c2 : w1.cell? ⟨w.heap.size, 2, none⟩ = some (.slice Ar f.regs.length cr) := hc1 2 _ rfl
  have c3 : w1.cell? ⟨w.heap.size, 3, none⟩ = some (.slice A f.blocks.length c) := hc1 3 _ rfl
  have HC := Lib.hid (And.intro c0 (And.intro c1 (And.intro c2 c3)))
  have HB1 := Lib.hid hbel1
  have HS1 := Lib.hid hs1
  have HN := Lib.hid (nearest_any f _ w1 (VFun.keep hk1 hv0) hn)
  clear hw1 hs1 hbel1 hc1 hv0 hk1
  go_wp2_with fail
  refine HN.out.mono ?_
  rintro e w2 ⟨⟨H, rfl, hH, hnr, ord, hNB⟩, hb2⟩
  have HB2 : Hid (Below w1.heap.size w1 w2) := Lib.hid hb2
  have HNB := Lib.hid hNB
  have HNR := Lib.hid hnr
  have hHl : H < w2.heap.size := hnr.lt
  have hmk := run_make_row' (P := Try.prog) 34 36 (.slice none 0 0) 24 Try.underlying34 Try.info36 rfl .i64 .i64 f.blocks.length (by omega) (by omega)
  clear c0 c1 c2 c3 hH hnr hb2 HN hNB
  go_upto_region 3 with fail
  clear hmk
  obtain ⟨G, hG⟩ : ∃ G, G = w2.heap.size := ⟨_, rfl⟩
  obtain ⟨w4, hw4⟩ : ∃ w4, w4 = w2.alloc (.cells (madeCells #[.slice none 0 0] f.blocks.length) 36) := ⟨_, rfl⟩
  have hlay : LayB w4 G f.blocks.length 0 w4 := by
    subst hw4 hG
    exact ⟨by simp, (World.rowIs_made w2 _ _ _).congr fun a _ => by simp, fun a ha => by omega, FrX.refl _ _⟩
  have HNR4 := Lib.hid (HNR.out.of_block (w' := w4) (by rw [hw4]; exact Below.heap_alloc _ _ _ hHl))
  have HB4 : Hid (Below w1.heap.size w1 w4) := Lib.hid (by rw [hw4]; exact HB2.out.alloc HB2.out.size _)
  have HHG : Hid (H < G ∧ w1.heap.size ≤ G ∧ G < w4.heap.size) := Lib.hid ⟨by omega, by have := HB2.out.size; omega, by rw [hw4, hG]; simp⟩
  have HLAY := Lib.hid hlay
  rw [← hw4, ← hG]
  have hmk3 := run_make_row' (P := Try.prog) 36 4 (.bool false) 1 Try.underlying36 Try.info4 rfl .i64 .i64 f.blocks.length (by omega) (by omega)
  have HMK := Lib.hid hmk3
  clear hw4 hG hlay hHl hmk3 HNR
  go_wp2_with fail
  go_loopw [16] (fun s16 wq => ∃ j : Nat, j ≤ f.blocks.length ∧ s16 = .int .i64 (j : Int) ∧ LayB w4 G f.blocks.length j wq) (fun s16 _ => f.blocks.length - (intOf s16).toNat)
  case atStart => exact ⟨0, Nat.zero_le _, rfl, HLAY.out⟩
  case round =>
    obtain ⟨j, hj, rfl, hl⟩ := hrel
    have HL := Lib.hid hl
    by_cases hjn : j < f.blocks.length
    · have hmk := HMK.out
      have xc : wr.cell? ⟨G, j, none⟩ = some (.slice none 0 0) := by have := hl.2.1.cell hjn; rwa [if_neg (by omega)] at this
      have xf := hl.2.1.frozen j
      have hG := hl.2.1.lt
      have hj0 : (0 : Int) ≤ j := by omega
      have hj1 : (j : Int) < f.blocks.length := by omega
      have HST := Lib.hid (LayB.step hl)
      clear hl
      go_wp2_with fail
      go_roundw
      case rel => exact ⟨j + 1, by omega, by go_num, HST.out⟩
      case measure => simp [intOf]; omega
    · have hjj : j = f.blocks.length := by omega
      subst hjj
      have hbg := LayB.all hl
      have hbel5 : Below G w4 wr := hl.2.2.2.below (by have := HHG.out; omega) (fun b hb => by omega)
      have hb15 : Below w1.heap.size w1 wr := HB4.out.trans (hbel5.mono HHG.out.2.1)
      have hkw : ∀ i, wr.cell? ⟨w.heap.size, i, none⟩ = w1.cell? ⟨w.heap.size, i, none⟩ := fun i => hb15.cell (p := ⟨w.heap.size, i, none⟩) (by have := HS1.out; show w.heap.size < _; omega)
      have c0 := (hkw 0).trans HC.out.1
      have c1 := (hkw 1).trans HC.out.2.1
      have c2 := (hkw 2).trans HC.out.2.2.1
      have c3 := (hkw 3).trans HC.out.2.2.2
      have HRE := Lib.hid (reached_any f _ wr (VFun.keep (kept_of_below (HB1.out.trans (hb15.mono (by have := HS1.out; omega)))) HV.out) hn)
      have hsz := hl.1
      have HBG := Lib.hid hbg
      have HNR5 := Lib.hid (HNR4.out.of_block (hbel5.block H HHG.out.1))
      have HB5 : Hid (Below w.heap.size w wr) := Lib.hid (HB1.out.trans (hb15.mono (by have := HS1.out; omega)))
      have HSZ : Hid (wr.heap.size = G + 1 + f.blocks.length) := Lib.hid hsz
      clear hl hbg hbel5 hb15 hkw hsz
      go_wp2_with fail
      refine HRE.out.mono ?_
      rintro e w6 ⟨⟨R, rfl, hR, hrr⟩, hb6⟩
      have hB6 := HBG.out.of_blocks (w' := w6) (fun y _ hy => hb6.block y (by have := HSZ.out; omega))
      have HBG6 := Lib.hid (hB6.congr (M' := fun a b' => decide (b' < 0) && dmB f.blocks a b') fun a b _ _ => by simp)
      have HNR6 := Lib.hid (HNR5.out.of_block (hb6.block H HNR5.out.lt))
      have HRR := Lib.hid hrr
      have HRG : Hid (G + 1 + f.blocks.length ≤ R) := Lib.hid (by have := HSZ.out; omega)
      have HB6 : Hid (Below w.heap.size w w6) := Lib.hid (HB5.out.trans (hb6.mono HB5.out.size))
      have HG6 : Hid (w.heap.size ≤ G) := Lib.hid (by have := HHG.out; have := HS1.out; omega)
      clear hb6 hrr hR c0 c1 c2 c3 HRE hB6
      go_wp2_with fail
      go_loopw [29] (fun s29 wq => ∃ b : Nat, b ≤ f.blocks.length ∧ s29 = .int .i64 (b : Int) ∧ BGr wq G (G + 1) f.blocks.length (fun a b' => decide (b' < b) && dmB f.blocks a b') ∧ FrX (fun y => G ≤ y ∧ y < G + 1 + f.blocks.length) w6 wq) (fun s29 _ => f.blocks.length - (intOf s29).toNat)
      case atStart => exact ⟨0, Nat.zero_le _, rfl, HBG6.out, FrX.refl _ _⟩
      case round =>
        obtain ⟨b, hb, rfl, hbg, hfr⟩ := hrel
        obtain ⟨wo, rfl⟩ : ∃ wo, wo = wr := ⟨wr, rfl⟩
        have HBGR := Lib.hid hbg
        have HFR := Lib.hid hfr
        by_cases hbn : b < f.blocks.length
        · have xr := (HRR.out.of_block (hfr.block R HRR.out.lt (by have := HRG.out; omega))).cell hbn
          have hb0 : (0 : Int) ≤ b := by omega
          have hb1 : (b : Int) < f.blocks.length := by omega
          cases hre : reachF f.blocks b
          · have HN2 := Lib.hid (hbg.congr (M' := fun a b' => decide (b' < b + 1) && dmB f.blocks a b') fun a b' _ _ => by
              by_cases e : b' = b
              · subst e
                have : dmB f.blocks a b' = false := by unfold dmB; rw [from_reachD, hre]; rfl
                simp [this]
              · have : decide (b' < b) = decide (b' < b + 1) := by rw [decide_eq_decide]; omega
                rw [this])
            rw [hre] at xr
            clear hbg hfr hre
            go_wp2_with fail
            go_roundw
            case rel => exact ⟨b + 1, by omega, by go_num, HN2.out, HFR.out⟩
            case measure => simp [intOf]; omega
          · rw [hre] at xr
            have hself : dmB f.blocks b b = true := HNB.out.self b hbn (by rw [from_reachD]; exact hre)
            have HBG3 := Lib.hid (hbg.congr (M' := fun a b' => if b' = b then upB f.blocks b (b : Int) a else decide (b' < b) && dmB f.blocks a b') fun a b' _ _ => by
              by_cases e : b' = b
              · subst e; rw [if_pos rfl]; unfold upB; rw [Int.toNat_natCast, decide_eq_false (by omega), decide_eq_false (by omega)]; cases dmB f.blocks a b' <;> rfl
              · rw [if_neg e])
            have HSELF := Lib.hid hself
            clear hbg hfr hre hself
            go_upto_region 13 with fail
            go_loopg [8] (ord b + 1) (fun gk s8 wq => ∃ y : Int, s8 = .int .i64 y ∧ ((y = -1 ∧ gk = 0) ∨ ∃ q : Nat, q < f.blocks.length ∧ y = (q : Int) ∧ dmB f.blocks q b = true ∧ gk = ord q + 1) ∧ BGr wq G (G + 1) f.blocks.length (fun a b' => if b' = b then upB f.blocks b y a else decide (b' < b) && dmB f.blocks a b') ∧ FrX (fun y => G ≤ y ∧ y < G + 1 + f.blocks.length) w6 wq)
            case atStart => exact ⟨(b : Int), rfl, .inr ⟨b, hbn, rfl, HSELF.out, rfl⟩, HBG3.out, HFR.out⟩
            case round =>
              obtain ⟨y, rfl, hor, hbg, hfr⟩ := hrel
              have HBGR := Lib.hid hbg
              have HFR := Lib.hid hfr
              rcases hor with ⟨rfl, rfl⟩ | ⟨q, hq, rfl, hdq, rfl⟩
              · have HN2 := Lib.hid (hbg.congr (M' := fun a b' => decide (b' < b + 1) && dmB f.blocks a b') fun a b' _ _ => by
                  by_cases e : b' = b
                  · subst e; rw [if_pos rfl]; unfold upB; simp
                  · rw [if_neg e]
                    have : decide (b' < b) = decide (b' < b + 1) := by rw [decide_eq_decide]; omega
                    rw [this])
                have h1 : ¬ ((-1 : Int) ≥ 0) := by decide
                clear hbg hfr
                go_wp2_with fail
                go_roundw
                case rel => exact ⟨b + 1, by omega, by go_num, HN2.out, HFR.out⟩
                case measure => simp [intOf]; omega
              · have HUP := Lib.hid (HNB.out.up_less hbn hq hdq)
                have hcl := hbg.cells q hq
                have xg := hbg.row.cell hq
                have xc := hcl.cell hbn
                have xf := hcl.frozen b
                have xn := (HNR6.out.of_block (hfr.block H HNR6.out.lt (by have := HHG.out; omega))).cell hq
                have hHG : H < G := HHG.out.1
                have HB7 := Lib.hid ((hbg.set q b true).congr (M' := fun a b' => if b' = b then upB f.blocks b (nearD f.blocks q) a else decide (b' < b) && dmB f.blocks a b') fun a b' ha hb' => by
                  by_cases e : b' = b
                  · subst e
                    simp only [and_true, if_true]
                    exact HNB.out.up_step ha hb' hq hdq
                  · simp only [e, and_false, if_false])
                have HF7 := Lib.hid (hfr.setCell (p := ⟨G + 1 + q, b, none⟩) (.inl (by show G ≤ G + 1 + q ∧ G + 1 + q < _; omega)) (.bool true))
                have hq0 : (0 : Int) ≤ q := by omega
                have hq1 : (q : Int) < f.blocks.length := by omega
                have hqg : ((q : Int) ≥ 0) := by omega
                have hne : H ≠ G + 1 + q := by omega
                clear hbg hfr hcl
                go_wp2_with fail
                rcases HUP.out with hz | ⟨p, hp, he, hdp, hlt⟩
                · go_roundg 0
                  case measure => omega
                  case rel => exact ⟨-1, by rw [hz], .inl ⟨rfl, rfl⟩, by rw [← hz]; exact HB7.out, HF7.out⟩
                · go_roundg (ord p + 1)
                  case measure => omega
                  case rel => exact ⟨(p : Int), by rw [he], .inr ⟨p, hp, rfl, hdp, rfl⟩, by rw [← he]; exact HB7.out, HF7.out⟩
        · have hbb : b = f.blocks.length := by omega
          subst hbb
          have HRES := Lib.hid (hbg.congr (M' := dmB f.blocks) fun a b' _ hb' => by rw [decide_eq_true hb']; rfl)
          have HBF : Hid (Below w.heap.size w wo) := Lib.hid (HB6.out.trans (hfr.below HB6.out.size (fun y hy => by have := HG6.out; omega)))
          clear hbg hfr
          go_wp2_with fail
          go_ret
          exact ⟨⟨G, G + 1, rfl, HG6.out, HRES.out, ord, HNB.out⟩, HBF.out⟩
end Go.Proofs.Ytbhndfknjkeilaa

/- Rows of truths that stay. -/
namespace Go.Proofs.Ytbhndfknjkeilaa
open Go.ChangeShapes Go.WideShapes Go.RowKit Go.Deep
set_option linter.unusedVariables false

theorem BGr.below {w w' : World} {G D0 n : Nat} {M : Nat → Nat → Bool} (h : BGr w G D0 n M) (hb : Below w.heap.size w w') : BGr w' G D0 n M :=
  ⟨h.row.of_block (hb.block G h.row.lt), fun a ha => (h.cells a ha).of_block (hb.block _ (h.cells a ha).lt), h.lt⟩
end Go.Proofs.Ytbhndfknjkeilaa
