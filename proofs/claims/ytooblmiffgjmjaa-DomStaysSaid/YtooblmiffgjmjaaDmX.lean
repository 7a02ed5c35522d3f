/- The example at the head of the statements of layer 6 holds. -/
import Derived.Test.YtooblmiffgjmjaaDmW
import Derived.Test.YtooblmiffgjmjaaGrE
import Derived.Test.YtooblmiffgjmjaaGrX
namespace Go.Proofs.Ytooblmiffgjmjaa
open Go.ChangeShapes Go.WideShapes Go.RowKit Go.Deep
set_option linter.unusedVariables false

def ex6 : List BlkD := [⟨[], [], ⟨0, 0, [1, 2]⟩⟩, ⟨[], [], ⟨0, 0, [3]⟩⟩, ⟨[], [], ⟨0, 0, [3]⟩⟩, ⟨[], [], ⟨0, 0, []⟩⟩]
theorem ex6_near : (List.range 4).map (nearD ex6) = [-1, 0, 0, 0] := by decide +kernel
theorem ex6_fr1 : frL ex6 4 1 = [3] := by decide +kernel
theorem ex6_fr2 : frL ex6 4 2 = [3] := by decide +kernel
/-- Where each end leads, in memory. -/
def toV (N i : Nat) : Value := if i = 0 then .slice (some ⟨N, 0, none⟩) 2 2 else if i = 1 then .slice (some ⟨N + 1, 0, none⟩) 1 1 else if i = 2 then .slice (some ⟨N + 2, 0, none⟩) 1 1 else .slice none 0 0
def flatB (N j : Nat) : List Value := (List.range j).flatMap fun i => [.slice none 0 0, .slice none 0 0, .int .i64 0, .int .i64 0, toV N i]
theorem flatB_succ (N j : Nat) : flatB N (j + 1) = flatB N j ++ [.slice none 0 0, .slice none 0 0, .int .i64 0, .int .i64 0, toV N j] := by unfold flatB; rw [List.range_succ, List.flatMap_append]; simp
theorem oneV {N j : Nat} {u : Value} (h : u ∈ [Value.slice none 0 0, .slice none 0 0, .int .i64 0, .int .i64 0, toV N j]) : u.oneCell' = true := by
  simp only [List.mem_cons, List.not_mem_nil, or_false] at h
  rcases h with rfl | rfl | rfl | rfl | rfl
  · rfl
  · rfl
  · rfl
  · rfl
  · unfold toV; split
    · rfl
    · split
      · rfl
      · split <;> rfl
theorem cells_new_ (w : World) (cs : List Value) (t : TypeId) : ∀ j u, cs[j]? = some u → ((w.alloc (.cells cs.toArray t)).drew).cell? ((⟨w.heap.size, 0, none⟩ : Addr).add j) = some u := by
  intro j u hj
  have hb := heap_alloc_new w (.cells cs.toArray t)
  have := cell_of_row (w.alloc (.cells cs.toArray t)) w.heap.size j cs.toArray t (0, 0) hb
  have e : ((⟨w.heap.size, 0, none⟩ : Addr).add j) = ⟨w.heap.size, j, none⟩ := by unfold Addr.add; split <;> simp_all
  rw [e]
  exact this.trans (by simpa using hj)
/-- How many blocks the example has so far. -/
def UpI (W5 : World) (N j : Nat) (wq : World) : Prop := ∃ v, wq.heap[N + 4]? = some (.cells #[.int .i64 0, .int .i64 0, .slice none 0 0, v] 25) ∧ wq.ownsRow (N + 5) 49 5 v j (flatB N j) ∧ FrX (fun b => b = N + 4) W5 wq ∧ N + 5 ≤ wq.heap.size
def UpV (W5 : World) (N j : Nat) (wq : World) (v : Value) : Prop := wq.heap[N + 4]? = some (.cells #[.int .i64 0, .int .i64 0, .slice none 0 0, v] 25) ∧ wq.ownsRow (N + 5) 49 5 v j (flatB N j) ∧ FrX (fun b => b = N + 4) W5 wq ∧ N + 5 ≤ wq.heap.size ∧ W5.heap.size = N + 5
theorem UpI.step {W5 wq wC : World} {N j : Nat} {v v' : Value} (h : UpV W5 N j wq v) (hg : GroD wq wC v v') (_ho : wq.ownsRow (N + 5) 49 5 v j (flatB N j)) (_hj : j < 4) (hn : wC.ownsRow (N + 5) 49 5 v' (j + 1) (flatB N j ++ [.slice none 0 0, .slice none 0 0, .int .i64 0, .int .i64 0, toV N j])) :
    UpI W5 N (j + 1) (wC.setCell ⟨N + 4, 3, none⟩ v') := by
  obtain ⟨h1, h2, h3, h4, h5⟩ := h
  have hb : wC.heap[N + 4]? = wq.heap[N + 4]? := hg.block (N + 4) (by omega) (fun e => by have := (h2.lt _ e).1; omega)
  refine ⟨v', set_of_block v' (hb.trans h1), ownsRow_setCell_below (by rw [flatB_succ]; exact hn) (a := ⟨N + 4, 3, none⟩) (by show N + 4 < N + 5; omega) _, ?_, by have := hg.size; simp; omega⟩
  exact (hg.fr h3 (fun g hgg => .inr (by have := (h2.lt g hgg).1; omega))).setCell (.inl rfl) _

set_option maxRecDepth 100000 in
set_option maxHeartbeats 8000000 in
theorem up6_any (w : World) : Calls Try.prog 15 #[] w fun e w' => e = .returned (.bool true) ∧ Below w.heap.size w w' := by
  obtain ⟨ib, hi, hz0, hz1, hz2⟩ := info_parts Try.info49
  have HIB := Lib.hid (And.intro hi (And.intro hz0 (And.intro hz1 hz2)))
  clear hi hz0 hz1 hz2
  go_enter Try.func15, Try.ntmps15
  go_upto_region 3 with fail
  obtain ⟨N, hN⟩ : ∃ N, N = w.heap.size := ⟨_, rfl⟩
  rw [← hN]
  obtain ⟨W5, hW⟩ : ∃ W, W = ((((w.alloc (.cells #[.int .i64 1, .int .i64 2] 3)).alloc (.cells #[.int .i64 3] 3)).alloc (.cells #[.int .i64 3] 3)).alloc
    (.cells #[.int .i64 0, .int .i64 0, .slice (some ⟨N, 0, none⟩) 2 2, .int .i64 0, .int .i64 0, .slice (some ⟨N + 1, 0, none⟩) 1 1, .int .i64 0, .int .i64 0, .slice (some ⟨N + 1 + 1, 0, none⟩) 1 1, .int .i64 0, .int .i64 0, .slice none 0 0] 44)).alloc
    (.cells #[.int .i64 0, .int .i64 0, .slice none 0 0, .slice none 0 0] 25) := ⟨_, rfl⟩
  rw [← hW]
  obtain ⟨b0, b1, b2, b3, b4, hsz, hbel⟩ := boxes5 w N hN _ _ _ _ _ W5.drew (by rw [hW])
  have HB0 : Hid (W5.heap[N]? = some (.cells #[.int .i64 1, .int .i64 2] 3)) := Lib.hid b0
  have HB1 : Hid (W5.heap[N + 1]? = some (.cells #[.int .i64 3] 3)) := Lib.hid b1
  have HB2 : Hid (W5.heap[N + 2]? = some (.cells #[.int .i64 3] 3)) := Lib.hid b2
  have HB3 : Hid (W5.heap[N + 3]? = some (.cells #[.int .i64 0, .int .i64 0, .slice (some ⟨N, 0, none⟩) 2 2, .int .i64 0, .int .i64 0, .slice (some ⟨N + 1, 0, none⟩) 1 1, .int .i64 0, .int .i64 0, .slice (some ⟨N + 1 + 1, 0, none⟩) 1 1, .int .i64 0, .int .i64 0, .slice none 0 0] 44)) := Lib.hid b3
  have HU0 : Hid (UpI W5 N 0 W5) := Lib.hid ⟨_, b4, World.ownsRow_nil _ _ _ _, FrX.refl _ _, by have : W5.heap.size = N + 5 := hsz; omega⟩
  have HSZ : Hid (W5.heap.size = N + 5) := Lib.hid hsz
  have HBEL : Hid (Below N w W5) := Lib.hid ⟨hbel.os, hbel.tape, hbel.output, hbel.size, hbel.block⟩
  have HN := Lib.hid hN
  rw [show N + 1 + 1 + 1 + 1 = N + 4 from rfl, show N + 1 + 1 + 1 = N + 3 from rfl]
  clear hW b0 b1 b2 b3 b4 hsz hbel hN
  go_wp2_with fail
  go_loopw [3] (fun s3 wq => ∃ j : Nat, j ≤ 4 ∧ s3 = .int .i64 (j : Int) ∧ UpI W5 N j wq) (fun s3 _ => 4 - (intOf s3).toNat)
  case atStart => exact ⟨0, by omega, rfl, HU0.out⟩
  case round =>
    obtain ⟨j, hj, rfl, hup⟩ := hrel
    by_cases hj4 : j < 4
    · obtain ⟨v, hf, how, hfr, hz⟩ := hup
      have HUP : Hid (UpV W5 N j wr v) := Lib.hid ⟨hf, how, hfr, hz, HSZ.out⟩
      have HOW := Lib.hid how
      have HFZ : Hid (wr.frozen? ⟨N + 4, 3, none⟩ = false) := Lib.hid (by unfold World.frozen?; simp [hf])
      have cv : wr.cell? ⟨N + 4, 3, none⟩ = some v := cell_of_block hf 3
      have hb3 := (hfr.block (N + 3) (by have := HSZ.out; omega) (by omega)).trans HB3.out
      have hterm : wr.cell? ⟨N + 3, j * 3, none⟩ = some (.int .i64 0) ∧ wr.cell? ⟨N + 3, j * 3 + 1, none⟩ = some (.int .i64 0) ∧ wr.cell? ⟨N + 3, j * 3 + 2, none⟩ = some (toV N j) := by
        rcases (by omega : j = 0 ∨ j = 1 ∨ j = 2 ∨ j = 3) with rfl | rfl | rfl | rfl
        · exact ⟨cell_of_block hb3 0, cell_of_block hb3 1, cell_of_block hb3 2⟩
        · exact ⟨cell_of_block hb3 3, cell_of_block hb3 4, cell_of_block hb3 5⟩
        · exact ⟨cell_of_block hb3 6, cell_of_block hb3 7, cell_of_block hb3 8⟩
        · exact ⟨cell_of_block hb3 9, cell_of_block hb3 10, cell_of_block hb3 11⟩
      obtain ⟨t0, t1, t2⟩ := hterm
      have hj0 : (0 : Int) ≤ j := by omega
      have hj1 : (j : Int) < 4 := by omega
      obtain ⟨At, nt, ct, htv⟩ : ∃ A n c, toV N j = .slice A n c := by
        unfold toV; split
        · exact ⟨_, _, _, rfl⟩
        · split
          · exact ⟨_, _, _, rfl⟩
          · split
            · exact ⟨_, _, _, rfl⟩
            · exact ⟨_, _, _, rfl⟩
      have HTV := Lib.hid htv
      rw [htv] at t2
      clear hf how hfr hb3 htv
      go_upto_region 6 with fail
      refine wp_region_last (L := 10) (S := fun w' => w'.cell? ⟨N + 4, 3, none⟩ = some v ∧ w'.cell? ⟨N + 3, j * 3, none⟩ = some (.int .i64 0) ∧ w'.cell? ⟨N + 3, j * 3 + 1, none⟩ = some (.int .i64 0) ∧ w'.cell? ⟨N + 3, j * 3 + 2, none⟩ = some ((.slice At nt ct))) (by kernel_rfl) (by rfl) (by kernel_rfl) (by kernel_rfl) ?_
      change wpAnyH _ _ _ _ _ _ _ _ (World.drew _)
      have hS : ∀ w', Below wr.heap.size wr w' → w'.cell? ⟨N + 4, 3, none⟩ = some v ∧ w'.cell? ⟨N + 3, j * 3, none⟩ = some (.int .i64 0) ∧ w'.cell? ⟨N + 3, j * 3 + 1, none⟩ = some (.int .i64 0) ∧ w'.cell? ⟨N + 3, j * 3 + 2, none⟩ = some ((.slice At nt ct)) := fun w' h => ⟨kept_of_below h _ _ cv, kept_of_below h _ _ t0, kept_of_below h _ _ t1, kept_of_below h _ _ t2⟩
      have hS0 := hS wr.drew (Below.refl _ _).drew
      clear cv t0 t1 t2
      refine takeH (i := 0) (some 18) (v := ?_) rfl (by kernel_rfl) (by kernel_rfl) (by kernel_rfl) (fun _ _ _ h => h) hS0 (fun o ho => ?_) ?_
      rotate_left
      · simp only [List.getElem?_toArray, List.getElem?_cons_zero, Option.some.injEq] at ho; subst ho; refine Or.inl ⟨by rfl, fun w' hSw => ?_⟩; (try dsimp only at hSw); go_simp; try with_reducible rfl
      simp only [Act.put, List.setIfInBounds_toArray, List.set_cons_zero, List.set_cons_succ]
      refine takeH (i := 1) (some 19) (v := ?_) rfl (by kernel_rfl) (by kernel_rfl) (by kernel_rfl) (fun _ _ _ h => h) hS0 (fun o ho => ?_) ?_
      rotate_left
      · simp only [List.getElem?_toArray, List.getElem?_cons_zero, List.getElem?_cons_succ, Option.some.injEq] at ho; subst ho; refine Or.inl ⟨by rfl, fun w' hSw => ?_⟩; (try dsimp only at hSw); go_simp; try with_reducible rfl
      simp only [Act.put, List.setIfInBounds_toArray, List.set_cons_zero, List.set_cons_succ]
      refine takeH (i := 2) (some 20) (v := ?_) rfl (by kernel_rfl) (by kernel_rfl) (by kernel_rfl) (fun _ _ _ h => h) hS0 (fun o ho => ?_) ?_
      rotate_left
      · simp only [List.getElem?_toArray, List.getElem?_cons_zero, List.getElem?_cons_succ, Option.some.injEq] at ho; subst ho; refine Or.inl ⟨by rfl, fun w' hSw => ?_⟩; (try dsimp only at hSw); go_simp; try with_reducible rfl
      simp only [Act.put, List.setIfInBounds_toArray, List.set_cons_zero, List.set_cons_succ]
      refine takeH (i := 3) (some 21) (v := ?_) rfl (by kernel_rfl) (by kernel_rfl) (by kernel_rfl) (fun _ _ _ h => h) hS0 (fun o ho => ?_) ?_
      rotate_left
      · simp only [List.getElem?_toArray, List.getElem?_cons_zero, List.getElem?_cons_succ, Option.some.injEq] at ho; subst ho; refine Or.inl ⟨by rfl, fun w' hSw => ?_⟩; (try dsimp only at hSw); go_simp; try with_reducible rfl
      simp only [Act.put, List.setIfInBounds_toArray, List.set_cons_zero, List.set_cons_succ]
      refine takeH (i := 4) (some 22) (v := ?_) rfl (by kernel_rfl) (by kernel_rfl) (by kernel_rfl) (fun _ _ _ h => h) hS0 (fun o ho => ?_) ?_
      rotate_left
      · simp only [List.getElem?_toArray, List.getElem?_cons_zero, List.getElem?_cons_succ, Option.some.injEq] at ho; subst ho; refine Or.inl ⟨by rfl, fun w' hSw => ?_⟩; (try dsimp only at hSw); go_simp; try with_reducible rfl
      simp only [Act.put, List.setIfInBounds_toArray, List.set_cons_zero, List.set_cons_succ]
      refine takeH (i := 5) (some 23) (v := ?_) rfl (by kernel_rfl) (by kernel_rfl) (by kernel_rfl) (fun _ _ _ h => h) hS0 (fun o ho => ?_) ?_
      rotate_left
      · simp only [List.getElem?_toArray, List.getElem?_cons_zero, List.getElem?_cons_succ, Option.some.injEq] at ho; subst ho; refine Or.inl ⟨by rfl, fun w' hSw => ?_⟩; (try dsimp only at hSw); go_simp; try with_reducible rfl
      simp only [Act.put, List.setIfInBounds_toArray, List.set_cons_zero, List.set_cons_succ]
      refine takeH (i := 6) (some 24) (v := ?_) rfl (by kernel_rfl) (by kernel_rfl) (by kernel_rfl) (fun _ _ _ h => h) hS0 (fun o ho => ?_) ?_
      rotate_left
      · simp only [List.getElem?_toArray, List.getElem?_cons_zero, List.getElem?_cons_succ, Option.some.injEq] at ho; subst ho; refine Or.inl ⟨by rfl, fun w' hSw => ?_⟩; (try dsimp only at hSw); go_simp; try with_reducible rfl
      simp only [Act.put, List.setIfInBounds_toArray, List.set_cons_zero, List.set_cons_succ]
      refine oneH (i := 7) (by kernel_rfl) (fun o ho K' hK => ?_)
      simp only [List.getElem?_toArray, List.getElem?_cons_zero, List.getElem?_cons_succ, Option.some.injEq] at ho; subst ho
      go_simp
      have hb8 : Below wr.heap.size wr (wr.alloc (.cells #[.slice none 0 0, .slice none 0 0, .int .i64 0, .int .i64 0, (.slice At nt ct)] 49)).drew := ((Below.refl _ wr).alloc (Nat.le_refl _) _).drew
      refine hK.out _ _ (hS _ hb8) ?_
      clear hK K'
      refine oneH (i := 8) (by kernel_rfl) (fun o ho K' hK => ?_)
      simp only [List.getElem?_toArray, List.getElem?_cons_zero, List.getElem?_cons_succ, Option.some.injEq] at ho; subst ho
      refine step_append_lies _ (by rfl) _ _ _ (by rfl) (N + 5) 49 ib (.agg #[.slice none 0 0, .slice none 0 0, .int .i64 0, .int .i64 0, .slice none 0 0]) 5 88 Try.underlying23 HIB.out.1 HIB.out.2.1 HIB.out.2.2.1 HIB.out.2.2.2 rfl (by decide) v j _ (by rfl) (HOW.out.alloc _)
        ⟨wr.heap.size, 0, none⟩ 1 1 [.slice none 0 0, .slice none 0 0, .int .i64 0, .int .i64 0, (.slice At nt ct)] (by rfl) (by rfl) (cells_new_ wr [.slice none 0 0, .slice none 0 0, .int .i64 0, .int .i64 0, (.slice At nt ct)] 49) (by intro u hu; exact oneV (N := N) (j := j) (by rw [HTV.out]; exact hu)) (by decide) (by unfold maxLen; omega) (by omega) (by simp; omega) (wr.heap.size + 1) (by simp) ?_
      intro g cap wC hownC hgrowC hlocC hltC
      have HGR : Hid (GroD wr wC v (.slice (some ⟨g, 0, none⟩) (j + 1) cap)) := Lib.hid (groD_drew (groD_append (w := wr.drew) hgrowC hlocC))
      have hvb : ∀ b, b < N + 5 → wC.heap[b]? = wr.heap[b]? := fun b hb => HGR.out.block b (by omega) (fun e => by have := (HOW.out.lt b e).1; omega)
      have hSC : wC.cell? ⟨N + 4, 3, none⟩ = some v ∧ wC.cell? ⟨N + 3, j * 3, none⟩ = some (.int .i64 0) ∧ wC.cell? ⟨N + 3, j * 3 + 1, none⟩ = some (.int .i64 0) ∧ wC.cell? ⟨N + 3, j * 3 + 2, none⟩ = some ((.slice At nt ct)) := ⟨(World.cell?_of_block (a := ⟨N + 4, 3, none⟩) (hvb (N + 4) (by omega))).trans hS0.1, (World.cell?_of_block (a := ⟨N + 3, j * 3, none⟩) (hvb (N + 3) (by omega))).trans hS0.2.1, (World.cell?_of_block (a := ⟨N + 3, j * 3 + 1, none⟩) (hvb (N + 3) (by omega))).trans hS0.2.2.1, (World.cell?_of_block (a := ⟨N + 3, j * 3 + 2, none⟩) (hvb (N + 3) (by omega))).trans hS0.2.2.2⟩
      have xf : wC.frozen? ⟨N + 4, 3, none⟩ = false := (World.frozen?_of_block (a := ⟨N + 4, 3, none⟩) (hvb (N + 4) (by omega))).trans HFZ.out
      have xc := hSC.1
      have HNW := Lib.hid (UpI.step (j := j) HUP.out HGR.out HOW.out (by omega) (by rw [HTV.out]; exact hownC))
      refine hK.out _ _ hSC ?_
      clear hK K' hgrowC hlocC hownC
      simp only [Act.put, List.setIfInBounds_toArray, List.set_cons_zero, List.set_cons_succ]
      refine takeH (i := 9) (some 27) (v := ?_) rfl (by kernel_rfl) (by kernel_rfl) (by kernel_rfl) (fun _ _ _ h => h) hSC (fun o ho => ?_) ?_
      rotate_left
      · simp only [List.getElem?_toArray, List.getElem?_cons_zero, List.getElem?_cons_succ, Option.some.injEq] at ho; subst ho; refine Or.inl ⟨by rfl, fun w' hSw => ?_⟩; (try dsimp only at hSw); go_simp; try with_reducible rfl
      simp only [Act.put, List.setIfInBounds_toArray, List.set_cons_zero, List.set_cons_succ]
      refine wpAnyH_done (by kernel_rfl) ?_ _
      refine lastH (by decide) (fun o ho K' hK => ?_)
      simp only [List.getElem?_toArray, List.getElem?_cons_zero, List.getElem?_cons_succ, Option.some.injEq] at ho; subst ho
      go_simp
      refine hK.out _ _ ?_
      clear hK K' hSC hS0 hS xc xf hvb
      go_wp2_with fail
      go_roundw
      case rel => exact ⟨j + 1, by omega, by go_num, HNW.out⟩
      case measure => simp [intOf]; omega
    · obtain rfl : j = 4 := by omega
      obtain ⟨v, hf, how, hfr, hz⟩ := hup
      obtain ⟨g, cap, rfl⟩ : ∃ g cap, v = .slice (some ⟨g, 0, none⟩) 4 cap := by
        rcases how.2 with ⟨_, h2⟩ | ⟨g, cap, cur, h2, _⟩
        · omega
        · exact ⟨g, cap, h2⟩
      have c0 : wr.cell? ⟨N + 4, 0, none⟩ = some (.int .i64 0) := cell_of_block hf 0
      have c1 : wr.cell? ⟨N + 4, 1, none⟩ = some (.int .i64 0) := cell_of_block hf 1
      have c2 : wr.cell? ⟨N + 4, 2, none⟩ = some (.slice none 0 0) := cell_of_block hf 2
      have c3 : wr.cell? ⟨N + 4, 3, none⟩ = some (.slice (some ⟨g, 0, none⟩) 4 cap) := cell_of_block hf 3
      have hnil {α : Type} {sz : Nat} {R : World → Nat → Nat → α → Prop} : SL wr sz R none 0 [] := ⟨Nat.le_refl _, ⟨by unfold maxLen; omega, fun _ => rfl⟩, fun h => absurd h (by simp)⟩
      have hSZ := HSZ.out
      have e0 : SL wr 1 RInt (some ⟨N, 0, none⟩) 2 [1, 2] := by
        have hb0 := (hfr.block N (by omega) (by omega)).trans HB0.out
        refine ⟨by simp, ⟨by unfold maxLen; omega, fun e => by cases e⟩, fun _ => ⟨N, 0, rfl, fun i x hi => ?_⟩⟩
        match i, hi with
        | 0, hi => obtain rfl := Option.some.inj hi; exact ⟨cell_of_block hb0 0, by unfold I64; omega⟩
        | 1, hi => obtain rfl := Option.some.inj hi; exact ⟨cell_of_block hb0 1, by unfold I64; omega⟩
      have e1 : SL wr 1 RInt (some ⟨N + 1, 0, none⟩) 1 [3] := SL.one ⟨cell_of_block ((hfr.block (N + 1) (by omega) (by omega)).trans HB1.out) 0, by unfold I64; decide⟩
      have e2 : SL wr 1 RInt (some ⟨N + 2, 0, none⟩) 1 [3] := SL.one ⟨cell_of_block ((hfr.block (N + 2) (by omega) (by omega)).trans HB2.out) 0, by unfold I64; decide⟩
      have hcell : ∀ i u, (flatB N 4)[i]? = some u → wr.cell? ⟨g, i, none⟩ = some u := fun i u hi => by
        have hlt : i < 20 := by have := (List.getElem?_eq_some_iff.1 hi).1; simpa [flatB, List.range_succ] using this
        rw [how.cellAt i (by omega)]; exact hi
      have hv : VFun wr (.agg #[.int .i64 0, .int .i64 0, .slice none 0 0, .slice (some ⟨g, 0, none⟩) 4 cap]) ⟨0, 0, [], ex6⟩ := by
        have hcm : 4 ≤ cap ∧ cap ≤ maxLen := by
          rcases how.2 with ⟨h1, _⟩ | ⟨g', cap', cur, h2, _, _, h3, h4, _⟩
          · cases h1
          · simp only [Value.slice.injEq] at h2; omega
        refine ⟨none, 0, some ⟨g, 0, none⟩, cap, rfl, hnil, ⟨by simp [ex6]; omega, ⟨hcm.2, fun e => by cases e⟩, fun _ => ⟨g, 0, rfl, fun i x hi => ?_⟩⟩, by unfold I64; decide, by unfold I64; decide⟩
        match i, hi with
        | 0, hi => obtain rfl := Option.some.inj hi; exact ⟨⟨none, 0, hcell 0 _ rfl, hnil⟩, ⟨none, 0, hcell 1 _ rfl, hnil⟩, ⟨hcell 2 _ rfl, by unfold I64; decide⟩, ⟨hcell 3 _ rfl, by unfold I64; decide⟩, ⟨some ⟨N, 0, none⟩, 2, hcell 4 _ rfl, e0⟩⟩
        | 1, hi => obtain rfl := Option.some.inj hi; exact ⟨⟨none, 0, hcell 5 _ rfl, hnil⟩, ⟨none, 0, hcell 6 _ rfl, hnil⟩, ⟨hcell 7 _ rfl, by unfold I64; decide⟩, ⟨hcell 8 _ rfl, by unfold I64; decide⟩, ⟨some ⟨N + 1, 0, none⟩, 1, hcell 9 _ rfl, e1⟩⟩
        | 2, hi => obtain rfl := Option.some.inj hi; exact ⟨⟨none, 0, hcell 10 _ rfl, hnil⟩, ⟨none, 0, hcell 11 _ rfl, hnil⟩, ⟨hcell 12 _ rfl, by unfold I64; decide⟩, ⟨hcell 13 _ rfl, by unfold I64; decide⟩, ⟨some ⟨N + 2, 0, none⟩, 1, hcell 14 _ rfl, e2⟩⟩
        | 3, hi => obtain rfl := Option.some.inj hi; exact ⟨⟨none, 0, hcell 15 _ rfl, hnil⟩, ⟨none, 0, hcell 16 _ rfl, hnil⟩, ⟨hcell 17 _ rfl, by unfold I64; decide⟩, ⟨hcell 18 _ rfl, by unfold I64; decide⟩, ⟨none, 0, hcell 19 _ rfl, hnil⟩⟩
      have HNE := Lib.hid (nearest_any ⟨0, 0, [], ex6⟩ _ wr hv (by simp [ex6]))
      have HF := Lib.hid hf
      have HV := Lib.hid hv
      have HBW : Hid (Below w.heap.size w wr) := Lib.hid (by rw [← HN.out]; exact HBEL.out.trans (hfr.below (by omega) (fun b hb => by omega)))
      have hNz : N + 4 < wr.heap.size := by omega
      clear hf how hfr hz hnil e0 e1 e2 hcell hv
      go_wp2_with fail
      refine HNE.out.mono ?_
      rintro e w2 ⟨⟨H, rfl, hH, hnr, -⟩, hb2⟩
      have hf2 := (hb2.block (N + 4) hNz).trans HF.out
      have c0 : w2.cell? ⟨N + 4, 0, none⟩ = some (.int .i64 0) := cell_of_block hf2 0
      have c1 : w2.cell? ⟨N + 4, 1, none⟩ = some (.int .i64 0) := cell_of_block hf2 1
      have c2 : w2.cell? ⟨N + 4, 2, none⟩ = some (.slice none 0 0) := cell_of_block hf2 2
      have c3 : w2.cell? ⟨N + 4, 3, none⟩ = some (.slice (some ⟨g, 0, none⟩) 4 cap) := cell_of_block hf2 3
      have HFR := Lib.hid (frontier_any ⟨0, 0, [], ex6⟩ _ w2 (VFun.keep (kept_of_below hb2) HV.out) (by simp [ex6]))
      have HNR := Lib.hid hnr
      have HB2 := Lib.hid hb2
      rw [show ex6.length = 4 from rfl]
      clear hf2 hnr hb2 HNE hH
      go_wp2_with fail
      refine HFR.out.mono ?_
      rintro e w3 ⟨⟨G, K, V, rfl, hG, hK, hg, -⟩, hb3⟩
      rw [show ex6.length = 4 from rfl]
      have hn3 : w3.rowIs H 3 4 (fun b => .int .i64 (nearD ex6 b)) := HNR.out.of_block (hb3.block H HNR.out.lt)
      have hnd : nearD ex6 0 = -1 ∧ nearD ex6 1 = 0 ∧ nearD ex6 2 = 0 ∧ nearD ex6 3 = 0 := by
        have h := ex6_near
        simp only [List.range_succ, List.range_zero, List.nil_append, List.map_cons, List.map_nil, List.cons_append, List.cons.injEq, and_true] at h
        exact h
      have hg : Gri w3 G K 4 V (fun a => zs (frL ex6 4 a)) := hg
      have h64 : ∀ w' : World, (∀ i, i < 4 → w'.cell? ⟨H, i, none⟩ = w3.cell? ⟨H, i, none⟩) → VS w' 1 RInt (.slice (some ⟨H, 0, none⟩) 4 4) [-1, 0, 0, 0] := fun w' hk => by
        refine ⟨some ⟨H, 0, none⟩, 4, rfl, ⟨by simp, ⟨by unfold maxLen; omega, fun e => by cases e⟩, fun _ => ⟨H, 0, rfl, fun i x hi => ?_⟩⟩⟩
        match i, hi with
        | 0, hi => obtain rfl := Option.some.inj hi; exact ⟨(hk 0 (by omega)).trans (by rw [hn3.cell (by omega), hnd.1]), by unfold I64; decide⟩
        | 1, hi => obtain rfl := Option.some.inj hi; exact ⟨(hk 1 (by omega)).trans (by rw [hn3.cell (by omega), hnd.2.1]), by unfold I64; decide⟩
        | 2, hi => obtain rfl := Option.some.inj hi; exact ⟨(hk 2 (by omega)).trans (by rw [hn3.cell (by omega), hnd.2.2.1]), by unfold I64; decide⟩
        | 3, hi => obtain rfl := Option.some.inj hi; exact ⟨(hk 3 (by omega)).trans (by rw [hn3.cell (by omega), hnd.2.2.2]), by unfold I64; decide⟩
      have hr1 := hg.own 1 (by omega)
      have hr2 := hg.own 2 (by omega)
      rw [ex6_fr1] at hr1
      rw [ex6_fr2] at hr2
      obtain ⟨A1, k1, hV1, hs1⟩ := vs_of_own (xs := [3]) hr1 (by intro x hx; rw [List.mem_singleton.1 hx]; unfold I64; decide)
      obtain ⟨A2, k2, hV2, hs2⟩ := vs_of_own (xs := [3]) hr2 (by intro x hx; rw [List.mem_singleton.1 hx]; unfold I64; decide)
      have hg1 := hg.row.cell (i := 1) (by omega)
      have hg2 := hg.row.cell (i := 2) (by omega)
      rw [hV1] at hg1
      rw [hV2] at hg2
      have HG1 := Lib.hid hg1
      have HG2 := Lib.hid hg2
      have HS1 := Lib.hid hs1
      have HS2 := Lib.hid hs2
      have hlitN : ∀ w' : World, VS (w'.alloc (.cells #[.int .i64 (-1), .int .i64 0, .int .i64 0, .int .i64 0] 3)) 1 RInt (.slice (some ⟨w'.heap.size, 0, none⟩) 4 4) [-1, 0, 0, 0] := fun w' => by
        have hb := heap_alloc_new w' (.cells #[.int .i64 (-1), .int .i64 0, .int .i64 0, .int .i64 0] 3)
        refine ⟨some ⟨w'.heap.size, 0, none⟩, 4, rfl, ⟨by simp, ⟨by unfold maxLen; omega, fun e => by cases e⟩, fun _ => ⟨w'.heap.size, 0, rfl, fun i x hi => ?_⟩⟩⟩
        match i, hi with
        | 0, hi => obtain rfl := Option.some.inj hi; exact ⟨cell_of_block hb 0, by unfold I64; decide⟩
        | 1, hi => obtain rfl := Option.some.inj hi; exact ⟨cell_of_block hb 1, by unfold I64; decide⟩
        | 2, hi => obtain rfl := Option.some.inj hi; exact ⟨cell_of_block hb 2, by unfold I64; decide⟩
        | 3, hi => obtain rfl := Option.some.inj hi; exact ⟨cell_of_block hb 3, by unfold I64; decide⟩
      have HL3 : Hid (∀ w' : World, VS (w'.alloc (.cells #[.int .i64 3] 3)) 1 RInt (.slice (some ⟨w'.heap.size, 0, none⟩) 1 1) [3]) := Lib.hid (fun w' => by
        have hb := heap_alloc_new w' (.cells #[.int .i64 3] 3)
        exact ⟨_, _, rfl, SL.one ⟨cell_of_block hb 0, by unfold I64; decide⟩⟩)
      have HA := Lib.hid (sameInts_any [-1, 0, 0, 0] [-1, 0, 0, 0] _ _ _ (h64 (w3.alloc (.cells #[.int .i64 (-1), .int .i64 0, .int .i64 0, .int .i64 0] 3)) (fun i hi => World.cell?_of_block (Below.heap_alloc _ _ _ hn3.lt))) (hlitN w3))
      have HBF : Hid (Below w.heap.size w w3) := Lib.hid (HBW.out.trans ((HB2.out.mono HBW.out.size).trans (hb3.mono (by have := HBW.out.size; have := HB2.out.size; omega))))
      have hGl := hg.row.lt
      clear hn3 hnd hg h64 hr1 hr2 hV1 hV2 hg1 hg2 hs1 hs2 hlitN hb3 hG hK
      go_wp2_with fail
      refine HA.out.mono ?_
      rintro e w4 ⟨rfl, n4, hw4⟩
      have HK4 : Hid (Below w3.heap.size w3 w4) := Lib.hid (by rw [hw4]; exact below_drewN ((Below.refl _ _).alloc (Nat.le_refl _) _) n4)
      have hg14 := (HK4.out.cell (p := ⟨G, 1, none⟩) hGl).trans HG1.out
      have HB := Lib.hid (sameInts_any [3] [3] _ _ (w4.alloc (.cells #[.int .i64 3] 3)) ⟨A1, k1, rfl, SInts.keep (kept_of_below (HK4.out.alloc HK4.out.size _)) HS1.out⟩ (HL3.out w4))
      clear hw4 HA
      simp only [decide_true]
      go_wp2_with fail
      refine HB.out.mono ?_
      rintro e w5 ⟨rfl, n5, hw5⟩
      have HK5 : Hid (Below w3.heap.size w3 w5) := Lib.hid (by rw [hw5]; exact below_drewN (HK4.out.alloc HK4.out.size _) n5)
      have hg25 := (HK5.out.cell (p := ⟨G, 2, none⟩) hGl).trans HG2.out
      have HC := Lib.hid (sameInts_any [3] [3] _ _ (w5.alloc (.cells #[.int .i64 3] 3)) ⟨A2, k2, rfl, SInts.keep (kept_of_below (HK5.out.alloc HK5.out.size _)) HS2.out⟩ (HL3.out w5))
      clear hw5 HB hg14
      simp only [decide_true]
      go_wp2_with fail
      refine HC.out.mono ?_
      rintro e w6 ⟨rfl, n6, hw6⟩
      have HK6 : Hid (Below w.heap.size w w6) := Lib.hid (by rw [hw6]; exact HBF.out.trans ((below_drewN (HK5.out.alloc HK5.out.size _) n6).mono HBF.out.size))
      clear hw6 HC hg25
      simp only [decide_true]
      go_wp2_with fail
      go_ret
      exact ⟨rfl, HK6.out⟩
end Go.Proofs.Ytooblmiffgjmjaa
