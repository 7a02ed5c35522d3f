/- An instruction is done: a call. (Written by gen/genmacm.py.) -/
import Derived.Test.YtcjmhdneelmbhaaMacLJ
import Derived.Test.YtcjmhdneelmbhaaLvVJ
namespace Go.Proofs.Ytcjmhdneelmbhaa
open Go.ChangeShapes Go.WideShapes Go.RowKit Go.Deep
set_option linter.unusedVariables false

theorem Try.info153 : (Try.prog.info? 153).map (fun i => (i.zero, i.size, i.bytes)) = some (some (.agg #[.int .i64 0, .int .i64 0, .int .i64 0, .slice none 0 0]), 4, 48) := by kernel_rfl
theorem gro_append2 {w w1 : World} {o : Obj} {v : Value} {g n cap : Nat} (hg : (w.alloc o).grownBy w1 v.ownBlock) (hl : v.ownBlock = some g ∨ g = w.heap.size + 1) : Gro w w1 v (.slice (some ⟨g, 0, none⟩) n cap) :=
  ⟨hg.os, hg.tape, hg.output, Nat.le_trans (by simp) hg.size, fun k hk hv => (hg.block k (by simp; omega) (fun e => hv e.symm)).trans (Below.heap_alloc _ _ _ hk),
   fun x hx => by
    obtain rfl : g = x := Option.some.inj hx
    rcases hl with h | h
    · exact .inl h
    · exact .inr (by omega)⟩

set_option maxRecDepth 100000 in
set_option maxHeartbeats 8000000 in
theorem do_call (K P : Nat) (m : List FunD) (w : World) (s : St) (rd : List Int) (x : InsD) (Ax : Option Addr) (cx : Nat) (h : Mac K P m w s rd) (hargs : SL w 1 (RIntB (Old K P)) Ax cx x.args) (hlen : x.args.length ≤ 1000) (hin : ∀ r ∈ x.args, InR 256 r)
    (hop : x.op = 17) (f : FunD) (hf : m[s.cur.fn]? = some f) (hfr : f.regs.length ≤ 256) (hfz : ∀ i, f.regs.length ≤ i → s.cur.regs i = 0) (n : Nat) (hn : x.fn = n) (hl : x.args.length ≤ 256) (hsl : s.stack.length ≤ 1048576) :
    Calls Try.prog 62 #[.pointer (some ⟨P, 0, none⟩), .agg #[.int .i64 x.op, .int .i64 x.dst, .slice Ax x.args.length cx, .int .i64 x.imm, .int .i64 x.fn]] w (ToldM' K P m w (doS s x)) := by
  obtain ⟨w1, hw1, hs1, hk1, hB1, hc1, hf1⟩ := named w #[.int .i64 x.op, .int .i64 x.dst, .slice Ax x.args.length cx, .int .i64 x.imm, .int .i64 x.fn] 46
  have hm1 := h.below hB1
  have hbb1 := box_bb h hB1
  have hap := apart_new h hB1 (Nat.le_refl _)
  have HRD := Lib.hid (readAll_any K P m w1 s rd x.args (.slice Ax x.args.length cx) hm1 ⟨Ax, cx, rfl, SIntsB.go (KeptB.of hk1) (fun _ h => h) hargs⟩ hlen hin)
  have HAP := Lib.hid hap
  have HC := Lib.hid hc1
  have hwlt : w.heap.size < w1.heap.size := by omega
  have e1 : (x.op == 1) = false := by rw [hop]; rfl
  have e15 : (x.op == 15) = false := by rw [hop]; rfl
  have e16 : (x.op == 16) = false := by rw [hop]; rfl
  have e18 : (x.op == 18) = false := by rw [hop]; rfl
  have e17 : (x.op == 17) = true := by rw [hop]; rfl
  obtain ⟨ic, p1, p2, p3, p4⟩ := info_parts Try.info153
  have HIC := Lib.hid (And.intro p1 (And.intro p2 (And.intro p3 p4)))
  clear p1 p2 p3 p4
  have HE : Hid (doS s x = enterS { s with stack := s.cur :: s.stack } n (argsV s.cur.regs x.args)) := Lib.hid (by
    unfold doS; rw [if_neg (by omega), if_neg (by omega), if_neg (by omega), if_neg (by omega), if_pos hop, hn]; rfl)
  have HN := Lib.hid hn
  have HL := Lib.hid hl
  have HAS0 := Lib.hid (fun w2 h2 => aside_any K P m w2 s (argsV s.cur.regs x.args) f h2 hf hfr hfz)
  clear hop hn hl hf hfr hfz
  clear hm1 hap hc1 hf1 hk1 hB1 hs1 hargs hlen hin h
  go_enter Try.func62, Try.ntmps62
  go_wp2_with fail
  rw [← hw1]
  clear hw1
  refine HRD.out.mono ?_
  rintro e w2 ⟨rfl, hm2, hbb2, hfr2⟩
  have hbx : w2.heap[w.heap.size]? = w1.heap[w.heap.size]? := (hfr2.2 w.heap.size hwlt HAP.out).1
  have d0 : w2.cell? ⟨w.heap.size, 0, none⟩ = some (.int .i64 x.op) := (World.cell?_of_block (a := ⟨w.heap.size, 0, none⟩) hbx).trans (HC.out 0 _ rfl)
  have d1 : w2.cell? ⟨w.heap.size, 1, none⟩ = some (.int .i64 x.dst) := (World.cell?_of_block (a := ⟨w.heap.size, 1, none⟩) hbx).trans (HC.out 1 _ rfl)
  have d2 : w2.cell? ⟨w.heap.size, 2, none⟩ = some (.slice Ax x.args.length cx) := (World.cell?_of_block (a := ⟨w.heap.size, 2, none⟩) hbx).trans (HC.out 2 _ rfl)
  have d3 : w2.cell? ⟨w.heap.size, 3, none⟩ = some (.int .i64 x.imm) := (World.cell?_of_block (a := ⟨w.heap.size, 3, none⟩) hbx).trans (HC.out 3 _ rfl)
  have d4 : w2.cell? ⟨w.heap.size, 4, none⟩ = some (.int .i64 x.fn) := (World.cell?_of_block (a := ⟨w.heap.size, 4, none⟩) hbx).trans (HC.out 4 _ rfl)
  have hlt2 : w.heap.size < w2.heap.size := Nat.lt_of_lt_of_le hwlt hfr2.1
  have HAP2 := Lib.hid (hfr2.2 w.heap.size hwlt HAP.out).2
  have HM2 := Lib.hid hm2
  have HBB2 := Lib.hid (hbb1.trans hbb2)
  clear hbx hfr2 hbb2 hbb1 HRD HAP hwlt hm2
  obtain ⟨q, hb, he, hdy, hP, hK0⟩ := id HM2.out
  obtain ⟨cc, hcc⟩ := hdy.calls
  have HCC := Lib.hid hcc
  have HAS := Lib.hid (HAS0.out w2.drew (HM2.out.drewN 1))
  have cvc : w2.cell? ⟨P, 259, none⟩ = some q.vc := hb.cell (by omega)
  have c0 : w2.cell? ⟨P, 0, none⟩ = some (.int .i64 s.cur.fn) := hb.cell (by omega)
  have c1 : w2.cell? ⟨P, 1, none⟩ = some (.int .i64 s.cur.blk) := hb.cell (by omega)
  have c2 : w2.cell? ⟨P, 2, none⟩ = some (.int .i64 s.cur.at_) := hb.cell (by omega)
  have HMB := Lib.hid hb
  have HME := Lib.hid he
  have HMD := Lib.hid hdy
  clear hb he hdy hcc
  go_wp2_with fail
  refine wp_region_last (L := 16) (S := fun w' => w'.cell? ⟨P, 259, none⟩ = some q.vc ∧ w'.cell? ⟨P, 0, none⟩ = some (.int .i64 s.cur.fn) ∧ w'.cell? ⟨P, 1, none⟩ = some (.int .i64 s.cur.blk) ∧ w'.cell? ⟨P, 2, none⟩ = some (.int .i64 s.cur.at_)) (by kernel_rfl) (by rfl) (by kernel_rfl) (by kernel_rfl) ?_
  change wpAnyH _ _ _ _ _ _ _ _ (World.drew _)
  have hS : ∀ w', Below w2.heap.size w2 w' → w'.cell? ⟨P, 259, none⟩ = some q.vc ∧ w'.cell? ⟨P, 0, none⟩ = some (.int .i64 s.cur.fn) ∧ w'.cell? ⟨P, 1, none⟩ = some (.int .i64 s.cur.blk) ∧ w'.cell? ⟨P, 2, none⟩ = some (.int .i64 s.cur.at_) := fun w' h => ⟨kept_of_below h _ _ cvc, kept_of_below h _ _ c0, kept_of_below h _ _ c1, kept_of_below h _ _ c2⟩
  have hS0 := hS w2.drew (Below.refl _ _).drew
  clear cvc c0 c1 c2
  refine takeH (i := 0) (some 87) (v := ?_) rfl (by kernel_rfl) (by kernel_rfl) (by kernel_rfl) (fun _ _ _ h => h) hS0 (fun o ho => ?_) ?_
  rotate_left
  · simp only [List.getElem?_toArray, List.getElem?_cons_zero, Option.some.injEq] at ho; subst ho; refine Or.inl ⟨by rfl, fun w' hSw => ?_⟩; (try dsimp only at hSw); go_simp; try with_reducible rfl
  simp only [Act.put, List.setIfInBounds_toArray, List.set_cons_zero, List.set_cons_succ]
  refine takeH (i := 1) (some 88) (v := ?_) rfl (by kernel_rfl) (by kernel_rfl) (by kernel_rfl) (fun _ _ _ h => h) hS0 (fun o ho => ?_) ?_
  rotate_left
  · simp only [List.getElem?_toArray, List.getElem?_cons_zero, List.getElem?_cons_succ, Option.some.injEq] at ho; subst ho; refine Or.inl ⟨by rfl, fun w' hSw => ?_⟩; (try dsimp only at hSw); go_simp; try with_reducible rfl
  simp only [Act.put, List.setIfInBounds_toArray, List.set_cons_zero, List.set_cons_succ]
  refine takeH (i := 2) (some 89) (v := ?_) rfl (by kernel_rfl) (by kernel_rfl) (by kernel_rfl) (fun _ _ _ h => h) hS0 (fun o ho => ?_) ?_
  rotate_left
  · simp only [List.getElem?_toArray, List.getElem?_cons_zero, List.getElem?_cons_succ, Option.some.injEq] at ho; subst ho; refine Or.inl ⟨by rfl, fun w' hSw => ?_⟩; (try dsimp only at hSw); go_simp; try with_reducible rfl
  simp only [Act.put, List.setIfInBounds_toArray, List.set_cons_zero, List.set_cons_succ]
  refine takeH (i := 3) (some 90) (v := ?_) rfl (by kernel_rfl) (by kernel_rfl) (by kernel_rfl) (fun _ _ _ h => h) hS0 (fun o ho => ?_) ?_
  rotate_left
  · simp only [List.getElem?_toArray, List.getElem?_cons_zero, List.getElem?_cons_succ, Option.some.injEq] at ho; subst ho; refine Or.inl ⟨by rfl, fun w' hSw => ?_⟩; (try dsimp only at hSw); go_simp; try with_reducible rfl
  simp only [Act.put, List.setIfInBounds_toArray, List.set_cons_zero, List.set_cons_succ]
  refine takeH (i := 4) (some 91) (v := ?_) rfl (by kernel_rfl) (by kernel_rfl) (by kernel_rfl) (fun _ _ _ h => h) hS0 (fun o ho => ?_) ?_
  rotate_left
  · simp only [List.getElem?_toArray, List.getElem?_cons_zero, List.getElem?_cons_succ, Option.some.injEq] at ho; subst ho; refine Or.inl ⟨by rfl, fun w' hSw => ?_⟩; (try dsimp only at hSw); go_simp; try with_reducible rfl
  simp only [Act.put, List.setIfInBounds_toArray, List.set_cons_zero, List.set_cons_succ]
  refine takeH (i := 5) (some 92) (v := ?_) rfl (by kernel_rfl) (by kernel_rfl) (by kernel_rfl) (fun _ _ _ h => h) hS0 (fun o ho => ?_) ?_
  rotate_left
  · simp only [List.getElem?_toArray, List.getElem?_cons_zero, List.getElem?_cons_succ, Option.some.injEq] at ho; subst ho; refine Or.inl ⟨by rfl, fun w' hSw => ?_⟩; (try dsimp only at hSw); go_simp; try with_reducible rfl
  simp only [Act.put, List.setIfInBounds_toArray, List.set_cons_zero, List.set_cons_succ]
  refine takeH (i := 6) (some 93) (v := ?_) rfl (by kernel_rfl) (by kernel_rfl) (by kernel_rfl) (fun _ _ _ h => h) hS0 (fun o ho => ?_) ?_
  rotate_left
  · simp only [List.getElem?_toArray, List.getElem?_cons_zero, List.getElem?_cons_succ, Option.some.injEq] at ho; subst ho; refine Or.inl ⟨by rfl, fun w' hSw => ?_⟩; (try dsimp only at hSw); go_simp; try with_reducible rfl
  simp only [Act.put, List.setIfInBounds_toArray, List.set_cons_zero, List.set_cons_succ]
  refine takeH (i := 7) (some 94) (v := ?_) rfl (by kernel_rfl) (by kernel_rfl) (by kernel_rfl) (fun _ _ _ h => h) hS0 (fun o ho => ?_) ?_
  rotate_left
  · simp only [List.getElem?_toArray, List.getElem?_cons_zero, List.getElem?_cons_succ, Option.some.injEq] at ho; subst ho; refine Or.inl ⟨by rfl, fun w' hSw => ?_⟩; (try dsimp only at hSw); go_simp; try with_reducible rfl
  simp only [Act.put, List.setIfInBounds_toArray, List.set_cons_zero, List.set_cons_succ]
  refine takeH (i := 8) (some 95) (v := ?_) rfl (by kernel_rfl) (by kernel_rfl) (by kernel_rfl) (fun _ _ _ h => h) hS0 (fun o ho => ?_) ?_
  rotate_left
  · simp only [List.getElem?_toArray, List.getElem?_cons_zero, List.getElem?_cons_succ, Option.some.injEq] at ho; subst ho; refine Or.inl ⟨by rfl, fun w' hSw => ?_⟩; (try dsimp only at hSw); go_simp; try with_reducible rfl
  simp only [Act.put, List.setIfInBounds_toArray, List.set_cons_zero, List.set_cons_succ]
  refine takeH (i := 9) (some 96) (v := ?_) rfl (by kernel_rfl) (by kernel_rfl) (by kernel_rfl) (fun _ _ _ h => h) hS0 (fun o ho => ?_) ?_
  rotate_left
  · simp only [List.getElem?_toArray, List.getElem?_cons_zero, List.getElem?_cons_succ, Option.some.injEq] at ho; subst ho; refine Or.inl ⟨by rfl, fun w' hSw => ?_⟩; (try dsimp only at hSw); go_simp; try with_reducible rfl
  simp only [Act.put, List.setIfInBounds_toArray, List.set_cons_zero, List.set_cons_succ]
  refine oneH (i := 10) (by kernel_rfl) (fun o ho K' hK => ?_)
  simp only [List.getElem?_toArray, List.getElem?_cons_zero, List.getElem?_cons_succ, Option.some.injEq] at ho; subst ho
  go_simp
  refine HAS.out.mono ?_
  rintro e wA ⟨⟨A, cA, l, rfl, hsA, hlA, hrA⟩, hBA⟩
  have hBA2 : Below w2.heap.size w2 wA := ((Below.refl w2.heap.size w2).drew).trans hBA
  have hSA := hS wA hBA2
  go_wp2_with fail
  refine hK.out _ _ hSA ?_
  clear hK K'
  refine takeH (i := 11) (some 98) (v := ?_) rfl (by kernel_rfl) (by kernel_rfl) (by kernel_rfl) (fun _ _ _ h => h) hSA (fun o ho => ?_) ?_
  rotate_left
  · simp only [List.getElem?_toArray, List.getElem?_cons_zero, List.getElem?_cons_succ, Option.some.injEq] at ho; subst ho; refine Or.inl ⟨by rfl, fun w' hSw => ?_⟩; (try dsimp only at hSw); go_simp; try with_reducible rfl
  simp only [Act.put, List.setIfInBounds_toArray, List.set_cons_zero, List.set_cons_succ]
  refine oneH (i := 12) (by kernel_rfl) (fun o ho K' hK => ?_)
  simp only [List.getElem?_toArray, List.getElem?_cons_zero, List.getElem?_cons_succ, Option.some.injEq] at ho; subst ho
  go_simp
  have hb8 : Below w2.heap.size w2 (wA.alloc (.cells #[.int .i64 s.cur.fn, .int .i64 s.cur.blk, .int .i64 s.cur.at_, .slice A l.length cA] 153)) := hBA2.alloc hBA2.size _
  refine hK.out _ _ (hS _ hb8) ?_
  clear hK K'
  refine oneH (i := 13) (by kernel_rfl) (fun o ho K' hK => ?_)
  simp only [List.getElem?_toArray, List.getElem?_cons_zero, List.getElem?_cons_succ, Option.some.injEq] at ho; subst ho
  have HOWA : Hid (wA.ownsRow K 153 4 q.vc s.stack.length cc) := Lib.hid (owns_keep HCC.out.1 (fun g _ _ h => hBA2.block g h))
  have hKA : K ≤ wA.heap.size := Nat.le_trans hK0 hBA2.size
  refine step_append_lies _ (by rfl) _ _ _ (by rfl) K 153 ic (.agg #[.int .i64 0, .int .i64 0, .int .i64 0, .slice none 0 0]) 4 48 Try.underlying111 HIC.out.1 HIC.out.2.1 HIC.out.2.2.1 HIC.out.2.2.2 rfl (by decide) q.vc s.stack.length cc (by rfl) (HOWA.out.alloc _)
    ⟨wA.heap.size, 0, none⟩ 1 1 [.int .i64 s.cur.fn, .int .i64 s.cur.blk, .int .i64 s.cur.at_, .slice A l.length cA] (by rfl) (by rfl) (news_cells wA #[.int .i64 s.cur.fn, .int .i64 s.cur.blk, .int .i64 s.cur.at_, .slice A l.length cA] _ rfl) (by simp [Value.oneCell']) (by decide) (by unfold maxLen; omega) (by omega) (by simp; omega) (wA.heap.size + 1) (by simp) ?_
  intro g cap wC hownC hgrowC hlocC hltC
  have hGR : Hid (Gro wA wC q.vc (.slice (some ⟨g, 0, none⟩) (s.stack.length + 1) cap)) := Lib.hid (gro_append2 (w := wA) hgrowC hlocC)
  have HMBA : Hid (MacB P wA s q) := Lib.hid ((hBA2.block P HMB.out.lt).trans HMB.out)
  have HMEA := Lib.hid (HME.out.keep (KeptB.of (kept_of_below hBA2)))
  have HMDA := Lib.hid (HMD.out.go (w' := wA) (fun k _ h => hBA2.block k h) rfl rfl rfl rfl rfl)
  have hmC := mac_push (fr := s.cur) (cc := cc) HMBA.out HMEA.out HMDA.out hP hKA (HCC.out.2.imp fun fr cs hc => CCal.go (KeptB.of (kept_of_below hBA2)) (fun _ h => h) hc) hGR.out hownC
    (SL.imp (fun b o y hy => ⟨⟨Nat.le_trans hK0 hy.1, fun e => by have := (HMD.out.rdv.lt b e.symm).2; have h9 : w2.heap.size ≤ b := hy.1; omega, fun e => by have := (HMD.out.outv.lt b e.symm).2; have h9 : w2.heap.size ≤ b := hy.1; omega, fun e => by have := (HCC.out.1.lt b e.symm).2; have h9 : w2.heap.size ≤ b := hy.1; omega⟩, hy.2⟩) hsA) hlA hrA
  have HMC := Lib.hid hmC
  clear hmC
  have hPv : q.vc.ownBlock ≠ some P := by intro e; have := (HCC.out.1.lt P e).1; omega
  have hbC := gro_block hGR.out HMBA.out hPv
  have hSC : wC.cell? ⟨P, 259, none⟩ = some q.vc ∧ wC.cell? ⟨P, 0, none⟩ = some (.int .i64 s.cur.fn) ∧ wC.cell? ⟨P, 1, none⟩ = some (.int .i64 s.cur.blk) ∧ wC.cell? ⟨P, 2, none⟩ = some (.int .i64 s.cur.at_) := ⟨hbC.cell (by omega), hbC.cell (by omega), hbC.cell (by omega), hbC.cell (by omega)⟩
  have xc : wC.cell? ⟨P, 259, none⟩ = some q.vc := hSC.1
  have xf : wC.frozen? ⟨P, 259, none⟩ = false := hbC.free 259
  have hbox : wC.heap[w.heap.size]? = w2.heap[w.heap.size]? := (hGR.out.block w.heap.size (Nat.lt_of_lt_of_le hlt2 hBA2.size) (HAP2.out.2 259 q.vc (.inl rfl) (HMB.out.cell (by omega)))).trans (hBA2.block _ hlt2)
  refine hK.out _ _ hSC ?_
  clear hK K'
  simp only [Act.put, List.setIfInBounds_toArray, List.set_cons_zero, List.set_cons_succ]
  refine takeH (i := 14) (some 101) (v := ?_) rfl (by kernel_rfl) (by kernel_rfl) (by kernel_rfl) (fun _ _ _ h => h) hSC (fun o ho => ?_) ?_
  rotate_left
  · simp only [List.getElem?_toArray, List.getElem?_cons_zero, List.getElem?_cons_succ, Option.some.injEq] at ho; subst ho; refine Or.inl ⟨by rfl, fun w' hSw => ?_⟩; (try dsimp only at hSw); go_simp; try with_reducible rfl
  simp only [Act.put, List.setIfInBounds_toArray, List.set_cons_zero, List.set_cons_succ]
  refine takeH (i := 15) (some 102) (v := ?_) rfl (by kernel_rfl) (by kernel_rfl) (by kernel_rfl) (fun _ _ _ h => h) hSC (fun o ho => ?_) ?_
  rotate_left
  · simp only [List.getElem?_toArray, List.getElem?_cons_zero, List.getElem?_cons_succ, Option.some.injEq] at ho; subst ho; refine Or.inl ⟨by rfl, fun w' hSw => ?_⟩; (try dsimp only at hSw); go_simp; try with_reducible rfl
  simp only [Act.put, List.setIfInBounds_toArray, List.set_cons_zero, List.set_cons_succ]
  refine wpAnyH_done (by kernel_rfl) ?_ _
  refine lastH (by decide) (fun o ho K' hK => ?_)
  simp only [List.getElem?_toArray, List.getElem?_cons_zero, List.getElem?_cons_succ, Option.some.injEq] at ho; subst ho
  go_simp
  refine hK.out _ _ ?_
  clear hK K'
  have HBB5 := Lib.hid ((HBB2.out.trans (BB.of_below hBA2 hK0)).trans HMC.out.2)
  have d5 : (wC.setCell ⟨P, 259, none⟩ (.slice (some ⟨g, 0, none⟩) (s.stack.length + 1) cap)).cell? ⟨w.heap.size, 4, none⟩ = some (.int .i64 x.fn) :=
    (World.cell?_of_block (a := ⟨w.heap.size, 4, none⟩) ((set_others w.heap.size (Nat.lt_of_lt_of_le (Nat.lt_of_lt_of_le hlt2 hBA2.size) hGR.out.size) HAP2.out.1).trans hbox)).trans d4
  have HM5 := Lib.hid HMC.out.1
  clear HMC xc xf hSC hbC hPv HMBA HMEA HMDA hGR hownC hgrowC hlocC hltC hbox hb8 hSA hBA hBA2 hsA hlA hrA hS hS0 d0 d1 d2 d3 d4 HOWA hKA e1 e15 e16 e17 e18
  generalize wC.setCell ⟨P, 259, none⟩ (.slice (some ⟨g, 0, none⟩) (s.stack.length + 1) cap) = w5 at *
  obtain ⟨q5, hb5, he5, hd5, -, -⟩ := id HM5.out
  obtain ⟨A5, c5, hv5, hs5⟩ := sl_of_own hd5.rdv rfl
  have cv5 : w5.cell? ⟨P, 262, none⟩ = some (.slice A5 (argsV s.cur.regs x.args).length c5) := (hb5.cell (by omega)).trans (congrArg some hv5)
  have HV5 : Hid (VS w5.drew 1 (RWB (fun b => b ≠ P)) (.slice A5 (argsV s.cur.regs x.args).length c5) (argsV s.cur.regs x.args)) := Lib.hid ⟨A5, c5, rfl, SL.imp (fun b o y hy => ⟨by have := hy.1; omega, hy.2⟩) hs5⟩
  have HM6 : Hid (Mac K P m w5.drew { s with stack := s.cur :: s.stack } (argsV s.cur.regs x.args)) := Lib.hid (HM5.out.drewN 1)
  have HBB6 : Hid (BB K P w w5.drew) := Lib.hid (HBB5.out.drewN 1)
  rw [HN.out] at d5
  clear hb5 he5 hd5 hv5 hs5 HM5 HBB5
  go_wp2_with fail
  go_still_tail 7, (by kernel_rfl)
  change wpList _ _ _ _ _ w5.drew
  clear d5 cv5
  generalize w5.drew = w6 at *
  go_wp2_with fail
  refine (enter_any K P m w6 _ _ _ _ n HM6.out HV5.out (by rw [argsV_len]; exact HL.out)).mono ?_
  rintro e w7 ⟨rfl, z1, z2⟩
  go_wp2_with fail
  go_end0
  exact ⟨rfl, ⟨_, by rw [HE.out]; exact z1⟩, HBB6.out.trans z2⟩

end Go.Proofs.Ytcjmhdneelmbhaa

/- A step of the machine; a run stays all right. -/
namespace Go.Proofs.Ytcjmhdneelmbhaa
open Go.ChangeShapes Go.WideShapes Go.RowKit Go.Deep
set_option linter.unusedVariables false

/-! ### Mathematics -/
structure OkS (m : List FunD) (s : St) : Prop where
  cur : ∃ f kb, OkC m s.cur f kb
  stack : ∀ c ∈ s.stack, Waits m c
theorem upd_zero {r : Nat → Int} {n : Nat} {d : Int} {v : Int} (h : ∀ i, n ≤ i → r i = 0) (hd : InR n d) : ∀ i, n ≤ i → upd r d.toNat v i = 0 := fun i hi => by
  unfold upd; rw [if_neg (by have := hd.1; have := hd.2; omega)]; exact h i hi
theorem firstR_zero {l : List Int} {n : Nat} (h : l.length ≤ n) : ∀ i, n ≤ i → firstR l i = 0 := fun i hi => by
  unfold firstR; rw [List.getD_eq_getElem?_getD, List.getElem?_eq_none (by omega)]; rfl
theorem setAll_zero {n : Nat} : ∀ (l : List (Int × Int)) (r : Nat → Int), (∀ i, n ≤ i → r i = 0) → (∀ p ∈ l, InR n p.1) → ∀ i, n ≤ i → setAll r l i = 0 := by
  intro l
  induction l with
  | nil => intro r h _; exact h
  | cons p l ih =>
    intro r h hp
    exact ih _ (upd_zero h (hp p (List.mem_cons_self ..))) (fun q hq => hp q (List.mem_cons_of_mem _ hq))
theorem funAt_get {m : List FunD} {i : Int} (h : InR m.length i) : m[i.toNat]? = some (funAt m i) ∧ funAt m i ∈ m := by
  have hl : i.toNat < m.length := by have := h.1; have := h.2; omega
  have e : m[i.toNat]? = some m[i.toNat] := List.getElem?_eq_getElem hl
  have e2 : funAt m i = m[i.toNat] := by unfold funAt; rw [List.getD_eq_getElem?_getD, e]; rfl
  rw [e2]; exact ⟨e, List.getElem_mem hl⟩
theorem goTo_ok {m : List FunD} {s : St} {f : FunD} {kb : BlkD} (hF : FunOk m f) (h : OkC m s.cur f kb) {x : Int} (hx : x ∈ kb.term.to) : ∃ kt, OkC m (goToF f s.cur x.toNat) f kt := by
  obtain ⟨kt, he, hxn⟩ := enter_ok hF h hx
  refine ⟨kt, h.hf, he.hb, Nat.zero_le _, ?_⟩
  show ∀ i, _ → setAll s.cur.regs _ i = 0
  refine setAll_zero _ _ h.zero (fun p hp => ?_)
  obtain ⟨d, v⟩ := p
  have h1 := (List.of_mem_zip hp).1
  obtain ⟨ph, hph, rfl⟩ := List.mem_map.1 h1
  have e : blkAt f x.toNat = kt := getD_of he.hb
  rw [e] at hph
  exact (hF.phis _ kt he.hb ph hph).2.1
theorem give_ok {m : List FunD} {s : St} (h : OkS m s) (v : Int) : OkS m (giveS m s v) := by
  unfold giveS
  cases hs : s.stack with
  | nil => exact ⟨h.cur, fun c hc => by cases hc⟩
  | cons c r =>
    obtain ⟨f, kb, x, a, ha, hf, hb, hx, hd, hr, ha6, hz⟩ := h.stack c (by rw [hs]; exact List.mem_cons_self ..)
    refine ⟨⟨f, kb, ?_⟩, fun d hd => h.stack d (by rw [hs]; exact List.mem_cons_of_mem _ hd)⟩
    have hcall : callOf m c = x := by unfold callOf blkAt; rw [getD_of hf, getD_of hb, ha, Nat.add_sub_cancel, getD_of hx]
    have hlt := (List.getElem?_eq_some_iff.1 hx).1
    show OkC m (resumeF m c v) f kb
    unfold resumeF
    rw [hcall]
    by_cases h0 : 0 ≤ x.dst
    · rw [if_pos h0]
      refine ⟨hf, hb, by show c.at_ ≤ _; omega, upd_zero hz ?_⟩
      rcases hd with h | h
      · omega
      · exact h
    · rw [if_neg h0]; exact ⟨hf, hb, by omega, hz⟩
theorem step_ok {m : List FunD} {s : St} (hP : Proper m) (h : OkS m s) : OkS m (stepS m s) := by
  obtain ⟨h32, hall⟩ := proper_ok hP
  obtain ⟨f, kb, hc⟩ := h.cur
  have hF := hall f (List.mem_of_getElem? hc.hf)
  have hkb : blkOf m s.cur = kb := by unfold blkOf blkAt; rw [getD_of hc.hf, getD_of hc.hb]
  unfold stepS
  rw [hkb]
  by_cases hat : s.cur.at_ = kb.ins.length
  · rw [if_pos hat]
    unfold endS
    rcases hF.kind kb (List.mem_of_getElem? hc.hb) with ⟨hk, hl⟩ | ⟨hk, hl, harg⟩ | ⟨hk, hl, harg⟩
    · obtain ⟨x, hx⟩ := len_one hl
      rw [if_neg (by omega), if_neg (by omega), getD_of hc.hf]
      obtain ⟨kt, h1⟩ := goTo_ok (s := s) hF hc (x := x) (by rw [hx]; simp)
      exact ⟨⟨f, kt, by rw [hx]; exact h1⟩, h.stack⟩
    · obtain ⟨x, y, hx⟩ := len_two hl
      rw [if_neg (by omega)]
      by_cases hz : s.cur.regs kb.term.arg.toNat = 0
      · rw [if_pos ⟨hk, hz⟩, getD_of hc.hf]
        obtain ⟨kt, h1⟩ := goTo_ok (s := s) hF hc (x := y) (by rw [hx]; simp)
        exact ⟨⟨f, kt, by rw [hx]; exact h1⟩, h.stack⟩
      · rw [if_neg (fun h => hz h.2), getD_of hc.hf]
        obtain ⟨kt, h1⟩ := goTo_ok (s := s) hF hc (x := x) (by rw [hx]; simp)
        exact ⟨⟨f, kt, by rw [hx]; exact h1⟩, h.stack⟩
    · rw [if_pos hk]; exact give_ok h _
  · rw [if_neg hat]
    have hlt : s.cur.at_ < kb.ins.length := by have := hc.hat; omega
    have hx : kb.ins[s.cur.at_]? = some kb.ins[s.cur.at_] := List.getElem?_eq_getElem hlt
    rw [getD_of hx]
    generalize kb.ins[s.cur.at_] = x at hx
    have hI := hF.ins kb (List.mem_of_getElem? hc.hb) x (List.mem_of_getElem? hx)
    have keep : OkC m { s.cur with at_ := s.cur.at_ + 1 } f kb := ⟨hc.hf, hc.hb, by show s.cur.at_ + 1 ≤ _; omega, hc.zero⟩
    have hset : ∀ v, InR f.regs.length x.dst → OkS m (setR { s with cur := { s.cur with at_ := s.cur.at_ + 1 } } x.dst v) := fun v hd =>
      ⟨⟨f, kb, hc.hf, hc.hb, by show s.cur.at_ + 1 ≤ _; omega, upd_zero hc.zero hd⟩, h.stack⟩
    have htrap : ∀ t, OkS m (trapS { s with cur := { s.cur with at_ := s.cur.at_ + 1 } } t) := fun t => ⟨⟨f, kb, keep⟩, h.stack⟩
    unfold doS
    rcases hI.2 with ⟨ho, hd⟩ | ⟨ho1, ho2, hl, hd⟩ | ⟨ho, hl, hd⟩ | ⟨ho, hl⟩ | ⟨ho, hl⟩ | ⟨ho, hfn, hl, hd⟩
    · rw [if_pos ho]; exact hset _ hd
    · rw [if_neg (by omega), if_neg (by omega), if_neg (by omega), if_neg (by omega), if_neg (by omega)]
      split
      · exact hset _ hd
      · exact htrap _
    · rw [if_neg (by omega), if_pos ho]
      split
      · exact hset _ hd
      · exact htrap _
    · rw [if_neg (by omega), if_neg (by omega), if_pos ho]
      split
      · exact ⟨⟨f, kb, keep⟩, h.stack⟩
      · exact htrap _
    · rw [if_neg (by omega), if_neg (by omega), if_neg (by omega), if_pos ho]
      exact ⟨⟨f, kb, keep⟩, h.stack⟩
    · rw [if_neg (by omega), if_neg (by omega), if_neg (by omega), if_neg (by omega), if_pos ho]
      obtain ⟨e1, e2⟩ := funAt_get hfn
      have hG := hall _ e2
      have hb0 : 0 < (funAt m x.fn).blocks.length := hG.nb.1
      refine ⟨⟨funAt m x.fn, _, e1, List.getElem?_eq_getElem hb0, Nat.zero_le _, ?_⟩, ?_⟩
      · exact firstR_zero (by rw [argsV_len]; have := hG.par.2.2; omega)
      · intro c hcm
        rcases List.mem_cons.1 hcm with rfl | hcm
        · exact ⟨f, kb, x, s.cur.at_, rfl, hc.hf, hc.hb, hx, hd.imp id id, hF.nr, by have := hF.items kb (List.mem_of_getElem? hc.hb); omega, hc.zero⟩
        · exact h.stack c hcm
theorem step_lens (m : List FunD) (s : St) : (stepS m s).stack.length ≤ s.stack.length + 1 ∧ (stepS m s).out.length ≤ s.out.length + 1 := by
  constructor
  · unfold stepS endS giveS doS setR trapS enterS
    repeat' split
    all_goals simp_all
    all_goals omega
  · obtain ⟨r, hr, hl⟩ := stepS_out m s
    rw [hr, List.length_append]; omega
end Go.Proofs.Ytcjmhdneelmbhaa

/- Places inside a block that want a register; what a run does without it: plain mathematics. -/
namespace Go.Proofs.Ytcjmhdneelmbhaa
open Go.RowKit
set_option linter.unusedVariables false

/-- Ahead of these instructions, of which E is asked behind them: is the register read before it is made? -/
def lvP (R : Nat) : List InsD → Prop → Prop
  | [], E => E
  | x :: l, E => (R : Int) ∈ x.args ∨ (x.dst ≠ (R : Int) ∧ lvP R l E)
/-- Does this place of a function want the register? -/
def wantAt (f : FunD) (R b a : Nat) : Prop := lvP R ((blkAt f b).ins.drop a) ((blkAt f b).term.arg = (R : Int) ∨ Want f.blocks true b R)
theorem wantAt_step {f : FunD} {R b a : Nat} {kb : BlkD} {x : InsD} (hb : f.blocks[b]? = some kb) (hx : kb.ins[a]? = some x) : wantAt f R b a ↔ (R : Int) ∈ x.args ∨ (x.dst ≠ (R : Int) ∧ wantAt f R b (a + 1)) := by
  have e : blkAt f b = kb := getD_of hb
  have hl := (List.getElem?_eq_some_iff.1 hx).1
  unfold wantAt
  rw [e, List.drop_eq_getElem_cons hl, (List.getElem?_eq_some_iff.1 hx).2]
  rfl
theorem wantAt_end {f : FunD} {R b : Nat} {kb : BlkD} (hb : f.blocks[b]? = some kb) : wantAt f R b kb.ins.length ↔ kb.term.arg = (R : Int) ∨ Want f.blocks true b R := by
  have e : blkAt f b = kb := getD_of hb
  unfold wantAt
  rw [e, List.drop_length]
  rfl
theorem usK_mono {ins : List InsD} {i j r : Nat} (h : i ≤ j) (hr : r ∈ usK ins i) : r ∈ usK ins j := by
  induction j with
  | zero => obtain rfl : i = 0 := by omega
            exact hr
  | succ j ih =>
    by_cases e : i = j + 1
    · subst e; exact hr
    · show r ∈ usK ins j ++ _
      exact List.mem_append_left _ (ih (by omega))
/-- What a place wants: it is used ahead of what makes it, or not made and wanted at the end. -/
theorem lv_uses {k : BlkD} {R : Nat} {W : Prop} : ∀ (n i : Nat), i + n = k.ins.length → mkI k.ins i R = false → lvP R (k.ins.drop i) (k.term.arg = (R : Int) ∨ W) → R ∈ usB k ∨ (mkI k.ins k.ins.length R = false ∧ W) := by
  intro n
  induction n with
  | zero =>
    intro i hi hm h
    obtain rfl : i = k.ins.length := by omega
    rw [List.drop_length] at h
    have h : k.term.arg = (R : Int) ∨ W := h
    rcases h with h | h
    · left
      unfold usB usE
      refine List.mem_append_right _ ?_
      have e : k.term.arg.toNat = R := by omega
      rw [if_pos ⟨by omega, by rw [e]; exact hm⟩, e]
      simp
    · exact .inr ⟨hm, h⟩
  | succ n ih =>
    intro i hi hm h
    have hl : i < k.ins.length := by omega
    have hx : k.ins[i]? = some k.ins[i] := List.getElem?_eq_getElem hl
    rw [List.drop_eq_getElem_cons hl] at h
    generalize k.ins[i] = x at hx h
    have h : (R : Int) ∈ x.args ∨ (x.dst ≠ (R : Int) ∧ lvP R (k.ins.drop (i + 1)) (k.term.arg = (R : Int) ∨ W)) := h
    rcases h with h | ⟨hd, h⟩
    · left
      unfold usB
      refine List.mem_append_left _ (usK_mono (show i + 1 ≤ k.ins.length by omega) ?_)
      rw [usK_succ hx]
      refine List.mem_append_right _ ?_
      unfold usA
      exact List.mem_filter.2 ⟨List.mem_map.2 ⟨_, h, by simp⟩, by rw [hm]; rfl⟩
    · exact ih (i + 1) (by omega) (by rw [mkI_succ hx, hm, decide_eq_false hd]; rfl) h
/-- What a block's first place wants is wanted at its beginning, if no phi makes it. -/
theorem want_first {f : FunD} {R t : Nat} {kt : BlkD} (ht : f.blocks[t]? = some kt) (hp : phB f.blocks t R = false) (h : wantAt f R t 0) : Want f.blocks false t R := by
  have e : blkAt f t = kt := getD_of ht
  unfold wantAt at h
  rw [e] at h
  rcases lv_uses (k := kt) (R := R) kt.ins.length 0 (by omega) (by simp [mkI]) h with h | ⟨h1, h2⟩
  · exact .use ht h hp
  · exact .thru (List.getElem?_eq_some_iff.1 ht).1 h2 (by rw [mkB_at ht]; exact h1) hp
theorem setAll_congr {P : Nat → Prop} : ∀ (l : List (Int × Int)) (r r' : Nat → Int), (∀ i, P i → (∀ p ∈ l, p.1.toNat ≠ i) → r i = r' i) → ∀ i, P i → setAll r l i = setAll r' l i := by
  intro l
  induction l with
  | nil => intro r r' h i hi; exact h i hi (fun p hp => by cases hp)
  | cons p l ih =>
    intro r r' h i hi
    show setAll (upd r p.1.toNat p.2) l i = setAll (upd r' p.1.toNat p.2) l i
    refine ih _ _ (fun j hj hno => ?_) i hi
    unfold upd
    by_cases e : j = p.1.toNat
    · rw [if_pos e, if_pos e]
    · rw [if_neg e, if_neg e]
      exact h j hj (fun q hq => by
        rcases List.mem_cons.1 hq with rfl | hq
        · exact fun h => e h.symm
        · exact hno q hq)
/-- Two frames at one place, alike but in what is dead. -/
structure AgF (n R : Nat) (dead : Prop) (x y : Fr) : Prop where
  fn : y.fn = x.fn
  blk : y.blk = x.blk
  at_ : y.at_ = x.at_
  regs : ∀ i, ¬ (x.fn = n ∧ i = R ∧ dead) → y.regs i = x.regs i
theorem idx_at {l : List Int} {x : Int} (h : x ∈ l) : l[l.idxOf x]? = some x := by
  rw [List.getElem?_eq_getElem (List.idxOf_lt_length_iff.2 h), List.getElem_idxOf]
/-- What phis read is alike. -/
theorem phi_alike {m : List FunD} {f : FunD} {n R : Nat} {x y : Fr} {kb : BlkD} {tb : Nat} (hF : FunOk m f) (hb : f.blocks[x.blk]? = some kb) (hto : (tb : Int) ∈ kb.term.to)
    (ha : AgF n R (¬ (kb.term.arg = (R : Int) ∨ Want f.blocks true x.blk R)) x y) : phiVals f y tb = phiVals f x tb := by
  unfold phiVals
  rw [ha.blk]
  have hlt : tb < f.blocks.length := by have := hF.to kb (List.mem_of_getElem? hb) _ hto; omega
  have ht : f.blocks[tb]? = some f.blocks[tb] := List.getElem?_eq_getElem hlt
  generalize f.blocks[tb] = kt at ht
  have e : blkAt f tb = kt := getD_of ht
  rw [e]
  refine List.map_congr_left fun p hp => ?_
  have hmem : (x.blk : Int) ∈ aheadL f.blocks tb := ahead_has hb hto
  have hi := idx_at hmem
  have hl := (hF.phis tb kt ht p hp).1
  have hlen := (List.getElem?_eq_some_iff.1 hi).1
  have hx : p.args[(aheadL f.blocks tb).idxOf (x.blk : Int)]? = some p.args[(aheadL f.blocks tb).idxOf (x.blk : Int)] := List.getElem?_eq_getElem (by omega)
  rw [List.getD_eq_getElem?_getD, hx]
  generalize p.args[(aheadL f.blocks tb).idxOf (x.blk : Int)] = a at hx
  have har := (hF.phis tb kt ht p hp).2.2 a (List.mem_of_getElem? hx)
  refine ha.regs _ (fun h => h.2.2 (.inr (.along (t := tb) ⟨kt, ht, p, hp, ?_⟩)))
  have h1 := prP_at hi hx
  have e2 : (a : Int).toNat = R := h.2.1
  have h3 := List.mem_of_getElem? h1
  simpa [e2] using h3
/-- Into another block: alike but in what that place does not want. -/
theorem goTo_alike {m : List FunD} {f : FunD} {n R : Nat} {x y : Fr} {kb : BlkD} {tb : Nat} (hF : FunOk m f) (hb : f.blocks[x.blk]? = some kb) (hto : (tb : Int) ∈ kb.term.to)
    (ha : AgF n R (¬ (kb.term.arg = (R : Int) ∨ Want f.blocks true x.blk R)) x y) : AgF n R (¬ wantAt f R tb 0) (goToF f x tb) (goToF f y tb) := by
  have hlt : tb < f.blocks.length := by have := hF.to kb (List.mem_of_getElem? hb) _ hto; omega
  have ht : f.blocks[tb]? = some f.blocks[tb] := List.getElem?_eq_getElem hlt
  generalize f.blocks[tb] = kt at ht
  have e : blkAt f tb = kt := getD_of ht
  refine ⟨ha.fn, rfl, rfl, fun i hi => ?_⟩
  show setAll y.regs _ i = setAll x.regs _ i
  rw [phi_alike hF hb hto ha]
  refine setAll_congr (P := fun i => ¬ (x.fn = n ∧ i = R ∧ ¬ wantAt f R tb 0)) _ _ _ (fun j hj hno => ha.regs j (fun h => hj ⟨h.1, h.2.1, fun hw => h.2.2 (.inr ?_)⟩)) i hi
  have hph : phB f.blocks tb R = false := by
    rw [phB_at ht]
    cases hq : phI kt.phis kt.phis.length R with
    | false => rfl
    | true =>
      exfalso
      unfold phI at hq
      rw [List.take_length] at hq
      obtain ⟨p, hp, hd⟩ := List.any_eq_true.1 hq
      have hd : p.dst = (R : Int) := of_decide_eq_true hd
      have hlen : (phiVals f x tb).length = kt.phis.length := by unfold phiVals; rw [e, List.length_map]
      obtain ⟨k, hk⟩ := List.mem_iff_getElem?.1 hp
      have hkl := (List.getElem?_eq_some_iff.1 hk).1
      have hz : (((blkAt f tb).phis.map PhiD.dst).zip (phiVals f x tb))[k]? = some (p.dst, (phiVals f x tb)[k]'(by omega)) := by
        rw [List.getElem?_zip_eq_some]
        exact ⟨by rw [e, List.getElem?_map, hk]; rfl, List.getElem?_eq_getElem (by omega)⟩
      exact hno _ (List.mem_of_getElem? hz) (by show p.dst.toNat = j; rw [hd, h.2.1]; simp)
  exact .back hlt (ahead_has hb hto) (want_first ht hph hw)
end Go.Proofs.Ytcjmhdneelmbhaa

/- Two runs side by side: of a module and of one with an instruction more at a block's end, which makes what is not wanted there: plain mathematics. -/
namespace Go.Proofs.Ytcjmhdneelmbhaa
open Go.RowKit
set_option linter.unusedVariables false

inductive Al2 {α : Type} (P : α → α → Prop) : List α → List α → Prop
  | nil : Al2 P [] []
  | cons {a b : α} {l k : List α} : P a b → Al2 P l k → Al2 P (a :: l) (b :: k)
theorem aheadK_set (bs : List BlkD) : ∀ (i B : Nat) (k k' : BlkD) (x : Int), bs[B]? = some k → k'.term.to = k.term.to → aheadK (bs.set B k') i x = aheadK bs i x := by
  induction bs with
  | nil => intro i B k k' x h; cases h
  | cons b r ih =>
    intro i B k k' x h e
    cases B with
    | zero =>
      cases h
      show (if hasTo x k'.term.to then _ else _) ++ _ = _
      rw [e]; rfl
    | succ B =>
      show _ ++ aheadK (r.set B k') (i + 1) x = _ ++ aheadK r (i + 1) x
      rw [ih (i + 1) B k k' x h e]
/-- One module, and another one with an instruction more. -/
structure TwoM (m t : List FunD) (n B R : Nat) (f : FunD) (kB : BlkD) (c : InsD) : Prop where
  hf : m[n]? = some f
  hB : f.blocks[B]? = some kB
  op : c.op = 1
  dst : c.dst = (R : Int)
  ht : t = m.set n { f with blocks := f.blocks.set B { kB with ins := kB.ins ++ [c] } }
  arg : kB.term.arg ≠ (R : Int)
  dead : ¬ Want f.blocks true B R
section
variable {m t : List FunD} {n B R : Nat} {f : FunD} {kB : BlkD} {c : InsD}
theorem TwoM.other (T : TwoM m t n B R f kB c) {i : Nat} (h : i ≠ n) : t.getD i default = m.getD i default := by
  rw [T.ht, List.getD_eq_getElem?_getD, List.getD_eq_getElem?_getD, List.getElem?_set_ne (fun e => h e.symm)]
theorem TwoM.here (T : TwoM m t n B R f kB c) : t.getD n default = { f with blocks := f.blocks.set B { kB with ins := kB.ins ++ [c] } } := by
  rw [T.ht, List.getD_eq_getElem?_getD, List.getElem?_set_self (List.getElem?_eq_some_iff.1 T.hf).1]; rfl
theorem TwoM.mere (T : TwoM m t n B R f kB c) : m.getD n default = f := getD_of T.hf
theorem blkAt_set {f : FunD} {B b : Nat} {k k' : BlkD} (h : f.blocks[B]? = some k) : blkAt { f with blocks := f.blocks.set B k' } b = if b = B then k' else blkAt f b := by
  unfold blkAt
  by_cases e : b = B
  · subst e
    rw [if_pos rfl, List.getD_eq_getElem?_getD, List.getElem?_set_self (List.getElem?_eq_some_iff.1 h).1]; rfl
  · rw [if_neg e, List.getD_eq_getElem?_getD, List.getD_eq_getElem?_getD, List.getElem?_set_ne (fun h => e h.symm)]
/-- The block where a frame is: the same, but one instruction more at one place. -/
theorem TwoM.blk (T : TwoM m t n B R f kB c) (x y : Fr) (h1 : y.fn = x.fn) (h2 : y.blk = x.blk) : blkOf t y = if x.fn = n ∧ x.blk = B then { kB with ins := kB.ins ++ [c] } else blkOf m x := by
  unfold blkOf
  rw [h1, h2]
  by_cases e : x.fn = n
  · rw [e, T.here, T.mere, blkAt_set T.hB]
    by_cases e2 : x.blk = B
    · rw [if_pos e2, if_pos ⟨rfl, e2⟩]
    · rw [if_neg e2, if_neg (fun h => e2 h.2)]
  · rw [T.other e, if_neg (fun h => e h.1)]
theorem TwoM.blkB (T : TwoM m t n B R f kB c) {x : Fr} (h1 : x.fn = n) (h2 : x.blk = B) : blkOf m x = kB := by
  unfold blkOf; rw [h1, h2, T.mere]; exact getD_of T.hB
theorem TwoM.goTo (T : TwoM m t n B R f kB c) (x : Fr) (tb : Nat) : goToF (t.getD n default) x tb = goToF f x tb := by
  have hp : (blkAt (t.getD n default) tb).phis = (blkAt f tb).phis := by
    rw [T.here, blkAt_set T.hB]
    by_cases e : tb = B
    · rw [if_pos e, e]
      have : blkAt f B = kB := getD_of T.hB
      rw [this]
    · rw [if_neg e]
  have ha : aheadL (t.getD n default).blocks tb = aheadL f.blocks tb := by
    rw [T.here]
    exact aheadK_set f.blocks 0 B kB _ tb T.hB rfl
  unfold goToF phiVals
  rw [hp, ha]
/-- Two runs alike. -/
structure RelS (m : List FunD) (n R : Nat) (f : FunD) (s s' : St) : Prop where
  done : s'.done = s.done
  trap : s'.trap = s.trap
  value : s'.value = s.value
  out : s'.out = s.out
  mem : s'.mem = s.mem
  cur : s.done = false → AgF n R (¬ wantAt f R s.cur.blk s.cur.at_) s.cur s'.cur
  stack : s.done = false → Al2 (fun x y => AgF n R ((callOf m x).dst = (R : Int) ∨ ¬ wantAt f R x.blk x.at_) x y) s.stack s'.stack
theorem RelS.start (f0 : Nat) (args : List Int) : RelS m n R f (startS f0 args) (startS f0 args) := ⟨rfl, rfl, rfl, rfl, rfl, fun _ => ⟨rfl, rfl, rfl, fun _ _ => rfl⟩, fun _ => .nil⟩
/-- What instructions read is alike. -/
theorem args_alike {x y : Fr} {D : Prop} (ha : AgF n R D x y) {l : List Int} {N : Nat} (hl : ∀ a ∈ l, InR N a) (hd : x.fn = n → (R : Int) ∈ l → ¬ D) : argsV y.regs l = argsV x.regs l := by
  unfold argsV
  refine List.map_congr_left fun a ham => ha.regs _ fun h => ?_
  have h0 := (hl a ham).1
  have e : (R : Int) = a := by have := h.2.1; omega
  exact hd h.1 (by rw [e]; exact ham) h.2.2
/-- From one place to the next one, nothing made. -/
theorem AgF.next {x y : Fr} {kb : BlkD} {i : InsD} (hb : x.fn = n → f.blocks[x.blk]? = some kb) (hi : kb.ins[x.at_]? = some i) (hd : i.dst ≠ (R : Int)) (ha : AgF n R (¬ wantAt f R x.blk x.at_) x y) :
    AgF n R (¬ wantAt f R x.blk (x.at_ + 1)) { x with at_ := x.at_ + 1 } { y with at_ := y.at_ + 1 } :=
  ⟨ha.fn, ha.blk, by show y.at_ + 1 = x.at_ + 1; rw [ha.at_], fun j hj => ha.regs j fun h => hj ⟨h.1, h.2.1, fun hw => h.2.2 ((wantAt_step (hb h.1) hi).2 (.inr ⟨hd, hw⟩))⟩⟩
/-- From one place to the next one, a register made. -/
theorem AgF.made {x y : Fr} {kb : BlkD} {i : InsD} (hb : x.fn = n → f.blocks[x.blk]? = some kb) (hi : kb.ins[x.at_]? = some i) (h0 : 0 ≤ i.dst) (ha : AgF n R (¬ wantAt f R x.blk x.at_) x y) (v : Int) :
    AgF n R (¬ wantAt f R x.blk (x.at_ + 1)) { x with at_ := x.at_ + 1, regs := upd x.regs i.dst.toNat v } { y with at_ := y.at_ + 1, regs := upd y.regs i.dst.toNat v } :=
  ⟨ha.fn, ha.blk, by show y.at_ + 1 = x.at_ + 1; rw [ha.at_], fun j hj => by
    show upd y.regs i.dst.toNat v j = upd x.regs i.dst.toNat v j
    unfold upd
    by_cases e : j = i.dst.toNat
    · rw [if_pos e, if_pos e]
    · rw [if_neg e, if_neg e]
      exact ha.regs j fun h => hj ⟨h.1, h.2.1, fun hw => h.2.2 ((wantAt_step (hb h.1) hi).2 (.inr ⟨fun e2 => e (by rw [h.2.1, e2]; simp), hw⟩))⟩⟩
end
end Go.Proofs.Ytcjmhdneelmbhaa
