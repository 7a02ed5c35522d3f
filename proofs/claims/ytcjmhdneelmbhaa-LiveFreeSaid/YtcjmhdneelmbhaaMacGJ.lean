/- A caller goes on; a function gives back. (Written by gen/genmacf.py.) -/
import Derived.Test.YtcjmhdneelmbhaaMacEJ
namespace Go.Proofs.Ytcjmhdneelmbhaa
open Go.ChangeShapes Go.WideShapes Go.RowKit Go.Deep
set_option linter.unusedVariables false

set_option maxRecDepth 100000 in
set_option maxHeartbeats 8000000 in
theorem resume_any (K P : Nat) (m : List FunD) (w : World) (s : St) (rd l : List Int) (fr : Fr) (f : FunD) (kb : BlkD) (x : InsD) (a : Nat) (u : Int) (A : Option Addr) (cA : Nat) (h : Mac K P m w s rd)
    (hs : SL w 1 (RWB (fun b => b ≠ P)) A cA l) (hl : l.length ≤ 256) (hreg : ∀ i, fr.regs i = l.getD i 0) (ha : fr.at_ = a + 1)
    (hf : m[fr.fn]? = some f) (hb : f.blocks[fr.blk]? = some kb) (hx : kb.ins[a]? = some x) (hd : x.dst = -1 ∨ InR 256 x.dst) (ha64 : a < 1000000) :
    Calls Try.prog 94 #[.pointer (some ⟨P, 0, none⟩), .agg #[.int .i64 fr.fn, .int .i64 fr.blk, .int .i64 fr.at_, .slice A l.length cA], .int .i64 u] w (ToldM K P m w { s with cur := resumeF m fr u } rd) := by
  have hlt := h.lt
  obtain ⟨q, hb0, he0, hd0, hP, hK⟩ := h
  have c0 : w.cell? ⟨P, 0, none⟩ = some (.int .i64 s.cur.fn) := hb0.cell (by omega)
  have c1 : w.cell? ⟨P, 1, none⟩ = some (.int .i64 s.cur.blk) := hb0.cell (by omega)
  have c2 : w.cell? ⟨P, 2, none⟩ = some (.int .i64 s.cur.at_) := hb0.cell (by omega)
  have f0 := hb0.free 0
  have f1 := hb0.free 1
  have f2 := hb0.free 2
  obtain ⟨g1, g2, g3, g4⟩ := mac_place K hb0 fr.fn fr.blk fr.at_
  have hm2 := mac_of g1 he0 hd0 hP hK (Nat.le_of_eq g3.symm) g4 rfl rfl rfl
  have hv2 := vs_others (v := .slice A l.length cA) (P := P) ⟨A, cA, rfl, hs⟩ g4
  obtain ⟨w2, hw2⟩ : ∃ w2, w2 = ((w.setCell ⟨P, 0, none⟩ (.int .i64 fr.fn)).setCell ⟨P, 1, none⟩ (.int .i64 fr.blk)).setCell ⟨P, 2, none⟩ (.int .i64 fr.at_) := ⟨_, rfl⟩
  rw [← hw2] at g2 g3 g4 hm2 hv2
  obtain ⟨w1, hw1, hs1, hk1, hB1, hc1, hf1⟩ := named w2 #[.int .i64 fr.fn, .int .i64 fr.blk, .int .i64 fr.at_, .slice A l.length cA] 153
  have hK2 : K ≤ w2.heap.size := by omega
  have HM1 := Lib.hid (hm2.below hB1)
  have HBB1 : Hid (BB K P w w1) := Lib.hid (g2.trans (BB.of_below hB1 hK2))
  have HV1 := Lib.hid (VS.keep hk1 (fun b o x hx => ⟨hx.1, hk1 _ _ hx.2⟩) hv2)
  rw [g3] at hc1
  have HA := Lib.hid ha
  have HREG := Lib.hid hreg
  have HL := Lib.hid hl
  have HD := Lib.hid hd
  clear hb0 he0 hd0 g1 g2 g4 hm2 hs hv2 hc1 hf1 hs1 hk1 hB1 ha hreg hl hd
  go_enter Try.func94, Try.ntmps94
  go_wp2_with fail
  rw [← hw2, ← hw1]
  clear hw1 hw2 c0 c1 c2 f0 f1 f2 g3 hK2
  refine (setRegs_any K P m _ _ rd l _ HM1.out (vs_plain HV1.out) HL.out).mono ?_
  rintro e wr ⟨rfl, h1, h2⟩
  obtain ⟨s3, hs3⟩ : ∃ s3, s3 = ({ s with cur := fr } : St) := ⟨_, rfl⟩
  have h3 : Mac K P m wr s3 rd := by
    rw [hs3]
    have e : firstR l = fr.regs := funext fun i => (HREG.out i).symm
    unfold withR at h1
    rw [e] at h1
    exact h1
  have HBB2 := Lib.hid (HBB1.out.trans h2)
  have HS3 := Lib.hid hs3
  clear h1 h2 HM1 HBB1 HV1 HREG
  obtain ⟨q3, hb3, he3, hd3, -, hK3⟩ := id h3
  obtain ⟨b, o, c, f', hvf, hf', ⟨-, -, -, -, ⟨Ab, cb, hblkc, hbs⟩⟩⟩ := he3.fun_ (List.getElem?_eq_some_iff.1 hf).1
  obtain rfl : f = f' := Option.some.inj (hf.symm.trans hf'.out)
  obtain ⟨b2, o2, kb', rfl, hkb, ⟨-, -, ⟨Ai, ci, hinsc, hins⟩, -, -, -⟩⟩ := hbs.at_ (List.getElem?_eq_some_iff.1 hb).1
  obtain rfl : kb = kb' := Option.some.inj (hb.symm.trans hkb.out)
  obtain ⟨b3, o3, x', rfl, hx', ⟨-, ⟨x1, -⟩, ⟨x2, -⟩, ⟨Ax, cx, x3, -⟩, ⟨x4, -⟩, ⟨x5, -⟩⟩⟩ := hins.at_ (List.getElem?_eq_some_iff.1 hx).1
  obtain rfl : x = x' := Option.some.inj (hx.symm.trans hx'.out)
  have cf : wr.cell? ⟨P, 260, none⟩ = some (.slice (some ⟨b, o, none⟩) m.length c) := (hb3.cell (by omega)).trans (congrArg some hvf)
  have c0 : wr.cell? ⟨P, 0, none⟩ = some (.int .i64 fr.fn) := (hb3.cell (by omega)).trans (by rw [hs3]; rfl)
  have c1 : wr.cell? ⟨P, 1, none⟩ = some (.int .i64 fr.blk) := (hb3.cell (by omega)).trans (by rw [hs3]; rfl)
  have c2 : wr.cell? ⟨P, 2, none⟩ = some (.int .i64 ((a : Int) + 1)) := (hb3.cell (by omega)).trans (by rw [hs3, show ((a : Int) + 1) = ((a + 1 : Nat) : Int) by omega, ← HA.out]; rfl)
  have k1 : (0 : Int) ≤ fr.fn := by omega
  have k2 : (fr.fn : Int) < m.length := by have := (List.getElem?_eq_some_iff.1 hf).1; omega
  have k3 : (0 : Int) ≤ fr.blk := by omega
  have k4 : (fr.blk : Int) < f.blocks.length := by have := (List.getElem?_eq_some_iff.1 hb).1; omega
  have k5 : (0 : Int) ≤ a := by omega
  have k6 : (a : Int) < kb.ins.length := by have := (List.getElem?_eq_some_iff.1 hx).1; omega
  have k7 : (a : Int) < 1000000 := by omega
  have k8 : IntKind.i64.wrap (a : Int) = (a : Int) := IntWalk.i64_in _ (by omega)
  have HCALL : Hid (callOf m fr = x) := Lib.hid (by
    unfold callOf blkAt
    rw [getD_of hf, getD_of hb, HA.out, Nat.add_sub_cancel, getD_of hx])
  have H3 := Lib.hid h3
  clear hb3 he3 hd3 hvf hf' hbs hkb hins hx' hs3 hf hb hx h3 hK3
  go_wp2_with fail
  refine wp_region_last (L := 29) (S := fun w' => w'.cell? ⟨P, 260, none⟩ = some (.slice (some ⟨b, o, none⟩) m.length c) ∧ w'.cell? ⟨P, 0, none⟩ = some (.int .i64 fr.fn) ∧ w'.cell? ⟨P, 1, none⟩ = some (.int .i64 fr.blk) ∧ w'.cell? ⟨P, 2, none⟩ = some (.int .i64 ((a : Int) + 1)) ∧ w'.cell? ⟨b, o + fr.fn * 4 + 3, none⟩ = some (.slice (some ⟨b2, o2, none⟩) f.blocks.length cb) ∧ w'.cell? ⟨b2, o2 + fr.blk * 5 + 1, none⟩ = some (.slice (some ⟨b3, o3, none⟩) kb.ins.length ci) ∧ w'.cell? ⟨b3, o3 + a * 5, none⟩ = some (.int .i64 x.op) ∧ w'.cell? ⟨b3, o3 + a * 5 + 1, none⟩ = some (.int .i64 x.dst) ∧ w'.cell? ⟨b3, o3 + a * 5 + 2, none⟩ = some (.slice Ax x.args.length cx) ∧ w'.cell? ⟨b3, o3 + a * 5 + 3, none⟩ = some (.int .i64 x.imm) ∧ w'.cell? ⟨b3, o3 + a * 5 + 4, none⟩ = some (.int .i64 x.fn)) (by kernel_rfl) (by rfl) (by kernel_rfl) (by kernel_rfl) ?_
  change wpAnyH _ _ _ _ _ _ _ _ (World.drew _)
  have hS : ∀ w', Below wr.heap.size wr w' → w'.cell? ⟨P, 260, none⟩ = some (.slice (some ⟨b, o, none⟩) m.length c) ∧ w'.cell? ⟨P, 0, none⟩ = some (.int .i64 fr.fn) ∧ w'.cell? ⟨P, 1, none⟩ = some (.int .i64 fr.blk) ∧ w'.cell? ⟨P, 2, none⟩ = some (.int .i64 ((a : Int) + 1)) ∧ w'.cell? ⟨b, o + fr.fn * 4 + 3, none⟩ = some (.slice (some ⟨b2, o2, none⟩) f.blocks.length cb) ∧ w'.cell? ⟨b2, o2 + fr.blk * 5 + 1, none⟩ = some (.slice (some ⟨b3, o3, none⟩) kb.ins.length ci) ∧ w'.cell? ⟨b3, o3 + a * 5, none⟩ = some (.int .i64 x.op) ∧ w'.cell? ⟨b3, o3 + a * 5 + 1, none⟩ = some (.int .i64 x.dst) ∧ w'.cell? ⟨b3, o3 + a * 5 + 2, none⟩ = some (.slice Ax x.args.length cx) ∧ w'.cell? ⟨b3, o3 + a * 5 + 3, none⟩ = some (.int .i64 x.imm) ∧ w'.cell? ⟨b3, o3 + a * 5 + 4, none⟩ = some (.int .i64 x.fn) := fun w' h => ⟨kept_of_below h _ _ cf, kept_of_below h _ _ c0, kept_of_below h _ _ c1, kept_of_below h _ _ c2, kept_of_below h _ _ hblkc, kept_of_below h _ _ hinsc, kept_of_below h _ _ x1, kept_of_below h _ _ x2, kept_of_below h _ _ x3, kept_of_below h _ _ x4, kept_of_below h _ _ x5⟩
  have hS0 := hS wr.drew (Below.refl _ _).drew
  clear cf c0 c1 c2 hblkc hinsc x1 x2 x3 x4 x5
  refine takeH (i := 0) (some 16) (v := ?_) rfl (by kernel_rfl) (by kernel_rfl) (by kernel_rfl) (fun _ _ _ h => h) hS0 (fun o ho => ?_) ?_
  rotate_left
  · simp only [List.getElem?_toArray, List.getElem?_cons_zero, Option.some.injEq] at ho; subst ho; refine Or.inl ⟨by rfl, fun w' hSw => ?_⟩; (try dsimp only at hSw); go_simp; try with_reducible rfl
  simp only [Act.put, List.setIfInBounds_toArray, List.set_cons_zero, List.set_cons_succ]
  refine takeH (i := 1) (some 17) (v := ?_) rfl (by kernel_rfl) (by kernel_rfl) (by kernel_rfl) (fun _ _ _ h => h) hS0 (fun o ho => ?_) ?_
  rotate_left
  · simp only [List.getElem?_toArray, List.getElem?_cons_zero, List.getElem?_cons_succ, Option.some.injEq] at ho; subst ho; refine Or.inl ⟨by rfl, fun w' hSw => ?_⟩; (try dsimp only at hSw); go_simp; try with_reducible rfl
  simp only [Act.put, List.setIfInBounds_toArray, List.set_cons_zero, List.set_cons_succ]
  refine takeH (i := 2) (some 18) (v := ?_) rfl (by kernel_rfl) (by kernel_rfl) (by kernel_rfl) (fun _ _ _ h => h) hS0 (fun o ho => ?_) ?_
  rotate_left
  · simp only [List.getElem?_toArray, List.getElem?_cons_zero, List.getElem?_cons_succ, Option.some.injEq] at ho; subst ho; refine Or.inl ⟨by rfl, fun w' hSw => ?_⟩; (try dsimp only at hSw); go_simp; try with_reducible rfl
  simp only [Act.put, List.setIfInBounds_toArray, List.set_cons_zero, List.set_cons_succ]
  refine takeH (i := 3) (some 19) (v := ?_) rfl (by kernel_rfl) (by kernel_rfl) (by kernel_rfl) (fun _ _ _ h => h) hS0 (fun o ho => ?_) ?_
  rotate_left
  · simp only [List.getElem?_toArray, List.getElem?_cons_zero, List.getElem?_cons_succ, Option.some.injEq] at ho; subst ho; refine Or.inl ⟨by rfl, fun w' hSw => ?_⟩; (try dsimp only at hSw); go_simp; try with_reducible rfl
  simp only [Act.put, List.setIfInBounds_toArray, List.set_cons_zero, List.set_cons_succ]
  refine takeH (i := 4) (some 20) (v := ?_) rfl (by kernel_rfl) (by kernel_rfl) (by kernel_rfl) (fun _ _ _ h => h) hS0 (fun o ho => ?_) ?_
  rotate_left
  · simp only [List.getElem?_toArray, List.getElem?_cons_zero, List.getElem?_cons_succ, Option.some.injEq] at ho; subst ho; refine Or.inl ⟨by rfl, fun w' hSw => ?_⟩; (try dsimp only at hSw); go_simp; try with_reducible rfl
  simp only [Act.put, List.setIfInBounds_toArray, List.set_cons_zero, List.set_cons_succ]
  refine takeH (i := 5) (some 21) (v := ?_) rfl (by kernel_rfl) (by kernel_rfl) (by kernel_rfl) (fun _ _ _ h => h) hS0 (fun o ho => ?_) ?_
  rotate_left
  · simp only [List.getElem?_toArray, List.getElem?_cons_zero, List.getElem?_cons_succ, Option.some.injEq] at ho; subst ho; refine Or.inl ⟨by rfl, fun w' hSw => ?_⟩; (try dsimp only at hSw); go_simp; try with_reducible rfl
  simp only [Act.put, List.setIfInBounds_toArray, List.set_cons_zero, List.set_cons_succ]
  refine takeH (i := 6) (some 22) (v := ?_) rfl (by kernel_rfl) (by kernel_rfl) (by kernel_rfl) (fun _ _ _ h => h) hS0 (fun o ho => ?_) ?_
  rotate_left
  · simp only [List.getElem?_toArray, List.getElem?_cons_zero, List.getElem?_cons_succ, Option.some.injEq] at ho; subst ho; refine Or.inl ⟨by rfl, fun w' hSw => ?_⟩; (try dsimp only at hSw); go_simp; try with_reducible rfl
  simp only [Act.put, List.setIfInBounds_toArray, List.set_cons_zero, List.set_cons_succ]
  refine takeH (i := 7) (some 23) (v := ?_) rfl (by kernel_rfl) (by kernel_rfl) (by kernel_rfl) (fun _ _ _ h => h) hS0 (fun o ho => ?_) ?_
  rotate_left
  · simp only [List.getElem?_toArray, List.getElem?_cons_zero, List.getElem?_cons_succ, Option.some.injEq] at ho; subst ho; refine Or.inl ⟨by rfl, fun w' hSw => ?_⟩; (try dsimp only at hSw); go_simp; try with_reducible rfl
  simp only [Act.put, List.setIfInBounds_toArray, List.set_cons_zero, List.set_cons_succ]
  refine takeH (i := 8) (some 24) (v := ?_) rfl (by kernel_rfl) (by kernel_rfl) (by kernel_rfl) (fun _ _ _ h => h) hS0 (fun o ho => ?_) ?_
  rotate_left
  · simp only [List.getElem?_toArray, List.getElem?_cons_zero, List.getElem?_cons_succ, Option.some.injEq] at ho; subst ho; refine Or.inl ⟨by rfl, fun w' hSw => ?_⟩; (try dsimp only at hSw); go_simp; try with_reducible rfl
  simp only [Act.put, List.setIfInBounds_toArray, List.set_cons_zero, List.set_cons_succ]
  refine takeH (i := 9) (some 25) (v := ?_) rfl (by kernel_rfl) (by kernel_rfl) (by kernel_rfl) (fun _ _ _ h => h) hS0 (fun o ho => ?_) ?_
  rotate_left
  · simp only [List.getElem?_toArray, List.getElem?_cons_zero, List.getElem?_cons_succ, Option.some.injEq] at ho; subst ho; refine Or.inl ⟨by rfl, fun w' hSw => ?_⟩; (try dsimp only at hSw); go_simp; try with_reducible rfl
  simp only [Act.put, List.setIfInBounds_toArray, List.set_cons_zero, List.set_cons_succ]
  refine takeH (i := 10) (some 26) (v := ?_) rfl (by kernel_rfl) (by kernel_rfl) (by kernel_rfl) (fun _ _ _ h => h) hS0 (fun o ho => ?_) ?_
  rotate_left
  · simp only [List.getElem?_toArray, List.getElem?_cons_zero, List.getElem?_cons_succ, Option.some.injEq] at ho; subst ho; refine Or.inl ⟨by rfl, fun w' hSw => ?_⟩; (try dsimp only at hSw); go_simp; try with_reducible rfl
  simp only [Act.put, List.setIfInBounds_toArray, List.set_cons_zero, List.set_cons_succ]
  refine takeH (i := 11) (some 27) (v := ?_) rfl (by kernel_rfl) (by kernel_rfl) (by kernel_rfl) (fun _ _ _ h => h) hS0 (fun o ho => ?_) ?_
  rotate_left
  · simp only [List.getElem?_toArray, List.getElem?_cons_zero, List.getElem?_cons_succ, Option.some.injEq] at ho; subst ho; refine Or.inl ⟨by rfl, fun w' hSw => ?_⟩; (try dsimp only at hSw); go_simp; try with_reducible rfl
  simp only [Act.put, List.setIfInBounds_toArray, List.set_cons_zero, List.set_cons_succ]
  refine takeH (i := 12) (some 28) (v := ?_) rfl (by kernel_rfl) (by kernel_rfl) (by kernel_rfl) (fun _ _ _ h => h) hS0 (fun o ho => ?_) ?_
  rotate_left
  · simp only [List.getElem?_toArray, List.getElem?_cons_zero, List.getElem?_cons_succ, Option.some.injEq] at ho; subst ho; refine Or.inl ⟨by rfl, fun w' hSw => ?_⟩; (try dsimp only at hSw); go_simp; try with_reducible rfl
  simp only [Act.put, List.setIfInBounds_toArray, List.set_cons_zero, List.set_cons_succ]
  refine takeH (i := 13) (some 29) (v := ?_) rfl (by kernel_rfl) (by kernel_rfl) (by kernel_rfl) (fun _ _ _ h => h) hS0 (fun o ho => ?_) ?_
  rotate_left
  · simp only [List.getElem?_toArray, List.getElem?_cons_zero, List.getElem?_cons_succ, Option.some.injEq] at ho; subst ho; refine Or.inl ⟨by rfl, fun w' hSw => ?_⟩; (try dsimp only at hSw); go_simp; try with_reducible rfl
  simp only [Act.put, List.setIfInBounds_toArray, List.set_cons_zero, List.set_cons_succ]
  refine takeH (i := 14) (some 30) (v := ?_) rfl (by kernel_rfl) (by kernel_rfl) (by kernel_rfl) (fun _ _ _ h => h) hS0 (fun o ho => ?_) ?_
  rotate_left
  · simp only [List.getElem?_toArray, List.getElem?_cons_zero, List.getElem?_cons_succ, Option.some.injEq] at ho; subst ho; refine Or.inl ⟨by rfl, fun w' hSw => ?_⟩; (try dsimp only at hSw); go_simp; try with_reducible rfl
  simp only [Act.put, List.setIfInBounds_toArray, List.set_cons_zero, List.set_cons_succ]
  refine takeH (i := 15) (some 31) (v := ?_) rfl (by kernel_rfl) (by kernel_rfl) (by kernel_rfl) (fun _ _ _ h => h) hS0 (fun o ho => ?_) ?_
  rotate_left
  · simp only [List.getElem?_toArray, List.getElem?_cons_zero, List.getElem?_cons_succ, Option.some.injEq] at ho; subst ho; refine Or.inl ⟨by rfl, fun w' hSw => ?_⟩; (try dsimp only at hSw); go_simp; try with_reducible rfl
  simp only [Act.put, List.setIfInBounds_toArray, List.set_cons_zero, List.set_cons_succ]
  refine takeH (i := 16) (some 32) (v := ?_) rfl (by kernel_rfl) (by kernel_rfl) (by kernel_rfl) (fun _ _ _ h => h) hS0 (fun o ho => ?_) ?_
  rotate_left
  · simp only [List.getElem?_toArray, List.getElem?_cons_zero, List.getElem?_cons_succ, Option.some.injEq] at ho; subst ho; refine Or.inl ⟨by rfl, fun w' hSw => ?_⟩; (try dsimp only at hSw); go_simp; try with_reducible rfl
  simp only [Act.put, List.setIfInBounds_toArray, List.set_cons_zero, List.set_cons_succ]
  refine takeH (i := 17) (some 33) (v := ?_) rfl (by kernel_rfl) (by kernel_rfl) (by kernel_rfl) (fun _ _ _ h => h) hS0 (fun o ho => ?_) ?_
  rotate_left
  · simp only [List.getElem?_toArray, List.getElem?_cons_zero, List.getElem?_cons_succ, Option.some.injEq] at ho; subst ho; refine Or.inl ⟨by rfl, fun w' hSw => ?_⟩; (try dsimp only at hSw); go_simp; try with_reducible rfl
  simp only [Act.put, List.setIfInBounds_toArray, List.set_cons_zero, List.set_cons_succ]
  refine takeH (i := 18) (some 34) (v := ?_) rfl (by kernel_rfl) (by kernel_rfl) (by kernel_rfl) (fun _ _ _ h => h) hS0 (fun o ho => ?_) ?_
  rotate_left
  · simp only [List.getElem?_toArray, List.getElem?_cons_zero, List.getElem?_cons_succ, Option.some.injEq] at ho; subst ho; refine Or.inl ⟨by rfl, fun w' hSw => ?_⟩; (try dsimp only at hSw); go_simp; try with_reducible rfl
  simp only [Act.put, List.setIfInBounds_toArray, List.set_cons_zero, List.set_cons_succ]
  refine takeH (i := 19) (some 35) (v := ?_) rfl (by kernel_rfl) (by kernel_rfl) (by kernel_rfl) (fun _ _ _ h => h) hS0 (fun o ho => ?_) ?_
  rotate_left
  · simp only [List.getElem?_toArray, List.getElem?_cons_zero, List.getElem?_cons_succ, Option.some.injEq] at ho; subst ho; refine Or.inl ⟨by rfl, fun w' hSw => ?_⟩; (try dsimp only at hSw); go_simp; try with_reducible rfl
  simp only [Act.put, List.setIfInBounds_toArray, List.set_cons_zero, List.set_cons_succ]
  refine takeH (i := 20) (some 36) (v := ?_) rfl (by kernel_rfl) (by kernel_rfl) (by kernel_rfl) (fun _ _ _ h => h) hS0 (fun o ho => ?_) ?_
  rotate_left
  · simp only [List.getElem?_toArray, List.getElem?_cons_zero, List.getElem?_cons_succ, Option.some.injEq] at ho; subst ho; refine Or.inl ⟨by rfl, fun w' hSw => ?_⟩; (try dsimp only at hSw); go_simp; try with_reducible rfl
  simp only [Act.put, List.setIfInBounds_toArray, List.set_cons_zero, List.set_cons_succ]
  refine takeH (i := 21) (some 37) (v := ?_) rfl (by kernel_rfl) (by kernel_rfl) (by kernel_rfl) (fun _ _ _ h => h) hS0 (fun o ho => ?_) ?_
  rotate_left
  · simp only [List.getElem?_toArray, List.getElem?_cons_zero, List.getElem?_cons_succ, Option.some.injEq] at ho; subst ho; refine Or.inl ⟨by rfl, fun w' hSw => ?_⟩; (try dsimp only at hSw); go_simp; try with_reducible rfl
  simp only [Act.put, List.setIfInBounds_toArray, List.set_cons_zero, List.set_cons_succ]
  refine takeH (i := 22) (some 38) (v := ?_) rfl (by kernel_rfl) (by kernel_rfl) (by kernel_rfl) (fun _ _ _ h => h) hS0 (fun o ho => ?_) ?_
  rotate_left
  · simp only [List.getElem?_toArray, List.getElem?_cons_zero, List.getElem?_cons_succ, Option.some.injEq] at ho; subst ho; refine Or.inl ⟨by rfl, fun w' hSw => ?_⟩; (try dsimp only at hSw); go_simp; try with_reducible rfl
  simp only [Act.put, List.setIfInBounds_toArray, List.set_cons_zero, List.set_cons_succ]
  refine takeH (i := 23) (some 39) (v := ?_) rfl (by kernel_rfl) (by kernel_rfl) (by kernel_rfl) (fun _ _ _ h => h) hS0 (fun o ho => ?_) ?_
  rotate_left
  · simp only [List.getElem?_toArray, List.getElem?_cons_zero, List.getElem?_cons_succ, Option.some.injEq] at ho; subst ho; refine Or.inl ⟨by rfl, fun w' hSw => ?_⟩; (try dsimp only at hSw); go_simp; try with_reducible rfl
  simp only [Act.put, List.setIfInBounds_toArray, List.set_cons_zero, List.set_cons_succ]
  refine takeH (i := 24) (some 40) (v := ?_) rfl (by kernel_rfl) (by kernel_rfl) (by kernel_rfl) (fun _ _ _ h => h) hS0 (fun o ho => ?_) ?_
  rotate_left
  · simp only [List.getElem?_toArray, List.getElem?_cons_zero, List.getElem?_cons_succ, Option.some.injEq] at ho; subst ho; refine Or.inl ⟨by rfl, fun w' hSw => ?_⟩; (try dsimp only at hSw); go_simp; try with_reducible rfl
  simp only [Act.put, List.setIfInBounds_toArray, List.set_cons_zero, List.set_cons_succ]
  refine takeH (i := 25) (some 41) (v := ?_) rfl (by kernel_rfl) (by kernel_rfl) (by kernel_rfl) (fun _ _ _ h => h) hS0 (fun o ho => ?_) ?_
  rotate_left
  · simp only [List.getElem?_toArray, List.getElem?_cons_zero, List.getElem?_cons_succ, Option.some.injEq] at ho; subst ho; refine Or.inl ⟨by rfl, fun w' hSw => ?_⟩; (try dsimp only at hSw); go_simp; try with_reducible rfl
  simp only [Act.put, List.setIfInBounds_toArray, List.set_cons_zero, List.set_cons_succ]
  refine takeH (i := 26) (some 42) (v := ?_) rfl (by kernel_rfl) (by kernel_rfl) (by kernel_rfl) (fun _ _ _ h => h) hS0 (fun o ho => ?_) ?_
  rotate_left
  · simp only [List.getElem?_toArray, List.getElem?_cons_zero, List.getElem?_cons_succ, Option.some.injEq] at ho; subst ho; refine Or.inl ⟨by rfl, fun w' hSw => ?_⟩; (try dsimp only at hSw); go_simp; try with_reducible rfl
  simp only [Act.put, List.setIfInBounds_toArray, List.set_cons_zero, List.set_cons_succ]
  refine takeH (i := 27) (some 43) (v := ?_) rfl (by kernel_rfl) (by kernel_rfl) (by kernel_rfl) (fun _ _ _ h => h) hS0 (fun o ho => ?_) ?_
  rotate_left
  · simp only [List.getElem?_toArray, List.getElem?_cons_zero, List.getElem?_cons_succ, Option.some.injEq] at ho; subst ho; refine Or.inl ⟨by rfl, fun w' hSw => ?_⟩; (try dsimp only at hSw); go_simp; try with_reducible rfl
  simp only [Act.put, List.setIfInBounds_toArray, List.set_cons_zero, List.set_cons_succ]
  refine oneH (i := 28) (by kernel_rfl) (fun o ho K' hK => ?_)
  simp only [List.getElem?_toArray, List.getElem?_cons_zero, List.getElem?_cons_succ, Option.some.injEq] at ho; subst ho
  go_simp
  have hb8 : Below wr.heap.size wr (wr.alloc (.cells #[.int .i64 0, .int .i64 0, .slice none 0 0, .int .i64 0, .int .i64 0] 46)).drew := ((Below.refl _ wr).alloc (Nat.le_refl _) _).drew
  refine hK.out _ _ (hS _ hb8) ?_
  clear hK K'
  refine wpAnyH_done (by kernel_rfl) ?_ _
  refine lastH (by decide) (fun o ho K' hK => ?_)
  simp only [List.getElem?_toArray, List.getElem?_cons_zero, List.getElem?_cons_succ, Option.some.injEq] at ho; subst ho
  go_simp
  refine hK.out _ _ ?_
  clear hK K'
  obtain ⟨w5, hw5, hs5, hk5, hB5, hc5, -⟩ := named wr #[.int .i64 x.op, .int .i64 x.dst, .slice Ax x.args.length cx, .int .i64 x.imm, .int .i64 x.fn] 46
  have d1 : w5.drew.cell? ⟨wr.heap.size, 1, none⟩ = some (.int .i64 x.dst) := hc5 1 _ rfl
  have H6 : Hid (Mac K P m w5.drew s3 rd) := Lib.hid ((H3.out.below hB5).drewN 1)
  have HBB6 : Hid (BB K P w w5.drew) := Lib.hid ((HBB2.out.trans (BB.of_below hB5 (by obtain ⟨_, _, _, _, _, h⟩ := H3.out; exact h))).drewN 1)
  rw [← hw5]
  clear hw5 hs5 hk5 hB5 hc5 hS hS0 hb8 H3 HBB2
  generalize w5.drew = w6 at *
  rcases HD.out with hd | hd
  · rw [hd] at d1
    have HRS : Hid (({ s with cur := resumeF m fr u } : St) = s3) := Lib.hid (by
      unfold resumeF; rw [HCALL.out, if_neg (by omega), HS3.out])
    clear hd k1 k2 k3 k4 k5 k6 k7 k8 HCALL HD HL HA HS3 ha64 hlt hP hK
    go_wp2_with fail
    go_end0
    exact ⟨rfl, by rw [HRS.out]; exact H6.out, HBB6.out⟩
  · obtain ⟨r, hr⟩ : ∃ r : Nat, x.dst = r := ⟨x.dst.toNat, by have := hd.1; omega⟩
    have hr256 : r < 256 := by have := hd.2; omega
    have hr0 : (0 : Int) ≤ r := by omega
    have hr1 : (r : Int) < 256 := by omega
    have HRS : Hid (({ s with cur := resumeF m fr u } : St) = setR s3 r u) := Lib.hid (by
      unfold resumeF setR; rw [HCALL.out, hr, if_pos (by omega), HS3.out])
    rw [hr] at d1
    obtain ⟨q6, hb6, -⟩ := id H6.out
    have creg : w6.cell? ⟨P, 3 + r, none⟩ = some (.int .i64 (s3.cur.regs r)) := hb6.reg hr256
    have freg := hb6.free (3 + r)
    clear hd hr hb6 k1 k2 k3 k4 k5 k6 k7 k8 HCALL HD HL HA HS3 ha64 hlt hP hK
    go_wp2_with fail
    go_still_tail 7, (by kernel_rfl)
    change wpList _ _ _ _ _ w6.drew
    go_wp2_with fail
    go_end0
    obtain ⟨g1, g2⟩ := mac_setR H6.out hr256 u
    exact ⟨rfl, by rw [HRS.out]; exact g1.drewN 1, (HBB6.out.trans g2).drewN 1⟩
end Go.Proofs.Ytcjmhdneelmbhaa

/- A function gives back. -/
namespace Go.Proofs.Ytcjmhdneelmbhaa
open Go.ChangeShapes Go.WideShapes Go.RowKit Go.Deep
set_option linter.unusedVariables false

theorem rows_init {α : Type} {sz : Nat} {F : α → List Value → Prop} {l : List α} {x : α} : ∀ {cs : List Value}, Rows sz F (l ++ [x]) cs → Rows sz F l (cs.take (l.length * sz)) := by
  induction l with
  | nil => intro cs h; simp [Rows]
  | cons y l ih =>
    rintro cs ⟨c, r, rfl, h1, h2, h3⟩
    refine ⟨c, r.take (l.length * sz), ?_, h1, h2, ih h3⟩
    rw [List.length_cons, Nat.succ_mul, Nat.add_comm, ← h1, List.take_length_add_append]
theorem owns_init {w : World} {base n cap g size : Nat} {e : TypeId} {xs : List Value} (h : w.ownsRow base e size (.slice (some ⟨g, 0, none⟩) (n + 1) cap) (n + 1) xs) : w.ownsRow base e size (.slice (some ⟨g, 0, none⟩) n cap) n (xs.take (n * size)) := by
  have hl := h.1
  refine ⟨by rw [List.length_take, hl, Nat.succ_mul]; omega, ?_⟩
  rcases h.2 with ⟨h1, _⟩ | ⟨g', cap', cur, h1, h2, h3, h4, h5, h6, h7⟩
  · cases h1
  · simp only [Value.slice.injEq, Option.some.injEq, Addr.mk.injEq, and_true, true_and] at h1
    obtain ⟨rfl, rfl⟩ := h1
    refine .inr ⟨g, cap, cur, rfl, h2, h3, by omega, h5, h6, ?_⟩
    rw [← h7, List.take_take, Nat.min_eq_left (by rw [Nat.succ_mul]; omega)]
/-- Who waits. -/
theorem Dyn.stack {K : Nat} {w : World} {s : St} {q : MV} {rd : List Int} (h : Dyn K w s q rd) {c : Fr} {r : List Fr} (hs : s.stack = c :: r) :
    ∃ g cap A cA l, r.length + 1 ≤ cap ∧ q.vc = .slice (some ⟨g, 0, none⟩) (r.length + 1) cap ∧ SL w 1 (RWB (fun b => K ≤ b)) A cA l ∧ l.length ≤ 256 ∧ (∀ i, c.regs i = l.getD i 0) ∧
      w.cell? ⟨g, r.length * 4, none⟩ = some (.int .i64 c.fn) ∧ w.cell? ⟨g, r.length * 4 + 1, none⟩ = some (.int .i64 c.blk) ∧ w.cell? ⟨g, r.length * 4 + 2, none⟩ = some (.int .i64 c.at_) ∧ w.cell? ⟨g, r.length * 4 + 3, none⟩ = some (.slice A l.length cA) := by
  obtain ⟨cc, h1, h2⟩ := h.calls
  rw [hs, List.length_cons] at h1
  rw [hs, List.reverse_cons] at h2
  rcases h1.2 with ⟨_, h0⟩ | ⟨g, cap, cur, e, _, _, hcap, _⟩
  · omega
  · rw [e] at h1
    obtain ⟨d, d1, ⟨A, cA, l, rfl, d3, d4, d5⟩, d6⟩ := h2.at_ (i := r.length) (x := c) (by rw [List.getElem?_append_right (by simp)]; simp)
    have hc : ∀ j u, j < 4 → [Value.int .i64 c.fn, .int .i64 c.blk, .int .i64 c.at_, .slice A l.length cA][j]? = some u → w.cell? ⟨g, r.length * 4 + j, none⟩ = some u := fun j u hj hu => by
      have := h1.cells (g := g) rfl (r.length * 4 + j) u ((d6 j hj).trans hu)
      rwa [add_plain', Nat.zero_add] at this
    exact ⟨g, cap, A, cA, l, hcap, e, SL.imp (fun b o x hx => ⟨hx.1.1, hx.2⟩) d3, d4, d5, hc 0 _ (by omega) rfl, hc 1 _ (by omega) rfl, hc 2 _ (by omega) rfl, hc 3 _ (by omega) rfl⟩
/-- One caller less. -/
theorem mac_pop {K P : Nat} {m : List FunD} {w : World} {s : St} {rd : List Int} {q : MV} (hb : MacB P w s q) (he : Env K P w m q) (hd : Dyn K w s q rd) (hP : P < K) (hK : K ≤ w.heap.size) {c : Fr} {r : List Fr} (hs : s.stack = c :: r) {g cap : Nat}
    (hvc : q.vc = .slice (some ⟨g, 0, none⟩) (r.length + 1) cap) : Mac K P m (w.setCell ⟨P, 259, none⟩ (.slice (some ⟨g, 0, none⟩) r.length cap)) { s with stack := r } rd ∧ BB K P w (w.setCell ⟨P, 259, none⟩ (.slice (some ⟨g, 0, none⟩) r.length cap)) := by
  obtain ⟨a1, a2, ⟨cc, a3, a4⟩, a5, a6, a7⟩ := hd
  rw [hs] at a3 a4
  rw [List.length_cons] at a3
  rw [List.reverse_cons] at a4
  have hb1 : MacB P (w.setCell ⟨P, 259, none⟩ (.slice (some ⟨g, 0, none⟩) r.length cap)) { s with stack := r } { q with vc := .slice (some ⟨g, 0, none⟩) r.length cap } := hb.set (set_mid (by omega) (by omega) rfl rfl rfl
    (mid_cases (fun h => absurd rfl h) (fun _ => rfl) (fun _ => rfl) (fun _ => rfl) (fun _ => rfl) (fun _ => rfl) (fun _ => rfl) (fun _ => rfl) (fun _ => rfl)))
  have hown : (Value.slice (some ⟨g, 0, none⟩) r.length cap).ownBlock = q.vc.ownBlock := by rw [hvc]; rfl
  have hS : ∀ k, k < w.heap.size → k ≠ P → (w.setCell ⟨P, 259, none⟩ (.slice (some ⟨g, 0, none⟩) r.length cap)).heap[k]? = w.heap[k]? := fun k hk hne => set_others k hk hne
  have hkeep : ∀ {n size : Nat} {e : TypeId} {u : Value} {xs : List Value}, w.ownsRow K e size u n xs → (w.setCell ⟨P, 259, none⟩ (.slice (some ⟨g, 0, none⟩) r.length cap)).ownsRow K e size u n xs := fun h =>
    owns_keep h (fun g _ hb hl => hS g hl (by omega))
  refine ⟨⟨{ q with vc := .slice (some ⟨g, 0, none⟩) r.length cap }, hb1, env_set he rfl rfl (fun k h1 h2 h3 => hS k h3 h2),
    ⟨hkeep a1, hkeep a2, ⟨_, hkeep (owns_init (by rw [← hvc]; exact a3)), ?_⟩, a5, by show _ ∨ _ ≠ _; rw [hown]; exact a6, by show _ ∨ _ ≠ _; rw [hown]; exact a7⟩, hP, by simpa [World.setCell] using hK⟩, (BB.refl K P w).setCell (p := ⟨P, 259, none⟩) (.inl rfl) _⟩
  have h4 := rows_init a4
  rw [List.length_reverse] at h4
  refine h4.imp fun fr cs hc => CCal.go (fun a v hB hv => ?_) (fun b hB => ⟨hB.1.1, hB.1.2.1, hB.1.2.2.1, by show some b ≠ _; rw [hown]; exact hB.1.2.2.2⟩) hc.lt
  rw [World.cell?_of_block (hS a.block hB.2 (by omega))]; exact hv

/-- One that waits: at a call, of which it knows what it is. -/
def Waits (m : List FunD) (fr : Fr) : Prop :=
  ∃ f kb x a, fr.at_ = a + 1 ∧ m[fr.fn]? = some f ∧ f.blocks[fr.blk]? = some kb ∧ kb.ins[a]? = some x ∧ (x.dst = -1 ∨ InR f.regs.length x.dst) ∧ f.regs.length ≤ 256 ∧ a < 1000000 ∧ ∀ i, f.regs.length ≤ i → fr.regs i = 0
def backV (s : St) (reg : Int) : Int := if 0 ≤ reg then s.cur.regs reg.toNat else 0

set_option maxRecDepth 100000 in
set_option maxHeartbeats 4000000 in
theorem giveBack_any (K P : Nat) (m : List FunD) (w : World) (s : St) (rd : List Int) (reg : Int) (h : Mac K P m w s rd) (hreg : reg = -1 ∨ InR 256 reg) (hst : ∀ c ∈ s.stack, Waits m c) (hsl : s.stack.length ≤ 1048576) :
    Calls Try.prog 79 #[.pointer (some ⟨P, 0, none⟩), .int .i64 reg] w (ToldM K P m w (giveS m s (backV s reg)) rd) := by
  obtain ⟨q, hb, he, hd, hP, hK⟩ := h
  have HB := Lib.hid hb
  have HE := Lib.hid he
  have HD := Lib.hid hd
  have HST := Lib.hid hst
  have cv : w.cell? ⟨P, 259, none⟩ = some q.vc := hb.cell (by omega)
  have cdone : w.cell? ⟨P, 263, none⟩ = some (.bool s.done) := hb.cell (by omega)
  have cval : w.cell? ⟨P, 265, none⟩ = some (.int .i64 s.value) := hb.cell (by omega)
  have fdone := hb.free 263
  have fval := hb.free 265
  have fcal := hb.free 259
  cases hstk : s.stack with
  | nil =>
    have HN : Hid (∀ v, giveS m s v = { s with done := true, value := v }) := Lib.hid (fun v => by unfold giveS; rw [hstk])
    have hvc : ∃ A c, q.vc = .slice A 0 c := by
      obtain ⟨cc, h1, _⟩ := hd.calls
      rw [hstk] at h1
      rcases h1.2 with ⟨h2, _⟩ | ⟨g, cap, cur, h2, _⟩
      · exact ⟨none, 0, h2⟩
      · exact ⟨_, cap, h2⟩
    obtain ⟨A, c, hvc⟩ := hvc
    rw [hvc] at cv
    have HF : Hid (∀ v, Mac K P m ((w.setCell ⟨P, 263, none⟩ (.bool true)).setCell ⟨P, 265, none⟩ (.int .i64 v)) { s with done := true, value := v } rd ∧ BB K P w ((w.setCell ⟨P, 263, none⟩ (.bool true)).setCell ⟨P, 265, none⟩ (.int .i64 v))) := Lib.hid (fun v => by
      have hb1 : MacB P (w.setCell ⟨P, 263, none⟩ (.bool true)) { s with done := true } q :=
        HB.out.set (set_mid (by omega) (by omega) rfl rfl rfl (mid_cases (fun _ => rfl) (fun _ => rfl) (fun _ => rfl) (fun _ => rfl) (fun h => absurd rfl h) (fun _ => rfl) (fun _ => rfl) (fun _ => rfl) (fun _ => rfl)))
      have hb2 : MacB P ((w.setCell ⟨P, 263, none⟩ (.bool true)).setCell ⟨P, 265, none⟩ (.int .i64 v)) { s with done := true, value := v } q :=
        hb1.set (set_mid (by omega) (by omega) rfl rfl rfl (mid_cases (fun _ => rfl) (fun _ => rfl) (fun _ => rfl) (fun _ => rfl) (fun _ => rfl) (fun _ => rfl) (fun h => absurd rfl h) (fun _ => rfl) (fun _ => rfl)))
      exact ⟨mac_of hb2 HE.out HD.out hP hK (by simp [World.setCell]) (fun k hk hne => (set_others k (by simpa [World.setCell] using hk) hne).trans (set_others k hk hne)) rfl rfl rfl,
        ((BB.refl K P w).setCell (p := ⟨P, 263, none⟩) (.inl rfl) _).setCell (p := ⟨P, 265, none⟩) (.inl rfl) _⟩)
    rcases hreg with rfl | hin
    · have HBV : Hid (backV s (-1) = 0) := Lib.hid rfl
      clear hb he hd hstk hvc hst hP hK hsl
      go_enter Try.func79, Try.ntmps79
      go_wp2_with fail
      go_end0
      rw [HBV.out, HN.out]
      exact ⟨rfl, (HF.out 0).1, (HF.out 0).2⟩
    · obtain ⟨r, hr⟩ : ∃ r : Nat, reg = r := ⟨reg.toNat, by have := hin.1; omega⟩
      have hr256 : r < 256 := by have := hin.2; omega
      subst hr
      have HBV : Hid (backV s r = s.cur.regs r) := Lib.hid (by unfold backV; rw [if_pos (by omega)]; rfl)
      have creg : w.cell? ⟨P, 3 + r, none⟩ = some (.int .i64 (s.cur.regs r)) := hb.reg hr256
      have hr0 : (0 : Int) ≤ r := by omega
      have hr1 : (r : Int) < 256 := by omega
      clear hb he hd hstk hvc hst hP hK hsl hin
      go_enter Try.func79, Try.ntmps79
      go_wp2_with fail
      go_end0
      rw [HBV.out, HN.out]
      exact ⟨rfl, (HF.out _).1, (HF.out _).2⟩
  | cons c r =>
    obtain ⟨g, cap, A, cA, l, -, hvc, hsl', hl, hregs, d0, d1, d2, d3⟩ := hd.stack hstk
    obtain ⟨f, kb, x, a, ha, hf, hbk, hx, hdst, hf256, ha6, hz⟩ := hst c (by rw [hstk]; exact List.mem_cons_self ..)
    rw [hvc] at cv
    have hrl : r.length ≤ 1048576 := by rw [hstk] at hsl; simp at hsl; omega
    have HG : Hid (∀ v, giveS m s v = { s with cur := resumeF m c v, stack := r }) := Lib.hid (fun v => by unfold giveS; rw [hstk])
    have HRS : Hid (∀ v, Calls Try.prog 94 #[.pointer (some ⟨P, 0, none⟩), .agg #[.int .i64 c.fn, .int .i64 c.blk, .int .i64 c.at_, .slice A l.length cA], .int .i64 v] w (ToldM K P m w { s with cur := resumeF m c v } rd)) := Lib.hid (fun v =>
      resume_any K P m w s rd l c f kb x a v A cA ⟨q, HB.out, HE.out, HD.out, hP, hK⟩ (SL.imp (fun b o y hy => ⟨by have := hy.1; omega, hy.2⟩) hsl') hl hregs ha hf hbk hx (by
        rcases hdst with h | h
        · exact .inl h
        · exact .inr ⟨h.1, by have := h.2; omega⟩) ha6)
    have hk0 : (0 : Int) ≤ r.length := by omega
    have hk1 : (r.length : Int) ≤ 1048576 := by omega
    have HSK := Lib.hid hstk
    rcases hreg with rfl | hin
    · have HBV : Hid (backV s (-1) = 0) := Lib.hid rfl
      clear hb he hd hstk hvc hst hP hK hsl hsl' hl hregs hf hbk hx hdst hz ha hf256 ha6 cdone cval fdone fval hrl
      go_enter Try.func79, Try.ntmps79
      go_wp2_with fail
      refine (HRS.out 0).mono ?_
      rintro e w' ⟨rfl, h1, h2⟩
      obtain ⟨q', hb', he', hd', hP', hK'⟩ := h1
      obtain ⟨g', cap', A', cA', l', hcap', hvc', -⟩ := hd'.stack HSK.out
      have cv' : w'.cell? ⟨P, 259, none⟩ = some (.slice (some ⟨g', 0, none⟩) (r.length + 1) cap') := (hb'.cell (by omega)).trans (congrArg some hvc')
      have f' := hb'.free 259
      have HPOP := Lib.hid (mac_pop hb' he' hd' hP' hK' HSK.out hvc')
      have hc0 : (r.length : Int) ≤ cap' := by omega
      clear hb' he' hd' hP' hK' hvc' hcap'
      go_wp2_with fail
      go_end0
      rw [HBV.out, HG.out]
      exact ⟨rfl, HPOP.out.1, h2.trans HPOP.out.2⟩
    · obtain ⟨y, hy⟩ : ∃ y : Nat, reg = y := ⟨reg.toNat, by have := hin.1; omega⟩
      have hy256 : y < 256 := by have := hin.2; omega
      subst hy
      have HBV : Hid (backV s y = s.cur.regs y) := Lib.hid (by unfold backV; rw [if_pos (by omega)]; rfl)
      have creg : w.cell? ⟨P, 3 + y, none⟩ = some (.int .i64 (s.cur.regs y)) := hb.reg hy256
      have hy0 : (0 : Int) ≤ y := by omega
      have hy1 : (y : Int) < 256 := by omega
      clear hb he hd hstk hvc hst hP hK hsl hsl' hl hregs hf hbk hx hdst hz ha hf256 ha6 cdone cval fdone fval hrl hin
      go_enter Try.func79, Try.ntmps79
      go_wp2_with fail
      refine (HRS.out _).mono ?_
      rintro e w' ⟨rfl, h1, h2⟩
      obtain ⟨q', hb', he', hd', hP', hK'⟩ := h1
      obtain ⟨g', cap', A', cA', l', hcap', hvc', -⟩ := hd'.stack HSK.out
      have cv' : w'.cell? ⟨P, 259, none⟩ = some (.slice (some ⟨g', 0, none⟩) (r.length + 1) cap') := (hb'.cell (by omega)).trans (congrArg some hvc')
      have f' := hb'.free 259
      have HPOP := Lib.hid (mac_pop hb' he' hd' hP' hK' HSK.out hvc')
      have hc0 : (r.length : Int) ≤ cap' := by omega
      clear hb' he' hd' hP' hK' hvc' hcap'
      go_wp2_with fail
      go_end0
      rw [HBV.out, HG.out]
      exact ⟨rfl, HPOP.out.1, h2.trans HPOP.out.2⟩
end Go.Proofs.Ytcjmhdneelmbhaa
