/- A step of the machine. (Written by gen/genmaco.py.) -/
import Derived.Test.YtooblmiffgjmjaaGreatDoorMacNJ
import Derived.Deep.WholeRow
namespace Go.Proofs.YtooblmiffgjmjaaGreatDoor
open Go.ChangeShapes Go.WideShapes Go.RowKit Go.Deep
set_option linter.unusedVariables false

theorem do_any (K P : Nat) (m : List FunD) (w : World) (s : St) (rd : List Int) (x : InsD) (Ax : Option Addr) (cx : Nat) (f : FunD) (h : Mac K P m w s rd) (hargs : SL w 1 (RIntB (Old K P)) Ax cx x.args)
    (hlen : x.args.length ≤ 1000) (hx64 : I64 x.op ∧ I64 x.dst ∧ I64 x.imm ∧ I64 x.fn) (hI : InsOk m f.regs.length x) (hall : ∀ g ∈ m, FunOk m g) (hf : m[s.cur.fn]? = some f) (hfz : ∀ i, f.regs.length ≤ i → s.cur.regs i = 0) (hsl : s.stack.length ≤ 1048576) (hol : s.out.length ≤ 1048576) :
    Calls Tryz.prog 48 #[.pointer (some ⟨P, 0, none⟩), .agg #[.int .i64 x.op, .int .i64 x.dst, .slice Ax x.args.length cx, .int .i64 x.imm, .int .i64 x.fn]] w (ToldM' K P m w (doS s x)) := by
  have hF := hall f (List.mem_of_getElem? hf)
  have hn := hF.nr
  have hin : ∀ r ∈ x.args, InR 256 r := fun r hr => ⟨(hI.1 r hr).1, by have := (hI.1 r hr).2; omega⟩
  have wide : ∀ {a : Int}, InR f.regs.length a → InR 256 a := fun h => ⟨h.1, by have := h.2; omega⟩
  rcases hI.2 with ⟨ho, hd⟩ | ⟨ho1, ho2, hl, hd⟩ | ⟨ho, hl, hd⟩ | ⟨ho, hl⟩ | ⟨ho, hl⟩ | ⟨ho, hfn, hl, hd⟩
  · exact do_const K P m w s rd x Ax cx h hargs hlen hin ho (wide hd)
  · exact do_rest K P m w s rd x Ax cx h hargs (by have : opArity x.op ≤ 2 := by { unfold opArity; split <;> first | omega | (split <;> omega) }; omega) hin ⟨ho1, ho2⟩ hl (wide hd) ⟨Ax, cx, rfl, SL.imp (fun b o y hy => hy.2) hargs, hx64⟩
  · exact do_load K P m w s rd x Ax cx h hargs (by omega) hin ho hl (wide hd)
  · exact do_store K P m w s rd x Ax cx h hargs (by omega) hin ho hl
  · exact do_out K P m w s rd x Ax cx h hargs (by omega) hin ho hl hol
  · have hG := hall _ (funAt_get hfn).2
    have h8 := hG.par.2.1
    exact do_call K P m w s rd x Ax cx h hargs (by omega) hin ho f hf hn hfz x.fn.toNat (by have := hfn.1; omega) (by omega) hsl

/-- The place moves on. -/
theorem mac_on {K P : Nat} {m : List FunD} {w : World} {s : St} {rd : List Int} (h : Mac K P m w s rd) : Mac K P m (w.setCell ⟨P, 2, none⟩ (.int .i64 ((s.cur.at_ : Int) + 1))) { s with cur := { s.cur with at_ := s.cur.at_ + 1 } } rd ∧ BB K P w (w.setCell ⟨P, 2, none⟩ (.int .i64 ((s.cur.at_ : Int) + 1))) := by
  obtain ⟨q, hb, he, hd, hP, hK⟩ := h
  have hb1 : MacB P (w.setCell ⟨P, 2, none⟩ (.int .i64 ((s.cur.at_ : Int) + 1))) { s with cur := { s.cur with at_ := s.cur.at_ + 1 } } q := hb.set (set_place (by omega) (by
      show Value.int .i64 ((s.cur.at_ + 1 : Nat) : Int) = _
      rw [Int.natCast_add]; rfl) (fun j hj hne => by
      unfold placeC
      by_cases h : j = 0
      · rw [if_pos h, if_pos h]
      · rw [if_neg h, if_neg h, if_pos (by omega), if_pos (by omega)]) rfl rfl (fun _ => rfl))
  exact ⟨mac_of hb1 he hd hP hK (by simp [World.setCell]) (fun k hk hne => set_others k hk hne) rfl rfl rfl, (BB.refl K P w).setCell (p := ⟨P, 2, none⟩) (.inl rfl) _⟩

set_option maxRecDepth 100000 in
set_option maxHeartbeats 8000000 in
theorem step_any (K P : Nat) (m : List FunD) (w : World) (s : St) (rd : List Int) (h : Mac K P m w s rd) (hall : ∀ g ∈ m, FunOk m g) (hsm : ∀ g ∈ m, ∀ b ∈ g.blocks, ∀ x ∈ b.ins, x.args.length ≤ 1000) (hok : OkS m s) (hsl : s.stack.length ≤ 1048576) (hol : s.out.length ≤ 1048576) :
    Calls Tryz.prog 25 #[.pointer (some ⟨P, 0, none⟩)] w (ToldM' K P m w (stepS m s)) := by
  obtain ⟨⟨f, kb, hoc⟩, hst⟩ := hok
  have hF := hall f (List.mem_of_getElem? hoc.hf)
  have H0 := Lib.hid h
  obtain ⟨q, hb, he, hd, hP, hK⟩ := h
  obtain ⟨b, o, c, f', hvf, hf', ⟨-, -, -, -, ⟨Ab, cb, hblkc, hbs⟩⟩⟩ := he.fun_ (List.getElem?_eq_some_iff.1 hoc.hf).1
  obtain rfl : f = f' := Option.some.inj (hoc.hf.symm.trans hf'.out)
  obtain ⟨b2, o2, kb', rfl, hkb, ⟨-, ⟨Ap, cp, x0, -⟩, ⟨Ai, ci, x1, hins⟩, ⟨x2, y2⟩, ⟨x3, y3⟩, ⟨At, ct, x4, htos⟩⟩⟩ := hbs.at_ (List.getElem?_eq_some_iff.1 hoc.hb).1
  obtain rfl : kb = kb' := Option.some.inj (hoc.hb.symm.trans hkb.out)
  have cf : w.cell? ⟨P, 260, none⟩ = some (.slice (some ⟨b, o, none⟩) m.length c) := (hb.cell (by omega)).trans (congrArg some hvf)
  have c0 : w.cell? ⟨P, 0, none⟩ = some (.int .i64 s.cur.fn) := hb.cell (by omega)
  have c1 : w.cell? ⟨P, 1, none⟩ = some (.int .i64 s.cur.blk) := hb.cell (by omega)
  have cat : w.cell? ⟨P, 2, none⟩ = some (.int .i64 s.cur.at_) := hb.cell (by omega)
  have k1 : (0 : Int) ≤ s.cur.fn := by omega
  have k2 : (s.cur.fn : Int) < m.length := by have := (List.getElem?_eq_some_iff.1 hoc.hf).1; omega
  have k3 : (0 : Int) ≤ s.cur.blk := by omega
  have k4 : (s.cur.blk : Int) < f.blocks.length := by have := (List.getElem?_eq_some_iff.1 hoc.hb).1; omega
  have hi256 : kb.ins.length ≤ 256 := by have := hF.items kb (List.mem_of_getElem? hoc.hb); omega
  have HKB : Hid (blkOf m s.cur = kb) := Lib.hid (by unfold blkOf blkAt; rw [getD_of hoc.hf, getD_of hoc.hb])
  have HTO := Lib.hid htos
  have HINS := Lib.hid hins
  have HALL := Lib.hid hall
  have HSM := Lib.hid (fun x hx => hsm f (List.mem_of_getElem? hoc.hf) kb (List.mem_of_getElem? hoc.hb) x hx)
  have HOC := Lib.hid hoc
  have HST := Lib.hid hst
  have HFK := Lib.hid hF
  have H64 := Lib.hid (And.intro y2 y3)
  have HIL := Lib.hid hi256
  clear hb he hd hvf hf' hbs hkb hins htos hall hst hF y2 y3 hsm
  go_enter Tryz.func25, Tryz.ntmps25
  go_wp2_with fail
  refine wp_region_last (L := 20) (S := fun w' => w'.cell? ⟨P, 260, none⟩ = some (.slice (some ⟨b, o, none⟩) m.length c) ∧ w'.cell? ⟨P, 0, none⟩ = some (.int .i64 s.cur.fn) ∧ w'.cell? ⟨P, 1, none⟩ = some (.int .i64 s.cur.blk) ∧ w'.cell? ⟨b, o + s.cur.fn * 4 + 3, none⟩ = some (.slice (some ⟨b2, o2, none⟩) f.blocks.length cb) ∧ w'.cell? ⟨b2, o2 + s.cur.blk * 5, none⟩ = some (.slice Ap kb.phis.length cp) ∧ w'.cell? ⟨b2, o2 + s.cur.blk * 5 + 1, none⟩ = some (.slice Ai kb.ins.length ci) ∧ w'.cell? ⟨b2, o2 + s.cur.blk * 5 + 2, none⟩ = some (.int .i64 kb.term.kind) ∧ w'.cell? ⟨b2, o2 + s.cur.blk * 5 + 3, none⟩ = some (.int .i64 kb.term.arg) ∧ w'.cell? ⟨b2, o2 + s.cur.blk * 5 + 4, none⟩ = some (.slice At kb.term.to.length ct)) (by kernel_rfl) (by rfl) (by kernel_rfl) (by kernel_rfl) ?_
  change wpAnyH _ _ _ _ _ _ _ _ (World.drew _)
  have hS : ∀ w', Below w.heap.size w w' → w'.cell? ⟨P, 260, none⟩ = some (.slice (some ⟨b, o, none⟩) m.length c) ∧ w'.cell? ⟨P, 0, none⟩ = some (.int .i64 s.cur.fn) ∧ w'.cell? ⟨P, 1, none⟩ = some (.int .i64 s.cur.blk) ∧ w'.cell? ⟨b, o + s.cur.fn * 4 + 3, none⟩ = some (.slice (some ⟨b2, o2, none⟩) f.blocks.length cb) ∧ w'.cell? ⟨b2, o2 + s.cur.blk * 5, none⟩ = some (.slice Ap kb.phis.length cp) ∧ w'.cell? ⟨b2, o2 + s.cur.blk * 5 + 1, none⟩ = some (.slice Ai kb.ins.length ci) ∧ w'.cell? ⟨b2, o2 + s.cur.blk * 5 + 2, none⟩ = some (.int .i64 kb.term.kind) ∧ w'.cell? ⟨b2, o2 + s.cur.blk * 5 + 3, none⟩ = some (.int .i64 kb.term.arg) ∧ w'.cell? ⟨b2, o2 + s.cur.blk * 5 + 4, none⟩ = some (.slice At kb.term.to.length ct) := fun w' h => ⟨kept_of_below h _ _ cf, kept_of_below h _ _ c0, kept_of_below h _ _ c1, kept_of_below h _ _ hblkc, kept_of_below h _ _ x0, kept_of_below h _ _ x1, kept_of_below h _ _ x2, kept_of_below h _ _ x3, kept_of_below h _ _ x4⟩
  have hS0 := hS w.drew (Below.refl _ _).drew
  clear cf c0 c1 hblkc x0 x1 x2 x3 x4
  refine takeH (i := 0) (some 3) (v := ?_) rfl (by kernel_rfl) (by kernel_rfl) (by kernel_rfl) (fun _ _ _ h => h) hS0 (fun o ho => ?_) ?_
  rotate_left
  · simp only [List.getElem?_toArray, List.getElem?_cons_zero, Option.some.injEq] at ho; subst ho; refine Or.inl ⟨by rfl, fun w' hSw => ?_⟩; (try dsimp only at hSw); go_simp; try with_reducible rfl
  simp only [Act.put, List.setIfInBounds_toArray, List.set_cons_zero, List.set_cons_succ]
  refine takeH (i := 1) (some 4) (v := ?_) rfl (by kernel_rfl) (by kernel_rfl) (by kernel_rfl) (fun _ _ _ h => h) hS0 (fun o ho => ?_) ?_
  rotate_left
  · simp only [List.getElem?_toArray, List.getElem?_cons_zero, List.getElem?_cons_succ, Option.some.injEq] at ho; subst ho; refine Or.inl ⟨by rfl, fun w' hSw => ?_⟩; (try dsimp only at hSw); go_simp; try with_reducible rfl
  simp only [Act.put, List.setIfInBounds_toArray, List.set_cons_zero, List.set_cons_succ]
  refine takeH (i := 2) (some 5) (v := ?_) rfl (by kernel_rfl) (by kernel_rfl) (by kernel_rfl) (fun _ _ _ h => h) hS0 (fun o ho => ?_) ?_
  rotate_left
  · simp only [List.getElem?_toArray, List.getElem?_cons_zero, List.getElem?_cons_succ, Option.some.injEq] at ho; subst ho; refine Or.inl ⟨by rfl, fun w' hSw => ?_⟩; (try dsimp only at hSw); go_simp; try with_reducible rfl
  simp only [Act.put, List.setIfInBounds_toArray, List.set_cons_zero, List.set_cons_succ]
  refine takeH (i := 3) (some 6) (v := ?_) rfl (by kernel_rfl) (by kernel_rfl) (by kernel_rfl) (fun _ _ _ h => h) hS0 (fun o ho => ?_) ?_
  rotate_left
  · simp only [List.getElem?_toArray, List.getElem?_cons_zero, List.getElem?_cons_succ, Option.some.injEq] at ho; subst ho; refine Or.inl ⟨by rfl, fun w' hSw => ?_⟩; (try dsimp only at hSw); go_simp; try with_reducible rfl
  simp only [Act.put, List.setIfInBounds_toArray, List.set_cons_zero, List.set_cons_succ]
  refine takeH (i := 4) (some 7) (v := ?_) rfl (by kernel_rfl) (by kernel_rfl) (by kernel_rfl) (fun _ _ _ h => h) hS0 (fun o ho => ?_) ?_
  rotate_left
  · simp only [List.getElem?_toArray, List.getElem?_cons_zero, List.getElem?_cons_succ, Option.some.injEq] at ho; subst ho; refine Or.inl ⟨by rfl, fun w' hSw => ?_⟩; (try dsimp only at hSw); go_simp; try with_reducible rfl
  simp only [Act.put, List.setIfInBounds_toArray, List.set_cons_zero, List.set_cons_succ]
  refine takeH (i := 5) (some 8) (v := ?_) rfl (by kernel_rfl) (by kernel_rfl) (by kernel_rfl) (fun _ _ _ h => h) hS0 (fun o ho => ?_) ?_
  rotate_left
  · simp only [List.getElem?_toArray, List.getElem?_cons_zero, List.getElem?_cons_succ, Option.some.injEq] at ho; subst ho; refine Or.inl ⟨by rfl, fun w' hSw => ?_⟩; (try dsimp only at hSw); go_simp; try with_reducible rfl
  simp only [Act.put, List.setIfInBounds_toArray, List.set_cons_zero, List.set_cons_succ]
  refine takeH (i := 6) (some 9) (v := ?_) rfl (by kernel_rfl) (by kernel_rfl) (by kernel_rfl) (fun _ _ _ h => h) hS0 (fun o ho => ?_) ?_
  rotate_left
  · simp only [List.getElem?_toArray, List.getElem?_cons_zero, List.getElem?_cons_succ, Option.some.injEq] at ho; subst ho; refine Or.inl ⟨by rfl, fun w' hSw => ?_⟩; (try dsimp only at hSw); go_simp; try with_reducible rfl
  simp only [Act.put, List.setIfInBounds_toArray, List.set_cons_zero, List.set_cons_succ]
  refine takeH (i := 7) (some 10) (v := ?_) rfl (by kernel_rfl) (by kernel_rfl) (by kernel_rfl) (fun _ _ _ h => h) hS0 (fun o ho => ?_) ?_
  rotate_left
  · simp only [List.getElem?_toArray, List.getElem?_cons_zero, List.getElem?_cons_succ, Option.some.injEq] at ho; subst ho; refine Or.inl ⟨by rfl, fun w' hSw => ?_⟩; (try dsimp only at hSw); go_simp; try with_reducible rfl
  simp only [Act.put, List.setIfInBounds_toArray, List.set_cons_zero, List.set_cons_succ]
  refine takeH (i := 8) (some 11) (v := ?_) rfl (by kernel_rfl) (by kernel_rfl) (by kernel_rfl) (fun _ _ _ h => h) hS0 (fun o ho => ?_) ?_
  rotate_left
  · simp only [List.getElem?_toArray, List.getElem?_cons_zero, List.getElem?_cons_succ, Option.some.injEq] at ho; subst ho; refine Or.inl ⟨by rfl, fun w' hSw => ?_⟩; (try dsimp only at hSw); go_simp; try with_reducible rfl
  simp only [Act.put, List.setIfInBounds_toArray, List.set_cons_zero, List.set_cons_succ]
  refine takeH (i := 9) (some 12) (v := ?_) rfl (by kernel_rfl) (by kernel_rfl) (by kernel_rfl) (fun _ _ _ h => h) hS0 (fun o ho => ?_) ?_
  rotate_left
  · simp only [List.getElem?_toArray, List.getElem?_cons_zero, List.getElem?_cons_succ, Option.some.injEq] at ho; subst ho; refine Or.inl ⟨by rfl, fun w' hSw => ?_⟩; (try dsimp only at hSw); go_simp; try with_reducible rfl
  simp only [Act.put, List.setIfInBounds_toArray, List.set_cons_zero, List.set_cons_succ]
  refine takeH (i := 10) (some 13) (v := ?_) rfl (by kernel_rfl) (by kernel_rfl) (by kernel_rfl) (fun _ _ _ h => h) hS0 (fun o ho => ?_) ?_
  rotate_left
  · simp only [List.getElem?_toArray, List.getElem?_cons_zero, List.getElem?_cons_succ, Option.some.injEq] at ho; subst ho; refine Or.inl ⟨by rfl, fun w' hSw => ?_⟩; (try dsimp only at hSw); go_simp; try with_reducible rfl
  simp only [Act.put, List.setIfInBounds_toArray, List.set_cons_zero, List.set_cons_succ]
  refine takeH (i := 11) (some 14) (v := ?_) rfl (by kernel_rfl) (by kernel_rfl) (by kernel_rfl) (fun _ _ _ h => h) hS0 (fun o ho => ?_) ?_
  rotate_left
  · simp only [List.getElem?_toArray, List.getElem?_cons_zero, List.getElem?_cons_succ, Option.some.injEq] at ho; subst ho; refine Or.inl ⟨by rfl, fun w' hSw => ?_⟩; (try dsimp only at hSw); go_simp; try with_reducible rfl
  simp only [Act.put, List.setIfInBounds_toArray, List.set_cons_zero, List.set_cons_succ]
  refine takeH (i := 12) (some 15) (v := ?_) rfl (by kernel_rfl) (by kernel_rfl) (by kernel_rfl) (fun _ _ _ h => h) hS0 (fun o ho => ?_) ?_
  rotate_left
  · simp only [List.getElem?_toArray, List.getElem?_cons_zero, List.getElem?_cons_succ, Option.some.injEq] at ho; subst ho; refine Or.inl ⟨by rfl, fun w' hSw => ?_⟩; (try dsimp only at hSw); go_simp; try with_reducible rfl
  simp only [Act.put, List.setIfInBounds_toArray, List.set_cons_zero, List.set_cons_succ]
  refine takeH (i := 13) (some 16) (v := ?_) rfl (by kernel_rfl) (by kernel_rfl) (by kernel_rfl) (fun _ _ _ h => h) hS0 (fun o ho => ?_) ?_
  rotate_left
  · simp only [List.getElem?_toArray, List.getElem?_cons_zero, List.getElem?_cons_succ, Option.some.injEq] at ho; subst ho; refine Or.inl ⟨by rfl, fun w' hSw => ?_⟩; (try dsimp only at hSw); go_simp; try with_reducible rfl
  simp only [Act.put, List.setIfInBounds_toArray, List.set_cons_zero, List.set_cons_succ]
  refine takeH (i := 14) (some 17) (v := ?_) rfl (by kernel_rfl) (by kernel_rfl) (by kernel_rfl) (fun _ _ _ h => h) hS0 (fun o ho => ?_) ?_
  rotate_left
  · simp only [List.getElem?_toArray, List.getElem?_cons_zero, List.getElem?_cons_succ, Option.some.injEq] at ho; subst ho; refine Or.inl ⟨by rfl, fun w' hSw => ?_⟩; (try dsimp only at hSw); go_simp; try with_reducible rfl
  simp only [Act.put, List.setIfInBounds_toArray, List.set_cons_zero, List.set_cons_succ]
  refine takeH (i := 15) (some 18) (v := ?_) rfl (by kernel_rfl) (by kernel_rfl) (by kernel_rfl) (fun _ _ _ h => h) hS0 (fun o ho => ?_) ?_
  rotate_left
  · simp only [List.getElem?_toArray, List.getElem?_cons_zero, List.getElem?_cons_succ, Option.some.injEq] at ho; subst ho; refine Or.inl ⟨by rfl, fun w' hSw => ?_⟩; (try dsimp only at hSw); go_simp; try with_reducible rfl
  simp only [Act.put, List.setIfInBounds_toArray, List.set_cons_zero, List.set_cons_succ]
  refine takeH (i := 16) (some 19) (v := ?_) rfl (by kernel_rfl) (by kernel_rfl) (by kernel_rfl) (fun _ _ _ h => h) hS0 (fun o ho => ?_) ?_
  rotate_left
  · simp only [List.getElem?_toArray, List.getElem?_cons_zero, List.getElem?_cons_succ, Option.some.injEq] at ho; subst ho; refine Or.inl ⟨by rfl, fun w' hSw => ?_⟩; (try dsimp only at hSw); go_simp; try with_reducible rfl
  simp only [Act.put, List.setIfInBounds_toArray, List.set_cons_zero, List.set_cons_succ]
  refine takeH (i := 17) (some 20) (v := ?_) rfl (by kernel_rfl) (by kernel_rfl) (by kernel_rfl) (fun _ _ _ h => h) hS0 (fun o ho => ?_) ?_
  rotate_left
  · simp only [List.getElem?_toArray, List.getElem?_cons_zero, List.getElem?_cons_succ, Option.some.injEq] at ho; subst ho; refine Or.inl ⟨by rfl, fun w' hSw => ?_⟩; (try dsimp only at hSw); go_simp; try with_reducible rfl
  simp only [Act.put, List.setIfInBounds_toArray, List.set_cons_zero, List.set_cons_succ]
  refine takeH (i := 18) (some 21) (v := ?_) rfl (by kernel_rfl) (by kernel_rfl) (by kernel_rfl) (fun _ _ _ h => h) hS0 (fun o ho => ?_) ?_
  rotate_left
  · simp only [List.getElem?_toArray, List.getElem?_cons_zero, List.getElem?_cons_succ, Option.some.injEq] at ho; subst ho; refine Or.inl ⟨by rfl, fun w' hSw => ?_⟩; (try dsimp only at hSw); go_simp; try with_reducible rfl
  simp only [Act.put, List.setIfInBounds_toArray, List.set_cons_zero, List.set_cons_succ]
  refine oneH (i := 19) (by kernel_rfl) (fun o ho K' hK => ?_)
  simp only [List.getElem?_toArray, List.getElem?_cons_zero, List.getElem?_cons_succ, Option.some.injEq] at ho; subst ho
  go_simp
  have hb8 : Below w.heap.size w (w.alloc (.cells #[.slice none 0 0, .slice none 0 0, .int .i64 0, .int .i64 0, .slice none 0 0] 49)).drew := ((Below.refl _ w).alloc (Nat.le_refl _) _).drew
  refine hK.out _ _ (hS _ hb8) ?_
  clear hK K'
  refine wpAnyH_done (by kernel_rfl) ?_ _
  refine lastH (by decide) (fun o ho K' hK => ?_)
  simp only [List.getElem?_toArray, List.getElem?_cons_zero, List.getElem?_cons_succ, Option.some.injEq] at ho; subst ho
  go_simp
  refine hK.out _ _ ?_
  clear hK K'
  obtain ⟨w5, hw5, hs5, hk5, hB5, hc5, hf5⟩ := named w #[.slice Ap kb.phis.length cp, .slice Ai kb.ins.length ci, .int .i64 kb.term.kind, .int .i64 kb.term.arg, .slice At kb.term.to.length ct] 49
  have HM5 : Hid (Mac K P m w5.drew s rd) := Lib.hid ((H0.out.below hB5).drewN 1)
  have HBB5 : Hid (BB K P w w5.drew) := Lib.hid ((box_bb H0.out hB5).drewN 1)
  have d1 : w5.drew.cell? ⟨w.heap.size, 1, none⟩ = some (.slice Ai kb.ins.length ci) := hc5 1 _ rfl
  have d2 : w5.drew.cell? ⟨w.heap.size, 2, none⟩ = some (.int .i64 kb.term.kind) := hc5 2 _ rfl
  have d3 : w5.drew.cell? ⟨w.heap.size, 3, none⟩ = some (.int .i64 kb.term.arg) := hc5 3 _ rfl
  have d4 : w5.drew.cell? ⟨w.heap.size, 4, none⟩ = some (.slice At kb.term.to.length ct) := hc5 4 _ rfl
  have cat5 : w5.drew.cell? ⟨P, 2, none⟩ = some (.int .i64 s.cur.at_) := hk5 _ _ cat
  have fat5 : w5.drew.frozen? ⟨P, 2, none⟩ = false := by obtain ⟨q, hb, _⟩ := HM5.out; exact hb.free 2
  have HVT : Hid (SL w5.drew 1 RInt At ct kb.term.to) := Lib.hid (SL.imp (w' := w5.drew) (fun b o y hy => ⟨hk5 _ _ hy.2.1, hy.2.2⟩) HTO.out)
  have HIN5 : Hid (SL w5.drew 5 (RInsB (Old K P)) Ai ci kb.ins) := Lib.hid (SInssB.go (w' := w5.drew) (KeptB.of hk5) (fun _ h => h) HINS.out)
  have hPB : P < w.heap.size := H0.out.lt
  have hBS : w.heap.size < w5.drew.heap.size := by show _ < w5.heap.size; omega
  rw [← hw5]
  clear hw5 hs5 hk5 hB5 hc5 hf5 hS hS0 hb8 H0 HTO HINS cat
  generalize w5.drew = w6 at *
  by_cases hat : s.cur.at_ = kb.ins.length
  · have hab : ((s.cur.at_ : Int) == (kb.ins.length : Int)) = true := by rw [hat]; simp
    have HE : Hid (stepS m s = endS m s kb.term) := Lib.hid (by unfold stepS; rw [HKB.out, if_pos hat])
    have HEN := Lib.hid (fun n => end_any K P m (w6.drewN n) s rd f kb (.agg #[.int .i64 kb.term.kind, .int .i64 kb.term.arg, .slice At kb.term.to.length ct]) (HM5.out.drewN n) HFK.out HOC.out HST.out hsl ⟨At, ct, rfl, SL.imp (w' := w6.drewN n) (fun b o y hy => hy) HVT.out, H64.out⟩)
    clear hat k1 k2 k3 k4 hi256 hoc hP hK hsl hol
    go_wp2_with fail
    go_quiet (fail)
    go_wp2_with fail
    refine (HEN.out nq).mono ?_
    rintro e w7 ⟨rfl, z1, z2⟩
    go_wp2_with fail
    go_end0
    exact ⟨rfl, by rw [HE.out]; exact z1, (HBB5.out.drewN nq).trans z2⟩
  · have hab : ((s.cur.at_ : Int) == (kb.ins.length : Int)) = false := by rw [beq_eq_false_iff_ne]; omega
    have hlt : s.cur.at_ < kb.ins.length := by have := hoc.hat; omega
    obtain ⟨b3, o3, x, rfl, hx, ⟨hbo, ⟨i1, j1⟩, ⟨i2, j2⟩, ⟨Ax, cx, i3, hax⟩, ⟨i4, j4⟩, ⟨i5, j5⟩⟩⟩ := HIN5.out.at_ hlt
    have HE : Hid (stepS m s = doS { s with cur := { s.cur with at_ := s.cur.at_ + 1 } } x) := Lib.hid (by unfold stepS; rw [HKB.out, if_neg hat, getD_of hx.out])
    have HIO := Lib.hid (HFK.out.ins kb (List.mem_of_getElem? hoc.hb) x (List.mem_of_getElem? hx.out))
    have l0 : (0 : Int) ≤ s.cur.at_ := by omega
    have l1 : (s.cur.at_ : Int) < kb.ins.length := by omega
    have l2 : (kb.ins.length : Int) ≤ 256 := by omega
    have HX64 := Lib.hid (And.intro j1 (And.intro j2 (And.intro j4 j5)))
    have HAX := Lib.hid hax
    have HON := Lib.hid (mac_on HM5.out)
    have HLX := Lib.hid (HSM.out x (List.mem_of_getElem? hx.out))
    have HOCF := Lib.hid hoc.hf
    have HOCZ := Lib.hid hoc.zero
    have HSL := Lib.hid hsl
    have HOL := Lib.hid hol
    have hbk : b3 ≠ P := by have := hbo.2; exact this
    clear hat k1 k2 k3 k4 hi256 hP hK hlt hx j1 j2 j4 j5 hax hbo hoc hsl hol
    go_wp2_with fail
    go_quiet (fail)
    have cat6 : (w6.drewN nq).cell? ⟨P, 2, none⟩ = some (.int .i64 s.cur.at_) := cat5
    have fat6 : (w6.drewN nq).frozen? ⟨P, 2, none⟩ = false := fat5
    have HON6 := Lib.hid (mac_on (HM5.out.drewN nq))
    have HBB6 := Lib.hid (HBB5.out.drewN nq)
    have HD6 : Hid ((w6.drewN nq).cell? ⟨w.heap.size, 1, none⟩ = some (.slice (some ⟨b3, o3, none⟩) kb.ins.length ci)) := Lib.hid d1
    have HI6 : Hid ((w6.drewN nq).cell? ⟨b3, o3 + s.cur.at_ * 5, none⟩ = some (.int .i64 x.op) ∧ (w6.drewN nq).cell? ⟨b3, o3 + s.cur.at_ * 5 + 1, none⟩ = some (.int .i64 x.dst) ∧ (w6.drewN nq).cell? ⟨b3, o3 + s.cur.at_ * 5 + 2, none⟩ = some (.slice Ax x.args.length cx) ∧ (w6.drewN nq).cell? ⟨b3, o3 + s.cur.at_ * 5 + 3, none⟩ = some (.int .i64 x.imm) ∧ (w6.drewN nq).cell? ⟨b3, o3 + s.cur.at_ * 5 + 4, none⟩ = some (.int .i64 x.fn)) := Lib.hid ⟨i1, i2, i3, i4, i5⟩
    have HAX6 : Hid (SL (w6.drewN nq) 1 (RIntB (Old K P)) Ax cx x.args) := Lib.hid (SL.imp (w' := w6.drewN nq) (fun b o y hy => hy) HAX.out)
    have hBS6 : w.heap.size < (w6.drewN nq).heap.size := hBS
    clear d1 d2 d3 d4 cat5 fat5 i1 i2 i3 i4 i5 HAX HON HBB5 HM5 HIN5 HVT hBS
    generalize w6.drewN nq = w7 at *
    go_wp2_with fail
    have e8 : ∀ (bb oo : Nat) (u : Value), bb ≠ P → w7.cell? ⟨bb, oo, none⟩ = some u → (w7.setCell ⟨P, 2, none⟩ (.int .i64 ((s.cur.at_ : Int) + 1))).cell? ⟨bb, oo, none⟩ = some u := fun bb oo u hne hu => by
      rw [World.cell?_setCell_other _ _ _ _ (fun e => hne (by injection e.symm))]; exact hu
    have d1 := e8 _ _ _ (by omega) HD6.out
    have i1 := e8 _ _ _ hbk HI6.out.1
    have i2 := e8 _ _ _ hbk HI6.out.2.1
    have i3 := e8 _ _ _ hbk HI6.out.2.2.1
    have i4 := e8 _ _ _ hbk HI6.out.2.2.2.1
    have i5 := e8 _ _ _ hbk HI6.out.2.2.2.2
    have HM8 := Lib.hid HON6.out.1
    have HBB8 := Lib.hid (HBB6.out.trans HON6.out.2)
    have HAX8 := Lib.hid (SIntsB.go HON6.out.2.kept (fun _ h => h) HAX6.out)
    have cat8 : (w7.setCell ⟨P, 2, none⟩ (.int .i64 ((s.cur.at_ : Int) + 1))).cell? ⟨P, 2, none⟩ = some (.int .i64 ((s.cur.at_ : Int) + 1)) := by
      obtain ⟨q, hb, _⟩ := HM8.out
      exact (hb.cell (by omega)).trans (by show some (Value.int .i64 ((s.cur.at_ + 1 : Nat) : Int)) = _; rw [Int.natCast_add]; rfl)
    clear e8 cat6 fat6 HON6 HBB6 HD6 HI6 HAX6
    generalize w7.setCell ⟨P, 2, none⟩ (.int .i64 ((s.cur.at_ : Int) + 1)) = w8 at *
    have kw : IntKind.i64.wrap (s.cur.at_ : Int) = (s.cur.at_ : Int) := IntWalk.i64_in _ (by omega)
    go_still_tail 11, (by kernel_rfl)
    change wpList _ _ _ _ _ w8.drew
    have HDO := Lib.hid (do_any K P m w8.drew { s with cur := { s.cur with at_ := s.cur.at_ + 1 } } rd x Ax cx f (HM8.out.drewN 1) (SL.imp (w' := w8.drew) (fun b o y hy => hy) HAX8.out) HLX.out HX64.out HIO.out HALL.out HOCF.out HOCZ.out HSL.out HOL.out)
    have HBB9 : Hid (BB K P w w8.drew) := Lib.hid (HBB8.out.drewN 1)
    clear d1 i1 i2 i3 i4 i5 cat8 kw HM8 HBB8 HAX8 l0 l1 l2 hab
    generalize w8.drew = w9 at *
    go_wp2_with fail
    refine HDO.out.mono ?_
    rintro e w10 ⟨rfl, z1, z2⟩
    go_wp2_with fail
    go_end0
    exact ⟨rfl, by rw [HE.out]; exact z1, HBB9.out.trans z2⟩
end Go.Proofs.YtooblmiffgjmjaaGreatDoor

/- An outcome is loaded and stored whole. -/
namespace Go.Proofs.YtooblmiffgjmjaaGreatDoor
open Go.ChangeShapes Go.WideShapes Go.RowKit Go.Deep
set_option linter.unusedVariables false

/-- An outcome's cells. -/
def outC (s : St) (vo : Value) : Array Value := Array.ofFn (n := 69) fun i => cellM s ⟨.slice none 0 0, .slice none 0 0, .slice none 0 0, .slice none 0 0, vo⟩ (263 + i.val)
theorem outC_size (s : St) (vo : Value) : (outC s vo).size = 69 := by simp [outC]
theorem outC_get (s : St) (q : MV) {i : Nat} (hi : i < 69) : (outC s q.vo)[i]? = some (cellM s q (263 + i)) := by
  unfold outC
  rw [Array.getElem?_ofFn, dif_pos hi]
  congr 1
  show cellM s _ (263 + i) = cellM s q (263 + i)
  by_cases h : 263 + i < 268
  · rw [cellM_mid _ _ (by omega) h, cellM_mid _ _ (by omega) h]
    unfold midC
    rw [if_neg (show ¬ 263 + i = 259 by omega), if_neg (show ¬ 263 + i = 260 by omega), if_neg (show ¬ 263 + i = 261 by omega), if_neg (show ¬ 263 + i = 262 by omega), if_neg (show ¬ 263 + i = 259 by omega), if_neg (show ¬ 263 + i = 260 by omega), if_neg (show ¬ 263 + i = 261 by omega), if_neg (show ¬ 263 + i = 262 by omega)]
  · rw [cellM_hi _ _ (by omega), cellM_hi _ _ (by omega)]
theorem out_size : (Tryz.prog.info? 31).map (·.size) = some 69 := by kernel_rfl
theorem load_out {P : Nat} {w : World} {s : St} {q : MV} (hb : MacB P w s q) : (Instr.loadAt 31 (.pointer (some ⟨P, 263, none⟩))).run Tryz.prog w = .ok (.agg (outC s q.vo)) w := by
  have hl := run_loadCells_list (P := Tryz.prog) (w := w) ⟨P, 263, none⟩ (outC s q.vo).toList (fun j v hv => by
    rw [add_plain']
    have hj : j < 69 := by have := (List.getElem?_eq_some_iff.1 hv).1; rwa [Array.length_toList, outC_size] at this
    rw [Array.getElem?_toList, outC_get s q hj] at hv
    rw [hb.cell (by omega)]; exact hv)
  rw [Array.length_toList, outC_size, Array.toArray_toList] at hl
  have hagg : (isAgg 31).run Tryz.prog w = .ok true w := by
    unfold isAgg
    rw [Sem.run_bind, run_underlying Tryz.underlying31 w]
    rfl
  have hsz : (sizeOf 31).run Tryz.prog w = .ok 69 w := by
    have := out_size
    cases hq : Tryz.prog.info? 31 with
    | none => simp [hq] at this
    | some i => simp [hq] at this; simp [sizeOf, typeInfo, hq, this]
  simp only [Instr.loadAt, Instr.sureAddr, loadVar, Sem.run_bind, Sem.run_pure, Result.andThen_ok, hagg, hsz, hl, if_true]
theorem out_one (s : St) (vo : Value) (h : vo.oneCell' = true) : (outC s vo).all (·.oneCell') = true := by
  rw [Array.all_eq_true_iff_forall_mem]
  intro v hv
  obtain ⟨i, hi, rfl⟩ := Array.getElem_of_mem hv
  have hi69 : i < 69 := by rwa [outC_size] at hi
  have e := outC_get s ⟨.slice none 0 0, .slice none 0 0, .slice none 0 0, .slice none 0 0, vo⟩ hi69
  rw [Array.getElem?_eq_getElem hi] at e
  rw [Option.some.inj e]
  by_cases h2 : 263 + i < 268
  · rw [cellM_mid _ _ (by omega) h2]
    unfold midC
    repeat' split
    all_goals first | rfl | exact h
  · rw [cellM_hi _ _ (by omega)]; rfl
theorem store_out {g : Nat} {w : World} {s : St} {vo : Value} {old : Array Value} (hg : w.heap[g]? = some (.cells old 31 (0, 0))) (ho : old.size = 69) (h : vo.oneCell' = true) :
    (Instr.storeAt 31 (.pointer (some ⟨g, 0, none⟩)) (.agg (outC s vo))).run Tryz.prog w = .ok () (w.setRow g (outC s vo)) := by
  have := run_storeVar_row (P := Tryz.prog) w g 31 31 old (outC s vo) hg (by rw [outC_size]; exact out_size) (by rw [outC_size]; exact ho) (out_one s vo h)
  simp only [Instr.storeAt, Instr.sureAddr, Sem.run_bind, Sem.run_pure, Result.andThen_ok, this]
theorem zero_out_size : Tryz.zeroCells31.size = 69 := by kernel_rfl

theorem wpList_load_any {P : Program} (w : World) {ops : Array Oper} {rest : List Oper} {o : Oper} {a : Act} {Q : Exit → Act → World → Prop} (hgd : o.guard = none) (t : TypeId) (x : Operand)
    (ho : o.op = .load t x) (v : Value) (hv : a.eval x = v) {u : Value} {w' : World} (hr : (Instr.loadAt t v).run P w = .ok u w') (h : wpList P ops Q rest (a.put o.dst u) w') : wpList P ops Q (o :: rest) a w :=
  wpList_plain hgd fun _ hK => by
    unfold Oper.wp execOp
    simp only [ho, Sem.run_bind, Sem.run_pure, Result.andThen_ok, hv, hr]
    exact hK _ _ h
theorem wpList_store_any {P : Program} (w : World) {ops : Array Oper} {rest : List Oper} {o : Oper} {a : Act} {Q : Exit → Act → World → Prop} (hgd : o.guard = none) (t : TypeId) (x y : Operand)
    (ho : o.op = .store t x y) (v u : Value) (hv : a.eval x = v) (hu : a.eval y = u) {w' : World} (hr : (Instr.storeAt t v u).run P w = .ok () w') (h : wpList P ops Q rest (a.put o.dst undef) w') : wpList P ops Q (o :: rest) a w :=
  wpList_plain hgd fun _ hK => by
    unfold Oper.wp execOp
    simp only [ho, Sem.run_bind, Sem.run_pure, Result.andThen_ok, hv, hu, hr]
    exact hK _ _ h
end Go.Proofs.YtooblmiffgjmjaaGreatDoor
