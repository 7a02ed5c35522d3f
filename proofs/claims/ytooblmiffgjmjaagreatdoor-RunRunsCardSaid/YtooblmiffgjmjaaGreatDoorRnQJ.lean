/- The document's machine: an instruction: what is put out. (Written by gen/genrni.py.) -/
import Derived.Test.YtooblmiffgjmjaaGreatDoorRnIJ
import Derived.Test.YtooblmiffgjmjaaGreatDoorArMJ
import Derived.Test.YtooblmiffgjmjaaGreatDoorRnJJ
namespace Go.Proofs.YtooblmiffgjmjaaGreatDoor
open Go.ChangeShapes Go.WideShapes Go.RowKit Go.Deep
set_option linter.unusedVariables false

set_option maxRecDepth 100000 in
set_option maxHeartbeats 8000000 in
theorem ins_out (K P R n most : Nat) (m : List FunD) (w : World) (g : St) (vf vo : Value) (x : InsD) (Ax : Option Addr) (cx : Nat) (h : RfM K P m most w g vf vo) (hr : FrR K P R n w vo g.cur.regs) (hdn : g.done = false) (hsm : g.steps ≤ most) (hargs : SL w 1 (RIntB (Old K P)) Ax cx x.args)
    (hlen : x.args.length ≤ 1000) (hin : ∀ a ∈ x.args, InR n a) (hn : n ≤ 256) (hi64 : I64 x.imm) (hop : x.op = 18) (hl : x.args.length = 1) (hol18 : g.out.length ≤ 1048576) :
    Calls Tryz.prog 37 #[.pointer (some ⟨P, 0, none⟩), .slice (some ⟨R, 0, none⟩) n n, .agg #[.int .i64 x.op, .int .i64 x.dst, .slice Ax x.args.length cx, .int .i64 x.imm, .int .i64 x.fn]] w (IPost K P R n m most x g vf vo w) := by
  obtain ⟨i0, p1, p2, p3, p4⟩ := info_parts Tryz.info2
  have HI := Lib.hid (And.intro p1 (And.intro p2 (And.intro p3 p4)))
  clear p1 p2 p3 p4
  have e1 : (x.op == 1) = false := by simp; omega
  have e18 : (x.op == 18) = true := by simp; omega
  have e15 : (x.op == 15) = false := by simp; omega
  have e16 : (x.op == 16) = false := by simp; omega
  have e17 : (x.op == 17) = false := by simp; omega
  obtain ⟨a0, hav⟩ := len_one (show (argsV g.cur.regs x.args).length = 1 by rw [argsV_len, hl])
  have ha64 : I64 a0 := argsV_i64 hr.r64 x.args a0 (by rw [hav]; simp)
  have HAV := Lib.hid hav
  have HE : Hid (doS g x = { g with out := g.out ++ [a0] }) := Lib.hid (by
    unfold doS; rw [if_neg (by omega), if_neg (by omega), if_neg (by omega), if_pos hop, hav]; rfl)
  clear hop hav hl
  go_enter Tryz.func37, Tryz.ntmps37
  go_upto_region 1 with fail
  obtain ⟨w1, hw1, hs1, hk1, hbel1, hc1, -⟩ := named w #[.int .i64 x.op, .int .i64 x.dst, .slice Ax x.args.length cx, .int .i64 x.imm, .int .i64 x.fn] 54
  rw [← hw1]
  obtain ⟨N, hN⟩ : ∃ N, N = w.heap.size := ⟨_, rfl⟩
  rw [← hN] at hc1 hs1 ⊢
  have b0 : w1.cell? ⟨N, 0, none⟩ = some (.int .i64 x.op) := hc1 0 _ rfl
  have b1 : w1.cell? ⟨N, 1, none⟩ = some (.int .i64 x.dst) := hc1 1 _ rfl
  have b2 : w1.cell? ⟨N, 2, none⟩ = some (.slice Ax x.args.length cx) := hc1 2 _ rfl
  have b3 : w1.cell? ⟨N, 3, none⟩ = some (.int .i64 x.imm) := hc1 3 _ rfl
  have b4 : w1.cell? ⟨N, 4, none⟩ = some (.int .i64 x.fn) := hc1 4 _ rfl
  have HC := Lib.hid (And.intro b0 (And.intro b1 (And.intro b2 (And.intro b3 b4))))
  have HM1 := Lib.hid (h.below hbel1)
  have HR1 := Lib.hid (hr.go (Mv.of_below NoX P vo hbel1) h.pk (fun e => e))
  have HA1 : Hid (SL w1 1 (RIntB (Old K P)) Ax cx x.args) := Lib.hid (SL.imp (RIntB.go (fun a v _ ha => hk1 _ _ ha) (fun _ h => h)) hargs)
  have HV1 : Hid (Mv (fun b => b = R) P w w1 vo vo) := Lib.hid (Mv.of_below _ P vo hbel1)
  have HIN := Lib.hid hin
  have HNO : Hid (∀ y, w1.heap.size ≤ y → vo.ownBlock ≠ some y) := Lib.hid (fun y hy e => by have := (HM1.out.out.lt y e).2; omega)
  clear hw1 hs1 hk1 hbel1 hc1 h hr hargs hin hN b0 b1 b2 b3 b4
  go_wp2_with fail
  go_loopw [7, 8] (fun s7 s8 wq => ∃ (k : Nat) (v : Value), k ≤ x.args.length ∧ v = s7 ∧ s8 = .int .i64 (k : Int) ∧ wq.ownsRow w1.heap.size 2 1 v (argsV g.cur.regs (x.args.take k)).length ((argsV g.cur.regs (x.args.take k)).map (Value.int .i64)) ∧ Below w1.heap.size w1 wq) (fun s7 s8 _ => x.args.length - (intOf s8).toNat)
  case atStart => exact ⟨0, _, Nat.zero_le _, rfl, rfl, World.ownsRow_nil _ _ _ _, Below.refl _ _⟩
  case round =>
    obtain ⟨k, v, hk, rfl, rfl, ho, hb⟩ := hrel
    have HO := Lib.hid ho
    have HB := Lib.hid hb
    have d2 := kept_of_below hb _ _ HC.out.2.2.1
    by_cases hkl : k < x.args.length
    · obtain ⟨bx, ox, a, rfl, ha, -, hac, -⟩ := HA1.out.at_ hkl
      obtain ⟨q, rfl⟩ : ∃ q : Nat, a = q := ⟨a.toNat, by have := (HIN.out a (List.mem_of_getElem? ha.out)).1; omega⟩
      have hqn : q < n := by have := (HIN.out _ (List.mem_of_getElem? ha.out)).2; omega
      have xa : wr.cell? ⟨bx, ox + k, none⟩ = some (.int .i64 (q : Int)) := by rw [Nat.mul_one] at hac; exact kept_of_below hb _ _ hac
      have xr := kept_of_below hb _ _ (HR1.out.row.cell hqn)
      have hk0 : (0 : Int) ≤ k := by omega
      have hk1 : (k : Int) < x.args.length := by omega
      have hq0 : (0 : Int) ≤ q := by omega
      have hq1 : (q : Int) < n := by omega
      have HTK : Hid (argsV g.cur.regs (x.args.take (k + 1)) = argsV g.cur.regs (x.args.take k) ++ [g.cur.regs q]) := Lib.hid (by
        rw [List.take_add_one, ha.out]; unfold argsV; rw [List.map_append]; simp)
      have hll : (argsV g.cur.regs (x.args.take k)).length ≤ 1000 := by rw [argsV_len, List.length_take]; omega
      have hz := hb.size
      clear ho hb hac ha
      go_wp2_with (at_builtin; refine wpList_append_lies _ rfl (.tmp 20) (.tmp 29) 25 rfl w1.heap.size 2 i0 (.int .i64 0) 1 8 Tryz.underlying25 HI.out.1 HI.out.2.1 HI.out.2.2.1 HI.out.2.2.2 rfl (by decide) v _ _ rfl (HO.out.alloc _) ⟨wr.heap.size, 0, none⟩ 1 1 [.int .i64 (g.cur.regs q)] rfl rfl ?e1 ?e2 ?e0 ?e3 ?e4 ?e5 (wr.heap.size + 1) ?e6 ?_)
      case e1 => exact news_one_add wr _ _ rfl
      case e2 => exact ints_oneCell .i64 [(g.cur.regs q)]
      case e0 => omega
      case e3 => unfold maxLen; omega
      case e4 => omega
      case e5 => simp; omega
      case e6 => simp
      intro g7 cap w7 hown7 hgrow7 hloc7 hlt7
      have HB7 : Hid (Below w1.heap.size w1 w7) := Lib.hid (by
        have h1 := Below.grown (HB.out.alloc HB.out.size (.cells #[.int .i64 (g.cur.regs q)] 2)) hgrow7 (by simp; omega) (fun y hy => (HO.out.lt y hy).1)
        exact h1)
      have HO7 : Hid (w7.ownsRow w1.heap.size 2 1 (.slice (some ⟨g7, 0, none⟩) ((argsV g.cur.regs (x.args.take k)).length + 1) cap) (argsV g.cur.regs (x.args.take (k + 1))).length ((argsV g.cur.regs (x.args.take (k + 1))).map (Value.int .i64))) := Lib.hid (by rw [HTK.out, List.length_append, List.map_append]; exact hown7)
      clear hown7 hgrow7 hloc7 hlt7
      go_wp2_with fail
      go_roundw
      case rel => exact ⟨k + 1, _, by omega, rfl, by go_num, HO7.out, HB7.out⟩
      case measure => simp [intOf]; omega
    · obtain rfl : k = x.args.length := by omega
      rw [List.take_of_length_le (Nat.le_refl _)] at ho
      have HOL := Lib.hid ho
      have d0 := kept_of_below hb _ _ HC.out.1
      have d1 := kept_of_below hb _ _ HC.out.2.1
      have d3 := kept_of_below hb _ _ HC.out.2.2.2.1
      have d4 := kept_of_below hb _ _ HC.out.2.2.2.2
      have HM2 := Lib.hid (HM1.out.below hb)
      have HV2 : Hid (Mv (fun b => b = R) P w wr vo vo) := Lib.hid (HV1.out.trans (Mv.of_below _ P vo hb))
      have HR2 := Lib.hid (HR1.out.go (Mv.of_below NoX P vo hb) HM1.out.pk (fun e => e))
      have HLE : Hid (K ≤ w1.heap.size) := Lib.hid HM1.out.kw
      obtain ⟨w2, rfl⟩ : ∃ w2, w2 = wr := ⟨wr, rfl⟩
      clear ho hb HO HB HM1 HV1 HR1 HA1 HC
      have hol := HOL.out
      rw [HAV.out] at hol
      obtain ⟨ga, ca, rfl, hac, hag⟩ := own_cells hol (by simp)
      have c0 : w2.cell? ⟨ga, 0, none⟩ = some (.int .i64 a0) := hac 0 _ rfl
      clear hac hol
      simp only [List.length_cons, List.length_nil, Nat.zero_add]
      have cvo := HM2.out.told
      have HOW := Lib.hid HM2.out.out
      have hkw2 := HM2.out.kw
      have HGA : Hid (vo.ownBlock ≠ some ga) := Lib.hid (fun e => HNO.out ga hag e)
      go_upto_region 11 with fail
      refine wp_region_last (L := 14) (S := fun w' => w'.cell? ⟨P, 5, none⟩ = some vo ∧ w'.cell? ⟨ga, 0, none⟩ = some (.int .i64 a0)) (by kernel_rfl) (by rfl) (by kernel_rfl) (by kernel_rfl) ?_
      change wpAnyH _ _ _ _ _ _ _ _ (World.drew _)
      have hS : ∀ w', Below w2.heap.size w2 w' → w'.cell? ⟨P, 5, none⟩ = some vo ∧ w'.cell? ⟨ga, 0, none⟩ = some (.int .i64 a0) := fun w' h => ⟨kept_of_below h _ _ cvo, kept_of_below h _ _ c0⟩
      have hS0 := hS w2.drew (Below.refl _ _).drew
      clear cvo c0
      refine takeH (i := 0) (some 43) (v := ?_) rfl (by kernel_rfl) (by kernel_rfl) (by kernel_rfl) (fun _ _ _ h => h) hS0 (fun o ho => ?_) ?_
      rotate_left
      · simp only [List.getElem?_toArray, List.getElem?_cons_zero, Option.some.injEq] at ho; subst ho; refine Or.inl ⟨by rfl, fun w' hSw => ?_⟩; (try dsimp only at hSw); go_simp; try with_reducible rfl
      simp only [Act.put, List.setIfInBounds_toArray, List.set_cons_zero, List.set_cons_succ]
      refine takeH (i := 1) (some 44) (v := ?_) rfl (by kernel_rfl) (by kernel_rfl) (by kernel_rfl) (fun _ _ _ h => h) hS0 (fun o ho => ?_) ?_
      rotate_left
      · simp only [List.getElem?_toArray, List.getElem?_cons_zero, List.getElem?_cons_succ, Option.some.injEq] at ho; subst ho; refine Or.inl ⟨by rfl, fun w' hSw => ?_⟩; (try dsimp only at hSw); go_simp; try with_reducible rfl
      simp only [Act.put, List.setIfInBounds_toArray, List.set_cons_zero, List.set_cons_succ]
      refine takeH (i := 2) (some 45) (v := ?_) rfl (by kernel_rfl) (by kernel_rfl) (by kernel_rfl) (fun _ _ _ h => h) hS0 (fun o ho => ?_) ?_
      rotate_left
      · simp only [List.getElem?_toArray, List.getElem?_cons_zero, List.getElem?_cons_succ, Option.some.injEq] at ho; subst ho; refine Or.inl ⟨by rfl, fun w' hSw => ?_⟩; (try dsimp only at hSw); go_simp; try with_reducible rfl
      simp only [Act.put, List.setIfInBounds_toArray, List.set_cons_zero, List.set_cons_succ]
      refine takeH (i := 3) (some 46) (v := ?_) rfl (by kernel_rfl) (by kernel_rfl) (by kernel_rfl) (fun _ _ _ h => h) hS0 (fun o ho => ?_) ?_
      rotate_left
      · simp only [List.getElem?_toArray, List.getElem?_cons_zero, List.getElem?_cons_succ, Option.some.injEq] at ho; subst ho; refine Or.inl ⟨by rfl, fun w' hSw => ?_⟩; (try dsimp only at hSw); go_simp; try with_reducible rfl
      simp only [Act.put, List.setIfInBounds_toArray, List.set_cons_zero, List.set_cons_succ]
      refine takeH (i := 4) (some 47) (v := ?_) rfl (by kernel_rfl) (by kernel_rfl) (by kernel_rfl) (fun _ _ _ h => h) hS0 (fun o ho => ?_) ?_
      rotate_left
      · simp only [List.getElem?_toArray, List.getElem?_cons_zero, List.getElem?_cons_succ, Option.some.injEq] at ho; subst ho; refine Or.inl ⟨by rfl, fun w' hSw => ?_⟩; (try dsimp only at hSw); go_simp; try with_reducible rfl
      simp only [Act.put, List.setIfInBounds_toArray, List.set_cons_zero, List.set_cons_succ]
      refine takeH (i := 5) (some 48) (v := ?_) rfl (by kernel_rfl) (by kernel_rfl) (by kernel_rfl) (fun _ _ _ h => h) hS0 (fun o ho => ?_) ?_
      rotate_left
      · simp only [List.getElem?_toArray, List.getElem?_cons_zero, List.getElem?_cons_succ, Option.some.injEq] at ho; subst ho; refine Or.inl ⟨by rfl, fun w' hSw => ?_⟩; (try dsimp only at hSw); go_simp; try with_reducible rfl
      simp only [Act.put, List.setIfInBounds_toArray, List.set_cons_zero, List.set_cons_succ]
      refine takeH (i := 6) (some 49) (v := ?_) rfl (by kernel_rfl) (by kernel_rfl) (by kernel_rfl) (fun _ _ _ h => h) hS0 (fun o ho => ?_) ?_
      rotate_left
      · simp only [List.getElem?_toArray, List.getElem?_cons_zero, List.getElem?_cons_succ, Option.some.injEq] at ho; subst ho; refine Or.inl ⟨by rfl, fun w' hSw => ?_⟩; (try dsimp only at hSw); go_simp; try with_reducible rfl
      simp only [Act.put, List.setIfInBounds_toArray, List.set_cons_zero, List.set_cons_succ]
      refine takeH (i := 7) (some 50) (v := ?_) rfl (by kernel_rfl) (by kernel_rfl) (by kernel_rfl) (fun _ _ _ h => h) hS0 (fun o ho => ?_) ?_
      rotate_left
      · simp only [List.getElem?_toArray, List.getElem?_cons_zero, List.getElem?_cons_succ, Option.some.injEq] at ho; subst ho; refine Or.inl ⟨by rfl, fun w' hSw => ?_⟩; (try dsimp only at hSw); go_simp; try with_reducible rfl
      simp only [Act.put, List.setIfInBounds_toArray, List.set_cons_zero, List.set_cons_succ]
      refine takeH (i := 8) (some 51) (v := ?_) rfl (by kernel_rfl) (by kernel_rfl) (by kernel_rfl) (fun _ _ _ h => h) hS0 (fun o ho => ?_) ?_
      rotate_left
      · simp only [List.getElem?_toArray, List.getElem?_cons_zero, List.getElem?_cons_succ, Option.some.injEq] at ho; subst ho; refine Or.inl ⟨by rfl, fun w' hSw => ?_⟩; (try dsimp only at hSw); go_simp; try with_reducible rfl
      simp only [Act.put, List.setIfInBounds_toArray, List.set_cons_zero, List.set_cons_succ]
      refine oneH (i := 9) (by kernel_rfl) (fun o ho K' hK => ?_)
      simp only [List.getElem?_toArray, List.getElem?_cons_zero, List.getElem?_cons_succ, Option.some.injEq] at ho; subst ho
      go_simp
      have hb8 : Below w2.heap.size w2 (w2.alloc (.cells #[.int .i64 a0] 2)).drew := ((Below.refl _ w2).alloc (Nat.le_refl _) _).drew
      refine hK.out _ _ (hS _ hb8) ?_
      clear hK K'
      refine oneH (i := 10) (by kernel_rfl) (fun o ho K' hK => ?_)
      simp only [List.getElem?_toArray, List.getElem?_cons_zero, List.getElem?_cons_succ, Option.some.injEq] at ho; subst ho
      refine step_append_lies _ (by rfl) _ _ _ (by rfl) K 2 i0 (.int .i64 0) 1 8 Tryz.underlying25 HI.out.1 HI.out.2.1 HI.out.2.2.1 HI.out.2.2.2 rfl (by decide) vo g.out.length _ (by rfl) (HOW.out.alloc _)
        ⟨w2.heap.size, 0, none⟩ 1 1 [.int .i64 a0] (by rfl) (by rfl) (cell_one_new _ _ _) (by intro u hu; rw [List.mem_singleton.1 hu]; rfl) (by decide) (by unfold maxLen; omega) (by omega) (by simp; omega) (w2.heap.size + 1) (by simp) ?_
      intro g1 cap1 wC hownC hgrowC hlocC hltC
      have hGR : Hid (Gro w2 wC vo (.slice (some ⟨g1, 0, none⟩) (g.out.length + 1) cap1)) := Lib.hid (gro_append (w := w2) hgrowC hlocC)
      have HMC := Lib.hid (HM2.out.outp hGR.out (out' := g.out ++ [a0]) (by rw [List.length_append, List.map_append]; exact hownC))
      have hPv : vo.ownBlock ≠ some P := fun e => by have := (HOW.out.lt P e).1; have := HM2.out.pk; omega
      have hSC : wC.cell? ⟨P, 5, none⟩ = some vo ∧ wC.cell? ⟨ga, 0, none⟩ = some (.int .i64 a0) := ⟨(World.cell?_of_block (a := ⟨P, 5, none⟩) (hGR.out.block P HM2.out.lt hPv)).trans (hS _ (Below.refl _ _)).1, (World.cell?_of_block (a := ⟨ga, 0, none⟩) (hGR.out.block ga (block_lt_of_cell (hS _ (Below.refl _ _)).2) HGA.out)).trans (hS _ (Below.refl _ _)).2⟩
      have xf : wC.frozen? ⟨P, 5, none⟩ = false := (World.frozen?_of_block (a := ⟨P, 5, none⟩) (hGR.out.block P HM2.out.lt hPv)).trans (HM2.out.free 5)
      have xc : wC.cell? ⟨P, 5, none⟩ = some vo := hSC.1
      refine hK.out _ _ hSC ?_
      clear hK K'
      simp only [Act.put, List.setIfInBounds_toArray, List.set_cons_zero, List.set_cons_succ]
      refine takeH (i := 11) (some 54) (v := ?_) rfl (by kernel_rfl) (by kernel_rfl) (by kernel_rfl) (fun _ _ _ h => h) hSC (fun o ho => ?_) ?_
      rotate_left
      · simp only [List.getElem?_toArray, List.getElem?_cons_zero, List.getElem?_cons_succ, Option.some.injEq] at ho; subst ho; refine Or.inl ⟨by rfl, fun w' hSw => ?_⟩; (try dsimp only at hSw); go_simp; try with_reducible rfl
      simp only [Act.put, List.setIfInBounds_toArray, List.set_cons_zero, List.set_cons_succ]
      refine takeH (i := 12) (some 55) (v := ?_) rfl (by kernel_rfl) (by kernel_rfl) (by kernel_rfl) (fun _ _ _ h => h) hSC (fun o ho => ?_) ?_
      rotate_left
      · simp only [List.getElem?_toArray, List.getElem?_cons_zero, List.getElem?_cons_succ, Option.some.injEq] at ho; subst ho; refine Or.inl ⟨by rfl, fun w' hSw => ?_⟩; (try dsimp only at hSw); go_simp; try with_reducible rfl
      simp only [Act.put, List.setIfInBounds_toArray, List.set_cons_zero, List.set_cons_succ]
      refine takeH (i := 13) (some 56) (v := ?_) rfl (by kernel_rfl) (by kernel_rfl) (by kernel_rfl) (fun _ _ _ h => h) hSC (fun o ho => ?_) ?_
      rotate_left
      · simp only [List.getElem?_toArray, List.getElem?_cons_zero, List.getElem?_cons_succ, Option.some.injEq] at ho; subst ho; refine Or.inl ⟨by rfl, fun w' hSw => ?_⟩; (try dsimp only at hSw); go_simp; try with_reducible rfl
      simp only [Act.put, List.setIfInBounds_toArray, List.set_cons_zero, List.set_cons_succ]
      refine wpAnyH_done (by kernel_rfl) ?_ _
      refine lastH (by decide) (fun o ho K' hK => ?_)
      simp only [List.getElem?_toArray, List.getElem?_cons_zero, List.getElem?_cons_succ, Option.some.injEq] at ho; subst ho
      go_simp
      refine hK.out _ _ ?_
      clear hK K' e1 e15 e16 e17 e18 d0 d1 d2 d3 d4 xc xf hSC
      go_wp2_with fail
      go_ret
      exact IPost.plain HE.out hdn rfl rfl hsm rfl rfl rfl HMC.out.1 (HR2.out.go HMC.out.2 HM2.out.pk (fun e => e)) (HV2.out.trans (HMC.out.2.mono fun _ _ h => h.elim))
end Go.Proofs.YtooblmiffgjmjaaGreatDoor

/- The document's machine: an instruction: calls. (Written by gen/genrni.py.) -/
namespace Go.Proofs.YtooblmiffgjmjaaGreatDoor
open Go.ChangeShapes Go.WideShapes Go.RowKit Go.Deep
set_option linter.unusedVariables false

set_option maxRecDepth 100000 in
set_option maxHeartbeats 8000000 in
theorem ins_call (K P R n most : Nat) (m : List FunD) (w : World) (g : St) (vf vo : Value) (x : InsD) (Ax : Option Addr) (cx : Nat) (h : RfM K P m most w g vf vo) (hr : FrR K P R n w vo g.cur.regs) (hdn : g.done = false) (hsm : g.steps ≤ most) (hargs : SL w 1 (RIntB (Old K P)) Ax cx x.args)
    (hlen : x.args.length ≤ 1000) (hin : ∀ a ∈ x.args, InR n a) (hn : n ≤ 256) (hi64 : I64 x.imm) (hop : x.op = 17) (F : FunD) (hF : m[x.fn.toNat]? = some F) (hfn : 0 ≤ x.fn) (hl : (x.args.length : Int) = F.params) (hdst : x.dst = -1 ∨ InR n x.dst) (hcall : callOf m g.cur = x) (hol17 : g.out.length ≤ g.steps) (ih : CallP K P m most (most - g.steps)) :
    Calls Tryz.prog 37 #[.pointer (some ⟨P, 0, none⟩), .slice (some ⟨R, 0, none⟩) n n, .agg #[.int .i64 x.op, .int .i64 x.dst, .slice Ax x.args.length cx, .int .i64 x.imm, .int .i64 x.fn]] w (IPost K P R n m most x g vf vo w) := by
  obtain ⟨i0, p1, p2, p3, p4⟩ := info_parts Tryz.info2
  have HI := Lib.hid (And.intro p1 (And.intro p2 (And.intro p3 p4)))
  clear p1 p2 p3 p4
  have e1 : (x.op == 1) = false := by simp; omega
  have e18 : (x.op == 18) = false := by simp; omega
  have e15 : (x.op == 15) = false := by simp; omega
  have e16 : (x.op == 16) = false := by simp; omega
  have e17 : (x.op == 17) = true := by simp; omega
  obtain ⟨fn, hfx⟩ : ∃ fn : Nat, x.fn = fn := ⟨x.fn.toNat, by omega⟩
  rw [hfx, Int.toNat_natCast] at hF
  have HE : Hid (doS g x = { g with stack := g.cur :: g.stack, cur := ⟨fn, 0, 0, firstR (argsV g.cur.regs x.args)⟩ }) := Lib.hid (by
    unfold doS enterS; rw [if_neg (by omega), if_neg (by omega), if_neg (by omega), if_neg (by omega), if_pos hop, hfx]; rfl)
  have HAA := Lib.hid (argsV_i64 hr.r64 x.args)
  have HL2 : Hid (((argsV g.cur.regs x.args).length : Int) = F.params) := Lib.hid (by rw [argsV_len]; exact hl)
  have HF := Lib.hid hF
  have HFN := Lib.hid hfx
  have HCL := Lib.hid hcall
  have HIH := Lib.hid ih
  have HDS := Lib.hid hdst
  clear hop hl hF hfx hcall ih hdst
  go_enter Tryz.func37, Tryz.ntmps37
  go_upto_region 1 with fail
  obtain ⟨w1, hw1, hs1, hk1, hbel1, hc1, -⟩ := named w #[.int .i64 x.op, .int .i64 x.dst, .slice Ax x.args.length cx, .int .i64 x.imm, .int .i64 x.fn] 54
  rw [← hw1]
  obtain ⟨N, hN⟩ : ∃ N, N = w.heap.size := ⟨_, rfl⟩
  rw [← hN] at hc1 hs1 ⊢
  have b0 : w1.cell? ⟨N, 0, none⟩ = some (.int .i64 x.op) := hc1 0 _ rfl
  have b1 : w1.cell? ⟨N, 1, none⟩ = some (.int .i64 x.dst) := hc1 1 _ rfl
  have b2 : w1.cell? ⟨N, 2, none⟩ = some (.slice Ax x.args.length cx) := hc1 2 _ rfl
  have b3 : w1.cell? ⟨N, 3, none⟩ = some (.int .i64 x.imm) := hc1 3 _ rfl
  have b4 : w1.cell? ⟨N, 4, none⟩ = some (.int .i64 x.fn) := hc1 4 _ rfl
  have HC := Lib.hid (And.intro b0 (And.intro b1 (And.intro b2 (And.intro b3 b4))))
  have HM1 := Lib.hid (h.below hbel1)
  have HR1 := Lib.hid (hr.go (Mv.of_below NoX P vo hbel1) h.pk (fun e => e))
  have HA1 : Hid (SL w1 1 (RIntB (Old K P)) Ax cx x.args) := Lib.hid (SL.imp (RIntB.go (fun a v _ ha => hk1 _ _ ha) (fun _ h => h)) hargs)
  have HV1 : Hid (Mv (fun b => b = R) P w w1 vo vo) := Lib.hid (Mv.of_below _ P vo hbel1)
  have HIN := Lib.hid hin
  have HNP : Hid (P < N) := Lib.hid (by rw [hN]; exact h.lt)
  have HNV : Hid (vo.ownBlock ≠ some N) := Lib.hid (fun e => by have := (h.out.lt N e).2; omega)
  clear hw1 hs1 hk1 hbel1 hc1 h hr hargs hin hN b0 b1 b2 b3 b4
  go_wp2_with fail
  go_loopw [7, 8] (fun s7 s8 wq => ∃ (k : Nat) (v : Value), k ≤ x.args.length ∧ v = s7 ∧ s8 = .int .i64 (k : Int) ∧ wq.ownsRow w1.heap.size 2 1 v (argsV g.cur.regs (x.args.take k)).length ((argsV g.cur.regs (x.args.take k)).map (Value.int .i64)) ∧ Below w1.heap.size w1 wq) (fun s7 s8 _ => x.args.length - (intOf s8).toNat)
  case atStart => exact ⟨0, _, Nat.zero_le _, rfl, rfl, World.ownsRow_nil _ _ _ _, Below.refl _ _⟩
  case round =>
    obtain ⟨k, v, hk, rfl, rfl, ho, hb⟩ := hrel
    have HO := Lib.hid ho
    have HB := Lib.hid hb
    have d2 := kept_of_below hb _ _ HC.out.2.2.1
    by_cases hkl : k < x.args.length
    · obtain ⟨bx, ox, a, rfl, ha, -, hac, -⟩ := HA1.out.at_ hkl
      obtain ⟨q, rfl⟩ : ∃ q : Nat, a = q := ⟨a.toNat, by have := (HIN.out a (List.mem_of_getElem? ha.out)).1; omega⟩
      have hqn : q < n := by have := (HIN.out _ (List.mem_of_getElem? ha.out)).2; omega
      have xa : wr.cell? ⟨bx, ox + k, none⟩ = some (.int .i64 (q : Int)) := by rw [Nat.mul_one] at hac; exact kept_of_below hb _ _ hac
      have xr := kept_of_below hb _ _ (HR1.out.row.cell hqn)
      have hk0 : (0 : Int) ≤ k := by omega
      have hk1 : (k : Int) < x.args.length := by omega
      have hq0 : (0 : Int) ≤ q := by omega
      have hq1 : (q : Int) < n := by omega
      have HTK : Hid (argsV g.cur.regs (x.args.take (k + 1)) = argsV g.cur.regs (x.args.take k) ++ [g.cur.regs q]) := Lib.hid (by
        rw [List.take_add_one, ha.out]; unfold argsV; rw [List.map_append]; simp)
      have hll : (argsV g.cur.regs (x.args.take k)).length ≤ 1000 := by rw [argsV_len, List.length_take]; omega
      have hz := hb.size
      clear ho hb hac ha
      go_wp2_with (at_builtin; refine wpList_append_lies _ rfl (.tmp 20) (.tmp 29) 25 rfl w1.heap.size 2 i0 (.int .i64 0) 1 8 Tryz.underlying25 HI.out.1 HI.out.2.1 HI.out.2.2.1 HI.out.2.2.2 rfl (by decide) v _ _ rfl (HO.out.alloc _) ⟨wr.heap.size, 0, none⟩ 1 1 [.int .i64 (g.cur.regs q)] rfl rfl ?e1 ?e2 ?e0 ?e3 ?e4 ?e5 (wr.heap.size + 1) ?e6 ?_)
      case e1 => exact news_one_add wr _ _ rfl
      case e2 => exact ints_oneCell .i64 [(g.cur.regs q)]
      case e0 => omega
      case e3 => unfold maxLen; omega
      case e4 => omega
      case e5 => simp; omega
      case e6 => simp
      intro g7 cap w7 hown7 hgrow7 hloc7 hlt7
      have HB7 : Hid (Below w1.heap.size w1 w7) := Lib.hid (by
        have h1 := Below.grown (HB.out.alloc HB.out.size (.cells #[.int .i64 (g.cur.regs q)] 2)) hgrow7 (by simp; omega) (fun y hy => (HO.out.lt y hy).1)
        exact h1)
      have HO7 : Hid (w7.ownsRow w1.heap.size 2 1 (.slice (some ⟨g7, 0, none⟩) ((argsV g.cur.regs (x.args.take k)).length + 1) cap) (argsV g.cur.regs (x.args.take (k + 1))).length ((argsV g.cur.regs (x.args.take (k + 1))).map (Value.int .i64))) := Lib.hid (by rw [HTK.out, List.length_append, List.map_append]; exact hown7)
      clear hown7 hgrow7 hloc7 hlt7
      go_wp2_with fail
      go_roundw
      case rel => exact ⟨k + 1, _, by omega, rfl, by go_num, HO7.out, HB7.out⟩
      case measure => simp [intOf]; omega
    · obtain rfl : k = x.args.length := by omega
      rw [List.take_of_length_le (Nat.le_refl _)] at ho
      have HOL := Lib.hid ho
      have d0 := kept_of_below hb _ _ HC.out.1
      have d1 := kept_of_below hb _ _ HC.out.2.1
      have d3 := kept_of_below hb _ _ HC.out.2.2.2.1
      have d4 := kept_of_below hb _ _ HC.out.2.2.2.2
      have HM2 := Lib.hid (HM1.out.below hb)
      have HV2 : Hid (Mv (fun b => b = R) P w wr vo vo) := Lib.hid (HV1.out.trans (Mv.of_below _ P vo hb))
      have HR2 := Lib.hid (HR1.out.go (Mv.of_below NoX P vo hb) HM1.out.pk (fun e => e))
      have HLE : Hid (K ≤ w1.heap.size) := Lib.hid HM1.out.kw
      obtain ⟨w2, rfl⟩ : ∃ w2, w2 = wr := ⟨wr, rfl⟩
      clear ho hb HO HB HM1 HV1 HR1 HA1 HC
      rw [HFN.out] at d4
      have hge : (g.stack = g.stack) := rfl
      have HM3 := Lib.hid (HM2.out.ghost (s' := doS g x) (by rw [HE.out]; exact ⟨rfl, rfl, rfl, rfl, rfl, rfl⟩))
      have HVS := Lib.hid (vs_of_own HOL.out HAA.out)
      have HCA := Lib.hid (HIH.out fn F _ v w2 (doS g x) vf vo HF.out HL2.out HVS.out HM3.out (by rw [HE.out]) (by rw [HE.out]; exact hdn) (by rw [HE.out]; exact hsm) (by rw [HE.out]; exact Nat.le_refl _) (by rw [HE.out]; exact hol17))
      clear hge
      go_wp2_with fail
      refine HCA.out.mono ?_
      rintro e w3 (⟨vo', u, j, t, rfl, hgive, htd, hts, htn, htm, hu64, hM4, hv4⟩ | ⟨vo', rfl, hM4, hv4⟩)
      · have HG4 : Hid (loopS m (j + 1) (doS g x) = { t with cur := resumeF m g.cur u, stack := g.stack }) := Lib.hid (by
          rw [hgive]; unfold giveS; rw [hts, HE.out])
        have HTS : Hid (t.steps = g.steps + (j + 1)) := Lib.hid (by rw [htn, HE.out])
        have HTD := Lib.hid htd
        have HTM := Lib.hid htm
        have HU := Lib.hid hu64
        have HM5 := Lib.hid hM4
        have HV4 := Lib.hid hv4
        have HR4 := Lib.hid (HR2.out.go hv4 HM2.out.pk (fun e => e))
        have HB4 : Hid (∀ i v, w2.cell? ⟨N, i, none⟩ = some v → w3.cell? ⟨N, i, none⟩ = some v) := Lib.hid (fun i v hc => (World.cell?_of_block (a := ⟨N, i, none⟩) (hv4.block N (block_lt_of_cell hc) (by have := HM2.out.lt; have := HNP.out; omega) (fun e => e) (HNV.out))).trans hc)
        have d1 := HB4.out _ _ d1
        clear hgive htd hts htn htm hu64 hM4 hv4
        rcases HDS.out with hdm | hdr
        · have HRS : Hid (resumeF m g.cur u = g.cur) := Lib.hid (by unfold resumeF; rw [HCL.out, if_neg (by omega)])
          have hge : ¬ (x.dst ≥ 0) := by omega
          have hgb : decide (x.dst ≥ 0) = false := decide_eq_false hge
          clear hdm d0 d2 d3 d4
          go_wp2_with fail
          go_ret
          refine .inl ⟨vo', j + 1, _, rfl, HG4.out.symm, HTD.out, rfl, HTS.out, HTM.out, ?_, ?_, ?_, HM5.out.ghost ⟨rfl, rfl, rfl, rfl, rfl, rfl⟩, ?_, HV2.out.trans (HV4.out.mono fun _ _ h => h.elim)⟩
          · show (resumeF m g.cur u).fn = _; rw [HRS.out]
          · show (resumeF m g.cur u).blk = _; rw [HRS.out]
          · show (resumeF m g.cur u).at_ = _; rw [HRS.out]
          · show FrR K P R n w3 vo' (resumeF m g.cur u).regs; rw [HRS.out]; exact HR4.out
        · obtain ⟨d, hd⟩ : ∃ d : Nat, x.dst = d := ⟨x.dst.toNat, by have := hdr.1; omega⟩
          have hdn1 : d < n := by have := hdr.2; omega
          have HRS : Hid (resumeF m g.cur u = { g.cur with regs := upd g.cur.regs d u }) := Lib.hid (by unfold resumeF; rw [HCL.out, if_pos (by omega), hd]; rfl)
          have xd := HR4.out.row.cell hdn1
          have fd := HR4.out.row.frozen d
          have hd0 : (0 : Int) ≤ d := by omega
          have hd1 : (d : Int) < n := by omega
          have hdg : ((d : Int) ≥ 0) := by omega
          rw [hd] at d1
          clear hdr hd d0 d2 d3 d4
          go_wp2_with fail
          go_ret
          have hv := Mv.set (fun b => b = R) P vo' w3 (p := ⟨R, d, none⟩) (.inr rfl) (.int .i64 u)
          refine .inl ⟨vo', j + 1, _, rfl, HG4.out.symm, HTD.out, rfl, HTS.out, HTM.out, ?_, ?_, ?_, (HM5.out.off HR4.out.ge HR4.out.ap d _).ghost ⟨rfl, rfl, rfl, rfl, rfl, rfl⟩, ?_, HV2.out.trans ((HV4.out.mono fun _ _ h => h.elim).trans hv)⟩
          · show (resumeF m g.cur u).fn = _; rw [HRS.out]
          · show (resumeF m g.cur u).blk = _; rw [HRS.out]
          · show (resumeF m g.cur u).at_ = _; rw [HRS.out]
          · show FrR K P R n _ vo' (resumeF m g.cur u).regs; rw [HRS.out]; exact HR4.out.set d HU.out
      · have HM5 := Lib.hid hM4
        have HV4 := Lib.hid hv4
        have HST : Hid ((doS g x).steps = g.steps) := Lib.hid (by rw [HE.out])
        clear hM4 hv4 d0 d1 d2 d3 d4
        go_wp2_with fail
        go_ret
        exact .inr ⟨vo', rfl, by rw [← HST.out]; exact HM5.out, HV2.out.trans (HV4.out.mono fun _ _ h => h.elim)⟩
end Go.Proofs.YtooblmiffgjmjaaGreatDoor

/- The reference's Ahead: the blocks ahead of one, as a list. -/
namespace Go.Proofs.YtooblmiffgjmjaaGreatDoor
open Go.ChangeShapes Go.WideShapes Go.RowKit Go.Deep
set_option linter.unusedVariables false

set_option maxHeartbeats 1000000 in
theorem refAhead_any (f : FunD) (block : Int) (v : Value) (w : World) (hv : VFun w v f) (hn : f.blocks.length ≤ 1000000) :
    Calls Tryz.prog 38 #[v, .int .i64 block] w fun e w' => (∃ r, e = .returned r ∧ VS w' 1 RInt r (aheadL f.blocks block)) ∧ Below w.heap.size w w' := by
  obtain ⟨Ar, cr, A, c, rfl, -, hb, -, -⟩ := hv
  have hbl := hb.len
  obtain ⟨i0, hi, hz0, hz1, hz2⟩ := info_parts Tryz.info3
  have HI := Lib.hid (And.intro hi (And.intro hz0 (And.intro hz1 hz2)))
  clear hi hz0 hz1 hz2
  go_enter Tryz.func38, Tryz.ntmps38
  go_wp2_with fail
  obtain ⟨w1, hw1⟩ : ∃ w1, w1 = w.alloc (.cells #[.int .i64 f.params, .int .i64 f.result, .slice Ar f.regs.length cr, .slice A f.blocks.length c] 52) := ⟨_, rfl⟩
  have hs1 : w.heap.size < w1.heap.size := by rw [hw1]; simp
  have hk1 : Kept w w1 := by rw [hw1]; exact kept_alloc _ _
  have hbel1 : Below w.heap.size w w1 := by rw [hw1]; exact (Below.refl _ _).alloc (Nat.le_refl _) _
  have hc1 : w1.cell? ⟨w.heap.size, 3, none⟩ = some (.slice A f.blocks.length c) := by rw [hw1]; simp
  rw [← hw1]
  clear hw1
  go_loopw [5, 6] (fun out i wr => ∃ k : Nat, k ≤ f.blocks.length ∧ i = .int .i64 k ∧ Below w1.heap.size w1 wr ∧
    wr.ownsRow w1.heap.size 3 1 out (aheadL (f.blocks.take k) block).length ((aheadL (f.blocks.take k) block).map (Value.int .i64))) (fun _ i _ => f.blocks.length - (intOf i).toNat)
  case atStart => exact ⟨0, Nat.zero_le _, rfl, Below.refl _ _, rfl, .inl ⟨rfl, rfl⟩⟩
  case round =>
    obtain ⟨k, hk, rfl, hbel, hown⟩ := hrel
    have hs := hbel.size
    have hkw : Kept w1 wr := kept_of_below hbel
    have hbox := hkw _ _ hc1
    by_cases hlt : k < f.blocks.length
    · obtain ⟨b, o, kb, rfl, hkb, -, -, -, -, A', c', hvt, hst⟩ := (SBlks.keep (hk1.trans hkw) hb).at_ hlt
      have htm := hst.len
      go_wp2_with fail
      go_loopw [7, 8] (fun h i w2 => ∃ j n : Nat, j ≤ kb.term.to.length ∧ i = .int .i64 j ∧ w2 = wr.drewN n ∧ h = .bool (hasTo block (kb.term.to.take j))) (fun _ i _ => kb.term.to.length - (intOf i).toNat)
      case atStart => exact ⟨0, 0, Nat.zero_le _, rfl, rfl, rfl⟩
      case round =>
        obtain ⟨j, n, hj, rfl, rfl, rfl⟩ := hrel
        by_cases hjt : j < kb.term.to.length
        · obtain ⟨b', o', x, rfl, hx, hxc, -⟩ := hst.int hjt
          have HS := Lib.hid (hasTo_step block hx.out)
          generalize hasTo block (kb.term.to.take j) = h0 at *
          cases h0
          · by_cases he : x = block
            · have he' : (x == block) = true := by simp [he]
              have HS' : Hid (hasTo block (kb.term.to.take (j + 1)) = true) := Lib.hid (by rw [HS.out, he']; rfl)
              clear HS he
              go_wp2_with fail
              go_roundw
              case rel => exact ⟨j + 1, _, by omega, by go_num, rfl, by rw [HS'.out]⟩
              case measure => simp [intOf]; omega
            · have he' : (x == block) = false := by simp [he]
              have HS' : Hid (hasTo block (kb.term.to.take (j + 1)) = false) := Lib.hid (by rw [HS.out, he']; rfl)
              clear HS he
              go_wp2_with fail
              go_roundw
              case rel => exact ⟨j + 1, _, by omega, by go_num, rfl, by rw [HS'.out]⟩
              case measure => simp [intOf]; omega
          · have HS' : Hid (hasTo block (kb.term.to.take (j + 1)) = true) := Lib.hid (by rw [HS.out]; rfl)
            clear HS
            go_wp2_with fail
            go_roundw
            case rel => exact ⟨j + 1, _, by omega, by go_num, rfl, by rw [HS'.out]⟩
            case measure => simp [intOf]; omega
        · have hjj : kb.term.to.take j = kb.term.to := List.take_of_length_le (by omega)
          rw [hjj]
          clear hjj
          have HA := Lib.hid (aheadL_step block hkb.out)
          generalize hasTo block kb.term.to = h0 at *
          cases h0
          · go_wp2_with fail
            go_roundw
            case rel => exact ⟨k + 1, by omega, by go_num, below_drewN hbel _, by rw [HA.out]; simpa using (show (wr.drewN n).ownsRow _ _ _ _ _ _ from hown)⟩
            case measure => simp [intOf]; omega
          · have hln : (aheadL (f.blocks.take k) block).length ≤ k := Nat.le_trans (aheadK_len _ _ _) (by simp; omega)
            go_wp2_with (at_builtin; refine wpList_append_own _ rfl (.tmp 44) (.tmp 46) 43 rfl w1.heap.size 3 i0 (.int .i64 0) 1 8 Tryz.underlying43 HI.out.1 HI.out.2.1 HI.out.2.2.1 HI.out.2.2.2 rfl (by decide) _ _ _ rfl (World.ownsRow.alloc (w := wr.drewN n) hown _) ⟨wr.heap.size, 0, none⟩ 1 1 [.int .i64 k] rfl rfl ?c1 ?c2 ?c3 ?c4 ?c5 ?_)
            case c1 => exact news_one (wr.drewN n) _ _ rfl
            case c2 => rfl
            case c3 => unfold maxLen; omega
            case c4 => omega
            case c5 => omega
            intro v' w3 hown' hgrow _
            have hbel3 : Below w1.heap.size w1 w3 := ((below_drewN hbel n).alloc hs _).grown hgrow (by simp; omega) (fun g hg => (hown.lt g hg).1)
            go_wp2_with fail
            go_roundw
            case rel => exact ⟨k + 1, by omega, by go_num, hbel3, by rw [HA.out]; simpa using hown'⟩
            case measure => simp [intOf]; omega
    · have hkk : f.blocks.take k = f.blocks := List.take_of_length_le (by omega)
      rw [hkk] at hown
      clear hkk
      go_wp2_with fail
      go_ret
      exact ⟨⟨_, rfl, vs_of_own hown (aheadL_i64 _ _ (by omega))⟩, hbel1.trans (hbel.mono (by omega))⟩
end Go.Proofs.YtooblmiffgjmjaaGreatDoor

/- The document's machine: an instruction; the mathematics of a call. -/
namespace Go.Proofs.YtooblmiffgjmjaaGreatDoor
open Go.ChangeShapes Go.WideShapes Go.RowKit Go.Deep
set_option linter.unusedVariables false

theorem rinstr_any (K P R n most : Nat) (m : List FunD) (w : World) (g : St) (vf vo : Value) (x : InsD) (Ax : Option Addr) (cx : Nat) (h : RfM K P m most w g vf vo) (hr : FrR K P R n w vo g.cur.regs) (hdn : g.done = false) (hsm : g.steps ≤ most) (hargs : SL w 1 (RIntB (Old K P)) Ax cx x.args)
    (hlen : x.args.length ≤ 1000) (hn : n ≤ 256) (hi64 : I64 x.imm) (hI : InsOk m n x) (hall : ∀ f ∈ m, FunOk m f) (hcall : callOf m g.cur = x) (hol : g.out.length ≤ g.steps) (hm : most ≤ 1048576) (ih : CallP K P m most (most - g.steps)) :
    Calls Tryz.prog 37 #[.pointer (some ⟨P, 0, none⟩), .slice (some ⟨R, 0, none⟩) n n, .agg #[.int .i64 x.op, .int .i64 x.dst, .slice Ax x.args.length cx, .int .i64 x.imm, .int .i64 x.fn]] w (IPost K P R n m most x g vf vo w) := by
  rcases hI.2 with ⟨ho, hd⟩ | ⟨ho1, ho2, hl, hd⟩ | ⟨ho, hl, hd⟩ | ⟨ho, hl⟩ | ⟨ho, hl⟩ | ⟨ho, hfn, hl, hd⟩
  · exact ins_const K P R n most m w g vf vo x Ax cx h hr hdn hsm hargs hlen hI.1 hn hi64 ho hd
  · exact ins_rest K P R n most m w g vf vo x Ax cx h hr hdn hsm hargs hlen hI.1 hn hi64 ⟨ho1, ho2⟩ hl hd
  · exact ins_load K P R n most m w g vf vo x Ax cx h hr hdn hsm hargs hlen hI.1 hn hi64 ho hl hd
  · exact ins_store K P R n most m w g vf vo x Ax cx h hr hdn hsm hargs hlen hI.1 hn hi64 ho hl
  · exact ins_out K P R n most m w g vf vo x Ax cx h hr hdn hsm hargs hlen hI.1 hn hi64 ho hl (by omega)
  · exact ins_call K P R n most m w g vf vo x Ax cx h hr hdn hsm hargs hlen hI.1 hn hi64 ho _ (funAt_get hfn).1 hfn.1 hl hd hcall hol ih

/-! ### The mathematics of a call -/
theorem aheadK_ge (bs : List BlkD) (i : Nat) (x : Int) : ∀ y ∈ aheadK bs i x, (i : Int) ≤ y := by
  induction bs generalizing i with
  | nil => intro y hy; simp [aheadK] at hy
  | cons b r ih =>
    intro y hy
    simp only [aheadK, List.mem_append] at hy
    rcases hy with h | h
    · split at h
      · simp at h; omega
      · simp at h
    · have := ih (i + 1) y h; omega
theorem aheadK_nodup (bs : List BlkD) (i : Nat) (x : Int) : (aheadK bs i x).Nodup := by
  induction bs generalizing i with
  | nil => simp [aheadK]
  | cons b r ih =>
    simp only [aheadK]
    split
    · rw [List.singleton_append, List.nodup_cons]
      exact ⟨fun h => by have := aheadK_ge r (i + 1) x _ h; omega, ih (i + 1)⟩
    · rw [List.nil_append]; exact ih (i + 1)
theorem idx_nodup {l : List Int} (h : l.Nodup) : ∀ {i : Nat} {x : Int}, l[i]? = some x → l.idxOf x = i := by
  induction l with
  | nil => intro i x hx; simp at hx
  | cons a r ih =>
    intro i x hx
    rw [List.nodup_cons] at h
    cases i with
    | zero => simp at hx; subst hx; simp
    | succ i =>
      have hx' : r[i]? = some x := by simpa using hx
      have hne : a ≠ x := fun e => h.1 (e ▸ List.mem_of_getElem? hx')
      have hb : (a == x) = false := by rw [beq_eq_false_iff_ne]; exact hne
      rw [List.idxOf_cons, hb, ih h.2 hx']; rfl
/-- Where the last one was found, so far. -/
def atI (l : List Int) (x : Int) (i : Nat) : Nat := if x ∈ l.take i then l.idxOf x else 0
theorem atI_zero (l : List Int) (x : Int) : atI l x 0 = 0 := by unfold atI; simp
theorem atI_yes {l : List Int} (h : l.Nodup) {x : Int} {i : Nat} (hx : l[i]? = some x) : atI l x (i + 1) = i := by
  unfold atI
  rw [if_pos, idx_nodup h hx]
  rw [List.take_add_one, hx]; simp
theorem atI_no {l : List Int} {x y : Int} {i : Nat} (hy : l[i]? = some y) (hne : y ≠ x) : atI l x (i + 1) = atI l x i := by
  unfold atI
  have : (x ∈ l.take (i + 1)) ↔ (x ∈ l.take i) := by
    rw [List.take_add_one, hy]; simp; intro e; exact absurd e.symm hne
  by_cases h : x ∈ l.take i
  · rw [if_pos h, if_pos (this.2 h)]
  · rw [if_neg h, if_neg (fun e => h (this.1 e))]
theorem atI_all {l : List Int} {x : Int} (h : x ∈ l) {i : Nat} (hi : l.length ≤ i) : atI l x i = l.idxOf x := by
  unfold atI; rw [List.take_of_length_le hi, if_pos h]
theorem loop_len (m : List FunD) (k : Nat) (s : St) : (loopS m k s).out.length ≤ s.out.length + k := by
  induction k generalizing s with
  | zero => simp [loopS]
  | succ k ih =>
    by_cases h : s.done = true
    · rw [loopS_done h]; omega
    · simp only [loopS, h, if_false, Bool.false_eq_true]
      have h1 := ih (stepS m (tickS s))
      obtain ⟨r2, hr2, hl⟩ := stepS_out m (tickS s)
      rw [hr2, List.length_append] at h1
      have e : (tickS s).out.length = s.out.length := rfl
      omega
theorem loop_next {m : List FunD} {j : Nat} {s g : St} (h : g = loopS m j s) (hd : g.done = false) : loopS m (j + 1) s = stepS m (tickS g) := by
  rw [loopS_succ, ← h, hd]; simp
theorem blkOf_at {m : List FunD} {fr : Fr} {F : FunD} {kb : BlkD} (hf : m[fr.fn]? = some F) (hb : F.blocks[fr.blk]? = some kb) : blkOf m fr = kb := by unfold blkOf blkAt; rw [getD_of hf, getD_of hb]
theorem step_ins {m : List FunD} {g : St} {F : FunD} {kb : BlkD} {x : InsD} (hf : m[g.cur.fn]? = some F) (hb : F.blocks[g.cur.blk]? = some kb) (hx : kb.ins[g.cur.at_]? = some x) :
    stepS m (tickS g) = doS { tickS g with cur := { g.cur with at_ := g.cur.at_ + 1 } } x := by
  have hk : blkOf m (tickS g).cur = kb := blkOf_at hf hb
  have hl := (List.getElem?_eq_some_iff.1 hx).1
  unfold stepS
  rw [hk, if_neg (by show ¬ g.cur.at_ = _; omega)]
  show doS _ (kb.ins.getD g.cur.at_ default) = _
  rw [getD_of hx]; rfl
theorem step_end {m : List FunD} {g : St} {F : FunD} {kb : BlkD} (hf : m[g.cur.fn]? = some F) (hb : F.blocks[g.cur.blk]? = some kb) (ha : g.cur.at_ = kb.ins.length) : stepS m (tickS g) = endS m (tickS g) kb.term := by
  have hk : blkOf m (tickS g).cur = kb := blkOf_at hf hb
  unfold stepS
  rw [hk, if_pos (by exact ha)]
theorem call_at {m : List FunD} {g : St} {F : FunD} {kb : BlkD} {x : InsD} (hf : m[g.cur.fn]? = some F) (hb : F.blocks[g.cur.blk]? = some kb) (hx : kb.ins[g.cur.at_]? = some x) : callOf m { g.cur with at_ := g.cur.at_ + 1 } = x := by
  unfold callOf
  show (blkAt (m.getD g.cur.fn default) g.cur.blk).ins.getD (g.cur.at_ + 1 - 1) default = x
  rw [getD_of hf]; unfold blkAt; rw [getD_of hb, Nat.add_sub_cancel, getD_of hx]
def phiP (regs : Nat → Int) (ix : Nat) (p : PhiD) : Int × Int := (p.dst, regs (p.args.getD ix 0).toNat)
theorem goTo_at {F : FunD} {fr : Fr} {tt : Nat} {kt : BlkD} (hb : F.blocks[tt]? = some kt) :
    goToF F fr tt = ⟨fr.fn, tt, 0, setAll fr.regs (kt.phis.map (phiP fr.regs ((aheadL F.blocks tt).idxOf (fr.blk : Int))))⟩ := by
  unfold goToF phiVals blkAt
  rw [getD_of hb]
  congr 2
  rw [List.zip_map']
  rfl
theorem setAll_next {r : Nat → Int} {l : List (Int × Int)} {k : Nat} {d v : Int} (h : l[k]? = some (d, v)) : setAll r (l.take (k + 1)) = upd (setAll r (l.take k)) d.toNat v := by
  unfold setAll
  rw [List.take_add_one, h, List.foldl_append]; rfl
end Go.Proofs.YtooblmiffgjmjaaGreatDoor
