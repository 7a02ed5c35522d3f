/- The document's machine: an instruction: words. (Written by gen/genrni.py.) -/
import Derived.Test.YtooblmiffgjmjaaGreatDoorRnIJ
namespace Go.Proofs.YtooblmiffgjmjaaGreatDoor
open Go.ChangeShapes Go.WideShapes Go.RowKit Go.Deep
set_option linter.unusedVariables false

set_option maxRecDepth 100000 in
set_option maxHeartbeats 8000000 in
theorem ins_load (K P R n most : Nat) (m : List FunD) (w : World) (g : St) (vf vo : Value) (x : InsD) (Ax : Option Addr) (cx : Nat) (h : RfM K P m most w g vf vo) (hr : FrR K P R n w vo g.cur.regs) (hdn : g.done = false) (hsm : g.steps ≤ most) (hargs : SL w 1 (RIntB (Old K P)) Ax cx x.args)
    (hlen : x.args.length ≤ 1000) (hin : ∀ a ∈ x.args, InR n a) (hn : n ≤ 256) (hi64 : I64 x.imm) (hop : x.op = 15) (hl : x.args.length = 1) (hdst : InR n x.dst) :
    Calls Tryz.prog 37 #[.pointer (some ⟨P, 0, none⟩), .slice (some ⟨R, 0, none⟩) n n, .agg #[.int .i64 x.op, .int .i64 x.dst, .slice Ax x.args.length cx, .int .i64 x.imm, .int .i64 x.fn]] w (IPost K P R n m most x g vf vo w) := by
  obtain ⟨i0, p1, p2, p3, p4⟩ := info_parts Tryz.info2
  have HI := Lib.hid (And.intro p1 (And.intro p2 (And.intro p3 p4)))
  clear p1 p2 p3 p4
  have e1 : (x.op == 1) = false := by simp; omega
  have e18 : (x.op == 18) = false := by simp; omega
  have e15 : (x.op == 15) = true := by simp; omega
  have e16 : (x.op == 16) = false := by simp; omega
  have e17 : (x.op == 17) = false := by simp; omega
  obtain ⟨a0, hav⟩ := len_one (show (argsV g.cur.regs x.args).length = 1 by rw [argsV_len, hl])
  have ha64 : I64 a0 := argsV_i64 hr.r64 x.args a0 (by rw [hav]; simp)
  have HAV := Lib.hid hav
  obtain ⟨d, hd⟩ : ∃ d : Nat, x.dst = d := ⟨x.dst.toNat, by have := hdst.1; omega⟩
  have hdn1 : d < n := by have := hdst.2; omega
  have HD := Lib.hid hd
  have HE : Hid (doS g x = if 0 ≤ a0 ∧ a0 < 64 then setR g d (g.mem a0.toNat) else trapS g 2) := Lib.hid (by
    unfold doS wordB; rw [if_neg (by omega), if_pos hop, hav, hd]; simp)
  clear hop hav hl hd
  go_enter Tryz.func37, Tryz.ntmps37
  go_upto_region 1 with fail
  obtain ⟨w1, hw1, hs1, hk1, hbel1, hc1, -⟩ := named w #[.int .i64 x.op, .int .i64 x.dst, .slice Ax x.args.length cx, .int .i64 x.imm, .int .i64 x.fn] 54
  rw [← hw1]
  obtain ⟨N, hN⟩ : ∃ N, N = w.heap.size := ⟨_, rfl⟩
  rw [← hN] at hc1 hs1 ⊢
  have b0 : w1.cell? ⟨N, 0, none⟩ = some (.int .i64 x.op) := hc1 0 _ rfl
  have b1 : w1.cell? ⟨N, 1, none⟩ = some (.int .i64 x.dst) := hc1 1 _ rfl
  have b2 : w1.cell? ⟨N, 2, none⟩ = some (.slice Ax x.args.length cx) := hc1 2 _ rfl
  have b3 : w1.cell? ⟨N, 3, none⟩ = some (.int .i64 x.imm) := hc1 3 _ rfl
  have b4 : w1.cell? ⟨N, 4, none⟩ = some (.int .i64 x.fn) := hc1 4 _ rfl
  have HC := Lib.hid (And.intro b0 (And.intro b1 (And.intro b2 (And.intro b3 b4))))
  have HM1 := Lib.hid (h.below hbel1)
  have HR1 := Lib.hid (hr.go (Mv.of_below NoX P vo hbel1) h.pk (fun e => e))
  have HA1 : Hid (SL w1 1 (RIntB (Old K P)) Ax cx x.args) := Lib.hid (SL.imp (RIntB.go (fun a v _ ha => hk1 _ _ ha) (fun _ h => h)) hargs)
  have HV1 : Hid (Mv (fun b => b = R) P w w1 vo vo) := Lib.hid (Mv.of_below _ P vo hbel1)
  have HIN := Lib.hid hin
  clear hw1 hs1 hk1 hbel1 hc1 h hr hargs hin hN b0 b1 b2 b3 b4
  go_wp2_with fail
  go_loopw [7, 8] (fun s7 s8 wq => ∃ (k : Nat) (v : Value), k ≤ x.args.length ∧ v = s7 ∧ s8 = .int .i64 (k : Int) ∧ wq.ownsRow w1.heap.size 2 1 v (argsV g.cur.regs (x.args.take k)).length ((argsV g.cur.regs (x.args.take k)).map (Value.int .i64)) ∧ Below w1.heap.size w1 wq) (fun s7 s8 _ => x.args.length - (intOf s8).toNat)
  case atStart => exact ⟨0, _, Nat.zero_le _, rfl, rfl, World.ownsRow_nil _ _ _ _, Below.refl _ _⟩
  case round =>
    obtain ⟨k, v, hk, rfl, rfl, ho, hb⟩ := hrel
    have HO := Lib.hid ho
    have HB := Lib.hid hb
    have d2 := kept_of_below hb _ _ HC.out.2.2.1
    by_cases hkl : k < x.args.length
    · obtain ⟨bx, ox, a, rfl, ha, -, hac, -⟩ := HA1.out.at_ hkl
      obtain ⟨q, rfl⟩ : ∃ q : Nat, a = q := ⟨a.toNat, by have := (HIN.out a (List.mem_of_getElem? ha.out)).1; omega⟩
      have hqn : q < n := by have := (HIN.out _ (List.mem_of_getElem? ha.out)).2; omega
      have xa : wr.cell? ⟨bx, ox + k, none⟩ = some (.int .i64 (q : Int)) := by rw [Nat.mul_one] at hac; exact kept_of_below hb _ _ hac
      have xr := kept_of_below hb _ _ (HR1.out.row.cell hqn)
      have hk0 : (0 : Int) ≤ k := by omega
      have hk1 : (k : Int) < x.args.length := by omega
      have hq0 : (0 : Int) ≤ q := by omega
      have hq1 : (q : Int) < n := by omega
      have HTK : Hid (argsV g.cur.regs (x.args.take (k + 1)) = argsV g.cur.regs (x.args.take k) ++ [g.cur.regs q]) := Lib.hid (by
        rw [List.take_add_one, ha.out]; unfold argsV; rw [List.map_append]; simp)
      have hll : (argsV g.cur.regs (x.args.take k)).length ≤ 1000 := by rw [argsV_len, List.length_take]; omega
      have hz := hb.size
      clear ho hb hac ha
      go_wp2_with (at_builtin; refine wpList_append_lies _ rfl (.tmp 20) (.tmp 29) 25 rfl w1.heap.size 2 i0 (.int .i64 0) 1 8 Tryz.underlying25 HI.out.1 HI.out.2.1 HI.out.2.2.1 HI.out.2.2.2 rfl (by decide) v _ _ rfl (HO.out.alloc _) ⟨wr.heap.size, 0, none⟩ 1 1 [.int .i64 (g.cur.regs q)] rfl rfl ?e1 ?e2 ?e0 ?e3 ?e4 ?e5 (wr.heap.size + 1) ?e6 ?_)
      case e1 => exact news_one_add wr _ _ rfl
      case e2 => exact ints_oneCell .i64 [(g.cur.regs q)]
      case e0 => omega
      case e3 => unfold maxLen; omega
      case e4 => omega
      case e5 => simp; omega
      case e6 => simp
      intro g7 cap w7 hown7 hgrow7 hloc7 hlt7
      have HB7 : Hid (Below w1.heap.size w1 w7) := Lib.hid (by
        have h1 := Below.grown (HB.out.alloc HB.out.size (.cells #[.int .i64 (g.cur.regs q)] 2)) hgrow7 (by simp; omega) (fun y hy => (HO.out.lt y hy).1)
        exact h1)
      have HO7 : Hid (w7.ownsRow w1.heap.size 2 1 (.slice (some ⟨g7, 0, none⟩) ((argsV g.cur.regs (x.args.take k)).length + 1) cap) (argsV g.cur.regs (x.args.take (k + 1))).length ((argsV g.cur.regs (x.args.take (k + 1))).map (Value.int .i64))) := Lib.hid (by rw [HTK.out, List.length_append, List.map_append]; exact hown7)
      clear hown7 hgrow7 hloc7 hlt7
      go_wp2_with fail
      go_roundw
      case rel => exact ⟨k + 1, _, by omega, rfl, by go_num, HO7.out, HB7.out⟩
      case measure => simp [intOf]; omega
    · obtain rfl : k = x.args.length := by omega
      rw [List.take_of_length_le (Nat.le_refl _)] at ho
      have HOL := Lib.hid ho
      have d0 := kept_of_below hb _ _ HC.out.1
      have d1 := kept_of_below hb _ _ HC.out.2.1
      have d3 := kept_of_below hb _ _ HC.out.2.2.2.1
      have d4 := kept_of_below hb _ _ HC.out.2.2.2.2
      have HM2 := Lib.hid (HM1.out.below hb)
      have HV2 : Hid (Mv (fun b => b = R) P w wr vo vo) := Lib.hid (HV1.out.trans (Mv.of_below _ P vo hb))
      have HR2 := Lib.hid (HR1.out.go (Mv.of_below NoX P vo hb) HM1.out.pk (fun e => e))
      have HLE : Hid (K ≤ w1.heap.size) := Lib.hid HM1.out.kw
      obtain ⟨w2, rfl⟩ : ∃ w2, w2 = wr := ⟨wr, rfl⟩
      clear ho hb HO HB HM1 HV1 HR1 HA1 HC
      have hol := HOL.out
      rw [HAV.out] at hol
      obtain ⟨ga, ca, rfl, hac, hag⟩ := own_cells hol (by simp)
      have c0 : w2.cell? ⟨ga, 0, none⟩ = some (.int .i64 a0) := hac 0 _ rfl
      clear hac hol
      simp only [List.length_cons, List.length_nil, Nat.zero_add]
      by_cases hrg : 0 ≤ a0 ∧ a0 < 64
      · obtain ⟨k, hk⟩ : ∃ k : Nat, a0 = k := ⟨a0.toNat, by omega⟩
        have hk64 : k < 64 := by omega
        have HE2 : Hid (doS g x = setR g d (g.mem k)) := Lib.hid (by rw [HE.out, if_pos hrg, hk]; rfl)
        rw [hk] at c0
        have cm := HM2.out.word hk64
        have h1 : ¬ ((k : Int) < 0) := by omega
        have h2 : ¬ ((k : Int) > 63) := by omega
        have h3 : decide ((k : Int) < 0) = false := decide_eq_false h1
        have h4 : decide ((k : Int) > 63) = false := decide_eq_false h2
        have hk0 : (0 : Int) ≤ k := by omega
        have hk1 : (k : Int) < 64 := by omega
        have xd := HR2.out.row.cell hdn1
        have fd := HR2.out.row.frozen d
        have hd0 : (0 : Int) ≤ d := by omega
        have hd1 : (d : Int) < n := by omega
        rw [HD.out] at d1
        have HMEM := Lib.hid (HM2.out.m64 k)
        have HOFF := Lib.hid (((HM2.out.off HR2.out.ge HR2.out.ap d (.int .i64 (g.mem k)))).below (Below.refl _ _))
        clear hrg hk
        go_upto_region 19 with fail
        refine wp_region_last (L := 13) (S := fun w' => w'.cell? ⟨N, 1, none⟩ = some (.int .i64 (d : Int)) ∧ w'.cell? ⟨ga, 0, none⟩ = some (.int .i64 (k : Int)) ∧ w'.cell? ⟨P, 7 + k, none⟩ = some (.int .i64 (g.mem k))) (by kernel_rfl) (by rfl) (by kernel_rfl) (by kernel_rfl) ?_
        change wpAnyH _ _ _ _ _ _ _ _ (World.drew _)
        have hS0 : w2.drew.cell? ⟨N, 1, none⟩ = some (.int .i64 (d : Int)) ∧ w2.drew.cell? ⟨ga, 0, none⟩ = some (.int .i64 (k : Int)) ∧ w2.drew.cell? ⟨P, 7 + k, none⟩ = some (.int .i64 (g.mem k)) := ⟨d1, c0, cm⟩
        clear d1 c0 cm
        refine takeH (i := 0) (some 75) (v := ?_) rfl (by kernel_rfl) (by kernel_rfl) (by kernel_rfl) (fun _ _ _ h => h) hS0 (fun o ho => ?_) ?_
        rotate_left
        · simp only [List.getElem?_toArray, List.getElem?_cons_zero, Option.some.injEq] at ho; subst ho; refine Or.inl ⟨by rfl, fun w' hSw => ?_⟩; (try dsimp only at hSw); go_simp; try with_reducible rfl
        simp only [Act.put, List.setIfInBounds_toArray, List.set_cons_zero, List.set_cons_succ]
        refine takeH (i := 1) (some 76) (v := ?_) rfl (by kernel_rfl) (by kernel_rfl) (by kernel_rfl) (fun _ _ _ h => h) hS0 (fun o ho => ?_) ?_
        rotate_left
        · simp only [List.getElem?_toArray, List.getElem?_cons_zero, List.getElem?_cons_succ, Option.some.injEq] at ho; subst ho; refine Or.inl ⟨by rfl, fun w' hSw => ?_⟩; (try dsimp only at hSw); go_simp; try with_reducible rfl
        simp only [Act.put, List.setIfInBounds_toArray, List.set_cons_zero, List.set_cons_succ]
        refine takeH (i := 2) (some 77) (v := ?_) rfl (by kernel_rfl) (by kernel_rfl) (by kernel_rfl) (fun _ _ _ h => h) hS0 (fun o ho => ?_) ?_
        rotate_left
        · simp only [List.getElem?_toArray, List.getElem?_cons_zero, List.getElem?_cons_succ, Option.some.injEq] at ho; subst ho; refine Or.inl ⟨by rfl, fun w' hSw => ?_⟩; (try dsimp only at hSw); go_simp; try with_reducible rfl
        simp only [Act.put, List.setIfInBounds_toArray, List.set_cons_zero, List.set_cons_succ]
        refine takeH (i := 3) (some 78) (v := ?_) rfl (by kernel_rfl) (by kernel_rfl) (by kernel_rfl) (fun _ _ _ h => h) hS0 (fun o ho => ?_) ?_
        rotate_left
        · simp only [List.getElem?_toArray, List.getElem?_cons_zero, List.getElem?_cons_succ, Option.some.injEq] at ho; subst ho; refine Or.inl ⟨by rfl, fun w' hSw => ?_⟩; (try dsimp only at hSw); go_simp; try with_reducible rfl
        simp only [Act.put, List.setIfInBounds_toArray, List.set_cons_zero, List.set_cons_succ]
        refine takeH (i := 4) (some 79) (v := ?_) rfl (by kernel_rfl) (by kernel_rfl) (by kernel_rfl) (fun _ _ _ h => h) hS0 (fun o ho => ?_) ?_
        rotate_left
        · simp only [List.getElem?_toArray, List.getElem?_cons_zero, List.getElem?_cons_succ, Option.some.injEq] at ho; subst ho; refine Or.inl ⟨by rfl, fun w' hSw => ?_⟩; (try dsimp only at hSw); go_simp; try with_reducible rfl
        simp only [Act.put, List.setIfInBounds_toArray, List.set_cons_zero, List.set_cons_succ]
        refine takeH (i := 5) (some 80) (v := ?_) rfl (by kernel_rfl) (by kernel_rfl) (by kernel_rfl) (fun _ _ _ h => h) hS0 (fun o ho => ?_) ?_
        rotate_left
        · simp only [List.getElem?_toArray, List.getElem?_cons_zero, List.getElem?_cons_succ, Option.some.injEq] at ho; subst ho; refine Or.inl ⟨by rfl, fun w' hSw => ?_⟩; (try dsimp only at hSw); go_simp; try with_reducible rfl
        simp only [Act.put, List.setIfInBounds_toArray, List.set_cons_zero, List.set_cons_succ]
        refine takeH (i := 6) (some 81) (v := ?_) rfl (by kernel_rfl) (by kernel_rfl) (by kernel_rfl) (fun _ _ _ h => h) hS0 (fun o ho => ?_) ?_
        rotate_left
        · simp only [List.getElem?_toArray, List.getElem?_cons_zero, List.getElem?_cons_succ, Option.some.injEq] at ho; subst ho; refine Or.inl ⟨by rfl, fun w' hSw => ?_⟩; (try dsimp only at hSw); go_simp; try with_reducible rfl
        simp only [Act.put, List.setIfInBounds_toArray, List.set_cons_zero, List.set_cons_succ]
        refine takeH (i := 7) (some 82) (v := ?_) rfl (by kernel_rfl) (by kernel_rfl) (by kernel_rfl) (fun _ _ _ h => h) hS0 (fun o ho => ?_) ?_
        rotate_left
        · simp only [List.getElem?_toArray, List.getElem?_cons_zero, List.getElem?_cons_succ, Option.some.injEq] at ho; subst ho; refine Or.inl ⟨by rfl, fun w' hSw => ?_⟩; (try dsimp only at hSw); go_simp; try with_reducible rfl
        simp only [Act.put, List.setIfInBounds_toArray, List.set_cons_zero, List.set_cons_succ]
        refine takeH (i := 8) (some 83) (v := ?_) rfl (by kernel_rfl) (by kernel_rfl) (by kernel_rfl) (fun _ _ _ h => h) hS0 (fun o ho => ?_) ?_
        rotate_left
        · simp only [List.getElem?_toArray, List.getElem?_cons_zero, List.getElem?_cons_succ, Option.some.injEq] at ho; subst ho; refine Or.inl ⟨by rfl, fun w' hSw => ?_⟩; (try dsimp only at hSw); go_simp; try with_reducible rfl
        simp only [Act.put, List.setIfInBounds_toArray, List.set_cons_zero, List.set_cons_succ]
        refine takeH (i := 9) (some 84) (v := ?_) rfl (by kernel_rfl) (by kernel_rfl) (by kernel_rfl) (fun _ _ _ h => h) hS0 (fun o ho => ?_) ?_
        rotate_left
        · simp only [List.getElem?_toArray, List.getElem?_cons_zero, List.getElem?_cons_succ, Option.some.injEq] at ho; subst ho; refine Or.inl ⟨by rfl, fun w' hSw => ?_⟩; (try dsimp only at hSw); go_simp; try with_reducible rfl
        simp only [Act.put, List.setIfInBounds_toArray, List.set_cons_zero, List.set_cons_succ]
        refine takeH (i := 10) (some 85) (v := ?_) rfl (by kernel_rfl) (by kernel_rfl) (by kernel_rfl) (fun _ _ _ h => h) hS0 (fun o ho => ?_) ?_
        rotate_left
        · simp only [List.getElem?_toArray, List.getElem?_cons_zero, List.getElem?_cons_succ, Option.some.injEq] at ho; subst ho; refine Or.inl ⟨by rfl, fun w' hSw => ?_⟩; (try dsimp only at hSw); go_simp; try with_reducible rfl
        simp only [Act.put, List.setIfInBounds_toArray, List.set_cons_zero, List.set_cons_succ]
        refine takeH (i := 11) (some 86) (v := ?_) rfl (by kernel_rfl) (by kernel_rfl) (by kernel_rfl) (fun _ _ _ h => h) hS0 (fun o ho => ?_) ?_
        rotate_left
        · simp only [List.getElem?_toArray, List.getElem?_cons_zero, List.getElem?_cons_succ, Option.some.injEq] at ho; subst ho; refine Or.inl ⟨by rfl, fun w' hSw => ?_⟩; (try dsimp only at hSw); go_simp; try with_reducible rfl
        simp only [Act.put, List.setIfInBounds_toArray, List.set_cons_zero, List.set_cons_succ]
        refine takeH (i := 12) (some 87) (v := ?_) rfl (by kernel_rfl) (by kernel_rfl) (by kernel_rfl) (fun _ _ _ h => h) hS0 (fun o ho => ?_) ?_
        rotate_left
        · simp only [List.getElem?_toArray, List.getElem?_cons_zero, List.getElem?_cons_succ, Option.some.injEq] at ho; subst ho; refine Or.inl ⟨by rfl, fun w' hSw => ?_⟩; (try dsimp only at hSw); go_simp; try with_reducible rfl
        simp only [Act.put, List.setIfInBounds_toArray, List.set_cons_zero, List.set_cons_succ]
        refine wpAnyH_done (by kernel_rfl) ?_ _
        refine lastH (by decide) (fun o ho K' hK => ?_)
        simp only [List.getElem?_toArray, List.getElem?_cons_zero, List.getElem?_cons_succ, Option.some.injEq] at ho; subst ho
        go_simp
        refine hK.out _ _ ?_
        clear hK K' hS0
        clear xd fd d0 d2 d3 d4
        go_wp2_with fail
        go_ret
        have hM3 : RfM K P m most w2.drew g vf vo := HM2.out.below (Below.refl _ _).drew
        have hR3 : FrR K P R n w2.drew vo g.cur.regs := HR2.out.go (Mv.of_below NoX P vo (Below.refl _ _).drew) HM2.out.pk (fun e => e)
        have hv := (Mv.of_below (fun b => b = R) P vo (Below.refl w2.heap.size w2).drew).trans (Mv.set (fun b => b = R) P vo w2.drew (p := ⟨R, d, none⟩) (.inr rfl) (.int .i64 (g.mem k)))
        exact IPost.plain HE2.out hdn rfl rfl hsm rfl rfl rfl ((hM3.off hR3.ge hR3.ap d _).ghost ⟨rfl, rfl, rfl, rfl, rfl, rfl⟩) (hR3.set d HMEM.out) (HV2.out.trans hv)
      · have HE2 : Hid (doS g x = trapS g 2) := Lib.hid (by rw [HE.out, if_neg hrg])
        obtain hlow | hhi : a0 < 0 ∨ (0 ≤ a0 ∧ a0 > 63) := by omega
        · clear hrg
          go_wp2_with fail
          refine (rtrap_any K P m most w2 g vf vo 2 HM2.out).mono ?_
          rintro e w3 ⟨rfl, g1, g2⟩
          go_wp2_with fail
          go_ret
          exact IPost.trap HE2.out g1 (HV2.out.trans (g2.mono fun _ _ h => h.elim))
        · obtain ⟨hh0, hh1⟩ := hhi
          have hh2 : ¬ (a0 < 0) := by omega
          have hh3 : decide (a0 < 0) = false := decide_eq_false hh2
          clear hrg
          go_wp2_with fail
          refine (rtrap_any K P m most w2 g vf vo 2 HM2.out).mono ?_
          rintro e w3 ⟨rfl, g1, g2⟩
          go_wp2_with fail
          go_ret
          exact IPost.trap HE2.out g1 (HV2.out.trans (g2.mono fun _ _ h => h.elim))

set_option maxRecDepth 100000 in
set_option maxHeartbeats 8000000 in
theorem ins_store (K P R n most : Nat) (m : List FunD) (w : World) (g : St) (vf vo : Value) (x : InsD) (Ax : Option Addr) (cx : Nat) (h : RfM K P m most w g vf vo) (hr : FrR K P R n w vo g.cur.regs) (hdn : g.done = false) (hsm : g.steps ≤ most) (hargs : SL w 1 (RIntB (Old K P)) Ax cx x.args)
    (hlen : x.args.length ≤ 1000) (hin : ∀ a ∈ x.args, InR n a) (hn : n ≤ 256) (hi64 : I64 x.imm) (hop : x.op = 16) (hl : x.args.length = 2) :
    Calls Tryz.prog 37 #[.pointer (some ⟨P, 0, none⟩), .slice (some ⟨R, 0, none⟩) n n, .agg #[.int .i64 x.op, .int .i64 x.dst, .slice Ax x.args.length cx, .int .i64 x.imm, .int .i64 x.fn]] w (IPost K P R n m most x g vf vo w) := by
  obtain ⟨i0, p1, p2, p3, p4⟩ := info_parts Tryz.info2
  have HI := Lib.hid (And.intro p1 (And.intro p2 (And.intro p3 p4)))
  clear p1 p2 p3 p4
  have e1 : (x.op == 1) = false := by simp; omega
  have e18 : (x.op == 18) = false := by simp; omega
  have e15 : (x.op == 15) = false := by simp; omega
  have e16 : (x.op == 16) = true := by simp; omega
  have e17 : (x.op == 17) = false := by simp; omega
  obtain ⟨a0, a1, hav⟩ := len_two (show (argsV g.cur.regs x.args).length = 2 by rw [argsV_len, hl])
  have hb64 : I64 a1 := argsV_i64 hr.r64 x.args a1 (by rw [hav]; simp)
  have HAV := Lib.hid hav
  have HE : Hid (doS g x = if 0 ≤ a0 ∧ a0 < 64 then { g with mem := upd g.mem a0.toNat a1 } else trapS g 2) := Lib.hid (by
    unfold doS wordB; rw [if_neg (by omega), if_neg (by omega), if_pos hop, hav]; simp)
  clear hop hav hl
  go_enter Tryz.func37, Tryz.ntmps37
  go_upto_region 1 with fail
  obtain ⟨w1, hw1, hs1, hk1, hbel1, hc1, -⟩ := named w #[.int .i64 x.op, .int .i64 x.dst, .slice Ax x.args.length cx, .int .i64 x.imm, .int .i64 x.fn] 54
  rw [← hw1]
  obtain ⟨N, hN⟩ : ∃ N, N = w.heap.size := ⟨_, rfl⟩
  rw [← hN] at hc1 hs1 ⊢
  have b0 : w1.cell? ⟨N, 0, none⟩ = some (.int .i64 x.op) := hc1 0 _ rfl
  have b1 : w1.cell? ⟨N, 1, none⟩ = some (.int .i64 x.dst) := hc1 1 _ rfl
  have b2 : w1.cell? ⟨N, 2, none⟩ = some (.slice Ax x.args.length cx) := hc1 2 _ rfl
  have b3 : w1.cell? ⟨N, 3, none⟩ = some (.int .i64 x.imm) := hc1 3 _ rfl
  have b4 : w1.cell? ⟨N, 4, none⟩ = some (.int .i64 x.fn) := hc1 4 _ rfl
  have HC := Lib.hid (And.intro b0 (And.intro b1 (And.intro b2 (And.intro b3 b4))))
  have HM1 := Lib.hid (h.below hbel1)
  have HR1 := Lib.hid (hr.go (Mv.of_below NoX P vo hbel1) h.pk (fun e => e))
  have HA1 : Hid (SL w1 1 (RIntB (Old K P)) Ax cx x.args) := Lib.hid (SL.imp (RIntB.go (fun a v _ ha => hk1 _ _ ha) (fun _ h => h)) hargs)
  have HV1 : Hid (Mv (fun b => b = R) P w w1 vo vo) := Lib.hid (Mv.of_below _ P vo hbel1)
  have HIN := Lib.hid hin
  clear hw1 hs1 hk1 hbel1 hc1 h hr hargs hin hN b0 b1 b2 b3 b4
  go_wp2_with fail
  go_loopw [7, 8] (fun s7 s8 wq => ∃ (k : Nat) (v : Value), k ≤ x.args.length ∧ v = s7 ∧ s8 = .int .i64 (k : Int) ∧ wq.ownsRow w1.heap.size 2 1 v (argsV g.cur.regs (x.args.take k)).length ((argsV g.cur.regs (x.args.take k)).map (Value.int .i64)) ∧ Below w1.heap.size w1 wq) (fun s7 s8 _ => x.args.length - (intOf s8).toNat)
  case atStart => exact ⟨0, _, Nat.zero_le _, rfl, rfl, World.ownsRow_nil _ _ _ _, Below.refl _ _⟩
  case round =>
    obtain ⟨k, v, hk, rfl, rfl, ho, hb⟩ := hrel
    have HO := Lib.hid ho
    have HB := Lib.hid hb
    have d2 := kept_of_below hb _ _ HC.out.2.2.1
    by_cases hkl : k < x.args.length
    · obtain ⟨bx, ox, a, rfl, ha, -, hac, -⟩ := HA1.out.at_ hkl
      obtain ⟨q, rfl⟩ : ∃ q : Nat, a = q := ⟨a.toNat, by have := (HIN.out a (List.mem_of_getElem? ha.out)).1; omega⟩
      have hqn : q < n := by have := (HIN.out _ (List.mem_of_getElem? ha.out)).2; omega
      have xa : wr.cell? ⟨bx, ox + k, none⟩ = some (.int .i64 (q : Int)) := by rw [Nat.mul_one] at hac; exact kept_of_below hb _ _ hac
      have xr := kept_of_below hb _ _ (HR1.out.row.cell hqn)
      have hk0 : (0 : Int) ≤ k := by omega
      have hk1 : (k : Int) < x.args.length := by omega
      have hq0 : (0 : Int) ≤ q := by omega
      have hq1 : (q : Int) < n := by omega
      have HTK : Hid (argsV g.cur.regs (x.args.take (k + 1)) = argsV g.cur.regs (x.args.take k) ++ [g.cur.regs q]) := Lib.hid (by
        rw [List.take_add_one, ha.out]; unfold argsV; rw [List.map_append]; simp)
      have hll : (argsV g.cur.regs (x.args.take k)).length ≤ 1000 := by rw [argsV_len, List.length_take]; omega
      have hz := hb.size
      clear ho hb hac ha
      go_wp2_with (at_builtin; refine wpList_append_lies _ rfl (.tmp 20) (.tmp 29) 25 rfl w1.heap.size 2 i0 (.int .i64 0) 1 8 Tryz.underlying25 HI.out.1 HI.out.2.1 HI.out.2.2.1 HI.out.2.2.2 rfl (by decide) v _ _ rfl (HO.out.alloc _) ⟨wr.heap.size, 0, none⟩ 1 1 [.int .i64 (g.cur.regs q)] rfl rfl ?e1 ?e2 ?e0 ?e3 ?e4 ?e5 (wr.heap.size + 1) ?e6 ?_)
      case e1 => exact news_one_add wr _ _ rfl
      case e2 => exact ints_oneCell .i64 [(g.cur.regs q)]
      case e0 => omega
      case e3 => unfold maxLen; omega
      case e4 => omega
      case e5 => simp; omega
      case e6 => simp
      intro g7 cap w7 hown7 hgrow7 hloc7 hlt7
      have HB7 : Hid (Below w1.heap.size w1 w7) := Lib.hid (by
        have h1 := Below.grown (HB.out.alloc HB.out.size (.cells #[.int .i64 (g.cur.regs q)] 2)) hgrow7 (by simp; omega) (fun y hy => (HO.out.lt y hy).1)
        exact h1)
      have HO7 : Hid (w7.ownsRow w1.heap.size 2 1 (.slice (some ⟨g7, 0, none⟩) ((argsV g.cur.regs (x.args.take k)).length + 1) cap) (argsV g.cur.regs (x.args.take (k + 1))).length ((argsV g.cur.regs (x.args.take (k + 1))).map (Value.int .i64))) := Lib.hid (by rw [HTK.out, List.length_append, List.map_append]; exact hown7)
      clear hown7 hgrow7 hloc7 hlt7
      go_wp2_with fail
      go_roundw
      case rel => exact ⟨k + 1, _, by omega, rfl, by go_num, HO7.out, HB7.out⟩
      case measure => simp [intOf]; omega
    · obtain rfl : k = x.args.length := by omega
      rw [List.take_of_length_le (Nat.le_refl _)] at ho
      have HOL := Lib.hid ho
      have d0 := kept_of_below hb _ _ HC.out.1
      have d1 := kept_of_below hb _ _ HC.out.2.1
      have d3 := kept_of_below hb _ _ HC.out.2.2.2.1
      have d4 := kept_of_below hb _ _ HC.out.2.2.2.2
      have HM2 := Lib.hid (HM1.out.below hb)
      have HV2 : Hid (Mv (fun b => b = R) P w wr vo vo) := Lib.hid (HV1.out.trans (Mv.of_below _ P vo hb))
      have HR2 := Lib.hid (HR1.out.go (Mv.of_below NoX P vo hb) HM1.out.pk (fun e => e))
      have HLE : Hid (K ≤ w1.heap.size) := Lib.hid HM1.out.kw
      obtain ⟨w2, rfl⟩ : ∃ w2, w2 = wr := ⟨wr, rfl⟩
      clear ho hb HO HB HM1 HV1 HR1 HA1 HC
      have hol := HOL.out
      rw [HAV.out] at hol
      obtain ⟨ga, ca, rfl, hac, hag⟩ := own_cells hol (by simp)
      have c0 : w2.cell? ⟨ga, 0, none⟩ = some (.int .i64 a0) := hac 0 _ rfl
      have c1 : w2.cell? ⟨ga, 1, none⟩ = some (.int .i64 a1) := hac 1 _ rfl
      clear hac hol
      simp only [List.length_cons, List.length_nil, Nat.zero_add, Nat.reduceAdd]
      by_cases hrg : 0 ≤ a0 ∧ a0 < 64
      · obtain ⟨k, hk⟩ : ∃ k : Nat, a0 = k := ⟨a0.toNat, by omega⟩
        have hk64 : k < 64 := by omega
        have HE2 : Hid (doS g x = { g with mem := upd g.mem k a1 }) := Lib.hid (by rw [HE.out, if_pos hrg, hk]; rfl)
        rw [hk] at c0
        have cm := HM2.out.word hk64
        have fm := HM2.out.free (7 + k)
        have h1 : ¬ ((k : Int) < 0) := by omega
        have h2 : ¬ ((k : Int) > 63) := by omega
        have h3 : decide ((k : Int) < 0) = false := decide_eq_false h1
        have h4 : decide ((k : Int) > 63) = false := decide_eq_false h2
        have hk0 : (0 : Int) ≤ k := by omega
        have hk1 : (k : Int) < 64 := by omega
        clear hrg hk
        go_upto_region 20 with fail
        refine wp_region_last (L := 11) (S := fun w' => w'.cell? ⟨ga, 0, none⟩ = some (.int .i64 (k : Int)) ∧ w'.cell? ⟨ga, 1, none⟩ = some (.int .i64 a1)) (by kernel_rfl) (by rfl) (by kernel_rfl) (by kernel_rfl) ?_
        change wpAnyH _ _ _ _ _ _ _ _ (World.drew _)
        have hS0 : w2.drew.cell? ⟨ga, 0, none⟩ = some (.int .i64 (k : Int)) ∧ w2.drew.cell? ⟨ga, 1, none⟩ = some (.int .i64 a1) := ⟨c0, c1⟩
        clear c0 c1
        refine takeH (i := 0) (some 88) (v := ?_) rfl (by kernel_rfl) (by kernel_rfl) (by kernel_rfl) (fun _ _ _ h => h) hS0 (fun o ho => ?_) ?_
        rotate_left
        · simp only [List.getElem?_toArray, List.getElem?_cons_zero, Option.some.injEq] at ho; subst ho; refine Or.inl ⟨by rfl, fun w' hSw => ?_⟩; (try dsimp only at hSw); go_simp; try with_reducible rfl
        simp only [Act.put, List.setIfInBounds_toArray, List.set_cons_zero, List.set_cons_succ]
        refine takeH (i := 1) (some 89) (v := ?_) rfl (by kernel_rfl) (by kernel_rfl) (by kernel_rfl) (fun _ _ _ h => h) hS0 (fun o ho => ?_) ?_
        rotate_left
        · simp only [List.getElem?_toArray, List.getElem?_cons_zero, List.getElem?_cons_succ, Option.some.injEq] at ho; subst ho; refine Or.inl ⟨by rfl, fun w' hSw => ?_⟩; (try dsimp only at hSw); go_simp; try with_reducible rfl
        simp only [Act.put, List.setIfInBounds_toArray, List.set_cons_zero, List.set_cons_succ]
        refine takeH (i := 2) (some 90) (v := ?_) rfl (by kernel_rfl) (by kernel_rfl) (by kernel_rfl) (fun _ _ _ h => h) hS0 (fun o ho => ?_) ?_
        rotate_left
        · simp only [List.getElem?_toArray, List.getElem?_cons_zero, List.getElem?_cons_succ, Option.some.injEq] at ho; subst ho; refine Or.inl ⟨by rfl, fun w' hSw => ?_⟩; (try dsimp only at hSw); go_simp; try with_reducible rfl
        simp only [Act.put, List.setIfInBounds_toArray, List.set_cons_zero, List.set_cons_succ]
        refine takeH (i := 3) (some 91) (v := ?_) rfl (by kernel_rfl) (by kernel_rfl) (by kernel_rfl) (fun _ _ _ h => h) hS0 (fun o ho => ?_) ?_
        rotate_left
        · simp only [List.getElem?_toArray, List.getElem?_cons_zero, List.getElem?_cons_succ, Option.some.injEq] at ho; subst ho; refine Or.inl ⟨by rfl, fun w' hSw => ?_⟩; (try dsimp only at hSw); go_simp; try with_reducible rfl
        simp only [Act.put, List.setIfInBounds_toArray, List.set_cons_zero, List.set_cons_succ]
        refine takeH (i := 4) (some 92) (v := ?_) rfl (by kernel_rfl) (by kernel_rfl) (by kernel_rfl) (fun _ _ _ h => h) hS0 (fun o ho => ?_) ?_
        rotate_left
        · simp only [List.getElem?_toArray, List.getElem?_cons_zero, List.getElem?_cons_succ, Option.some.injEq] at ho; subst ho; refine Or.inl ⟨by rfl, fun w' hSw => ?_⟩; (try dsimp only at hSw); go_simp; try with_reducible rfl
        simp only [Act.put, List.setIfInBounds_toArray, List.set_cons_zero, List.set_cons_succ]
        refine takeH (i := 5) (some 93) (v := ?_) rfl (by kernel_rfl) (by kernel_rfl) (by kernel_rfl) (fun _ _ _ h => h) hS0 (fun o ho => ?_) ?_
        rotate_left
        · simp only [List.getElem?_toArray, List.getElem?_cons_zero, List.getElem?_cons_succ, Option.some.injEq] at ho; subst ho; refine Or.inl ⟨by rfl, fun w' hSw => ?_⟩; (try dsimp only at hSw); go_simp; try with_reducible rfl
        simp only [Act.put, List.setIfInBounds_toArray, List.set_cons_zero, List.set_cons_succ]
        refine takeH (i := 6) (some 94) (v := ?_) rfl (by kernel_rfl) (by kernel_rfl) (by kernel_rfl) (fun _ _ _ h => h) hS0 (fun o ho => ?_) ?_
        rotate_left
        · simp only [List.getElem?_toArray, List.getElem?_cons_zero, List.getElem?_cons_succ, Option.some.injEq] at ho; subst ho; refine Or.inl ⟨by rfl, fun w' hSw => ?_⟩; (try dsimp only at hSw); go_simp; try with_reducible rfl
        simp only [Act.put, List.setIfInBounds_toArray, List.set_cons_zero, List.set_cons_succ]
        refine takeH (i := 7) (some 95) (v := ?_) rfl (by kernel_rfl) (by kernel_rfl) (by kernel_rfl) (fun _ _ _ h => h) hS0 (fun o ho => ?_) ?_
        rotate_left
        · simp only [List.getElem?_toArray, List.getElem?_cons_zero, List.getElem?_cons_succ, Option.some.injEq] at ho; subst ho; refine Or.inl ⟨by rfl, fun w' hSw => ?_⟩; (try dsimp only at hSw); go_simp; try with_reducible rfl
        simp only [Act.put, List.setIfInBounds_toArray, List.set_cons_zero, List.set_cons_succ]
        refine takeH (i := 8) (some 96) (v := ?_) rfl (by kernel_rfl) (by kernel_rfl) (by kernel_rfl) (fun _ _ _ h => h) hS0 (fun o ho => ?_) ?_
        rotate_left
        · simp only [List.getElem?_toArray, List.getElem?_cons_zero, List.getElem?_cons_succ, Option.some.injEq] at ho; subst ho; refine Or.inl ⟨by rfl, fun w' hSw => ?_⟩; (try dsimp only at hSw); go_simp; try with_reducible rfl
        simp only [Act.put, List.setIfInBounds_toArray, List.set_cons_zero, List.set_cons_succ]
        refine takeH (i := 9) (some 97) (v := ?_) rfl (by kernel_rfl) (by kernel_rfl) (by kernel_rfl) (fun _ _ _ h => h) hS0 (fun o ho => ?_) ?_
        rotate_left
        · simp only [List.getElem?_toArray, List.getElem?_cons_zero, List.getElem?_cons_succ, Option.some.injEq] at ho; subst ho; refine Or.inl ⟨by rfl, fun w' hSw => ?_⟩; (try dsimp only at hSw); go_simp; try with_reducible rfl
        simp only [Act.put, List.setIfInBounds_toArray, List.set_cons_zero, List.set_cons_succ]
        refine takeH (i := 10) (some 98) (v := ?_) rfl (by kernel_rfl) (by kernel_rfl) (by kernel_rfl) (fun _ _ _ h => h) hS0 (fun o ho => ?_) ?_
        rotate_left
        · simp only [List.getElem?_toArray, List.getElem?_cons_zero, List.getElem?_cons_succ, Option.some.injEq] at ho; subst ho; refine Or.inl ⟨by rfl, fun w' hSw => ?_⟩; (try dsimp only at hSw); go_simp; try with_reducible rfl
        simp only [Act.put, List.setIfInBounds_toArray, List.set_cons_zero, List.set_cons_succ]
        refine wpAnyH_done (by kernel_rfl) ?_ _
        refine lastH (by decide) (fun o ho K' hK => ?_)
        simp only [List.getElem?_toArray, List.getElem?_cons_zero, List.getElem?_cons_succ, Option.some.injEq] at ho; subst ho
        go_simp
        refine hK.out _ _ ?_
        clear hK K' hS0
        clear cm fm d0 d1 d2 d3 d4
        go_wp2_with fail
        go_ret
        have hM3 : RfM K P m most w2.drew g vf vo := HM2.out.below (Below.refl _ _).drew
        have hR3 : FrR K P R n w2.drew vo g.cur.regs := HR2.out.go (Mv.of_below NoX P vo (Below.refl _ _).drew) HM2.out.pk (fun e => e)
        have hv1 := Mv.set NoX P vo w2.drew (p := ⟨P, 7 + k, none⟩) (.inl rfl) (.int .i64 a1)
        have hv := (Mv.of_below (fun b => b = R) P vo (Below.refl w2.heap.size w2).drew).trans (hv1.mono fun _ _ h => h.elim)
        have hM4 : RfM K P m most (w2.drew.setCell ⟨P, 7 + k, none⟩ (.int .i64 a1)) { g with mem := upd g.mem k a1 } vf vo := hM3.set (by omega) (by rw [show 261 + (7 + k) = 268 + k by omega]; exact set_mem g (qo vo) k a1 hk64) rfl (upd_i64 hM3.m64 k hb64)
        exact IPost.plain HE2.out hdn rfl rfl hsm rfl rfl rfl hM4 (hR3.go hv1 hM3.pk (fun e => e)) (HV2.out.trans hv)
      · have HE2 : Hid (doS g x = trapS g 2) := Lib.hid (by rw [HE.out, if_neg hrg])
        obtain hlow | hhi : a0 < 0 ∨ (0 ≤ a0 ∧ a0 > 63) := by omega
        · clear hrg
          go_wp2_with fail
          refine (rtrap_any K P m most w2 g vf vo 2 HM2.out).mono ?_
          rintro e w3 ⟨rfl, g1, g2⟩
          go_wp2_with fail
          go_ret
          exact IPost.trap HE2.out g1 (HV2.out.trans (g2.mono fun _ _ h => h.elim))
        · obtain ⟨hh0, hh1⟩ := hhi
          have hh2 : ¬ (a0 < 0) := by omega
          have hh3 : decide (a0 < 0) = false := decide_eq_false hh2
          clear hrg
          go_wp2_with fail
          refine (rtrap_any K P m most w2 g vf vo 2 HM2.out).mono ?_
          rintro e w3 ⟨rfl, g1, g2⟩
          go_wp2_with fail
          go_ret
          exact IPost.trap HE2.out g1 (HV2.out.trans (g2.mono fun _ _ h => h.elim))
end Go.Proofs.YtooblmiffgjmjaaGreatDoor
