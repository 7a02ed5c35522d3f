/- An instruction is done: constants, what is reckoned. (Written by gen/genmack.py.) -/
import Derived.Test.YtoidhjmhakajlaaMacJ
namespace Go.Proofs.Ytoidhjmhakajlaa
open Go.ChangeShapes Go.WideShapes Go.RowKit Go.Deep
set_option linter.unusedVariables false

set_option maxRecDepth 100000 in
set_option maxHeartbeats 8000000 in
theorem do_const (K P : Nat) (m : List FunD) (w : World) (s : St) (rd : List Int) (x : InsD) (Ax : Option Addr) (cx : Nat) (h : Mac K P m w s rd) (hargs : SL w 1 (RIntB (Old K P)) Ax cx x.args) (hlen : x.args.length ≤ 1000) (hin : ∀ r ∈ x.args, InR 256 r)
    (hop : x.op = 1) (hdst : InR 256 x.dst) :
    Calls Try.prog 56 #[.pointer (some ⟨P, 0, none⟩), .agg #[.int .i64 x.op, .int .i64 x.dst, .slice Ax x.args.length cx, .int .i64 x.imm, .int .i64 x.fn]] w (ToldM' K P m w (doS s x)) := by
  obtain ⟨w1, hw1, hs1, hk1, hB1, hc1, hf1⟩ := named w #[.int .i64 x.op, .int .i64 x.dst, .slice Ax x.args.length cx, .int .i64 x.imm, .int .i64 x.fn] 41
  have hm1 := h.below hB1
  have hbb1 := box_bb h hB1
  have hap := apart_new h hB1 (Nat.le_refl _)
  have HRD := Lib.hid (readAll_any K P m w1 s rd x.args (.slice Ax x.args.length cx) hm1 ⟨Ax, cx, rfl, SIntsB.go (KeptB.of hk1) (fun _ h => h) hargs⟩ hlen hin)
  have HAP := Lib.hid hap
  have HC := Lib.hid hc1
  have hwlt : w.heap.size < w1.heap.size := by omega
  have e1 : (x.op == 1) = true := by rw [hop]; rfl
  have e15 : (x.op == 15) = false := by rw [hop]; rfl
  have e16 : (x.op == 16) = false := by rw [hop]; rfl
  have e18 : (x.op == 18) = false := by rw [hop]; rfl
  have e17 : (x.op == 17) = false := by rw [hop]; rfl
  have HE : Hid (doS s x = setR s x.dst x.imm) := Lib.hid (by unfold doS; rw [if_pos hop])
  clear hop
  obtain ⟨d, hd⟩ : ∃ d : Nat, x.dst = d := ⟨x.dst.toNat, by have := hdst.1; omega⟩
  have hd256 : d < 256 := by have := hdst.2; omega
  have hz0 : (0 : Int) ≤ d := by omega
  have hz1 : (d : Int) < 256 := by omega
  have HD := Lib.hid hd
  clear hdst hd
  clear hm1 hap hc1 hf1 hk1 hB1 hs1 hargs hlen hin h
  go_enter Try.func56, Try.ntmps56
  go_wp2_with fail
  rw [← hw1]
  clear hw1
  refine HRD.out.mono ?_
  rintro e w2 ⟨rfl, hm2, hbb2, hfr2⟩
  have hbx : w2.heap[w.heap.size]? = w1.heap[w.heap.size]? := (hfr2.2 w.heap.size hwlt HAP.out).1
  have d0 : w2.cell? ⟨w.heap.size, 0, none⟩ = some (.int .i64 x.op) := (World.cell?_of_block (a := ⟨w.heap.size, 0, none⟩) hbx).trans (HC.out 0 _ rfl)
  have d1 : w2.cell? ⟨w.heap.size, 1, none⟩ = some (.int .i64 x.dst) := (World.cell?_of_block (a := ⟨w.heap.size, 1, none⟩) hbx).trans (HC.out 1 _ rfl)
  have d2 : w2.cell? ⟨w.heap.size, 2, none⟩ = some (.slice Ax x.args.length cx) := (World.cell?_of_block (a := ⟨w.heap.size, 2, none⟩) hbx).trans (HC.out 2 _ rfl)
  have d3 : w2.cell? ⟨w.heap.size, 3, none⟩ = some (.int .i64 x.imm) := (World.cell?_of_block (a := ⟨w.heap.size, 3, none⟩) hbx).trans (HC.out 3 _ rfl)
  have d4 : w2.cell? ⟨w.heap.size, 4, none⟩ = some (.int .i64 x.fn) := (World.cell?_of_block (a := ⟨w.heap.size, 4, none⟩) hbx).trans (HC.out 4 _ rfl)
  have hlt2 : w.heap.size < w2.heap.size := Nat.lt_of_lt_of_le hwlt hfr2.1
  have HAP2 := Lib.hid (hfr2.2 w.heap.size hwlt HAP.out).2
  have HM2 := Lib.hid hm2
  have HBB2 := Lib.hid (hbb1.trans hbb2)
  clear hbx hfr2 hbb2 hbb1 HRD HAP hwlt hm2
  have creg : w2.cell? ⟨P, 3 + d, none⟩ = some (.int .i64 (s.cur.regs d)) := by obtain ⟨q, hb, _⟩ := HM2.out; exact hb.reg hd256
  have freg : w2.frozen? ⟨P, 3 + d, none⟩ = false := by obtain ⟨q, hb, _⟩ := HM2.out; exact hb.free _
  rw [HD.out] at d1
  go_wp2_with fail
  clear d0 d2 d4 e1 e15 e16 e17 e18 hlt2 HC
  go_still_tail 8, (by kernel_rfl)
  change wpList _ _ _ _ _ w2.drew
  clear d1 d3
  go_wp2_with fail
  go_end0
  obtain ⟨z1, z2⟩ := mac_setR HM2.out hd256 x.imm
  exact ⟨rfl, ⟨_, by rw [HE.out, HD.out]; exact z1.drewN 1⟩, (HBB2.out.trans z2).drewN 1⟩

set_option maxRecDepth 100000 in
set_option maxHeartbeats 8000000 in
theorem do_rest (K P : Nat) (m : List FunD) (w : World) (s : St) (rd : List Int) (x : InsD) (Ax : Option Addr) (cx : Nat) (h : Mac K P m w s rd) (hargs : SL w 1 (RIntB (Old K P)) Ax cx x.args) (hlen : x.args.length ≤ 1000) (hin : ∀ r ∈ x.args, InR 256 r)
    (hop : 2 ≤ x.op ∧ x.op ≤ 14) (hl : (x.args.length : Int) = opArity x.op) (hdst : InR 256 x.dst) (hv : VIns w (.agg #[.int .i64 x.op, .int .i64 x.dst, .slice Ax x.args.length cx, .int .i64 x.imm, .int .i64 x.fn]) x) :
    Calls Try.prog 56 #[.pointer (some ⟨P, 0, none⟩), .agg #[.int .i64 x.op, .int .i64 x.dst, .slice Ax x.args.length cx, .int .i64 x.imm, .int .i64 x.fn]] w (ToldM' K P m w (doS s x)) := by
  obtain ⟨w1, hw1, hs1, hk1, hB1, hc1, hf1⟩ := named w #[.int .i64 x.op, .int .i64 x.dst, .slice Ax x.args.length cx, .int .i64 x.imm, .int .i64 x.fn] 41
  have hm1 := h.below hB1
  have hbb1 := box_bb h hB1
  have hap := apart_new h hB1 (Nat.le_refl _)
  have HRD := Lib.hid (readAll_any K P m w1 s rd x.args (.slice Ax x.args.length cx) hm1 ⟨Ax, cx, rfl, SIntsB.go (KeptB.of hk1) (fun _ h => h) hargs⟩ hlen hin)
  have HAP := Lib.hid hap
  have HC := Lib.hid hc1
  have hwlt : w.heap.size < w1.heap.size := by omega
  have HARG := Lib.hid hargs
  have e1 : (x.op == 1) = false := by rw [beq_eq_false_iff_ne]; omega
  have e15 : (x.op == 15) = false := by rw [beq_eq_false_iff_ne]; omega
  have e16 : (x.op == 16) = false := by rw [beq_eq_false_iff_ne]; omega
  have e18 : (x.op == 18) = false := by rw [beq_eq_false_iff_ne]; omega
  have e17 : (x.op == 17) = false := by rw [beq_eq_false_iff_ne]; omega
  have HE : Hid (doS s x = reckS s x (argsV s.cur.regs x.args)) := Lib.hid (by
    unfold doS reckS; rw [if_neg (by omega), if_neg (by omega), if_neg (by omega), if_neg (by omega), if_neg (by omega)]; cases evalV x.op (argsV s.cur.regs x.args) <;> rfl)
  have HV := Lib.hid hv
  have HOP := Lib.hid hop
  have HL := Lib.hid hl
  have HDST := Lib.hid hdst
  clear hv hop hl hdst
  clear hm1 hap hc1 hf1 hk1 hB1 hs1 hargs hlen hin h
  go_enter Try.func56, Try.ntmps56
  go_wp2_with fail
  rw [← hw1]
  clear hw1
  refine HRD.out.mono ?_
  rintro e w2 ⟨rfl, hm2, hbb2, hfr2⟩
  have hbx : w2.heap[w.heap.size]? = w1.heap[w.heap.size]? := (hfr2.2 w.heap.size hwlt HAP.out).1
  have d0 : w2.cell? ⟨w.heap.size, 0, none⟩ = some (.int .i64 x.op) := (World.cell?_of_block (a := ⟨w.heap.size, 0, none⟩) hbx).trans (HC.out 0 _ rfl)
  have d1 : w2.cell? ⟨w.heap.size, 1, none⟩ = some (.int .i64 x.dst) := (World.cell?_of_block (a := ⟨w.heap.size, 1, none⟩) hbx).trans (HC.out 1 _ rfl)
  have d2 : w2.cell? ⟨w.heap.size, 2, none⟩ = some (.slice Ax x.args.length cx) := (World.cell?_of_block (a := ⟨w.heap.size, 2, none⟩) hbx).trans (HC.out 2 _ rfl)
  have d3 : w2.cell? ⟨w.heap.size, 3, none⟩ = some (.int .i64 x.imm) := (World.cell?_of_block (a := ⟨w.heap.size, 3, none⟩) hbx).trans (HC.out 3 _ rfl)
  have d4 : w2.cell? ⟨w.heap.size, 4, none⟩ = some (.int .i64 x.fn) := (World.cell?_of_block (a := ⟨w.heap.size, 4, none⟩) hbx).trans (HC.out 4 _ rfl)
  have hlt2 : w.heap.size < w2.heap.size := Nat.lt_of_lt_of_le hwlt hfr2.1
  have HAP2 := Lib.hid (hfr2.2 w.heap.size hwlt HAP.out).2
  have HM2 := Lib.hid hm2
  have HBB2 := Lib.hid (hbb1.trans hbb2)
  clear hbx hfr2 hbb2 hbb1 HRD HAP hwlt hm2
  have HVI : Hid (VIns w2 (.agg #[.int .i64 x.op, .int .i64 x.dst, .slice Ax x.args.length cx, .int .i64 x.imm, .int .i64 x.fn]) x) := Lib.hid (by
    obtain ⟨A, c, e, h1, h2⟩ := HV.out
    have h3 := SL.imp (R' := RIntB (Old K P)) (w' := w2) (fun b o y hy => hy) (SIntsB.go (HBB2.out.kept) (fun _ h => h) HARG.out)
    exact ⟨Ax, cx, rfl, SL.imp (fun b o y hy => hy.2) h3, h2⟩)
  go_wp2_with fail
  refine (reckon_any K P m w2 s _ x _ HM2.out HVI.out HOP.out (by rw [argsV_len]; exact HL.out) HDST.out).mono ?_
  rintro e w3 ⟨rfl, g1, g2⟩
  go_wp2_with fail
  go_end0
  exact ⟨rfl, ⟨_, by rw [HE.out]; exact g1⟩, HBB2.out.trans g2⟩

end Go.Proofs.Ytoidhjmhakajlaa
