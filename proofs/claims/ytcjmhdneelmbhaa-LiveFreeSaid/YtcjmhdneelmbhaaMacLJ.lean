/- What an instruction does to the machine's rows; constants, words, what is reckoned. -/
import Derived.Test.YtcjmhdneelmbhaaMacIJ
namespace Go.Proofs.Ytcjmhdneelmbhaa
open Go.ChangeShapes Go.WideShapes Go.RowKit Go.Deep
set_option linter.unusedVariables false

/-- What was put out is another list. -/
theorem mac_out {K P : Nat} {m : List FunD} {w w1 : World} {s : St} {q : MV} {rd out' : List Int} {v' : Value} (hb : MacB P w s q) (he : Env K P w m q) (hd : Dyn K w s q rd) (hP : P < K) (hK : K ≤ w.heap.size)
    (hg : Gro w w1 q.vo v') (hown : w1.ownsRow K 2 1 v' out'.length (out'.map (Value.int .i64))) : Mac K P m (w1.setCell ⟨P, 266, none⟩ v') { s with out := out' } rd ∧ BB K P w (w1.setCell ⟨P, 266, none⟩ v') := by
  obtain ⟨a1, a2, ⟨cc, a3, a4⟩, a5, a6, a7⟩ := hd
  have hPv : q.vo.ownBlock ≠ some P := fun e => by have := (a2.lt P e).1; omega
  have hb1 : MacB P (w1.setCell ⟨P, 266, none⟩ v') { s with out := out' } { q with vo := v' } := (gro_block hg hb hPv).set (set_mid (by omega) (by omega) rfl rfl rfl
    (mid_cases (fun _ => rfl) (fun _ => rfl) (fun _ => rfl) (fun _ => rfl) (fun _ => rfl) (fun _ => rfl) (fun _ => rfl) (fun h => absurd rfl h) (fun _ => rfl)))
  have hS : ∀ k, k < w1.heap.size → k ≠ P → (w1.setCell ⟨P, 266, none⟩ v').heap[k]? = w1.heap[k]? := fun k hk hne => set_others k hk hne
  have hkeep : ∀ {n size : Nat} {e : TypeId} {u : Value} {xs : List Value}, w1.ownsRow K e size u n xs → (w1.setCell ⟨P, 266, none⟩ v').ownsRow K e size u n xs := fun h =>
    owns_keep h (fun g _ hb hl => hS g hl (by omega))
  have hsize := hg.size
  have hsz : (w1.setCell ⟨P, 266, none⟩ v').heap.size = w1.heap.size := by simp [World.setCell]
  refine ⟨⟨{ q with vo := v' }, hb1, env_set he rfl rfl (fun k h1 h2 h3 => (hS k (by omega) h2).trans (hg.block k h3 (fun e => by have := (a2.lt k e).1; omega))),
    ⟨hkeep (owns_of_gro hg a1 a5), hkeep hown, ⟨cc, hkeep (owns_of_gro hg a3 (apart_symm a7)), ?_⟩, apart_of_gro hg a1 a5, a6, apart_symm (apart_of_gro hg a3 (apart_symm a7))⟩, hP, by omega⟩, ?_⟩
  · refine a4.imp fun fr cs hc => CCal.go (fun a v hB hv => ?_) (fun b hB => ⟨hB.1.1, hB.1.2.1, fun e => ?_, hB.1.2.2.2⟩) hc.lt
    · rw [World.cell?_of_block ((hS a.block (by omega) (by omega)).trans (hg.block a.block hB.2 (fun e => hB.1.2.2.1 e.symm)))]; exact hv
    · rcases hg.own b e.symm with h | h
      · exact hB.1.2.2.1 h.symm
      · omega
  · exact BB.setCell (p := ⟨P, 266, none⟩) ⟨hg.os, hg.tape, hg.output, hg.size, fun k hk hne => hg.block k (by omega) (fun e => by have := (a2.lt k e).1; omega)⟩ (.inl rfl) v'
/-- One caller more. -/
theorem mac_push {K P : Nat} {m : List FunD} {w w1 : World} {s : St} {q : MV} {rd l : List Int} {v' : Value} {cc : List Value} {fr : Fr} {A : Option Addr} {cA : Nat} (hb : MacB P w s q) (he : Env K P w m q) (hd : Dyn K w s q rd) (hP : P < K) (hK : K ≤ w.heap.size)
    (hrows : Rows 4 (CCal (fun b => K ≤ b ∧ some b ≠ q.vr.ownBlock ∧ some b ≠ q.vo.ownBlock ∧ some b ≠ q.vc.ownBlock) w) s.stack.reverse cc)
    (hg : Gro w w1 q.vc v') (hown : w1.ownsRow K 153 4 v' (s.stack.length + 1) (cc ++ [.int .i64 fr.fn, .int .i64 fr.blk, .int .i64 fr.at_, .slice A l.length cA]))
    (hs : SL w 1 (RWB (fun b => K ≤ b ∧ some b ≠ q.vr.ownBlock ∧ some b ≠ q.vo.ownBlock ∧ some b ≠ q.vc.ownBlock)) A cA l) (hl : l.length ≤ 256) (hr : ∀ i, fr.regs i = l.getD i 0) :
    Mac K P m (w1.setCell ⟨P, 259, none⟩ v') { s with stack := fr :: s.stack } rd ∧ BB K P w (w1.setCell ⟨P, 259, none⟩ v') := by
  obtain ⟨a1, a2, ⟨cc0, a3, -⟩, a5, a6, a7⟩ := hd
  have hPv : q.vc.ownBlock ≠ some P := fun e => by have := (a3.lt P e).1; omega
  have hb1 : MacB P (w1.setCell ⟨P, 259, none⟩ v') { s with stack := fr :: s.stack } { q with vc := v' } := (gro_block hg hb hPv).set (set_mid (by omega) (by omega) rfl rfl rfl
    (mid_cases (fun h => absurd rfl h) (fun _ => rfl) (fun _ => rfl) (fun _ => rfl) (fun _ => rfl) (fun _ => rfl) (fun _ => rfl) (fun _ => rfl) (fun _ => rfl)))
  have hS : ∀ k, k < w1.heap.size → k ≠ P → (w1.setCell ⟨P, 259, none⟩ v').heap[k]? = w1.heap[k]? := fun k hk hne => set_others k hk hne
  have hkeep : ∀ {n size : Nat} {e : TypeId} {u : Value} {xs : List Value}, w1.ownsRow K e size u n xs → (w1.setCell ⟨P, 259, none⟩ v').ownsRow K e size u n xs := fun h =>
    owns_keep h (fun g _ hb hl => hS g hl (by omega))
  have hsize := hg.size
  have hsz : (w1.setCell ⟨P, 259, none⟩ v').heap.size = w1.heap.size := by simp [World.setCell]
  have hgo : KeptB (fun b => (K ≤ b ∧ some b ≠ q.vr.ownBlock ∧ some b ≠ q.vo.ownBlock ∧ some b ≠ q.vc.ownBlock) ∧ b < w.heap.size) w (w1.setCell ⟨P, 259, none⟩ v') := fun a v hB hv => by
    rw [World.cell?_of_block ((hS a.block (by omega) (by omega)).trans (hg.block a.block hB.2 (fun e => hB.1.2.2.2 e.symm)))]; exact hv
  have hB' : ∀ b, ((K ≤ b ∧ some b ≠ q.vr.ownBlock ∧ some b ≠ q.vo.ownBlock ∧ some b ≠ q.vc.ownBlock) ∧ b < w.heap.size) → (K ≤ b ∧ some b ≠ q.vr.ownBlock ∧ some b ≠ q.vo.ownBlock ∧ some b ≠ v'.ownBlock) := fun b hB =>
    ⟨hB.1.1, hB.1.2.1, hB.1.2.2.1, fun e => by
      rcases hg.own b e.symm with h | h
      · exact hB.1.2.2.2 h.symm
      · omega⟩
  refine ⟨⟨{ q with vc := v' }, hb1, env_set he rfl rfl (fun k h1 h2 h3 => (hS k (by omega) h2).trans (hg.block k h3 (fun e => by have := (a3.lt k e).1; omega))),
    ⟨hkeep (owns_of_gro hg a1 a6), hkeep (owns_of_gro hg a2 a7), ⟨_, hkeep hown, ?_⟩, a5, apart_of_gro hg a1 a6, apart_of_gro hg a2 a7⟩, hP, by omega⟩, ?_⟩
  · show Rows 4 _ (fr :: s.stack).reverse _
    rw [List.reverse_cons]
    have h1 : Rows 4 (CCal (fun b => K ≤ b ∧ some b ≠ q.vr.ownBlock ∧ some b ≠ q.vo.ownBlock ∧ some b ≠ v'.ownBlock) (w1.setCell ⟨P, 259, none⟩ v')) s.stack.reverse cc := hrows.imp fun fr cs hc => CCal.go (fr := fr) (cs := cs) hgo hB' hc.lt
    have h2 : CCal (fun b => K ≤ b ∧ some b ≠ q.vr.ownBlock ∧ some b ≠ q.vo.ownBlock ∧ some b ≠ v'.ownBlock) (w1.setCell ⟨P, 259, none⟩ v') fr [.int .i64 fr.fn, .int .i64 fr.blk, .int .i64 fr.at_, .slice A l.length cA] :=
      ⟨A, cA, l, rfl, SL.imp (RWB.go hgo hB') (SL.imp (fun b o x hx => RWB.lt b o x hx) hs), hl, hr⟩
    exact Rows.snoc h2 rfl h1
  · exact BB.setCell (p := ⟨P, 259, none⟩) ⟨hg.os, hg.tape, hg.output, hg.size, fun k hk hne => hg.block k (by omega) (fun e => by have := (a3.lt k e).1; omega)⟩ (.inl rfl) v'
/-- A word is set. -/
theorem mac_word {K P : Nat} {m : List FunD} {w : World} {s : St} {rd : List Int} (h : Mac K P m w s rd) {k : Nat} (hk : k < 64) (v : Int) : Mac K P m (w.setCell ⟨P, 268 + k, none⟩ (.int .i64 v)) { s with mem := upd s.mem k v } rd ∧ BB K P w (w.setCell ⟨P, 268 + k, none⟩ (.int .i64 v)) := by
  obtain ⟨q, hb, he, hd, hP, hK⟩ := h
  have hb1 : MacB P (w.setCell ⟨P, 268 + k, none⟩ (.int .i64 v)) { s with mem := upd s.mem k v } q := hb.set (set_mem s q k v hk)
  exact ⟨mac_of hb1 he hd hP hK (by simp [World.setCell]) (fun k hk hne => set_others k hk hne) rfl rfl rfl, (BB.refl K P w).setCell (p := ⟨P, 268 + k, none⟩) (.inl rfl) _⟩
theorem apart_new {K P : Nat} {m : List FunD} {w w1 : World} {s : St} {rd : List Int} (h : Mac K P m w s rd) (hB : Below w.heap.size w w1) {k : Nat} (hk : w.heap.size ≤ k) : ApartM P w1 k := by
  obtain ⟨q, hb, he, hd, hP, hK⟩ := h
  have hb1 : MacB P w1 s q := (hB.block P hb.lt).trans hb
  have hlt := hb.lt
  obtain ⟨cc, hc, _⟩ := hd.calls
  refine ⟨by omega, fun i u hi hu e => ?_⟩
  rcases hi with rfl | rfl | rfl
  · have h1 : some u = some q.vc := hu.symm.trans (hb1.cell (by omega))
    have := (hc.lt k ((Option.some.inj h1) ▸ e)).2; omega
  · have h1 : some u = some q.vr := hu.symm.trans (hb1.cell (by omega))
    have := (hd.rdv.lt k ((Option.some.inj h1) ▸ e)).2; omega
  · have h1 : some u = some q.vo := hu.symm.trans (hb1.cell (by omega))
    have := (hd.outv.lt k ((Option.some.inj h1) ▸ e)).2; omega
end Go.Proofs.Ytcjmhdneelmbhaa

/- An instruction is done: constants, what is reckoned. (Written by gen/genmack.py.) -/
namespace Go.Proofs.Ytcjmhdneelmbhaa
open Go.ChangeShapes Go.WideShapes Go.RowKit Go.Deep
set_option linter.unusedVariables false

set_option maxRecDepth 100000 in
set_option maxHeartbeats 8000000 in
theorem do_const (K P : Nat) (m : List FunD) (w : World) (s : St) (rd : List Int) (x : InsD) (Ax : Option Addr) (cx : Nat) (h : Mac K P m w s rd) (hargs : SL w 1 (RIntB (Old K P)) Ax cx x.args) (hlen : x.args.length ≤ 1000) (hin : ∀ r ∈ x.args, InR 256 r)
    (hop : x.op = 1) (hdst : InR 256 x.dst) :
    Calls Try.prog 62 #[.pointer (some ⟨P, 0, none⟩), .agg #[.int .i64 x.op, .int .i64 x.dst, .slice Ax x.args.length cx, .int .i64 x.imm, .int .i64 x.fn]] w (ToldM' K P m w (doS s x)) := by
  obtain ⟨w1, hw1, hs1, hk1, hB1, hc1, hf1⟩ := named w #[.int .i64 x.op, .int .i64 x.dst, .slice Ax x.args.length cx, .int .i64 x.imm, .int .i64 x.fn] 46
  have hm1 := h.below hB1
  have hbb1 := box_bb h hB1
  have hap := apart_new h hB1 (Nat.le_refl _)
  have HRD := Lib.hid (readAll_any K P m w1 s rd x.args (.slice Ax x.args.length cx) hm1 ⟨Ax, cx, rfl, SIntsB.go (KeptB.of hk1) (fun _ h => h) hargs⟩ hlen hin)
  have HAP := Lib.hid hap
  have HC := Lib.hid hc1
  have hwlt : w.heap.size < w1.heap.size := by omega
  have e1 : (x.op == 1) = true := by rw [hop]; rfl
  have e15 : (x.op == 15) = false := by rw [hop]; rfl
  have e16 : (x.op == 16) = false := by rw [hop]; rfl
  have e18 : (x.op == 18) = false := by rw [hop]; rfl
  have e17 : (x.op == 17) = false := by rw [hop]; rfl
  have HE : Hid (doS s x = setR s x.dst x.imm) := Lib.hid (by unfold doS; rw [if_pos hop])
  clear hop
  obtain ⟨d, hd⟩ : ∃ d : Nat, x.dst = d := ⟨x.dst.toNat, by have := hdst.1; omega⟩
  have hd256 : d < 256 := by have := hdst.2; omega
  have hz0 : (0 : Int) ≤ d := by omega
  have hz1 : (d : Int) < 256 := by omega
  have HD := Lib.hid hd
  clear hdst hd
  clear hm1 hap hc1 hf1 hk1 hB1 hs1 hargs hlen hin h
  go_enter Try.func62, Try.ntmps62
  go_wp2_with fail
  rw [← hw1]
  clear hw1
  refine HRD.out.mono ?_
  rintro e w2 ⟨rfl, hm2, hbb2, hfr2⟩
  have hbx : w2.heap[w.heap.size]? = w1.heap[w.heap.size]? := (hfr2.2 w.heap.size hwlt HAP.out).1
  have d0 : w2.cell? ⟨w.heap.size, 0, none⟩ = some (.int .i64 x.op) := (World.cell?_of_block (a := ⟨w.heap.size, 0, none⟩) hbx).trans (HC.out 0 _ rfl)
  have d1 : w2.cell? ⟨w.heap.size, 1, none⟩ = some (.int .i64 x.dst) := (World.cell?_of_block (a := ⟨w.heap.size, 1, none⟩) hbx).trans (HC.out 1 _ rfl)
  have d2 : w2.cell? ⟨w.heap.size, 2, none⟩ = some (.slice Ax x.args.length cx) := (World.cell?_of_block (a := ⟨w.heap.size, 2, none⟩) hbx).trans (HC.out 2 _ rfl)
  have d3 : w2.cell? ⟨w.heap.size, 3, none⟩ = some (.int .i64 x.imm) := (World.cell?_of_block (a := ⟨w.heap.size, 3, none⟩) hbx).trans (HC.out 3 _ rfl)
  have d4 : w2.cell? ⟨w.heap.size, 4, none⟩ = some (.int .i64 x.fn) := (World.cell?_of_block (a := ⟨w.heap.size, 4, none⟩) hbx).trans (HC.out 4 _ rfl)
  have hlt2 : w.heap.size < w2.heap.size := Nat.lt_of_lt_of_le hwlt hfr2.1
  have HAP2 := Lib.hid (hfr2.2 w.heap.size hwlt HAP.out).2
  have HM2 := Lib.hid hm2
  have HBB2 := Lib.hid (hbb1.trans hbb2)
  clear hbx hfr2 hbb2 hbb1 HRD HAP hwlt hm2
  have creg : w2.cell? ⟨P, 3 + d, none⟩ = some (.int .i64 (s.cur.regs d)) := by obtain ⟨q, hb, _⟩ := HM2.out; exact hb.reg hd256
  have freg : w2.frozen? ⟨P, 3 + d, none⟩ = false := by obtain ⟨q, hb, _⟩ := HM2.out; exact hb.free _
  rw [HD.out] at d1
  go_wp2_with fail
  clear d0 d2 d4 e1 e15 e16 e17 e18 hlt2 HC
  go_still_tail 8, (by kernel_rfl)
  change wpList _ _ _ _ _ w2.drew
  clear d1 d3
  go_wp2_with fail
  go_end0
  obtain ⟨z1, z2⟩ := mac_setR HM2.out hd256 x.imm
  exact ⟨rfl, ⟨_, by rw [HE.out, HD.out]; exact z1.drewN 1⟩, (HBB2.out.trans z2).drewN 1⟩

set_option maxRecDepth 100000 in
set_option maxHeartbeats 8000000 in
theorem do_rest (K P : Nat) (m : List FunD) (w : World) (s : St) (rd : List Int) (x : InsD) (Ax : Option Addr) (cx : Nat) (h : Mac K P m w s rd) (hargs : SL w 1 (RIntB (Old K P)) Ax cx x.args) (hlen : x.args.length ≤ 1000) (hin : ∀ r ∈ x.args, InR 256 r)
    (hop : 2 ≤ x.op ∧ x.op ≤ 14) (hl : (x.args.length : Int) = opArity x.op) (hdst : InR 256 x.dst) (hv : VIns w (.agg #[.int .i64 x.op, .int .i64 x.dst, .slice Ax x.args.length cx, .int .i64 x.imm, .int .i64 x.fn]) x) :
    Calls Try.prog 62 #[.pointer (some ⟨P, 0, none⟩), .agg #[.int .i64 x.op, .int .i64 x.dst, .slice Ax x.args.length cx, .int .i64 x.imm, .int .i64 x.fn]] w (ToldM' K P m w (doS s x)) := by
  obtain ⟨w1, hw1, hs1, hk1, hB1, hc1, hf1⟩ := named w #[.int .i64 x.op, .int .i64 x.dst, .slice Ax x.args.length cx, .int .i64 x.imm, .int .i64 x.fn] 46
  have hm1 := h.below hB1
  have hbb1 := box_bb h hB1
  have hap := apart_new h hB1 (Nat.le_refl _)
  have HRD := Lib.hid (readAll_any K P m w1 s rd x.args (.slice Ax x.args.length cx) hm1 ⟨Ax, cx, rfl, SIntsB.go (KeptB.of hk1) (fun _ h => h) hargs⟩ hlen hin)
  have HAP := Lib.hid hap
  have HC := Lib.hid hc1
  have hwlt : w.heap.size < w1.heap.size := by omega
  have HARG := Lib.hid hargs
  have e1 : (x.op == 1) = false := by rw [beq_eq_false_iff_ne]; omega
  have e15 : (x.op == 15) = false := by rw [beq_eq_false_iff_ne]; omega
  have e16 : (x.op == 16) = false := by rw [beq_eq_false_iff_ne]; omega
  have e18 : (x.op == 18) = false := by rw [beq_eq_false_iff_ne]; omega
  have e17 : (x.op == 17) = false := by rw [beq_eq_false_iff_ne]; omega
  have HE : Hid (doS s x = reckS s x (argsV s.cur.regs x.args)) := Lib.hid (by
    unfold doS reckS; rw [if_neg (by omega), if_neg (by omega), if_neg (by omega), if_neg (by omega), if_neg (by omega)]; cases evalV x.op (argsV s.cur.regs x.args) <;> rfl)
  have HV := Lib.hid hv
  have HOP := Lib.hid hop
  have HL := Lib.hid hl
  have HDST := Lib.hid hdst
  clear hv hop hl hdst
  clear hm1 hap hc1 hf1 hk1 hB1 hs1 hargs hlen hin h
  go_enter Try.func62, Try.ntmps62
  go_wp2_with fail
  rw [← hw1]
  clear hw1
  refine HRD.out.mono ?_
  rintro e w2 ⟨rfl, hm2, hbb2, hfr2⟩
  have hbx : w2.heap[w.heap.size]? = w1.heap[w.heap.size]? := (hfr2.2 w.heap.size hwlt HAP.out).1
  have d0 : w2.cell? ⟨w.heap.size, 0, none⟩ = some (.int .i64 x.op) := (World.cell?_of_block (a := ⟨w.heap.size, 0, none⟩) hbx).trans (HC.out 0 _ rfl)
  have d1 : w2.cell? ⟨w.heap.size, 1, none⟩ = some (.int .i64 x.dst) := (World.cell?_of_block (a := ⟨w.heap.size, 1, none⟩) hbx).trans (HC.out 1 _ rfl)
  have d2 : w2.cell? ⟨w.heap.size, 2, none⟩ = some (.slice Ax x.args.length cx) := (World.cell?_of_block (a := ⟨w.heap.size, 2, none⟩) hbx).trans (HC.out 2 _ rfl)
  have d3 : w2.cell? ⟨w.heap.size, 3, none⟩ = some (.int .i64 x.imm) := (World.cell?_of_block (a := ⟨w.heap.size, 3, none⟩) hbx).trans (HC.out 3 _ rfl)
  have d4 : w2.cell? ⟨w.heap.size, 4, none⟩ = some (.int .i64 x.fn) := (World.cell?_of_block (a := ⟨w.heap.size, 4, none⟩) hbx).trans (HC.out 4 _ rfl)
  have hlt2 : w.heap.size < w2.heap.size := Nat.lt_of_lt_of_le hwlt hfr2.1
  have HAP2 := Lib.hid (hfr2.2 w.heap.size hwlt HAP.out).2
  have HM2 := Lib.hid hm2
  have HBB2 := Lib.hid (hbb1.trans hbb2)
  clear hbx hfr2 hbb2 hbb1 HRD HAP hwlt hm2
  have HVI : Hid (VIns w2 (.agg #[.int .i64 x.op, .int .i64 x.dst, .slice Ax x.args.length cx, .int .i64 x.imm, .int .i64 x.fn]) x) := Lib.hid (by
    obtain ⟨A, c, e, h1, h2⟩ := HV.out
    have h3 := SL.imp (R' := RIntB (Old K P)) (w' := w2) (fun b o y hy => hy) (SIntsB.go (HBB2.out.kept) (fun _ h => h) HARG.out)
    exact ⟨Ax, cx, rfl, SL.imp (fun b o y hy => hy.2) h3, h2⟩)
  go_wp2_with fail
  refine (reckon_any K P m w2 s _ x _ HM2.out HVI.out HOP.out (by rw [argsV_len]; exact HL.out) HDST.out).mono ?_
  rintro e w3 ⟨rfl, g1, g2⟩
  go_wp2_with fail
  go_end0
  exact ⟨rfl, ⟨_, by rw [HE.out]; exact g1⟩, HBB2.out.trans g2⟩

end Go.Proofs.Ytcjmhdneelmbhaa

/- An instruction is done: words, and what is put out. (Written by gen/genmacl.py.) -/
namespace Go.Proofs.Ytcjmhdneelmbhaa
open Go.ChangeShapes Go.WideShapes Go.RowKit Go.Deep
set_option linter.unusedVariables false

set_option maxRecDepth 100000 in
set_option maxHeartbeats 8000000 in
theorem do_load (K P : Nat) (m : List FunD) (w : World) (s : St) (rd : List Int) (x : InsD) (Ax : Option Addr) (cx : Nat) (h : Mac K P m w s rd) (hargs : SL w 1 (RIntB (Old K P)) Ax cx x.args) (hlen : x.args.length ≤ 1000) (hin : ∀ r ∈ x.args, InR 256 r)
    (hop : x.op = 15) (hl : x.args.length = 1) (hdst : InR 256 x.dst) :
    Calls Try.prog 62 #[.pointer (some ⟨P, 0, none⟩), .agg #[.int .i64 x.op, .int .i64 x.dst, .slice Ax x.args.length cx, .int .i64 x.imm, .int .i64 x.fn]] w (ToldM' K P m w (doS s x)) := by
  obtain ⟨w1, hw1, hs1, hk1, hB1, hc1, hf1⟩ := named w #[.int .i64 x.op, .int .i64 x.dst, .slice Ax x.args.length cx, .int .i64 x.imm, .int .i64 x.fn] 46
  have hm1 := h.below hB1
  have hbb1 := box_bb h hB1
  have hap := apart_new h hB1 (Nat.le_refl _)
  have HRD := Lib.hid (readAll_any K P m w1 s rd x.args (.slice Ax x.args.length cx) hm1 ⟨Ax, cx, rfl, SIntsB.go (KeptB.of hk1) (fun _ h => h) hargs⟩ hlen hin)
  have HAP := Lib.hid hap
  have HC := Lib.hid hc1
  have hwlt : w.heap.size < w1.heap.size := by omega
  have e1 : (x.op == 1) = false := by rw [hop]; rfl
  have e15 : (x.op == 15) = true := by rw [hop]; rfl
  have e16 : (x.op == 16) = false := by rw [hop]; rfl
  have e18 : (x.op == 18) = false := by rw [hop]; rfl
  have e17 : (x.op == 17) = false := by rw [hop]; rfl
  obtain ⟨a0, hav⟩ := len_one (show (argsV s.cur.regs x.args).length = 1 by rw [argsV_len, hl])
  have HAV := Lib.hid hav
  have HE : Hid (doS s x = if 0 ≤ a0 ∧ a0 < 64 then setR s x.dst (s.mem a0.toNat) else trapS s 2) := Lib.hid (by
    unfold doS wordB; rw [if_neg (by omega), if_pos hop, hav]; simp)
  clear hop hav hl
  obtain ⟨d, hd⟩ : ∃ d : Nat, x.dst = d := ⟨x.dst.toNat, by have := hdst.1; omega⟩
  have hd256 : d < 256 := by have := hdst.2; omega
  have hz0 : (0 : Int) ≤ d := by omega
  have hz1 : (d : Int) < 256 := by omega
  have HD := Lib.hid hd
  clear hdst hd
  clear hm1 hap hc1 hf1 hk1 hB1 hs1 hargs hlen hin h
  go_enter Try.func62, Try.ntmps62
  go_wp2_with fail
  rw [← hw1]
  clear hw1
  refine HRD.out.mono ?_
  rintro e w2 ⟨rfl, hm2, hbb2, hfr2⟩
  have hbx : w2.heap[w.heap.size]? = w1.heap[w.heap.size]? := (hfr2.2 w.heap.size hwlt HAP.out).1
  have d0 : w2.cell? ⟨w.heap.size, 0, none⟩ = some (.int .i64 x.op) := (World.cell?_of_block (a := ⟨w.heap.size, 0, none⟩) hbx).trans (HC.out 0 _ rfl)
  have d1 : w2.cell? ⟨w.heap.size, 1, none⟩ = some (.int .i64 x.dst) := (World.cell?_of_block (a := ⟨w.heap.size, 1, none⟩) hbx).trans (HC.out 1 _ rfl)
  have d2 : w2.cell? ⟨w.heap.size, 2, none⟩ = some (.slice Ax x.args.length cx) := (World.cell?_of_block (a := ⟨w.heap.size, 2, none⟩) hbx).trans (HC.out 2 _ rfl)
  have d3 : w2.cell? ⟨w.heap.size, 3, none⟩ = some (.int .i64 x.imm) := (World.cell?_of_block (a := ⟨w.heap.size, 3, none⟩) hbx).trans (HC.out 3 _ rfl)
  have d4 : w2.cell? ⟨w.heap.size, 4, none⟩ = some (.int .i64 x.fn) := (World.cell?_of_block (a := ⟨w.heap.size, 4, none⟩) hbx).trans (HC.out 4 _ rfl)
  have hlt2 : w.heap.size < w2.heap.size := Nat.lt_of_lt_of_le hwlt hfr2.1
  have HAP2 := Lib.hid (hfr2.2 w.heap.size hwlt HAP.out).2
  have HM2 := Lib.hid hm2
  have HBB2 := Lib.hid (hbb1.trans hbb2)
  clear hbx hfr2 hbb2 hbb1 HRD HAP hwlt hm2
  obtain ⟨q, hb, he, hdy, hP, hK⟩ := id HM2.out
  obtain ⟨g, cap, hvr, hcells⟩ := hdy.read (by rw [HAV.out]; simp)
  rw [HAV.out] at hvr hcells
  have cv : w2.cell? ⟨P, 262, none⟩ = some (.slice (some ⟨g, 0, none⟩) 1 cap) := (hb.cell (by omega)).trans (congrArg some hvr)
  have c0 : w2.cell? ⟨g, 0, none⟩ = some (.int .i64 a0) := hcells 0 _ rfl
  by_cases hr : 0 ≤ a0 ∧ a0 < 64
  · obtain ⟨k, hk⟩ : ∃ k : Nat, a0 = k := ⟨a0.toNat, by omega⟩
    have hk64 : k < 64 := by omega
    have HE2 : Hid (doS s x = setR s d (s.mem k)) := Lib.hid (by rw [HE.out, if_pos hr, HD.out, hk]; rfl)
    rw [hk] at c0
    have cm : w2.cell? ⟨P, 268 + k, none⟩ = some (.int .i64 (s.mem k)) := by rw [hb.cell (by omega), cellM_mem _ _ hk64]
    clear hb he hdy hvr hcells hr hk
    have creg : w2.cell? ⟨P, 3 + d, none⟩ = some (.int .i64 (s.cur.regs d)) := by obtain ⟨q, hb, _⟩ := HM2.out; exact hb.reg hd256
    have freg : w2.frozen? ⟨P, 3 + d, none⟩ = false := by obtain ⟨q, hb, _⟩ := HM2.out; exact hb.free _
    rw [HD.out] at d1
    go_wp2_with fail
    refine (word_yes P k w2 hk64).mono ?_
    rintro e w3 ⟨rfl, rfl⟩
    go_wp2_with fail
    clear d0 d2 d3 d4 e1 e15 e16 e17 e18 hlt2 HC cv c0
    go_still_tail 9, (by kernel_rfl)
    change wpList _ _ _ _ _ w2.drew
    clear d1
    go_wp2_with fail
    go_end0
    obtain ⟨z1, z2⟩ := mac_setR HM2.out hd256 (s.mem k)
    exact ⟨rfl, ⟨_, by rw [HE2.out]; exact z1.drewN 1⟩, (HBB2.out.trans z2).drewN 1⟩
  · have HE2 : Hid (doS s x = trapS s 2) := Lib.hid (by rw [HE.out, if_neg hr])
    have HR := Lib.hid hr
    clear hb he hdy hvr hcells hr
    go_wp2_with fail
    refine (word_no K P m w2 s _ a0 HM2.out HR.out).mono ?_
    rintro e w3 ⟨rfl, g1, g2⟩
    go_wp2_with fail
    go_end0
    exact ⟨rfl, ⟨_, by rw [HE2.out]; exact g1⟩, HBB2.out.trans g2⟩

set_option maxRecDepth 100000 in
set_option maxHeartbeats 8000000 in
theorem do_store (K P : Nat) (m : List FunD) (w : World) (s : St) (rd : List Int) (x : InsD) (Ax : Option Addr) (cx : Nat) (h : Mac K P m w s rd) (hargs : SL w 1 (RIntB (Old K P)) Ax cx x.args) (hlen : x.args.length ≤ 1000) (hin : ∀ r ∈ x.args, InR 256 r)
    (hop : x.op = 16) (hl : x.args.length = 2) :
    Calls Try.prog 62 #[.pointer (some ⟨P, 0, none⟩), .agg #[.int .i64 x.op, .int .i64 x.dst, .slice Ax x.args.length cx, .int .i64 x.imm, .int .i64 x.fn]] w (ToldM' K P m w (doS s x)) := by
  obtain ⟨w1, hw1, hs1, hk1, hB1, hc1, hf1⟩ := named w #[.int .i64 x.op, .int .i64 x.dst, .slice Ax x.args.length cx, .int .i64 x.imm, .int .i64 x.fn] 46
  have hm1 := h.below hB1
  have hbb1 := box_bb h hB1
  have hap := apart_new h hB1 (Nat.le_refl _)
  have HRD := Lib.hid (readAll_any K P m w1 s rd x.args (.slice Ax x.args.length cx) hm1 ⟨Ax, cx, rfl, SIntsB.go (KeptB.of hk1) (fun _ h => h) hargs⟩ hlen hin)
  have HAP := Lib.hid hap
  have HC := Lib.hid hc1
  have hwlt : w.heap.size < w1.heap.size := by omega
  have e1 : (x.op == 1) = false := by rw [hop]; rfl
  have e15 : (x.op == 15) = false := by rw [hop]; rfl
  have e16 : (x.op == 16) = true := by rw [hop]; rfl
  have e18 : (x.op == 18) = false := by rw [hop]; rfl
  have e17 : (x.op == 17) = false := by rw [hop]; rfl
  obtain ⟨a0, a1, hav⟩ := len_two (show (argsV s.cur.regs x.args).length = 2 by rw [argsV_len, hl])
  have HAV := Lib.hid hav
  have HE : Hid (doS s x = if 0 ≤ a0 ∧ a0 < 64 then { s with mem := upd s.mem a0.toNat a1 } else trapS s 2) := Lib.hid (by
    unfold doS wordB; rw [if_neg (by omega), if_neg (by omega), if_pos hop, hav]; simp)
  clear hop hav hl
  clear hm1 hap hc1 hf1 hk1 hB1 hs1 hargs hlen hin h
  go_enter Try.func62, Try.ntmps62
  go_wp2_with fail
  rw [← hw1]
  clear hw1
  refine HRD.out.mono ?_
  rintro e w2 ⟨rfl, hm2, hbb2, hfr2⟩
  have hbx : w2.heap[w.heap.size]? = w1.heap[w.heap.size]? := (hfr2.2 w.heap.size hwlt HAP.out).1
  have d0 : w2.cell? ⟨w.heap.size, 0, none⟩ = some (.int .i64 x.op) := (World.cell?_of_block (a := ⟨w.heap.size, 0, none⟩) hbx).trans (HC.out 0 _ rfl)
  have d1 : w2.cell? ⟨w.heap.size, 1, none⟩ = some (.int .i64 x.dst) := (World.cell?_of_block (a := ⟨w.heap.size, 1, none⟩) hbx).trans (HC.out 1 _ rfl)
  have d2 : w2.cell? ⟨w.heap.size, 2, none⟩ = some (.slice Ax x.args.length cx) := (World.cell?_of_block (a := ⟨w.heap.size, 2, none⟩) hbx).trans (HC.out 2 _ rfl)
  have d3 : w2.cell? ⟨w.heap.size, 3, none⟩ = some (.int .i64 x.imm) := (World.cell?_of_block (a := ⟨w.heap.size, 3, none⟩) hbx).trans (HC.out 3 _ rfl)
  have d4 : w2.cell? ⟨w.heap.size, 4, none⟩ = some (.int .i64 x.fn) := (World.cell?_of_block (a := ⟨w.heap.size, 4, none⟩) hbx).trans (HC.out 4 _ rfl)
  have hlt2 : w.heap.size < w2.heap.size := Nat.lt_of_lt_of_le hwlt hfr2.1
  have HAP2 := Lib.hid (hfr2.2 w.heap.size hwlt HAP.out).2
  have HM2 := Lib.hid hm2
  have HBB2 := Lib.hid (hbb1.trans hbb2)
  clear hbx hfr2 hbb2 hbb1 HRD HAP hwlt hm2
  obtain ⟨q, hb, he, hdy, hP, hK⟩ := id HM2.out
  obtain ⟨g, cap, hvr, hcells⟩ := hdy.read (by rw [HAV.out]; simp)
  rw [HAV.out] at hvr hcells
  have cv : w2.cell? ⟨P, 262, none⟩ = some (.slice (some ⟨g, 0, none⟩) 2 cap) := (hb.cell (by omega)).trans (congrArg some hvr)
  have c0 : w2.cell? ⟨g, 0, none⟩ = some (.int .i64 a0) := hcells 0 _ rfl
  have c1 : w2.cell? ⟨g, 1, none⟩ = some (.int .i64 a1) := hcells 1 _ rfl
  by_cases hr : 0 ≤ a0 ∧ a0 < 64
  · obtain ⟨k, hk⟩ : ∃ k : Nat, a0 = k := ⟨a0.toNat, by omega⟩
    have hk64 : k < 64 := by omega
    have HE2 : Hid (doS s x = { s with mem := upd s.mem k a1 }) := Lib.hid (by rw [HE.out, if_pos hr, hk]; rfl)
    rw [hk] at c0
    have cm : w2.cell? ⟨P, 268 + k, none⟩ = some (.int .i64 (s.mem k)) := by rw [hb.cell (by omega), cellM_mem _ _ hk64]
    have fm := hb.free (268 + k)
    clear hb he hdy hvr hcells hr hk
    go_wp2_with fail
    refine (word_yes P k w2 hk64).mono ?_
    rintro e w3 ⟨rfl, rfl⟩
    go_wp2_with fail
    go_end0
    obtain ⟨z1, z2⟩ := mac_word HM2.out hk64 a1
    exact ⟨rfl, ⟨_, by rw [HE2.out]; exact z1⟩, HBB2.out.trans z2⟩
  · have HE2 : Hid (doS s x = trapS s 2) := Lib.hid (by rw [HE.out, if_neg hr])
    have HR := Lib.hid hr
    clear hb he hdy hvr hcells hr
    go_wp2_with fail
    refine (word_no K P m w2 s _ a0 HM2.out HR.out).mono ?_
    rintro e w3 ⟨rfl, g1, g2⟩
    go_wp2_with fail
    go_end0
    exact ⟨rfl, ⟨_, by rw [HE2.out]; exact g1⟩, HBB2.out.trans g2⟩

set_option maxRecDepth 100000 in
set_option maxHeartbeats 8000000 in
theorem do_out (K P : Nat) (m : List FunD) (w : World) (s : St) (rd : List Int) (x : InsD) (Ax : Option Addr) (cx : Nat) (h : Mac K P m w s rd) (hargs : SL w 1 (RIntB (Old K P)) Ax cx x.args) (hlen : x.args.length ≤ 1000) (hin : ∀ r ∈ x.args, InR 256 r)
    (hop : x.op = 18) (hl : x.args.length = 1) (hol : s.out.length ≤ 1048576) :
    Calls Try.prog 62 #[.pointer (some ⟨P, 0, none⟩), .agg #[.int .i64 x.op, .int .i64 x.dst, .slice Ax x.args.length cx, .int .i64 x.imm, .int .i64 x.fn]] w (ToldM' K P m w (doS s x)) := by
  obtain ⟨w1, hw1, hs1, hk1, hB1, hc1, hf1⟩ := named w #[.int .i64 x.op, .int .i64 x.dst, .slice Ax x.args.length cx, .int .i64 x.imm, .int .i64 x.fn] 46
  have hm1 := h.below hB1
  have hbb1 := box_bb h hB1
  have hap := apart_new h hB1 (Nat.le_refl _)
  have HRD := Lib.hid (readAll_any K P m w1 s rd x.args (.slice Ax x.args.length cx) hm1 ⟨Ax, cx, rfl, SIntsB.go (KeptB.of hk1) (fun _ h => h) hargs⟩ hlen hin)
  have HAP := Lib.hid hap
  have HC := Lib.hid hc1
  have hwlt : w.heap.size < w1.heap.size := by omega
  have e1 : (x.op == 1) = false := by rw [hop]; rfl
  have e15 : (x.op == 15) = false := by rw [hop]; rfl
  have e16 : (x.op == 16) = false := by rw [hop]; rfl
  have e18 : (x.op == 18) = true := by rw [hop]; rfl
  have e17 : (x.op == 17) = false := by rw [hop]; rfl
  obtain ⟨i64, p1, p2, p3, p4⟩ := info_parts Try.info2
  have HI := Lib.hid (And.intro p1 (And.intro p2 (And.intro p3 p4)))
  clear p1 p2 p3 p4
  obtain ⟨a0, hav⟩ := len_one (show (argsV s.cur.regs x.args).length = 1 by rw [argsV_len, hl])
  have HAV := Lib.hid hav
  have HE : Hid (doS s x = { s with out := s.out ++ [a0] }) := Lib.hid (by
    unfold doS; rw [if_neg (by omega), if_neg (by omega), if_neg (by omega), if_pos hop, hav]; rfl)
  clear hop hav hl
  clear hm1 hap hc1 hf1 hk1 hB1 hs1 hargs hlen hin h
  go_enter Try.func62, Try.ntmps62
  go_wp2_with fail
  rw [← hw1]
  clear hw1
  refine HRD.out.mono ?_
  rintro e w2 ⟨rfl, hm2, hbb2, hfr2⟩
  have hbx : w2.heap[w.heap.size]? = w1.heap[w.heap.size]? := (hfr2.2 w.heap.size hwlt HAP.out).1
  have d0 : w2.cell? ⟨w.heap.size, 0, none⟩ = some (.int .i64 x.op) := (World.cell?_of_block (a := ⟨w.heap.size, 0, none⟩) hbx).trans (HC.out 0 _ rfl)
  have d1 : w2.cell? ⟨w.heap.size, 1, none⟩ = some (.int .i64 x.dst) := (World.cell?_of_block (a := ⟨w.heap.size, 1, none⟩) hbx).trans (HC.out 1 _ rfl)
  have d2 : w2.cell? ⟨w.heap.size, 2, none⟩ = some (.slice Ax x.args.length cx) := (World.cell?_of_block (a := ⟨w.heap.size, 2, none⟩) hbx).trans (HC.out 2 _ rfl)
  have d3 : w2.cell? ⟨w.heap.size, 3, none⟩ = some (.int .i64 x.imm) := (World.cell?_of_block (a := ⟨w.heap.size, 3, none⟩) hbx).trans (HC.out 3 _ rfl)
  have d4 : w2.cell? ⟨w.heap.size, 4, none⟩ = some (.int .i64 x.fn) := (World.cell?_of_block (a := ⟨w.heap.size, 4, none⟩) hbx).trans (HC.out 4 _ rfl)
  have hlt2 : w.heap.size < w2.heap.size := Nat.lt_of_lt_of_le hwlt hfr2.1
  have HAP2 := Lib.hid (hfr2.2 w.heap.size hwlt HAP.out).2
  have HM2 := Lib.hid hm2
  have HBB2 := Lib.hid (hbb1.trans hbb2)
  clear hbx hfr2 hbb2 hbb1 HRD HAP hwlt hm2
  obtain ⟨q, hb, he, hdy, hP, hK0⟩ := id HM2.out
  obtain ⟨g, cap, hvr, hcells⟩ := hdy.read (by rw [HAV.out]; simp)
  rw [HAV.out] at hvr hcells
  have cv : w2.cell? ⟨P, 262, none⟩ = some (.slice (some ⟨g, 0, none⟩) 1 cap) := (hb.cell (by omega)).trans (congrArg some hvr)
  have c0 : w2.cell? ⟨g, 0, none⟩ = some (.int .i64 a0) := hcells 0 _ rfl
  have cvo : w2.cell? ⟨P, 266, none⟩ = some q.vo := hb.cell (by omega)
  have HMB := Lib.hid hb
  have HME := Lib.hid he
  have HMD := Lib.hid hdy
  have HOW := Lib.hid hdy.outv
  have HVR : Hid (q.vr = .slice (some ⟨g, 0, none⟩) 1 cap) := Lib.hid hvr
  clear hb he hdy hvr hcells
  go_wp2_with fail
  refine wp_region_last (L := 17) (S := fun w' => w'.cell? ⟨P, 266, none⟩ = some q.vo ∧ w'.cell? ⟨P, 262, none⟩ = some (.slice (some ⟨g, 0, none⟩) 1 cap) ∧ w'.cell? ⟨g, 0, none⟩ = some (.int .i64 a0)) (by kernel_rfl) (by rfl) (by kernel_rfl) (by kernel_rfl) ?_
  change wpAnyH _ _ _ _ _ _ _ _ (World.drew _)
  have hS : ∀ w', Below w2.heap.size w2 w' → w'.cell? ⟨P, 266, none⟩ = some q.vo ∧ w'.cell? ⟨P, 262, none⟩ = some (.slice (some ⟨g, 0, none⟩) 1 cap) ∧ w'.cell? ⟨g, 0, none⟩ = some (.int .i64 a0) := fun w' h => ⟨kept_of_below h _ _ cvo, kept_of_below h _ _ cv, kept_of_below h _ _ c0⟩
  have hS0 := hS w2.drew (Below.refl _ _).drew
  clear cvo cv c0
  refine takeH (i := 0) (some 68) (v := ?_) rfl (by kernel_rfl) (by kernel_rfl) (by kernel_rfl) (fun _ _ _ h => h) hS0 (fun o ho => ?_) ?_
  rotate_left
  · simp only [List.getElem?_toArray, List.getElem?_cons_zero, Option.some.injEq] at ho; subst ho; refine Or.inl ⟨by rfl, fun w' hSw => ?_⟩; (try dsimp only at hSw); go_simp; try with_reducible rfl
  simp only [Act.put, List.setIfInBounds_toArray, List.set_cons_zero, List.set_cons_succ]
  refine takeH (i := 1) (some 69) (v := ?_) rfl (by kernel_rfl) (by kernel_rfl) (by kernel_rfl) (fun _ _ _ h => h) hS0 (fun o ho => ?_) ?_
  rotate_left
  · simp only [List.getElem?_toArray, List.getElem?_cons_zero, List.getElem?_cons_succ, Option.some.injEq] at ho; subst ho; refine Or.inl ⟨by rfl, fun w' hSw => ?_⟩; (try dsimp only at hSw); go_simp; try with_reducible rfl
  simp only [Act.put, List.setIfInBounds_toArray, List.set_cons_zero, List.set_cons_succ]
  refine takeH (i := 2) (some 70) (v := ?_) rfl (by kernel_rfl) (by kernel_rfl) (by kernel_rfl) (fun _ _ _ h => h) hS0 (fun o ho => ?_) ?_
  rotate_left
  · simp only [List.getElem?_toArray, List.getElem?_cons_zero, List.getElem?_cons_succ, Option.some.injEq] at ho; subst ho; refine Or.inl ⟨by rfl, fun w' hSw => ?_⟩; (try dsimp only at hSw); go_simp; try with_reducible rfl
  simp only [Act.put, List.setIfInBounds_toArray, List.set_cons_zero, List.set_cons_succ]
  refine takeH (i := 3) (some 71) (v := ?_) rfl (by kernel_rfl) (by kernel_rfl) (by kernel_rfl) (fun _ _ _ h => h) hS0 (fun o ho => ?_) ?_
  rotate_left
  · simp only [List.getElem?_toArray, List.getElem?_cons_zero, List.getElem?_cons_succ, Option.some.injEq] at ho; subst ho; refine Or.inl ⟨by rfl, fun w' hSw => ?_⟩; (try dsimp only at hSw); go_simp; try with_reducible rfl
  simp only [Act.put, List.setIfInBounds_toArray, List.set_cons_zero, List.set_cons_succ]
  refine takeH (i := 4) (some 72) (v := ?_) rfl (by kernel_rfl) (by kernel_rfl) (by kernel_rfl) (fun _ _ _ h => h) hS0 (fun o ho => ?_) ?_
  rotate_left
  · simp only [List.getElem?_toArray, List.getElem?_cons_zero, List.getElem?_cons_succ, Option.some.injEq] at ho; subst ho; refine Or.inl ⟨by rfl, fun w' hSw => ?_⟩; (try dsimp only at hSw); go_simp; try with_reducible rfl
  simp only [Act.put, List.setIfInBounds_toArray, List.set_cons_zero, List.set_cons_succ]
  refine takeH (i := 5) (some 73) (v := ?_) rfl (by kernel_rfl) (by kernel_rfl) (by kernel_rfl) (fun _ _ _ h => h) hS0 (fun o ho => ?_) ?_
  rotate_left
  · simp only [List.getElem?_toArray, List.getElem?_cons_zero, List.getElem?_cons_succ, Option.some.injEq] at ho; subst ho; refine Or.inl ⟨by rfl, fun w' hSw => ?_⟩; (try dsimp only at hSw); go_simp; try with_reducible rfl
  simp only [Act.put, List.setIfInBounds_toArray, List.set_cons_zero, List.set_cons_succ]
  refine takeH (i := 6) (some 74) (v := ?_) rfl (by kernel_rfl) (by kernel_rfl) (by kernel_rfl) (fun _ _ _ h => h) hS0 (fun o ho => ?_) ?_
  rotate_left
  · simp only [List.getElem?_toArray, List.getElem?_cons_zero, List.getElem?_cons_succ, Option.some.injEq] at ho; subst ho; refine Or.inl ⟨by rfl, fun w' hSw => ?_⟩; (try dsimp only at hSw); go_simp; try with_reducible rfl
  simp only [Act.put, List.setIfInBounds_toArray, List.set_cons_zero, List.set_cons_succ]
  refine takeH (i := 7) (some 75) (v := ?_) rfl (by kernel_rfl) (by kernel_rfl) (by kernel_rfl) (fun _ _ _ h => h) hS0 (fun o ho => ?_) ?_
  rotate_left
  · simp only [List.getElem?_toArray, List.getElem?_cons_zero, List.getElem?_cons_succ, Option.some.injEq] at ho; subst ho; refine Or.inl ⟨by rfl, fun w' hSw => ?_⟩; (try dsimp only at hSw); go_simp; try with_reducible rfl
  simp only [Act.put, List.setIfInBounds_toArray, List.set_cons_zero, List.set_cons_succ]
  refine takeH (i := 8) (some 76) (v := ?_) rfl (by kernel_rfl) (by kernel_rfl) (by kernel_rfl) (fun _ _ _ h => h) hS0 (fun o ho => ?_) ?_
  rotate_left
  · simp only [List.getElem?_toArray, List.getElem?_cons_zero, List.getElem?_cons_succ, Option.some.injEq] at ho; subst ho; refine Or.inl ⟨by rfl, fun w' hSw => ?_⟩; (try dsimp only at hSw); go_simp; try with_reducible rfl
  simp only [Act.put, List.setIfInBounds_toArray, List.set_cons_zero, List.set_cons_succ]
  refine takeH (i := 9) (some 77) (v := ?_) rfl (by kernel_rfl) (by kernel_rfl) (by kernel_rfl) (fun _ _ _ h => h) hS0 (fun o ho => ?_) ?_
  rotate_left
  · simp only [List.getElem?_toArray, List.getElem?_cons_zero, List.getElem?_cons_succ, Option.some.injEq] at ho; subst ho; refine Or.inl ⟨by rfl, fun w' hSw => ?_⟩; (try dsimp only at hSw); go_simp; try with_reducible rfl
  simp only [Act.put, List.setIfInBounds_toArray, List.set_cons_zero, List.set_cons_succ]
  refine takeH (i := 10) (some 78) (v := ?_) rfl (by kernel_rfl) (by kernel_rfl) (by kernel_rfl) (fun _ _ _ h => h) hS0 (fun o ho => ?_) ?_
  rotate_left
  · simp only [List.getElem?_toArray, List.getElem?_cons_zero, List.getElem?_cons_succ, Option.some.injEq] at ho; subst ho; refine Or.inl ⟨by rfl, fun w' hSw => ?_⟩; (try dsimp only at hSw); go_simp; try with_reducible rfl
  simp only [Act.put, List.setIfInBounds_toArray, List.set_cons_zero, List.set_cons_succ]
  refine takeH (i := 11) (some 79) (v := ?_) rfl (by kernel_rfl) (by kernel_rfl) (by kernel_rfl) (fun _ _ _ h => h) hS0 (fun o ho => ?_) ?_
  rotate_left
  · simp only [List.getElem?_toArray, List.getElem?_cons_zero, List.getElem?_cons_succ, Option.some.injEq] at ho; subst ho; refine Or.inl ⟨by rfl, fun w' hSw => ?_⟩; (try dsimp only at hSw); go_simp; try with_reducible rfl
  simp only [Act.put, List.setIfInBounds_toArray, List.set_cons_zero, List.set_cons_succ]
  refine oneH (i := 12) (by kernel_rfl) (fun o ho K' hK => ?_)
  simp only [List.getElem?_toArray, List.getElem?_cons_zero, List.getElem?_cons_succ, Option.some.injEq] at ho; subst ho
  go_simp
  have hb8 : Below w2.heap.size w2 (w2.alloc (.cells #[.int .i64 a0] 2)).drew := ((Below.refl _ w2).alloc (Nat.le_refl _) _).drew
  refine hK.out _ _ (hS _ hb8) ?_
  clear hK K'
  refine oneH (i := 13) (by kernel_rfl) (fun o ho K' hK => ?_)
  simp only [List.getElem?_toArray, List.getElem?_cons_zero, List.getElem?_cons_succ, Option.some.injEq] at ho; subst ho
  refine step_append_lies _ (by rfl) _ _ _ (by rfl) K 2 i64 (.int .i64 0) 1 8 Try.underlying25 HI.out.1 HI.out.2.1 HI.out.2.2.1 HI.out.2.2.2 rfl (by decide) q.vo s.out.length _ (by rfl) (HOW.out.alloc _)
    ⟨w2.heap.size, 0, none⟩ 1 1 [.int .i64 a0] (by rfl) (by rfl) (cell_one_new _ _ _) (by intro u hu; rw [List.mem_singleton.1 hu]; rfl) (by decide) (by unfold maxLen; omega) (by omega) (by simp; omega) (w2.heap.size + 1) (by simp) ?_
  intro g1 cap1 wC hownC hgrowC hlocC hltC
  have hGR : Hid (Gro w2 wC q.vo (.slice (some ⟨g1, 0, none⟩) (s.out.length + 1) cap1)) := Lib.hid (gro_append (w := w2) hgrowC hlocC)
  have hmC := (mac_out HMB.out HME.out HMD.out hP hK0 hGR.out (out' := s.out ++ [a0]) (by
    rw [List.length_append, List.map_append]; exact hownC))
  have HMC := Lib.hid hmC
  clear hmC
  have hPv : q.vo.ownBlock ≠ some P := by intro e; have := (HOW.out.lt P e).1; omega
  have hbC := gro_block hGR.out HMB.out hPv
  have hSC : wC.cell? ⟨P, 266, none⟩ = some q.vo ∧ wC.cell? ⟨P, 262, none⟩ = some (.slice (some ⟨g, 0, none⟩) 1 cap) ∧ wC.cell? ⟨g, 0, none⟩ = some (.int .i64 a0) := ⟨hbC.cell (by omega), (hbC.cell (by omega)).trans (congrArg some HVR.out), (World.cell?_of_block (a := ⟨g, 0, none⟩) (hGR.out.block g (by have := block_lt_of_cell (hS _ (Below.refl _ _)).2.2; exact this) (by
    intro e
    rcases HMD.out.ro with h | h
    · rw [HVR.out] at h; cases h
    · exact h (by rw [HVR.out, e]; rfl)))).trans (hS _ (Below.refl _ _)).2.2⟩
  have xc : wC.cell? ⟨P, 266, none⟩ = some q.vo := hSC.1
  have xf : wC.frozen? ⟨P, 266, none⟩ = false := hbC.free 266
  refine hK.out _ _ hSC ?_
  clear hK K'
  simp only [Act.put, List.setIfInBounds_toArray, List.set_cons_zero, List.set_cons_succ]
  refine takeH (i := 14) (some 82) (v := ?_) rfl (by kernel_rfl) (by kernel_rfl) (by kernel_rfl) (fun _ _ _ h => h) hSC (fun o ho => ?_) ?_
  rotate_left
  · simp only [List.getElem?_toArray, List.getElem?_cons_zero, List.getElem?_cons_succ, Option.some.injEq] at ho; subst ho; refine Or.inl ⟨by rfl, fun w' hSw => ?_⟩; (try dsimp only at hSw); go_simp; try with_reducible rfl
  simp only [Act.put, List.setIfInBounds_toArray, List.set_cons_zero, List.set_cons_succ]
  refine takeH (i := 15) (some 83) (v := ?_) rfl (by kernel_rfl) (by kernel_rfl) (by kernel_rfl) (fun _ _ _ h => h) hSC (fun o ho => ?_) ?_
  rotate_left
  · simp only [List.getElem?_toArray, List.getElem?_cons_zero, List.getElem?_cons_succ, Option.some.injEq] at ho; subst ho; refine Or.inl ⟨by rfl, fun w' hSw => ?_⟩; (try dsimp only at hSw); go_simp; try with_reducible rfl
  simp only [Act.put, List.setIfInBounds_toArray, List.set_cons_zero, List.set_cons_succ]
  refine takeH (i := 16) (some 84) (v := ?_) rfl (by kernel_rfl) (by kernel_rfl) (by kernel_rfl) (fun _ _ _ h => h) hSC (fun o ho => ?_) ?_
  rotate_left
  · simp only [List.getElem?_toArray, List.getElem?_cons_zero, List.getElem?_cons_succ, Option.some.injEq] at ho; subst ho; refine Or.inl ⟨by rfl, fun w' hSw => ?_⟩; (try dsimp only at hSw); go_simp; try with_reducible rfl
  simp only [Act.put, List.setIfInBounds_toArray, List.set_cons_zero, List.set_cons_succ]
  refine wpAnyH_done (by kernel_rfl) ?_ _
  refine lastH (by decide) (fun o ho K' hK => ?_)
  simp only [List.getElem?_toArray, List.getElem?_cons_zero, List.getElem?_cons_succ, Option.some.injEq] at ho; subst ho
  go_simp
  refine hK.out _ _ ?_
  clear hK K'
  clear e1 e15 e16 e17 e18 d0 d1 d2 d3 d4
  go_wp2_with fail
  go_end0
  exact ⟨rfl, ⟨_, by rw [HE.out]; exact HMC.out.1⟩, HBB2.out.trans HMC.out.2⟩

end Go.Proofs.Ytcjmhdneelmbhaa
