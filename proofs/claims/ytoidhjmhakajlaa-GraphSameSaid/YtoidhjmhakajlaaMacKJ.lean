/- A block's end is done. -/
import Derived.Test.YtoidhjmhakajlaaMacH
namespace Go.Proofs.Ytoidhjmhakajlaa
open Go.ChangeShapes Go.WideShapes Go.RowKit Go.Deep
set_option linter.unusedVariables false

theorem hasTo_mem {x : Int} {l : List Int} (h : x ∈ l) : hasTo x l = true := by unfold hasTo; rw [List.any_eq_true]; exact ⟨x, h, by simp⟩
theorem aheadK_has (bs : List BlkD) (i k : Nat) (b : BlkD) (x : Int) (h : bs[k]? = some b) (hx : x ∈ b.term.to) : ((i + k : Nat) : Int) ∈ aheadK bs i x := by
  induction bs generalizing i k with
  | nil => simp at h
  | cons y r ih =>
    simp only [aheadK, List.mem_append]
    cases k with
    | zero =>
      obtain rfl := Option.some.inj h
      left; rw [if_pos (hasTo_mem hx)]; simp
    | succ k =>
      right
      have := ih (i + 1) k h
      rwa [show i + 1 + k = i + (k + 1) by omega] at this
theorem ahead_has {bs : List BlkD} {k : Nat} {b : BlkD} {x : Int} (h : bs[k]? = some b) (hx : x ∈ b.term.to) : (k : Int) ∈ aheadL bs x := by
  have := aheadK_has bs 0 k b x h hx
  rwa [Nat.zero_add] at this
/-- Where a run stands is all right. -/
structure OkC (m : List FunD) (fr : Fr) (f : FunD) (kb : BlkD) : Prop where
  hf : m[fr.fn]? = some f
  hb : f.blocks[fr.blk]? = some kb
  hat : fr.at_ ≤ kb.ins.length
  zero : ∀ i, f.regs.length ≤ i → fr.regs i = 0
theorem enter_ok {m : List FunD} {s : St} {f : FunD} {kb : BlkD} (hF : FunOk m f) (h : OkC m s.cur f kb) {x : Int} (hx : x ∈ kb.term.to) : ∃ kt, EnterOk m s x.toNat f kt ∧ x = (x.toNat : Int) := by
  have hto := hF.to kb (List.mem_of_getElem? h.hb) x hx
  have hlt : x.toNat < f.blocks.length := by omega
  refine ⟨f.blocks[x.toNat], ⟨h.hf, List.getElem?_eq_getElem hlt, ?_, ?_, fun p hp => ?_⟩, by omega⟩
  · have := ahead_has h.hb hx
    rwa [show x = ((x.toNat : Nat) : Int) by omega] at this
  · have := hF.items _ (List.getElem_mem hlt); omega
  · obtain ⟨h1, h2, h3⟩ := hF.phis x.toNat _ (List.getElem?_eq_getElem hlt) p hp
    have := hF.nr
    exact ⟨h1, ⟨h2.1, by have := h2.2; omega⟩, fun a ha => ⟨(h3 a ha).1, by have := (h3 a ha).2; omega⟩⟩

def ToldM' (K P : Nat) (m : List FunD) (w : World) (s : St) (e : Ending) (w' : World) : Prop := e = .returned (.tuple #[]) ∧ (∃ rd, Mac K P m w' s rd) ∧ BB K P w w'
theorem box_bb {K P : Nat} {m : List FunD} {w w1 : World} {s : St} {rd : List Int} (h : Mac K P m w s rd) (hB : Below w.heap.size w w1) : BB K P w w1 := by obtain ⟨_, _, _, _, _, hK⟩ := h; exact BB.of_below hB hK

set_option maxRecDepth 100000 in
set_option maxHeartbeats 8000000 in
theorem end_any (K P : Nat) (m : List FunD) (w : World) (s : St) (rd : List Int) (f : FunD) (kb : BlkD) (v : Value) (h : Mac K P m w s rd) (hF : FunOk m f) (hok : OkC m s.cur f kb) (hst : ∀ c ∈ s.stack, Waits m c) (hsl : s.stack.length ≤ 1048576)
    (hv : VTerm w v kb.term) : Calls Try.prog 55 #[.pointer (some ⟨P, 0, none⟩), v] w (ToldM' K P m w (endS m s kb.term)) := by
  obtain ⟨At, ct, rfl, hto, hk64, ha64⟩ := hv
  obtain ⟨w1, hw1, hs1, hk1, hB1, hc1, hf1⟩ := named w #[.int .i64 kb.term.kind, .int .i64 kb.term.arg, .slice At kb.term.to.length ct] 43
  have b0 : w1.cell? ⟨w.heap.size, 0, none⟩ = some (.int .i64 kb.term.kind) := hc1 0 _ rfl
  have b1 : w1.cell? ⟨w.heap.size, 1, none⟩ = some (.int .i64 kb.term.arg) := hc1 1 _ rfl
  have b2 : w1.cell? ⟨w.heap.size, 2, none⟩ = some (.slice At kb.term.to.length ct) := hc1 2 _ rfl
  have hto1 := SInts.keep hk1 hto
  have hm1 := h.below hB1
  have hbb1 := box_bb h hB1
  have hr256 := hF.nr
  have hwlt : w.heap.size < w1.heap.size := by omega
  rcases hF.kind kb (List.mem_of_getElem? hok.hb) with ⟨hk, hl⟩ | ⟨hk, hl, harg⟩ | ⟨hk, hl, harg⟩
  · -- a jump
    obtain ⟨x, hx⟩ := len_one hl
    obtain ⟨kt, hek, hxn⟩ := enter_ok hF hok (x := x) (by rw [hx]; simp)
    obtain ⟨n, hn⟩ : ∃ n : Nat, n = x.toNat := ⟨_, rfl⟩
    rw [← hn] at hek hxn
    have HE : Hid (endS m s kb.term = { s with cur := goToF f s.cur n }) := Lib.hid (by
      unfold endS; rw [if_neg (by omega), if_neg (by omega), getD_of hok.hf, hx, hn]; rfl)
    have HG := Lib.hid (fun k => goTo_any K P m (w1.drewN k) s rd n f kt (hm1.drewN k) hek)
    obtain ⟨bt, ot, y, rfl, hy, hyc, -⟩ := hto1.int (k := 0) (by omega)
    have hyx : y = n := by have := hy.out; rw [hx] at this; rw [← hxn]; exact (Option.some.inj this).symm
    rw [hyx, Nat.add_zero] at hyc
    have e3 : (kb.term.kind == 3) = false := by rw [hk]; rfl
    have e2 : (kb.term.kind == 2) = false := by rw [hk]; rfl
    have l0 : (0 : Int) < kb.term.to.length := by omega
    clear hto hto1 hm1 h hF hok hst hsl hy hyx hek hxn hn hx hc1 hf1 hk1 hB1 hs1 hk64 ha64 hr256 hk hl
    rw [HE.out]
    go_enter Try.func55, Try.ntmps55
    go_wp2_with fail
    rw [← hw1]
    clear hw1
    go_quiet (fail)
    go_wp2_with fail
    refine (HG.out nq).mono ?_
    rintro e w' ⟨rfl, h1, h2⟩
    go_wp2_with fail
    go_end0
    exact ⟨rfl, h1, (hbb1.drewN nq).trans h2⟩
  · -- a branch
    obtain ⟨x, x2, hx⟩ := len_two hl
    obtain ⟨r, hr⟩ : ∃ r : Nat, kb.term.arg = r := ⟨kb.term.arg.toNat, by have := harg.1; omega⟩
    have hr2 : r < 256 := by have := harg.2; omega
    have hr0 : (0 : Int) ≤ r := by omega
    have hr1 : (r : Int) < 256 := by omega
    have creg : w1.cell? ⟨P, 3 + r, none⟩ = some (.int .i64 (s.cur.regs r)) := by obtain ⟨q, hb, _⟩ := hm1; exact hb.reg hr2
    by_cases hz : s.cur.regs r = 0
    · obtain ⟨kt, hek, hxn⟩ := enter_ok hF hok (x := x2) (by rw [hx]; simp)
      obtain ⟨n, hn⟩ : ∃ n : Nat, n = x2.toNat := ⟨_, rfl⟩
      rw [← hn] at hek hxn
      have HE : Hid (endS m s kb.term = { s with cur := goToF f s.cur n }) := Lib.hid (by
        unfold endS; rw [if_neg (by omega), if_pos ⟨hk, by rw [hr]; exact hz⟩, getD_of hok.hf, hx, hn]; rfl)
      have HG := Lib.hid (fun k => goTo_any K P m (w1.drewN k) s rd n f kt (hm1.drewN k) hek)
      obtain ⟨bt, ot, y, rfl, hy, hyc, -⟩ := hto1.int (k := 1) (by omega)
      have hyx : y = n := by have := hy.out; rw [hx] at this; rw [← hxn]; exact (Option.some.inj this).symm
      rw [hyx] at hyc
      rw [hr] at b1
      rw [hz] at creg
      have HYC := Lib.hid hyc
      clear harg hz hr hyc
      have e3 : (kb.term.kind == 3) = false := by rw [hk]; rfl
      have e2 : (kb.term.kind == 2) = true := by rw [hk]; rfl
      have l0 : (0 : Int) < kb.term.to.length := by omega
      have l1 : (1 : Int) < kb.term.to.length := by omega
      clear hto hto1 hm1 h hF hok hst hsl hy hyx hek hxn hn hx hc1 hf1 hk1 hB1 hs1 hk64 ha64 hr256 hk hl
      rw [HE.out]
      have hyc : w1.cell? ⟨bt, ot + 1, none⟩ = some (.int .i64 n) := HYC.out
      go_enter Try.func55, Try.ntmps55
      go_wp2_with fail
      rw [← hw1]
      clear hw1
      go_quiet (fail)
      go_wp2_with fail
      refine (HG.out nq).mono ?_
      rintro e w' ⟨rfl, h1, h2⟩
      go_wp2_with fail
      go_end0
      exact ⟨rfl, h1, (hbb1.drewN nq).trans h2⟩
    · obtain ⟨kt, hek, hxn⟩ := enter_ok hF hok (x := x) (by rw [hx]; simp)
      obtain ⟨n, hn⟩ : ∃ n : Nat, n = x.toNat := ⟨_, rfl⟩
      rw [← hn] at hek hxn
      have HE : Hid (endS m s kb.term = { s with cur := goToF f s.cur n }) := Lib.hid (by
        unfold endS; rw [if_neg (by omega), if_neg (by rw [hr]; exact fun h => hz h.2), getD_of hok.hf, hx, hn]; rfl)
      have HG := Lib.hid (fun k => goTo_any K P m (w1.drewN k) s rd n f kt (hm1.drewN k) hek)
      obtain ⟨bt, ot, y, rfl, hy, hyc, -⟩ := hto1.int (k := 0) (by omega)
      have hyx : y = n := by have := hy.out; rw [hx] at this; rw [← hxn]; exact (Option.some.inj this).symm
      rw [hyx, Nat.add_zero] at hyc
      rw [hr] at b1
      have hzb : (s.cur.regs r == 0) = false := by simp [hz]
      clear harg hz hr
      have e3 : (kb.term.kind == 3) = false := by rw [hk]; rfl
      have e2 : (kb.term.kind == 2) = true := by rw [hk]; rfl
      have l0 : (0 : Int) < kb.term.to.length := by omega
      have l1 : (1 : Int) < kb.term.to.length := by omega
      clear hto hto1 hm1 h hF hok hst hsl hy hyx hek hxn hn hx hc1 hf1 hk1 hB1 hs1 hk64 ha64 hr256 hk hl
      rw [HE.out]
      go_enter Try.func55, Try.ntmps55
      go_wp2_with fail
      rw [← hw1]
      clear hw1
      go_quiet (fail)
      go_wp2_with fail
      refine (HG.out nq).mono ?_
      rintro e w' ⟨rfl, h1, h2⟩
      go_wp2_with fail
      go_end0
      exact ⟨rfl, h1, (hbb1.drewN nq).trans h2⟩
  · -- a return
    have hreg : kb.term.arg = -1 ∨ InR 256 kb.term.arg := by
      rcases harg with h | h
      · exact .inl h
      · exact .inr ⟨h.1, by have := h.2; omega⟩
    have HE : Hid (endS m s kb.term = giveS m s (backV s kb.term.arg)) := Lib.hid (by unfold endS backV; rw [if_pos hk])
    have HG := Lib.hid (giveBack_any K P m w1 s rd kb.term.arg hm1 hreg hst hsl)
    have e3 : (kb.term.kind == 3) = true := by rw [hk]; rfl
    have e2 : (kb.term.kind == 2) = false := by rw [hk]; rfl
    clear hto hto1 hm1 h hF hok hst hsl hc1 hf1 hk1 hB1 hs1 hk64 ha64 hr256 harg hreg hk hl
    rw [HE.out]
    go_enter Try.func55, Try.ntmps55
    go_wp2_with fail
    rw [← hw1]
    refine HG.out.mono ?_
    rintro e w' ⟨rfl, h1, h2⟩
    go_wp2_with fail
    go_end0
    exact ⟨rfl, ⟨_, h1⟩, hbb1.trans h2⟩
end Go.Proofs.Ytoidhjmhakajlaa

/- What an instruction does to the machine's rows; constants, words, what is reckoned. -/
namespace Go.Proofs.Ytoidhjmhakajlaa
open Go.ChangeShapes Go.WideShapes Go.RowKit Go.Deep
set_option linter.unusedVariables false

/-- What was put out is another list. -/
theorem mac_out {K P : Nat} {m : List FunD} {w w1 : World} {s : St} {q : MV} {rd out' : List Int} {v' : Value} (hb : MacB P w s q) (he : Env K P w m q) (hd : Dyn K w s q rd) (hP : P < K) (hK : K ≤ w.heap.size)
    (hg : Gro w w1 q.vo v') (hown : w1.ownsRow K 2 1 v' out'.length (out'.map (Value.int .i64))) : Mac K P m (w1.setCell ⟨P, 266, none⟩ v') { s with out := out' } rd ∧ BB K P w (w1.setCell ⟨P, 266, none⟩ v') := by
  obtain ⟨a1, a2, ⟨cc, a3, a4⟩, a5, a6, a7⟩ := hd
  have hPv : q.vo.ownBlock ≠ some P := fun e => by have := (a2.lt P e).1; omega
  have hb1 : MacB P (w1.setCell ⟨P, 266, none⟩ v') { s with out := out' } { q with vo := v' } := (gro_block hg hb hPv).set (set_mid (by omega) (by omega) rfl rfl rfl
    (mid_cases (fun _ => rfl) (fun _ => rfl) (fun _ => rfl) (fun _ => rfl) (fun _ => rfl) (fun _ => rfl) (fun _ => rfl) (fun h => absurd rfl h) (fun _ => rfl)))
  have hS : ∀ k, k < w1.heap.size → k ≠ P → (w1.setCell ⟨P, 266, none⟩ v').heap[k]? = w1.heap[k]? := fun k hk hne => set_others k hk hne
  have hkeep : ∀ {n size : Nat} {e : TypeId} {u : Value} {xs : List Value}, w1.ownsRow K e size u n xs → (w1.setCell ⟨P, 266, none⟩ v').ownsRow K e size u n xs := fun h =>
    owns_keep h (fun g _ hb hl => hS g hl (by omega))
  have hsize := hg.size
  have hsz : (w1.setCell ⟨P, 266, none⟩ v').heap.size = w1.heap.size := by simp [World.setCell]
  refine ⟨⟨{ q with vo := v' }, hb1, env_set he rfl rfl (fun k h1 h2 h3 => (hS k (by omega) h2).trans (hg.block k h3 (fun e => by have := (a2.lt k e).1; omega))),
    ⟨hkeep (owns_of_gro hg a1 a5), hkeep hown, ⟨cc, hkeep (owns_of_gro hg a3 (apart_symm a7)), ?_⟩, apart_of_gro hg a1 a5, a6, apart_symm (apart_of_gro hg a3 (apart_symm a7))⟩, hP, by omega⟩, ?_⟩
  · refine a4.imp fun fr cs hc => CCal.go (fun a v hB hv => ?_) (fun b hB => ⟨hB.1.1, hB.1.2.1, fun e => ?_, hB.1.2.2.2⟩) hc.lt
    · rw [World.cell?_of_block ((hS a.block (by omega) (by omega)).trans (hg.block a.block hB.2 (fun e => hB.1.2.2.1 e.symm)))]; exact hv
    · rcases hg.own b e.symm with h | h
      · exact hB.1.2.2.1 h.symm
      · omega
  · exact BB.setCell (p := ⟨P, 266, none⟩) ⟨hg.os, hg.tape, hg.output, hg.size, fun k hk hne => hg.block k (by omega) (fun e => by have := (a2.lt k e).1; omega)⟩ (.inl rfl) v'
/-- One caller more. -/
theorem mac_push {K P : Nat} {m : List FunD} {w w1 : World} {s : St} {q : MV} {rd l : List Int} {v' : Value} {cc : List Value} {fr : Fr} {A : Option Addr} {cA : Nat} (hb : MacB P w s q) (he : Env K P w m q) (hd : Dyn K w s q rd) (hP : P < K) (hK : K ≤ w.heap.size)
    (hrows : Rows 4 (CCal (fun b => K ≤ b ∧ some b ≠ q.vr.ownBlock ∧ some b ≠ q.vo.ownBlock ∧ some b ≠ q.vc.ownBlock) w) s.stack.reverse cc)
    (hg : Gro w w1 q.vc v') (hown : w1.ownsRow K 113 4 v' (s.stack.length + 1) (cc ++ [.int .i64 fr.fn, .int .i64 fr.blk, .int .i64 fr.at_, .slice A l.length cA]))
    (hs : SL w 1 (RWB (fun b => K ≤ b ∧ some b ≠ q.vr.ownBlock ∧ some b ≠ q.vo.ownBlock ∧ some b ≠ q.vc.ownBlock)) A cA l) (hl : l.length ≤ 256) (hr : ∀ i, fr.regs i = l.getD i 0) :
    Mac K P m (w1.setCell ⟨P, 259, none⟩ v') { s with stack := fr :: s.stack } rd ∧ BB K P w (w1.setCell ⟨P, 259, none⟩ v') := by
  obtain ⟨a1, a2, ⟨cc0, a3, -⟩, a5, a6, a7⟩ := hd
  have hPv : q.vc.ownBlock ≠ some P := fun e => by have := (a3.lt P e).1; omega
  have hb1 : MacB P (w1.setCell ⟨P, 259, none⟩ v') { s with stack := fr :: s.stack } { q with vc := v' } := (gro_block hg hb hPv).set (set_mid (by omega) (by omega) rfl rfl rfl
    (mid_cases (fun h => absurd rfl h) (fun _ => rfl) (fun _ => rfl) (fun _ => rfl) (fun _ => rfl) (fun _ => rfl) (fun _ => rfl) (fun _ => rfl) (fun _ => rfl)))
  have hS : ∀ k, k < w1.heap.size → k ≠ P → (w1.setCell ⟨P, 259, none⟩ v').heap[k]? = w1.heap[k]? := fun k hk hne => set_others k hk hne
  have hkeep : ∀ {n size : Nat} {e : TypeId} {u : Value} {xs : List Value}, w1.ownsRow K e size u n xs → (w1.setCell ⟨P, 259, none⟩ v').ownsRow K e size u n xs := fun h =>
    owns_keep h (fun g _ hb hl => hS g hl (by omega))
  have hsize := hg.size
  have hsz : (w1.setCell ⟨P, 259, none⟩ v').heap.size = w1.heap.size := by simp [World.setCell]
  have hgo : KeptB (fun b => (K ≤ b ∧ some b ≠ q.vr.ownBlock ∧ some b ≠ q.vo.ownBlock ∧ some b ≠ q.vc.ownBlock) ∧ b < w.heap.size) w (w1.setCell ⟨P, 259, none⟩ v') := fun a v hB hv => by
    rw [World.cell?_of_block ((hS a.block (by omega) (by omega)).trans (hg.block a.block hB.2 (fun e => hB.1.2.2.2 e.symm)))]; exact hv
  have hB' : ∀ b, ((K ≤ b ∧ some b ≠ q.vr.ownBlock ∧ some b ≠ q.vo.ownBlock ∧ some b ≠ q.vc.ownBlock) ∧ b < w.heap.size) → (K ≤ b ∧ some b ≠ q.vr.ownBlock ∧ some b ≠ q.vo.ownBlock ∧ some b ≠ v'.ownBlock) := fun b hB =>
    ⟨hB.1.1, hB.1.2.1, hB.1.2.2.1, fun e => by
      rcases hg.own b e.symm with h | h
      · exact hB.1.2.2.2 h.symm
      · omega⟩
  refine ⟨⟨{ q with vc := v' }, hb1, env_set he rfl rfl (fun k h1 h2 h3 => (hS k (by omega) h2).trans (hg.block k h3 (fun e => by have := (a3.lt k e).1; omega))),
    ⟨hkeep (owns_of_gro hg a1 a6), hkeep (owns_of_gro hg a2 a7), ⟨_, hkeep hown, ?_⟩, a5, apart_of_gro hg a1 a6, apart_of_gro hg a2 a7⟩, hP, by omega⟩, ?_⟩
  · show Rows 4 _ (fr :: s.stack).reverse _
    rw [List.reverse_cons]
    have h1 : Rows 4 (CCal (fun b => K ≤ b ∧ some b ≠ q.vr.ownBlock ∧ some b ≠ q.vo.ownBlock ∧ some b ≠ v'.ownBlock) (w1.setCell ⟨P, 259, none⟩ v')) s.stack.reverse cc := hrows.imp fun fr cs hc => CCal.go (fr := fr) (cs := cs) hgo hB' hc.lt
    have h2 : CCal (fun b => K ≤ b ∧ some b ≠ q.vr.ownBlock ∧ some b ≠ q.vo.ownBlock ∧ some b ≠ v'.ownBlock) (w1.setCell ⟨P, 259, none⟩ v') fr [.int .i64 fr.fn, .int .i64 fr.blk, .int .i64 fr.at_, .slice A l.length cA] :=
      ⟨A, cA, l, rfl, SL.imp (RWB.go hgo hB') (SL.imp (fun b o x hx => RWB.lt b o x hx) hs), hl, hr⟩
    exact Rows.snoc h2 rfl h1
  · exact BB.setCell (p := ⟨P, 259, none⟩) ⟨hg.os, hg.tape, hg.output, hg.size, fun k hk hne => hg.block k (by omega) (fun e => by have := (a3.lt k e).1; omega)⟩ (.inl rfl) v'
/-- A word is set. -/
theorem mac_word {K P : Nat} {m : List FunD} {w : World} {s : St} {rd : List Int} (h : Mac K P m w s rd) {k : Nat} (hk : k < 64) (v : Int) : Mac K P m (w.setCell ⟨P, 268 + k, none⟩ (.int .i64 v)) { s with mem := upd s.mem k v } rd ∧ BB K P w (w.setCell ⟨P, 268 + k, none⟩ (.int .i64 v)) := by
  obtain ⟨q, hb, he, hd, hP, hK⟩ := h
  have hb1 : MacB P (w.setCell ⟨P, 268 + k, none⟩ (.int .i64 v)) { s with mem := upd s.mem k v } q := hb.set (set_mem s q k v hk)
  exact ⟨mac_of hb1 he hd hP hK (by simp [World.setCell]) (fun k hk hne => set_others k hk hne) rfl rfl rfl, (BB.refl K P w).setCell (p := ⟨P, 268 + k, none⟩) (.inl rfl) _⟩
theorem apart_new {K P : Nat} {m : List FunD} {w w1 : World} {s : St} {rd : List Int} (h : Mac K P m w s rd) (hB : Below w.heap.size w w1) {k : Nat} (hk : w.heap.size ≤ k) : ApartM P w1 k := by
  obtain ⟨q, hb, he, hd, hP, hK⟩ := h
  have hb1 : MacB P w1 s q := (hB.block P hb.lt).trans hb
  have hlt := hb.lt
  obtain ⟨cc, hc, _⟩ := hd.calls
  refine ⟨by omega, fun i u hi hu e => ?_⟩
  rcases hi with rfl | rfl | rfl
  · have h1 : some u = some q.vc := hu.symm.trans (hb1.cell (by omega))
    have := (hc.lt k ((Option.some.inj h1) ▸ e)).2; omega
  · have h1 : some u = some q.vr := hu.symm.trans (hb1.cell (by omega))
    have := (hd.rdv.lt k ((Option.some.inj h1) ▸ e)).2; omega
  · have h1 : some u = some q.vo := hu.symm.trans (hb1.cell (by omega))
    have := (hd.outv.lt k ((Option.some.inj h1) ▸ e)).2; omega
end Go.Proofs.Ytoidhjmhakajlaa

/- An instruction is done: constants, what is reckoned. (Written by gen/genmack.py.) -/
namespace Go.Proofs.Ytoidhjmhakajlaa
open Go.ChangeShapes Go.WideShapes Go.RowKit Go.Deep
set_option linter.unusedVariables false

set_option maxRecDepth 100000 in
set_option maxHeartbeats 8000000 in
theorem do_const (K P : Nat) (m : List FunD) (w : World) (s : St) (rd : List Int) (x : InsD) (Ax : Option Addr) (cx : Nat) (h : Mac K P m w s rd) (hargs : SL w 1 (RIntB (Old K P)) Ax cx x.args) (hlen : x.args.length ≤ 1000) (hin : ∀ r ∈ x.args, InR 256 r)
    (hop : x.op = 1) (hdst : InR 256 x.dst) :
    Calls Try.prog 56 #[.pointer (some ⟨P, 0, none⟩), .agg #[.int .i64 x.op, .int .i64 x.dst, .slice Ax x.args.length cx, .int .i64 x.imm, .int .i64 x.fn]] w (ToldM' K P m w (doS s x)) := by
  obtain ⟨w1, hw1, hs1, hk1, hB1, hc1, hf1⟩ := named w #[.int .i64 x.op, .int .i64 x.dst, .slice Ax x.args.length cx, .int .i64 x.imm, .int .i64 x.fn] 41
  have hm1 := h.below hB1
  have hbb1 := box_bb h hB1
  have hap := apart_new h hB1 (Nat.le_refl _)
  have HRD := Lib.hid (readAll_any K P m w1 s rd x.args (.slice Ax x.args.length cx) hm1 ⟨Ax, cx, rfl, SIntsB.go (KeptB.of hk1) (fun _ h => h) hargs⟩ hlen hin)
  have HAP := Lib.hid hap
  have HC := Lib.hid hc1
  have hwlt : w.heap.size < w1.heap.size := by omega
  have e1 : (x.op == 1) = true := by rw [hop]; rfl
  have e15 : (x.op == 15) = false := by rw [hop]; rfl
  have e16 : (x.op == 16) = false := by rw [hop]; rfl
  have e18 : (x.op == 18) = false := by rw [hop]; rfl
  have e17 : (x.op == 17) = false := by rw [hop]; rfl
  have HE : Hid (doS s x = setR s x.dst x.imm) := Lib.hid (by unfold doS; rw [if_pos hop])
  clear hop
  obtain ⟨d, hd⟩ : ∃ d : Nat, x.dst = d := ⟨x.dst.toNat, by have := hdst.1; omega⟩
  have hd256 : d < 256 := by have := hdst.2; omega
  have hz0 : (0 : Int) ≤ d := by omega
  have hz1 : (d : Int) < 256 := by omega
  have HD := Lib.hid hd
  clear hdst hd
  clear hm1 hap hc1 hf1 hk1 hB1 hs1 hargs hlen hin h
  go_enter Try.func56, Try.ntmps56
  go_wp2_with fail
  rw [← hw1]
  clear hw1
  refine HRD.out.mono ?_
  rintro e w2 ⟨rfl, hm2, hbb2, hfr2⟩
  have hbx : w2.heap[w.heap.size]? = w1.heap[w.heap.size]? := (hfr2.2 w.heap.size hwlt HAP.out).1
  have d0 : w2.cell? ⟨w.heap.size, 0, none⟩ = some (.int .i64 x.op) := (World.cell?_of_block (a := ⟨w.heap.size, 0, none⟩) hbx).trans (HC.out 0 _ rfl)
  have d1 : w2.cell? ⟨w.heap.size, 1, none⟩ = some (.int .i64 x.dst) := (World.cell?_of_block (a := ⟨w.heap.size, 1, none⟩) hbx).trans (HC.out 1 _ rfl)
  have d2 : w2.cell? ⟨w.heap.size, 2, none⟩ = some (.slice Ax x.args.length cx) := (World.cell?_of_block (a := ⟨w.heap.size, 2, none⟩) hbx).trans (HC.out 2 _ rfl)
  have d3 : w2.cell? ⟨w.heap.size, 3, none⟩ = some (.int .i64 x.imm) := (World.cell?_of_block (a := ⟨w.heap.size, 3, none⟩) hbx).trans (HC.out 3 _ rfl)
  have d4 : w2.cell? ⟨w.heap.size, 4, none⟩ = some (.int .i64 x.fn) := (World.cell?_of_block (a := ⟨w.heap.size, 4, none⟩) hbx).trans (HC.out 4 _ rfl)
  have hlt2 : w.heap.size < w2.heap.size := Nat.lt_of_lt_of_le hwlt hfr2.1
  have HAP2 := Lib.hid (hfr2.2 w.heap.size hwlt HAP.out).2
  have HM2 := Lib.hid hm2
  have HBB2 := Lib.hid (hbb1.trans hbb2)
  clear hbx hfr2 hbb2 hbb1 HRD HAP hwlt hm2
  have creg : w2.cell? ⟨P, 3 + d, none⟩ = some (.int .i64 (s.cur.regs d)) := by obtain ⟨q, hb, _⟩ := HM2.out; exact hb.reg hd256
  have freg : w2.frozen? ⟨P, 3 + d, none⟩ = false := by obtain ⟨q, hb, _⟩ := HM2.out; exact hb.free _
  rw [HD.out] at d1
  go_wp2_with fail
  clear d0 d2 d4 e1 e15 e16 e17 e18 hlt2 HC
  go_still_tail 8, (by kernel_rfl)
  change wpList _ _ _ _ _ w2.drew
  clear d1 d3
  go_wp2_with fail
  go_end0
  obtain ⟨z1, z2⟩ := mac_setR HM2.out hd256 x.imm
  exact ⟨rfl, ⟨_, by rw [HE.out, HD.out]; exact z1.drewN 1⟩, (HBB2.out.trans z2).drewN 1⟩

set_option maxRecDepth 100000 in
set_option maxHeartbeats 8000000 in
theorem do_rest (K P : Nat) (m : List FunD) (w : World) (s : St) (rd : List Int) (x : InsD) (Ax : Option Addr) (cx : Nat) (h : Mac K P m w s rd) (hargs : SL w 1 (RIntB (Old K P)) Ax cx x.args) (hlen : x.args.length ≤ 1000) (hin : ∀ r ∈ x.args, InR 256 r)
    (hop : 2 ≤ x.op ∧ x.op ≤ 14) (hl : (x.args.length : Int) = opArity x.op) (hdst : InR 256 x.dst) (hv : VIns w (.agg #[.int .i64 x.op, .int .i64 x.dst, .slice Ax x.args.length cx, .int .i64 x.imm, .int .i64 x.fn]) x) :
    Calls Try.prog 56 #[.pointer (some ⟨P, 0, none⟩), .agg #[.int .i64 x.op, .int .i64 x.dst, .slice Ax x.args.length cx, .int .i64 x.imm, .int .i64 x.fn]] w (ToldM' K P m w (doS s x)) := by
  obtain ⟨w1, hw1, hs1, hk1, hB1, hc1, hf1⟩ := named w #[.int .i64 x.op, .int .i64 x.dst, .slice Ax x.args.length cx, .int .i64 x.imm, .int .i64 x.fn] 41
  have hm1 := h.below hB1
  have hbb1 := box_bb h hB1
  have hap := apart_new h hB1 (Nat.le_refl _)
  have HRD := Lib.hid (readAll_any K P m w1 s rd x.args (.slice Ax x.args.length cx) hm1 ⟨Ax, cx, rfl, SIntsB.go (KeptB.of hk1) (fun _ h => h) hargs⟩ hlen hin)
  have HAP := Lib.hid hap
  have HC := Lib.hid hc1
  have hwlt : w.heap.size < w1.heap.size := by omega
  have HARG := Lib.hid hargs
  have e1 : (x.op == 1) = false := by rw [beq_eq_false_iff_ne]; omega
  have e15 : (x.op == 15) = false := by rw [beq_eq_false_iff_ne]; omega
  have e16 : (x.op == 16) = false := by rw [beq_eq_false_iff_ne]; omega
  have e18 : (x.op == 18) = false := by rw [beq_eq_false_iff_ne]; omega
  have e17 : (x.op == 17) = false := by rw [beq_eq_false_iff_ne]; omega
  have HE : Hid (doS s x = reckS s x (argsV s.cur.regs x.args)) := Lib.hid (by
    unfold doS reckS; rw [if_neg (by omega), if_neg (by omega), if_neg (by omega), if_neg (by omega), if_neg (by omega)]; cases evalV x.op (argsV s.cur.regs x.args) <;> rfl)
  have HV := Lib.hid hv
  have HOP := Lib.hid hop
  have HL := Lib.hid hl
  have HDST := Lib.hid hdst
  clear hv hop hl hdst
  clear hm1 hap hc1 hf1 hk1 hB1 hs1 hargs hlen hin h
  go_enter Try.func56, Try.ntmps56
  go_wp2_with fail
  rw [← hw1]
  clear hw1
  refine HRD.out.mono ?_
  rintro e w2 ⟨rfl, hm2, hbb2, hfr2⟩
  have hbx : w2.heap[w.heap.size]? = w1.heap[w.heap.size]? := (hfr2.2 w.heap.size hwlt HAP.out).1
  have d0 : w2.cell? ⟨w.heap.size, 0, none⟩ = some (.int .i64 x.op) := (World.cell?_of_block (a := ⟨w.heap.size, 0, none⟩) hbx).trans (HC.out 0 _ rfl)
  have d1 : w2.cell? ⟨w.heap.size, 1, none⟩ = some (.int .i64 x.dst) := (World.cell?_of_block (a := ⟨w.heap.size, 1, none⟩) hbx).trans (HC.out 1 _ rfl)
  have d2 : w2.cell? ⟨w.heap.size, 2, none⟩ = some (.slice Ax x.args.length cx) := (World.cell?_of_block (a := ⟨w.heap.size, 2, none⟩) hbx).trans (HC.out 2 _ rfl)
  have d3 : w2.cell? ⟨w.heap.size, 3, none⟩ = some (.int .i64 x.imm) := (World.cell?_of_block (a := ⟨w.heap.size, 3, none⟩) hbx).trans (HC.out 3 _ rfl)
  have d4 : w2.cell? ⟨w.heap.size, 4, none⟩ = some (.int .i64 x.fn) := (World.cell?_of_block (a := ⟨w.heap.size, 4, none⟩) hbx).trans (HC.out 4 _ rfl)
  have hlt2 : w.heap.size < w2.heap.size := Nat.lt_of_lt_of_le hwlt hfr2.1
  have HAP2 := Lib.hid (hfr2.2 w.heap.size hwlt HAP.out).2
  have HM2 := Lib.hid hm2
  have HBB2 := Lib.hid (hbb1.trans hbb2)
  clear hbx hfr2 hbb2 hbb1 HRD HAP hwlt hm2
  have HVI : Hid (VIns w2 (.agg #[.int .i64 x.op, .int .i64 x.dst, .slice Ax x.args.length cx, .int .i64 x.imm, .int .i64 x.fn]) x) := Lib.hid (by
    obtain ⟨A, c, e, h1, h2⟩ := HV.out
    have h3 := SL.imp (R' := RIntB (Old K P)) (w' := w2) (fun b o y hy => hy) (SIntsB.go (HBB2.out.kept) (fun _ h => h) HARG.out)
    exact ⟨Ax, cx, rfl, SL.imp (fun b o y hy => hy.2) h3, h2⟩)
  go_wp2_with fail
  refine (reckon_any K P m w2 s _ x _ HM2.out HVI.out HOP.out (by rw [argsV_len]; exact HL.out) HDST.out).mono ?_
  rintro e w3 ⟨rfl, g1, g2⟩
  go_wp2_with fail
  go_end0
  exact ⟨rfl, ⟨_, by rw [HE.out]; exact g1⟩, HBB2.out.trans g2⟩

end Go.Proofs.Ytoidhjmhakajlaa
