/- A block's end is done. -/
import Derived.Test.YtoidhjmhakajlaaMacH
namespace Go.Proofs.Ytoidhjmhakajlaa
open Go.ChangeShapes Go.WideShapes Go.RowKit Go.Deep
set_option linter.unusedVariables false

theorem hasTo_mem {x : Int} {l : List Int} (h : x ∈ l) : hasTo x l = true := by unfold hasTo; rw [List.any_eq_true]; exact ⟨x, h, by simp⟩
theorem aheadK_has (bs : List BlkD) (i k : Nat) (b : BlkD) (x : Int) (h : bs[k]? = some b) (hx : x ∈ b.term.to) : ((i + k : Nat) : Int) ∈ aheadK bs i x := by
  induction bs generalizing i k with
  | nil => simp at h
  | cons y r ih =>
    simp only [aheadK, List.mem_append]
    cases k with
    | zero =>
      obtain rfl := Option.some.inj h
      left; rw [if_pos (hasTo_mem hx)]; simp
    | succ k =>
      right
      have := ih (i + 1) k h
      rwa [show i + 1 + k = i + (k + 1) by omega] at this
theorem ahead_has {bs : List BlkD} {k : Nat} {b : BlkD} {x : Int} (h : bs[k]? = some b) (hx : x ∈ b.term.to) : (k : Int) ∈ aheadL bs x := by
  have := aheadK_has bs 0 k b x h hx
  rwa [Nat.zero_add] at this
/-- Where a run stands is all right. -/
structure OkC (m : List FunD) (fr : Fr) (f : FunD) (kb : BlkD) : Prop where
  hf : m[fr.fn]? = some f
  hb : f.blocks[fr.blk]? = some kb
  hat : fr.at_ ≤ kb.ins.length
  zero : ∀ i, f.regs.length ≤ i → fr.regs i = 0
theorem enter_ok {m : List FunD} {s : St} {f : FunD} {kb : BlkD} (hF : FunOk m f) (h : OkC m s.cur f kb) {x : Int} (hx : x ∈ kb.term.to) : ∃ kt, EnterOk m s x.toNat f kt ∧ x = (x.toNat : Int) := by
  have hto := hF.to kb (List.mem_of_getElem? h.hb) x hx
  have hlt : x.toNat < f.blocks.length := by omega
  refine ⟨f.blocks[x.toNat], ⟨h.hf, List.getElem?_eq_getElem hlt, ?_, ?_, fun p hp => ?_⟩, by omega⟩
  · have := ahead_has h.hb hx
    rwa [show x = ((x.toNat : Nat) : Int) by omega] at this
  · have := hF.items _ (List.getElem_mem hlt); omega
  · obtain ⟨h1, h2, h3⟩ := hF.phis x.toNat _ (List.getElem?_eq_getElem hlt) p hp
    have := hF.nr
    exact ⟨h1, ⟨h2.1, by have := h2.2; omega⟩, fun a ha => ⟨(h3 a ha).1, by have := (h3 a ha).2; omega⟩⟩

def ToldM' (K P : Nat) (m : List FunD) (w : World) (s : St) (e : Ending) (w' : World) : Prop := e = .returned (.tuple #[]) ∧ (∃ rd, Mac K P m w' s rd) ∧ BB K P w w'
theorem box_bb {K P : Nat} {m : List FunD} {w w1 : World} {s : St} {rd : List Int} (h : Mac K P m w s rd) (hB : Below w.heap.size w w1) : BB K P w w1 := by obtain ⟨_, _, _, _, _, hK⟩ := h; exact BB.of_below hB hK

set_option maxRecDepth 100000 in
set_option maxHeartbeats 8000000 in
theorem end_any (K P : Nat) (m : List FunD) (w : World) (s : St) (rd : List Int) (f : FunD) (kb : BlkD) (v : Value) (h : Mac K P m w s rd) (hF : FunOk m f) (hok : OkC m s.cur f kb) (hst : ∀ c ∈ s.stack, Waits m c) (hsl : s.stack.length ≤ 1048576)
    (hv : VTerm w v kb.term) : Calls Try.prog 55 #[.pointer (some ⟨P, 0, none⟩), v] w (ToldM' K P m w (endS m s kb.term)) := by
  obtain ⟨At, ct, rfl, hto, hk64, ha64⟩ := hv
  obtain ⟨w1, hw1, hs1, hk1, hB1, hc1, hf1⟩ := named w #[.int .i64 kb.term.kind, .int .i64 kb.term.arg, .slice At kb.term.to.length ct] 43
  have b0 : w1.cell? ⟨w.heap.size, 0, none⟩ = some (.int .i64 kb.term.kind) := hc1 0 _ rfl
  have b1 : w1.cell? ⟨w.heap.size, 1, none⟩ = some (.int .i64 kb.term.arg) := hc1 1 _ rfl
  have b2 : w1.cell? ⟨w.heap.size, 2, none⟩ = some (.slice At kb.term.to.length ct) := hc1 2 _ rfl
  have hto1 := SInts.keep hk1 hto
  have hm1 := h.below hB1
  have hbb1 := box_bb h hB1
  have hr256 := hF.nr
  have hwlt : w.heap.size < w1.heap.size := by omega
  rcases hF.kind kb (List.mem_of_getElem? hok.hb) with ⟨hk, hl⟩ | ⟨hk, hl, harg⟩ | ⟨hk, hl, harg⟩
  · -- a jump
    obtain ⟨x, hx⟩ := len_one hl
    obtain ⟨kt, hek, hxn⟩ := enter_ok hF hok (x := x) (by rw [hx]; simp)
    obtain ⟨n, hn⟩ : ∃ n : Nat, n = x.toNat := ⟨_, rfl⟩
    rw [← hn] at hek hxn
    have HE : Hid (endS m s kb.term = { s with cur := goToF f s.cur n }) := Lib.hid (by
      unfold endS; rw [if_neg (by omega), if_neg (by omega), getD_of hok.hf, hx, hn]; rfl)
    have HG := Lib.hid (fun k => goTo_any K P m (w1.drewN k) s rd n f kt (hm1.drewN k) hek)
    obtain ⟨bt, ot, y, rfl, hy, hyc, -⟩ := hto1.int (k := 0) (by omega)
    have hyx : y = n := by have := hy.out; rw [hx] at this; rw [← hxn]; exact (Option.some.inj this).symm
    rw [hyx, Nat.add_zero] at hyc
    have e3 : (kb.term.kind == 3) = false := by rw [hk]; rfl
    have e2 : (kb.term.kind == 2) = false := by rw [hk]; rfl
    have l0 : (0 : Int) < kb.term.to.length := by omega
    clear hto hto1 hm1 h hF hok hst hsl hy hyx hek hxn hn hx hc1 hf1 hk1 hB1 hs1 hk64 ha64 hr256 hk hl
    rw [HE.out]
    go_enter Try.func55, Try.ntmps55
    go_wp2_with fail
    rw [← hw1]
    clear hw1
    go_quiet (fail)
    go_wp2_with fail
    refine (HG.out nq).mono ?_
    rintro e w' ⟨rfl, h1, h2⟩
    go_wp2_with fail
    go_end0
    exact ⟨rfl, h1, (hbb1.drewN nq).trans h2⟩
  · -- a branch
    obtain ⟨x, x2, hx⟩ := len_two hl
    obtain ⟨r, hr⟩ : ∃ r : Nat, kb.term.arg = r := ⟨kb.term.arg.toNat, by have := harg.1; omega⟩
    have hr2 : r < 256 := by have := harg.2; omega
    have hr0 : (0 : Int) ≤ r := by omega
    have hr1 : (r : Int) < 256 := by omega
    have creg : w1.cell? ⟨P, 3 + r, none⟩ = some (.int .i64 (s.cur.regs r)) := by obtain ⟨q, hb, _⟩ := hm1; exact hb.reg hr2
    by_cases hz : s.cur.regs r = 0
    · obtain ⟨kt, hek, hxn⟩ := enter_ok hF hok (x := x2) (by rw [hx]; simp)
      obtain ⟨n, hn⟩ : ∃ n : Nat, n = x2.toNat := ⟨_, rfl⟩
      rw [← hn] at hek hxn
      have HE : Hid (endS m s kb.term = { s with cur := goToF f s.cur n }) := Lib.hid (by
        unfold endS; rw [if_neg (by omega), if_pos ⟨hk, by rw [hr]; exact hz⟩, getD_of hok.hf, hx, hn]; rfl)
      have HG := Lib.hid (fun k => goTo_any K P m (w1.drewN k) s rd n f kt (hm1.drewN k) hek)
      obtain ⟨bt, ot, y, rfl, hy, hyc, -⟩ := hto1.int (k := 1) (by omega)
      have hyx : y = n := by have := hy.out; rw [hx] at this; rw [← hxn]; exact (Option.some.inj this).symm
      rw [hyx] at hyc
      rw [hr] at b1
      rw [hz] at creg
      have HYC := Lib.hid hyc
      clear harg hz hr hyc
      have e3 : (kb.term.kind == 3) = false := by rw [hk]; rfl
      have e2 : (kb.term.kind == 2) = true := by rw [hk]; rfl
      have l0 : (0 : Int) < kb.term.to.length := by omega
      have l1 : (1 : Int) < kb.term.to.length := by omega
      clear hto hto1 hm1 h hF hok hst hsl hy hyx hek hxn hn hx hc1 hf1 hk1 hB1 hs1 hk64 ha64 hr256 hk hl
      rw [HE.out]
      have hyc : w1.cell? ⟨bt, ot + 1, none⟩ = some (.int .i64 n) := HYC.out
      go_enter Try.func55, Try.ntmps55
      go_wp2_with fail
      rw [← hw1]
      clear hw1
      go_quiet (fail)
      go_wp2_with fail
      refine (HG.out nq).mono ?_
      rintro e w' ⟨rfl, h1, h2⟩
      go_wp2_with fail
      go_end0
      exact ⟨rfl, h1, (hbb1.drewN nq).trans h2⟩
    · obtain ⟨kt, hek, hxn⟩ := enter_ok hF hok (x := x) (by rw [hx]; simp)
      obtain ⟨n, hn⟩ : ∃ n : Nat, n = x.toNat := ⟨_, rfl⟩
      rw [← hn] at hek hxn
      have HE : Hid (endS m s kb.term = { s with cur := goToF f s.cur n }) := Lib.hid (by
        unfold endS; rw [if_neg (by omega), if_neg (by rw [hr]; exact fun h => hz h.2), getD_of hok.hf, hx, hn]; rfl)
      have HG := Lib.hid (fun k => goTo_any K P m (w1.drewN k) s rd n f kt (hm1.drewN k) hek)
      obtain ⟨bt, ot, y, rfl, hy, hyc, -⟩ := hto1.int (k := 0) (by omega)
      have hyx : y = n := by have := hy.out; rw [hx] at this; rw [← hxn]; exact (Option.some.inj this).symm
      rw [hyx, Nat.add_zero] at hyc
      rw [hr] at b1
      have hzb : (s.cur.regs r == 0) = false := by simp [hz]
      clear harg hz hr
      have e3 : (kb.term.kind == 3) = false := by rw [hk]; rfl
      have e2 : (kb.term.kind == 2) = true := by rw [hk]; rfl
      have l0 : (0 : Int) < kb.term.to.length := by omega
      have l1 : (1 : Int) < kb.term.to.length := by omega
      clear hto hto1 hm1 h hF hok hst hsl hy hyx hek hxn hn hx hc1 hf1 hk1 hB1 hs1 hk64 ha64 hr256 hk hl
      rw [HE.out]
      go_enter Try.func55, Try.ntmps55
      go_wp2_with fail
      rw [← hw1]
      clear hw1
      go_quiet (fail)
      go_wp2_with fail
      refine (HG.out nq).mono ?_
      rintro e w' ⟨rfl, h1, h2⟩
      go_wp2_with fail
      go_end0
      exact ⟨rfl, h1, (hbb1.drewN nq).trans h2⟩
  · -- a return
    have hreg : kb.term.arg = -1 ∨ InR 256 kb.term.arg := by
      rcases harg with h | h
      · exact .inl h
      · exact .inr ⟨h.1, by have := h.2; omega⟩
    have HE : Hid (endS m s kb.term = giveS m s (backV s kb.term.arg)) := Lib.hid (by unfold endS backV; rw [if_pos hk])
    have HG := Lib.hid (giveBack_any K P m w1 s rd kb.term.arg hm1 hreg hst hsl)
    have e3 : (kb.term.kind == 3) = true := by rw [hk]; rfl
    have e2 : (kb.term.kind == 2) = false := by rw [hk]; rfl
    clear hto hto1 hm1 h hF hok hst hsl hc1 hf1 hk1 hB1 hs1 hk64 ha64 hr256 harg hreg hk hl
    rw [HE.out]
    go_enter Try.func55, Try.ntmps55
    go_wp2_with fail
    rw [← hw1]
    refine HG.out.mono ?_
    rintro e w' ⟨rfl, h1, h2⟩
    go_wp2_with fail
    go_end0
    exact ⟨rfl, ⟨_, h1⟩, hbb1.trans h2⟩
end Go.Proofs.Ytoidhjmhakajlaa
