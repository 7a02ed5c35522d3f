/- The reference's Same: two modules are the same. -/
import Derived.Test.YtflbooopgjgkbaaAheadLJ
import Derived.Deep.QuietTactic
import Derived.BigQuiet
import Derived.StillTailTactics
import Derived.ProofKit
namespace Go.Proofs.Ytflbooopgjgkbaa
open Go.ChangeShapes Go.WideShapes Go.RowKit Go.Deep
set_option linter.unusedVariables false

theorem take_len_eq {α : Type} {a b : List α} {k : Nat} (h : a.take k = b.take k) (ha : a.length ≤ k) (hb : b.length ≤ k) : a = b := by
  rwa [List.take_of_length_le ha, List.take_of_length_le hb] at h
theorem take_snoc_eq {α : Type} {a b : List α} {k : Nat} {x y : α} (h : a.take k = b.take k) (hx : a[k]? = some x) (hy : b[k]? = some y) (e : x = y) : a.take (k + 1) = b.take (k + 1) := by
  rw [take_succ_of hx, take_succ_of hy, h, e]
theorem ne_at {α : Type} {a b : List α} {k : Nat} {x y : α} (hx : a[k]? = some x) (hy : b[k]? = some y) (e : x ≠ y) : a ≠ b := fun h => by
  subst h; exact e (Option.some.inj (hx.symm.trans hy))

open Classical in
noncomputable def same {α : Type} (a b : α) : Bool := decide (a = b)
open Classical in
theorem same_yes {α : Type} {a b : α} (h : a = b) : same a b = true := decide_eq_true h
open Classical in
theorem same_no {α : Type} {a b : α} (h : a ≠ b) : same a b = false := decide_eq_false h
open Classical in
theorem same_iff {α : Type} {a b : α} : same a b = true ↔ a = b := decide_eq_true_iff

set_option maxRecDepth 100000 in
set_option maxHeartbeats 4000000 in
theorem ints_any (a b : List Int) (v u : Value) (w : World) (hv : VS w 1 RInt v a) (hu : VS w 1 RInt u b) :
    Calls Try.prog 36 #[v, u] w fun e w' => e = .returned (.bool (same a b)) ∧ ∃ n, w' = w.drewN n := by
  obtain ⟨A, c, rfl, ha⟩ := hv
  obtain ⟨B, d, rfl, hb⟩ := hu
  have hal := ha.len
  have hbl := hb.len
  by_cases hl : a.length = b.length
  · have hl' : ((a.length : Int) != b.length) = false := by simp [hl]
    have HL := Lib.hid hl
    clear hl
    go_enter Try.func36, Try.ntmps36
    go_wp2_with fail
    go_loopw [5] (fun i wr => ∃ k n : Nat, k ≤ a.length ∧ i = .int .i64 k ∧ wr = w.drewN n ∧ Hid (a.take k = b.take k)) (fun i _ => a.length - (intOf i).toNat)
    case atStart => exact ⟨0, 0, Nat.zero_le _, rfl, rfl, Lib.hid rfl⟩
    case round =>
      obtain ⟨k, n, hk, rfl, rfl, hi⟩ := hrel
      by_cases hlt : k < a.length
      · have hlt2 : k < b.length := by have := HL.out; omega
        obtain ⟨b1, o1, x, rfl, hx, hxc, -⟩ := ha.int hlt
        obtain ⟨b2, o2, y, rfl, hy, hyc, -⟩ := hb.int hlt2
        have hk0 : (0 : Int) ≤ k := by omega
        have hk1 : (k : Int) < a.length := by omega
        have hk2 : (k : Int) < b.length := by omega
        by_cases hxy : x = y
        · have hxy' : (x != y) = false := by simp [hxy]
          have HXY := Lib.hid hxy
          clear hxy
          go_wp2_with fail
          go_quiet (fail)
          go_wp2_with fail
          go_roundw
          case rel => exact ⟨k + 1, _, by omega, by go_num, rfl, Lib.hid (take_snoc_eq hi.out hx.out hy.out HXY.out)⟩
          case measure => simp [intOf]; omega
        · have hxy' : (x != y) = true := by rw [bne_iff_ne]; exact hxy
          have HXY := Lib.hid hxy
          clear hxy
          go_wp2_with fail
          go_quiet (fail)
          go_wp2_with fail
          go_ret
          exact ⟨by rw [same_no (ne_at hx.out hy.out HXY.out)]; rfl, _, World.drewN_drewN _ _ _⟩
      · have HE := Lib.hid (take_len_eq hi.out (Nat.le_of_not_lt hlt) (by have := HL.out; omega))
        go_wp2_with fail
        go_ret
        exact ⟨by rw [same_yes HE.out]; rfl, _, rfl⟩
  · have hl' : ((a.length : Int) != b.length) = true := by rw [bne_iff_ne]; omega
    have HL : Hid (same a b = false) := Lib.hid (same_no (fun e => hl (by rw [e])))
    clear hl
    go_enter Try.func36, Try.ntmps36
    go_wp2_with fail
    go_ret
    exact ⟨by rw [HL.out]; rfl, 0, rfl⟩

theorem kept_drewN (w : World) (n : Nat) : Kept w (w.drewN n) := fun _ _ h => h
theorem phi_ext {p q : PhiD} (h1 : p.dst = q.dst) (h2 : p.args = q.args) : p = q := by cases p; cases q; simp_all
theorem ins_ext {p q : InsD} (h1 : p.op = q.op) (h2 : p.dst = q.dst) (h3 : p.args = q.args) (h4 : p.imm = q.imm) (h5 : p.fn = q.fn) : p = q := by cases p; cases q; simp_all
theorem blk_ext {p q : BlkD} (h1 : p.phis = q.phis) (h2 : p.ins = q.ins) (h3 : p.term.kind = q.term.kind) (h4 : p.term.arg = q.term.arg) (h5 : p.term.to = q.term.to) : p = q := by
  obtain ⟨a, b, c, d, e⟩ := p; obtain ⟨a', b', c', d', e'⟩ := q; simp_all
theorem fun_ext {p q : FunD} (h1 : p.params = q.params) (h2 : p.result = q.result) (h3 : p.regs = q.regs) (h4 : p.blocks = q.blocks) : p = q := by cases p; cases q; simp_all

set_option maxRecDepth 100000 in
set_option maxHeartbeats 8000000 in
theorem sameBlock_any (x y : BlkD) (v u : Value) (w : World) (hv : VBlk w v x) (hu : VBlk w u y) :
    Calls Try.prog 37 #[v, u] w fun e w' => e = .returned (.bool (same x y)) ∧ Below w.heap.size w w' := by
  obtain ⟨Ap, cp, Ai, ci, At, ct, rfl, hp, hi, ht, hk64, ha64⟩ := hv
  obtain ⟨Bp, dp, Bi, di, Bt, dt, rfl, kp, ki, kt, kk64, ka64⟩ := hu
  have hpl := hp.len
  have hil := hi.len
  have htl := ht.len
  have kpl := kp.len
  have kil := ki.len
  have ktl := kt.len
  have hB : Below w.heap.size w ((w.alloc (.cells #[.slice Ap x.phis.length cp, .slice Ai x.ins.length ci, .int .i64 x.term.kind, .int .i64 x.term.arg, .slice At x.term.to.length ct] 52)).alloc
      (.cells #[.slice Bp y.phis.length dp, .slice Bi y.ins.length di, .int .i64 y.term.kind, .int .i64 y.term.arg, .slice Bt y.term.to.length dt] 52)) := ((Below.refl _ _).alloc (Nat.le_refl _) _).alloc (by simp) _
  have hK := kept_of_below hB
  by_cases e1 : x.phis.length = y.phis.length
  · have e1' : ((x.phis.length : Int) != y.phis.length) = false := by simp [e1]
    by_cases e2 : x.ins.length = y.ins.length
    · have e2' : ((x.ins.length : Int) != y.ins.length) = false := by simp [e2]
      by_cases e3 : x.term.kind = y.term.kind
      · have e3' : (x.term.kind != y.term.kind) = false := by simp [e3]
        by_cases e4 : x.term.arg = y.term.arg
        · have e4' : (x.term.arg != y.term.arg) = false := by simp [e4]
          have E := Lib.hid (And.intro e1 (And.intro e2 (And.intro e3 e4)))
          clear e1 e2 e3 e4
          go_enter Try.func37, Try.ntmps37
          go_wp2_with fail
          obtain ⟨w1, hw1⟩ : ∃ w1, w1 = (w.alloc (.cells #[.slice Ap x.phis.length cp, .slice Ai x.ins.length ci, .int .i64 x.term.kind, .int .i64 x.term.arg, .slice At x.term.to.length ct] 52)).alloc
            (.cells #[.slice Bp y.phis.length dp, .slice Bi y.ins.length di, .int .i64 y.term.kind, .int .i64 y.term.arg, .slice Bt y.term.to.length dt] 52) := ⟨_, rfl⟩
          have gx0 : w1.cell? ⟨w.heap.size, 0, none⟩ = some (.slice Ap x.phis.length cp) := by rw [hw1]; simp
          have gx1 : w1.cell? ⟨w.heap.size, 1, none⟩ = some (.slice Ai x.ins.length ci) := by rw [hw1]; simp
          have gy0 : w1.cell? ⟨w.heap.size + 1, 0, none⟩ = some (.slice Bp y.phis.length dp) := by rw [hw1]; simp
          have gy1 : w1.cell? ⟨w.heap.size + 1, 1, none⟩ = some (.slice Bi y.ins.length di) := by rw [hw1]; simp
          have hs1 : w.heap.size + 1 < w1.heap.size := by rw [hw1]; simp
          rw [← hw1] at hB hK ⊢
          clear hw1
          refine (ints_any x.term.to y.term.to _ _ _ ⟨At, ct, rfl, SInts.keep hK ht⟩ ⟨Bt, dt, rfl, SInts.keep hK kt⟩).mono ?_
          rintro e w' ⟨rfl, n0, rfl⟩
          cases hto : same x.term.to y.term.to
          · have E2 : Hid (same x y = false) := Lib.hid (same_no (fun e => by have := same_yes (show x.term.to = y.term.to by rw [e]); rw [hto] at this; cases this))
            clear hto
            go_wp2_with fail
            go_ret
            exact ⟨by rw [E2.out]; rfl, below_drewN hB _⟩
          · have HTO := Lib.hid (same_iff.1 hto)
            clear hto
            go_wp2_with fail
            have hb0 : Below w1.heap.size w1 (w1.drewN n0) := below_drewN (Below.refl _ _) _
            go_loopw [5] (fun i wr => ∃ k : Nat, k ≤ x.phis.length ∧ i = .int .i64 k ∧ Below w1.heap.size w1 wr ∧ Hid (x.phis.take k = y.phis.take k)) (fun i _ => x.phis.length - (intOf i).toNat)
            case atStart => exact ⟨0, Nat.zero_le _, rfl, hb0, Lib.hid rfl⟩
            case round =>
              obtain ⟨k, hk, rfl, hbel, hi2⟩ := hrel
              have hkr : Kept w1 wr := kept_of_below hbel
              have hx0 := hkr _ _ gx0
              have hx1 := hkr _ _ gx1
              have hy0 := hkr _ _ gy0
              have hy1 := hkr _ _ gy1
              have hBr : Below w.heap.size w wr := hB.trans (hbel.mono hB.size)
              by_cases hlt : k < x.phis.length
              · have hlt2 : k < y.phis.length := by have := E.out.1; omega
                obtain ⟨b1, o1, p, rfl, hp1, ⟨hpd, -⟩, Aa, ca, hpa, hpas⟩ := (SPhis.keep (hK.trans hkr) hp).at_ hlt
                obtain ⟨b2, o2, q, rfl, hq1, ⟨hqd, -⟩, Ba, da, hqa, hqas⟩ := (SPhis.keep (hK.trans hkr) kp).at_ hlt2
                have hk0 : (0 : Int) ≤ k := by omega
                have hk1 : (k : Int) < x.phis.length := by omega
                have hk2 : (k : Int) < y.phis.length := by omega
                by_cases hd : p.dst = q.dst
                · have hd' : (p.dst != q.dst) = false := by simp [hd]
                  have HD := Lib.hid hd
                  clear hd
                  have hcall : ∀ j, Calls Try.prog 36 #[.slice Aa p.args.length ca, .slice Ba q.args.length da] (wr.drewN j) fun e w' => e = .returned (.bool (same p.args q.args)) ∧ ∃ m, w' = (wr.drewN j).drewN m := fun j =>
                    ints_any _ _ _ _ _ ⟨Aa, ca, rfl, SInts.keep (kept_drewN _ _) hpas⟩ ⟨Ba, da, rfl, SInts.keep (kept_drewN _ _) hqas⟩
                  cases hs : same p.args q.args
                  · rw [hs] at hcall
                    have E2 : Hid (same x y = false) := Lib.hid (same_no (fun e => ne_at hp1.out hq1.out (fun e2 => by have := same_yes (show p.args = q.args by rw [e2]); rw [hs] at this; cases this) (by rw [e])))
                    have HC := Lib.hid hcall
                    clear hs hcall
                    go_wp2_with fail
                    go_quiet ((go_at_call 36; exact Calls.quiet_of (HC.out _)))
                    go_wp2_with fail
                    go_ret
                    exact ⟨by rw [E2.out]; rfl, below_drewN hBr _⟩
                  · rw [hs] at hcall
                    have HS := Lib.hid (same_iff.1 hs)
                    have HC := Lib.hid hcall
                    clear hs hcall
                    go_wp2_with fail
                    go_quiet ((go_at_call 36; exact Calls.quiet_of (HC.out _)))
                    go_wp2_with fail
                    go_roundw
                    case rel => exact ⟨k + 1, by omega, by go_num, below_drewN hbel _, Lib.hid (take_snoc_eq hi2.out hp1.out hq1.out (phi_ext HD.out HS.out))⟩
                    case measure => simp [intOf]; omega
                · have hd' : (p.dst != q.dst) = true := by rw [bne_iff_ne]; exact hd
                  have E2 : Hid (same x y = false) := Lib.hid (same_no (fun e => ne_at hp1.out hq1.out (fun e2 => hd (by rw [e2])) (by rw [e])))
                  clear hd
                  go_wp2_with fail
                  go_quiet (fail)
                  go_wp2_with fail
                  go_ret
                  exact ⟨by rw [E2.out]; rfl, below_drewN hBr _⟩
              · have HP := Lib.hid (take_len_eq hi2.out (Nat.le_of_not_lt hlt) (by have := E.out.1; omega))
                clear hi2
                have hb1 := hbel
                go_wp2_with fail
                go_loopw [6] (fun i wr => ∃ k : Nat, k ≤ x.ins.length ∧ i = .int .i64 k ∧ Below w1.heap.size w1 wr ∧ Hid (x.ins.take k = y.ins.take k)) (fun i _ => x.ins.length - (intOf i).toNat)
                case atStart => exact ⟨0, Nat.zero_le _, rfl, hb1, Lib.hid rfl⟩
                case round =>
                  obtain ⟨k, hk, rfl, hbel, hi3⟩ := hrel
                  have hkr : Kept w1 wr := kept_of_below hbel
                  have hx0 := hkr _ _ gx0
                  have hx1 := hkr _ _ gx1
                  have hy0 := hkr _ _ gy0
                  have hy1 := hkr _ _ gy1
                  have hBr : Below w.heap.size w wr := hB.trans (hbel.mono hB.size)
                  by_cases hlt : k < x.ins.length
                  · have hlt2 : k < y.ins.length := by have := E.out.2.1; omega
                    obtain ⟨b1, o1, p, rfl, hp1, ⟨hp0, -⟩, ⟨hpd, -⟩, ⟨Aa, ca, hpa, hpas⟩, ⟨hpi, -⟩, ⟨hpf, -⟩⟩ := (SInss.keep (hK.trans hkr) hi).at_ hlt
                    obtain ⟨b2, o2, q, rfl, hq1, ⟨hq0, -⟩, ⟨hqd, -⟩, ⟨Ba, da, hqa, hqas⟩, ⟨hqi, -⟩, ⟨hqf, -⟩⟩ := (SInss.keep (hK.trans hkr) ki).at_ hlt2
                    have hbk1 := block_lt_of_cell hx1
                    have hbk2 := block_lt_of_cell hy1
                    have hbk3 := block_lt_of_cell hqd
                    dsimp only at hbk1 hbk2 hbk3
                    have hn1 : w.heap.size + 1 ≠ wr.heap.size := by omega
                    have hn2 : b2 ≠ wr.heap.size := by omega
                    by_cases f1 : p.op = q.op
                    · have f1' : (p.op != q.op) = false := by simp [f1]
                      by_cases f2 : p.dst = q.dst
                      · have f2' : (p.dst != q.dst) = false := by simp [f2]
                        have F := Lib.hid (And.intro f1 f2)
                        clear f1 f2
                        go_wp2_with fail
                        obtain ⟨w3, hw3⟩ : ∃ w3, w3 = (wr.alloc (.cells #[.int .i64 p.op, .int .i64 p.dst, .slice Aa p.args.length ca, .int .i64 p.imm, .int .i64 p.fn] 55)).alloc (.cells #[.int .i64 q.op, .int .i64 q.dst, .slice Ba q.args.length da, .int .i64 q.imm, .int .i64 q.fn] 55) := ⟨_, rfl⟩
                        have hb3 : Below wr.heap.size wr w3 := by rw [hw3]; exact ((Below.refl _ _).alloc (Nat.le_refl _) _).alloc (by simp) _
                        have ji : w3.cell? ⟨wr.heap.size, 3, none⟩ = some (.int .i64 p.imm) := by rw [hw3]; simp
                        have jf : w3.cell? ⟨wr.heap.size, 4, none⟩ = some (.int .i64 p.fn) := by rw [hw3]; simp
                        have li : w3.cell? ⟨wr.heap.size + 1, 3, none⟩ = some (.int .i64 q.imm) := by rw [hw3]; simp
                        have lf : w3.cell? ⟨wr.heap.size + 1, 4, none⟩ = some (.int .i64 q.fn) := by rw [hw3]; simp
                        have hk3 := kept_of_below hb3
                        have hB3 : Below w.heap.size w w3 := hBr.trans (hb3.mono hBr.size)
                        have hb3' : Below w1.heap.size w1 w3 := hbel.trans (hb3.mono hbel.size)
                        rw [← hw3]
                        clear hw3
                        refine (ints_any p.args q.args _ _ _ ⟨Aa, ca, rfl, SInts.keep hk3 hpas⟩ ⟨Ba, da, rfl, SInts.keep hk3 hqas⟩).mono ?_
                        rintro e w' ⟨rfl, n1, rfl⟩
                        cases hs : same p.args q.args
                        · have E2 : Hid (same x y = false) := Lib.hid (same_no (fun e => ne_at hp1.out hq1.out (fun e2 => by have := same_yes (show p.args = q.args by rw [e2]); rw [hs] at this; cases this) (by rw [e])))
                          clear hs
                          go_wp2_with fail
                          go_ret
                          exact ⟨by rw [E2.out]; rfl, below_drewN hB3 _⟩
                        · have HS := Lib.hid (same_iff.1 hs)
                          clear hs
                          by_cases f3 : p.imm = q.imm
                          · have f3' : (p.imm != q.imm) = false := by simp [f3]
                            by_cases f4 : p.fn = q.fn
                            · have f4' : (p.fn != q.fn) = false := by simp [f4]
                              have F2 := Lib.hid (And.intro f3 f4)
                              clear f3 f4
                              go_wp2_with fail
                              go_roundw
                              case rel => exact ⟨k + 1, by omega, by go_num, below_drewN hb3' _, Lib.hid (take_snoc_eq hi3.out hp1.out hq1.out (ins_ext F.out.1 F.out.2 HS.out F2.out.1 F2.out.2))⟩
                              case measure => simp [intOf]; omega
                            · have f4' : (p.fn != q.fn) = true := by rw [bne_iff_ne]; exact f4
                              have E2 : Hid (same x y = false) := Lib.hid (same_no (fun e => ne_at hp1.out hq1.out (fun e2 => f4 (by rw [e2])) (by rw [e])))
                              clear f3 f4
                              go_wp2_with fail
                              go_ret
                              exact ⟨by rw [E2.out]; rfl, below_drewN hB3 _⟩
                          · have f3' : (p.imm != q.imm) = true := by rw [bne_iff_ne]; exact f3
                            have E2 : Hid (same x y = false) := Lib.hid (same_no (fun e => ne_at hp1.out hq1.out (fun e2 => f3 (by rw [e2])) (by rw [e])))
                            clear f3
                            go_wp2_with fail
                            go_ret
                            exact ⟨by rw [E2.out]; rfl, below_drewN hB3 _⟩
                      · have f2' : (p.dst != q.dst) = true := by rw [bne_iff_ne]; exact f2
                        have E2 : Hid (same x y = false) := Lib.hid (same_no (fun e => ne_at hp1.out hq1.out (fun e2 => f2 (by rw [e2])) (by rw [e])))
                        clear f1 f2
                        go_wp2_with fail
                        go_ret
                        exact ⟨by rw [E2.out]; rfl, (hBr.alloc (by have := hBr.size; omega) _).alloc (by have := hBr.size; simp; omega) _⟩
                    · have f1' : (p.op != q.op) = true := by rw [bne_iff_ne]; exact f1
                      have E2 : Hid (same x y = false) := Lib.hid (same_no (fun e => ne_at hp1.out hq1.out (fun e2 => f1 (by rw [e2])) (by rw [e])))
                      clear f1
                      go_wp2_with fail
                      go_ret
                      exact ⟨by rw [E2.out]; rfl, (hBr.alloc (by have := hBr.size; omega) _).alloc (by have := hBr.size; simp; omega) _⟩
                  · have HI := Lib.hid (take_len_eq hi3.out (Nat.le_of_not_lt hlt) (by have := E.out.2.1; omega))
                    go_wp2_with fail
                    go_ret
                    exact ⟨by rw [same_yes (blk_ext HP.out HI.out E.out.2.2.1 E.out.2.2.2 HTO.out)]; rfl, hBr⟩
        · have e4' : (x.term.arg != y.term.arg) = true := by rw [bne_iff_ne]; exact e4
          have E : Hid (same x y = false) := Lib.hid (same_no (fun e => e4 (by rw [e])))
          clear e1 e2 e3 e4
          go_enter Try.func37, Try.ntmps37
          go_wp2_with fail
          go_ret
          exact ⟨by rw [E.out]; rfl, hB⟩
      · have e3' : (x.term.kind != y.term.kind) = true := by rw [bne_iff_ne]; exact e3
        have E : Hid (same x y = false) := Lib.hid (same_no (fun e => e3 (by rw [e])))
        clear e1 e2 e3
        go_enter Try.func37, Try.ntmps37
        go_wp2_with fail
        go_ret
        exact ⟨by rw [E.out]; rfl, hB⟩
    · have e2' : ((x.ins.length : Int) != y.ins.length) = true := by rw [bne_iff_ne]; omega
      have E : Hid (same x y = false) := Lib.hid (same_no (fun e => e2 (by rw [e])))
      clear e1 e2
      go_enter Try.func37, Try.ntmps37
      go_wp2_with fail
      go_ret
      exact ⟨by rw [E.out]; rfl, hB⟩
  · have e1' : ((x.phis.length : Int) != y.phis.length) = true := by rw [bne_iff_ne]; omega
    have E : Hid (same x y = false) := Lib.hid (same_no (fun e => e1 (by rw [e])))
    clear e1
    go_enter Try.func37, Try.ntmps37
    go_wp2_with fail
    go_ret
    exact ⟨by rw [E.out]; rfl, hB⟩

end Go.Proofs.Ytflbooopgjgkbaa

/- The reference's SameFunc. -/
namespace Go.Proofs.Ytflbooopgjgkbaa
open Go.ChangeShapes Go.WideShapes Go.RowKit Go.Deep
set_option linter.unusedVariables false

set_option maxRecDepth 100000 in
set_option maxHeartbeats 8000000 in
theorem sameFunc_any (x y : FunD) (v u : Value) (w : World) (hv : VFun w v x) (hu : VFun w u y) :
    Calls Try.prog 17 #[v, u] w fun e w' => e = .returned (.bool (same x y)) ∧ Below w.heap.size w w' := by
  obtain ⟨Ar, cr, Ab, cb, rfl, hr, hb, -, -⟩ := hv
  obtain ⟨Br, dr, Bb, db, rfl, kr, kb, -, -⟩ := hu
  have hrl := hr.len
  have hbl := hb.len
  have krl := kr.len
  have kbl := kb.len
  have hB : Below w.heap.size w ((w.alloc (.cells #[.int .i64 x.params, .int .i64 x.result, .slice Ar x.regs.length cr, .slice Ab x.blocks.length cb] 25)).alloc
      (.cells #[.int .i64 y.params, .int .i64 y.result, .slice Br y.regs.length dr, .slice Bb y.blocks.length db] 25)) := ((Below.refl _ _).alloc (Nat.le_refl _) _).alloc (by simp) _
  have hK := kept_of_below hB
  by_cases e1 : x.params = y.params
  · have e1' : (x.params != y.params) = false := by simp [e1]
    by_cases e2 : x.result = y.result
    · have e2' : (x.result != y.result) = false := by simp [e2]
      have E := Lib.hid (And.intro e1 e2)
      clear e1 e2
      go_enter Try.func17, Try.ntmps17
      go_wp2_with fail
      obtain ⟨w1, hw1⟩ : ∃ w1, w1 = (w.alloc (.cells #[.int .i64 x.params, .int .i64 x.result, .slice Ar x.regs.length cr, .slice Ab x.blocks.length cb] 25)).alloc
        (.cells #[.int .i64 y.params, .int .i64 y.result, .slice Br y.regs.length dr, .slice Bb y.blocks.length db] 25) := ⟨_, rfl⟩
      have gx3 : w1.cell? ⟨w.heap.size, 3, none⟩ = some (.slice Ab x.blocks.length cb) := by rw [hw1]; simp
      have gy3 : w1.cell? ⟨w.heap.size + 1, 3, none⟩ = some (.slice Bb y.blocks.length db) := by rw [hw1]; simp
      rw [← hw1] at hB hK ⊢
      clear hw1
      refine (ints_any x.regs y.regs _ _ _ ⟨Ar, cr, rfl, SInts.keep hK hr⟩ ⟨Br, dr, rfl, SInts.keep hK kr⟩).mono ?_
      rintro e w' ⟨rfl, n0, rfl⟩
      cases hrg : same x.regs y.regs
      · have E2 : Hid (same x y = false) := Lib.hid (same_no (fun e => by have := same_yes (show x.regs = y.regs by rw [e]); rw [hrg] at this; cases this))
        clear hrg
        go_wp2_with fail
        go_ret
        exact ⟨by rw [E2.out]; rfl, below_drewN hB _⟩
      · have HRG := Lib.hid (same_iff.1 hrg)
        clear hrg
        by_cases e3 : x.blocks.length = y.blocks.length
        · have e3' : ((x.blocks.length : Int) != y.blocks.length) = false := by simp [e3]
          have E3 := Lib.hid e3
          clear e3
          go_wp2_with fail
          have hb0 : Below w1.heap.size w1 (w1.drewN n0) := below_drewN (Below.refl _ _) _
          go_loopw [5] (fun i wr => ∃ k : Nat, k ≤ x.blocks.length ∧ i = .int .i64 k ∧ Below w1.heap.size w1 wr ∧ Hid (x.blocks.take k = y.blocks.take k)) (fun i _ => x.blocks.length - (intOf i).toNat)
          case atStart => exact ⟨0, Nat.zero_le _, rfl, hb0, Lib.hid rfl⟩
          case round =>
            obtain ⟨k, hk, rfl, hbel, hi2⟩ := hrel
            have hkr : Kept w1 wr := kept_of_below hbel
            have hx3 := hkr _ _ gx3
            have hy3 := hkr _ _ gy3
            have hBr : Below w.heap.size w wr := hB.trans (hbel.mono hB.size)
            by_cases hlt : k < x.blocks.length
            · have hlt2 : k < y.blocks.length := by have := E3.out; omega
              obtain ⟨b1, o1, p, rfl, hp1, ⟨A1, c1, h1, g1⟩, ⟨A2, c2, h2, g2⟩, ⟨h3, i3⟩, ⟨h4, i4⟩, A5, c5, h5, g5⟩ := (SBlks.keep (hK.trans hkr) hb).at_ hlt
              obtain ⟨b2, o2, q, rfl, hq1, ⟨B1, d1, k1, j1⟩, ⟨B2, d2, k2, j2⟩, ⟨k3, l3⟩, ⟨k4, l4⟩, B5, d5, k5, j5⟩ := (SBlks.keep (hK.trans hkr) kb).at_ hlt2
              have hk0 : (0 : Int) ≤ k := by omega
              have hk1 : (k : Int) < x.blocks.length := by omega
              have hk2 : (k : Int) < y.blocks.length := by omega
              go_wp2_with fail
              go_still_tail 10, (by kernel_rfl)
              change wpList _ _ _ _ _ wr.drew
              have hvp : VBlk wr.drew (.agg #[.slice A1 p.phis.length c1, .slice A2 p.ins.length c2, .int .i64 p.term.kind, .int .i64 p.term.arg, .slice A5 p.term.to.length c5]) p := ⟨A1, c1, A2, c2, A5, c5, rfl, g1, g2, g5, i3, i4⟩
              have hvq : VBlk wr.drew (.agg #[.slice B1 q.phis.length d1, .slice B2 q.ins.length d2, .int .i64 q.term.kind, .int .i64 q.term.arg, .slice B5 q.term.to.length d5]) q := ⟨B1, d1, B2, d2, B5, d5, rfl, j1, j2, j5, l3, l4⟩
              have hbd : Below w1.heap.size w1 wr.drew := hbel.drew
              have hBd : Below w.heap.size w wr.drew := hBr.drew
              generalize wr.drew = w2 at *
              go_wp2_with fail
              refine (sameBlock_any p q _ _ _ hvp hvq).mono ?_
              rintro e w3 ⟨rfl, hb3⟩
              have hb3' : Below w1.heap.size w1 w3 := hbd.trans (hb3.mono hbd.size)
              have hB3 : Below w.heap.size w w3 := hBd.trans (hb3.mono hBd.size)
              cases hs : same p q
              · have E2 : Hid (same x y = false) := Lib.hid (same_no (fun e => ne_at hp1.out hq1.out (fun e2 => by have := same_yes e2; rw [hs] at this; cases this) (by rw [e])))
                clear hs
                go_wp2_with fail
                go_ret
                exact ⟨by rw [E2.out]; rfl, hB3⟩
              · have HS := Lib.hid (same_iff.1 hs)
                clear hs
                go_wp2_with fail
                go_roundw
                case rel => exact ⟨k + 1, by omega, by go_num, hb3', Lib.hid (take_snoc_eq hi2.out hp1.out hq1.out HS.out)⟩
                case measure => simp [intOf]; omega
            · have HP := Lib.hid (take_len_eq hi2.out (Nat.le_of_not_lt hlt) (by have := E3.out; omega))
              go_wp2_with fail
              go_ret
              exact ⟨by rw [same_yes (fun_ext E.out.1 E.out.2 HRG.out HP.out)]; rfl, hBr⟩
        · have e3' : ((x.blocks.length : Int) != y.blocks.length) = true := by rw [bne_iff_ne]; omega
          have E2 : Hid (same x y = false) := Lib.hid (same_no (fun e => e3 (by rw [e])))
          clear e3
          go_wp2_with fail
          go_ret
          exact ⟨by rw [E2.out]; rfl, below_drewN hB _⟩
    · have e2' : (x.result != y.result) = true := by rw [bne_iff_ne]; exact e2
      have E : Hid (same x y = false) := Lib.hid (same_no (fun e => e2 (by rw [e])))
      clear e1 e2
      go_enter Try.func17, Try.ntmps17
      go_wp2_with fail
      go_ret
      exact ⟨by rw [E.out]; rfl, hB⟩
  · have e1' : (x.params != y.params) = true := by rw [bne_iff_ne]; exact e1
    have E : Hid (same x y = false) := Lib.hid (same_no (fun e => e1 (by rw [e])))
    clear e1
    go_enter Try.func17, Try.ntmps17
    go_wp2_with fail
    go_ret
    exact ⟨by rw [E.out]; rfl, hB⟩

end Go.Proofs.Ytflbooopgjgkbaa

/- Functions and modules that came in as arguments: what they read as. -/
namespace Go.Proofs.Ytflbooopgjgkbaa
open Go.ChangeShapes Go.WideShapes Go.RowKit Go.Deep
set_option linter.unusedVariables false

section
variable {H : Type} {enc : TypeId × Value → H} {P : Program} {w : World} {base : Nat} {spare : Nat → Bool} {held : Bool}

theorem struct_field {t : TypeId} {fs : Array Field} {fuel : Nat} {cs : List Value} {y : DataW H × List MemPlace} (ht : P.underlying t = some (.struct fs)) (h : DataW.trod enc P w base spare held fuel t cs = some y)
    (i : Nat) (f : Field) (hf : fs[i]? = some f) : ∃ n z, DataW.trod enc P w base spare held n f.type ((cs.drop f.offset).take (P.cellsOf f.type)) = some z := by
  obtain ⟨xs, n, _, _, _, hlen, hx⟩ := DataW.trod_struct ht h
  have hi : i < xs.length := by rw [hlen]; exact (Array.getElem?_eq_some_iff.1 hf).1
  exact ⟨n, xs[i], (hx i f hf).trans (List.getElem?_eq_getElem hi)⟩
theorem field_of {t : TypeId} {fs : Array Field} {fuel : Nat} {cs : List Value} {y : DataW H × List MemPlace} (ht : P.underlying t = some (.struct fs)) (h : DataW.trod enc P w base spare held fuel t cs = some y)
    (i : Nat) {f : Field} (hf : fs[i]? = some f) {t' : TypeId} {c k : Nat} (hft : f.type = t') (hk : f.offset = k) (hc : P.cellsOf t' = c) : ∃ n z, DataW.trod enc P w base spare held n t' ((cs.drop k).take c) = some z := by
  subst hft hk hc
  exact struct_field ht h i f hf
theorem drop_take_one {cs : List Value} {k : Nat} (hk : k < cs.length) : (cs.drop k).take 1 = [cs[k]] := by
  rw [List.drop_eq_getElem_cons hk]; rfl
theorem int_field {t : TypeId} {n k : Nat} {cs : List Value} {z : DataW H × List MemPlace} (ht : P.underlying t = some (.int .i64)) (hk : k < cs.length) (h : DataW.trod enc P w base spare held n t ((cs.drop k).take 1) = some z) :
    ∃ x, cs[k]? = some (.int .i64 x) ∧ I64 x := by
  rw [drop_take_one hk] at h
  obtain ⟨x, hx, _, hw⟩ := DataW.trod_int ht h
  exact ⟨x, by rw [List.getElem?_eq_getElem hk]; exact congrArg some (List.cons.inj hx).1, wf_i64 hw⟩
theorem slice_field {α : Type} [Inhabited α] {t e : TypeId} {sz : Nat} {R : World → Nat → Nat → α → Prop} {n k : Nat} {cs : List Value} {z : DataW H × List MemPlace} (ht : P.underlying t = some (.slice e)) (hsz : P.cellsOf e = sz) (hpos : 0 < sz)
    (hR : Opens enc P w base spare held e sz R) (hk : k < cs.length) (h : DataW.trod enc P w base spare held n t ((cs.drop k).take 1) = some z) : ∃ A c xs, cs[k]? = some (.slice A xs.length c) ∧ SL w sz R A c xs := by
  rw [drop_take_one hk] at h
  obtain ⟨xs, A, c, e, hs⟩ := open_vs ht hsz hpos hR h
  exact ⟨A, c, xs, by rw [List.getElem?_eq_getElem hk, e], hs⟩
end

theorem Try.cells3 : Try.prog.cellsOf 3 = 1 := by kernel_rfl
theorem Try.cells2 : Try.prog.cellsOf 2 = 1 := by kernel_rfl
theorem Try.cells22 : Try.prog.cellsOf 22 = 1 := by kernel_rfl
theorem Try.cells49 : Try.prog.cellsOf 49 = 1 := by kernel_rfl
theorem Try.cells50 : Try.prog.cellsOf 50 = 1 := by kernel_rfl
theorem Try.cells23 : Try.prog.cellsOf 23 = 1 := by kernel_rfl
theorem Try.cells36 : Try.prog.cellsOf 36 = 1 := by kernel_rfl
theorem Try.cells83 : Try.prog.cellsOf 83 = 2 := by kernel_rfl
theorem Try.cells55 : Try.prog.cellsOf 55 = 5 := by kernel_rfl
theorem Try.cells48 : Try.prog.cellsOf 48 = 3 := by kernel_rfl
theorem Try.cells52 : Try.prog.cellsOf 52 = 5 := by kernel_rfl
theorem Try.cells25 : Try.prog.cellsOf 25 = 4 := by kernel_rfl
theorem Try.cells38 : Try.prog.cellsOf 38 = 1 := by kernel_rfl

section
variable {H : Type} {enc : TypeId × Value → H} {w : World} {base : Nat} {spare : Nat → Bool} {held : Bool}

theorem opens_int : Opens enc Try.prog w base spare held 3 1 RInt := fun n b o cs y hlen hat h => by
  obtain ⟨x, rfl, _, hw⟩ := DataW.trod_int Try.underlying3 h
  exact ⟨x, (hat 0 (by omega)).trans rfl, wf_i64 hw⟩
theorem field_int {fs : Array Field} {t : TypeId} {fuel : Nat} {cs : List Value} {y : DataW H × List MemPlace} (ht : Try.prog.underlying t = some (.struct fs)) (h : DataW.trod enc Try.prog w base spare held fuel t cs = some y)
    (i : Nat) (f : Field) (hf : fs[i]? = some f) (hft : f.type = 3) (hk : f.offset < cs.length) : ∃ x, cs[f.offset]? = some (.int .i64 x) ∧ I64 x := by
  obtain ⟨n, z, hz⟩ := struct_field ht h i f hf
  rw [hft, Try.cells3] at hz
  exact int_field Try.underlying3 hk hz
theorem field_int64 {fs : Array Field} {t : TypeId} {fuel : Nat} {cs : List Value} {y : DataW H × List MemPlace} (ht : Try.prog.underlying t = some (.struct fs)) (h : DataW.trod enc Try.prog w base spare held fuel t cs = some y)
    (i : Nat) (f : Field) (hf : fs[i]? = some f) (hft : f.type = 2) (hk : f.offset < cs.length) : ∃ x, cs[f.offset]? = some (.int .i64 x) ∧ I64 x := by
  obtain ⟨n, z, hz⟩ := struct_field ht h i f hf
  rw [hft, Try.cells2] at hz
  exact int_field Try.underlying2 hk hz
theorem field_ints {fs : Array Field} {t : TypeId} {fuel : Nat} {cs : List Value} {y : DataW H × List MemPlace} (ht : Try.prog.underlying t = some (.struct fs)) (h : DataW.trod enc Try.prog w base spare held fuel t cs = some y)
    (i : Nat) (f : Field) (hf : fs[i]? = some f) (hft : f.type = 22) (hk : f.offset < cs.length) : ∃ A c, ∃ xs : List Int, cs[f.offset]? = some (.slice A xs.length c) ∧ SL w 1 RInt A c xs := by
  obtain ⟨n, z, hz⟩ := struct_field ht h i f hf
  rw [hft, Try.cells22] at hz
  exact slice_field Try.underlying22 Try.cells3 (by omega) opens_int hk hz
theorem opens_phi : Opens enc Try.prog w base spare held 83 2 RPhi := fun n b o cs y hlen hat h => by
  obtain ⟨x, h0, w0⟩ := field_int Try.underlying83 h 0 _ rfl rfl (by simp; omega)
  obtain ⟨A, c, xs, h1, w1⟩ := field_ints Try.underlying83 h 1 _ rfl rfl (by simp; omega)
  exact ⟨⟨x, xs⟩, ⟨(hat 0 (by omega)).trans h0, w0⟩, A, c, (hat 1 (by omega)).trans h1, w1⟩
theorem opens_ins : Opens enc Try.prog w base spare held 55 5 RIns := fun n b o cs y hlen hat h => by
  obtain ⟨x0, h0, w0⟩ := field_int Try.underlying55 h 0 _ rfl rfl (by simp; omega)
  obtain ⟨x1, h1, w1⟩ := field_int Try.underlying55 h 1 _ rfl rfl (by simp; omega)
  obtain ⟨A, c, xs, h2, w2⟩ := field_ints Try.underlying55 h 2 _ rfl rfl (by simp; omega)
  obtain ⟨x3, h3, w3⟩ := field_int64 Try.underlying55 h 3 _ rfl rfl (by simp; omega)
  obtain ⟨x4, h4, w4⟩ := field_int Try.underlying55 h 4 _ rfl rfl (by simp; omega)
  exact ⟨⟨x0, x1, xs, x3, x4⟩, ⟨(hat 0 (by omega)).trans h0, w0⟩, ⟨(hat 1 (by omega)).trans h1, w1⟩, ⟨A, c, (hat 2 (by omega)).trans h2, w2⟩, ⟨(hat 3 (by omega)).trans h3, w3⟩, ⟨(hat 4 (by omega)).trans h4, w4⟩⟩
theorem opens_blk : Opens enc Try.prog w base spare held 52 5 RBlk := fun n b o cs y hlen hat h => by
  obtain ⟨n0, z0, hz0⟩ := field_of Try.underlying52 h 0 rfl rfl rfl Try.cells49
  obtain ⟨A0, c0, ps, h0, w0⟩ := slice_field Try.underlying49 Try.cells83 (by omega) opens_phi (by simp; omega) hz0
  obtain ⟨n1, z1, hz1⟩ := field_of Try.underlying52 h 1 rfl rfl rfl Try.cells50
  obtain ⟨A1, c1, is, h1, w1⟩ := slice_field Try.underlying50 Try.cells55 (by omega) opens_ins (by simp; omega) hz1
  obtain ⟨n2, z2, hz2⟩ := field_of Try.underlying52 h 2 rfl rfl rfl Try.cells48
  have hl2 : ((cs.drop 2).take 3).length = 3 := by simp; omega
  obtain ⟨x2, h2, w2⟩ := field_int Try.underlying48 hz2 0 _ rfl rfl (by simp; omega)
  obtain ⟨x3, h3, w3⟩ := field_int Try.underlying48 hz2 1 _ rfl rfl (by simp; omega)
  obtain ⟨A4, c4, xs, h4, w4⟩ := field_ints Try.underlying48 hz2 2 _ rfl rfl (by simp; omega)
  have g (i : Nat) (hi : i < 3) : ((cs.drop 2).take 3)[i]? = cs[2 + i]? := by rw [List.getElem?_take_of_lt hi, List.getElem?_drop]
  exact ⟨⟨ps, is, ⟨x2, x3, xs⟩⟩, ⟨A0, c0, (hat 0 (by omega)).trans h0, w0⟩, ⟨A1, c1, (hat 1 (by omega)).trans h1, w1⟩, ⟨(hat 2 (by omega)).trans ((g 0 (by omega)).symm.trans h2), w2⟩, ⟨(hat 3 (by omega)).trans ((g 1 (by omega)).symm.trans h3), w3⟩, ⟨A4, c4, (hat 4 (by omega)).trans ((g 2 (by omega)).symm.trans h4), w4⟩⟩
theorem opens_fun : Opens enc Try.prog w base spare held 25 4 RFun := fun n b o cs y hlen hat h => by
  obtain ⟨x0, h0, w0⟩ := field_int Try.underlying25 h 0 _ rfl rfl (by simp; omega)
  obtain ⟨x1, h1, w1⟩ := field_int Try.underlying25 h 1 _ rfl rfl (by simp; omega)
  obtain ⟨A2, c2, xs, h2, w2⟩ := field_ints Try.underlying25 h 2 _ rfl rfl (by simp; omega)
  obtain ⟨n3, z3, hz3⟩ := field_of Try.underlying25 h 3 rfl rfl rfl Try.cells23
  obtain ⟨A3, c3, bs, h3, w3⟩ := slice_field Try.underlying23 Try.cells52 (by omega) opens_blk (by simp; omega) hz3
  exact ⟨⟨x0, x1, xs, bs⟩, ⟨(hat 0 (by omega)).trans h0, w0⟩, ⟨(hat 1 (by omega)).trans h1, w1⟩, ⟨A2, c2, (hat 2 (by omega)).trans h2, w2⟩, ⟨A3, c3, (hat 3 (by omega)).trans h3, w3⟩⟩

set_option maxRecDepth 100000 in
/-- A function by value. -/
theorem open_fun {r : Go.Reach} {b0 : Nat} {v : Value} {d : DataW H} {p : List MemPlace} (hv : Value.okWide Try.prog w r b0 25 v) (h : DataW.Trod enc Try.prog w base spare held 25 v d p) : ∃ f, VFun w v f := by
  obtain ⟨cs, rfl, hsz⟩ := okWide_struct Try.underlying25 hv
  rw [Try.cells25] at hsz
  obtain ⟨l⟩ := cs
  match l, hsz with
  | [a, b, c, d], _ =>
    obtain ⟨fuel, hf⟩ := h
    have hf : DataW.trod enc Try.prog w base spare held fuel 25 [a, b, c, d] = some (_, p) := hf
    obtain ⟨x0, h0, w0⟩ := field_int Try.underlying25 hf 0 _ rfl rfl (by simp)
    obtain ⟨x1, h1, w1⟩ := field_int Try.underlying25 hf 1 _ rfl rfl (by simp)
    obtain ⟨A2, c2, xs, h2, w2⟩ := field_ints Try.underlying25 hf 2 _ rfl rfl (by simp)
    obtain ⟨n3, z3, hz3⟩ := field_of Try.underlying25 hf 3 rfl rfl rfl Try.cells23
    obtain ⟨A3, c3, bs, h3, w3⟩ := slice_field Try.underlying23 Try.cells52 (by omega) opens_blk (by simp) hz3
    obtain rfl := Option.some.inj h0
    obtain rfl := Option.some.inj h1
    obtain rfl := Option.some.inj h2
    obtain rfl := Option.some.inj h3
    exact ⟨⟨x0, x1, xs, bs⟩, A2, c2, A3, c3, rfl, w2, w3, w0, w1⟩
set_option maxRecDepth 100000 in
/-- A module by value. -/
theorem open_mod {r : Go.Reach} {b0 : Nat} {v : Value} {d : DataW H} {p : List MemPlace} (hv : Value.okWide Try.prog w r b0 38 v) (h : DataW.Trod enc Try.prog w base spare held 38 v d p) : ∃ m, VMod w v m := by
  obtain ⟨cs, rfl, hsz⟩ := okWide_struct Try.underlying38 hv
  rw [Try.cells38] at hsz
  obtain ⟨l⟩ := cs
  match l, hsz with
  | [a], _ =>
    obtain ⟨fuel, hf⟩ := h
    have hf : DataW.trod enc Try.prog w base spare held fuel 38 [a] = some (_, p) := hf
    obtain ⟨n3, z3, hz3⟩ := field_of Try.underlying38 hf 0 rfl rfl rfl Try.cells36
    obtain ⟨A3, c3, bs, h3, w3⟩ := slice_field Try.underlying36 Try.cells25 (by omega) opens_fun (by simp) hz3
    obtain rfl := Option.some.inj h3
    exact ⟨bs, A3, c3, rfl, w3⟩
end
end Go.Proofs.Ytflbooopgjgkbaa
