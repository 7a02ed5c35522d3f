/- The reference's Same: two modules are the same. -/
import Derived.Test.YtooblmiffgjmjaaModD
import Derived.Deep.QuietTactic
import Derived.BigQuiet
import Derived.StillTailTactics
namespace Go.Proofs.Ytooblmiffgjmjaa
open Go.ChangeShapes Go.WideShapes Go.RowKit Go.Deep
set_option linter.unusedVariables false

theorem take_len_eq {α : Type} {a b : List α} {k : Nat} (h : a.take k = b.take k) (ha : a.length ≤ k) (hb : b.length ≤ k) : a = b := by
  rwa [List.take_of_length_le ha, List.take_of_length_le hb] at h
theorem take_snoc_eq {α : Type} {a b : List α} {k : Nat} {x y : α} (h : a.take k = b.take k) (hx : a[k]? = some x) (hy : b[k]? = some y) (e : x = y) : a.take (k + 1) = b.take (k + 1) := by
  rw [take_succ_of hx, take_succ_of hy, h, e]
theorem ne_at {α : Type} {a b : List α} {k : Nat} {x y : α} (hx : a[k]? = some x) (hy : b[k]? = some y) (e : x ≠ y) : a ≠ b := fun h => by
  subst h; exact e (Option.some.inj (hx.symm.trans hy))

open Classical in
noncomputable def same {α : Type} (a b : α) : Bool := decide (a = b)
open Classical in
theorem same_yes {α : Type} {a b : α} (h : a = b) : same a b = true := decide_eq_true h
open Classical in
theorem same_no {α : Type} {a b : α} (h : a ≠ b) : same a b = false := decide_eq_false h
open Classical in
theorem same_iff {α : Type} {a b : α} : same a b = true ↔ a = b := decide_eq_true_iff

set_option maxRecDepth 100000 in
set_option maxHeartbeats 4000000 in
theorem ints_any (a b : List Int) (v u : Value) (w : World) (hv : VS w 1 RInt v a) (hu : VS w 1 RInt u b) :
    Calls Try.prog 37 #[v, u] w fun e w' => e = .returned (.bool (same a b)) ∧ ∃ n, w' = w.drewN n := by
  obtain ⟨A, c, rfl, ha⟩ := hv
  obtain ⟨B, d, rfl, hb⟩ := hu
  have hal := ha.len
  have hbl := hb.len
  by_cases hl : a.length = b.length
  · have hl' : ((a.length : Int) != b.length) = false := by simp [hl]
    have HL := Lib.hid hl
    clear hl
    go_enter Try.func37, Try.ntmps37
    go_wp2_with fail
    go_loopw [5] (fun i wr => ∃ k n : Nat, k ≤ a.length ∧ i = .int .i64 k ∧ wr = w.drewN n ∧ Hid (a.take k = b.take k)) (fun i _ => a.length - (intOf i).toNat)
    case atStart => exact ⟨0, 0, Nat.zero_le _, rfl, rfl, Lib.hid rfl⟩
    case round =>
      obtain ⟨k, n, hk, rfl, rfl, hi⟩ := hrel
      by_cases hlt : k < a.length
      · have hlt2 : k < b.length := by have := HL.out; omega
        obtain ⟨b1, o1, x, rfl, hx, hxc, -⟩ := ha.int hlt
        obtain ⟨b2, o2, y, rfl, hy, hyc, -⟩ := hb.int hlt2
        have hk0 : (0 : Int) ≤ k := by omega
        have hk1 : (k : Int) < a.length := by omega
        have hk2 : (k : Int) < b.length := by omega
        by_cases hxy : x = y
        · have hxy' : (x != y) = false := by simp [hxy]
          have HXY := Lib.hid hxy
          clear hxy
          go_wp2_with fail
          go_quiet (fail)
          go_wp2_with fail
          go_roundw
          case rel => exact ⟨k + 1, _, by omega, by go_num, rfl, Lib.hid (take_snoc_eq hi.out hx.out hy.out HXY.out)⟩
          case measure => simp [intOf]; omega
        · have hxy' : (x != y) = true := by rw [bne_iff_ne]; exact hxy
          have HXY := Lib.hid hxy
          clear hxy
          go_wp2_with fail
          go_quiet (fail)
          go_wp2_with fail
          go_ret
          exact ⟨by rw [same_no (ne_at hx.out hy.out HXY.out)]; rfl, _, World.drewN_drewN _ _ _⟩
      · have HE := Lib.hid (take_len_eq hi.out (Nat.le_of_not_lt hlt) (by have := HL.out; omega))
        go_wp2_with fail
        go_ret
        exact ⟨by rw [same_yes HE.out]; rfl, _, rfl⟩
  · have hl' : ((a.length : Int) != b.length) = true := by rw [bne_iff_ne]; omega
    have HL : Hid (same a b = false) := Lib.hid (same_no (fun e => hl (by rw [e])))
    clear hl
    go_enter Try.func37, Try.ntmps37
    go_wp2_with fail
    go_ret
    exact ⟨by rw [HL.out]; rfl, 0, rfl⟩

theorem kept_drewN (w : World) (n : Nat) : Kept w (w.drewN n) := fun _ _ h => h
theorem phi_ext {p q : PhiD} (h1 : p.dst = q.dst) (h2 : p.args = q.args) : p = q := by cases p; cases q; simp_all
theorem ins_ext {p q : InsD} (h1 : p.op = q.op) (h2 : p.dst = q.dst) (h3 : p.args = q.args) (h4 : p.imm = q.imm) (h5 : p.fn = q.fn) : p = q := by cases p; cases q; simp_all
theorem blk_ext {p q : BlkD} (h1 : p.phis = q.phis) (h2 : p.ins = q.ins) (h3 : p.term.kind = q.term.kind) (h4 : p.term.arg = q.term.arg) (h5 : p.term.to = q.term.to) : p = q := by
  obtain ⟨a, b, c, d, e⟩ := p; obtain ⟨a', b', c', d', e'⟩ := q; simp_all
theorem fun_ext {p q : FunD} (h1 : p.params = q.params) (h2 : p.result = q.result) (h3 : p.regs = q.regs) (h4 : p.blocks = q.blocks) : p = q := by cases p; cases q; simp_all

set_option maxRecDepth 100000 in
set_option maxHeartbeats 8000000 in
theorem sameBlock_any (x y : BlkD) (v u : Value) (w : World) (hv : VBlk w v x) (hu : VBlk w u y) :
    Calls Try.prog 38 #[v, u] w fun e w' => e = .returned (.bool (same x y)) ∧ Below w.heap.size w w' := by
  obtain ⟨Ap, cp, Ai, ci, At, ct, rfl, hp, hi, ht, hk64, ha64⟩ := hv
  obtain ⟨Bp, dp, Bi, di, Bt, dt, rfl, kp, ki, kt, kk64, ka64⟩ := hu
  have hpl := hp.len
  have hil := hi.len
  have htl := ht.len
  have kpl := kp.len
  have kil := ki.len
  have ktl := kt.len
  have hB : Below w.heap.size w ((w.alloc (.cells #[.slice Ap x.phis.length cp, .slice Ai x.ins.length ci, .int .i64 x.term.kind, .int .i64 x.term.arg, .slice At x.term.to.length ct] 49)).alloc
      (.cells #[.slice Bp y.phis.length dp, .slice Bi y.ins.length di, .int .i64 y.term.kind, .int .i64 y.term.arg, .slice Bt y.term.to.length dt] 49)) := ((Below.refl _ _).alloc (Nat.le_refl _) _).alloc (by simp) _
  have hK := kept_of_below hB
  by_cases e1 : x.phis.length = y.phis.length
  · have e1' : ((x.phis.length : Int) != y.phis.length) = false := by simp [e1]
    by_cases e2 : x.ins.length = y.ins.length
    · have e2' : ((x.ins.length : Int) != y.ins.length) = false := by simp [e2]
      by_cases e3 : x.term.kind = y.term.kind
      · have e3' : (x.term.kind != y.term.kind) = false := by simp [e3]
        by_cases e4 : x.term.arg = y.term.arg
        · have e4' : (x.term.arg != y.term.arg) = false := by simp [e4]
          have E := Lib.hid (And.intro e1 (And.intro e2 (And.intro e3 e4)))
          clear e1 e2 e3 e4
          go_enter Try.func38, Try.ntmps38
          go_wp2_with fail
          obtain ⟨w1, hw1⟩ : ∃ w1, w1 = (w.alloc (.cells #[.slice Ap x.phis.length cp, .slice Ai x.ins.length ci, .int .i64 x.term.kind, .int .i64 x.term.arg, .slice At x.term.to.length ct] 49)).alloc
            (.cells #[.slice Bp y.phis.length dp, .slice Bi y.ins.length di, .int .i64 y.term.kind, .int .i64 y.term.arg, .slice Bt y.term.to.length dt] 49) := ⟨_, rfl⟩
          have gx0 : w1.cell? ⟨w.heap.size, 0, none⟩ = some (.slice Ap x.phis.length cp) := by rw [hw1]; simp
          have gx1 : w1.cell? ⟨w.heap.size, 1, none⟩ = some (.slice Ai x.ins.length ci) := by rw [hw1]; simp
          have gy0 : w1.cell? ⟨w.heap.size + 1, 0, none⟩ = some (.slice Bp y.phis.length dp) := by rw [hw1]; simp
          have gy1 : w1.cell? ⟨w.heap.size + 1, 1, none⟩ = some (.slice Bi y.ins.length di) := by rw [hw1]; simp
          have hs1 : w.heap.size + 1 < w1.heap.size := by rw [hw1]; simp
          rw [← hw1] at hB hK ⊢
          clear hw1
          refine (ints_any x.term.to y.term.to _ _ _ ⟨At, ct, rfl, SInts.keep hK ht⟩ ⟨Bt, dt, rfl, SInts.keep hK kt⟩).mono ?_
          rintro e w' ⟨rfl, n0, rfl⟩
          cases hto : same x.term.to y.term.to
          · have E2 : Hid (same x y = false) := Lib.hid (same_no (fun e => by have := same_yes (show x.term.to = y.term.to by rw [e]); rw [hto] at this; cases this))
            clear hto
            go_wp2_with fail
            go_ret
            exact ⟨by rw [E2.out]; rfl, below_drewN hB _⟩
          · have HTO := Lib.hid (same_iff.1 hto)
            clear hto
            go_wp2_with fail
            have hb0 : Below w1.heap.size w1 (w1.drewN n0) := below_drewN (Below.refl _ _) _
            go_loopw [5] (fun i wr => ∃ k : Nat, k ≤ x.phis.length ∧ i = .int .i64 k ∧ Below w1.heap.size w1 wr ∧ Hid (x.phis.take k = y.phis.take k)) (fun i _ => x.phis.length - (intOf i).toNat)
            case atStart => exact ⟨0, Nat.zero_le _, rfl, hb0, Lib.hid rfl⟩
            case round =>
              obtain ⟨k, hk, rfl, hbel, hi2⟩ := hrel
              have hkr : Kept w1 wr := kept_of_below hbel
              have hx0 := hkr _ _ gx0
              have hx1 := hkr _ _ gx1
              have hy0 := hkr _ _ gy0
              have hy1 := hkr _ _ gy1
              have hBr : Below w.heap.size w wr := hB.trans (hbel.mono hB.size)
              by_cases hlt : k < x.phis.length
              · have hlt2 : k < y.phis.length := by have := E.out.1; omega
                obtain ⟨b1, o1, p, rfl, hp1, ⟨hpd, -⟩, Aa, ca, hpa, hpas⟩ := (SPhis.keep (hK.trans hkr) hp).at_ hlt
                obtain ⟨b2, o2, q, rfl, hq1, ⟨hqd, -⟩, Ba, da, hqa, hqas⟩ := (SPhis.keep (hK.trans hkr) kp).at_ hlt2
                have hk0 : (0 : Int) ≤ k := by omega
                have hk1 : (k : Int) < x.phis.length := by omega
                have hk2 : (k : Int) < y.phis.length := by omega
                by_cases hd : p.dst = q.dst
                · have hd' : (p.dst != q.dst) = false := by simp [hd]
                  have HD := Lib.hid hd
                  clear hd
                  have hcall : ∀ j, Calls Try.prog 37 #[.slice Aa p.args.length ca, .slice Ba q.args.length da] (wr.drewN j) fun e w' => e = .returned (.bool (same p.args q.args)) ∧ ∃ m, w' = (wr.drewN j).drewN m := fun j =>
                    ints_any _ _ _ _ _ ⟨Aa, ca, rfl, SInts.keep (kept_drewN _ _) hpas⟩ ⟨Ba, da, rfl, SInts.keep (kept_drewN _ _) hqas⟩
                  cases hs : same p.args q.args
                  · rw [hs] at hcall
                    have E2 : Hid (same x y = false) := Lib.hid (same_no (fun e => ne_at hp1.out hq1.out (fun e2 => by have := same_yes (show p.args = q.args by rw [e2]); rw [hs] at this; cases this) (by rw [e])))
                    have HC := Lib.hid hcall
                    clear hs hcall
                    go_wp2_with fail
                    go_quiet ((go_at_call 37; exact Calls.quiet_of (HC.out _)))
                    go_wp2_with fail
                    go_ret
                    exact ⟨by rw [E2.out]; rfl, below_drewN hBr _⟩
                  · rw [hs] at hcall
                    have HS := Lib.hid (same_iff.1 hs)
                    have HC := Lib.hid hcall
                    clear hs hcall
                    go_wp2_with fail
                    go_quiet ((go_at_call 37; exact Calls.quiet_of (HC.out _)))
                    go_wp2_with fail
                    go_roundw
                    case rel => exact ⟨k + 1, by omega, by go_num, below_drewN hbel _, Lib.hid (take_snoc_eq hi2.out hp1.out hq1.out (phi_ext HD.out HS.out))⟩
                    case measure => simp [intOf]; omega
                · have hd' : (p.dst != q.dst) = true := by rw [bne_iff_ne]; exact hd
                  have E2 : Hid (same x y = false) := Lib.hid (same_no (fun e => ne_at hp1.out hq1.out (fun e2 => hd (by rw [e2])) (by rw [e])))
                  clear hd
                  go_wp2_with fail
                  go_quiet (fail)
                  go_wp2_with fail
                  go_ret
                  exact ⟨by rw [E2.out]; rfl, below_drewN hBr _⟩
              · have HP := Lib.hid (take_len_eq hi2.out (Nat.le_of_not_lt hlt) (by have := E.out.1; omega))
                clear hi2
                have hb1 := hbel
                go_wp2_with fail
                go_loopw [6] (fun i wr => ∃ k : Nat, k ≤ x.ins.length ∧ i = .int .i64 k ∧ Below w1.heap.size w1 wr ∧ Hid (x.ins.take k = y.ins.take k)) (fun i _ => x.ins.length - (intOf i).toNat)
                case atStart => exact ⟨0, Nat.zero_le _, rfl, hb1, Lib.hid rfl⟩
                case round =>
                  obtain ⟨k, hk, rfl, hbel, hi3⟩ := hrel
                  have hkr : Kept w1 wr := kept_of_below hbel
                  have hx0 := hkr _ _ gx0
                  have hx1 := hkr _ _ gx1
                  have hy0 := hkr _ _ gy0
                  have hy1 := hkr _ _ gy1
                  have hBr : Below w.heap.size w wr := hB.trans (hbel.mono hB.size)
                  by_cases hlt : k < x.ins.length
                  · have hlt2 : k < y.ins.length := by have := E.out.2.1; omega
                    obtain ⟨b1, o1, p, rfl, hp1, ⟨hp0, -⟩, ⟨hpd, -⟩, ⟨Aa, ca, hpa, hpas⟩, ⟨hpi, -⟩, ⟨hpf, -⟩⟩ := (SInss.keep (hK.trans hkr) hi).at_ hlt
                    obtain ⟨b2, o2, q, rfl, hq1, ⟨hq0, -⟩, ⟨hqd, -⟩, ⟨Ba, da, hqa, hqas⟩, ⟨hqi, -⟩, ⟨hqf, -⟩⟩ := (SInss.keep (hK.trans hkr) ki).at_ hlt2
                    have hbk1 := block_lt_of_cell hx1
                    have hbk2 := block_lt_of_cell hy1
                    have hbk3 := block_lt_of_cell hqd
                    dsimp only at hbk1 hbk2 hbk3
                    have hn1 : w.heap.size + 1 ≠ wr.heap.size := by omega
                    have hn2 : b2 ≠ wr.heap.size := by omega
                    by_cases f1 : p.op = q.op
                    · have f1' : (p.op != q.op) = false := by simp [f1]
                      by_cases f2 : p.dst = q.dst
                      · have f2' : (p.dst != q.dst) = false := by simp [f2]
                        have F := Lib.hid (And.intro f1 f2)
                        clear f1 f2
                        go_wp2_with fail
                        obtain ⟨w3, hw3⟩ : ∃ w3, w3 = (wr.alloc (.cells #[.int .i64 p.op, .int .i64 p.dst, .slice Aa p.args.length ca, .int .i64 p.imm, .int .i64 p.fn] 69)).alloc (.cells #[.int .i64 q.op, .int .i64 q.dst, .slice Ba q.args.length da, .int .i64 q.imm, .int .i64 q.fn] 69) := ⟨_, rfl⟩
                        have hb3 : Below wr.heap.size wr w3 := by rw [hw3]; exact ((Below.refl _ _).alloc (Nat.le_refl _) _).alloc (by simp) _
                        have ji : w3.cell? ⟨wr.heap.size, 3, none⟩ = some (.int .i64 p.imm) := by rw [hw3]; simp
                        have jf : w3.cell? ⟨wr.heap.size, 4, none⟩ = some (.int .i64 p.fn) := by rw [hw3]; simp
                        have li : w3.cell? ⟨wr.heap.size + 1, 3, none⟩ = some (.int .i64 q.imm) := by rw [hw3]; simp
                        have lf : w3.cell? ⟨wr.heap.size + 1, 4, none⟩ = some (.int .i64 q.fn) := by rw [hw3]; simp
                        have hk3 := kept_of_below hb3
                        have hB3 : Below w.heap.size w w3 := hBr.trans (hb3.mono hBr.size)
                        have hb3' : Below w1.heap.size w1 w3 := hbel.trans (hb3.mono hbel.size)
                        rw [← hw3]
                        clear hw3
                        refine (ints_any p.args q.args _ _ _ ⟨Aa, ca, rfl, SInts.keep hk3 hpas⟩ ⟨Ba, da, rfl, SInts.keep hk3 hqas⟩).mono ?_
                        rintro e w' ⟨rfl, n1, rfl⟩
                        cases hs : same p.args q.args
                        · have E2 : Hid (same x y = false) := Lib.hid (same_no (fun e => ne_at hp1.out hq1.out (fun e2 => by have := same_yes (show p.args = q.args by rw [e2]); rw [hs] at this; cases this) (by rw [e])))
                          clear hs
                          go_wp2_with fail
                          go_ret
                          exact ⟨by rw [E2.out]; rfl, below_drewN hB3 _⟩
                        · have HS := Lib.hid (same_iff.1 hs)
                          clear hs
                          by_cases f3 : p.imm = q.imm
                          · have f3' : (p.imm != q.imm) = false := by simp [f3]
                            by_cases f4 : p.fn = q.fn
                            · have f4' : (p.fn != q.fn) = false := by simp [f4]
                              have F2 := Lib.hid (And.intro f3 f4)
                              clear f3 f4
                              go_wp2_with fail
                              go_roundw
                              case rel => exact ⟨k + 1, by omega, by go_num, below_drewN hb3' _, Lib.hid (take_snoc_eq hi3.out hp1.out hq1.out (ins_ext F.out.1 F.out.2 HS.out F2.out.1 F2.out.2))⟩
                              case measure => simp [intOf]; omega
                            · have f4' : (p.fn != q.fn) = true := by rw [bne_iff_ne]; exact f4
                              have E2 : Hid (same x y = false) := Lib.hid (same_no (fun e => ne_at hp1.out hq1.out (fun e2 => f4 (by rw [e2])) (by rw [e])))
                              clear f3 f4
                              go_wp2_with fail
                              go_ret
                              exact ⟨by rw [E2.out]; rfl, below_drewN hB3 _⟩
                          · have f3' : (p.imm != q.imm) = true := by rw [bne_iff_ne]; exact f3
                            have E2 : Hid (same x y = false) := Lib.hid (same_no (fun e => ne_at hp1.out hq1.out (fun e2 => f3 (by rw [e2])) (by rw [e])))
                            clear f3
                            go_wp2_with fail
                            go_ret
                            exact ⟨by rw [E2.out]; rfl, below_drewN hB3 _⟩
                      · have f2' : (p.dst != q.dst) = true := by rw [bne_iff_ne]; exact f2
                        have E2 : Hid (same x y = false) := Lib.hid (same_no (fun e => ne_at hp1.out hq1.out (fun e2 => f2 (by rw [e2])) (by rw [e])))
                        clear f1 f2
                        go_wp2_with fail
                        go_ret
                        exact ⟨by rw [E2.out]; rfl, (hBr.alloc (by have := hBr.size; omega) _).alloc (by have := hBr.size; simp; omega) _⟩
                    · have f1' : (p.op != q.op) = true := by rw [bne_iff_ne]; exact f1
                      have E2 : Hid (same x y = false) := Lib.hid (same_no (fun e => ne_at hp1.out hq1.out (fun e2 => f1 (by rw [e2])) (by rw [e])))
                      clear f1
                      go_wp2_with fail
                      go_ret
                      exact ⟨by rw [E2.out]; rfl, (hBr.alloc (by have := hBr.size; omega) _).alloc (by have := hBr.size; simp; omega) _⟩
                  · have HI := Lib.hid (take_len_eq hi3.out (Nat.le_of_not_lt hlt) (by have := E.out.2.1; omega))
                    go_wp2_with fail
                    go_ret
                    exact ⟨by rw [same_yes (blk_ext HP.out HI.out E.out.2.2.1 E.out.2.2.2 HTO.out)]; rfl, hBr⟩
        · have e4' : (x.term.arg != y.term.arg) = true := by rw [bne_iff_ne]; exact e4
          have E : Hid (same x y = false) := Lib.hid (same_no (fun e => e4 (by rw [e])))
          clear e1 e2 e3 e4
          go_enter Try.func38, Try.ntmps38
          go_wp2_with fail
          go_ret
          exact ⟨by rw [E.out]; rfl, hB⟩
      · have e3' : (x.term.kind != y.term.kind) = true := by rw [bne_iff_ne]; exact e3
        have E : Hid (same x y = false) := Lib.hid (same_no (fun e => e3 (by rw [e])))
        clear e1 e2 e3
        go_enter Try.func38, Try.ntmps38
        go_wp2_with fail
        go_ret
        exact ⟨by rw [E.out]; rfl, hB⟩
    · have e2' : ((x.ins.length : Int) != y.ins.length) = true := by rw [bne_iff_ne]; omega
      have E : Hid (same x y = false) := Lib.hid (same_no (fun e => e2 (by rw [e])))
      clear e1 e2
      go_enter Try.func38, Try.ntmps38
      go_wp2_with fail
      go_ret
      exact ⟨by rw [E.out]; rfl, hB⟩
  · have e1' : ((x.phis.length : Int) != y.phis.length) = true := by rw [bne_iff_ne]; omega
    have E : Hid (same x y = false) := Lib.hid (same_no (fun e => e1 (by rw [e])))
    clear e1
    go_enter Try.func38, Try.ntmps38
    go_wp2_with fail
    go_ret
    exact ⟨by rw [E.out]; rfl, hB⟩

end Go.Proofs.Ytooblmiffgjmjaa
