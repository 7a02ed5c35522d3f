/- The program's Ahead: a row of rows, row i the blocks ahead of i. -/
import Derived.Test.YtooblmiffgjmjaaGreatDoorAheadGJ
import Derived.Deep.OwnRows
import Derived.Deep.AppendLies
import Derived.Test.YtooblmiffgjmjaaGreatDoorArMJ
import Derived.WalkKit
import Derived.ProofKit
import Derived.OpenShut
import Derived.Outline
import Derived.WalkSpells
import Derived.BigQuiet
import Derived.Deep.QuietTactic
import Derived.Lib.Hide
import Derived.Deep.DeepMust
import Derived.Test.YtooblmiffgjmjaaGreatDoorPrpJ
import Derived.Lib.SliceRun
import Derived.Laws.CopyRow
import Derived.StillTailTactics
namespace Go.Proofs.YtooblmiffgjmjaaGreatDoor
open Go.ChangeShapes Go.WideShapes Go.RowKit Go.Deep
set_option linter.unusedVariables false

theorem isAt_yes (a b : Int) (w : World) (h0 : 0 ≤ a) (h1 : a < b) : Calls Tryz.prog 44 #[.int .i64 a, .int .i64 b] w fun e w' => e = .returned (.bool true) ∧ w = w' := by
  go_enter Tryz.func44, Tryz.ntmps44
  go_wp2_with fail
  go_ret
  exact ⟨rfl, rfl⟩
theorem isAt_no (a b : Int) (w : World) (h : ¬ (0 ≤ a ∧ a < b)) : Calls Tryz.prog 44 #[.int .i64 a, .int .i64 b] w fun e w' => e = .returned (.bool false) ∧ w = w' := by
  by_cases h0 : 0 ≤ a
  · have h1 : b ≤ a := by omega
    clear h
    go_enter Tryz.func44, Tryz.ntmps44
    go_wp2_with fail
    go_ret
    exact ⟨by simp [h1], rfl⟩
  · clear h
    go_enter Tryz.func44, Tryz.ntmps44
    go_wp2_with fail
    go_ret
    exact ⟨rfl, rfl⟩
theorem isAt_any (a b : Int) (w : World) : Calls Tryz.prog 44 #[.int .i64 a, .int .i64 b] w fun e w' => e = .returned (.bool (isAtB a b)) ∧ w = w' := by
  by_cases h : 0 ≤ a ∧ a < b
  · exact (isAt_yes a b w h.1 h.2).mono fun e w' h' => ⟨by rw [h'.1, isAtB, decide_eq_true h], h'.2⟩
  · exact (isAt_no a b w h).mono fun e w' h' => ⟨by rw [h'.1, isAtB, decide_eq_false h], h'.2⟩

theorem endsWith_any (l : List Int) (v : Value) (n : Int) (w : World) (hv : VS w 1 RInt v l) :
    Calls Tryz.prog 45 #[v, .int .i64 n] w fun e w' => e = .returned (.bool (endsB l n)) ∧ w = w' := by
  obtain ⟨A, c, rfl, hl⟩ := hv
  have hlen := hl.len
  by_cases h0 : l.length = 0
  · have he : endsB l n = false := by
      rw [List.length_eq_zero_iff.1 h0]; rfl
    rw [he]
    clear he
    have h00 : ¬ (0 < l.length) := by omega
    have H0 := Lib.hid h0
    clear h0
    go_enter Tryz.func45, Tryz.ntmps45
    go_wp2_with fail
    go_ret
    exact ⟨rfl, rfl⟩
  · have h1 : 0 < l.length := by omega
    clear h0
    obtain ⟨b, o, x, rfl, hx, hc, -⟩ := hl.int (k := l.length - 1) (by omega)
    have he : endsB l n = (x == n) := by
      rw [endsB, List.getLast?_eq_getElem?, hx.out]; rfl
    rw [he]
    have hc' : w.cell? ⟨b, o + (l.length - 1), none⟩ = some (.int .i64 x) := hc
    clear he hx
    go_enter Tryz.func45, Tryz.ntmps45
    go_wp2_with fail
    go_ret
    exact ⟨rfl, rfl⟩

set_option maxRecDepth 100000 in
set_option maxHeartbeats 4000000 in
theorem ahead_any (f : FunD) (v : Value) (w : World) (hv : VFun w v f) (hn : f.blocks.length ≤ 1000000) :
    Calls Tryz.prog 23 #[v] w fun e w' => (∃ V G, e = .returned (.slice (some ⟨G, 0, none⟩) f.blocks.length f.blocks.length) ∧ w.heap.size ≤ G ∧ Grid w' G f.blocks.length V (fun i => aheadL f.blocks i)) ∧ Below w.heap.size w w' := by
  obtain ⟨Ar, cr, A, c, rfl, hr, hb, -, -⟩ := hv
  have hbl := hb.len
  obtain ⟨i0, hi, hz0, hz1, hz2⟩ := info_parts Tryz.info3
  have HI := Lib.hid (And.intro hi (And.intro hz0 (And.intro hz1 hz2)))
  clear hi hz0 hz1 hz2
  have hmk := run_make_row' (P := Tryz.prog) 83 43 (.slice none 0 0) 24 Tryz.underlying83 Tryz.info43 rfl .i64 .i64 f.blocks.length (by omega) (by omega)
  go_enter Tryz.func23, Tryz.ntmps23
  go_wp2_with fail
  clear hmk
  obtain ⟨w1, hw1, hs1, hk1, hbel1, hc1, -⟩ := named w #[.int .i64 f.params, .int .i64 f.result, .slice Ar f.regs.length cr, .slice A f.blocks.length c] 52
  have hc1 := hc1 3 _ rfl
  rw [← hw1]
  clear hw1
  have hgr := Grid.made w1 (w.heap.size + 1) f.blocks.length hs1.symm
  have hbel1' : Below (w.heap.size + 1) w1 (w1.alloc (.cells (madeCells #[.slice none 0 0] f.blocks.length) 43)) := (Below.refl _ _).alloc (by omega) _
  have hs2 : w.heap.size + 1 < (w1.alloc (.cells (madeCells #[.slice none 0 0] f.blocks.length) 43)).heap.size := by simp; omega
  generalize w1.alloc (.cells (madeCells #[.slice none 0 0] f.blocks.length) 43) = w2 at *
  have HS1 := Lib.hid hs1
  clear hs1
  go_loopw [15] (fun i wr => ∃ (k : Nat) (V : Nat → Value), k ≤ f.blocks.length ∧ i = .int .i64 k ∧ Below (w.heap.size + 1) w1 wr ∧ w.heap.size + 1 < wr.heap.size ∧ Grid wr (w.heap.size + 1) f.blocks.length V (fun i => aheadL (f.blocks.take k) i)) (fun i _ => f.blocks.length - (intOf i).toNat)
  case atStart => exact ⟨0, _, Nat.zero_le _, rfl, hbel1', hs2, hgr⟩
  case round =>
    obtain ⟨k, V, hk, rfl, hbel, hs, hg⟩ := hrel
    obtain ⟨wo, rfl⟩ : ∃ wo, wo = wr := ⟨wr, rfl⟩
    have hkw : Kept w1 wo := kept_below hbel (by have := HS1.out; omega)
    have hbox := hkw _ _ hc1
    by_cases hlt : k < f.blocks.length
    · obtain ⟨b, o, kb, rfl, hkb, ⟨Ap, cp, hphi, -⟩, ⟨Ai, ci, hins, -⟩, ⟨hkd, -⟩, ⟨har, -⟩, ⟨At, ct, hto, htos⟩⟩ := (SBlks.keep hk1 hb).at_ hlt
      have hphi := hkw _ _ hphi
      have hins := hkw _ _ hins
      have hkd := hkw _ _ hkd
      have har := hkw _ _ har
      have hto := hkw _ _ hto
      have htl := htos.len
      go_wp2_with fail
      clear hphi hins hkd har hto
      obtain ⟨w3, hw3, hs3, hk3, hbel3, -, -⟩ := named wo #[.slice Ap kb.phis.length cp, .slice Ai kb.ins.length ci, .int .i64 kb.term.kind, .int .i64 kb.term.arg, .slice At kb.term.to.length ct] 49
      have hg3 : Grid w3 (w.heap.size + 1) f.blocks.length V (LJ f.blocks k []) := by
        rw [hw3]; exact (hg.alloc _).congr (fun i _ => (LJ_nil _ _ _).symm)
      have hb3 : Below (w.heap.size + 1) w1 w3 := hbel.trans (hbel3.mono (by omega))
      have hs3 : w.heap.size + 1 < w3.heap.size := by omega
      rw [← hw3]
      clear hw3
      go_loopw [24] (fun i wr => ∃ (j : Nat) (V : Nat → Value), j ≤ kb.term.to.length ∧ i = .int .i64 j ∧ Below (w.heap.size + 1) w1 wr ∧ w.heap.size + 1 < wr.heap.size ∧ Grid wr (w.heap.size + 1) f.blocks.length V (LJ f.blocks k (kb.term.to.take j))) (fun i _ => kb.term.to.length - (intOf i).toNat)
      case atStart => exact ⟨0, V, Nat.zero_le _, rfl, hb3, hs3, hg3⟩
      case round =>
        obtain ⟨j, V', hj, rfl, hbelr, hsr, hgr'⟩ := hrel
        have hkr : Kept w1 wr := kept_below hbelr (by have := HS1.out; omega)
        have hboxr := hkr _ _ hc1
        by_cases hjt : j < kb.term.to.length
        · obtain ⟨b', o', x, rfl, hx, hxc, -⟩ := htos.int hjt
          have hxc := hkr _ _ hxc
          by_cases hin : 0 ≤ x ∧ x < f.blocks.length
          · obtain ⟨q, rfl⟩ : ∃ q : Nat, x = q := ⟨x.toNat, by omega⟩
            have hq : q < f.blocks.length := by omega
            have hq1 : (q : Int) < f.blocks.length := by omega
            have hq0 : (0 : Int) ≤ q := by omega
            clear hin
            have hrow := hgr'.row.cell hq
            have hvs : VS wr 1 RInt (V' q) (LJ f.blocks k (kb.term.to.take j) q) := vs_of_own (hgr'.own q hq) (LJ_i64 _ _ _ _ (by omega) hn)
            have he := LJ_ends f.blocks k (kb.term.to.take j) q
            have HE := Lib.hid he
            clear he
            go_wp2_with fail
            refine (isAt_yes _ _ _ hq0 hq1).mono ?_
            rintro e w' ⟨rfl, rfl⟩
            go_wp2_with fail
            refine (endsWith_any _ _ _ _ hvs).mono ?_
            rintro e w' ⟨rfl, rfl⟩
            rw [HE.out]
            cases hh : hasTo q (kb.term.to.take j)
            · have HH := Lib.hid hh
              clear hh
              have hll := LJ_len f.blocks k (kb.term.to.take j) q
              go_wp2_with (at_builtin; refine wpList_append_lies _ rfl (.tmp 47) (.tmp 49) 43 rfl (w.heap.size + 1 + 1) 3 i0 (.int .i64 0) 1 8 Tryz.underlying43 HI.out.1 HI.out.2.1 HI.out.2.2.1 HI.out.2.2.2 rfl (by decide) (V' q) _ _ rfl ((hgr'.own q hq).alloc _) ⟨wr.heap.size, 0, none⟩ 1 1 [.int .i64 k] rfl rfl ?c1 ?c2 ?c0 ?c3 ?c4 ?c5 (wr.heap.size + 1) ?c6 ?_)
              case c1 => exact news_one_add wr _ _ rfl
              case c2 => exact ints_oneCell .i64 [(k : Int)]
              case c0 => omega
              case c3 => unfold maxLen; omega
              case c4 => omega
              case c5 => simp; omega
              case c6 => simp
              intro g cap w4 hown4 hgrow4 hloc4 hlt4
              have hgp := Grid.push (hgr'.alloc _) hq hown4 hgrow4 (by simpa using hloc4)
              have hgp' := hgp.congr (fun i _ => LJ_new hx.out i HH.out)
              have hb4 : Below (w.heap.size + 1) w1 w4 := (hbelr.alloc (by omega) _).grown hgrow4 (by simp; omega) (fun g hg => by have := ((hgr'.own q hq).lt g hg).1; omega)
              have hG4 : w4.heap[w.heap.size + 1]? = (wr.alloc (.cells #[.int .i64 k] 3)).heap[w.heap.size + 1]? := hgrow4.block _ (by simp; omega) (fun e => by have := ((hgr'.own q hq).lt _ e.symm).1; omega)
              have hrow4 := (World.cell?_of_block (a := ⟨w.heap.size + 1, q, none⟩) hG4).trans ((hgr'.row.alloc _).cell hq)
              have hfr4 := (World.frozen?_of_block (a := ⟨w.heap.size + 1, q, none⟩) hG4).trans ((hgr'.row.alloc _).frozen q)
              have hs4 : w.heap.size + 1 < w4.heap.size := by have := hgrow4.size; simp at this; omega
              have HP := Lib.hid hgp'
              clear hgp hgp' hown4 hgrow4 hloc4 hG4 hgr' hrow hvs
              go_wp2_with fail
              go_roundw
              case rel => exact ⟨j + 1, _, by omega, by go_num, hb4.setCell (by show _ ≤ w.heap.size + 1; omega) _, by simpa using hs4, HP.out⟩
              case measure => simp [intOf]; omega
            · have HH := Lib.hid hh
              clear hh
              go_wp2_with fail
              go_roundw
              case rel => exact ⟨j + 1, V', by omega, by go_num, hbelr, hsr, hgr'.congr (fun i _ => LJ_again hx.out i HH.out)⟩
              case measure => simp [intOf]; omega
          · go_wp2_with fail
            refine (isAt_no _ _ _ hin).mono ?_
            rintro e w' ⟨rfl, rfl⟩
            go_wp2_with fail
            go_roundw
            case rel => exact ⟨j + 1, V', by omega, by go_num, hbelr, hsr, hgr'.congr (fun i hi => LJ_out hx.out i (fun e => hin (by omega)))⟩
            case measure => simp [intOf]; omega
        · have hjj : kb.term.to.take j = kb.term.to := List.take_of_length_le (by omega)
          rw [hjj] at hgr'
          clear hjj
          go_wp2_with fail
          go_roundw
          case rel => exact ⟨k + 1, V', by omega, by go_num, hbelr, hsr, hgr'.congr (fun i _ => LJ_all i hkb.out)⟩
          case measure => simp [intOf]; omega
    · have hkk : f.blocks.take k = f.blocks := List.take_of_length_le (by omega)
      rw [hkk] at hg
      clear hkk
      go_wp2_with fail
      go_ret
      exact ⟨⟨V, _, rfl, by omega, hg⟩, hbel1.trans (hbel.mono (by omega))⟩
end Go.Proofs.YtooblmiffgjmjaaGreatDoor

/- What the functions of package arith answer: their contracts. -/
namespace Go.Proofs.YtooblmiffgjmjaaGreatDoor
open Go.ChangeShapes Go.WideShapes Go.ChangeAt Go.RowKit

theorem places_any (b : Int) (w : World) : Calls Tryz.prog 91 #[.int .i64 b] w fun e w' => e = .returned (.int .u64 (pl b)) ∧ w = w' := by
  unfold pl
  go_enter Tryz.func91, Tryz.ntmps91
  go_wp2
  go_ret
  exact ⟨rfl, rfl⟩

theorem asNumber_any (b : Bool) (w : World) : Calls Tryz.prog 92 #[.bool b] w fun e w' => e = .returned (.int .i64 (asN b)) ∧ w = w' := by
  cases b
  all_goals
    go_enter Tryz.func92, Tryz.ntmps92
    go_wp2
    go_ret
    exact ⟨rfl, rfl⟩

theorem ofTwo_most (op a b : Int) (w : World) (h : 3 ≤ op) (h2 : op ≤ 11) (hb : op = 11 → (b == 0) = false) :
    Calls Tryz.prog 90 #[.int .i64 op, .int .i64 a, .int .i64 b] w fun e w' => e = .returned (.int .i64 (two op a b)) ∧ w = w' := by
  have hp := pl_lo b
  obtain rfl | rfl | rfl | rfl | rfl| rfl| rfl| rfl| rfl : op = 3 ∨ op = 4 ∨ op = 5 ∨ op = 6 ∨ op = 7 ∨ op = 8 ∨ op = 9 ∨ op = 10 ∨ op = 11 := by omega
  all_goals
    try have hb' := hb rfl
    try have hb0 : ¬ b = 0 := by simpa using hb'
    clear hb h h2
    go_enter Tryz.func90, Tryz.ntmps90
    go_wp2_with (first | (go_at_call 91; refine (places_any _ _).mono ?_; rintro e w' ⟨rfl, rfl⟩) | (go_at_call 92; refine (asNumber_any _ _).mono ?_; rintro e w' ⟨rfl, rfl⟩))
    go_ret
    exact ⟨rfl, rfl⟩

theorem ofTwo_lt (a b : Int) (w : World) :
    Calls Tryz.prog 90 #[.int .i64 12, .int .i64 a, .int .i64 b] w fun e w' => e = .returned (.int .i64 (two 12 a b)) ∧ w = w' := by
  have e : two 12 a b = asN (decide (a < b)) := rfl
  rw [e]
  clear e
  by_cases hd : a < b
  all_goals
    go_enter Tryz.func90, Tryz.ntmps90
    go_wp2_with (first | (go_at_call 92; refine (asNumber_any _ _).mono ?_; rintro e w' ⟨rfl, rfl⟩))
    go_ret
    refine ⟨?_, rfl⟩
    first | (rw [show decide (a < b) = true from by simpa using hd]; rfl) | (rw [show decide (a < b) = false from by simpa using hd]; rfl)

theorem ofTwo_eq (a b : Int) (w : World) :
    Calls Tryz.prog 90 #[.int .i64 13, .int .i64 a, .int .i64 b] w fun e w' => e = .returned (.int .i64 (two 13 a b)) ∧ w = w' := by
  have e : two 13 a b = asN (a == b) := rfl
  rw [e]
  clear e
  by_cases hd : a = b
  · subst hd
    go_enter Tryz.func90, Tryz.ntmps90
    go_wp2_with (first | (go_at_call 92; refine (asNumber_any _ _).mono ?_; rintro e w' ⟨rfl, rfl⟩))
    go_ret
    exact ⟨by simp, rfl⟩
  · have hd' : (a == b) = false := by simp [hd]
    clear hd
    go_enter Tryz.func90, Tryz.ntmps90
    go_wp2_with (first | (go_at_call 92; refine (asNumber_any _ _).mono ?_; rintro e w' ⟨rfl, rfl⟩))
    go_ret
    exact ⟨by simp [hd'], rfl⟩

theorem ofTwo_any (op a b : Int) (w : World) (h : 3 ≤ op) (h2 : op ≤ 13) (hb : op = 11 → (b == 0) = false) :
    Calls Tryz.prog 90 #[.int .i64 op, .int .i64 a, .int .i64 b] w fun e w' => e = .returned (.int .i64 (two op a b)) ∧ w' = w := by
  by_cases h12 : op = 12
  · subst h12; exact (ofTwo_lt a b w).mono fun _ _ h => ⟨h.1, h.2.symm⟩
  · by_cases h13 : op = 13
    · subst h13; exact (ofTwo_eq a b w).mono fun _ _ h => ⟨h.1, h.2.symm⟩
    · exact (ofTwo_most op a b w h (by omega) hb).mono fun _ _ h => ⟨h.1, h.2.symm⟩

theorem ofOne_any (op a : Int) (w : World) (h : op = 2 ∨ op = 14) :
    Calls Tryz.prog 88 #[.int .i64 op, .int .i64 a] w fun e w' => e = .returned (.int .i64 (one op a)) ∧ w = w' := by
  obtain rfl | rfl := h
  all_goals
    go_enter Tryz.func88, Tryz.ntmps88
    go_wp2
    go_ret
    exact ⟨rfl, rfl⟩

theorem opArgs_any (op : Int) (w : World) :
    Calls Tryz.prog 86 #[.int .i64 op] w fun e w' => e = .returned (.tuple #[.int .i64 (opArity op), .bool (opKnown op)]) ∧ w = w' := by
  by_cases h : 2 ≤ op ∧ op ≤ 14
  · obtain rfl | rfl | rfl | rfl | rfl| rfl| rfl| rfl| rfl| rfl| rfl | rfl | rfl : op = 2 ∨ op = 3 ∨ op = 4 ∨ op = 5 ∨ op = 6 ∨ op = 7 ∨ op = 8 ∨ op = 9 ∨ op = 10 ∨ op = 11 ∨ op = 12 ∨ op = 13 ∨ op = 14 := by omega
    all_goals
      go_enter Tryz.func86, Tryz.ntmps86
      go_wp2
      go_ret2
      exact ⟨rfl, rfl⟩
  · have e1 : opArity op = 0 := by unfold opArity; rw [if_neg (by omega), if_neg (by omega)]
    have e2 : opKnown op = false := by unfold opKnown; simp; omega
    rw [e1, e2]
    clear e1 e2
    have h2 : (op == 2) = false := by simp; omega
    have h3 : (op == 3) = false := by simp; omega
    have h4 : (op == 4) = false := by simp; omega
    have h5 : (op == 5) = false := by simp; omega
    have h6 : (op == 6) = false := by simp; omega
    have h7 : (op == 7) = false := by simp; omega
    have h8 : (op == 8) = false := by simp; omega
    have h9 : (op == 9) = false := by simp; omega
    have h10 : (op == 10) = false := by simp; omega
    have h11 : (op == 11) = false := by simp; omega
    have h12 : (op == 12) = false := by simp; omega
    have h13 : (op == 13) = false := by simp; omega
    have h14 : (op == 14) = false := by simp; omega
    clear h
    go_enter Tryz.func86, Tryz.ntmps86
    go_wp2
    go_ret2
    exact ⟨rfl, rfl⟩

theorem traps_any (op : Int) (w : World) :
    Calls Tryz.prog 89 #[.int .i64 op] w fun e w' => e = .returned (.bool (op == 11)) ∧ w = w' := by
  go_enter Tryz.func89, Tryz.ntmps89
  go_wp2
  go_ret
  exact ⟨rfl, rfl⟩

/-- Nothing but the count of draws has turned. -/
def Drawn (w w' : World) : Prop := ∃ n, w' = w.drewN n

/-- Two arguments, which are as many as there must be. -/
theorem eval_two (op a b : Int) (k off cap : Nat) (w : World) (h : 3 ≤ op) (h2 : op ≤ 13) (hb : op = 11 → (b == 0) = false)
    (hc0 : w.cell? ⟨k, off, none⟩ = some (.int .i64 a)) (hc1 : w.cell? ⟨k, off + 1, none⟩ = some (.int .i64 b)) :
    Calls Tryz.prog 76 #[.int .i64 op, .slice (some ⟨k, off, none⟩) 2 cap] w fun e w' => e = .returned (.tuple #[.int .i64 (two op a b), .nilIface]) ∧ Drawn w w' := by
  have ea : opArity op = 2 := by unfold opArity; rw [if_neg (by omega), if_pos (by omega)]
  have ek : opKnown op = true := by unfold opKnown; simp; omega
  have H := Lib.hid hb
  clear hb
  by_cases h11 : op = 11
  · subst h11
    have hb' := H.out rfl
    clear H
    go_enter Tryz.func76, Tryz.ntmps76
    go_wp2_with (first | (go_at_call 86; refine (opArgs_any _ _).mono ?_; rintro e w' ⟨rfl, rfl⟩) | (go_at_call 89; refine (traps_any _ _).mono ?_; rintro e w' ⟨rfl, rfl⟩))
    go_quiet ((go_at_call 90; refine Calls.quiet_of_same (ofTwo_any _ _ _ _ ?_ ?_ ?_) <;> first | omega | exact (fun _ => hb') | exact H.out))
    go_wp2
    go_ret2
    exact ⟨rfl, _, rfl⟩
  · have h11' : (op == 11) = false := by simp; omega
    clear h11
    go_enter Tryz.func76, Tryz.ntmps76
    go_wp2_with (first | (go_at_call 86; refine (opArgs_any _ _).mono ?_; rintro e w' ⟨rfl, rfl⟩) | (go_at_call 89; refine (traps_any _ _).mono ?_; rintro e w' ⟨rfl, rfl⟩))
    go_quiet ((go_at_call 90; refine Calls.quiet_of_same (ofTwo_any _ _ _ _ ?_ ?_ ?_) <;> first | omega | exact (fun _ => hb') | exact H.out))
    go_wp2
    go_ret2
    exact ⟨rfl, _, rfl⟩

theorem eval_div0 (k off cap : Nat) (w : World) (hc1 : w.cell? ⟨k, off + 1, none⟩ = some (.int .i64 0)) :
    Calls Tryz.prog 76 #[.int .i64 11, .slice (some ⟨k, off, none⟩) 2 cap] w fun e w' => e = .returned (.tuple #[.int .i64 0, .iface 41 (.int .i64 7)]) ∧ w = w' := by
  have ea : opArity 11 = 2 := rfl
  have ek : opKnown 11 = true := rfl
  go_enter Tryz.func76, Tryz.ntmps76
  go_wp2_with (first | (go_at_call 86; refine (opArgs_any _ _).mono ?_; rintro e w' ⟨rfl, rfl⟩) | (go_at_call 89; refine (traps_any _ _).mono ?_; rintro e w' ⟨rfl, rfl⟩))
  go_ret2
  exact ⟨rfl, rfl⟩

theorem eval_one (op a : Int) (k off cap : Nat) (w : World) (h : op = 2 ∨ op = 14) (hc0 : w.cell? ⟨k, off, none⟩ = some (.int .i64 a)) :
    Calls Tryz.prog 76 #[.int .i64 op, .slice (some ⟨k, off, none⟩) 1 cap] w fun e w' => e = .returned (.tuple #[.int .i64 (one op a), .nilIface]) ∧ w = w' := by
  have ea : opArity op = 1 := by unfold opArity; rw [if_pos h]
  have ek : opKnown op = true := by unfold opKnown; simp; omega
  have H := Lib.hid h
  clear h
  go_enter Tryz.func76, Tryz.ntmps76
  go_wp2_with (first | (go_at_call 86; refine (opArgs_any _ _).mono ?_; rintro e w' ⟨rfl, rfl⟩) | (go_at_call 88; refine (ofOne_any _ _ _ H.out).mono ?_; rintro e w' ⟨rfl, rfl⟩))
  go_ret2
  exact ⟨rfl, rfl⟩

theorem eval_unknown (op : Int) (p : Option Addr) (len cap : Nat) (w : World) (h : opKnown op = false) :
    Calls Tryz.prog 76 #[.int .i64 op, .slice p len cap] w fun e w' => e = .returned (.tuple #[.int .i64 0, .iface 41 (.int .i64 1)]) ∧ w = w' := by
  go_enter Tryz.func76, Tryz.ntmps76
  go_wp2_with (first | (go_at_call 86; refine (opArgs_any _ _).mono ?_; rintro e w' ⟨rfl, rfl⟩))
  go_ret2
  exact ⟨rfl, rfl⟩

theorem eval_count (op : Int) (p : Option Addr) (len cap : Nat) (w : World) (h : opKnown op = true) (hl : ((len : Int) != opArity op) = true) :
    Calls Tryz.prog 76 #[.int .i64 op, .slice p len cap] w fun e w' => e = .returned (.tuple #[.int .i64 0, .iface 41 (.int .i64 1)]) ∧ w = w' := by
  go_enter Tryz.func76, Tryz.ntmps76
  go_wp2_with (first | (go_at_call 86; refine (opArgs_any _ _).mono ?_; rintro e w' ⟨rfl, rfl⟩))
  go_ret2
  exact ⟨rfl, rfl⟩
end Go.Proofs.YtooblmiffgjmjaaGreatDoor

/- What memory holds of the machine of a run. -/
namespace Go.Proofs.YtooblmiffgjmjaaGreatDoor
open Go.ChangeShapes Go.WideShapes Go.RowKit Go.Deep
set_option linter.unusedVariables false

/-- 'copy', where its run is known by an equation. -/
theorem wpList_copy_any {P : Program} (w : World) {ops : Array Oper} {rest : List Oper} {o : Oper} {a : Act} {Q : Exit → Act → World → Prop} (hgd : o.guard = none) (d s : Operand) (t t' : TypeId)
    (ho : o.op = .call { callee := .builtin .copy, args := #[d, s], argTypes := #[t, t'] }) (v u : Value) (hd : a.eval d = v) (hs : a.eval s = u) {v' : Value} {w' : World}
    (hr : (Builtin.copy_ #[t, t'] o.type #[v, u]).run P w = .ok v' w') (h : wpList P ops Q rest (a.put o.dst v') w') : wpList P ops Q (o :: rest) a w :=
  wpList_plain hgd fun _ hK => by
    unfold Oper.wp execOp
    simp only [ho, resolve, invoke, builtin, Sem.run_bind, Sem.run_pure, Result.andThen_ok, List.map_toArray, List.map_cons, List.map_nil, hd, hs, hr]
    exact hK _ _ h

/-- The machine's slices: callers, funcs, ahead, read, and what was put out. -/
structure MV where
  vc : Value
  vf : Value
  va : Value
  vr : Value
  vo : Value
def placeC (s : St) (i : Nat) : Value := if i = 0 then .int .i64 s.cur.fn else if i = 1 then .int .i64 s.cur.blk else .int .i64 s.cur.at_
def midC (s : St) (q : MV) (i : Nat) : Value :=
  if i = 259 then q.vc else if i = 260 then q.vf else if i = 261 then q.va else if i = 262 then q.vr else if i = 263 then .bool s.done
  else if i = 264 then .int .i64 s.trap else if i = 265 then .int .i64 s.value else if i = 266 then q.vo else .int .i64 s.steps
/-- Cell i of the machine. -/
def cellM (s : St) (q : MV) (i : Nat) : Value :=
  if i < 3 then placeC s i else if i < 259 then .int .i64 (s.cur.regs (i - 3)) else if i < 268 then midC s q i else .int .i64 (s.mem (i - 268))
theorem cellM_lo (s : St) (q : MV) {i : Nat} (h : i < 3) : cellM s q i = placeC s i := by unfold cellM; rw [if_pos h]
theorem cellM_regs (s : St) (q : MV) {i : Nat} (h : 3 ≤ i) (h2 : i < 259) : cellM s q i = .int .i64 (s.cur.regs (i - 3)) := by unfold cellM; rw [if_neg (Nat.not_lt.2 h), if_pos h2]
theorem cellM_mid (s : St) (q : MV) {i : Nat} (h : 259 ≤ i) (h2 : i < 268) : cellM s q i = midC s q i := by
  unfold cellM; rw [if_neg (show ¬ i < 3 by omega), if_neg (Nat.not_lt.2 h), if_pos h2]
theorem cellM_hi (s : St) (q : MV) {i : Nat} (h : 268 ≤ i) : cellM s q i = .int .i64 (s.mem (i - 268)) := by
  unfold cellM; rw [if_neg (show ¬ i < 3 by omega), if_neg (show ¬ i < 259 by omega), if_neg (Nat.not_lt.2 h)]
def macC (s : St) (q : MV) : Array Value := Array.ofFn (n := 332) fun i => cellM s q i.val
theorem macC_size (s : St) (q : MV) : (macC s q).size = 332 := by simp [macC]
theorem macC_get (s : St) (q : MV) {i : Nat} (hi : i < 332) : (macC s q)[i]? = some (cellM s q i) := by
  unfold macC; rw [Array.getElem?_ofFn, dif_pos hi]
theorem macC_set {s s' : St} {q q' : MV} {i : Nat} {v : Value} (h : ∀ j, j < 332 → cellM s' q' j = if j = i then v else cellM s q j) : (macC s q).setIfInBounds i v = macC s' q' := by
  apply Array.ext
  · simp [macC]
  · intro j h1 h2
    have hj : j < 332 := by simpa [macC] using h1
    rw [Array.getElem_setIfInBounds (by simpa [macC] using hj)]
    simp only [macC, Array.getElem_ofFn]
    rw [h j hj]
    by_cases hij : i = j
    · rw [if_pos hij, if_pos hij.symm]
    · rw [if_neg hij, if_neg (fun e => hij e.symm)]
theorem cellM_reg (s : St) (q : MV) {r : Nat} (hr : r < 256) : cellM s q (3 + r) = .int .i64 (s.cur.regs r) := by
  rw [cellM_regs s q (by omega) (by omega), show 3 + r - 3 = r by omega]
theorem cellM_mem (s : St) (q : MV) {k : Nat} (hk : k < 64) : cellM s q (268 + k) = .int .i64 (s.mem k) := by
  rw [cellM_hi s q (by omega), show 268 + k - 268 = k by omega]

/-- The machine's block. -/
def MacB (P : Nat) (w : World) (s : St) (q : MV) : Prop := w.heap[P]? = some (.cells (macC s q) 82 (0, 0))
section
variable {P : Nat} {w : World} {s s' : St} {q q' : MV}
theorem MacB.cell (h : MacB P w s q) {i : Nat} (hi : i < 332) : w.cell? ⟨P, i, none⟩ = some (cellM s q i) := (cell_of_block h i).trans (macC_get s q hi)
theorem MacB.reg (h : MacB P w s q) {r : Nat} (hr : r < 256) : w.cell? ⟨P, 3 + r, none⟩ = some (.int .i64 (s.cur.regs r)) := by rw [h.cell (by omega), cellM_reg s q hr]
theorem MacB.free (h : MacB P w s q) (i : Nat) : w.frozen? ⟨P, i, none⟩ = false := free_of_block h i
theorem MacB.set (h : MacB P w s q) {i : Nat} {v : Value} (hc : ∀ j, j < 332 → cellM s' q' j = if j = i then v else cellM s q j) : MacB P (w.setCell ⟨P, i, none⟩ v) s' q' :=
  (set_of_block v h).trans (by rw [macC_set hc])
theorem MacB.lt (h : MacB P w s q) : P < w.heap.size := block_lt h
end
/-- One cell is changed: of each part of the machine what it holds. -/
theorem set_parts {s s' : St} {q q' : MV} {i : Nat} {v : Value} (hi : i < 332) (hv : cellM s' q' i = v) (hp : ∀ j, j < 3 → j ≠ i → placeC s' j = placeC s j)
    (hr : ∀ r, r < 256 → 3 + r ≠ i → s'.cur.regs r = s.cur.regs r) (hq : ∀ j, 259 ≤ j → j < 268 → j ≠ i → midC s' q' j = midC s q j) (hm : ∀ k, k < 64 → 268 + k ≠ i → s'.mem k = s.mem k) :
    ∀ j, j < 332 → cellM s' q' j = if j = i then v else cellM s q j := by
  intro j hj
  by_cases hji : j = i
  · subst hji; rw [if_pos rfl]; exact hv
  · rw [if_neg hji]
    by_cases h1 : j < 3
    · rw [cellM_lo _ _ h1, cellM_lo _ _ h1, hp j h1 hji]
    · by_cases h2 : j < 259
      · rw [cellM_regs _ _ (Nat.not_lt.1 h1) h2, cellM_regs _ _ (Nat.not_lt.1 h1) h2, hr (j - 3) (by omega) (by omega)]
      · by_cases h3 : j < 268
        · rw [cellM_mid _ _ (Nat.not_lt.1 h2) h3, cellM_mid _ _ (Nat.not_lt.1 h2) h3, hq j (Nat.not_lt.1 h2) h3 hji]
        · rw [cellM_hi _ _ (Nat.not_lt.1 h3), cellM_hi _ _ (Nat.not_lt.1 h3), hm (j - 268) (by omega) (by omega)]
theorem set_reg (s : St) (q : MV) (r : Nat) (v : Int) (hr : r < 256) {f : Nat → Int} (hf : f = upd s.cur.regs r v) : ∀ j, j < 332 → cellM { s with cur := { s.cur with regs := f } } q j = if j = 3 + r then .int .i64 v else cellM s q j := by
  subst hf
  refine set_parts (by omega) ?_ (fun _ _ _ => rfl) (fun k _ h => ?_) (fun _ _ _ _ => rfl) (fun _ _ _ => rfl)
  · rw [cellM_reg _ _ hr]; show Value.int .i64 (upd s.cur.regs r v r) = _; unfold upd; rw [if_pos rfl]
  · show upd s.cur.regs r v k = _; unfold upd; rw [if_neg (by omega)]
theorem set_mem (s : St) (q : MV) (k : Nat) (v : Int) (hk : k < 64) : ∀ j, j < 332 → cellM { s with mem := upd s.mem k v } q j = if j = 268 + k then .int .i64 v else cellM s q j := by
  refine set_parts (by omega) ?_ (fun _ _ _ => rfl) (fun _ _ _ => rfl) (fun _ _ _ _ => rfl) (fun i _ h => ?_)
  · rw [cellM_mem _ _ hk]; show Value.int .i64 (upd s.mem k v k) = _; unfold upd; rw [if_pos rfl]
  · show upd s.mem k v i = _; unfold upd; rw [if_neg (by omega)]
/-- A cell of the middle. -/
theorem set_mid {s s' : St} {q q' : MV} {i : Nat} {v : Value} (h1 : 259 ≤ i) (h2 : i < 268) (hv : midC s' q' i = v) (hc : s'.cur = s.cur) (hm : s'.mem = s.mem) (hq : ∀ j, 259 ≤ j → j < 268 → j ≠ i → midC s' q' j = midC s q j) :
    ∀ j, j < 332 → cellM s' q' j = if j = i then v else cellM s q j :=
  set_parts (by omega) (by rw [cellM_mid _ _ h1 h2]; exact hv) (fun _ _ _ => by unfold placeC; rw [hc]) (fun _ _ _ => by rw [hc]) hq (fun _ _ _ => by rw [hm])
theorem mid_cases {p : Nat → Prop} (h3 : p 259) (h4 : p 260) (h5 : p 261) (h6 : p 262) (h7 : p 263) (h8 : p 264) (h9 : p 265) (h10 : p 266) (h11 : p 267) : ∀ j, 259 ≤ j → j < 268 → p j := by
  intro j hj hj2
  have : j = 259 ∨ j = 260 ∨ j = 261 ∨ j = 262 ∨ j = 263 ∨ j = 264 ∨ j = 265 ∨ j = 266 ∨ j = 267 := by omega
  rcases this with rfl | rfl | rfl | rfl | rfl | rfl | rfl | rfl | rfl <;> assumption
/-- A cell of the place. -/
theorem set_place {s s' : St} {q : MV} {i : Nat} {v : Value} (h1 : i < 3) (hv : placeC s' i = v) (hp : ∀ j, j < 3 → j ≠ i → placeC s' j = placeC s j) (hr : s'.cur.regs = s.cur.regs) (hm : s'.mem = s.mem) (hq : ∀ j, midC s' q j = midC s q j) :
    ∀ j, j < 332 → cellM s' q j = if j = i then v else cellM s q j :=
  set_parts (by omega) (by rw [cellM_lo _ _ h1]; exact hv) hp (fun _ _ _ => by rw [hr]) (fun j _ _ _ => hq j) (fun _ _ _ => by rw [hm])

/-! ### What it stands on -/
/-- Blocks that no step of the run changes. -/
def Old (K P : Nat) (b : Nat) : Prop := b < K ∧ b ≠ P
def RRowB (B : Nat → Prop) (w : World) (b o : Nat) (l : List Int) : Prop := B b ∧ CS w b o 1 (RIntB B) l
def RAhB (B : Nat → Prop) (w : World) (b o : Nat) (f : FunD) : Prop := B b ∧ CS w b o 1 (RRowB B) (rows f.blocks)
theorem RRowB.go {B B' : Nat → Prop} {w w' : World} (h : KeptB B w w') (hB : ∀ b, B b → B' b) (b o : Nat) (l : List Int) (hv : RRowB B w b o l) : RRowB B' w' b o l := ⟨hB _ hv.1, CSB.go h hB (RIntB.go h hB) hv.1 hv.2⟩
theorem RAhB.go {B B' : Nat → Prop} {w w' : World} (h : KeptB B w w') (hB : ∀ b, B b → B' b) (b o : Nat) (f : FunD) (hv : RAhB B w b o f) : RAhB B' w' b o f := ⟨hB _ hv.1, CSB.go h hB (RRowB.go h hB) hv.1 hv.2⟩
/-- The functions, and of each function's each block those ahead of it. -/
def Env (K P : Nat) (w : World) (m : List FunD) (q : MV) : Prop :=
  (∃ A c, q.vf = .slice A m.length c ∧ SL w 4 (RFunB (Old K P)) A c m) ∧ (∃ A c, q.va = .slice A m.length c ∧ SL w 1 (RAhB (Old K P)) A c m)
theorem Env.keep {K P : Nat} {w w' : World} {m : List FunD} {q : MV} (h : Env K P w m q) (hk : KeptB (Old K P) w w') : Env K P w' m q := by
  obtain ⟨⟨A, c, e, h1⟩, A2, c2, e2, h2⟩ := h
  exact ⟨⟨A, c, e, SL.imp (RFunB.go hk (fun _ h => h)) h1⟩, A2, c2, e2, SL.imp (RAhB.go hk (fun _ h => h)) h2⟩

/-- A list of integers that is read without asking how large they are. -/
def RW (w : World) (b o : Nat) (x : Int) : Prop := w.cell? ⟨b, o, none⟩ = some (.int .i64 x)
def RWB (B : Nat → Prop) (w : World) (b o : Nat) (x : Int) : Prop := B b ∧ RW w b o x
theorem RWB.go {B B' : Nat → Prop} {w w' : World} (h : KeptB B w w') (hB : ∀ b, B b → B' b) (b o : Nat) (x : Int) (hv : RWB B w b o x) : RWB B' w' b o x := ⟨hB _ hv.1, h _ _ hv.1 hv.2⟩
theorem RWB.lt {B : Nat → Prop} {w : World} (b o : Nat) (x : Int) (hv : RWB B w b o x) : RWB (fun b => B b ∧ b < w.heap.size) w b o x := ⟨⟨hv.1, block_lt_of_cell hv.2⟩, hv.2⟩
/-- A caller as it lies in the row of callers. -/
def CCal (B : Nat → Prop) (w : World) (fr : Fr) (cs : List Value) : Prop :=
  ∃ A c l, cs = [.int .i64 fr.fn, .int .i64 fr.blk, .int .i64 fr.at_, .slice A l.length c] ∧ SL w 1 (RWB B) A c l ∧ l.length ≤ 256 ∧ ∀ i, fr.regs i = l.getD i 0
theorem CCal.go {B B' : Nat → Prop} {w w' : World} (h : KeptB B w w') (hB : ∀ b, B b → B' b) {fr : Fr} {cs : List Value} (hv : CCal B w fr cs) : CCal B' w' fr cs := by
  obtain ⟨A, c, l, e, h1, h2⟩ := hv
  exact ⟨A, c, l, e, SL.imp (RWB.go h hB) h1, h2⟩
theorem CCal.lt {B : Nat → Prop} {w : World} {fr : Fr} {cs : List Value} (hv : CCal B w fr cs) : CCal (fun b => B b ∧ b < w.heap.size) w fr cs := by
  obtain ⟨A, c, l, e, h1, h2⟩ := hv
  exact ⟨A, c, l, e, SL.imp RWB.lt h1, h2⟩

/-- The run's own rows: what was read, what was put out, who waits. -/
structure Dyn (K : Nat) (w : World) (s : St) (q : MV) (rd : List Int) : Prop where
  rdv : w.ownsRow K 2 1 q.vr rd.length (rd.map (Value.int .i64))
  outv : w.ownsRow K 2 1 q.vo s.out.length (s.out.map (Value.int .i64))
  calls : ∃ cc, w.ownsRow K 139 4 q.vc s.stack.length cc ∧ Rows 4 (CCal (fun b => K ≤ b ∧ some b ≠ q.vr.ownBlock ∧ some b ≠ q.vo.ownBlock ∧ some b ≠ q.vc.ownBlock) w) s.stack.reverse cc
  ro : q.vr.ownBlock = none ∨ q.vr.ownBlock ≠ q.vo.ownBlock
  rc : q.vr.ownBlock = none ∨ q.vr.ownBlock ≠ q.vc.ownBlock
  oc : q.vo.ownBlock = none ∨ q.vo.ownBlock ≠ q.vc.ownBlock
/-- The machine in block P. -/
def Mac (K P : Nat) (m : List FunD) (w : World) (s : St) (rd : List Int) : Prop := ∃ q, MacB P w s q ∧ Env K P w m q ∧ Dyn K w s q rd ∧ P < K ∧ K ≤ w.heap.size
end Go.Proofs.YtooblmiffgjmjaaGreatDoor

/- The machine's small functions. -/
namespace Go.Proofs.YtooblmiffgjmjaaGreatDoor
open Go.ChangeShapes Go.WideShapes Go.RowKit Go.Deep
set_option linter.unusedVariables false

theorem owns_keep {w w' : World} {base n size : Nat} {e : TypeId} {v : Value} {xs : List Value} (h : w.ownsRow base e size v n xs) (hk : ∀ g, v.ownBlock = some g → base ≤ g → g < w.heap.size → w'.heap[g]? = w.heap[g]?) : w'.ownsRow base e size v n xs := by
  refine ⟨h.1, ?_⟩
  rcases h.2 with h1 | ⟨g, cap, cur, rfl, h2, h3, h4⟩
  · exact .inl h1
  · exact .inr ⟨g, cap, cur, rfl, h2, (hk g rfl h2 (block_lt h3)).trans h3, h4⟩
/-- Nothing but the machine's own block has changed. -/
theorem Dyn.go {K : Nat} {w w' : World} {s s' : St} {q q' : MV} {rd : List Int} (h : Dyn K w s q rd) (hk : ∀ k, K ≤ k → k < w.heap.size → w'.heap[k]? = w.heap[k]?) (ho : s'.out = s.out) (hst : s'.stack = s.stack) (h1 : q'.vc = q.vc) (h2 : q'.vr = q.vr) (h3 : q'.vo = q.vo) : Dyn K w' s' q' rd := by
  obtain ⟨a1, a2, ⟨cc, a3, a4⟩, a5, a6, a7⟩ := h
  refine ⟨by rw [h2]; exact owns_keep a1 (fun g _ hb hl => hk g hb hl), by rw [h3, ho]; exact owns_keep a2 (fun g _ hb hl => hk g hb hl), ⟨cc, by rw [h1, hst]; exact owns_keep a3 (fun g _ hb hl => hk g hb hl), ?_⟩, by rw [h2, h3]; exact a5, by rw [h2, h1]; exact a6, by rw [h3, h1]; exact a7⟩
  rw [hst, h1, h2, h3]
  refine a4.imp fun fr cs hc => CCal.go (fun a v hB hv => ?_) (fun _ hB => hB.1) hc.lt
  rw [World.cell?_of_block (hk a.block hB.1.1 hB.2)]; exact hv
theorem env_set {K P : Nat} {w : World} {m : List FunD} {q q' : MV} (h : Env K P w m q) (h1 : q'.vf = q.vf) (h2 : q'.va = q.va) {w' : World} (hk : ∀ k, k < K → k ≠ P → k < w.heap.size → w'.heap[k]? = w.heap[k]?) : Env K P w' m q' := by
  have := h.keep (w' := w') (fun a v hB hv => by rw [World.cell?_of_block (hk a.block hB.1 hB.2 (block_lt_of_cell hv))]; exact hv)
  unfold Env at *
  rw [h1, h2]; exact this
/-- The machine, behind what has changed its block alone. -/
theorem mac_of {K P : Nat} {m : List FunD} {w w' : World} {s s' : St} {q q' : MV} {rd : List Int} (hb : MacB P w' s' q') (he : Env K P w m q) (hd : Dyn K w s q rd) (hP : P < K) (hK : K ≤ w.heap.size) (hs : w.heap.size ≤ w'.heap.size)
    (hk : ∀ k, k < w.heap.size → k ≠ P → w'.heap[k]? = w.heap[k]?) (ho : s'.out = s.out) (hst : s'.stack = s.stack) (hq : q' = q) : Mac K P m w' s' rd := by
  subst hq
  exact ⟨q', hb, env_set he rfl rfl (fun k h1 h2 h3 => hk k h3 h2), hd.go (fun k h1 h2 => hk k h2 (by omega)) ho hst rfl rfl rfl, hP, by omega⟩
theorem set_others {w : World} {P i : Nat} {v : Value} : ∀ k, k < w.heap.size → k ≠ P → (w.setCell ⟨P, i, none⟩ v).heap[k]? = w.heap[k]? := fun k _ hk => heap_setCell_other w ⟨P, i, none⟩ k v hk
theorem Mac.lt {K P : Nat} {m : List FunD} {w : World} {s : St} {rd : List Int} (h : Mac K P m w s rd) : P < w.heap.size := by obtain ⟨q, h1, _⟩ := h; exact h1.lt
theorem BB.drewN {n g : Nat} {a w : World} (h : BB n g a w) (k : Nat) : BB n g a (w.drewN k) := ⟨h.os, h.tape, h.output, h.size, h.block⟩
/-- A new block does the machine no harm. -/
theorem Mac.below {K P : Nat} {m : List FunD} {w w' : World} {s : St} {rd : List Int} (h : Mac K P m w s rd) (hb : Below w.heap.size w w') : Mac K P m w' s rd := by
  obtain ⟨q, h1, he, hd, hP, hK⟩ := h
  exact mac_of ((hb.block P h1.lt).trans h1) he hd hP hK hb.size (fun k hk _ => hb.block k hk) rfl rfl rfl
theorem Mac.drewN {K P : Nat} {m : List FunD} {w : World} {s : St} {rd : List Int} (h : Mac K P m w s rd) (n : Nat) : Mac K P m (w.drewN n) s rd := h.below (below_drewN (Below.refl _ _) n)

def ToldM (K P : Nat) (m : List FunD) (w : World) (s : St) (rd : List Int) (e : Ending) (w' : World) : Prop := e = .returned (.tuple #[]) ∧ Mac K P m w' s rd ∧ BB K P w w'

theorem within_any (a : Int) (n : Nat) (w : World) : Calls Tryz.prog 14 #[.int .i64 a, .int .i64 n] w fun e w' => e = .returned (.bool (decide (0 ≤ a ∧ a < n))) ∧ w = w' := by
  by_cases h0 : 0 ≤ a
  · by_cases h1 : a < n
    · have e : decide (0 ≤ a ∧ a < (n : Int)) = true := decide_eq_true ⟨h0, h1⟩
      rw [e]; clear e
      go_enter Tryz.func14, Tryz.ntmps14
      go_wp2_with fail
      go_ret
      exact ⟨rfl, rfl⟩
    · have e : decide (0 ≤ a ∧ a < (n : Int)) = false := decide_eq_false (fun h => h1 h.2)
      have h1' : decide (a < (n : Int)) = false := decide_eq_false h1
      rw [e]; clear e h1
      go_enter Tryz.func14, Tryz.ntmps14
      go_wp2_with fail
      go_ret
      exact ⟨rfl, rfl⟩
  · have e : decide (0 ≤ a ∧ a < (n : Int)) = false := decide_eq_false (fun h => h0 h.1)
    have h0' : decide (0 ≤ a) = false := decide_eq_false h0
    rw [e]; clear e h0
    go_enter Tryz.func14, Tryz.ntmps14
    go_wp2_with fail
    go_ret
    exact ⟨rfl, rfl⟩

theorem trap_any (K P : Nat) (m : List FunD) (w : World) (s : St) (rd : List Int) (t : Int) (h : Mac K P m w s rd) :
    Calls Tryz.prog 74 #[.pointer (some ⟨P, 0, none⟩), .int .i64 t] w (ToldM K P m w (trapS s t) rd) := by
  obtain ⟨q, hb, he, hd, hP, hK⟩ := h
  have HB := Lib.hid hb
  have HE := Lib.hid he
  have HD := Lib.hid hd
  have c1 : w.cell? ⟨P, 263, none⟩ = some (.bool s.done) := hb.cell (by omega)
  have c2 : w.cell? ⟨P, 264, none⟩ = some (.int .i64 s.trap) := hb.cell (by omega)
  have f1 := hb.free 263
  have f2 := hb.free 264
  clear hb he hd
  go_enter Tryz.func74, Tryz.ntmps74
  go_wp2_with fail
  go_end0
  have hb1 : MacB P (w.setCell ⟨P, 263, none⟩ (.bool true)) { s with done := true } q :=
    HB.out.set (set_mid (by omega) (by omega) rfl rfl rfl (mid_cases (fun _ => rfl) (fun _ => rfl) (fun _ => rfl) (fun _ => rfl) (fun h => absurd rfl h) (fun _ => rfl) (fun _ => rfl) (fun _ => rfl) (fun _ => rfl)))
  have hb2 : MacB P ((w.setCell ⟨P, 263, none⟩ (.bool true)).setCell ⟨P, 264, none⟩ (.int .i64 t)) (trapS s t) q :=
    hb1.set (set_mid (by omega) (by omega) rfl rfl rfl (mid_cases (fun _ => rfl) (fun _ => rfl) (fun _ => rfl) (fun _ => rfl) (fun _ => rfl) (fun h => absurd rfl h) (fun _ => rfl) (fun _ => rfl) (fun _ => rfl)))
  refine ⟨rfl, mac_of hb2 HE.out HD.out hP hK (by simp [World.setCell]) (fun k hk hne => (set_others k (by simpa [World.setCell] using hk) hne).trans (set_others k hk hne)) rfl rfl rfl, ?_⟩
  exact ((BB.refl K P w).setCell (p := ⟨P, 263, none⟩) (.inl rfl) _).setCell (p := ⟨P, 264, none⟩) (.inl rfl) _
end Go.Proofs.YtooblmiffgjmjaaGreatDoor
