/- The program's Ahead: a row of rows, row i the blocks ahead of i. -/
import Derived.Test.YtflbooopgjgkbaaDmFrJ
import Derived.Deep.OwnRows
import Derived.Deep.AppendLies
namespace Go.Proofs.Ytflbooopgjgkbaa
open Go.ChangeShapes Go.WideShapes Go.RowKit Go.Deep
set_option linter.unusedVariables false

theorem isAt_yes (a b : Int) (w : World) (h0 : 0 ≤ a) (h1 : a < b) : Calls Try.prog 71 #[.int .i64 a, .int .i64 b] w fun e w' => e = .returned (.bool true) ∧ w = w' := by
  go_enter Try.func71, Try.ntmps71
  go_wp2_with fail
  go_ret
  exact ⟨rfl, rfl⟩
theorem isAt_no (a b : Int) (w : World) (h : ¬ (0 ≤ a ∧ a < b)) : Calls Try.prog 71 #[.int .i64 a, .int .i64 b] w fun e w' => e = .returned (.bool false) ∧ w = w' := by
  by_cases h0 : 0 ≤ a
  · have h1 : b ≤ a := by omega
    clear h
    go_enter Try.func71, Try.ntmps71
    go_wp2_with fail
    go_ret
    exact ⟨by simp [h1], rfl⟩
  · clear h
    go_enter Try.func71, Try.ntmps71
    go_wp2_with fail
    go_ret
    exact ⟨rfl, rfl⟩
theorem isAt_any (a b : Int) (w : World) : Calls Try.prog 71 #[.int .i64 a, .int .i64 b] w fun e w' => e = .returned (.bool (isAtB a b)) ∧ w = w' := by
  by_cases h : 0 ≤ a ∧ a < b
  · exact (isAt_yes a b w h.1 h.2).mono fun e w' h' => ⟨by rw [h'.1, isAtB, decide_eq_true h], h'.2⟩
  · exact (isAt_no a b w h).mono fun e w' h' => ⟨by rw [h'.1, isAtB, decide_eq_false h], h'.2⟩

theorem endsWith_any (l : List Int) (v : Value) (n : Int) (w : World) (hv : VS w 1 RInt v l) :
    Calls Try.prog 72 #[v, .int .i64 n] w fun e w' => e = .returned (.bool (endsB l n)) ∧ w = w' := by
  obtain ⟨A, c, rfl, hl⟩ := hv
  have hlen := hl.len
  by_cases h0 : l.length = 0
  · have he : endsB l n = false := by
      rw [List.length_eq_zero_iff.1 h0]; rfl
    rw [he]
    clear he
    have h00 : ¬ (0 < l.length) := by omega
    have H0 := Lib.hid h0
    clear h0
    go_enter Try.func72, Try.ntmps72
    go_wp2_with fail
    go_ret
    exact ⟨rfl, rfl⟩
  · have h1 : 0 < l.length := by omega
    clear h0
    obtain ⟨b, o, x, rfl, hx, hc, -⟩ := hl.int (k := l.length - 1) (by omega)
    have he : endsB l n = (x == n) := by
      rw [endsB, List.getLast?_eq_getElem?, hx.out]; rfl
    rw [he]
    have hc' : w.cell? ⟨b, o + (l.length - 1), none⟩ = some (.int .i64 x) := hc
    clear he hx
    go_enter Try.func72, Try.ntmps72
    go_wp2_with fail
    go_ret
    exact ⟨rfl, rfl⟩

set_option maxRecDepth 100000 in
set_option maxHeartbeats 4000000 in
theorem ahead_any (f : FunD) (v : Value) (w : World) (hv : VFun w v f) (hn : f.blocks.length ≤ 1000000) :
    Calls Try.prog 54 #[v] w fun e w' => (∃ V G, e = .returned (.slice (some ⟨G, 0, none⟩) f.blocks.length f.blocks.length) ∧ w.heap.size ≤ G ∧ Grid w' G f.blocks.length V (fun i => aheadL f.blocks i)) ∧ Below w.heap.size w w' := by
  obtain ⟨Ar, cr, A, c, rfl, hr, hb, -, -⟩ := hv
  have hbl := hb.len
  obtain ⟨i0, hi, hz0, hz1, hz2⟩ := info_parts Try.info3
  have HI := Lib.hid (And.intro hi (And.intro hz0 (And.intro hz1 hz2)))
  clear hi hz0 hz1 hz2
  have hmk := run_make_row' (P := Try.prog) 68 22 (.slice none 0 0) 24 Try.underlying68 Try.info22 rfl .i64 .i64 f.blocks.length (by omega) (by omega)
  go_enter Try.func54, Try.ntmps54
  go_wp2_with fail
  clear hmk
  obtain ⟨w1, hw1, hs1, hk1, hbel1, hc1, -⟩ := named w #[.int .i64 f.params, .int .i64 f.result, .slice Ar f.regs.length cr, .slice A f.blocks.length c] 25
  have hc1 := hc1 3 _ rfl
  rw [← hw1]
  clear hw1
  have hgr := Grid.made w1 (w.heap.size + 1) f.blocks.length hs1.symm
  have hbel1' : Below (w.heap.size + 1) w1 (w1.alloc (.cells (madeCells #[.slice none 0 0] f.blocks.length) 22)) := (Below.refl _ _).alloc (by omega) _
  have hs2 : w.heap.size + 1 < (w1.alloc (.cells (madeCells #[.slice none 0 0] f.blocks.length) 22)).heap.size := by simp; omega
  generalize w1.alloc (.cells (madeCells #[.slice none 0 0] f.blocks.length) 22) = w2 at *
  have HS1 := Lib.hid hs1
  clear hs1
  go_loopw [15] (fun i wr => ∃ (k : Nat) (V : Nat → Value), k ≤ f.blocks.length ∧ i = .int .i64 k ∧ Below (w.heap.size + 1) w1 wr ∧ w.heap.size + 1 < wr.heap.size ∧ Grid wr (w.heap.size + 1) f.blocks.length V (fun i => aheadL (f.blocks.take k) i)) (fun i _ => f.blocks.length - (intOf i).toNat)
  case atStart => exact ⟨0, _, Nat.zero_le _, rfl, hbel1', hs2, hgr⟩
  case round =>
    obtain ⟨k, V, hk, rfl, hbel, hs, hg⟩ := hrel
    obtain ⟨wo, rfl⟩ : ∃ wo, wo = wr := ⟨wr, rfl⟩
    have hkw : Kept w1 wo := kept_below hbel (by have := HS1.out; omega)
    have hbox := hkw _ _ hc1
    by_cases hlt : k < f.blocks.length
    · obtain ⟨b, o, kb, rfl, hkb, ⟨Ap, cp, hphi, -⟩, ⟨Ai, ci, hins, -⟩, ⟨hkd, -⟩, ⟨har, -⟩, ⟨At, ct, hto, htos⟩⟩ := (SBlks.keep hk1 hb).at_ hlt
      have hphi := hkw _ _ hphi
      have hins := hkw _ _ hins
      have hkd := hkw _ _ hkd
      have har := hkw _ _ har
      have hto := hkw _ _ hto
      have htl := htos.len
      go_wp2_with fail
      clear hphi hins hkd har hto
      obtain ⟨w3, hw3, hs3, hk3, hbel3, -, -⟩ := named wo #[.slice Ap kb.phis.length cp, .slice Ai kb.ins.length ci, .int .i64 kb.term.kind, .int .i64 kb.term.arg, .slice At kb.term.to.length ct] 52
      have hg3 : Grid w3 (w.heap.size + 1) f.blocks.length V (LJ f.blocks k []) := by
        rw [hw3]; exact (hg.alloc _).congr (fun i _ => (LJ_nil _ _ _).symm)
      have hb3 : Below (w.heap.size + 1) w1 w3 := hbel.trans (hbel3.mono (by omega))
      have hs3 : w.heap.size + 1 < w3.heap.size := by omega
      rw [← hw3]
      clear hw3
      go_loopw [24] (fun i wr => ∃ (j : Nat) (V : Nat → Value), j ≤ kb.term.to.length ∧ i = .int .i64 j ∧ Below (w.heap.size + 1) w1 wr ∧ w.heap.size + 1 < wr.heap.size ∧ Grid wr (w.heap.size + 1) f.blocks.length V (LJ f.blocks k (kb.term.to.take j))) (fun i _ => kb.term.to.length - (intOf i).toNat)
      case atStart => exact ⟨0, V, Nat.zero_le _, rfl, hb3, hs3, hg3⟩
      case round =>
        obtain ⟨j, V', hj, rfl, hbelr, hsr, hgr'⟩ := hrel
        have hkr : Kept w1 wr := kept_below hbelr (by have := HS1.out; omega)
        have hboxr := hkr _ _ hc1
        by_cases hjt : j < kb.term.to.length
        · obtain ⟨b', o', x, rfl, hx, hxc, -⟩ := htos.int hjt
          have hxc := hkr _ _ hxc
          by_cases hin : 0 ≤ x ∧ x < f.blocks.length
          · obtain ⟨q, rfl⟩ : ∃ q : Nat, x = q := ⟨x.toNat, by omega⟩
            have hq : q < f.blocks.length := by omega
            have hq1 : (q : Int) < f.blocks.length := by omega
            have hq0 : (0 : Int) ≤ q := by omega
            clear hin
            have hrow := hgr'.row.cell hq
            have hvs : VS wr 1 RInt (V' q) (LJ f.blocks k (kb.term.to.take j) q) := vs_of_own (hgr'.own q hq) (LJ_i64 _ _ _ _ (by omega) hn)
            have he := LJ_ends f.blocks k (kb.term.to.take j) q
            have HE := Lib.hid he
            clear he
            go_wp2_with fail
            refine (isAt_yes _ _ _ hq0 hq1).mono ?_
            rintro e w' ⟨rfl, rfl⟩
            go_wp2_with fail
            refine (endsWith_any _ _ _ _ hvs).mono ?_
            rintro e w' ⟨rfl, rfl⟩
            rw [HE.out]
            cases hh : hasTo q (kb.term.to.take j)
            · have HH := Lib.hid hh
              clear hh
              have hll := LJ_len f.blocks k (kb.term.to.take j) q
              go_wp2_with (at_builtin; refine wpList_append_lies _ rfl (.tmp 47) (.tmp 49) 22 rfl (w.heap.size + 1 + 1) 3 i0 (.int .i64 0) 1 8 Try.underlying22 HI.out.1 HI.out.2.1 HI.out.2.2.1 HI.out.2.2.2 rfl (by decide) (V' q) _ _ rfl ((hgr'.own q hq).alloc _) ⟨wr.heap.size, 0, none⟩ 1 1 [.int .i64 k] rfl rfl ?c1 ?c2 ?c0 ?c3 ?c4 ?c5 (wr.heap.size + 1) ?c6 ?_)
              case c1 => exact news_one_add wr _ _ rfl
              case c2 => exact ints_oneCell .i64 [(k : Int)]
              case c0 => omega
              case c3 => unfold maxLen; omega
              case c4 => omega
              case c5 => simp; omega
              case c6 => simp
              intro g cap w4 hown4 hgrow4 hloc4 hlt4
              have hgp := Grid.push (hgr'.alloc _) hq hown4 hgrow4 (by simpa using hloc4)
              have hgp' := hgp.congr (fun i _ => LJ_new hx.out i HH.out)
              have hb4 : Below (w.heap.size + 1) w1 w4 := (hbelr.alloc (by omega) _).grown hgrow4 (by simp; omega) (fun g hg => by have := ((hgr'.own q hq).lt g hg).1; omega)
              have hG4 : w4.heap[w.heap.size + 1]? = (wr.alloc (.cells #[.int .i64 k] 3)).heap[w.heap.size + 1]? := hgrow4.block _ (by simp; omega) (fun e => by have := ((hgr'.own q hq).lt _ e.symm).1; omega)
              have hrow4 := (World.cell?_of_block (a := ⟨w.heap.size + 1, q, none⟩) hG4).trans ((hgr'.row.alloc _).cell hq)
              have hfr4 := (World.frozen?_of_block (a := ⟨w.heap.size + 1, q, none⟩) hG4).trans ((hgr'.row.alloc _).frozen q)
              have hs4 : w.heap.size + 1 < w4.heap.size := by have := hgrow4.size; simp at this; omega
              have HP := Lib.hid hgp'
              clear hgp hgp' hown4 hgrow4 hloc4 hG4 hgr' hrow hvs
              go_wp2_with fail
              go_roundw
              case rel => exact ⟨j + 1, _, by omega, by go_num, hb4.setCell (by show _ ≤ w.heap.size + 1; omega) _, by simpa using hs4, HP.out⟩
              case measure => simp [intOf]; omega
            · have HH := Lib.hid hh
              clear hh
              go_wp2_with fail
              go_roundw
              case rel => exact ⟨j + 1, V', by omega, by go_num, hbelr, hsr, hgr'.congr (fun i _ => LJ_again hx.out i HH.out)⟩
              case measure => simp [intOf]; omega
          · go_wp2_with fail
            refine (isAt_no _ _ _ hin).mono ?_
            rintro e w' ⟨rfl, rfl⟩
            go_wp2_with fail
            go_roundw
            case rel => exact ⟨j + 1, V', by omega, by go_num, hbelr, hsr, hgr'.congr (fun i hi => LJ_out hx.out i (fun e => hin (by omega)))⟩
            case measure => simp [intOf]; omega
        · have hjj : kb.term.to.take j = kb.term.to := List.take_of_length_le (by omega)
          rw [hjj] at hgr'
          clear hjj
          go_wp2_with fail
          go_roundw
          case rel => exact ⟨k + 1, V', by omega, by go_num, hbelr, hsr, hgr'.congr (fun i _ => LJ_all i hkb.out)⟩
          case measure => simp [intOf]; omega
    · have hkk : f.blocks.take k = f.blocks := List.take_of_length_le (by omega)
      rw [hkk] at hg
      clear hkk
      go_wp2_with fail
      go_ret
      exact ⟨⟨V, _, rfl, by omega, hg⟩, hbel1.trans (hbel.mono (by omega))⟩
end Go.Proofs.Ytflbooopgjgkbaa
