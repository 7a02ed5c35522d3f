/- The rules 1 and 2: isWithin, isTyped; hasPhi. -/
import Derived.Test.YtcjmhdneelmbhaaSpecJ
import Derived.Deep.QuietTactic
import Derived.BigQuiet
import Derived.Test.YtcjmhdneelmbhaaAheadJ
namespace Go.Proofs.Ytcjmhdneelmbhaa
open Go.ChangeShapes Go.WideShapes Go.RowKit Go.Deep
set_option linter.unusedVariables false

/-- Phis and instructions of each block are few. -/
def Lim (f : FunD) : Prop := ∀ b ∈ f.blocks, b.phis.length ≤ 1000000 ∧ b.ins.length ≤ 1000000
theorem Lim.at_ {f : FunD} (h : Lim f) {k : Nat} {b : BlkD} (hb : f.blocks[k]? = some b) : b.phis.length ≤ 1000000 ∧ b.ins.length ≤ 1000000 := h b (List.mem_of_getElem? hb)

set_option maxRecDepth 100000 in
set_option maxHeartbeats 4000000 in
theorem isWithin_any (f : FunD) (v : Value) (w : World) (hv : VFun w v f) (hlim : Lim f) :
    Calls Try.prog 55 #[v] w fun e w' => e = .returned (.bool (withinB f)) ∧ Below w.heap.size w w' := by
  obtain ⟨Ar, cr, A, c, rfl, hr, hb, -, -⟩ := hv
  have hbl := hb.len
  have hrl := hr.len
  by_cases hok : 1 ≤ f.blocks.length ∧ f.blocks.length ≤ 64 ∧ f.regs.length ≤ 256
  · obtain ⟨h1, h2, h3⟩ := hok
    go_enter Try.func55, Try.ntmps55
    go_wp2_with fail
    obtain ⟨w1, hw1, hs1, hk1, hbel1, hc1, -⟩ := named w #[.int .i64 f.params, .int .i64 f.result, .slice Ar f.regs.length cr, .slice A f.blocks.length c] 43
    rw [← hw1]
    clear hw1 hc1
    have hs1 : w.heap.size < w1.heap.size := by omega
    go_loopw [3, 28] (fun q i wr => ∃ k : Nat, k ≤ f.blocks.length ∧ i = .int .i64 k ∧ q = .int .i64 ((f.blocks.length + itemsK (f.blocks.take k) : Nat) : Int) ∧ itemsK (f.blocks.take k) ≤ k * 2000000 ∧ Below w1.heap.size w1 wr) (fun _ i _ => f.blocks.length - (intOf i).toNat)
    case atStart => exact ⟨0, Nat.zero_le _, rfl, rfl, Nat.zero_le _, Below.refl _ _⟩
    case round =>
      obtain ⟨k, hk, rfl, rfl, hi, hbel⟩ := hrel
      have hs := hbel.size
      have hkw : Kept w1 wr := kept_of_below hbel
      have hB : Below w.heap.size w wr := hbel1.trans (hbel.mono (by omega))
      by_cases hlt : k < f.blocks.length
      · obtain ⟨b, o, kb, rfl, hkb, ⟨Ap, cp, hphi, hphis⟩, ⟨Ai, ci, hins, hinss⟩, ⟨hkd, -⟩, ⟨har, -⟩, ⟨At, ct, hto, htos⟩⟩ := (SBlks.keep (hk1.trans hkw) hb).at_ hlt
        obtain ⟨hl1, hl2⟩ := hlim.at_ hkb.out
        have hst := itemsK_step hkb.out
        have HST := Lib.hid hst
        clear hst
        have hn : ((f.blocks.length + itemsK (f.blocks.take k) : Nat) : Int) = (f.blocks.length : Int) + (itemsK (f.blocks.take k) : Int) := by simp
        generalize itemsK (f.blocks.take k) = q at *
        clear hn
        go_wp2_with fail
        go_roundw
        case rel => exact ⟨k + 1, by omega, by go_num, by rw [HST.out]; congr 1; omega, by rw [HST.out]; omega, hbel.alloc (by omega) _⟩
        case measure => simp [intOf]; omega
      · have hkk : f.blocks.take k = f.blocks := List.take_of_length_le (by omega)
        rw [hkk]
        have hd : withinB f = decide (((f.blocks.length + itemsK f.blocks : Nat) : Int) ≤ 256) := by
          unfold withinB; congr 1; rw [eq_iff_iff]; omega
        have HD := Lib.hid hd
        clear hd hkk hi
        generalize itemsK f.blocks = q at *
        go_wp2_with fail
        go_ret
        exact ⟨by rw [HD.out]; simp, hB⟩
  · have hd : withinB f = false := by
      unfold withinB; exact decide_eq_false (by omega)
    rw [hd]
    clear hd
    by_cases q1 : f.blocks.length < 1
    · clear hok
      go_enter Try.func55, Try.ntmps55
      go_wp2_with fail
      all_goals (go_ret; exact ⟨rfl, (Below.refl _ _).alloc (Nat.le_refl _) _⟩)
    · by_cases q2 : 64 < f.blocks.length
      · clear hok
        go_enter Try.func55, Try.ntmps55
        go_wp2_with fail
        all_goals (go_ret; exact ⟨rfl, (Below.refl _ _).alloc (Nat.le_refl _) _⟩)
      · have q3 : 256 < f.regs.length := by omega
        clear hok
        go_enter Try.func55, Try.ntmps55
        go_wp2_with fail
        all_goals (go_ret; exact ⟨rfl, (Below.refl _ _).alloc (Nat.le_refl _) _⟩)

end Go.Proofs.Ytcjmhdneelmbhaa

/- Rule 2: isTyped. -/
namespace Go.Proofs.Ytcjmhdneelmbhaa
open Go.ChangeShapes Go.WideShapes Go.RowKit Go.Deep
set_option linter.unusedVariables false

set_option maxRecDepth 100000 in
set_option maxHeartbeats 4000000 in
theorem isTyped_any (f : FunD) (v : Value) (w : World) (hv : VFun w v f) :
    Calls Try.prog 56 #[v] w fun e w' => e = .returned (.bool (typedB f)) ∧ Below w.heap.size w w' := by
  obtain ⟨Ar, cr, A, c, rfl, hr, hb, -, -⟩ := hv
  have hrl := hr.len
  go_enter Try.func56, Try.ntmps56
  go_wp2_with fail
  obtain ⟨w1, hw1, hs1, hk1, hbel1, hc1, -⟩ := named w #[.int .i64 f.params, .int .i64 f.result, .slice Ar f.regs.length cr, .slice A f.blocks.length c] 43
  have hc0 := hc1 0 _ rfl
  have hcr := hc1 1 _ rfl
  have hc2 := hc1 2 _ rfl
  rw [← hw1]
  clear hw1 hc1
  have hs1 : w.heap.size < w1.heap.size := by omega
  go_loopw [8] (fun i wr => ∃ k : Nat, k ≤ f.regs.length ∧ i = .int .i64 k ∧ Hid ((f.regs.take k).all isTy = true) ∧ wr = w1) (fun i _ => f.regs.length - (intOf i).toNat)
  case atStart => exact ⟨0, Nat.zero_le _, rfl, Lib.hid rfl, rfl⟩
  case round =>
    obtain ⟨k, hk, rfl, hi, rfl⟩ := hrel
    by_cases hlt : k < f.regs.length
    · obtain ⟨b, o, x, rfl, hx, hxc, -⟩ := (SInts.keep hk1 hr).int hlt
      by_cases h1 : x = 1
      · subst h1
        go_wp2_with fail
        go_roundw
        case rel => exact ⟨k + 1, by omega, by go_num, Lib.hid (by rw [all_step hx.out hi.out]; rfl), trivial⟩
        case measure => simp [intOf]; omega
      · by_cases h2 : x = 2
        · subst h2
          clear h1
          go_wp2_with fail
          go_roundw
          case rel => exact ⟨k + 1, by omega, by go_num, Lib.hid (by rw [all_step hx.out hi.out]; rfl), trivial⟩
          case measure => simp [intOf]; omega
        · have hf : isTy x = false := decide_eq_false (by omega)
          have h1' : (x != 1) = true := by simpa using h1
          have h2' : (x != 2) = true := by simpa using h2
          have HF := Lib.hid hf
          clear h1 h2 hf
          go_wp2_with fail
          go_ret
          exact ⟨by unfold typedB; rw [all_stop hx.out HF.out]; rfl, hbel1⟩
    · have hd := all_done hi.out (Nat.le_of_not_lt hlt)
      have HD := Lib.hid hd
      clear hd
      by_cases hp : 0 ≤ f.params ∧ f.params ≤ 8 ∧ f.params ≤ f.regs.length
      · obtain ⟨p1, p2, p3⟩ := hp
        have HT : Hid (typedB f = decide (f.result = 0 ∨ f.result = 1 ∨ f.result = 2)) := Lib.hid (by unfold typedB; rw [HD.out, decide_eq_true (show 0 ≤ f.params ∧ f.params ≤ 8 ∧ f.params ≤ f.regs.length from ⟨p1, p2, p3⟩)]; rfl)
        by_cases r0 : f.result = 0
        · have HR : Hid (typedB f = true) := Lib.hid (by rw [HT.out]; exact decide_eq_true (by omega))
          have r0' : (f.result == 0) = true := by simpa using r0
          clear r0 HT
          go_wp2_with fail
          go_ret
          exact ⟨by rw [HR.out]; rfl, hbel1⟩
        · by_cases r1 : f.result = 1
          · have HR : Hid (typedB f = true) := Lib.hid (by rw [HT.out]; exact decide_eq_true (by omega))
            have r0' : (f.result == 0) = false := by simpa using r0
            have r1' : (f.result == 1) = true := by simpa using r1
            clear r0 r1 HT
            go_wp2_with fail
            go_ret
            exact ⟨by rw [HR.out]; rfl, hbel1⟩
          · have HR : Hid (typedB f = decide (f.result = 2)) := Lib.hid (by rw [HT.out]; congr 1; rw [eq_iff_iff]; omega)
            have r0' : (f.result == 0) = false := by simpa using r0
            have r1' : (f.result == 1) = false := by simpa using r1
            clear r0 r1 HT
            go_wp2_with fail
            go_ret
            exact ⟨by rw [HR.out]; simp [Bool.beq_eq_decide_eq], hbel1⟩
      · have HT : Hid (typedB f = false) := Lib.hid (by unfold typedB; rw [decide_eq_false hp, Bool.and_false]; rfl)
        by_cases p1 : f.params < 0
        · clear hp
          go_wp2_with fail
          all_goals (go_ret; exact ⟨by rw [HT.out]; rfl, hbel1⟩)
        · by_cases p2 : 8 < f.params
          · clear hp
            go_wp2_with fail
            all_goals (go_ret; exact ⟨by rw [HT.out]; rfl, hbel1⟩)
          · have p3 : (f.regs.length : Int) < f.params := by omega
            clear hp
            go_wp2_with fail
            all_goals (go_ret; exact ⟨by rw [HT.out]; rfl, hbel1⟩)
end Go.Proofs.Ytcjmhdneelmbhaa

/- Rule 3: hasItsTos, endsWell. -/
namespace Go.Proofs.Ytcjmhdneelmbhaa
open Go.ChangeShapes Go.WideShapes Go.RowKit Go.Deep
set_option linter.unusedVariables false

set_option maxRecDepth 100000 in
set_option maxHeartbeats 4000000 in
theorem hasItsTos_any (t : TermD) (v : Value) (w : World) (hv : VTerm w v t) :
    Calls Try.prog 75 #[v] w fun e w' => e = .returned (.bool (tosB t)) ∧ Below w.heap.size w w' := by
  obtain ⟨A, c, rfl, ht, -, -⟩ := hv
  have htl := ht.len
  have hbel1 : Below w.heap.size w (w.alloc (.cells #[.int .i64 t.kind, .int .i64 t.arg, .slice A t.to.length c] 36)) := (Below.refl _ _).alloc (Nat.le_refl _) _
  by_cases k1 : t.kind = 1
  · have HT : Hid (tosB t = decide (t.to.length = 1)) := Lib.hid (by unfold tosB; rw [if_pos k1])
    have k1' : (t.kind == 1) = true := by simpa using k1
    clear k1
    go_enter Try.func75, Try.ntmps75
    go_wp2_with fail
    go_ret
    exact ⟨by rw [HT.out]; simp [Bool.beq_eq_decide_eq]; try omega, hbel1⟩
  · have k1' : (t.kind == 1) = false := by simpa using k1
    by_cases k2 : t.kind = 2
    · have k2' : (t.kind == 2) = true := by simpa using k2
      have HT : Hid (tosB t = (decide (t.to.length = 2) && decide (t.to.getD 0 0 ≠ t.to.getD 1 0))) := Lib.hid (by unfold tosB; rw [if_neg k1, if_pos k2])
      clear k1 k2
      by_cases l2 : t.to.length = 2
      · obtain ⟨b, o, x, rfl, hx, hxc, -⟩ := ht.int (k := 0) (by omega)
        obtain ⟨b', o', y, he, hy, hyc, -⟩ := ht.int (k := 1) (by omega)
        simp only [Option.some.injEq, Addr.mk.injEq] at he
        obtain ⟨rfl, rfl, -⟩ := he
        have HT' : Hid (tosB t = decide (x ≠ y)) := Lib.hid (by
          rw [HT.out, decide_eq_true l2, Bool.true_and, List.getD_eq_getElem?_getD, List.getD_eq_getElem?_getD, hx.out, hy.out]; rfl)
        have l2' : ((t.to.length : Int) == 2) = true := by simp [l2]
        have l2'' : 2 ≤ t.to.length := by omega
        have hltx := block_lt_of_cell hxc
        simp only [Nat.add_zero] at hxc
        clear l2 HT
        go_enter Try.func75, Try.ntmps75
        go_wp2_with fail
        go_quiet (fail)
        go_wp2_with fail
        go_ret
        exact ⟨by rw [HT'.out]; simp [bne, Bool.beq_eq_decide_eq], below_drewN hbel1 _⟩
      · have l2' : ((t.to.length : Int) == 2) = false := by
          rw [beq_eq_false_iff_ne]; omega
        have HT' : Hid (tosB t = false) := Lib.hid (by rw [HT.out, decide_eq_false l2]; rfl)
        clear l2 HT
        go_enter Try.func75, Try.ntmps75
        go_wp2_with fail
        go_quiet (fail)
        go_wp2_with fail
        go_ret
        exact ⟨by rw [HT'.out]; rfl, below_drewN hbel1 _⟩
    · have k2' : (t.kind == 2) = false := by simpa using k2
      by_cases k3 : t.kind = 3
      · have k3' : (t.kind == 3) = true := by simpa using k3
        have HT : Hid (tosB t = decide (t.to.length = 0)) := Lib.hid (by unfold tosB; rw [if_neg k1, if_neg k2, if_pos k3])
        clear k1 k2 k3
        go_enter Try.func75, Try.ntmps75
        go_wp2_with fail
        go_ret
        exact ⟨by rw [HT.out]; simp [Bool.beq_eq_decide_eq]; try omega, hbel1⟩
      · have k3' : (t.kind == 3) = false := by simpa using k3
        have HT : Hid (tosB t = false) := Lib.hid (by unfold tosB; rw [if_neg k1, if_neg k2, if_neg k3])
        clear k1 k2 k3
        go_enter Try.func75, Try.ntmps75
        go_wp2_with fail
        go_ret
        exact ⟨by rw [HT.out]; rfl, hbel1⟩
end Go.Proofs.Ytcjmhdneelmbhaa

/- The rules 3 and 4: endsWell, phisMeet. -/
namespace Go.Proofs.Ytcjmhdneelmbhaa
open Go.ChangeShapes Go.WideShapes Go.RowKit Go.Deep
set_option linter.unusedVariables false

set_option maxRecDepth 100000 in
set_option maxHeartbeats 4000000 in
theorem endsWell_any (f : FunD) (v : Value) (w : World) (hv : VFun w v f) :
    Calls Try.prog 57 #[v] w fun e w' => e = .returned (.bool (endsWellB f)) ∧ Below w.heap.size w w' := by
  obtain ⟨Ar, cr, A, c, rfl, hr, hb, -, -⟩ := hv
  have hbl := hb.len
  go_enter Try.func57, Try.ntmps57
  go_wp2_with fail
  obtain ⟨w1, hw1, hs1, hk1, hbel1, hc1, -⟩ := named w #[.int .i64 f.params, .int .i64 f.result, .slice Ar f.regs.length cr, .slice A f.blocks.length c] 43
  have hc3 : w1.cell? ⟨w.heap.size, 3, none⟩ = some (.slice A f.blocks.length c) := hc1 3 _ rfl
  rw [← hw1]
  clear hw1 hc1
  have hs1 : w.heap.size < w1.heap.size := by omega
  go_loopw [10] (fun i wr => ∃ k : Nat, k ≤ f.blocks.length ∧ i = .int .i64 k ∧ Hid ((f.blocks.take k).all (fun b => shapeB f.blocks.length b.term) = true) ∧ Below w1.heap.size w1 wr) (fun i _ => f.blocks.length - (intOf i).toNat)
  case atStart => exact ⟨0, Nat.zero_le _, rfl, Lib.hid rfl, Below.refl _ _⟩
  case round =>
    obtain ⟨k, hk, rfl, hi, hbel⟩ := hrel
    obtain ⟨wo, rfl⟩ : ∃ wo, wo = wr := ⟨wr, rfl⟩
    have hs := hbel.size
    have hkw : Kept w1 wo := kept_of_below hbel
    have hB : Below w.heap.size w wo := hbel1.trans (hbel.mono (by omega))
    by_cases hlt : k < f.blocks.length
    · obtain ⟨b, o, kb, rfl, hkb, ⟨Ap, cp, hphi, hphis⟩, ⟨Ai, ci, hins, hinss⟩, ⟨hkd, h64k⟩, ⟨har, h64a⟩, ⟨At, ct, hto, htos⟩⟩ := (SBlks.keep (hk1.trans hkw) hb).at_ hlt
      have htl := htos.len
      go_wp2_with fail
      clear hphi hins hkd har hto
      obtain ⟨w3, hw3, hs3, hk3, hbel3, hc3', -⟩ := named wo #[.slice Ap kb.phis.length cp, .slice Ai kb.ins.length ci, .int .i64 kb.term.kind, .int .i64 kb.term.arg, .slice At kb.term.to.length ct] 40
      have hc4 : w3.cell? ⟨wo.heap.size, 4, none⟩ = some (.slice At kb.term.to.length ct) := hc3' 4 _ rfl
      have hB3 : Below w.heap.size w w3 := hB.trans (hbel3.mono (by omega))
      have hb3 : Below w1.heap.size w1 w3 := hbel.trans (hbel3.mono (by omega))
      rw [← hw3]
      clear hw3 hc3'
      have htos3 := SInts.keep hk3 htos
      have hbox3 : w3.cell? ⟨w.heap.size, 3, none⟩ = _ := hk3 _ _ (hkw _ _ hc3)
      refine (hasItsTos_any kb.term _ _ ⟨At, ct, rfl, htos3, h64k, h64a⟩).mono ?_
      rintro e w4 ⟨rfl, hb4⟩
      have hk4 : Kept w3 w4 := kept_of_below hb4
      have hc4 := hk4 _ _ hc4
      have hbox4 := hk4 _ _ hbox3
      have htos4 := SInts.keep hk4 htos3
      have hB4 : Below w.heap.size w w4 := hB3.trans (hb4.mono hB3.size)
      have hb4' : Below w1.heap.size w1 w4 := hb3.trans (hb4.mono (by have := hb3.size; omega))
      clear hbox3
      cases hts : tosB kb.term
      · go_wp2_with fail
        go_ret
        exact ⟨by rw [show endsWellB f = false from all_stop hkb.out (show shapeB f.blocks.length kb.term = false by unfold shapeB; rw [hts]; rfl)]; rfl, hB4⟩
      · have HTS := Lib.hid hts
        clear hts
        go_wp2_with fail
        go_loopw [22] (fun i wr => ∃ j q : Nat, j ≤ kb.term.to.length ∧ i = .int .i64 j ∧ Hid ((kb.term.to.take j).all (toB f.blocks.length) = true) ∧ wr = w4.drewN q) (fun i _ => kb.term.to.length - (intOf i).toNat)
        case atStart => exact ⟨0, 0, Nat.zero_le _, rfl, Lib.hid rfl, rfl⟩
        case round =>
          obtain ⟨j, q, hj, rfl, hj2, rfl⟩ := hrel
          by_cases hjt : j < kb.term.to.length
          · obtain ⟨b', o', x, rfl, hx, hxc, -⟩ := htos4.int hjt
            by_cases x0 : x = 0
            · have HF : Hid (toB f.blocks.length x = false) := Lib.hid (decide_eq_false (by omega))
              have x0' : (x == 0) = true := by simpa using x0
              clear x0
              go_wp2_with fail
              go_ret
              exact ⟨by rw [show endsWellB f = false from all_stop hkb.out (show shapeB f.blocks.length kb.term = false by unfold shapeB; rw [all_stop hx.out HF.out]; simp)]; rfl, below_drewN hB4 _⟩
            · have x0' : (x == 0) = false := by simpa using x0
              have HF : Hid (toB f.blocks.length x = isAtB x f.blocks.length) := Lib.hid (by unfold toB isAtB; congr 1; rw [eq_iff_iff]; omega)
              clear x0
              go_wp2_with fail
              refine (isAt_any _ _ _).mono ?_
              rintro e w' ⟨rfl, rfl⟩
              cases hat : isAtB x f.blocks.length
              · have HAT := Lib.hid hat
                clear hat
                go_wp2_with fail
                go_ret
                exact ⟨by rw [show endsWellB f = false from all_stop hkb.out (show shapeB f.blocks.length kb.term = false by unfold shapeB; rw [all_stop hx.out (HF.out.trans HAT.out)]; simp)]; rfl, below_drewN hB4 _⟩
              · have HAT := Lib.hid hat
                clear hat
                go_wp2_with fail
                go_roundw
                case rel => exact ⟨j + 1, q, by omega, by go_num, Lib.hid (by rw [all_step hx.out hj2.out, HF.out, HAT.out]), rfl⟩
                case measure => simp [intOf]; omega
          · have hd := all_done hj2.out (Nat.le_of_not_lt hjt)
            have HD := Lib.hid hd
            clear hd
            go_wp2_with fail
            go_roundw
            case rel => exact ⟨k + 1, by omega, by go_num, Lib.hid (by rw [all_step hkb.out hi.out]; unfold shapeB; rw [HTS.out, HD.out]; rfl), below_drewN hb4' _⟩
            case measure => simp [intOf]; omega
    · have hd := all_done hi.out (Nat.le_of_not_lt hlt)
      have HD : Hid (endsWellB f = true) := Lib.hid hd
      clear hd
      go_wp2_with fail
      go_ret
      exact ⟨by rw [HD.out]; rfl, hB⟩

set_option maxRecDepth 100000 in
set_option maxHeartbeats 4000000 in
theorem phisMeet_any (f : FunD) (v : Value) (w : World) (hv : VFun w v f) (hn : f.blocks.length ≤ 1000000) :
    Calls Try.prog 58 #[v] w fun e w' => e = .returned (.bool (meetB f)) ∧ Below w.heap.size w w' := by
  have hv0 := hv
  obtain ⟨Ar, cr, A, c, rfl, hr, hb, hp64, hr64⟩ := hv
  have hbl := hb.len
  go_enter Try.func58, Try.ntmps58
  go_wp2_with fail
  obtain ⟨w1, hw1, hs1, hk1, hbel1, hc1, -⟩ := named w #[.int .i64 f.params, .int .i64 f.result, .slice Ar f.regs.length cr, .slice A f.blocks.length c] 43
  have hc3 : w1.cell? ⟨w.heap.size, 3, none⟩ = some (.slice A f.blocks.length c) := hc1 3 _ rfl
  rw [← hw1]
  clear hw1 hc1
  have hs1 : w.heap.size < w1.heap.size := by omega
  refine (ahead_any f _ _ (VFun.keep hk1 hv0) hn).mono ?_
  rintro e w2 ⟨⟨V, G, rfl, hG, hg⟩, hb2⟩
  have hrd := hg.reads hn
  have hk2 : Kept w1 w2 := kept_of_below hb2
  have hc3 := hk2 _ _ hc3
  have hB2 : Below w.heap.size w w2 := hbel1.trans (hb2.mono hbel1.size)
  have hk12 := hk1.trans hk2
  have hs2 := hb2.size
  clear hg hG hb2
  go_wp2_with fail
  go_loopw [13] (fun i wr => ∃ k : Nat, k ≤ f.blocks.length ∧ i = .int .i64 k ∧ Hid (meetUp f.blocks k = true) ∧ Below w2.heap.size w2 wr) (fun i _ => f.blocks.length - (intOf i).toNat)
  case atStart => exact ⟨0, Nat.zero_le _, rfl, Lib.hid rfl, Below.refl _ _⟩
  case round =>
    obtain ⟨k, hk, rfl, hi, hbel⟩ := hrel
    obtain ⟨wo, rfl⟩ : ∃ wo, wo = wr := ⟨wr, rfl⟩
    have hs := hbel.size
    have hkw : Kept w2 wo := kept_of_below hbel
    have hB : Below w.heap.size w wo := hB2.trans (hbel.mono (by omega))
    by_cases hlt : k < f.blocks.length
    · obtain ⟨b, o, kb, rfl, hkb, ⟨Ap, cp, hphi, hphis⟩, ⟨Ai, ci, hins, hinss⟩, ⟨hkd, h64k⟩, ⟨har, h64a⟩, ⟨At, ct, hto, htos⟩⟩ := (SBlks.keep (hk12.trans hkw) hb).at_ hlt
      have hpl := hphis.len
      obtain ⟨b2, o2, l, he, hl, A2, c2, hc2, hs2'⟩ := (SL.keep hkw (RRow.keep hkw) hrd).at_ (k := k) (by rw [rows_len]; exact hlt)
      simp only [Option.some.injEq, Addr.mk.injEq] at he
      obtain ⟨rfl, rfl, -⟩ := he
      have hl := rows_at hl.out
      have HM := Lib.hid (fun h => meetUp_step hkb.out (h : meetUp f.blocks k = true))
      have HS := Lib.hid (meetUp_stop hkb.out)
      rw [← hl] at HM HS
      clear hl
      have hll := hs2'.len
      rw [Nat.zero_add, Nat.mul_one] at hc2
      go_wp2_with fail
      clear hphi hins hkd har hto
      obtain ⟨w3, hw3, hs3, hk3, hbel3, -, -⟩ := named wo #[.slice Ap kb.phis.length cp, .slice Ai kb.ins.length ci, .int .i64 kb.term.kind, .int .i64 kb.term.arg, .slice At kb.term.to.length ct] 40
      have hB3 : Below w.heap.size w w3 := hB.trans (hbel3.mono (by have := hB.size; omega))
      have hb3 : Below w2.heap.size w2 w3 := hbel.trans (hbel3.mono (by omega))
      have hc2 := hk3 _ _ hc2
      have hphis3 := SPhis.keep hk3 hphis
      have hs3 : wo.heap.size < w3.heap.size := by omega
      rw [← hw3]
      clear hw3
      go_loopw [21] (fun i wr => ∃ j : Nat, j ≤ kb.phis.length ∧ i = .int .i64 j ∧ Hid ((kb.phis.take j).all (fun p => decide (p.args.length = l.length)) = true) ∧ Below w3.heap.size w3 wr) (fun i _ => kb.phis.length - (intOf i).toNat)
      case atStart => exact ⟨0, Nat.zero_le _, rfl, Lib.hid rfl, Below.refl _ _⟩
      case round =>
        obtain ⟨j, hj, rfl, hj2, hbelr⟩ := hrel
        have hsr := hbelr.size
        have hkr : Kept w3 wr := kept_of_below hbelr
        have hc2r := hkr _ _ hc2
        have hBr : Below w.heap.size w wr := hB3.trans (hbelr.mono hB3.size)
        by_cases hjt : j < kb.phis.length
        · obtain ⟨b', o', p, rfl, hp, ⟨hpd, -⟩, Aa, ca, hag, hags⟩ := (SPhis.keep hkr hphis3).at_ hjt
          have hal := hags.len
          have hk0 : (0 : Int) ≤ k := by omega
          have hk1' : (k : Int) < f.blocks.length := by omega
          by_cases hpe : p.args.length = l.length
          · have hpe' : ((p.args.length : Int) != l.length) = false := by simp [hpe]
            have HP : Hid (decide (p.args.length = l.length) = true) := Lib.hid (decide_eq_true hpe)
            clear hpe
            go_wp2_with fail
            obtain ⟨w5, hw5, hs5, hk5, hbel5, hc5, -⟩ := named wr #[.int .i64 p.dst, .slice Aa p.args.length ca] 76
            have hc51 : w5.cell? ⟨wr.heap.size, 1, none⟩ = some (.slice Aa p.args.length ca) := hc5 1 _ rfl
            have hc2r5 := hk5 _ _ hc2r
            have hb5 : Below w3.heap.size w3 w5 := hbelr.trans (hbel5.mono (by omega))
            have hB5 : Below w.heap.size w w5 := hBr.trans (hbel5.mono hBr.size)
            rw [← hw5]
            clear hw5 hc5 hs5
            go_quiet (fail)
            go_wp2_with fail
            go_roundw
            case rel => exact ⟨j + 1, by omega, by go_num, Lib.hid (by rw [all_step hp.out hj2.out]; exact HP.out), below_drewN hb5 _⟩
            case measure => simp [intOf]; omega
          · have hpe' : ((p.args.length : Int) != l.length) = true := by rw [bne_iff_ne]; omega
            have HP : Hid (decide (p.args.length = l.length) = false) := Lib.hid (decide_eq_false hpe)
            clear hpe
            go_wp2_with fail
            obtain ⟨w5, hw5, hs5, hk5, hbel5, hc5, -⟩ := named wr #[.int .i64 p.dst, .slice Aa p.args.length ca] 76
            have hc51 : w5.cell? ⟨wr.heap.size, 1, none⟩ = some (.slice Aa p.args.length ca) := hc5 1 _ rfl
            have hc2r5 := hk5 _ _ hc2r
            have hb5 : Below w3.heap.size w3 w5 := hbelr.trans (hbel5.mono (by omega))
            have hB5 : Below w.heap.size w w5 := hBr.trans (hbel5.mono hBr.size)
            rw [← hw5]
            clear hw5 hc5 hs5
            go_quiet (fail)
            go_wp2_with fail
            go_ret
            exact ⟨by rw [show meetB f = false from HS.out (all_stop hp.out HP.out)]; rfl, below_drewN hB5 _⟩
        · have hd := all_done hj2.out (Nat.le_of_not_lt hjt)
          have HD := Lib.hid hd
          clear hd
          go_wp2_with fail
          go_roundw
          case rel => exact ⟨k + 1, by omega, by go_num, Lib.hid (by rw [HM.out hi.out]; exact HD.out), hb3.trans (hbelr.mono (by omega))⟩
          case measure => simp [intOf]; omega
    · have HD : Hid (meetB f = true) := Lib.hid (meetUp_done hi.out (Nat.le_of_not_lt hlt))
      go_wp2_with fail
      go_ret
      exact ⟨by rw [HD.out]; rfl, hB⟩
end Go.Proofs.Ytcjmhdneelmbhaa

/- The rules 5 and 6 of phis and ends: areAt, ofPhi, argOf, ofTerm. -/
namespace Go.Proofs.Ytcjmhdneelmbhaa
open Go.ChangeShapes Go.WideShapes Go.RowKit Go.Deep
set_option linter.unusedVariables false

/-- An error as the code answers it: none, or a Code. -/
def errV (c : Int) : Value := if c = 0 then .nilIface else .iface 57 (.int .i64 c)
theorem errV_zero : errV 0 = .nilIface := rfl
theorem errV_pos {c : Int} (h : c ≠ 0) : errV c = .iface 57 (.int .i64 c) := if_neg h

set_option maxRecDepth 100000 in
set_option maxHeartbeats 4000000 in
theorem areAt_any (l : List Int) (v : Value) (n : Int) (w : World) (hv : VS w 1 RInt v l) :
    Calls Try.prog 90 #[v, .int .i64 n] w fun e w' => e = .returned (.bool (areAtB l n)) ∧ w = w' := by
  obtain ⟨A, c, rfl, hl⟩ := hv
  have hll := hl.len
  go_enter Try.func90, Try.ntmps90
  go_wp2_with fail
  go_loop [9] (fun i => ∃ k : Nat, k ≤ l.length ∧ i = .int .i64 k ∧ Hid ((l.take k).all (fun a => decide (0 ≤ a ∧ a < n)) = true)) (fun i => l.length - (intOf i).toNat)
  case atStart => exact ⟨0, Nat.zero_le _, rfl, Lib.hid rfl⟩
  case round =>
    obtain ⟨k, hk, rfl, hi⟩ := hrel
    by_cases hlt : k < l.length
    · obtain ⟨b, o, x, rfl, hx, hxc, -⟩ := hl.int hlt
      go_wp2_with fail
      refine (isAt_any _ _ _).mono ?_
      rintro e w' ⟨rfl, rfl⟩
      cases hat : isAtB x n
      · have HAT : Hid (decide (0 ≤ x ∧ x < n) = false) := Lib.hid hat
        clear hat
        go_wp2_with fail
        go_ret
        exact ⟨by rw [show areAtB l n = false from all_stop hx.out HAT.out]; rfl, rfl⟩
      · have HAT : Hid (decide (0 ≤ x ∧ x < n) = true) := Lib.hid hat
        clear hat
        go_wp2_with fail
        go_round
        case rel => exact ⟨k + 1, by omega, by go_num, Lib.hid (by rw [all_step hx.out hi.out]; exact HAT.out)⟩
        case measure => simp [intOf]; omega
    · have HD := Lib.hid (all_done hi.out (Nat.le_of_not_lt hlt))
      go_wp2_with fail
      go_ret
      exact ⟨by rw [show areAtB l n = true from HD.out]; rfl, rfl⟩

theorem areAtB_at {l : List Int} {n : Int} (h : areAtB l n = true) {k : Nat} {x : Int} (hx : l[k]? = some x) : 0 ≤ x ∧ x < n := by
  unfold areAtB at h
  have := List.all_eq_true.1 h x (List.mem_of_getElem? hx)
  simpa using this
theorem reg_at {regs : List Int} {r : Int} (h0 : 0 ≤ r) (h1 : r < regs.length) : ∃ k : Nat, r = k ∧ k < regs.length := ⟨r.toNat, by omega, by omega⟩

set_option maxRecDepth 100000 in
set_option maxHeartbeats 4000000 in
theorem ofPhi_any (f : FunD) (p : PhiD) (v u : Value) (w : World) (hv : VFun w v f) (hu : VPhi w u p) :
    Calls Try.prog 76 #[v, u] w fun e w' => e = .returned (errV (phiE f p)) ∧ Below w.heap.size w w' := by
  obtain ⟨Ar, cr, A, c, rfl, hr, hb, hp64, hr64⟩ := hv
  obtain ⟨pd, pa⟩ := p
  obtain ⟨Ap, cp, rfl, hp, hd64⟩ := hu
  dsimp only at *
  have hrl := hr.len
  have hpl := hp.len
  go_enter Try.func76, Try.ntmps76
  go_wp2_with fail
  obtain ⟨w1, hw1, hs1, hk1, hbel1, hc1, -⟩ := named w #[.int .i64 f.params, .int .i64 f.result, .slice Ar f.regs.length cr, .slice A f.blocks.length c] 43
  have hc2 : w1.cell? ⟨w.heap.size, 2, none⟩ = some (.slice Ar f.regs.length cr) := hc1 2 _ rfl
  rw [← hw1]
  clear hw1 hc1
  obtain ⟨w2, hw2, hs2, hk2, hbel2, hc1, -⟩ := named w1 #[.int .i64 pd, .slice Ap pa.length cp] 76
  have hc2 := hk2 _ _ hc2
  have hd0 : w2.cell? ⟨w1.heap.size, 0, none⟩ = some (.int .i64 pd) := hc1 0 _ rfl
  have hd1 : w2.cell? ⟨w1.heap.size, 1, none⟩ = some (.slice Ap pa.length cp) := hc1 1 _ rfl
  have hB2 : Below w.heap.size w w2 := hbel1.trans (hbel2.mono (by omega))
  have hk12 := hk1.trans hk2
  rw [show w.heap.size + 1 = w1.heap.size from hs1.symm, ← hw2]
  clear hw2 hc1 hs1 hs2
  have hps := SInts.keep hk12 hp
  have hrs := SInts.keep hk12 hr
  refine (isAt_any _ _ _).mono ?_
  rintro e w' ⟨rfl, rfl⟩
  cases hat : isAtB pd f.regs.length
  · have HP : Hid (phiE f ⟨pd, pa⟩ = 4) := Lib.hid (by unfold phiE; rw [if_neg]; unfold isAtB at hat; simp only [hat, Bool.false_and]; exact Bool.false_ne_true)
    clear hat
    go_wp2_with fail
    go_ret
    exact ⟨by rw [HP.out]; rfl, hB2⟩
  · have HAT := Lib.hid hat
    clear hat
    go_wp2_with fail
    refine (areAt_any pa _ _ _ ⟨Ap, cp, rfl, hps⟩).mono ?_
    rintro e w' ⟨rfl, rfl⟩
    cases har : areAtB pa f.regs.length
    · have HP : Hid (phiE f ⟨pd, pa⟩ = 4) := Lib.hid (by unfold phiE; rw [if_neg]; simp only [har, Bool.and_false]; exact Bool.false_ne_true)
      clear har
      go_wp2_with fail
      go_ret
      exact ⟨by rw [HP.out]; rfl, hB2⟩
    · have HAR := Lib.hid har
      clear har
      have HP : Hid (phiE f ⟨pd, pa⟩ = if (pa.all fun a => decide (reg f.regs a = reg f.regs pd)) then 0 else 3) := Lib.hid (by
        have := HAT.out; unfold isAtB at this; unfold phiE; dsimp only; rw [this, HAR.out]; rfl)
      obtain ⟨hd0', hd1'⟩ : 0 ≤ pd ∧ pd < f.regs.length := of_decide_eq_true HAT.out
      obtain ⟨dn, rfl, hdn⟩ := reg_at hd0' hd1'
      obtain ⟨br, or, y, rfl, hy, hyc, -⟩ := hrs.int hdn
      have HR : Hid (reg f.regs dn = y) := Lib.hid (reg_of rfl hy.out)
      go_wp2_with fail
      go_loopw [27] (fun i wr => ∃ k q : Nat, k ≤ pa.length ∧ i = .int .i64 k ∧ Hid ((pa.take k).all (fun a => decide (reg f.regs a = reg f.regs dn)) = true) ∧ wr = w2.drewN q) (fun i _ => pa.length - (intOf i).toNat)
      case atStart => exact ⟨0, 0, Nat.zero_le _, rfl, Lib.hid rfl, rfl⟩
      case round =>
        obtain ⟨k, q, hk, rfl, hi, rfl⟩ := hrel
        by_cases hlt : k < pa.length
        · obtain ⟨b, o, x, rfl, hx, hxc, -⟩ := hps.int hlt
          obtain ⟨hx0, hx1⟩ := areAtB_at HAR.out hx.out
          obtain ⟨xn, rfl, hxn⟩ := reg_at hx0 hx1
          obtain ⟨br', or', z, he, hz, hzc, -⟩ := hrs.int hxn
          simp only [Option.some.injEq, Addr.mk.injEq] at he
          obtain ⟨rfl, rfl, -⟩ := he
          have HZ : Hid (reg f.regs xn = z) := Lib.hid (reg_of rfl hz.out)
          by_cases hzy : z = y
          · have hzy' : (z != y) = false := by simp [hzy]
            have HZY := Lib.hid hzy
            clear hzy
            go_wp2_with fail
            go_quiet (fail)
            go_wp2_with fail
            go_roundw
            case rel => exact ⟨k + 1, _, by omega, by go_num, Lib.hid (by rw [all_step hx.out hi.out]; rw [HZ.out, HR.out]; exact decide_eq_true HZY.out), rfl⟩
            case measure => simp [intOf]; omega
          · have hzy' : (z != y) = true := by rw [bne_iff_ne]; exact hzy
            have HZY := Lib.hid hzy
            clear hzy
            go_wp2_with fail
            go_quiet (fail)
            go_wp2_with fail
            go_ret
            exact ⟨by rw [HP.out, all_stop hx.out (by rw [HZ.out, HR.out]; exact decide_eq_false HZY.out)]; rfl, below_drewN hB2 _⟩
        · have HD := Lib.hid (all_done hi.out (Nat.le_of_not_lt hlt))
          go_wp2_with fail
          go_ret
          exact ⟨by rw [HP.out, HD.out]; rfl, below_drewN hB2 _⟩

set_option maxRecDepth 100000 in
set_option maxHeartbeats 4000000 in
theorem argOf_any (f : FunD) (t : TermD) (v u : Value) (w : World) (hv : VFun w v f) (hu : VTerm w u t) :
    Calls Try.prog 93 #[v, u] w fun e w' => e = .returned (.int .i64 (wantOf f t)) ∧ Below w.heap.size w w' := by
  obtain ⟨Ar, cr, A, c, rfl, hr, hb, hp64, hr64⟩ := hv
  obtain ⟨At, ct, rfl, ht, hk64, ha64⟩ := hu
  have hB : Below w.heap.size w ((w.alloc (.cells #[.int .i64 f.params, .int .i64 f.result, .slice Ar f.regs.length cr, .slice A f.blocks.length c] 43)).alloc (.cells #[.int .i64 t.kind, .int .i64 t.arg, .slice At t.to.length ct] 36)) :=
    ((Below.refl _ _).alloc (Nat.le_refl _) _).alloc (by simp) _
  by_cases k2 : t.kind = 2
  · have HT : Hid (wantOf f t = 2) := Lib.hid (by unfold wantOf; rw [if_pos k2])
    have k2' : (t.kind == 2) = true := by simpa using k2
    clear k2
    go_enter Try.func93, Try.ntmps93
    go_wp2_with fail
    go_ret
    exact ⟨by rw [HT.out]; rfl, hB⟩
  · have k2' : (t.kind == 2) = false := by simpa using k2
    by_cases k3 : t.kind = 3
    · have HT : Hid (wantOf f t = f.result) := Lib.hid (by unfold wantOf; rw [if_neg k2, if_pos k3])
      have k3' : (t.kind == 3) = true := by simpa using k3
      clear k2 k3
      go_enter Try.func93, Try.ntmps93
      go_wp2_with fail
      go_ret
      exact ⟨by rw [HT.out]; rfl, hB⟩
    · have HT : Hid (wantOf f t = 0) := Lib.hid (by unfold wantOf; rw [if_neg k2, if_neg k3])
      have k3' : (t.kind == 3) = false := by simpa using k3
      clear k2 k3
      go_enter Try.func93, Try.ntmps93
      go_wp2_with fail
      go_ret
      exact ⟨by rw [HT.out]; rfl, hB⟩

set_option maxRecDepth 100000 in
set_option maxHeartbeats 4000000 in
theorem ofTerm_any (f : FunD) (t : TermD) (v u : Value) (w : World) (hv : VFun w v f) (hu : VTerm w u t) :
    Calls Try.prog 78 #[v, u] w fun e w' => e = .returned (errV (termE f t)) ∧ Below w.heap.size w w' := by
  have hv0 := hv
  have hu0 := hu
  obtain ⟨Ar, cr, A, c, rfl, hr, hb, hp64, hr64⟩ := hv
  obtain ⟨At, ct, rfl, ht, hk64, ha64⟩ := hu
  have hrl := hr.len
  go_enter Try.func78, Try.ntmps78
  go_wp2_with fail
  obtain ⟨w1, hw1, hs1, hk1, hbel1, hc1, -⟩ := named w #[.int .i64 f.params, .int .i64 f.result, .slice Ar f.regs.length cr, .slice A f.blocks.length c] 43
  have hc2 : w1.cell? ⟨w.heap.size, 2, none⟩ = some (.slice Ar f.regs.length cr) := hc1 2 _ rfl
  rw [← hw1]
  clear hw1 hc1
  obtain ⟨w2, hw2, hs2, hk2, hbel2, hc1, -⟩ := named w1 #[.int .i64 t.kind, .int .i64 t.arg, .slice At t.to.length ct] 36
  have hc2 := hk2 _ _ hc2
  have hd1 : w2.cell? ⟨w1.heap.size, 1, none⟩ = some (.int .i64 t.arg) := hc1 1 _ rfl
  have hB2 : Below w.heap.size w w2 := hbel1.trans (hbel2.mono (by omega))
  have hk12 := hk1.trans hk2
  rw [show w.heap.size + 1 = w1.heap.size from hs1.symm, ← hw2]
  clear hw2 hc1 hs1 hs2
  refine (argOf_any f t _ _ _ (VFun.keep hk12 hv0) (VTerm.keep hk12 hu0)).mono ?_
  rintro e w3 ⟨rfl, hb3⟩
  have hk3 := kept_of_below hb3
  have hc2 := hk3 _ _ hc2
  have hd1 := hk3 _ _ hd1
  have hB3 : Below w.heap.size w w3 := hB2.trans (hb3.mono hB2.size)
  have hrs := SInts.keep (hk12.trans hk3) hr
  clear hb3 hv0 hu0
  have HT : Hid (termE f t = if wantOf f t = 0 then (if t.arg = -1 then 0 else 3) else if 0 ≤ t.arg ∧ t.arg < f.regs.length then (if reg f.regs t.arg = wantOf f t then 0 else 3) else 4) := Lib.hid rfl
  generalize wantOf f t = want at *
  generalize t.arg = arg at *
  by_cases w0 : want = 0
  · have HW := Lib.hid w0
    have w0' : (want == 0) = true := by simpa using w0
    clear w0
    by_cases a0 : arg = -1
    · have HA := Lib.hid a0
      have a0' : (arg != -1) = false := by simp [a0]
      clear a0
      go_wp2_with fail
      go_ret
      exact ⟨by rw [HT.out, if_pos HW.out, if_pos HA.out]; rfl, hB3⟩
    · have HA := Lib.hid a0
      have a0' : (arg != -1) = true := by rw [bne_iff_ne]; exact a0
      clear a0
      go_wp2_with fail
      go_ret
      exact ⟨by rw [HT.out, if_pos HW.out, if_neg HA.out]; rfl, hB3⟩
  · have HW := Lib.hid w0
    have w0' : (want == 0) = false := by simpa using w0
    clear w0
    go_wp2_with fail
    refine (isAt_any _ _ _).mono ?_
    rintro e w' ⟨rfl, rfl⟩
    cases hat : isAtB arg f.regs.length
    · have HAT : Hid (¬ (0 ≤ arg ∧ arg < f.regs.length)) := Lib.hid (of_decide_eq_false hat)
      clear hat
      go_wp2_with fail
      go_ret
      exact ⟨by rw [HT.out, if_neg HW.out, if_neg HAT.out]; rfl, hB3⟩
    · have HAT : Hid (0 ≤ arg ∧ arg < f.regs.length) := Lib.hid (of_decide_eq_true hat)
      clear hat
      obtain ⟨an, rfl, han⟩ := reg_at HAT.out.1 HAT.out.2
      obtain ⟨br, or, y, rfl, hy, hyc, -⟩ := hrs.int han
      have HR : Hid (reg f.regs an = y) := Lib.hid (reg_of rfl hy.out)
      by_cases hyw : y = want
      · have hyw' : (y != want) = false := by simp [hyw]
        have HY := Lib.hid hyw
        clear hyw
        go_wp2_with fail
        try (go_quiet (fail); go_wp2_with fail)
        go_ret
        exact ⟨by rw [HT.out, if_neg HW.out, if_pos HAT.out, HR.out, if_pos HY.out]; rfl, by first | exact hB3 | exact below_drewN hB3 _⟩
      · have hyw' : (y != want) = true := by rw [bne_iff_ne]; exact hyw
        have HY := Lib.hid hyw
        clear hyw
        go_wp2_with fail
        try (go_quiet (fail); go_wp2_with fail)
        go_ret
        exact ⟨by rw [HT.out, if_neg HW.out, if_pos HAT.out, HR.out, if_neg HY.out]; rfl, by first | exact hB3 | exact below_drewN hB3 _⟩
end Go.Proofs.Ytcjmhdneelmbhaa
