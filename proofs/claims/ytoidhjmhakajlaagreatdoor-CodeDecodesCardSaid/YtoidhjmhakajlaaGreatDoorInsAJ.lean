/- The helpers of ofInstr: arith's Args, ints, constType, copyType. -/
import Derived.Test.YtoidhjmhakajlaaGreatDoorEncJ
import Derived.Deep.QuietTactic
import Derived.BigQuiet
namespace Go.Proofs.YtoidhjmhakajlaaGreatDoor
open Go.ChangeShapes Go.WideShapes Go.RowKit Go.Deep
set_option linter.unusedVariables false

def arity (op : Int) : Int := if op = 2 ∨ op = 14 then 1 else if 3 ≤ op ∧ op ≤ 13 then 2 else 0
def known (op : Int) : Bool := decide (2 ≤ op ∧ op ≤ 14)
theorem args_any (op : Int) (w : World) :
    Calls Tryz.prog 145 #[.int .i64 op] w fun e w' => e = .returned (.tuple #[.int .i64 (arity op), .bool (known op)]) ∧ w = w' := by
  by_cases h : 2 ≤ op ∧ op ≤ 14
  · obtain rfl | rfl | rfl | rfl | rfl| rfl| rfl| rfl| rfl| rfl| rfl | rfl | rfl : op = 2 ∨ op = 3 ∨ op = 4 ∨ op = 5 ∨ op = 6 ∨ op = 7 ∨ op = 8 ∨ op = 9 ∨ op = 10 ∨ op = 11 ∨ op = 12 ∨ op = 13 ∨ op = 14 := by omega
    all_goals
      go_enter Tryz.func145, Tryz.ntmps145
      go_wp2
      go_ret2
      exact ⟨rfl, rfl⟩
  · have e1 : arity op = 0 := by unfold arity; rw [if_neg (by omega), if_neg (by omega)]
    have e2 : known op = false := by unfold known; simp; omega
    rw [e1, e2]
    clear e1 e2
    have h2 : (op == 2) = false := by simp; omega
    have h3 : (op == 3) = false := by simp; omega
    have h4 : (op == 4) = false := by simp; omega
    have h5 : (op == 5) = false := by simp; omega
    have h6 : (op == 6) = false := by simp; omega
    have h7 : (op == 7) = false := by simp; omega
    have h8 : (op == 8) = false := by simp; omega
    have h9 : (op == 9) = false := by simp; omega
    have h10 : (op == 10) = false := by simp; omega
    have h11 : (op == 11) = false := by simp; omega
    have h12 : (op == 12) = false := by simp; omega
    have h13 : (op == 13) = false := by simp; omega
    have h14 : (op == 14) = false := by simp; omega
    clear h
    go_enter Tryz.func145, Tryz.ntmps145
    go_wp2
    go_ret2
    exact ⟨rfl, rfl⟩

/-- So many ones. -/
theorem mkInts_any (n : Nat) (hn : n ≤ 1000000) (w : World) :
    Calls Tryz.prog 146 #[.int .i64 n] w fun e w' => (∃ c, e = .returned (.slice (some ⟨w.heap.size, 0, none⟩) n c) ∧ SL w' 1 RInt (some ⟨w.heap.size, 0, none⟩) c (List.replicate n 1)) ∧ Below w.heap.size w w' := by
  have hmk := run_make_row' (P := Tryz.prog) 54 3 (.int .i64 0) 8 Tryz.underlying54 Tryz.info3 rfl .i64 .i64 n (by omega) (by omega)
  go_enter Tryz.func146, Tryz.ntmps146
  go_wp2_with fail
  clear hmk
  have hr := World.rowIs_made w (.int .i64 0) n 3
  have hb : Below w.heap.size w (w.alloc (.cells (madeCells #[.int .i64 0] n) 3)) := (Below.refl _ _).alloc (Nat.le_refl _) _
  generalize w.alloc (.cells (madeCells #[.int .i64 0] n) 3) = w1 at *
  go_loopw [9] (fun i wr => ∃ k : Nat, k ≤ n ∧ i = .int .i64 k ∧ Below w.heap.size w wr ∧ wr.rowIs w.heap.size 3 n (fun j => if j < k then .int .i64 1 else .int .i64 0)) (fun i _ => n - (intOf i).toNat)
  case atStart => exact ⟨0, Nat.zero_le _, rfl, hb, hr.congr (fun j _ => (if_neg (Nat.not_lt_zero j)).symm)⟩
  case round =>
    obtain ⟨k, hk, rfl, hbw, hrw⟩ := hrel
    have hlw := hrw.lt
    by_cases hlt : k < n
    · have hc := hrw.cell hlt
      rw [if_neg (Nat.lt_irrefl k)] at hc
      have hf := hrw.frozen k
      have hk0 : (0 : Int) ≤ k := by omega
      have hk1 : (k : Int) < n := by omega
      have hset : (wr.setCell ⟨w.heap.size, k, none⟩ (.int .i64 1)).rowIs w.heap.size 3 n (fun j => if j < k + 1 then .int .i64 1 else .int .i64 0) := (hrw.set k _).congr (fun j _ => by
        by_cases e : j = k
        · rw [if_pos e, if_pos (by omega)]
        · rw [if_neg e]
          by_cases e2 : j < k
          · rw [if_pos e2, if_pos (by omega)]
          · rw [if_neg e2, if_neg (by omega)])
      go_wp2_with fail
      go_roundw
      case rel => exact ⟨k + 1, by omega, by go_num, hbw.setCell (Nat.le_refl _) _, hset⟩
      case measure => simp [intOf]; omega
    · obtain rfl : k = n := by omega
      go_wp2_with fail
      go_ret
      refine ⟨⟨_, rfl, ?_, ?_, fun _ => ⟨_, _, rfl, fun i x hi => ?_⟩⟩, hbw⟩
      · rw [List.length_replicate]; exact Nat.le_refl _
      · exact ⟨by unfold maxLen; omega, fun e => by cases e⟩
      · obtain ⟨h1, h2⟩ := List.getElem?_eq_some_iff.1 hi
        rw [List.length_replicate] at h1
        rw [List.getElem_replicate] at h2
        subst h2
        rw [Nat.mul_one, Nat.zero_add]
        exact ⟨by rw [hrw.cell h1, if_pos h1], by unfold I64; omega⟩

theorem keptTwo (w : World) (o o' : Obj) : Kept w ((w.alloc o).alloc o') := (kept_alloc w o).trans (kept_alloc _ o')
/-- The type that a constant's Dst has to be of. -/
def constT (f : FunD) (x : InsD) : Int := if isAtB x.dst f.regs.length = true ∧ reg f.regs x.dst = 2 ∧ (x.imm = 0 ∨ x.imm = 1) then 2 else 1
theorem constType_any (f : FunD) (x : InsD) (vf vx : Value) (w : World) (hf : VFun w vf f) (hx : VIns w vx x) :
    Calls Tryz.prog 142 #[vf, vx] w fun e w' => e = .returned (.int .i64 (constT f x)) ∧ Below w.heap.size w w' := by
  obtain ⟨Ar, cr, Ab, cb, rfl, hr, hbs, hp64, hr64⟩ := hf
  obtain ⟨A, c, rfl, hxa, ho64, hd64, hi64, hf64⟩ := hx
  have hrl := hr.len
  cases hat : isAtB x.dst f.regs.length
  · have HT : Hid (constT f x = 1) := Lib.hid (by unfold constT; rw [hat]; exact if_neg (fun h => by cases h.1))
    have HA := Lib.hid hat
    clear hat
    go_enter Tryz.func142, Tryz.ntmps142
    go_wp2_with fail
    refine (isAt_any _ _ _).mono ?_
    rintro e w' ⟨rfl, rfl⟩
    rw [HA.out]
    go_wp2_with fail
    go_ret
    exact ⟨by rw [HT.out]; rfl, ((Below.refl _ w).alloc (Nat.le_refl _) _).alloc (by simp) _⟩
  · have h01 : 0 ≤ x.dst ∧ x.dst < f.regs.length := of_decide_eq_true hat
    obtain ⟨h0, h1⟩ := h01
    obtain ⟨k, hk⟩ := Int.eq_ofNat_of_zero_le h0
    have hkl : k < f.regs.length := by omega
    obtain ⟨b, o, y, rfl, hy, hyc, hy64⟩ := hr.int hkl
    have HR : Hid (reg f.regs x.dst = y) := Lib.hid (reg_of hk hy.out)
    have HA := Lib.hid hat
    clear hat
    rw [hk] at h0 h1 hd64
    have HKK := Lib.hid hk
    have hyc' := keptTwo w (.cells #[.int .i64 f.params, .int .i64 f.result, .slice (some ⟨b, o, none⟩) f.regs.length cr, .slice Ab f.blocks.length cb] 57) (.cells #[.int .i64 x.op, .int .i64 x.dst, .slice A x.args.length c, .int .i64 x.imm, .int .i64 x.fn] 65) _ _ hyc
    obtain ⟨op, dst, args, imm, fn⟩ := x
    dsimp only at *
    subst hk
    clear hyc
    have hB : Below w.heap.size w ((w.alloc (.cells #[.int .i64 f.params, .int .i64 f.result, .slice (some ⟨b, o, none⟩) f.regs.length cr, .slice Ab f.blocks.length cb] 57)).alloc (.cells #[.int .i64 op, .int .i64 k, .slice A args.length c, .int .i64 imm, .int .i64 fn] 65)) := ((Below.refl _ w).alloc (Nat.le_refl _) _).alloc (by simp) _
    have HB := Lib.hid hB
    clear hB
    by_cases hy2 : y = 2
    · have hyb : (y == 2) = true := by simp [hy2]
      by_cases hi0 : imm = 0
      · have hib : (imm == 0) = true := by simp [hi0]
        have HT : Hid (constT f ⟨op, k, args, imm, fn⟩ = 2) := Lib.hid (if_pos ⟨HA.out, by rw [HR.out]; exact hy2, .inl hi0⟩)
        clear hy2 hi0
        go_enter Tryz.func142, Tryz.ntmps142
        go_wp2_with fail
        refine (isAt_any _ _ _).mono ?_
        rintro e w' ⟨rfl, rfl⟩
        rw [HA.out]
        go_wp2_with fail
        go_ret
        exact ⟨by rw [HT.out]; rfl, HB.out⟩
      · have hib : (imm == 0) = false := by simp [hi0]
        by_cases hi1 : imm = 1
        · have hic : (imm == 1) = true := by simp [hi1]
          have HT : Hid (constT f ⟨op, k, args, imm, fn⟩ = 2) := Lib.hid (if_pos ⟨HA.out, by rw [HR.out]; exact hy2, .inr hi1⟩)
          clear hy2 hi0 hi1
          go_enter Tryz.func142, Tryz.ntmps142
          go_wp2_with fail
          refine (isAt_any _ _ _).mono ?_
          rintro e w' ⟨rfl, rfl⟩
          rw [HA.out]
          go_wp2_with fail
          go_ret
          exact ⟨by rw [HT.out]; rfl, HB.out⟩
        · have hic : (imm == 1) = false := by simp [hi1]
          have HT : Hid (constT f ⟨op, k, args, imm, fn⟩ = 1) := Lib.hid (if_neg (fun h => by exact h.2.2.elim hi0 hi1))
          clear hy2 hi0 hi1
          go_enter Tryz.func142, Tryz.ntmps142
          go_wp2_with fail
          refine (isAt_any _ _ _).mono ?_
          rintro e w' ⟨rfl, rfl⟩
          rw [HA.out]
          go_wp2_with fail
          go_ret
          exact ⟨by rw [HT.out]; rfl, HB.out⟩
    · have hyb : (y == 2) = false := by simp [hy2]
      have HT : Hid (constT f ⟨op, k, args, imm, fn⟩ = 1) := Lib.hid (if_neg (fun h => by have := h.2.1; rw [HR.out] at this; exact hy2 this))
      clear hy2
      go_enter Tryz.func142, Tryz.ntmps142
      go_wp2_with fail
      refine (isAt_any _ _ _).mono ?_
      rintro e w' ⟨rfl, rfl⟩
      rw [HA.out]
      go_wp2_with fail
      go_ret
      exact ⟨by rw [HT.out]; rfl, HB.out⟩

/-- The type of what is copied. -/
def copyT (f : FunD) (x : InsD) : Int := match x.args with
  | [] => 1
  | a :: _ => if isAtB a f.regs.length = true then reg f.regs a else 1
theorem copyType_any (f : FunD) (x : InsD) (vf vx : Value) (w : World) (hf : VFun w vf f) (hx : VIns w vx x) :
    Calls Tryz.prog 143 #[vf, vx] w fun e w' => e = .returned (.int .i64 (copyT f x)) ∧ Below w.heap.size w w' := by
  obtain ⟨Ar, cr, Ab, cb, rfl, hr, hbs, hp64, hr64⟩ := hf
  obtain ⟨A, c, rfl, hxa, ho64, hd64, hi64, hf64⟩ := hx
  have hrl := hr.len
  have hal := hxa.len
  obtain ⟨op, dst, args, imm, fn⟩ := x
  dsimp only at *
  obtain ⟨wa, hwa, hsa, hka, hba, hca, -⟩ := named w #[.int .i64 f.params, .int .i64 f.result, .slice Ar f.regs.length cr, .slice Ab f.blocks.length cb] 57
  obtain ⟨w1, hw1, hs1, hk1, hb1, hc1, -⟩ := named wa #[.int .i64 op, .int .i64 dst, .slice A args.length c, .int .i64 imm, .int .i64 fn] 65
  rw [hsa] at hc1
  have HB : Hid (Below w.heap.size w w1) := Lib.hid (hba.trans (hb1.mono (by omega)))
  have hK := hka.trans hk1
  have q2 : w1.cell? ⟨w.heap.size, 2, none⟩ = some (.slice Ar f.regs.length cr) := hk1 _ _ (hca 2 _ rfl)
  have p2 : w1.cell? ⟨w.heap.size + 1, 2, none⟩ = some (.slice A args.length c) := hc1 2 _ rfl
  have HW : Hid ((w.alloc (.cells #[.int .i64 f.params, .int .i64 f.result, .slice Ar f.regs.length cr, .slice Ab f.blocks.length cb] 57)).alloc (.cells #[.int .i64 op, .int .i64 dst, .slice A args.length c, .int .i64 imm, .int .i64 fn] 65) = w1) := Lib.hid (by rw [hw1, hwa])
  clear hwa hw1 hsa hs1 hka hk1 hba hb1 hca hc1
  have hisAt : ∀ (a b : Int) (j : Nat), Calls Tryz.prog 91 #[.int .i64 a, .int .i64 b] (w1.drewN j) fun e w' => e = .returned (.bool (isAtB a b)) ∧ w' = w1.drewN j := fun a b j => (isAt_any a b _).mono fun e w' h => ⟨h.1, h.2.symm⟩
  have HI := Lib.hid hisAt
  clear hisAt
  cases args with
  | nil =>
    have HW' : Hid ((w.alloc (.cells #[.int .i64 f.params, .int .i64 f.result, .slice Ar f.regs.length cr, .slice Ab f.blocks.length cb] 57)).alloc (.cells #[.int .i64 op, .int .i64 dst, .slice A 0 c, .int .i64 imm, .int .i64 fn] 65) = w1) := HW
    clear HW
    have HW := HW'
    go_enter Tryz.func143, Tryz.ntmps143
    go_wp2_with fail
    rw [HW.out]
    simp only [List.length_nil] at p2
    go_quiet (fail)
    go_wp2_with fail
    go_ret
    exact ⟨rfl, below_drewN HB.out _⟩
  | cons a l =>
    obtain ⟨ba, oa, a', rfl, ha, hac, ha64⟩ := hxa.int (k := 0) (by simp)
    obtain rfl : a = a' := Option.some.inj ha.out
    have hac := hK _ _ hac
    rw [Nat.add_zero] at hac
    have hl0 : 0 < (a :: l).length := by simp
    have hl1 : (0 : Int) < ((a :: l).length : Int) := by omega
    clear hxa ha
    cases hat : isAtB a f.regs.length
    · have HT : Hid (copyT f ⟨op, dst, a :: l, imm, fn⟩ = 1) := Lib.hid (by show (if isAtB a f.regs.length = true then reg f.regs a else 1) = 1; rw [hat]; rfl)
      have HA := Lib.hid (fun j => by have := HI.out a f.regs.length j; rw [hat] at this; exact this)
      clear hat
      generalize (a :: l).length = n at *
      go_enter Tryz.func143, Tryz.ntmps143
      go_wp2_with fail
      rw [HW.out]
      go_quiet ((go_at_call 91; exact Calls.quiet_of_same (HA.out _)))
      go_wp2_with fail
      go_ret
      exact ⟨by rw [HT.out]; rfl, below_drewN HB.out _⟩
    · obtain ⟨h0, h1⟩ : 0 ≤ a ∧ a < f.regs.length := of_decide_eq_true hat
      obtain ⟨k, rfl⟩ := Int.eq_ofNat_of_zero_le h0
      have hkl : k < f.regs.length := by omega
      obtain ⟨b, o, y, rfl, hy, hyc, hy64⟩ := hr.int hkl
      have hyc := hK _ _ hyc
      have HT : Hid (copyT f ⟨op, dst, (k : Int) :: l, imm, fn⟩ = y) := Lib.hid (by show (if isAtB (k : Int) f.regs.length = true then reg f.regs k else 1) = y; rw [hat, if_pos rfl]; exact reg_of rfl hy.out)
      have HA := Lib.hid (fun j => by have := HI.out (k : Int) f.regs.length j; rw [hat] at this; exact this)
      clear hat
      generalize ((k : Int) :: l).length = n at *
      go_enter Tryz.func143, Tryz.ntmps143
      go_wp2_with fail
      rw [HW.out]
      go_quiet ((go_at_call 91; exact Calls.quiet_of_same (HA.out _)))
      go_wp2_with fail
      go_quiet (fail)
      go_wp2_with fail
      go_ret
      exact ⟨by rw [HT.out]; rfl, below_drewN (below_drewN HB.out _) _⟩
end Go.Proofs.YtoidhjmhakajlaaGreatDoor
