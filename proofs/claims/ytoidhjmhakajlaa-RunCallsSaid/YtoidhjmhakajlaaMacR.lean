/- Whether a function may be entered so; a run. -/
import Derived.Test.YtoidhjmhakajlaaMacP
import Derived.Test.YtoidhjmhakajlaaInsG
import Derived.Test.YtoidhjmhakajlaaChkE
import Derived.Test.YtoidhjmhakajlaaLim
namespace Go.Proofs.Ytoidhjmhakajlaa
open Go.ChangeShapes Go.WideShapes Go.RowKit Go.Deep
set_option linter.unusedVariables false

def fitB (p : Int × Int) : Bool := (p.1 != 2) || decide (0 ≤ p.2 ∧ p.2 < ((2 : Nat) : Int))
/-- May a function be entered with these arguments? -/
def takesB (F : FunD) (args : List Int) : Bool := decide ((args.length : Int) = F.params) && (F.regs.zip args).all fitB

set_option maxRecDepth 100000 in
set_option maxHeartbeats 4000000 in
theorem takes_any (F : FunD) (args : List Int) (v : Value) (A : Option Addr) (c : Nat) (w : World) (hv : VFun w v F) (ha : SL w 1 RInt A c args) (hp : F.params ≤ F.regs.length) :
    Calls Try.prog 22 #[v, .slice A args.length c] w fun e w' => e = .returned (.bool (takesB F args)) ∧ Below w.heap.size w w' := by
  obtain ⟨Ar, cr, Ab, cb, rfl, hr, hb, hp64, hr64⟩ := hv
  have hal := ha.len
  have hrl := hr.len
  obtain ⟨w1, hw1, hs1, hk1, hB1, hc1, -⟩ := named w #[.int .i64 F.params, .int .i64 F.result, .slice Ar F.regs.length cr, .slice Ab F.blocks.length cb] 39
  have d0 : w1.cell? ⟨w.heap.size, 0, none⟩ = some (.int .i64 F.params) := hc1 0 _ rfl
  have d2 : w1.cell? ⟨w.heap.size, 2, none⟩ = some (.slice Ar F.regs.length cr) := hc1 2 _ rfl
  have ha1 := SInts.keep hk1 ha
  have hr1 := SInts.keep hk1 hr
  have hlt : w.heap.size < w1.heap.size := by omega
  by_cases hl : (args.length : Int) = F.params
  · have hlb : ((args.length : Int) != F.params) = false := by simp [hl]
    have HT : Hid (takesB F args = (F.regs.zip args).all fitB) := Lib.hid (by unfold takesB; rw [decide_eq_true hl]; rfl)
    have HLE : Hid (args.length ≤ F.regs.length) := Lib.hid (by omega)
    have HB1 := Lib.hid hB1
    clear hl hc1 hs1 hk1 hB1 ha hr hb
    go_enter Try.func22, Try.ntmps22
    go_wp2_with fail
    rw [← hw1]
    clear hw1
    go_loopw [14] (fun i wr => ∃ j : Nat, j ≤ args.length ∧ i = .int .i64 j ∧ Hid (((F.regs.zip args).take j).all fitB = true) ∧ wr = w1) (fun i _ => args.length - (intOf i).toNat)
    case atStart => exact ⟨0, Nat.zero_le _, rfl, Lib.hid rfl, rfl⟩
    case round =>
      obtain ⟨j, hj, rfl, hi, rfl⟩ := hrel
      by_cases hjt : j < args.length
      · have hjr : j < F.regs.length := by have := HLE.out; omega
        obtain ⟨b, o, a, rfl, hx, hxc, -⟩ := ha1.int hjt
        obtain ⟨b2, o2, t, rfl, ht, htc, -⟩ := hr1.int hjr
        have HZ : Hid ((F.regs.zip args)[j]? = some (t, a)) := Lib.hid (by rw [List.getElem?_zip_eq_some]; exact ⟨ht.out, hx.out⟩)
        have hj0 : (0 : Int) ≤ j := by omega
        have hj1 : (j : Int) < args.length := by omega
        have hj2 : (j : Int) < F.regs.length := by omega
        have HST := Lib.hid (all_step HZ.out hi.out)
        by_cases h2 : t = 2
        · have h2b : (t == 2) = true := by simp [h2]
          by_cases hb : 0 ≤ a ∧ a < ((2 : Nat) : Int)
          · have hd : decide (0 ≤ a ∧ a < ((2 : Nat) : Int)) = true := decide_eq_true hb
            have HF : Hid (fitB (t, a) = true) := Lib.hid (by unfold fitB; dsimp only; rw [hd]; simp)
            have HW := Lib.hid (within_any a 2 wr)
            rw [hd] at HW
            clear h2 hb hd
            go_wp2_with fail
            refine HW.out.mono ?_
            rintro e w' ⟨rfl, rfl⟩
            go_wp2_with fail
            go_roundw
            case rel => exact ⟨j + 1, by omega, by go_num, Lib.hid (by rw [HST.out]; exact HF.out), trivial⟩
            case measure => simp [intOf]; omega
          · have hd : decide (0 ≤ a ∧ a < ((2 : Nat) : Int)) = false := decide_eq_false hb
            have HF : Hid (fitB (t, a) = false) := Lib.hid (by unfold fitB; dsimp only; rw [hd, h2]; rfl)
            have HW := Lib.hid (within_any a 2 wr)
            rw [hd] at HW
            have HE : Hid (takesB F args = false) := Lib.hid (by rw [HT.out]; exact all_stop HZ.out HF.out)
            clear h2 hb hd
            go_wp2_with fail
            refine HW.out.mono ?_
            rintro e w' ⟨rfl, rfl⟩
            go_wp2_with fail
            go_ret
            exact ⟨by rw [HE.out]; rfl, HB1.out⟩
        · have h2b : (t == 2) = false := by simp [h2]
          have HF : Hid (fitB (t, a) = true) := Lib.hid (by unfold fitB; simp [h2])
          clear h2
          go_wp2_with fail
          go_roundw
          case rel => exact ⟨j + 1, by omega, by go_num, Lib.hid (by rw [HST.out]; exact HF.out), trivial⟩
          case measure => simp [intOf]; omega
      · have HE : Hid (takesB F args = true) := Lib.hid (by rw [HT.out]; exact all_done hi.out (by rw [List.length_zip]; have := HLE.out; omega))
        go_wp2_with fail
        go_ret
        exact ⟨by rw [HE.out]; rfl, HB1.out⟩
  · have hlb : ((args.length : Int) != F.params) = true := by rw [bne_iff_ne]; exact hl
    have HE : Hid (takesB F args = false) := Lib.hid (by unfold takesB; rw [decide_eq_false hl]; rfl)
    have HB1 := Lib.hid hB1
    clear hl hc1 hs1 hk1 hB1 ha hr hb
    go_enter Try.func22, Try.ntmps22
    go_wp2_with fail
    rw [← hw1]
    go_ret
    exact ⟨by rw [HE.out]; rfl, HB1.out⟩
end Go.Proofs.Ytoidhjmhakajlaa
