/- The rules 1 and 2: isWithin, isTyped; hasPhi. -/
import Derived.Test.YtoidhjmhakajlaaSpec
namespace Go.Proofs.Ytoidhjmhakajlaa
open Go.ChangeShapes Go.WideShapes Go.RowKit Go.Deep
set_option linter.unusedVariables false

/-- Phis and instructions of each block are few. -/
def Lim (f : FunD) : Prop := ∀ b ∈ f.blocks, b.phis.length ≤ 1000000 ∧ b.ins.length ≤ 1000000
theorem Lim.at_ {f : FunD} (h : Lim f) {k : Nat} {b : BlkD} (hb : f.blocks[k]? = some b) : b.phis.length ≤ 1000000 ∧ b.ins.length ≤ 1000000 := h b (List.mem_of_getElem? hb)

set_option maxRecDepth 100000 in
set_option maxHeartbeats 4000000 in
theorem isWithin_any (f : FunD) (v : Value) (w : World) (hv : VFun w v f) (hlim : Lim f) :
    Calls Try.prog 47 #[v] w fun e w' => e = .returned (.bool (withinB f)) ∧ Below w.heap.size w w' := by
  obtain ⟨Ar, cr, A, c, rfl, hr, hb, -, -⟩ := hv
  have hbl := hb.len
  have hrl := hr.len
  by_cases hok : 1 ≤ f.blocks.length ∧ f.blocks.length ≤ 64 ∧ f.regs.length ≤ 256
  · obtain ⟨h1, h2, h3⟩ := hok
    go_enter Try.func47, Try.ntmps47
    go_wp2_with fail
    obtain ⟨w1, hw1, hs1, hk1, hbel1, hc1, -⟩ := named w #[.int .i64 f.params, .int .i64 f.result, .slice Ar f.regs.length cr, .slice A f.blocks.length c] 39
    rw [← hw1]
    clear hw1 hc1
    have hs1 : w.heap.size < w1.heap.size := by omega
    go_loopw [3, 28] (fun q i wr => ∃ k : Nat, k ≤ f.blocks.length ∧ i = .int .i64 k ∧ q = .int .i64 ((f.blocks.length + itemsK (f.blocks.take k) : Nat) : Int) ∧ itemsK (f.blocks.take k) ≤ k * 2000000 ∧ Below w1.heap.size w1 wr) (fun _ i _ => f.blocks.length - (intOf i).toNat)
    case atStart => exact ⟨0, Nat.zero_le _, rfl, rfl, Nat.zero_le _, Below.refl _ _⟩
    case round =>
      obtain ⟨k, hk, rfl, rfl, hi, hbel⟩ := hrel
      have hs := hbel.size
      have hkw : Kept w1 wr := kept_of_below hbel
      have hB : Below w.heap.size w wr := hbel1.trans (hbel.mono (by omega))
      by_cases hlt : k < f.blocks.length
      · obtain ⟨b, o, kb, rfl, hkb, ⟨Ap, cp, hphi, hphis⟩, ⟨Ai, ci, hins, hinss⟩, ⟨hkd, -⟩, ⟨har, -⟩, ⟨At, ct, hto, htos⟩⟩ := (SBlks.keep (hk1.trans hkw) hb).at_ hlt
        obtain ⟨hl1, hl2⟩ := hlim.at_ hkb.out
        have hst := itemsK_step hkb.out
        have HST := Lib.hid hst
        clear hst
        have hn : ((f.blocks.length + itemsK (f.blocks.take k) : Nat) : Int) = (f.blocks.length : Int) + (itemsK (f.blocks.take k) : Int) := by simp
        generalize itemsK (f.blocks.take k) = q at *
        clear hn
        go_wp2_with fail
        go_roundw
        case rel => exact ⟨k + 1, by omega, by go_num, by rw [HST.out]; congr 1; omega, by rw [HST.out]; omega, hbel.alloc (by omega) _⟩
        case measure => simp [intOf]; omega
      · have hkk : f.blocks.take k = f.blocks := List.take_of_length_le (by omega)
        rw [hkk]
        have hd : withinB f = decide (((f.blocks.length + itemsK f.blocks : Nat) : Int) ≤ 256) := by
          unfold withinB; congr 1; rw [eq_iff_iff]; omega
        have HD := Lib.hid hd
        clear hd hkk hi
        generalize itemsK f.blocks = q at *
        go_wp2_with fail
        go_ret
        exact ⟨by rw [HD.out]; simp, hB⟩
  · have hd : withinB f = false := by
      unfold withinB; exact decide_eq_false (by omega)
    rw [hd]
    clear hd
    by_cases q1 : f.blocks.length < 1
    · clear hok
      go_enter Try.func47, Try.ntmps47
      go_wp2_with fail
      all_goals (go_ret; exact ⟨rfl, (Below.refl _ _).alloc (Nat.le_refl _) _⟩)
    · by_cases q2 : 64 < f.blocks.length
      · clear hok
        go_enter Try.func47, Try.ntmps47
        go_wp2_with fail
        all_goals (go_ret; exact ⟨rfl, (Below.refl _ _).alloc (Nat.le_refl _) _⟩)
      · have q3 : 256 < f.regs.length := by omega
        clear hok
        go_enter Try.func47, Try.ntmps47
        go_wp2_with fail
        all_goals (go_ret; exact ⟨rfl, (Below.refl _ _).alloc (Nat.le_refl _) _⟩)

end Go.Proofs.Ytoidhjmhakajlaa
