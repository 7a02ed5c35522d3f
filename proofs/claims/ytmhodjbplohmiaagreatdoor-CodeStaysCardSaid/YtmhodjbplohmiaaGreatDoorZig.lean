/- Numbers with a sign, as they are written and read. -/
import Derived.Test.YtmhodjbplohmiaaGreatDoorWri
namespace Go.Proofs.YtmhodjbplohmiaaGreatDoor
open Go.ChangeShapes Go.WideShapes Go.RowKit Go.Deep
set_option linter.unusedVariables false

theorem wrapU (n : Int) : IntKind.u64.wrap n = n % 18446744073709551616 := by simp [IntKind.wrap, IntKind.bits, IntKind.signed]
theorem bits_xor (x y : Int) : bits .xor .u64 x y = ((BitVec.ofInt 64 x ^^^ BitVec.ofInt 64 y).toNat : Int) % 18446744073709551616 := by
  show IntKind.u64.wrap ((BitVec.ofInt 64 x ^^^ BitVec.ofInt 64 y).toNat : Int) = _
  exact wrapU _
theorem xor_zero {a : Nat} (h : a < 18446744073709551616) : bits .xor .u64 (a : Int) 0 = a := by
  rw [bits_xor, show BitVec.ofInt 64 0 = 0#64 from rfl, BitVec.xor_zero, BitVec.toNat_ofInt]
  omega
theorem xor_ones {a : Nat} (h : a < 18446744073709551616) : bits .xor .u64 (a : Int) 18446744073709551615 = 18446744073709551615 - a := by
  rw [bits_xor, show BitVec.ofInt 64 18446744073709551615 = BitVec.allOnes 64 by decide +kernel, BitVec.xor_allOnes, BitVec.toNat_not, BitVec.toNat_ofInt]
  omega
set_option maxRecDepth 100000 in
theorem unsigned_any (n : Int) (w : World) (hn : I64 n) :
    Calls Tryz.prog 101 #[.int .i64 n] w fun e w' => e = .returned (.int .u64 (zig n)) ∧ w = w' := by
  obtain ⟨h1, h2⟩ := hn
  by_cases h0 : 0 ≤ n
  · go_enter Tryz.func101, Tryz.ntmps101
    go_wp2_with fail
    go_ret
    refine ⟨?_, rfl⟩
    show Ending.returned (.int .u64 (bits .xor .u64 (n * 2) (n / 9223372036854775808))) = _
    obtain ⟨k, rfl⟩ := Int.eq_ofNat_of_zero_le h0
    rw [show (k : Int) / 9223372036854775808 = 0 by omega, show (k : Int) * 2 = ((k * 2 : Nat) : Int) by omega, xor_zero (by omega), zig, if_pos h0, show (2 * (k : Int)).toNat = k * 2 by omega]
  · go_enter Tryz.func101, Tryz.ntmps101
    go_wp2_with fail
    go_ret
    refine ⟨?_, rfl⟩
    show Ending.returned (.int .u64 (bits .xor .u64 (IntKind.u64.wrap (IntKind.u64.wrap n * 2)) (IntKind.u64.wrap (n / 9223372036854775808)))) = _
    rw [wrapU, wrapU, wrapU]
    obtain ⟨k, hk⟩ : ∃ k : Nat, n % 18446744073709551616 * 2 % 18446744073709551616 = k := ⟨(n % 18446744073709551616 * 2 % 18446744073709551616).toNat, by omega⟩
    rw [hk, show n / 9223372036854775808 % 18446744073709551616 = 18446744073709551615 by omega, xor_ones (by omega), zig, if_neg (by omega)]
    congr 2
    omega
set_option maxRecDepth 100000 in
theorem signed_any (n : Nat) (w : World) (hn : okU n) :
    Calls Tryz.prog 103 #[.int .u64 n] w fun e w' => e = .returned (.int .i64 (zag n)) ∧ w = w' := by
  have hn : n < 18446744073709551616 := hn
  by_cases h0 : n % 2 = 0
  · have hz : Hid (zag n = (n : Int) / 2) := Lib.hid (by unfold zag; rw [if_pos h0]; omega)
    have h0' : ((n : Int) % 2 == 0) = true := by simp; omega
    clear h0
    go_enter Tryz.func103, Tryz.ntmps103
    go_wp2_with fail
    go_ret
    exact ⟨by rw [hz.out]; rfl, rfl⟩
  · have hz : Hid (zag n = -((n : Int) / 2) - 1) := Lib.hid (by unfold zag; rw [if_neg h0]; omega)
    have h0' : ((n : Int) % 2 == 0) = false := by simp; omega
    clear h0
    go_enter Tryz.func103, Tryz.ntmps103
    go_wp2_with fail
    go_ret
    exact ⟨by rw [hz.out]; rfl, rfl⟩
end Go.Proofs.YtmhodjbplohmiaaGreatDoor
