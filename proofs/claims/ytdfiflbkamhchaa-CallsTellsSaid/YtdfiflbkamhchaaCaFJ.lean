/- The program's enter. -/
import Derived.Test.YtdfiflbkamhchaaCaQJ
import Derived.Test.YtdfiflbkamhchaaDmFrJ
import Derived.BigRegion
import Derived.Shelf.Sort.AssemblyIn
import Derived.Shelf.SlSortCmp.Whole1
import Derived.Sort.EveryDepth
import Derived.Test.YtdfiflbkamhchaaChecked
import Derived.WalkSpells
namespace Go.Proofs.Ytdfiflbkamhchaa
open Go.ChangeShapes Go.WideShapes Go.RowKit Go.Deep
set_option linter.unusedVariables false

def ToldT (Wa : World) (H n K L C F P cl : Nat) (s' : TsS) (e : Ending) (W' : World) : Prop :=
  e = .returned (.tuple #[]) ∧ ∃ lv U T, TsM Wa H n K L C F P cl W' lv (3 + s'.rings.length) U T s'
set_option maxRecDepth 100000 in
set_option maxHeartbeats 8000000 in
theorem enterT_any {Wa : World} {H n K L C F P cl : Nat} {W : World} {lv : Nat → Value} {m : Nat} {U : Nat → Value} {T : Nat → RowD} {s : TsS} (h : TsM Wa H n K L C F P cl W lv m U T s) (hm : m = 3 + s.rings.length) (hw : s.way.length ≤ 1000) (ho : s.op.length ≤ 1000) (hmn : s.many ≤ 1000) (hn : n ≤ 1000) (f : Nat) (hf : f < n) :
    Calls Try.prog 50 #[.pointer (some ⟨P, 0, none⟩), .int .i64 (f : Int)] W (ToldT Wa H n K L C F P cl (enterS s f)) := by
  obtain ⟨i0, hi, hz0, hz1, hz2⟩ := info_parts Try.info3
  have HI := Lib.hid (And.intro hi (And.intro hz0 (And.intro hz1 hz2)))
  clear hi hz0 hz1 hz2
  obtain ⟨p0, p1, p2, p3, p4, p5, p6, pf⟩ := h.cells
  have pf5 := pf 5
  have hPC : P ≠ C := Ne.symm h.ne.2.2.2.2.1
  have hPF : P ≠ F := Ne.symm h.ne.2.2.2.2.2
  have hCF : C ≠ F := h.ne.2.2.2.1
  have HM := Lib.hid h
  have HMQ := Lib.hid hm
  obtain ⟨v, hv⟩ : ∃ v : Nat, v = s.many + 1 := ⟨_, rfl⟩
  have HV := Lib.hid hv
  have hv2 : (s.many : Int) + 1 = (v : Int) := by omega
  have HV2 := Lib.hid hv2
  have hf0 : (0 : Int) ≤ f := by omega
  have hf1 : (f : Int) < n := by omega
  clear h hm pf hv hv2 p0 p3 p4 p6
  go_enter Try.func50, Try.ntmps50
  go_upto_region 1 with fail
  rw [HV2.out]
  obtain ⟨W1, hW1⟩ : ∃ W1, W.setCell ⟨P, 5, none⟩ (.int .i64 (v : Int)) = W1 := ⟨_, rfl⟩
  rw [hW1]
  have hM1 : TsM Wa H n K L C F P cl W1 lv m U T { s with many := v } := by rw [← hW1]; exact HM.out.setMany v
  have hz1 : W.heap.size = W1.heap.size := by rw [← hW1]; simp
  clear hW1 p1 p2 p5 pf5
  obtain ⟨p0, p1, p2, p3, p4, p5, p6, pf⟩ := hM1.cells
  have e1 := hM1.cr.frozen f
  have e2 := hM1.fr.frozen f
  have e3 := hM1.cr.cell hf
  have e4 := hM1.fr.cell hf
  have HM1 := Lib.hid hM1
  clear hM1 p0 p3 p4 p6 pf hz1
  go_region
  obtain ⟨W2, hW2⟩ : ∃ W2, ((W1.setCell ⟨C, f, none⟩ (.int .i64 (v : Int))).setCell ⟨F, f, none⟩ (.int .i64 (v : Int))).drew = W2 := ⟨_, rfl⟩
  rw [hW2]
  have hM2 : TsM Wa H n K L C F P cl W2 lv m U T { s with many := v, come := updN s.come f v, first := updN s.first f v } := by
    rw [← hW2]; exact ((HM1.out.setCome f v).setFirst f v).below ⟨rfl, rfl, rfl, Nat.le_refl _, fun _ _ => rfl⟩
  clear hW2 e1 e2 e3 e4 p1 p2 p5
  obtain ⟨-, -, -, p3, p4, -, -, pf⟩ := hM2.cells
  have pf3 := pf 3
  have hmm := hM2.mm
  have hown : OwnD W2 K (U 0) (caR s.way) := by have := hM2.pool.own 0 (by omega); rw [hM2.t0] at this; exact this
  have HM2 := Lib.hid hM2
  have HOWN : Hid (W2.ownsRow K 3 1 (U 0) s.way.length (natV s.way)) := Lib.hid hown
  have hkw := hM2.kw
  have HB2 := Lib.hid hM2.box
  obtain ⟨A0, c0, hU0⟩ := own_sliceL hown
  clear hM2 hown pf HM1
  rw [hU0] at p3
  go_upto_region 3 with (at_builtin; refine wpList_append_lies _ rfl (.tmp 35) (.tmp 37) 34 rfl K 3 i0 (.int .i64 0) 1 8 Try.underlying34 HI.out.1 HI.out.2.1 HI.out.2.2.1 HI.out.2.2.2 rfl (by decide) _ _ _ rfl (by have := HOWN.out.alloc (.cells #[.int .i64 (f : Int)] 3); rw [hU0] at this; exact this) ⟨W2.heap.size, 0, none⟩ 1 1 [.int .i64 (f : Int)] rfl rfl ?e1 ?e2 ?e0 ?e3 ?e4 ?e5 (W2.heap.size + 1) ?e6 ?_)
  case e2 => rfl
  case e3 => unfold maxLen; omega
  case e4 => omega
  case e5 => omega
  intro g cap W3 hown3 hgrow3 hloc3 hlt3
  have hgd : GroD W2 W3 (U 0) (.slice (some ⟨g, 0, none⟩) ((caR s.way).len + 1) cap) := by rw [hU0]; exact groD_append hgrow3 hloc3
  have hb3 : W3.heap[P]? = W2.heap[P]? := (HM2.out.rows_ (by omega) hgd).1 P HM2.out.nb.2.2.2.2
  have hM3 := HM2.out.way (l := s.way ++ [f]) hgd (by
    show W3.ownsRow K 3 1 _ (s.way ++ [f]).length (natV (s.way ++ [f]))
    rw [natV_snoc, List.length_append]; exact hown3)
  have p3' := (World.cell?_of_block (a := ⟨P, 3, none⟩) hb3).trans p3
  have p4' := (World.cell?_of_block (a := ⟨P, 4, none⟩) hb3).trans p4
  have pf3' := (World.frozen?_of_block (a := ⟨P, 3, none⟩) hb3).trans pf3
  have HM3 := Lib.hid hM3
  clear hM3 hgd hb3 hown3 hgrow3 hloc3 hlt3 p3 p4 pf3 HOWN HM2 HB2 hmm hkw hU0
  go_upto_region 3 with fail
  obtain ⟨W4, hW4⟩ : ∃ W4, W3.setCell ⟨P, 3, none⟩ (.slice (some ⟨g, 0, none⟩) (s.way.length + 1) cap) = W4 := ⟨_, rfl⟩
  rw [hW4]
  have hM4 := HM3.out
  have e4 : (caR s.way).len = s.way.length := rfl
  rw [e4, hW4] at hM4
  clear hW4 p3' p4' pf3' HM3 e4
  obtain ⟨-, -, -, -, p4, -, -, pf⟩ := hM4.cells
  have pf4 := pf 4
  have hmm := hM4.mm
  have u1 : updF U 0 (.slice (some ⟨g, 0, none⟩) (s.way.length + 1) cap) 1 = U 1 := updF_else _ _ (by decide)
  have hown : OwnD W4 K (U 1) (caR s.op) := by have := hM4.pool.own 1 (by omega); rw [hM4.t1, u1] at this; exact this
  rw [u1] at p4
  have HM4 := Lib.hid hM4
  have HU1 := Lib.hid u1
  have HOWN : Hid (W4.ownsRow K 3 1 (U 1) s.op.length (natV s.op)) := Lib.hid hown
  have hkw := hM4.kw
  obtain ⟨A1, c1, hU1⟩ := own_sliceL hown
  clear hM4 hown pf u1
  rw [hU1] at p4
  go_wp2_with (at_builtin; refine wpList_append_lies _ rfl (.tmp 45) (.tmp 47) 34 rfl K 3 i0 (.int .i64 0) 1 8 Try.underlying34 HI.out.1 HI.out.2.1 HI.out.2.2.1 HI.out.2.2.2 rfl (by decide) _ _ _ rfl (by have := HOWN.out.alloc (.cells #[.int .i64 (f : Int)] 3); rw [hU1] at this; exact this) ⟨W4.heap.size, 0, none⟩ 1 1 [.int .i64 (f : Int)] rfl rfl ?k1 ?k2 ?k0 ?k3 ?k4 ?k5 (W4.heap.size + 1) ?k6 ?_)
  case k2 => rfl
  case k3 => unfold maxLen; omega
  case k4 => omega
  case k5 => omega
  intro g' cap' W5 hown5 hgrow5 hloc5 hlt5
  have hgd : GroD W4 W5 (updF U 0 (.slice (some ⟨g, 0, none⟩) (s.way.length + 1) cap) 1) (.slice (some ⟨g', 0, none⟩) ((caR s.op).len + 1) cap') := by rw [HU1.out, hU1]; exact groD_append hgrow5 hloc5
  have hb5 : W5.heap[P]? = W4.heap[P]? := (HM4.out.rows_ (by omega) hgd).1 P HM4.out.nb.2.2.2.2
  have hM5 := HM4.out.open_ (l := s.op ++ [f]) hgd (by
    show W5.ownsRow K 3 1 _ (s.op ++ [f]).length (natV (s.op ++ [f]))
    rw [natV_snoc, List.length_append]; exact hown5)
  have p4' := (World.cell?_of_block (a := ⟨P, 4, none⟩) hb5).trans p4
  have pf4' := (World.frozen?_of_block (a := ⟨P, 4, none⟩) hb5).trans pf4
  have HM5 := Lib.hid hM5
  clear hM5 hgd hb5 hown5 hgrow5 hloc5 hlt5 p4 pf4 HOWN HM4 hmm hkw hU1
  go_wp2_with fail
  go_end0
  have h8 := HV.out
  subst h8
  have h9 := HMQ.out
  subst h9
  exact ⟨rfl, _, _, _, HM5.out⟩
end Go.Proofs.Ytdfiflbkamhchaa

/- The library's sorts at this program: their texts are those that the library's contracts speak of. -/
namespace Go.Proofs.Ytdfiflbkamhchaa
open Go.Shelf
def srt_ren : Go.Shelf.Ren := ⟨fun | 189 => 33 | 125 => 48 | 257 => 47 | 128 => 78 | 129 => 79 | 294 => 69 | 295 => 70 | 296 => 71 | 297 => 72 | 298 => 73 | 299 => 74 | 216 => 75 | 300 => 76 | 301 => 77 | 328 => 93 | 329 => 94 | 330 => 95 | 331 => 96 | 332 => 97 | 215 => 82 | 343 => 116 | n => n, fun | 28 => 34 | 3 => 3 | 46 => 104 | 0 => 0 | 51 => 130 | 53 => 132 | 4 => 4 | 183 => 123 | 182 => 122 | 131 => 127 | 5 => 5 | 9 => 9 | 218 => 144 | 222 => 148 | 228 => 166 | 229 => 167 | n => n, fun | n => n⟩
theorem srt : Go.Proofs.Lays.n189 Try.prog srt_ren := {
  mixed := by kernel_rfl,
  f125 := Try.func48.trans (congrArg some (by kernel_rfl)),
  f128 := Try.func78.trans (congrArg some (by kernel_rfl)),
  f129 := Try.func79.trans (congrArg some (by kernel_rfl)),
  f189 := Try.func33.trans (congrArg some (by kernel_rfl)),
  f215 := Try.func82.trans (congrArg some (by kernel_rfl)),
  f216 := Try.func75.trans (congrArg some (by kernel_rfl)),
  f257 := Try.func47.trans (congrArg some (by kernel_rfl)),
  f294 := Try.func69.trans (congrArg some (by kernel_rfl)),
  f295 := Try.func70.trans (congrArg some (by kernel_rfl)),
  f296 := Try.func71.trans (congrArg some (by kernel_rfl)),
  f297 := Try.func72.trans (congrArg some (by kernel_rfl)),
  f298 := Try.func73.trans (congrArg some (by kernel_rfl)),
  f299 := Try.func74.trans (congrArg some (by kernel_rfl)),
  f300 := Try.func76.trans (congrArg some (by kernel_rfl)),
  f301 := Try.func77.trans (congrArg some (by kernel_rfl)),
  f328 := Try.func93.trans (congrArg some (by kernel_rfl)),
  f329 := Try.func94.trans (congrArg some (by kernel_rfl)),
  f330 := Try.func95.trans (congrArg some (by kernel_rfl)),
  f331 := Try.func96.trans (congrArg some (by kernel_rfl)),
  f332 := Try.func97.trans (congrArg some (by kernel_rfl)),
  f343 := Try.func116.trans (congrArg some (by kernel_rfl)),
  t0 := Try.underlying0,
  a0 := Try.isAgg0,
  z0 := Try.sizeOf0,
  v0 := Try.zeroValue0,
  t3 := Try.underlying3,
  a3 := Try.isAgg3,
  z3 := Try.sizeOf3,
  v3 := Try.zeroValue3,
  t4 := Try.underlying4,
  a4 := Try.isAgg4,
  z4 := Try.sizeOf4,
  v4 := Try.zeroValue4,
  t5 := Try.underlying5,
  a5 := Try.isAgg5,
  z5 := Try.sizeOf5,
  v5 := Try.zeroValue5,
  t9 := Try.underlying9,
  a9 := Try.isAgg9,
  z9 := Try.sizeOf9,
  v9 := Try.zeroValue9,
  t28 := Try.underlying34,
  a28 := Try.isAgg34,
  z28 := Try.sizeOf34,
  v28 := Try.zeroValue34,
  t46 := Try.underlying104,
  a46 := Try.isAgg104,
  z46 := Try.sizeOf104,
  v46 := Try.zeroValue104,
  t51 := Try.underlying130,
  a51 := Try.isAgg130,
  z51 := Try.sizeOf130,
  v51 := Try.zeroValue130,
  t53 := Try.underlying132,
  a53 := Try.isAgg132,
  z53 := Try.sizeOf132,
  v53 := Try.zeroValue132,
  t131 := Try.underlying127,
  a131 := Try.isAgg127,
  z131 := Try.sizeOf127,
  v131 := Try.zeroValue127,
  t182 := Try.underlying122,
  a182 := Try.isAgg122,
  z182 := Try.sizeOf122,
  v182 := Try.zeroValue122,
  t183 := Try.underlying123,
  a183 := Try.isAgg123,
  z183 := Try.sizeOf123,
  v183 := Try.zeroValue123,
  t218 := Try.underlying144,
  a218 := Try.isAgg144,
  z218 := Try.sizeOf144,
  v218 := Try.zeroValue144,
  t222 := Try.underlying148,
  a222 := Try.isAgg148,
  z222 := Try.sizeOf148,
  v222 := Try.zeroValue148,
  t228 := Try.underlying166,
  a228 := Try.isAgg166,
  z228 := Try.sizeOf166,
  v228 := Try.zeroValue166,
  t229 := Try.underlying167,
  a229 := Try.isAgg167,
  z229 := Try.sizeOf167,
  v229 := Try.zeroValue167 }
def sfn_ren : Go.Shelf.Ren := ⟨fun | 6 => 52 | 15 => 48 | 14 => 81 | 28 => 78 | 29 => 79 | 20 => 99 | 21 => 100 | 22 => 101 | 23 => 102 | 24 => 103 | 25 => 104 | 26 => 105 | 27 => 106 | 46 => 118 | 47 => 94 | 48 => 95 | 49 => 119 | 50 => 120 | 57 => 130 | n => n, fun | 22 => 54 | 24 => 34 | 25 => 111 | 3 => 3 | 39 => 104 | 0 => 0 | 53 => 130 | 55 => 132 | 4 => 4 | 46 => 123 | 45 => 122 | 50 => 127 | 5 => 5 | 9 => 9 | 66 => 144 | 70 => 148 | 76 => 166 | 77 => 167 | n => n, fun | n => n⟩
theorem sfn : Go.Proofs.SlLaysF.n6 Try.prog sfn_ren := {
  mixed := by kernel_rfl,
  f6 := ⟨Try.f52.name, by decide, Try.func52.trans (congrArg some (by kernel_rfl))⟩,
  f14 := ⟨Try.f81.name, by decide, Try.func81.trans (congrArg some (by kernel_rfl))⟩,
  f15 := Try.func48.trans (congrArg some (by kernel_rfl)),
  f20 := ⟨Try.f99.name, by decide, Try.func99.trans (congrArg some (by kernel_rfl))⟩,
  f21 := ⟨Try.f100.name, by decide, Try.func100.trans (congrArg some (by kernel_rfl))⟩,
  f22 := ⟨Try.f101.name, by decide, Try.func101.trans (congrArg some (by kernel_rfl))⟩,
  f23 := ⟨Try.f102.name, by decide, Try.func102.trans (congrArg some (by kernel_rfl))⟩,
  f24 := ⟨Try.f103.name, by decide, Try.func103.trans (congrArg some (by kernel_rfl))⟩,
  f25 := ⟨Try.f104.name, by decide, Try.func104.trans (congrArg some (by kernel_rfl))⟩,
  f26 := ⟨Try.f105.name, by decide, Try.func105.trans (congrArg some (by kernel_rfl))⟩,
  f27 := ⟨Try.f106.name, by decide, Try.func106.trans (congrArg some (by kernel_rfl))⟩,
  f28 := Try.func78.trans (congrArg some (by kernel_rfl)),
  f29 := Try.func79.trans (congrArg some (by kernel_rfl)),
  f46 := ⟨Try.f118.name, by decide, Try.func118.trans (congrArg some (by kernel_rfl))⟩,
  f47 := Try.func94.trans (congrArg some (by kernel_rfl)),
  f48 := Try.func95.trans (congrArg some (by kernel_rfl)),
  f49 := ⟨Try.f119.name, by decide, Try.func119.trans (congrArg some (by kernel_rfl))⟩,
  f50 := ⟨Try.f120.name, by decide, Try.func120.trans (congrArg some (by kernel_rfl))⟩,
  f57 := ⟨Try.f130.name, by decide, Try.func130.trans (congrArg some (by kernel_rfl))⟩,
  t0 := Try.underlying0,
  a0 := Try.isAgg0,
  z0 := Try.sizeOf0,
  v0 := Try.zeroValue0,
  t3 := Try.underlying3,
  a3 := Try.isAgg3,
  z3 := Try.sizeOf3,
  v3 := Try.zeroValue3,
  t4 := Try.underlying4,
  a4 := Try.isAgg4,
  z4 := Try.sizeOf4,
  v4 := Try.zeroValue4,
  t5 := Try.underlying5,
  a5 := Try.isAgg5,
  z5 := Try.sizeOf5,
  v5 := Try.zeroValue5,
  t9 := Try.underlying9,
  a9 := Try.isAgg9,
  z9 := Try.sizeOf9,
  v9 := Try.zeroValue9,
  t22 := Try.underlying54,
  a22 := Try.isAgg54,
  z22 := Try.sizeOf54,
  v22 := Try.zeroValue54,
  a24 := Try.isAgg34,
  z24 := Try.sizeOf34,
  t25 := Try.underlying111,
  a25 := Try.isAgg111,
  z25 := Try.sizeOf111,
  v25 := Try.zeroValue111,
  t39 := Try.underlying104,
  a39 := Try.isAgg104,
  z39 := Try.sizeOf104,
  v39 := Try.zeroValue104,
  t45 := Try.underlying122,
  a45 := Try.isAgg122,
  z45 := Try.sizeOf122,
  v45 := Try.zeroValue122,
  t46 := Try.underlying123,
  a46 := Try.isAgg123,
  z46 := Try.sizeOf123,
  v46 := Try.zeroValue123,
  t50 := Try.underlying127,
  a50 := Try.isAgg127,
  z50 := Try.sizeOf127,
  v50 := Try.zeroValue127,
  t53 := Try.underlying130,
  a53 := Try.isAgg130,
  z53 := Try.sizeOf130,
  v53 := Try.zeroValue130,
  t55 := Try.underlying132,
  a55 := Try.isAgg132,
  z55 := Try.sizeOf132,
  v55 := Try.zeroValue132,
  t66 := Try.underlying144,
  a66 := Try.isAgg144,
  z66 := Try.sizeOf144,
  v66 := Try.zeroValue144,
  t70 := Try.underlying148,
  a70 := Try.isAgg148,
  z70 := Try.sizeOf148,
  v70 := Try.zeroValue148,
  t76 := Try.underlying166,
  a76 := Try.isAgg166,
  z76 := Try.sizeOf166,
  v76 := Try.zeroValue166,
  t77 := Try.underlying167,
  a77 := Try.isAgg167,
  z77 := Try.sizeOf167,
  v77 := Try.zeroValue167 }
end Go.Proofs.Ytdfiflbkamhchaa

/- slices.Sort of a list of numbers of the caller's own. -/
namespace Go.Proofs.Ytdfiflbkamhchaa
open Go.ChangeShapes Go.WideShapes Go.RowKit Go.Deep
set_option linter.unusedVariables false

theorem bitsLen_any (k : Int) (w : World) (h0 : 0 ≤ k) (h1 : k ≤ 18446744073709551615) : Calls Try.prog 48 #[.int .u64 k] w fun e w' => e = .returned (.int .i64 (Lib.bitLen k.toNat : Nat)) ∧ w' = w :=
  Any.bits_Len (SlLaysF0.n15.bits (P := Try.prog) (ρ := sfn_ren) { sfn with }) k w h0 h1
theorem insSort_nil (p : Option Addr) (cap : Nat) (w : World) :
    Calls Try.prog 69 #[.slice p 0 cap, .int .i64 0, .int .i64 0] w fun e w' => e = .returned (.tuple #[]) ∧ w' = w := by
  go_enter Try.func69, Try.ntmps69
  go_wp2
  refine wp_loop_rounds 1 ?_
  rw [rounds_succ]
  go_wp2
  go_end0
  exact ⟨rfl, rfl⟩
set_option maxRecDepth 100000 in
theorem pdqSort_nil (p : Option Addr) (cap : Nat) (w : World) :
    Calls Try.prog 47 #[.slice p 0 cap, .int .i64 0, .int .i64 0, .int .i64 0] w fun e w' => e = .returned (.tuple #[]) ∧ w' = w := by
  go_enter Try.func47, Try.ntmps47
  go_wp2
  refine wp_loop_rounds 1 ?_
  rw [rounds_succ]
  go_wp2_with (first | (go_at_call 69; refine (insSort_nil p cap _).mono ?_; rintro e w' ⟨rfl, rfl⟩))
  refine bodyPost_ret (results_none rfl _ _ _) rfl ?_
  exact ⟨rfl, rfl⟩
set_option maxRecDepth 100000 in
theorem sort_nil (p : Option Addr) (cap : Nat) (w : World) :
    Calls Try.prog 33 #[.slice p 0 cap] w fun e w' => e = .returned (.tuple #[]) ∧ w' = w := by
  have hLen : ∀ w, Calls Try.prog 48 #[.int .u64 0] w fun e w' => e = .returned (.int .i64 0) ∧ w' = w := fun w => bitsLen_any 0 w (by omega) (by omega)
  go_enter Try.func33, Try.ntmps33
  go_wp2_with (first
    | (go_at_call 48; refine (hLen _).mono ?_; rintro e w' ⟨rfl, rfl⟩)
    | (go_at_call 47; refine (pdqSort_nil p cap _).mono ?_; rintro e w' ⟨rfl, rfl⟩))
  go_end0
  exact ⟨rfl, rfl⟩

/-- A row of the caller's own, some of whose cells were written over, in a world that has grown. -/
theorem own_put {α : Type} [Inhabited α] {enc : α → Value} {w : World} {K g n cap : Nat} {e : TypeId} {xs : List Value} {d : Array α} {m : Nat} {os : Array Obj} (h : w.ownsRow K e 1 (.slice (some ⟨g, 0, none⟩) n cap) n xs) (hd : d.size = n) :
    (Sort.grow (Sort.putRow enc (Sort.ahead w m) g 0 d) os).ownsRow K e 1 (.slice (some ⟨g, 0, none⟩) n cap) n (d.toList.map enc) ∧ GroD w (Sort.grow (Sort.putRow enc (Sort.ahead w m) g 0 d) os) (.slice (some ⟨g, 0, none⟩) n cap) (.slice (some ⟨g, 0, none⟩) n cap) := by
  obtain ⟨h1, h2⟩ := h
  rcases h2 with ⟨h0, _⟩ | ⟨g', cap', cur, hv, hg, hh, hn, hcap, hsz, ht⟩
  · cases h0
  cases hv
  have hlt : g < w.heap.size := (Array.getElem?_eq_some_iff.1 hh).1
  have hgr : ∀ y, y < w.heap.size → (Sort.grow (Sort.putRow enc (Sort.ahead w m) g 0 d) os).heap[y]? = (Sort.putRow enc (Sort.ahead w m) g 0 d).heap[y]? := fun y hy => Sort.heap_grow_old _ _ (by simpa using hy)
  have hold : ∀ y, y < w.heap.size → y ≠ g → (Sort.grow (Sort.putRow enc (Sort.ahead w m) g 0 d) os).heap[y]? = w.heap[y]? := fun y hy hyg => by
    rw [hgr y hy]
    simp [Sort.putRow, Sort.mapBlock, Array.getElem?_modify, Ne.symm hyg]
  have hnew : (Sort.grow (Sort.putRow enc (Sort.ahead w m) g 0 d) os).heap[g]? = some (.cells (Sort.putCells enc 0 d cur) e (0, 0)) := by
    rw [hgr g hlt]
    simp [Sort.putRow, Sort.mapBlock, Array.getElem?_modify, hh, Sort.onCells]
  have hps : (Sort.putCells enc 0 d cur).size = cur.size := by simp [Sort.putCells]
  refine ⟨⟨by simp [hd], .inr ⟨g, cap, _, rfl, hg, hnew, hn, hcap, by rw [hps, hsz], ?_⟩⟩, ⟨rfl, rfl, rfl, by simp, fun y hy hv => hold y hy (fun e => hv (by rw [e]; rfl)), fun y hy => .inl hy⟩⟩
  apply List.ext_getElem?
  intro i
  rw [List.getElem?_take]
  by_cases hi : i < n * 1
  · rw [if_pos hi]
    have hid : i < d.size := by omega
    have hic : i < cur.size := by rw [hsz]; omega
    have hic2 : i < (Sort.putCells enc 0 d cur).size := by omega
    rw [Array.getElem?_toList, Array.getElem?_eq_getElem hic2, List.getElem?_map, Array.getElem?_toList, Array.getElem?_eq_getElem hid]
    simp [Sort.putCells, hid]
  · rw [if_neg hi, List.getElem?_eq_none (by simp; omega)]
theorem own_holds {α : Type} [Inhabited α] {enc : α → Value} {w : World} {K g n cap : Nat} {e : TypeId} {d : Array α} (h : w.ownsRow K e 1 (.slice (some ⟨g, 0, none⟩) n cap) n (d.toList.map enc)) : Sort.Holds enc w g 0 d := by
  intro j hj
  have hl := h.1
  simp at hl
  refine ⟨?_, by rw [Nat.zero_add]; exact h.frozenAt j⟩
  rw [Nat.zero_add, h.cellAt j (by omega)]
  simp [hj]

theorem natI_sort (l : List Nat) : (natI l).mergeSort (fun x y => decide (x ≤ y)) = natI (sortN l) := by
  unfold natI sortN
  refine (List.map_mergeSort ?_).symm
  intro a _ b _
  simp
theorem sortInts_any {w : World} {K : Nat} {v : Value} {l : List Nat} (h : w.ownsRow K 3 1 v l.length (natV l)) (hl : l.length ≤ 1000) (hb : ∀ x ∈ l, x ≤ 1000) :
    Calls Try.prog 33 #[v] w fun e w' => e = .returned (.tuple #[]) ∧ GroD w w' v v ∧ w'.ownsRow K 3 1 v l.length (natV (sortN l)) := by
  have h0 := h
  rcases h.2 with ⟨rfl, hz⟩ | ⟨g, cap, cur, rfl, -⟩
  · obtain rfl := List.length_eq_zero_iff.1 hz
    refine (sort_nil none 0 w).mono ?_
    rintro e w' ⟨rfl, rfl⟩
    have es : sortN [] = [] := by unfold sortN; simp
    exact ⟨rfl, ⟨rfl, rfl, rfl, Nat.le_refl _, fun _ _ _ => rfl, fun _ h => .inl h⟩, by rw [es]; exact h0⟩
  · have hown : w.ownsRow K 3 1 (.slice (some ⟨g, 0, none⟩) l.length cap) l.length ((natI l).toArray.toList.map (Value.int .i64)) := by rw [List.toList_toArray, natI_v]; exact h0
    have hlt := (h0.lt g rfl).2
    have hc : ∀ D, _ := fun D => AnyS.slices_Sort_int_in srt D g 0 cap (natI l) w (own_holds hown) hlt (by rw [natI_len]; omega)
    have hc2 := calls_of_every_depth hc
    rw [natI_len] at hc2
    refine hc2.mono ?_
    rintro e w' ⟨rfl, m, os, rfl⟩
    rw [natI_sort]
    have hp := own_put (enc := Value.int .i64) (d := (natI (sortN l)).toArray) (m := m) (os := os) hown (by simp [natI_len, sortN_len])
    refine ⟨rfl, hp.2, ?_⟩
    have h3 := hp.1
    rw [List.toList_toArray, natI_v] at h3
    exact h3
end Go.Proofs.Ytdfiflbkamhchaa

/- slices.Clone of a list of numbers. -/
namespace Go.Proofs.Ytdfiflbkamhchaa
open Go.ChangeShapes Go.WideShapes Go.RowKit Go.Deep
set_option linter.unusedVariables false

/-- An append whose run is known. -/
theorem wpList_append_runsC {ops : Array Oper} {rest : List Oper} {o : Oper} {a : Act} {w : World} {Q : Exit → Act → World → Prop} (hgd : o.guard = none) (s x : Operand) (t t' : TypeId)
    (ho : o.op = .call { callee := .builtin .append, args := #[s, x], argTypes := #[t, t'] }) (vs vx : Value) (hs : a.eval s = vs) (hx : a.eval x = vx) {v' : Value} {w' : World}
    (hr : (Builtin.append_ #[t, t'] o.type #[vs, vx]).run Try.prog w = .ok v' w')
    (h : wpList Try.prog ops Q rest (a.put o.dst v') w') : wpList Try.prog ops Q (o :: rest) a w := by
  refine wpList_plain hgd fun K hK => ?_
  unfold Oper.wp execOp
  simp only [ho, resolve, invoke, builtin, Sem.run_bind, Sem.run_pure, Result.andThen_ok, List.map_toArray, List.map_cons, List.map_nil, hs, hx, hr]
  exact hK _ _ h

/-- What slices.Clone tells of a list of numbers. -/
def ToldCl (xs : List Int) (w : World) (e : Ending) (w' : World) : Prop := (∃ v, e = .returned v ∧ w'.ownsRow w.heap.size 3 1 v xs.length (xs.map (Value.int .i64))) ∧ Below w.heap.size w w'

set_option maxRecDepth 100000 in
theorem cloneIntsC_any (xs : List Int) (v : Value) (w : World) (hv : VS w 1 RInt v xs) (hn : xs.length ≤ 1000000) : Calls Try.prog 117 #[v] w (ToldCl xs w) := by
  obtain ⟨A, c, rfl, hs⟩ := hv
  have heq := Lib.run_eql_slice_nil (P := Try.prog) w 34 3 A xs.length c 0 0 Try.underlying34
  cases A with
  | none =>
    obtain rfl : xs = [] := by
      rcases Nat.eq_zero_or_pos xs.length with h0 | h0
      · exact List.length_eq_zero_iff.1 h0
      · obtain ⟨b, o, e, _⟩ := hs.2.2 h0; cases e
    obtain rfl : c = 0 := hs.2.1.2 rfl
    clear hs heq
    have heq := Lib.run_eql_slice_nil (P := Try.prog) w 34 3 none 0 0 0 0 Try.underlying34
    go_enter Try.func117, Try.ntmps117
    go_wp2_with (simp only [heq, Option.isNone])
    go_ret
    exact ⟨⟨_, rfl, World.ownsRow_nil _ _ _ _⟩, Below.refl _ _⟩
  | some ad =>
    obtain ⟨v', w', hr, -, hg, hown, -⟩ := run_append_copy 34 (w := w.alloc (.cells #[] 3)) (heap_alloc_new w (.cells #[] 3)) (SInts.keep (kept_alloc w _) hs) rfl hn
    have hB : Below w.heap.size w w' := ((Below.refl w.heap.size w).alloc (Nat.le_refl _) (.cells #[] 3)).grown hg (by simp) (fun k hk => by have := Option.some.inj hk; omega)
    have HF := Lib.hid (And.intro hown hB)
    clear hown hB hg hs
    go_enter Try.func117, Try.ntmps117
    go_wp2_with (first | (at_builtin; refine wpList_append_runsC rfl (.tmp 5) (.tmp 6) 34 34 rfl _ _ rfl rfl hr ?_) | simp only [heq, Option.isNone])
    go_ret
    exact ⟨⟨v', rfl, HF.out.1⟩, HF.out.2⟩

end Go.Proofs.Ytdfiflbkamhchaa

/- The program's ringFrom. -/
namespace Go.Proofs.Ytdfiflbkamhchaa
open Go.ChangeShapes Go.WideShapes Go.RowKit Go.Deep
set_option linter.unusedVariables false

theorem size_intC (w : World) : (sizeOf (Try.prog.elem 34)).run Try.prog w = .ok 1 w := by kernel_rfl
theorem elem_intsC : Try.prog.underlying 34 = some (.slice (Try.prog.elem 34)) := by kernel_rfl
theorem own_take {w : World} {K n k g cap : Nat} {e : TypeId} {xs : List Value} (h : w.ownsRow K e 1 (.slice (some ⟨g, 0, none⟩) n cap) n xs) (hk : k ≤ n) : w.ownsRow K e 1 (.slice (some ⟨g, 0, none⟩) k cap) k (xs.take k) := by
  obtain ⟨h1, h2⟩ := h
  rcases h2 with ⟨h0, _⟩ | ⟨g', cap', cur, hv, hg, hh, hn, hcap, hsz, ht⟩
  · cases h0
  · cases hv
    refine ⟨by rw [List.length_take]; omega, .inr ⟨g, cap, cur, rfl, hg, hh, by omega, hcap, hsz, ?_⟩⟩
    rw [← ht, List.take_take]
    congr 1; omega
theorem natV_at {l : List Nat} {i : Nat} {x : Nat} (h : l[i]? = some x) : (natV l)[i]? = some (.int .i64 (x : Int)) := by unfold natV; rw [List.getElem?_map, h]; rfl
/-- The rest of a row of the caller's own, as a list of numbers. -/
theorem own_drop {w : World} {K g cap : Nat} {l : List Nat} (h : w.ownsRow K 3 1 (.slice (some ⟨g, 0, none⟩) l.length cap) l.length (natV l)) {k o : Nat} (hk : k ≤ l.length) (ho : k < l.length → o = k) (hb : ∀ x ∈ l, x ≤ 1000) :
    SL w 1 RInt (some ⟨g, o, none⟩) (cap - k) (natI (l.drop k)) := by
  have h0 := h
  obtain ⟨h1, h2⟩ := h
  rcases h2 with ⟨h0, _⟩ | ⟨g', cap', cur, hv, hg, hh, hn, hcap, hsz, ht⟩
  · cases h0
  · cases hv
    refine ⟨by rw [natI_len, List.length_drop]; omega, ⟨by omega, fun e => by cases e⟩, fun hp => ⟨g, o, rfl, fun i x hi => ?_⟩⟩
    have hlt : k < l.length := by rw [natI_len, List.length_drop] at hp; omega
    rw [ho hlt]
    unfold natI at hi
    rw [List.getElem?_map] at hi
    obtain ⟨y, hy, rfl⟩ := Option.map_eq_some_iff.1 hi
    rw [List.getElem?_drop] at hy
    have hyl := (List.getElem?_eq_some_iff.1 hy).1
    refine ⟨?_, by have := hb y (List.mem_of_getElem? hy); unfold I64; omega⟩
    rw [Nat.mul_one, h0.cellAt (k + i) (by rw [Nat.mul_one]; exact hyl)]
    exact natV_at hy
theorem run_lo (W : World) (g len cap k : Nat) (hk : k ≤ len) (hlc : len ≤ cap) : (Instr.slice 34 (.slice (some ⟨g, 0, none⟩) len cap) (some (.int .i64 (k : Int))) none none).run Try.prog W = .ok (.slice (some ⟨g, if cap = k then 0 else k, none⟩) (len - k) (cap - k)) W := by
  rw [run_slice_l W 34 (some ⟨g, 0, none⟩) len cap elem_intsC .i64 k (by omega) (by omega), size_intC]
  by_cases e : cap = k
  · simp [Result.andThen, sliced, e]
  · have e2 : ¬ ((cap : Nat) = (k : Int).toNat) := by omega
    simp [Result.andThen, sliced, e, Addr.add]
    try omega
theorem run_hi (W : World) (g len cap k : Nat) (hk : k ≤ cap) : (Instr.slice 34 (.slice (some ⟨g, 0, none⟩) len cap) none (some (.int .i64 (k : Int))) none).run Try.prog W = .ok (.slice (some ⟨g, 0, none⟩) k cap) W := by
  rw [run_slice_h W 34 (some ⟨g, 0, none⟩) len cap elem_intsC .i64 k (by omega) (by omega), size_intC]
  by_cases e : cap = 0 <;> simp [Result.andThen, sliced, e, Addr.add]
theorem Try.underlyingC54 : Try.prog.underlying 54 = some (.slice 34) := by kernel_rfl
/-- The last ones of what is open are marked. -/
def mkF (F : Nat → Nat) (l : List Nat) : Nat → Nat := fun x => if x ∈ l then topN else F x
theorem mkF_next (F : Nat → Nat) (l : List Nat) (x : Nat) : mkF F (l ++ [x]) = updN (mkF F l) x topN := by
  funext y
  unfold mkF updN
  by_cases e : y = x
  · subst e; simp
  · simp [e]

set_option maxRecDepth 100000 in
set_option maxHeartbeats 8000000 in
theorem ringFrom_any {Wa : World} {H n K L C F P cl : Nat} {W : World} {lv : Nat → Value} {U : Nat → Value} {T : Nat → RowD} {s : TsS} {o p : List Nat} {f : Nat} (h : TsM Wa H n K L C F P cl W lv (3 + s.rings.length) U T s)
    (ho : s.op = o ++ f :: p) (hfp : f ∉ p) (hb : ∀ x ∈ s.op, x < n) (hol : s.op.length ≤ 1000) (hrl : s.rings.length ≤ 1000) (hn : n ≤ 1000) (hf : f < n) :
    Calls Try.prog 98 #[.pointer (some ⟨P, 0, none⟩), .int .i64 (f : Int)] W (ToldT Wa H n K L C F P cl (ringS s o (f :: p))) := by
  obtain ⟨i0, hi, hz0, hz1, hz2⟩ := info_parts Try.info34
  have HI := Lib.hid (And.intro hi (And.intro hz0 (And.intro hz1 hz2)))
  clear hi hz0 hz1 hz2
  have hx1 : OwnD W K (U 1) (caR s.op) := by have := h.pool.own 1 (by omega); rw [h.t1] at this; exact this
  have hlen : s.op.length = o.length + 1 + p.length := by rw [ho]; simp; omega
  obtain ⟨g, cap, hU1⟩ : ∃ g cap, U 1 = .slice (some ⟨g, 0, none⟩) s.op.length cap := by
    rcases hx1.2 with ⟨_, h0⟩ | ⟨g, c, cur, e, -⟩
    · have : s.op.length = 0 := h0; omega
    · exact ⟨g, c, e⟩
  have hown : W.ownsRow K 3 1 (.slice (some ⟨g, 0, none⟩) s.op.length cap) s.op.length (natV s.op) := by rw [← hU1]; exact hx1
  have hcap : s.op.length ≤ cap ∧ cap ≤ maxLen := by
    rcases hown.2 with ⟨h0, _⟩ | ⟨g', c', cur, e, -, -, h1, h2, -⟩
    · cases h0
    · cases e; exact ⟨h1, h2⟩
  obtain ⟨lo, hlo⟩ : ∃ lo, lo = s.op.length := ⟨_, rfl⟩
  obtain ⟨a, ha⟩ : ∃ a, a = o.length := ⟨_, rfl⟩
  have hat : ∀ j, j < lo → ∃ x : Nat, s.op[j]? = some x ∧ W.cell? ⟨g, j, none⟩ = some (.int .i64 (x : Int)) := fun j hj => by
    have hj' : j < s.op.length := by omega
    refine ⟨s.op[j], List.getElem?_eq_getElem hj', ?_⟩
    have h1 := hown.cellAt j (by omega)
    rw [h1]; exact natV_at (List.getElem?_eq_getElem hj')
  have hxa : s.op[a]? = some f := by rw [ho, ha, List.getElem?_append_right (Nat.le_refl _)]; simp
  have hxg : ∀ j x, a < j → s.op[j]? = some x → x ≠ f := fun j x hj hx e => by
    subst e
    rw [ho, List.getElem?_append_right (by omega)] at hx
    obtain ⟨d, hd⟩ : ∃ d, j - o.length = d + 1 := ⟨j - o.length - 1, by omega⟩
    rw [hd, List.getElem?_cons_succ] at hx
    exact hfp (List.mem_of_getElem? hx)
  obtain ⟨p0, p1, p2, p3, p4, p5, p6, pf⟩ := h.cells
  rw [hU1, ← hlo] at p4
  have HM := Lib.hid h
  have HO := Lib.hid ho
  have HB := Lib.hid hb
  have HOW := Lib.hid hown
  have HAT := Lib.hid hat
  have HXA := Lib.hid hxa
  have HXG := Lib.hid hxg
  have HU1 := Lib.hid hU1
  have HLO := Lib.hid hlo
  have HA := Lib.hid ha
  have hal : a < lo := by omega
  have hlo1 : lo ≤ 1000 := by omega
  have hcap1 : lo ≤ cap := by omega
  have hcap2 := hcap.2
  have HLEN := Lib.hid hlen
  clear h ho hb hown hat hxa hxg hU1 hlo ha hlen hx1 p0 p1 p2 p3 p5 p6 pf hcap hol
  go_enter Try.func98, Try.ntmps98
  go_upto_region 1 with fail
  go_loopw [4] (fun i wr => ∃ j : Nat, a ≤ j ∧ j < lo ∧ i = .int .i64 (j : Int) ∧ wr = W) (fun i _ => (intOf i).toNat)
  case atStart => exact ⟨lo - 1, by omega, by omega, by go_num, rfl⟩
  case round =>
    obtain ⟨j, hja, hjl, rfl, rfl⟩ := hrel
    obtain ⟨x, hx, hc⟩ := HAT.out j hjl
    have hj0 : (0 : Int) ≤ j := by omega
    have hj1 : (j : Int) < lo := by omega
    by_cases e : x = f
    · obtain rfl : j = a := by
        rcases Nat.lt_or_ge a j with k | k
        · exact absurd e (HXG.out j x k hx)
        · omega
      subst e
      have hd : ((x : Int) != (x : Int)) = false := by simp
      clear hx
      go_upto_region 3 with fail
      obtain ⟨oo, hoo⟩ : ∃ oo, oo = if cap = j then 0 else j := ⟨_, rfl⟩
      have hrun : ∀ W, (Instr.slice 34 (.slice (some ⟨g, 0, none⟩) lo cap) (some (.int .i64 (j : Int))) none none).run Try.prog W = .ok (.slice (some ⟨g, oo, none⟩) (lo - j) (cap - j)) W := fun W => by rw [hoo]; exact run_lo W g lo cap j (by omega) (by omega)
      have hrun2 : ∀ W, (Instr.slice 34 (.slice (some ⟨g, 0, none⟩) lo cap) none (some (.int .i64 (j : Int))) none).run Try.prog W = .ok (.slice (some ⟨g, 0, none⟩) j cap) W := fun W => run_hi W g lo cap j (by omega)
      have hdr : s.op.drop j = x :: p := by rw [HO.out, HA.out]; simp
      have hvs : VS wr 1 RInt (.slice (some ⟨g, oo, none⟩) (lo - j) (cap - j)) (natI (x :: p)) := by
        refine ⟨some ⟨g, oo, none⟩, cap - j, ?_, ?_⟩
        · rw [natI_len, ← hdr, List.length_drop, HLO.out]
        · rw [← hdr]
          exact own_drop HOW.out (by have := HLO.out; omega) (fun hk => by rw [hoo, if_neg (by have := HLO.out; omega)]) (fun y hy => by have := HB.out y hy; omega)
      have hpl : (natI (x :: p)).length ≤ 1000000 := by rw [natI_len]; have := HLEN.out; have := HLO.out; simp; omega
      have HCL := Lib.hid (cloneIntsC_any _ _ _ hvs hpl)
      have HOO := Lib.hid hoo
      clear hvs hpl hdr hoo hc hj0 hj1
      go_upto_region 4 with (go_at_call 117; refine HCL.out.mono ?_; rintro e w1 ⟨⟨v1, rfl, hown1⟩, hb1⟩)
      obtain ⟨U1, T1, hM1, hu1, hu3, ht3⟩ : ∃ U1 T1, TsM Wa H n K L C F P cl w1 lv (3 + s.rings.length + 1) U1 T1 s ∧ U1 1 = .slice (some ⟨g, 0, none⟩) lo cap ∧ U1 (3 + s.rings.length) = v1 ∧ T1 (3 + s.rings.length) = caR (x :: p) := by
        have hgd1 : GroD wr w1 (.slice none 0 0) v1 := ⟨hb1.os, hb1.tape, hb1.output, hb1.size, fun k hk _ => hb1.block k hk, fun y hy => .inr (hown1.lt y hy).1⟩
        have hod : OwnD w1 K v1 (caR (x :: p)) := by
          have h1 := owns_mono_ hown1 HM.out.kw
          rw [natI_len, natI_v] at h1
          exact h1
        have hs := HM.out.more.side (t := 3 + s.rings.length) (by omega) (Nat.le_refl _) (W7 := w1) (v' := v1) (r := caR (x :: p)) (by rw [updF_here]; exact hgd1) hod
        exact ⟨_, _, hs, by rw [updF_else _ _ (by omega), updF_else _ _ (by omega), HU1.out, HLO.out], updF_here _ _ _, updF_here _ _ _⟩
      clear hown1 hb1 HCL HOW
      obtain ⟨-, -, -, -, p4', -, -, pf'⟩ := hM1.cells
      have pf4 := pf' 4
      rw [hu1] at p4'
      have HM1 := Lib.hid hM1
      have HU1' := Lib.hid (And.intro hu1 (And.intro hu3 ht3))
      clear hM1 hu1 hu3 ht3 pf' p4
      go_upto_region 5 with fail
      obtain ⟨w2, hw2⟩ : ∃ w2, w1.setCell ⟨P, 4, none⟩ (.slice (some ⟨g, 0, none⟩) j cap) = w2 := ⟨_, rfl⟩
      rw [hw2]
      obtain ⟨U2, T2, hM2, hu3, ht3⟩ : ∃ U2 T2, TsM Wa H n K L C F P cl w2 lv (3 + s.rings.length + 1) U2 T2 { s with op := o } ∧ U2 (3 + s.rings.length) = v1 ∧ T2 (3 + s.rings.length) = caR (x :: p) := by
        have h1 := HM1.out
        have ho1 := h1.pool.own 1 (by omega)
        rw [h1.t1, HU1'.out.1] at ho1
        have ho2 : w1.ownsRow K 3 1 (.slice (some ⟨g, 0, none⟩) lo cap) lo (natV s.op) := by have h3 : w1.ownsRow K 3 1 (.slice (some ⟨g, 0, none⟩) lo cap) s.op.length (natV s.op) := ho1; rw [← HLO.out] at h3; exact h3
        have ho3 := own_take ho2 (k := j) (by omega)
        have ht : (natV s.op).take j = natV o := by unfold natV; rw [← List.map_take, HO.out, HA.out, List.take_left]
        rw [ht] at ho3
        have hs := h1.open_ (W7 := w1) (v' := .slice (some ⟨g, 0, none⟩) j cap) (l := o) (by rw [HU1'.out.1]; exact ⟨rfl, rfl, rfl, Nat.le_refl _, fun _ _ _ => rfl, fun y hy => .inl hy⟩) (by show w1.ownsRow K 3 1 _ o.length (natV o); rw [← HA.out]; exact ho3)
        rw [hw2] at hs
        exact ⟨_, _, hs, by rw [updF_else _ _ (by omega)]; exact HU1'.out.2.1, by rw [updF_else _ _ (by omega)]; exact HU1'.out.2.2⟩
      clear hw2 p4' pf4 HM1 HU1'
      have hsort := sortInts_any (w := w2) (K := K) (v := v1) (l := x :: p) (by have h1 := hM2.pool.own (3 + s.rings.length) (by omega); rw [hu3, ht3] at h1; exact h1) (by have := HLEN.out; have := HLO.out; simp; omega)
        (fun y hy => by have := HB.out y (by rw [HO.out]; exact List.mem_append_right _ hy); omega)
      have HM2 := Lib.hid hM2
      have HU2 := Lib.hid (And.intro hu3 ht3)
      have HSO := Lib.hid hsort
      clear hM2 hu3 ht3 hsort
      go_upto_region 6 with (go_at_call 33; refine HSO.out.mono ?_; rintro e w3 ⟨rfl, hgd3, hown3⟩)
      obtain ⟨U3, T3, hM3, hu3, ht3⟩ : ∃ U3 T3, TsM Wa H n K L C F P cl w3 lv (3 + s.rings.length + 1) U3 T3 { s with op := o } ∧ U3 (3 + s.rings.length) = v1 ∧ T3 (3 + s.rings.length) = caR (sortN (x :: p)) := by
        have hs := HM2.out.side (t := 3 + s.rings.length) (by omega) (Nat.le_refl _) (W7 := w3) (v' := v1) (r := caR (sortN (x :: p))) (by rw [HU2.out.1]; exact hgd3) (by
          have h1 : w3.ownsRow K 3 1 v1 (sortN (x :: p)).length (natV (sortN (x :: p))) := by rw [sortN_len]; exact hown3
          exact h1)
        exact ⟨_, _, hs, updF_here _ _ _, updF_here _ _ _⟩
      clear hgd3 hown3 HSO HM2 HU2
      obtain ⟨R, hR⟩ : ∃ R, R = sortN (x :: p) := ⟨_, rfl⟩
      rw [← hR] at ht3
      obtain ⟨lR, hlR⟩ : ∃ lR, lR = R.length := ⟨_, rfl⟩
      have hlR1 : 0 < lR ∧ lR ≤ 1000 := by rw [hlR, hR, sortN_len]; have := HLEN.out; have := HLO.out; simp; omega
      obtain ⟨hlR1, hlR2⟩ := hlR1
      have hown3 : OwnD w3 K v1 (caR R) := by have h1 := hM3.pool.own (3 + s.rings.length) (by omega); rw [hu3, ht3] at h1; exact h1
      obtain ⟨gr, capr, hv1⟩ : ∃ gr capr, v1 = .slice (some ⟨gr, 0, none⟩) lR capr := by
        rcases hown3.2 with ⟨_, h0⟩ | ⟨g, c, cur, e, -⟩
        · have : R.length = 0 := h0; omega
        · exact ⟨g, c, by rw [e, hlR]; rfl⟩
      have hRn : ∀ y ∈ R, y < n := fun y hy => HB.out y (by rw [HO.out]; exact List.mem_append_right _ (by rw [hR] at hy; exact sortN_mem.1 hy))
      have HR := Lib.hid hR
      have HLR := Lib.hid hlR
      have HRN := Lib.hid hRn
      have HM3 := Lib.hid hM3
      have HU3 := Lib.hid (And.intro hu3 ht3)
      subst hv1
      clear hR hlR hRn hM3 hu3 ht3 hown3
      go_upto_region 7 with fail
      go_loopw [45] (fun i wq => ∃ k : Nat, k ≤ lR ∧ i = .int .i64 (k : Int) ∧ TsM Wa H n K L C F P cl wq lv (3 + s.rings.length + 1) U3 T3 { s with op := o, first := mkF s.first (R.take k) }) (fun i _ => lR - (intOf i).toNat)
      case atStart => exact ⟨0, Nat.zero_le _, rfl, HM3.out⟩
      case round =>
        obtain ⟨k, hk, rfl, hM⟩ := hrel
        obtain ⟨wL, rfl⟩ : ∃ wL, wL = wr := ⟨_, rfl⟩
        have HMK := Lib.hid hM
        by_cases hkl : k < lR
        · have hown4 : OwnD wL K (.slice (some ⟨gr, 0, none⟩) lR capr) (caR R) := by have h1 := hM.pool.own (3 + s.rings.length) (by omega); rw [HU3.out.1, HU3.out.2] at h1; exact h1
          have hkr : k < R.length := by have := HLR.out; omega
          obtain ⟨y, hy⟩ : ∃ y, R[k]? = some y := ⟨_, List.getElem?_eq_getElem hkr⟩
          have hcell : wL.cell? ⟨gr, k, none⟩ = some (.int .i64 (y : Int)) := by
            have h4 : wL.ownsRow K 3 1 (.slice (some ⟨gr, 0, none⟩) lR capr) R.length (natV R) := hown4
            rw [← HLR.out] at h4
            rw [h4.cellAt k (by omega)]; exact natV_at hy
          have hyn : y < n := HRN.out y (List.mem_of_getElem? hy)
          obtain ⟨-, -, q2, -, -, -, -, -⟩ := hM.cells
          have q3 := hM.fr.frozen y
          have q4 := hM.fr.cell hyn
          have hk0 : (0 : Int) ≤ k := by omega
          have hk1 : (k : Int) < lR := by omega
          have hy0 : (0 : Int) ≤ y := by omega
          have hy1 : (y : Int) < n := by omega
          have HN : Hid (TsM Wa H n K L C F P cl (wL.setCell ⟨F, y, none⟩ (.int .i64 9223372036854775807)) lv (3 + s.rings.length + 1) U3 T3 { s with op := o, first := mkF s.first (R.take (k + 1)) }) := Lib.hid (by
            have h1 := hM.setFirst y topN
            rw [List.take_add_one, hy]
            show TsM _ _ _ _ _ _ _ _ _ _ _ _ _ _ { s with op := o, first := mkF s.first (R.take k ++ [y]) }
            rw [mkF_next]; exact h1)
          clear hM hown4 hy hkr
          go_wp2_with fail
          go_roundw
          case rel => exact ⟨k + 1, by omega, by go_num, HN.out⟩
          case measure => simp [intOf]; omega
        · obtain rfl : k = lR := by omega
          have hd : ¬ (k : Int) < (k : Int) := by omega
          have hMR : TsM Wa H n K L C F P cl wL lv (3 + s.rings.length + 1) U3 T3 { s with op := o, first := mkF s.first R } := by
            have h1 := hM
            rw [HLR.out, List.take_length] at h1
            exact h1
          obtain ⟨-, -, -, -, -, -, q6, qf⟩ := hMR.cells
          have qf6 := qf 6
          have hown5 : wL.ownsRow K 34 1 (U3 2) s.rings.length ((List.range s.rings.length).map fun i => U3 (3 + i)) := by have h1 := hMR.pool.own 2 (by omega); rw [hMR.t2] at h1; exact h1
          obtain ⟨A2, c2, hU2⟩ := own_sliceL hown5
          have HU2 := Lib.hid hU2
          have HOWN5 := Lib.hid hown5
          have HMR := Lib.hid hMR
          have hkw := hMR.kw
          have hPlt := hMR.nb.2.2.2.2
          rw [hU2] at q6
          obtain ⟨rl, hrl2⟩ : ∃ rl, rl = s.rings.length := ⟨_, rfl⟩
          have HRL := Lib.hid hrl2
          rw [← hrl2] at q6 HU2 HOWN5
          rw [← hrl2] at hrl
          clear hM hMR hown5 qf hU2 HMK hrl2
          go_wp2_with (at_builtin; refine wpList_append_lies _ rfl (.tmp 60) (.tmp 62) 54 rfl K 34 i0 (.slice none 0 0) 1 24 Try.underlyingC54 HI.out.1 HI.out.2.1 HI.out.2.2.1 HI.out.2.2.2 rfl (by decide) _ _ _ rfl (by have := HOWN5.out.alloc (.cells #[.slice (some ⟨gr, 0, none⟩) k capr] 34); rw [HU2.out] at this; exact this) ⟨wL.heap.size, 0, none⟩ 1 1 [.slice (some ⟨gr, 0, none⟩) k capr] rfl rfl ?e1 ?e2 ?e0 ?e3 ?e4 ?e5 (wL.heap.size + 1) ?e6 ?_)
          case e2 => rfl
          case e3 => unfold maxLen; omega
          case e4 => omega
          case e5 => omega
          intro g6 cap6 w6 hown6 hgrow6 hloc6 hlt6
          have hgd : GroD wL w6 (U3 2) (.slice (some ⟨g6, 0, none⟩) (rl + 1) cap6) := by rw [HU2.out]; exact groD_append hgrow6 hloc6
          have hb6 : w6.heap[P]? = wL.heap[P]? := (HMR.out.rows_ (by omega) hgd).1 P hPlt
          have hM7 := HMR.out.ring (r := R) HU3.out.2 (by show 3 + s.rings.length < _; omega) hgd (by
            show w6.ownsRow K 34 1 _ (s.rings.length + 1) ((List.range s.rings.length).map (fun i => U3 (3 + i)) ++ [U3 (3 + s.rings.length)])
            rw [HU3.out.1]
            have h1 := hown6
            rw [HRL.out] at h1 ⊢
            exact h1)
          have q6' := (World.cell?_of_block (a := ⟨P, 6, none⟩) hb6).trans q6
          have qf6' := (World.frozen?_of_block (a := ⟨P, 6, none⟩) hb6).trans qf6
          have hres : TsM Wa H n K L C F P cl (w6.setCell ⟨P, 6, none⟩ (.slice (some ⟨g6, 0, none⟩) (rl + 1) cap6)) lv (3 + (ringS s o (x :: p)).rings.length) (updF U3 2 (.slice (some ⟨g6, 0, none⟩) (rl + 1) cap6)) (updF T3 2 ⟨34, 1, s.rings.length + 1, (List.range (s.rings.length + 1)).map fun i => U3 (3 + i)⟩) (ringS s o (x :: p)) := by
            have e1 : (ringS s o (x :: p)).rings.length = s.rings.length + 1 := by show (s.rings ++ [_]).length = _; simp
            have e2 : ringS s o (x :: p) = { s with op := o, first := mkF s.first R, rings := s.rings ++ [R] } := by
              unfold ringS
              rw [HR.out]
              congr 1
              funext y
              unfold mkF
              by_cases q : y ∈ x :: p
              · rw [if_pos q, if_pos (sortN_mem.2 q)]
              · rw [if_neg q, if_neg (fun k => q (sortN_mem.1 k))]
            rw [e1, e2]
            exact hM7
          have HRES := Lib.hid hres
          clear hres hM7 hb6 hgd hown6 hgrow6 hloc6 hlt6 HMR HU3 q6 qf6 HOWN5 HU2
          go_wp2_with fail
          go_end0
          exact ⟨rfl, _, _, _, HRES.out⟩
    · have hne : j ≠ a := fun q => by subst q; rw [HXA.out] at hx; exact e (Option.some.inj hx).symm
      have hd : ((x : Int) != (f : Int)) = true := by simp; omega
      have hne2 : ¬ ((x : Int) = (f : Int)) := by omega
      clear hx
      go_wp2_with fail
      go_roundw
      case rel => exact ⟨j - 1, by omega, by omega, by go_num, trivial⟩
      case measure => simp [intOf]; omega
end Go.Proofs.Ytdfiflbkamhchaa
