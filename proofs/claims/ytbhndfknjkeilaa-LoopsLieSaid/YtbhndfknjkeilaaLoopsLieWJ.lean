/- Functions and modules that came in as arguments: what they read as. -/
import Derived.Test.YtbhndfknjkeilaaAheadLJ
import Derived.ProofKit
import Derived.Test.YtbhndfknjkeilaaDmBgJ
import Derived.BigQuiet
namespace Go.Proofs.Ytbhndfknjkeilaa
open Go.ChangeShapes Go.WideShapes Go.RowKit Go.Deep
set_option linter.unusedVariables false

section
variable {H : Type} {enc : TypeId × Value → H} {P : Program} {w : World} {base : Nat} {spare : Nat → Bool} {held : Bool}

theorem struct_field {t : TypeId} {fs : Array Field} {fuel : Nat} {cs : List Value} {y : DataW H × List MemPlace} (ht : P.underlying t = some (.struct fs)) (h : DataW.trod enc P w base spare held fuel t cs = some y)
    (i : Nat) (f : Field) (hf : fs[i]? = some f) : ∃ n z, DataW.trod enc P w base spare held n f.type ((cs.drop f.offset).take (P.cellsOf f.type)) = some z := by
  obtain ⟨xs, n, _, _, _, hlen, hx⟩ := DataW.trod_struct ht h
  have hi : i < xs.length := by rw [hlen]; exact (Array.getElem?_eq_some_iff.1 hf).1
  exact ⟨n, xs[i], (hx i f hf).trans (List.getElem?_eq_getElem hi)⟩
theorem field_of {t : TypeId} {fs : Array Field} {fuel : Nat} {cs : List Value} {y : DataW H × List MemPlace} (ht : P.underlying t = some (.struct fs)) (h : DataW.trod enc P w base spare held fuel t cs = some y)
    (i : Nat) {f : Field} (hf : fs[i]? = some f) {t' : TypeId} {c k : Nat} (hft : f.type = t') (hk : f.offset = k) (hc : P.cellsOf t' = c) : ∃ n z, DataW.trod enc P w base spare held n t' ((cs.drop k).take c) = some z := by
  subst hft hk hc
  exact struct_field ht h i f hf
theorem drop_take_one {cs : List Value} {k : Nat} (hk : k < cs.length) : (cs.drop k).take 1 = [cs[k]] := by
  rw [List.drop_eq_getElem_cons hk]; rfl
theorem int_field {t : TypeId} {n k : Nat} {cs : List Value} {z : DataW H × List MemPlace} (ht : P.underlying t = some (.int .i64)) (hk : k < cs.length) (h : DataW.trod enc P w base spare held n t ((cs.drop k).take 1) = some z) :
    ∃ x, cs[k]? = some (.int .i64 x) ∧ I64 x := by
  rw [drop_take_one hk] at h
  obtain ⟨x, hx, _, hw⟩ := DataW.trod_int ht h
  exact ⟨x, by rw [List.getElem?_eq_getElem hk]; exact congrArg some (List.cons.inj hx).1, wf_i64 hw⟩
theorem slice_field {α : Type} [Inhabited α] {t e : TypeId} {sz : Nat} {R : World → Nat → Nat → α → Prop} {n k : Nat} {cs : List Value} {z : DataW H × List MemPlace} (ht : P.underlying t = some (.slice e)) (hsz : P.cellsOf e = sz) (hpos : 0 < sz)
    (hR : Opens enc P w base spare held e sz R) (hk : k < cs.length) (h : DataW.trod enc P w base spare held n t ((cs.drop k).take 1) = some z) : ∃ A c xs, cs[k]? = some (.slice A xs.length c) ∧ SL w sz R A c xs := by
  rw [drop_take_one hk] at h
  obtain ⟨xs, A, c, e, hs⟩ := open_vs ht hsz hpos hR h
  exact ⟨A, c, xs, by rw [List.getElem?_eq_getElem hk, e], hs⟩
end

theorem Try.cells3 : Try.prog.cellsOf 3 = 1 := by kernel_rfl
theorem Try.cells2 : Try.prog.cellsOf 2 = 1 := by kernel_rfl
theorem Try.cells22 : Try.prog.cellsOf 22 = 1 := by kernel_rfl
theorem Try.cells45 : Try.prog.cellsOf 45 = 1 := by kernel_rfl
theorem Try.cells46 : Try.prog.cellsOf 46 = 1 := by kernel_rfl
theorem Try.cells23 : Try.prog.cellsOf 23 = 1 := by kernel_rfl
theorem Try.cells50 : Try.prog.cellsOf 50 = 1 := by kernel_rfl
theorem Try.cells68 : Try.prog.cellsOf 68 = 2 := by kernel_rfl
theorem Try.cells70 : Try.prog.cellsOf 70 = 5 := by kernel_rfl
theorem Try.cells43 : Try.prog.cellsOf 43 = 3 := by kernel_rfl
theorem Try.cells48 : Try.prog.cellsOf 48 = 5 := by kernel_rfl
theorem Try.cells25 : Try.prog.cellsOf 25 = 4 := by kernel_rfl
theorem Try.cells52 : Try.prog.cellsOf 52 = 1 := by kernel_rfl

section
variable {H : Type} {enc : TypeId × Value → H} {w : World} {base : Nat} {spare : Nat → Bool} {held : Bool}

theorem opens_int : Opens enc Try.prog w base spare held 3 1 RInt := fun n b o cs y hlen hat h => by
  obtain ⟨x, rfl, _, hw⟩ := DataW.trod_int Try.underlying3 h
  exact ⟨x, (hat 0 (by omega)).trans rfl, wf_i64 hw⟩
theorem field_int {fs : Array Field} {t : TypeId} {fuel : Nat} {cs : List Value} {y : DataW H × List MemPlace} (ht : Try.prog.underlying t = some (.struct fs)) (h : DataW.trod enc Try.prog w base spare held fuel t cs = some y)
    (i : Nat) (f : Field) (hf : fs[i]? = some f) (hft : f.type = 3) (hk : f.offset < cs.length) : ∃ x, cs[f.offset]? = some (.int .i64 x) ∧ I64 x := by
  obtain ⟨n, z, hz⟩ := struct_field ht h i f hf
  rw [hft, Try.cells3] at hz
  exact int_field Try.underlying3 hk hz
theorem field_int64 {fs : Array Field} {t : TypeId} {fuel : Nat} {cs : List Value} {y : DataW H × List MemPlace} (ht : Try.prog.underlying t = some (.struct fs)) (h : DataW.trod enc Try.prog w base spare held fuel t cs = some y)
    (i : Nat) (f : Field) (hf : fs[i]? = some f) (hft : f.type = 2) (hk : f.offset < cs.length) : ∃ x, cs[f.offset]? = some (.int .i64 x) ∧ I64 x := by
  obtain ⟨n, z, hz⟩ := struct_field ht h i f hf
  rw [hft, Try.cells2] at hz
  exact int_field Try.underlying2 hk hz
theorem field_ints {fs : Array Field} {t : TypeId} {fuel : Nat} {cs : List Value} {y : DataW H × List MemPlace} (ht : Try.prog.underlying t = some (.struct fs)) (h : DataW.trod enc Try.prog w base spare held fuel t cs = some y)
    (i : Nat) (f : Field) (hf : fs[i]? = some f) (hft : f.type = 22) (hk : f.offset < cs.length) : ∃ A c, ∃ xs : List Int, cs[f.offset]? = some (.slice A xs.length c) ∧ SL w 1 RInt A c xs := by
  obtain ⟨n, z, hz⟩ := struct_field ht h i f hf
  rw [hft, Try.cells22] at hz
  exact slice_field Try.underlying22 Try.cells3 (by omega) opens_int hk hz
theorem opens_phi : Opens enc Try.prog w base spare held 68 2 RPhi := fun n b o cs y hlen hat h => by
  obtain ⟨x, h0, w0⟩ := field_int Try.underlying68 h 0 _ rfl rfl (by simp; omega)
  obtain ⟨A, c, xs, h1, w1⟩ := field_ints Try.underlying68 h 1 _ rfl rfl (by simp; omega)
  exact ⟨⟨x, xs⟩, ⟨(hat 0 (by omega)).trans h0, w0⟩, A, c, (hat 1 (by omega)).trans h1, w1⟩
theorem opens_ins : Opens enc Try.prog w base spare held 70 5 RIns := fun n b o cs y hlen hat h => by
  obtain ⟨x0, h0, w0⟩ := field_int Try.underlying70 h 0 _ rfl rfl (by simp; omega)
  obtain ⟨x1, h1, w1⟩ := field_int Try.underlying70 h 1 _ rfl rfl (by simp; omega)
  obtain ⟨A, c, xs, h2, w2⟩ := field_ints Try.underlying70 h 2 _ rfl rfl (by simp; omega)
  obtain ⟨x3, h3, w3⟩ := field_int64 Try.underlying70 h 3 _ rfl rfl (by simp; omega)
  obtain ⟨x4, h4, w4⟩ := field_int Try.underlying70 h 4 _ rfl rfl (by simp; omega)
  exact ⟨⟨x0, x1, xs, x3, x4⟩, ⟨(hat 0 (by omega)).trans h0, w0⟩, ⟨(hat 1 (by omega)).trans h1, w1⟩, ⟨A, c, (hat 2 (by omega)).trans h2, w2⟩, ⟨(hat 3 (by omega)).trans h3, w3⟩, ⟨(hat 4 (by omega)).trans h4, w4⟩⟩
theorem opens_blk : Opens enc Try.prog w base spare held 48 5 RBlk := fun n b o cs y hlen hat h => by
  obtain ⟨n0, z0, hz0⟩ := field_of Try.underlying48 h 0 rfl rfl rfl Try.cells45
  obtain ⟨A0, c0, ps, h0, w0⟩ := slice_field Try.underlying45 Try.cells68 (by omega) opens_phi (by simp; omega) hz0
  obtain ⟨n1, z1, hz1⟩ := field_of Try.underlying48 h 1 rfl rfl rfl Try.cells46
  obtain ⟨A1, c1, is, h1, w1⟩ := slice_field Try.underlying46 Try.cells70 (by omega) opens_ins (by simp; omega) hz1
  obtain ⟨n2, z2, hz2⟩ := field_of Try.underlying48 h 2 rfl rfl rfl Try.cells43
  have hl2 : ((cs.drop 2).take 3).length = 3 := by simp; omega
  obtain ⟨x2, h2, w2⟩ := field_int Try.underlying43 hz2 0 _ rfl rfl (by simp; omega)
  obtain ⟨x3, h3, w3⟩ := field_int Try.underlying43 hz2 1 _ rfl rfl (by simp; omega)
  obtain ⟨A4, c4, xs, h4, w4⟩ := field_ints Try.underlying43 hz2 2 _ rfl rfl (by simp; omega)
  have g (i : Nat) (hi : i < 3) : ((cs.drop 2).take 3)[i]? = cs[2 + i]? := by rw [List.getElem?_take_of_lt hi, List.getElem?_drop]
  exact ⟨⟨ps, is, ⟨x2, x3, xs⟩⟩, ⟨A0, c0, (hat 0 (by omega)).trans h0, w0⟩, ⟨A1, c1, (hat 1 (by omega)).trans h1, w1⟩, ⟨(hat 2 (by omega)).trans ((g 0 (by omega)).symm.trans h2), w2⟩, ⟨(hat 3 (by omega)).trans ((g 1 (by omega)).symm.trans h3), w3⟩, ⟨A4, c4, (hat 4 (by omega)).trans ((g 2 (by omega)).symm.trans h4), w4⟩⟩
theorem opens_fun : Opens enc Try.prog w base spare held 25 4 RFun := fun n b o cs y hlen hat h => by
  obtain ⟨x0, h0, w0⟩ := field_int Try.underlying25 h 0 _ rfl rfl (by simp; omega)
  obtain ⟨x1, h1, w1⟩ := field_int Try.underlying25 h 1 _ rfl rfl (by simp; omega)
  obtain ⟨A2, c2, xs, h2, w2⟩ := field_ints Try.underlying25 h 2 _ rfl rfl (by simp; omega)
  obtain ⟨n3, z3, hz3⟩ := field_of Try.underlying25 h 3 rfl rfl rfl Try.cells23
  obtain ⟨A3, c3, bs, h3, w3⟩ := slice_field Try.underlying23 Try.cells48 (by omega) opens_blk (by simp; omega) hz3
  exact ⟨⟨x0, x1, xs, bs⟩, ⟨(hat 0 (by omega)).trans h0, w0⟩, ⟨(hat 1 (by omega)).trans h1, w1⟩, ⟨A2, c2, (hat 2 (by omega)).trans h2, w2⟩, ⟨A3, c3, (hat 3 (by omega)).trans h3, w3⟩⟩

set_option maxRecDepth 100000 in
/-- A function by value. -/
theorem open_fun {r : Go.Reach} {b0 : Nat} {v : Value} {d : DataW H} {p : List MemPlace} (hv : Value.okWide Try.prog w r b0 25 v) (h : DataW.Trod enc Try.prog w base spare held 25 v d p) : ∃ f, VFun w v f := by
  obtain ⟨cs, rfl, hsz⟩ := okWide_struct Try.underlying25 hv
  rw [Try.cells25] at hsz
  obtain ⟨l⟩ := cs
  match l, hsz with
  | [a, b, c, d], _ =>
    obtain ⟨fuel, hf⟩ := h
    have hf : DataW.trod enc Try.prog w base spare held fuel 25 [a, b, c, d] = some (_, p) := hf
    obtain ⟨x0, h0, w0⟩ := field_int Try.underlying25 hf 0 _ rfl rfl (by simp)
    obtain ⟨x1, h1, w1⟩ := field_int Try.underlying25 hf 1 _ rfl rfl (by simp)
    obtain ⟨A2, c2, xs, h2, w2⟩ := field_ints Try.underlying25 hf 2 _ rfl rfl (by simp)
    obtain ⟨n3, z3, hz3⟩ := field_of Try.underlying25 hf 3 rfl rfl rfl Try.cells23
    obtain ⟨A3, c3, bs, h3, w3⟩ := slice_field Try.underlying23 Try.cells48 (by omega) opens_blk (by simp) hz3
    obtain rfl := Option.some.inj h0
    obtain rfl := Option.some.inj h1
    obtain rfl := Option.some.inj h2
    obtain rfl := Option.some.inj h3
    exact ⟨⟨x0, x1, xs, bs⟩, A2, c2, A3, c3, rfl, w2, w3, w0, w1⟩
set_option maxRecDepth 100000 in
/-- A module by value. -/
theorem open_mod {r : Go.Reach} {b0 : Nat} {v : Value} {d : DataW H} {p : List MemPlace} (hv : Value.okWide Try.prog w r b0 52 v) (h : DataW.Trod enc Try.prog w base spare held 52 v d p) : ∃ m, VMod w v m := by
  obtain ⟨cs, rfl, hsz⟩ := okWide_struct Try.underlying52 hv
  rw [Try.cells52] at hsz
  obtain ⟨l⟩ := cs
  match l, hsz with
  | [a], _ =>
    obtain ⟨fuel, hf⟩ := h
    have hf : DataW.trod enc Try.prog w base spare held fuel 52 [a] = some (_, p) := hf
    obtain ⟨n3, z3, hz3⟩ := field_of Try.underlying52 hf 0 rfl rfl rfl Try.cells50
    obtain ⟨A3, c3, bs, h3, w3⟩ := slice_field Try.underlying50 Try.cells25 (by omega) opens_fun (by simp) hz3
    obtain rfl := Option.some.inj h3
    exact ⟨bs, A3, c3, rfl, w3⟩
end
end Go.Proofs.Ytbhndfknjkeilaa

/- The walk of LoopsLie. -/
namespace Go.Proofs.Ytbhndfknjkeilaa
open Go.ChangeShapes Go.WideShapes Go.RowKit Go.Deep
set_option linter.unusedVariables false

theorem mem_lbL (bs : List BlkD) (g : Nat) {h n : Nat} (hh : h < n) : decide (((h : Nat) : Int) ∈ zs (lbL bs g n)) = lpB bs g h := by
  cases e : lpB bs g h
  · refine decide_eq_false fun k => ?_
    obtain ⟨q, hq, e2⟩ := zs_mem k
    obtain rfl : q = h := by omega
    unfold lbL at hq
    have := (List.mem_filter.1 hq).2
    rw [e] at this; cases this
  · refine decide_eq_true ?_
    unfold zs lbL
    exact List.mem_map.2 ⟨h, List.mem_filter.2 ⟨List.mem_range.2 hh, e⟩, rfl⟩
set_option maxRecDepth 100000 in
set_option maxHeartbeats 4000000 in
theorem has_q (l : List Int) (b : Int) (v : Value) (w : World) (hv : VS w 1 RInt v l) :
    Calls Try.prog 16 #[v, .int .i64 b] w fun e w' => e = .returned (.bool (decide (b ∈ l))) ∧ ∃ m, w' = w.drewN m := by
  obtain ⟨A, c, rfl, ha⟩ := hv
  have hal := ha.len
  go_enter Try.func16, Try.ntmps16
  go_wp2_with fail
  go_loopw [5] (fun i wr => ∃ k : Nat, k ≤ l.length ∧ i = .int .i64 k ∧ wr = w ∧ b ∉ l.take k) (fun i _ => l.length - (intOf i).toNat)
  case atStart => exact ⟨0, Nat.zero_le _, rfl, rfl, by simp⟩
  case round =>
    obtain ⟨k, hk, rfl, hww, hno⟩ := hrel
    subst hww
    have HNO := Lib.hid hno
    by_cases hlt : k < l.length
    · obtain ⟨b1, o1, x, rfl, hx, hxc, -⟩ := ha.int (k := k) hlt
      have HX := Lib.hid hx
      have hk0 : (0 : Int) ≤ k := by omega
      have hk1 : (k : Int) < l.length := by omega
      clear hno hx ha
      by_cases hxy : x = b
      · have hyes : Hid (decide (b ∈ l) = true) := Lib.hid (decide_eq_true (by rw [← hxy]; exact List.mem_of_getElem? HX.out))
        have hb1 : (x == b) = true := by simp [hxy]
        clear hxy
        go_wp2_with fail
        go_ret
        exact ⟨(show Ending.returned (.bool true) = .returned (.bool (decide (b ∈ l))) by rw [hyes.out]), 0, rfl⟩
      · have hb1 : (x == b) = false := by simp [hxy]
        have HNE := Lib.hid hxy
        clear hxy
        go_wp2_with fail
        go_roundw
        case rel =>
          refine ⟨k + 1, by omega, by go_num, trivial, ?_⟩
          rw [take_succ_of HX.out, List.mem_append, List.mem_singleton]
          rintro (h | h)
          · exact HNO.out h
          · exact HNE.out h.symm
        case measure => simp [intOf]; omega
    · have hnn : Hid (decide (b ∈ l) = false) := Lib.hid (decide_eq_false (by rwa [List.take_of_length_le (by omega)] at hno))
      clear hno
      go_wp2_with fail
      go_ret
      exact ⟨(show Ending.returned (.bool false) = .returned (.bool (decide (b ∈ l))) by rw [hnn.out]), 0, rfl⟩

set_option maxRecDepth 100000 in
set_option maxHeartbeats 16000000 in
theorem loopsLie_walk (f : FunD) (v : Value) (w : World) (hv : VFun w v f) :
    Calls Try.prog 4 #[v] w fun e w' => e = .returned (.bool true) ∧ Below w.heap.size w w' := by
  have hv0 := hv
  obtain ⟨Ar, cr, A, c, rfl, -, -, -, -⟩ := hv
  have HV := Lib.hid hv0
  clear hv0
  go_enter Try.func4, Try.ntmps4
  go_wp2_with fail
  obtain ⟨w1, hw1, hs1, hk1, hbel1, hc1, -⟩ := named w #[.int .i64 f.params, .int .i64 f.result, .slice Ar f.regs.length cr, .slice A f.blocks.length c] 25
  rw [← hw1]
  refine (up7_any w1).mono ?_
  rintro e w2 ⟨rfl, hb2⟩
  have hk2 := kept_of_below hb2
  have c0 := hk2 _ _ (hc1 0 _ rfl)
  have c1 := hk2 _ _ (hc1 1 _ rfl)
  have c2 := hk2 _ _ (hc1 2 _ rfl)
  have c3 := hk2 _ _ (hc1 3 _ rfl)
  have HB2 : Hid (Below w.heap.size w w2) := Lib.hid (hbel1.trans (hb2.mono (by omega)))
  obtain ⟨N, hN⟩ : ∃ N, N = w.heap.size := ⟨_, rfl⟩
  have HN : Hid (N < w2.heap.size) := Lib.hid (by have := hb2.size; omega)
  rw [← hN] at c0 c1 c2 c3 ⊢
  clear hw1 hs1 hbel1 hc1 hb2 hk1 hk2
  have HNN := Lib.hid hN
  clear hN
  go_wp2_with fail
  refine (small7_any f _ w2 (VFun.keep (kept_of_below HB2.out) HV.out)).mono ?_
  rintro e w3 ⟨⟨bs, rfl, hsm⟩, hb3⟩
  have hk3 := kept_of_below hb3
  have c0 := hk3 _ _ c0
  have c1 := hk3 _ _ c1
  have c2 := hk3 _ _ c2
  have c3 := hk3 _ _ c3
  have HB3 : Hid (Below w.heap.size w w3) := Lib.hid (HB2.out.trans (hb3.mono HB2.out.size))
  cases bs
  · clear hb3 hk3 hsm
    go_wp2_with fail
    go_ret
    exact ⟨rfl, HB3.out⟩
  · have hn : f.blocks.length ≤ 70 := (hsm rfl).1
    clear hb3 hk3 hsm
    go_wp2_with fail
    refine (loops_any f _ w3 (VFun.keep (kept_of_below HB3.out) HV.out) (by omega)).mono ?_
    rintro e w4 ⟨⟨U, hs, rfl, hH, hM, ord, hNB⟩, hb4⟩
    have hk4 := kept_of_below hb4
    have c0 := hk4 _ _ c0
    have c1 := hk4 _ _ c1
    have c2 := hk4 _ _ c2
    have c3 := hk4 _ _ c3
    have HB4 : Hid (Below w.heap.size w w4) := Lib.hid (HB3.out.trans (hb4.mono HB3.out.size))
    obtain ⟨m, hm⟩ : ∃ m, (hdL f.blocks f.blocks.length).length = m := ⟨_, rfl⟩
    have hm70 : m ≤ 70 := by rw [← hm]; have := hdL_len f.blocks f.blocks.length; omega
    rw [hm] at hH hM
    obtain ⟨Al, cl, hU0⟩ := own_sliceL (show w4.ownsRow w3.heap.size 31 3 (U 0) m _ from hM.own 0 (by omega))
    rw [hU0]
    have HU0 := Lib.hid hU0
    have HH := Lib.hid hH
    have HM := Lib.hid hM
    have HNB := Lib.hid hNB
    clear hb4 hk4 hU0 hH hM hNB hm
    go_wp2_with fail
    refine (domDominates_any f _ w4 (VFun.keep (kept_of_below HB4.out) HV.out) (by omega)).mono ?_
    rintro e w5 ⟨⟨G, D0, rfl, hG, hg, -⟩, hb5⟩
    have HM5 := Lib.hid (HM.out.below hb5)
    have HG5 := Lib.hid hg
    have HB5 : Hid (Below w.heap.size w w5) := Lib.hid (HB4.out.trans (hb5.mono HB4.out.size))
    clear hb5 hg hG c0 c1 c2 c3 HM
    obtain ⟨n, hnn⟩ : ∃ n, f.blocks.length = n := ⟨_, rfl⟩
    have HNL := Lib.hid hnn
    rw [hnn] at HG5 HH HM5 hn ⊢
    clear hnn
    go_wp2_with fail
    go_loopg [7] m (fun gk s7 wq => ∃ i : Nat, i ≤ m ∧ gk = m - i ∧ s7 = .int .i64 (i : Int) ∧ Below w5.heap.size w5 wq)
    case atStart => exact ⟨0, Nat.zero_le _, rfl, rfl, Below.refl _ _⟩
    case round =>
      obtain ⟨i, him, rfl, rfl, hb⟩ := hrel
      have HBI := Lib.hid hb
      by_cases hil : i < m
      · obtain ⟨g, cap, hUg, -, hgz, -⟩ := HM5.out.at_ hil
        rw [HU0.out] at hUg
        injection hUg with hUa _ hUc
        subst hUa hUc
        have HAT : Hid (∀ w', Below w5.heap.size w5 w' → ∀ a, a < m → w'.cell? ⟨g, a * 3, none⟩ = some (.int .i64 (hs a : Int)) ∧ w'.cell? ⟨g, a * 3 + 1, none⟩ = some (U (2 * a + 1))) := Lib.hid (fun w' hb' a ha => by
          obtain ⟨g', cap', hUg', -, -, q0, q1, -⟩ := (HM5.out.below hb').at_ ha
          rw [HU0.out] at hUg'
          injection hUg' with hUa' _ hUc'
          injection hUa' with hUa'
          injection hUa' with hUa'
          subst hUa'
          exact ⟨q0, q1⟩)
        have HVS : Hid (∀ w', Below w5.heap.size w5 w' → ∀ a, a < m → ∃ A c, U (2 * a + 1) = .slice A (lbL f.blocks (hs a) n).length c ∧ VS w' 1 RInt (U (2 * a + 1)) (zs (lbL f.blocks (hs a) n))) := Lib.hid (fun w' hb' a ha => by
          obtain ⟨A', c', h1, h2⟩ := (HM5.out.below hb').vs ha (fun x hx => by unfold lbL at hx; have h1 := List.mem_range.1 (List.mem_filter.1 hx).1; omega)
          exact ⟨A', c', h1, h2 w' (Below.refl _ _)⟩)
        obtain ⟨hi1, hi2, -⟩ := hdL_hd (HH.out i hil)
        obtain ⟨A1, k1, hU1, -⟩ := HM5.out.vs hil (fun x hx => by unfold lbL at hx; have h1 := List.mem_range.1 (List.mem_filter.1 hx).1; have := HNL.out; omega)
        obtain ⟨L, hL⟩ : ∃ L, (lbL f.blocks (hs i) n).length = L := ⟨_, rfl⟩
        have hL70 : L ≤ 70 := by rw [← hL]; have := lbL_len f.blocks (hs i) n; omega
        rw [hL] at hU1
        have HL := Lib.hid hL
        have HU1 := Lib.hid hU1
        have hiz : (0 : Int) ≤ i := by omega
        have hizm : (i : Int) < m := by omega
        clear hb hL hU1 hgz
        go_upto_region 11 with fail
        go_loopg [8] L (fun gk s8 wq => ∃ k : Nat, k ≤ L ∧ gk = L - k ∧ s8 = .int .i64 (k : Int) ∧ Below w5.heap.size w5 wq)
        case atStart => exact ⟨0, Nat.zero_le _, rfl, rfl, HBI.out⟩
        case round =>
          obtain ⟨k, hkL, rfl, rfl, hb⟩ := hrel
          have HBK := Lib.hid hb
          have hMr := HM5.out.below hb
          obtain ⟨g', cap', hUg', -, hgz', q0, q1, -⟩ := hMr.at_ hil
          rw [HU0.out] at hUg'
          injection hUg' with hUa' _ hUc'
          injection hUa' with hUa'
          injection hUa' with hUa'
          subst hUa' hUc'
          rw [HU1.out] at q1
          by_cases hkl : k < L
          · obtain ⟨A2, k2, hU2, hs2⟩ := hMr.vs hil (fun x hx => by unfold lbL at hx; have h1 := List.mem_range.1 (List.mem_filter.1 hx).1; omega)
            rw [HU1.out] at hU2
            injection hU2 with hA2 hL2 hk2
            subst hA2 hk2
            clear hL2
            have hs3 := hs2 wr (Below.refl _ _)
            rw [HU1.out] at hs3
            obtain ⟨A3, k3, hA3, hs4⟩ := hs3
            injection hA3 with hA4 hL4 hk4
            subst hA4 hk4
            clear hL4
            obtain ⟨bt, ot, x, rfl, hx, hxc, -⟩ := hs4.int (k := k) (by rw [zs_len, HL.out]; exact hkl)
            obtain ⟨q, hq, rfl⟩ := zs_at hx.out
            have hqm := List.mem_of_getElem? hq
            unfold lbL at hqm
            have hql : lpB f.blocks (hs i) q = true := by simpa using (List.mem_filter.1 hqm).2
            have hqn : q < n := List.mem_range.1 (List.mem_filter.1 hqm).1
            have hgr := HG5.out.below hb
            have y1 := hgr.row.cell hi2
            have y2 := (hgr.cells (hs i) hi2).cell hqn
            rw [lp_dm HNB.out hql] at y2
            have hkz : (0 : Int) ≤ k := by omega
            have hkzm : (k : Int) < L := by omega
            have hqz : (0 : Int) ≤ q := by omega
            have hqzm : (q : Int) < n := by omega
            have hhz : (0 : Int) ≤ hs i := by omega
            have hhzm : ((hs i : Nat) : Int) < n := by omega
            have e1 : decide ((q : Int) < 0) = false := decide_eq_false (by omega)
            have e2 : decide ((q : Int) ≥ n) = false := decide_eq_false (by omega)
            have e3 : decide (((hs i : Nat) : Int) < 0) = false := decide_eq_false (by omega)
            have e4 : decide (((hs i : Nat) : Int) ≥ n) = false := decide_eq_false (by omega)
            clear hMr hgr hs2 hs4 hx hq hqm hb hgz'
            go_upto_region 14 with fail
            clear q1 hxc
            go_cut [101] (fun s101 wc => s101 = .bool false ∧ wc = wr)
            case first =>
              go_wp2_with fail
              go_meet
              exact ⟨by rw [decide_eq_false (show ¬ n ≤ q by omega), decide_eq_false (show ¬ n ≤ hs i by omega)]; rfl, rfl⟩
            case rest =>
              obtain ⟨rfl, rfl⟩ := hcut
              clear q0 y1 y2
              go_wp2_with fail
              go_roundg (L - (k + 1))
              case measure => omega
              case rel => exact ⟨k + 1, by omega, rfl, by go_num, HBK.out⟩
          · have hke : ¬ ((k : Int) < L) := by omega
            clear hMr hgz' hb
            clear hkL
            go_upto_region 17 with fail
            clear q0 q1
            clear hke hkl
            go_loopg [10] i (fun gk s10 wq => ∃ j : Nat, j ≤ i ∧ gk = i - j ∧ s10 = .int .i64 (j : Int) ∧ Below w5.heap.size w5 wq)
            case atStart => exact ⟨0, Nat.zero_le _, rfl, rfl, HBK.out⟩
            case round =>
              clear HBK
              obtain ⟨j, hji, rfl, rfl, hb⟩ := hrel
              have HBJ := Lib.hid hb
              by_cases hjl : j < i
              · have hjm : j < m := by omega
                obtain ⟨hj1, hj2, hj3⟩ := hdL_hd (HH.out j hjm)
                have hne : hs j ≠ hs i := fun e => by
                  have h1 := hdL_hd (HH.out i hil)
                  rw [e] at hj3
                  omega
                have hjz : (0 : Int) ≤ j := by omega
                have hjzm : (j : Int) < m := by omega
                clear hb
                go_upto_region 21 with fail
                go_loopg [11, 12] L (fun gk s11 s12 wq => ∃ (k : Nat) (t : Bool), k ≤ L ∧ gk = L - k ∧ s12 = .int .i64 (k : Int) ∧ s11 = .bool t ∧ (t = true → ∃ q, lpB f.blocks (hs i) q = true ∧ lpB f.blocks (hs j) q = true) ∧ Below w5.heap.size w5 wq)
                case atStart => exact ⟨0, false, Nat.zero_le _, rfl, rfl, rfl, (fun e => absurd e (by decide)), HBJ.out⟩
                case round =>
                  clear HBJ
                  obtain ⟨k, t, hkL, rfl, rfl, rfl, ht, hb⟩ := hrel
                  have HBK := Lib.hid hb
                  have HT := Lib.hid ht
                  obtain ⟨p0, p1⟩ := HAT.out wr hb i hil
                  obtain ⟨r0, r1⟩ := HAT.out wr hb j hjm
                  rw [HU1.out] at p1
                  obtain ⟨Aj, cj, hUj, hVj⟩ := HVS.out wr hb j hjm
                  rw [hUj] at r1 hVj
                  by_cases hkl : k < L
                  · obtain ⟨A2, k2, hU2, hs3⟩ := HVS.out wr hb i hil
                    rw [HU1.out] at hU2 hs3
                    obtain ⟨A3, k3, hA3, hs4⟩ := hs3
                    injection hA3 with hA4 hL4 hk4
                    subst hA4 hk4
                    clear hL4
                    obtain ⟨bt, ot, x, rfl, hx, hxc, -⟩ := hs4.int (k := k) (by rw [zs_len, HL.out]; exact hkl)
                    obtain ⟨q, hq, rfl⟩ := zs_at hx.out
                    have hqm := List.mem_of_getElem? hq
                    unfold lbL at hqm
                    have hql : Hid (lpB f.blocks (hs i) q = true) := Lib.hid (by simpa using (List.mem_filter.1 hqm).2)
                    have HHA : Hid (∀ nq, Calls Try.prog 16 #[.slice Aj (lbL f.blocks (hs j) n).length cj, .int .i64 (q : Int)] (wr.drewN nq) fun e w' => e = .returned (.bool (decide ((q : Int) ∈ zs (lbL f.blocks (hs j) n)))) ∧ ∃ m, w' = (wr.drewN nq).drewN m) := Lib.hid (fun nq => by
                      obtain ⟨A', c', h1, h2⟩ := HVS.out (wr.drewN nq) (below_drewN hb nq) j hjm
                      rw [hUj] at h1 h2
                      exact has_q _ _ _ _ h2)
                    have hkz : (0 : Int) ≤ k := by omega
                    have hkzm : (k : Int) < L := by omega
                    clear hU2 hs4 hx hq hqm hb ht hUj hVj p0 r0
                    cases t
                    · go_wp2_with fail
                      go_quiet ((go_at_call 16; exact Calls.quiet_of (HHA.out _)))
                      clear p1 r1 hxc
                      go_wp2_with fail
                      go_roundg (L - (k + 1))
                      case measure => omega
                      case rel =>
                        refine ⟨k + 1, decide ((q : Int) ∈ zs (lbL f.blocks (hs j) n)), by omega, rfl, by go_num, rfl, fun e => ?_, below_drewN HBK.out _⟩
                        obtain ⟨q', hq', e2⟩ := zs_mem (of_decide_eq_true e)
                        obtain rfl : q' = q := by omega
                        unfold lbL at hq'
                        exact ⟨q', hql.out, by simpa using (List.mem_filter.1 hq').2⟩
                    · go_wp2_with fail
                      go_quiet ((go_at_call 16; exact Calls.quiet_of (HHA.out _)))
                      clear p1 r1 hxc
                      go_wp2_with fail
                      go_roundg (L - (k + 1))
                      case measure => omega
                      case rel => exact ⟨k + 1, true, by omega, rfl, by go_num, rfl, fun _ => HT.out (by first | rfl | trivial), below_drewN HBK.out _⟩
                  · have hjie : (((hs j : Nat) : Int) == ((hs i : Nat) : Int)) = false := by rw [beq_eq_false_iff_ne]; omega
                    have HC1 : Hid (∀ nq, Calls Try.prog 16 #[.slice A1 L k1, .int .i64 ((hs j : Nat) : Int)] (wr.drewN nq) fun e w' => e = .returned (.bool (lpB f.blocks (hs i) (hs j))) ∧ ∃ m, w' = (wr.drewN nq).drewN m) := Lib.hid (fun nq => by
                      obtain ⟨A', c', h1, h2⟩ := HVS.out (wr.drewN nq) (below_drewN hb nq) i hil
                      rw [HU1.out] at h2
                      have h3 := has_q _ ((hs j : Nat) : Int) _ _ h2
                      rwa [mem_lbL _ _ hj2] at h3)
                    have HC2 : Hid (∀ nq, Calls Try.prog 16 #[.slice Aj (lbL f.blocks (hs j) n).length cj, .int .i64 ((hs i : Nat) : Int)] (wr.drewN nq) fun e w' => e = .returned (.bool (lpB f.blocks (hs j) (hs i))) ∧ ∃ m, w' = (wr.drewN nq).drewN m) := Lib.hid (fun nq => by
                      obtain ⟨A', c', h1, h2⟩ := HVS.out (wr.drewN nq) (below_drewN hb nq) j hjm
                      rw [hUj] at h2
                      have h3 := has_q _ ((hs i : Nat) : Int) _ _ h2
                      rwa [mem_lbL _ _ hi2] at h3)
                    have hke : ¬ ((k : Int) < L) := by omega
                    clear hb ht hUj hVj hkl hkL
                    cases t
                    · go_wp2_with fail
                      go_quiet (fail)
                      clear p0 p1 r0 r1
                      go_wp2_with fail
                      go_roundg (i - (j + 1))
                      case measure => omega
                      case rel => exact ⟨j + 1, by omega, rfl, by go_num, below_drewN HBK.out _⟩
                    · obtain ⟨q, hq1, hq2⟩ := HT.out rfl
                      cases hl1 : lpB f.blocks (hs i) (hs j)
                      · have hl2 : lpB f.blocks (hs j) (hs i) = true := by
                          rcases lp_nest HNB.out hq1 hq2 with h | h
                          · rw [hl1] at h; cases h
                          · exact h
                        rw [hl1] at HC1
                        rw [hl2] at HC2
                        clear hq1 hq2 hl1 hl2
                        go_wp2_with fail
                        go_quiet ((go_at_call 16; first | with_reducible exact Calls.quiet_of (HC1.out _) | with_reducible exact Calls.quiet_of (HC2.out _)))
                        clear p0 p1 r0 r1
                        go_wp2_with fail
                        go_roundg (i - (j + 1))
                        case measure => omega
                        case rel => exact ⟨j + 1, by omega, rfl, by go_num, below_drewN HBK.out _⟩
                      · rw [hl1] at HC1
                        clear hq1 hq2 hl1
                        go_wp2_with fail
                        go_quiet ((go_at_call 16; exact Calls.quiet_of (HC1.out _)))
                        clear p0 p1 r0 r1
                        go_wp2_with fail
                        go_roundg (i - (j + 1))
                        case measure => omega
                        case rel => exact ⟨j + 1, by omega, rfl, by go_num, below_drewN HBK.out _⟩
              · have HBJ2 := Lib.hid hb
                have hjie : ¬ ((j : Int) < i) := by omega
                clear hb hjl hji HBJ
                go_wp2_with fail
                go_roundg (m - (i + 1))
                case measure => omega
                case rel => exact ⟨i + 1, by omega, rfl, by go_num, HBJ2.out⟩
      · have hme : ¬ ((i : Int) < m) := by omega
        clear hb hil him
        go_wp2_with fail
        go_ret
        exact ⟨rfl, HB5.out.trans (HBI.out.mono HB5.out.size)⟩
end Go.Proofs.Ytbhndfknjkeilaa
