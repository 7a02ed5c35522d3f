/- Functions and modules that came in as arguments: what they read as. -/
import Derived.Test.YtflbooopgjgkbaaAheadLJ
import Derived.ProofKit
import Derived.Test.YtflbooopgjgkbaaLpDJ
import Derived.Test.YtflbooopgjgkbaaLpF2J
import Derived.BigQuiet
import Derived.Deep.RegionHeld3
namespace Go.Proofs.Ytflbooopgjgkbaa
open Go.ChangeShapes Go.WideShapes Go.RowKit Go.Deep
set_option linter.unusedVariables false

section
variable {H : Type} {enc : TypeId × Value → H} {P : Program} {w : World} {base : Nat} {spare : Nat → Bool} {held : Bool}

theorem struct_field {t : TypeId} {fs : Array Field} {fuel : Nat} {cs : List Value} {y : DataW H × List MemPlace} (ht : P.underlying t = some (.struct fs)) (h : DataW.trod enc P w base spare held fuel t cs = some y)
    (i : Nat) (f : Field) (hf : fs[i]? = some f) : ∃ n z, DataW.trod enc P w base spare held n f.type ((cs.drop f.offset).take (P.cellsOf f.type)) = some z := by
  obtain ⟨xs, n, _, _, _, hlen, hx⟩ := DataW.trod_struct ht h
  have hi : i < xs.length := by rw [hlen]; exact (Array.getElem?_eq_some_iff.1 hf).1
  exact ⟨n, xs[i], (hx i f hf).trans (List.getElem?_eq_getElem hi)⟩
theorem field_of {t : TypeId} {fs : Array Field} {fuel : Nat} {cs : List Value} {y : DataW H × List MemPlace} (ht : P.underlying t = some (.struct fs)) (h : DataW.trod enc P w base spare held fuel t cs = some y)
    (i : Nat) {f : Field} (hf : fs[i]? = some f) {t' : TypeId} {c k : Nat} (hft : f.type = t') (hk : f.offset = k) (hc : P.cellsOf t' = c) : ∃ n z, DataW.trod enc P w base spare held n t' ((cs.drop k).take c) = some z := by
  subst hft hk hc
  exact struct_field ht h i f hf
theorem drop_take_one {cs : List Value} {k : Nat} (hk : k < cs.length) : (cs.drop k).take 1 = [cs[k]] := by
  rw [List.drop_eq_getElem_cons hk]; rfl
theorem int_field {t : TypeId} {n k : Nat} {cs : List Value} {z : DataW H × List MemPlace} (ht : P.underlying t = some (.int .i64)) (hk : k < cs.length) (h : DataW.trod enc P w base spare held n t ((cs.drop k).take 1) = some z) :
    ∃ x, cs[k]? = some (.int .i64 x) ∧ I64 x := by
  rw [drop_take_one hk] at h
  obtain ⟨x, hx, _, hw⟩ := DataW.trod_int ht h
  exact ⟨x, by rw [List.getElem?_eq_getElem hk]; exact congrArg some (List.cons.inj hx).1, wf_i64 hw⟩
theorem slice_field {α : Type} [Inhabited α] {t e : TypeId} {sz : Nat} {R : World → Nat → Nat → α → Prop} {n k : Nat} {cs : List Value} {z : DataW H × List MemPlace} (ht : P.underlying t = some (.slice e)) (hsz : P.cellsOf e = sz) (hpos : 0 < sz)
    (hR : Opens enc P w base spare held e sz R) (hk : k < cs.length) (h : DataW.trod enc P w base spare held n t ((cs.drop k).take 1) = some z) : ∃ A c xs, cs[k]? = some (.slice A xs.length c) ∧ SL w sz R A c xs := by
  rw [drop_take_one hk] at h
  obtain ⟨xs, A, c, e, hs⟩ := open_vs ht hsz hpos hR h
  exact ⟨A, c, xs, by rw [List.getElem?_eq_getElem hk, e], hs⟩
end

theorem Try.cells3 : Try.prog.cellsOf 3 = 1 := by kernel_rfl
theorem Try.cells2 : Try.prog.cellsOf 2 = 1 := by kernel_rfl
theorem Try.cells22 : Try.prog.cellsOf 22 = 1 := by kernel_rfl
theorem Try.cells49 : Try.prog.cellsOf 49 = 1 := by kernel_rfl
theorem Try.cells50 : Try.prog.cellsOf 50 = 1 := by kernel_rfl
theorem Try.cells23 : Try.prog.cellsOf 23 = 1 := by kernel_rfl
theorem Try.cells36 : Try.prog.cellsOf 36 = 1 := by kernel_rfl
theorem Try.cells83 : Try.prog.cellsOf 83 = 2 := by kernel_rfl
theorem Try.cells55 : Try.prog.cellsOf 55 = 5 := by kernel_rfl
theorem Try.cells48 : Try.prog.cellsOf 48 = 3 := by kernel_rfl
theorem Try.cells52 : Try.prog.cellsOf 52 = 5 := by kernel_rfl
theorem Try.cells25 : Try.prog.cellsOf 25 = 4 := by kernel_rfl
theorem Try.cells38 : Try.prog.cellsOf 38 = 1 := by kernel_rfl

section
variable {H : Type} {enc : TypeId × Value → H} {w : World} {base : Nat} {spare : Nat → Bool} {held : Bool}

theorem opens_int : Opens enc Try.prog w base spare held 3 1 RInt := fun n b o cs y hlen hat h => by
  obtain ⟨x, rfl, _, hw⟩ := DataW.trod_int Try.underlying3 h
  exact ⟨x, (hat 0 (by omega)).trans rfl, wf_i64 hw⟩
theorem field_int {fs : Array Field} {t : TypeId} {fuel : Nat} {cs : List Value} {y : DataW H × List MemPlace} (ht : Try.prog.underlying t = some (.struct fs)) (h : DataW.trod enc Try.prog w base spare held fuel t cs = some y)
    (i : Nat) (f : Field) (hf : fs[i]? = some f) (hft : f.type = 3) (hk : f.offset < cs.length) : ∃ x, cs[f.offset]? = some (.int .i64 x) ∧ I64 x := by
  obtain ⟨n, z, hz⟩ := struct_field ht h i f hf
  rw [hft, Try.cells3] at hz
  exact int_field Try.underlying3 hk hz
theorem field_int64 {fs : Array Field} {t : TypeId} {fuel : Nat} {cs : List Value} {y : DataW H × List MemPlace} (ht : Try.prog.underlying t = some (.struct fs)) (h : DataW.trod enc Try.prog w base spare held fuel t cs = some y)
    (i : Nat) (f : Field) (hf : fs[i]? = some f) (hft : f.type = 2) (hk : f.offset < cs.length) : ∃ x, cs[f.offset]? = some (.int .i64 x) ∧ I64 x := by
  obtain ⟨n, z, hz⟩ := struct_field ht h i f hf
  rw [hft, Try.cells2] at hz
  exact int_field Try.underlying2 hk hz
theorem field_ints {fs : Array Field} {t : TypeId} {fuel : Nat} {cs : List Value} {y : DataW H × List MemPlace} (ht : Try.prog.underlying t = some (.struct fs)) (h : DataW.trod enc Try.prog w base spare held fuel t cs = some y)
    (i : Nat) (f : Field) (hf : fs[i]? = some f) (hft : f.type = 22) (hk : f.offset < cs.length) : ∃ A c, ∃ xs : List Int, cs[f.offset]? = some (.slice A xs.length c) ∧ SL w 1 RInt A c xs := by
  obtain ⟨n, z, hz⟩ := struct_field ht h i f hf
  rw [hft, Try.cells22] at hz
  exact slice_field Try.underlying22 Try.cells3 (by omega) opens_int hk hz
theorem opens_phi : Opens enc Try.prog w base spare held 83 2 RPhi := fun n b o cs y hlen hat h => by
  obtain ⟨x, h0, w0⟩ := field_int Try.underlying83 h 0 _ rfl rfl (by simp; omega)
  obtain ⟨A, c, xs, h1, w1⟩ := field_ints Try.underlying83 h 1 _ rfl rfl (by simp; omega)
  exact ⟨⟨x, xs⟩, ⟨(hat 0 (by omega)).trans h0, w0⟩, A, c, (hat 1 (by omega)).trans h1, w1⟩
theorem opens_ins : Opens enc Try.prog w base spare held 55 5 RIns := fun n b o cs y hlen hat h => by
  obtain ⟨x0, h0, w0⟩ := field_int Try.underlying55 h 0 _ rfl rfl (by simp; omega)
  obtain ⟨x1, h1, w1⟩ := field_int Try.underlying55 h 1 _ rfl rfl (by simp; omega)
  obtain ⟨A, c, xs, h2, w2⟩ := field_ints Try.underlying55 h 2 _ rfl rfl (by simp; omega)
  obtain ⟨x3, h3, w3⟩ := field_int64 Try.underlying55 h 3 _ rfl rfl (by simp; omega)
  obtain ⟨x4, h4, w4⟩ := field_int Try.underlying55 h 4 _ rfl rfl (by simp; omega)
  exact ⟨⟨x0, x1, xs, x3, x4⟩, ⟨(hat 0 (by omega)).trans h0, w0⟩, ⟨(hat 1 (by omega)).trans h1, w1⟩, ⟨A, c, (hat 2 (by omega)).trans h2, w2⟩, ⟨(hat 3 (by omega)).trans h3, w3⟩, ⟨(hat 4 (by omega)).trans h4, w4⟩⟩
theorem opens_blk : Opens enc Try.prog w base spare held 52 5 RBlk := fun n b o cs y hlen hat h => by
  obtain ⟨n0, z0, hz0⟩ := field_of Try.underlying52 h 0 rfl rfl rfl Try.cells49
  obtain ⟨A0, c0, ps, h0, w0⟩ := slice_field Try.underlying49 Try.cells83 (by omega) opens_phi (by simp; omega) hz0
  obtain ⟨n1, z1, hz1⟩ := field_of Try.underlying52 h 1 rfl rfl rfl Try.cells50
  obtain ⟨A1, c1, is, h1, w1⟩ := slice_field Try.underlying50 Try.cells55 (by omega) opens_ins (by simp; omega) hz1
  obtain ⟨n2, z2, hz2⟩ := field_of Try.underlying52 h 2 rfl rfl rfl Try.cells48
  have hl2 : ((cs.drop 2).take 3).length = 3 := by simp; omega
  obtain ⟨x2, h2, w2⟩ := field_int Try.underlying48 hz2 0 _ rfl rfl (by simp; omega)
  obtain ⟨x3, h3, w3⟩ := field_int Try.underlying48 hz2 1 _ rfl rfl (by simp; omega)
  obtain ⟨A4, c4, xs, h4, w4⟩ := field_ints Try.underlying48 hz2 2 _ rfl rfl (by simp; omega)
  have g (i : Nat) (hi : i < 3) : ((cs.drop 2).take 3)[i]? = cs[2 + i]? := by rw [List.getElem?_take_of_lt hi, List.getElem?_drop]
  exact ⟨⟨ps, is, ⟨x2, x3, xs⟩⟩, ⟨A0, c0, (hat 0 (by omega)).trans h0, w0⟩, ⟨A1, c1, (hat 1 (by omega)).trans h1, w1⟩, ⟨(hat 2 (by omega)).trans ((g 0 (by omega)).symm.trans h2), w2⟩, ⟨(hat 3 (by omega)).trans ((g 1 (by omega)).symm.trans h3), w3⟩, ⟨A4, c4, (hat 4 (by omega)).trans ((g 2 (by omega)).symm.trans h4), w4⟩⟩
theorem opens_fun : Opens enc Try.prog w base spare held 25 4 RFun := fun n b o cs y hlen hat h => by
  obtain ⟨x0, h0, w0⟩ := field_int Try.underlying25 h 0 _ rfl rfl (by simp; omega)
  obtain ⟨x1, h1, w1⟩ := field_int Try.underlying25 h 1 _ rfl rfl (by simp; omega)
  obtain ⟨A2, c2, xs, h2, w2⟩ := field_ints Try.underlying25 h 2 _ rfl rfl (by simp; omega)
  obtain ⟨n3, z3, hz3⟩ := field_of Try.underlying25 h 3 rfl rfl rfl Try.cells23
  obtain ⟨A3, c3, bs, h3, w3⟩ := slice_field Try.underlying23 Try.cells52 (by omega) opens_blk (by simp; omega) hz3
  exact ⟨⟨x0, x1, xs, bs⟩, ⟨(hat 0 (by omega)).trans h0, w0⟩, ⟨(hat 1 (by omega)).trans h1, w1⟩, ⟨A2, c2, (hat 2 (by omega)).trans h2, w2⟩, ⟨A3, c3, (hat 3 (by omega)).trans h3, w3⟩⟩

set_option maxRecDepth 100000 in
/-- A function by value. -/
theorem open_fun {r : Go.Reach} {b0 : Nat} {v : Value} {d : DataW H} {p : List MemPlace} (hv : Value.okWide Try.prog w r b0 25 v) (h : DataW.Trod enc Try.prog w base spare held 25 v d p) : ∃ f, VFun w v f := by
  obtain ⟨cs, rfl, hsz⟩ := okWide_struct Try.underlying25 hv
  rw [Try.cells25] at hsz
  obtain ⟨l⟩ := cs
  match l, hsz with
  | [a, b, c, d], _ =>
    obtain ⟨fuel, hf⟩ := h
    have hf : DataW.trod enc Try.prog w base spare held fuel 25 [a, b, c, d] = some (_, p) := hf
    obtain ⟨x0, h0, w0⟩ := field_int Try.underlying25 hf 0 _ rfl rfl (by simp)
    obtain ⟨x1, h1, w1⟩ := field_int Try.underlying25 hf 1 _ rfl rfl (by simp)
    obtain ⟨A2, c2, xs, h2, w2⟩ := field_ints Try.underlying25 hf 2 _ rfl rfl (by simp)
    obtain ⟨n3, z3, hz3⟩ := field_of Try.underlying25 hf 3 rfl rfl rfl Try.cells23
    obtain ⟨A3, c3, bs, h3, w3⟩ := slice_field Try.underlying23 Try.cells52 (by omega) opens_blk (by simp) hz3
    obtain rfl := Option.some.inj h0
    obtain rfl := Option.some.inj h1
    obtain rfl := Option.some.inj h2
    obtain rfl := Option.some.inj h3
    exact ⟨⟨x0, x1, xs, bs⟩, A2, c2, A3, c3, rfl, w2, w3, w0, w1⟩
set_option maxRecDepth 100000 in
/-- A module by value. -/
theorem open_mod {r : Go.Reach} {b0 : Nat} {v : Value} {d : DataW H} {p : List MemPlace} (hv : Value.okWide Try.prog w r b0 38 v) (h : DataW.Trod enc Try.prog w base spare held 38 v d p) : ∃ m, VMod w v m := by
  obtain ⟨cs, rfl, hsz⟩ := okWide_struct Try.underlying38 hv
  rw [Try.cells38] at hsz
  obtain ⟨l⟩ := cs
  match l, hsz with
  | [a], _ =>
    obtain ⟨fuel, hf⟩ := h
    have hf : DataW.trod enc Try.prog w base spare held fuel 38 [a] = some (_, p) := hf
    obtain ⟨n3, z3, hz3⟩ := field_of Try.underlying38 hf 0 rfl rfl rfl Try.cells36
    obtain ⟨A3, c3, bs, h3, w3⟩ := slice_field Try.underlying36 Try.cells25 (by omega) opens_fun (by simp) hz3
    obtain rfl := Option.some.inj h3
    exact ⟨bs, A3, c3, rfl, w3⟩
end
end Go.Proofs.Ytflbooopgjgkbaa

/- The walk of LoopsFinds. -/
namespace Go.Proofs.Ytflbooopgjgkbaa
open Go.ChangeShapes Go.WideShapes Go.RowKit Go.Deep
set_option linter.unusedVariables false

/-- In how many of the first i loops a block is. -/
def dpc (bs : List BlkD) (i b : Nat) : Nat := (((hdL bs bs.length).take i).filter fun h => lpB bs h b).length
theorem dpc_zero (bs : List BlkD) (b : Nat) : dpc bs 0 b = 0 := by simp [dpc]
theorem dpc_step {bs : List BlkD} {i h : Nat} (hi : (hdL bs bs.length)[i]? = some h) (b : Nat) : dpc bs (i + 1) b = dpc bs i b + (if lpB bs h b = true then 1 else 0) := by
  unfold dpc
  rw [take_succ_of hi, List.filter_append, List.length_append]
  congr 1
  cases e : lpB bs h b <;> simp [e]
theorem dpc_le (bs : List BlkD) (i b : Nat) : dpc bs i b ≤ bs.length := by
  unfold dpc
  refine Nat.le_trans (List.length_filter_le _ _) ?_
  have := hdL_len bs bs.length
  simp; omega
theorem dpc_all {bs : List BlkD} {i : Nat} (hi : (hdL bs bs.length).length ≤ i) (b : Nat) : dpc bs i b = dpN bs b := by
  unfold dpc dpN
  rw [List.take_of_length_le hi]
  unfold hdL
  rw [List.filter_filter]
  congr 1
  refine List.filter_congr fun h _ => ?_
  cases e : lpB bs h b
  · rfl
  · rw [lp_hd e]; rfl
/-- With the first k blocks of one loop more. -/
def dpk (bs : List BlkD) (i h k b : Nat) : Nat := dpc bs i b + (if b ∈ (lbL bs h bs.length).take k then 1 else 0)
theorem dpk_zero (bs : List BlkD) (i h b : Nat) : dpk bs i h 0 b = dpc bs i b := by simp [dpk]
theorem lbL_nodup (bs : List BlkD) (h n : Nat) : (lbL bs h n).Nodup := List.Pairwise.filter _ List.nodup_range
theorem dpk_step {bs : List BlkD} {i h k y : Nat} (hy : (lbL bs h bs.length)[k]? = some y) (b : Nat) : dpk bs i h (k + 1) b = if b = y then dpk bs i h k y + 1 else dpk bs i h k b := by
  have hnew : y ∉ (lbL bs h bs.length).take k := by
    intro hm
    obtain ⟨j, hj⟩ := List.mem_iff_getElem?.1 hm
    have hjk : j < k := by have := (List.getElem?_eq_some_iff.1 hj).1; simp at this; omega
    rw [List.getElem?_take_of_lt hjk] at hj
    have h1 := List.getElem?_eq_some_iff.1 hj
    have h2 := List.getElem?_eq_some_iff.1 hy
    exact List.pairwise_iff_getElem.1 (lbL_nodup bs h bs.length) j k h1.1 h2.1 hjk (h1.2.trans h2.2.symm)
  unfold dpk
  rw [take_succ_of hy]
  by_cases e : b = y
  · subst e
    rw [if_pos rfl, if_neg hnew, if_pos (by simp)]
  · rw [if_neg e]
    by_cases e2 : b ∈ (lbL bs h bs.length).take k
    · rw [if_pos e2, if_pos (by simp [e2])]
    · rw [if_neg e2, if_neg (by simp [e2, e])]
theorem dpk_le (bs : List BlkD) (i h k b : Nat) : dpk bs i h k b ≤ bs.length + 1 := by unfold dpk; have := dpc_le bs i b; split <;> omega
theorem dpk_all {bs : List BlkD} {i h k : Nat} (hi : (hdL bs bs.length)[i]? = some h) (hk : (lbL bs h bs.length).length ≤ k) {b : Nat} (hb : b < bs.length) : dpk bs i h k b = dpc bs (i + 1) b := by
  unfold dpk
  rw [dpc_step hi, List.take_of_length_le hk]
  congr 1
  by_cases e : lpB bs h b = true
  · rw [if_pos e, if_pos]; unfold lbL; exact List.mem_filter.2 ⟨List.mem_range.2 hb, e⟩
  · rw [if_neg e, if_neg]; unfold lbL; intro hm; exact e (List.mem_filter.1 hm).2
theorem lbL_lt {bs : List BlkD} {h n x : Nat} (hx : x ∈ lbL bs h n) : x < n := by unfold lbL at hx; exact List.mem_range.1 (List.mem_filter.1 hx).1
theorem enL_lt {bs : List BlkD} {h x : Nat} (hx : x ∈ enL bs h) : x < bs.length := by unfold enL at hx; exact (ra_mem.1 (List.mem_filter.1 hx).1).1

set_option maxRecDepth 100000 in
set_option maxHeartbeats 16000000 in
theorem loopsFinds_walk (f : FunD) (v : Value) (w : World) (hv : VFun w v f) :
    Calls Try.prog 3 #[v] w fun e w' => e = .returned (.bool true) ∧ Below w.heap.size w w' := by
  have hv0 := hv
  obtain ⟨Ar, cr, A, c, rfl, -, -, -, -⟩ := hv
  have HV := Lib.hid hv0
  clear hv0
  go_enter Try.func3, Try.ntmps3
  go_wp2_with fail
  obtain ⟨w1, hw1, hs1, hk1, hbel1, hc1, -⟩ := named w #[.int .i64 f.params, .int .i64 f.result, .slice Ar f.regs.length cr, .slice A f.blocks.length c] 25
  rw [← hw1]
  refine (up7_any w1).mono ?_
  rintro e w2 ⟨rfl, hb2⟩
  have hk2 := kept_of_below hb2
  have c0 := hk2 _ _ (hc1 0 _ rfl)
  have c1 := hk2 _ _ (hc1 1 _ rfl)
  have c2 := hk2 _ _ (hc1 2 _ rfl)
  have c3 := hk2 _ _ (hc1 3 _ rfl)
  have HB2 : Hid (Below w.heap.size w w2) := Lib.hid (hbel1.trans (hb2.mono (by omega)))
  obtain ⟨N, hN⟩ : ∃ N, N = w.heap.size := ⟨_, rfl⟩
  have HN : Hid (N < w2.heap.size) := Lib.hid (by have := hb2.size; omega)
  rw [← hN] at c0 c1 c2 c3 ⊢
  clear hw1 hs1 hbel1 hc1 hb2 hk1 hk2 hN
  go_wp2_with fail
  refine (small7_any f _ w2 (VFun.keep (kept_of_below HB2.out) HV.out)).mono ?_
  rintro e w3 ⟨⟨bs, rfl, hsm⟩, hb3⟩
  have hk3 := kept_of_below hb3
  have c0 := hk3 _ _ c0
  have c1 := hk3 _ _ c1
  have c2 := hk3 _ _ c2
  have c3 := hk3 _ _ c3
  have HB3 : Hid (Below w.heap.size w w3) := Lib.hid (HB2.out.trans (hb3.mono HB2.out.size))
  cases bs
  · clear hb3 hk3 hsm
    go_wp2_with fail
    go_ret
    exact ⟨rfl, HB3.out⟩
  · have hn : f.blocks.length ≤ 70 := (hsm rfl).1
    clear hb3 hk3 hsm
    go_wp2_with fail
    refine (loops_any f _ w3 (VFun.keep (kept_of_below HB3.out) HV.out) (by omega)).mono ?_
    rintro e w4 ⟨⟨U, hs, rfl, hH, hM, ord, hNB⟩, hb4⟩
    have hk4 := kept_of_below hb4
    have c0 := hk4 _ _ c0
    have c1 := hk4 _ _ c1
    have c2 := hk4 _ _ c2
    have c3 := hk4 _ _ c3
    have HB4 : Hid (Below w.heap.size w w4) := Lib.hid (HB3.out.trans (hb4.mono HB3.out.size))
    obtain ⟨m, hm⟩ : ∃ m, (hdL f.blocks f.blocks.length).length = m := ⟨_, rfl⟩
    have hm70 : m ≤ 70 := by rw [← hm]; have := hdL_len f.blocks f.blocks.length; omega
    rw [hm] at hH hM
    have HMM := Lib.hid hm
    obtain ⟨Al, cl, hU0⟩ := own_sliceL (show w4.ownsRow w3.heap.size 31 3 (U 0) m _ from hM.own 0 (by omega))
    rw [hU0]
    have HU0 := Lib.hid hU0
    have HH := Lib.hid hH
    have HM := Lib.hid hM
    have HNB := Lib.hid hNB
    clear hb4 hk4 hU0 hH hM hNB hm
    go_wp2_with fail
    refine (refLoops_any f _ w4 (VFun.keep (kept_of_below HB4.out) HV.out) (by omega)).mono ?_
    rintro e w5 ⟨⟨vR, UR, hsR, rfl, hHR, hR⟩, hb5⟩
    rw [HMM.out] at hHR hR
    obtain ⟨Bl, dl, hvR⟩ := own_sliceL hR.own
    subst hvR
    have hk5 := kept_of_below hb5
    have c0 := hk5 _ _ c0
    have c1 := hk5 _ _ c1
    have c2 := hk5 _ _ c2
    have c3 := hk5 _ _ c3
    have HB5 : Hid (Below w.heap.size w w5) := Lib.hid (HB4.out.trans (hb5.mono HB4.out.size))
    have HES : Hid (∀ i, i < m → hsR i = hs i) := Lib.hid (fun i hi => Option.some.inj ((hHR i hi).symm.trans (HH.out i hi)))
    have HHD : Hid (∀ i, i < m → hdB f.blocks (hs i) = true ∧ hs i < f.blocks.length) := Lib.hid (fun i hi => ⟨(hdL_hd (HH.out i hi)).1, (hdL_hd (HH.out i hi)).2.1⟩)
    have HAT : Hid (∀ W, Below w5.heap.size w5 W → ∀ i, i < m → ∃ g Ab cb Ae ce, Al = some ⟨g, 0, none⟩ ∧ W.cell? ⟨g, i * 3, none⟩ = some (.int .i64 (hs i : Int)) ∧ W.cell? ⟨g, i * 3 + 1, none⟩ = some (.slice Ab (zs (lbL f.blocks (hs i) f.blocks.length)).length cb) ∧ W.cell? ⟨g, i * 3 + 2, none⟩ = some (.slice Ae (zs (enL f.blocks (hs i))).length ce) ∧
        SL W 1 RInt Ab cb (zs (lbL f.blocks (hs i) f.blocks.length)) ∧ SL W 1 RInt Ae ce (zs (enL f.blocks (hs i)))) := Lib.hid (fun W hW i hi => by
      have hbW : Below w4.heap.size w4 W := hb5.trans (hW.mono hb5.size)
      obtain ⟨g, cap, hUg, -, -, q0, q1, q2⟩ := (HM.out.below hbW).at_ hi
      rw [HU0.out] at hUg
      injection hUg with e1 _ _
      obtain ⟨Ab, cb, e2, h2⟩ := HM.out.vs hi (fun x hx => by have := lbL_lt hx; omega)
      obtain ⟨Ae, ce, e3, h3⟩ := HM.out.vsE hi (fun x hx => by have := enL_lt hx; omega)
      obtain ⟨A2, c2, e4, h4⟩ := h2 W hbW
      obtain ⟨A3, c3, e5, h5⟩ := h3 W hbW
      rw [e2] at q1 e4
      rw [e3] at q2 e5
      rw [← zs_len] at q1 q2 e4 e5
      injection e4 with e6 _ e7
      injection e5 with e8 _ e9
      subst e6 e7 e8 e9
      exact ⟨g, Ab, cb, Ae, ce, e1, q0, q1, q2, h4, h5⟩)
    have HAR : Hid (∀ W, Below w5.heap.size w5 W → ∀ i, i < m → ∃ g Ab cb Ae ce, Bl = some ⟨g, 0, none⟩ ∧ W.cell? ⟨g, i * 3, none⟩ = some (.int .i64 (hs i : Int)) ∧ W.cell? ⟨g, i * 3 + 1, none⟩ = some (.slice Ab (zs (lbL f.blocks (hs i) f.blocks.length)).length cb) ∧ W.cell? ⟨g, i * 3 + 2, none⟩ = some (.slice Ae (zs (enL f.blocks (hs i))).length ce) ∧
        SL W 1 RInt Ab cb (zs (lbL f.blocks (hs i) f.blocks.length)) ∧ SL W 1 RInt Ae ce (zs (enL f.blocks (hs i)))) := Lib.hid (fun W hW i hi => by
      obtain ⟨g, cap, hUg, -, -, q0, q1, q2⟩ := (hR.below hW).at_ hi
      injection hUg with e1 _ _
      have hb1 := hR.bl i hi
      have he1 := hR.el i hi
      rw [HES.out i hi] at hb1 he1 q0
      rw [enR_all HNB.out (HHD.out i hi).2 (HHD.out i hi).1] at he1
      obtain ⟨Ab, cb, e2, h2⟩ := intR_vs hb1 (fun x hx => by have := lbL_lt hx; omega)
      obtain ⟨Ae, ce, e3, h3⟩ := intR_vs he1 (fun x hx => by have := enL_lt hx; omega)
      obtain ⟨A2, c2, e4, h4⟩ := h2 W hW
      obtain ⟨A3, c3, e5, h5⟩ := h3 W hW
      rw [e2] at q1 e4
      rw [e3] at q2 e5
      rw [← zs_len] at q1 q2 e4 e5
      injection e4 with e6 _ e7
      injection e5 with e8 _ e9
      subst e6 e7 e8 e9
      exact ⟨g, Ab, cb, Ae, ce, e1, q0, q1, q2, h4, h5⟩)
    clear hb5 hk5 hHR hR
    have hne : ((m : Int) != m) = false := by simp
    go_upto_region 7 with fail
    have hS : ∀ W, Below w5.heap.size w5 W → W.cell? ⟨N, 0, none⟩ = some (.int .i64 f.params) ∧ W.cell? ⟨N, 1, none⟩ = some (.int .i64 f.result) ∧ W.cell? ⟨N, 2, none⟩ = some (.slice Ar f.regs.length cr) ∧ W.cell? ⟨N, 3, none⟩ = some (.slice A f.blocks.length c) := fun W hW => ⟨kept_of_below hW _ _ c0, kept_of_below hW _ _ c1, kept_of_below hW _ _ c2, kept_of_below hW _ _ c3⟩
    have HCLN : Hid (∀ W, Below w5.heap.size w5 W → Calls Try.prog 12 #[.agg #[.int .i64 f.params, .int .i64 f.result, .slice Ar f.regs.length cr, .slice A f.blocks.length c]] W (ToldCl f.blocks W)) := Lib.hid (fun W hW => clean_any f _ W (VFun.keep (kept_of_below (HB5.out.trans (hW.mono HB5.out.size))) HV.out) (by omega))
    have HCLR : Hid (∀ W, Below w5.heap.size w5 W → Calls Try.prog 13 #[.agg #[.int .i64 f.params, .int .i64 f.result, .slice Ar f.regs.length cr, .slice A f.blocks.length c]] W (ToldCR f.blocks W)) := Lib.hid (fun W hW => refClean_any f _ W (VFun.keep (kept_of_below (HB5.out.trans (hW.mono HB5.out.size))) HV.out) (by omega))
    have hz5 := HB5.out.size
    have hNlt : N < w5.heap.size := by have h1 := block_lt_of_cell c0; exact h1
    clear c0 c1 c2 c3
    go_region_held3 (fun w' => w'.cell? ⟨N, 0, none⟩ = some (.int .i64 f.params) ∧ w'.cell? ⟨N, 1, none⟩ = some (.int .i64 f.result) ∧ w'.cell? ⟨N, 2, none⟩ = some (.slice Ar f.regs.length cr) ∧ w'.cell? ⟨N, 3, none⟩ = some (.slice A f.blocks.length c))
      (first
        | exact hS _ HB7.out
        | exact hS _ HB6.out
        | (refine hS _ ?_; repeat (first | exact Below.refl _ _ | refine Below.drew ?_)))
      (first
        | (go_at_call 12; refine (HCLN.out _ (Below.refl _ _).drew).mono ?_; rintro e w6 ⟨⟨r1, rfl, hr1, -⟩, hb6⟩; have HB6 := Lib.hid ((Below.refl w5.heap.size w5).drew.trans hb6); have HR1 := Lib.hid hr1)
        | (go_at_call 13; refine (HCLR.out _ HB6.out).mono ?_; rintro e w7 ⟨⟨r2, rfl, hr2⟩, hb7⟩; have HB7 : Hid (Below w5.heap.size w5 w7) := Lib.hid (HB6.out.trans (hb7.mono HB6.out.size)); have HR2 := Lib.hid hr2))
    obtain rfl : r1 = r2 := by rw [Bool.eq_iff_iff, HR1.out, HR2.out]
    rw [show (!(r1 == r1)) = false by cases r1 <;> rfl]
    have HB57 : Hid (Below w.heap.size w w7) := Lib.hid (HB5.out.trans (HB7.out.mono hz5))
    have c3 : w7.cell? ⟨N, 3, none⟩ = some (.slice A f.blocks.length c) := (hS _ HB7.out).2.2.2
    have HSN := Lib.hid hS
    clear hS hb6 hb7 HB6 hr1 hr2
    rename_i hHeld
    clear hHeld
    obtain ⟨n, hnn⟩ : ∃ n, f.blocks.length = n := ⟨_, rfl⟩
    have HNN := Lib.hid hnn
    rw [hnn] at c3 hn
    have hmk := run_make_row' (P := Try.prog) 22 3 (.int .i64 0) 8 Try.underlying22 Try.info3 rfl .i64 .i64 n (by omega) (by omega)
    clear hnn
    go_upto_region 10 with fail
    clear hmk
    obtain ⟨G, hG⟩ : ∃ G, G = w7.heap.size := ⟨_, rfl⟩
    obtain ⟨w8, hw8⟩ : ∃ w8, w8 = w7.alloc (.cells (madeCells #[.int .i64 0] n) 3) := ⟨_, rfl⟩
    have b1 : w8.heap[G]? = some (.cells (madeCells #[.int .i64 0] n) 3) := by rw [hw8, hG]; exact heap_alloc_new _ _
    have hbel : Below w7.heap.size w7 w8 := by rw [hw8]; exact (Below.refl _ _).alloc (Nat.le_refl _) _
    have HROW := Lib.hid (row_made b1)
    have HGZ : Hid (w7.heap.size = G ∧ w8.heap.size = G + 1 ∧ w5.heap.size ≤ G ∧ N < w5.heap.size) := Lib.hid ⟨hG.symm, by rw [hw8, hG]; simp, by rw [hG]; exact HB7.out.size, hNlt⟩
    have HB8 := Lib.hid hbel
    rw [← hw8, ← hG]
    clear hw8 hG b1 hbel c3
    go_wp2_with fail
    go_loopw [8] (fun s8 wq => ∃ i : Nat, i ≤ m ∧ s8 = .int .i64 (i : Int) ∧ wq.rowIs G 3 n (fun b => .int .i64 (dpc f.blocks i b : Int)) ∧ Below G w7 wq) (fun s8 _ => m - (intOf s8).toNat)
    case atStart => exact ⟨0, Nat.zero_le _, rfl, HROW.out.congr fun b _ => by rw [dpc_zero]; rfl, by have h1 := HB8.out; rw [HGZ.out.1] at h1; exact h1⟩
    case round =>
      obtain ⟨i, hi, rfl, hr, hb⟩ := hrel
      obtain ⟨wL, rfl⟩ : ∃ wL, wL = wr := ⟨_, rfl⟩
      have HR := Lib.hid hr
      have HB := Lib.hid hb
      have hb5L : Below w5.heap.size w5 wL := HB7.out.trans (hb.mono (by have := HGZ.out; omega))
      have HB5L := Lib.hid hb5L
      by_cases hil : i < m
      · obtain ⟨g1, Ab, cb, Ae, ce, rfl, p0, p1, p2, s1, s2⟩ := HAT.out wL hb5L i hil
        obtain ⟨g2, Bb, db, Be, de, rfl, q0, q1, q2, s3, s4⟩ := HAR.out wL hb5L i hil
        have hi0 : (0 : Int) ≤ i := by omega
        have hi1 : (i : Int) < m := by omega
        have hdd : ∀ l : List Int, decide (l = l) = true := fun l => decide_eq_true rfl
        have HC1 : Hid (∀ k, Calls Try.prog 14 #[.slice Ab (zs (lbL f.blocks (hs i) f.blocks.length)).length cb, .slice Bb (zs (lbL f.blocks (hs i) f.blocks.length)).length db] (wL.drewN k) fun e w' => e = .returned (.bool true) ∧ ∃ m, w' = (wL.drewN k).drewN m) := Lib.hid (fun k => by
          have h1 := sameInts_any (zs (lbL f.blocks (hs i) f.blocks.length)) (zs (lbL f.blocks (hs i) f.blocks.length)) _ _ (wL.drewN k) ⟨Ab, cb, rfl, SInts.keep (kept_of_below (below_drewN (Below.refl _ _) k)) s1⟩ ⟨Bb, db, rfl, SInts.keep (kept_of_below (below_drewN (Below.refl _ _) k)) s3⟩
          rw [hdd] at h1; exact h1)
        have HC2 : Hid (∀ k, Calls Try.prog 14 #[.slice Ae (zs (enL f.blocks (hs i))).length ce, .slice Be (zs (enL f.blocks (hs i))).length de] (wL.drewN k) fun e w' => e = .returned (.bool true) ∧ ∃ m, w' = (wL.drewN k).drewN m) := Lib.hid (fun k => by
          have h1 := sameInts_any (zs (enL f.blocks (hs i))) (zs (enL f.blocks (hs i))) _ _ (wL.drewN k) ⟨Ae, ce, rfl, SInts.keep (kept_of_below (below_drewN (Below.refl _ _) k)) s2⟩ ⟨Be, de, rfl, SInts.keep (kept_of_below (below_drewN (Below.refl _ _) k)) s4⟩
          rw [hdd] at h1; exact h1)
        have hhn : ((hs i : Int) != (hs i : Int)) = false := by simp
        obtain ⟨y, hy⟩ : ∃ y, hs i = y := ⟨_, rfl⟩
        have HY := Lib.hid hy
        rw [hy] at p0 p1 p2 q0 q1 q2 HC1 HC2 hhn
        clear s1 s2 s3 s4 hb hb5L hr hdd hy
        go_upto_region 13 with fail
        go_quiet ((go_at_call 14; first | with_reducible exact Calls.quiet_of (HC1.out _) | with_reducible exact Calls.quiet_of (HC2.out _)))
        have HIH : Hid ((hdL f.blocks f.blocks.length)[i]? = some y) := Lib.hid (by rw [← HY.out]; exact HH.out i hil)
        clear p0 p1 p2 q0 q1 q2 HC1 HC2 hhn
        obtain ⟨lz, hlz⟩ : ∃ lz, (lbL f.blocks y f.blocks.length).length = lz := ⟨_, rfl⟩
        have hl70 : lz ≤ 70 := by rw [← hlz]; have := lbL_len f.blocks y f.blocks.length; have := HNN.out; omega
        have HLZ := Lib.hid hlz
        clear hlz
        go_wp2_with fail
        go_loopw [9] (fun s9 wq => ∃ k : Nat, k ≤ lz ∧ s9 = .int .i64 (k : Int) ∧ wq.rowIs G 3 n (fun b => .int .i64 (dpk f.blocks i y k b : Int)) ∧ Below G w7 wq) (fun s9 _ => lz - (intOf s9).toNat)
        case atStart => exact ⟨0, Nat.zero_le _, rfl, (HR.out.of_block ((below_drewN (Below.refl _ _) _).block G HR.out.lt)).congr (fun b _ => by rw [dpk_zero]), below_drewN HB.out _⟩
        case round =>
          obtain ⟨k, hk, rfl, hr, hb⟩ := hrel
          have HRK := Lib.hid hr
          have HBK := Lib.hid hb
          have hb5 : Below w5.heap.size w5 wr := HB7.out.trans (hb.mono (by have := HGZ.out; omega))
          obtain ⟨g3, Bb, db, Be, de, hg3, q0, q1, q2, s3, s4⟩ := HAR.out wr hb5 i hil
          obtain rfl : g2 = g3 := by injection hg3 with h1; injection h1
          rw [HY.out, zs_len, HLZ.out] at q1
          by_cases hkl : k < lz
          · obtain ⟨bt, ot, x, rfl, hx, hxc, -⟩ := s3.int (k := k) (by rw [HY.out, zs_len, HLZ.out]; exact hkl)
            obtain ⟨t, ht, rfl⟩ := zs_at hx.out
            rw [HY.out] at ht
            have htn : t < n := by rw [← HNN.out]; exact lbL_lt (List.mem_of_getElem? ht)
            have hdc := hr.cell htn
            have hdf := hr.frozen t
            have HS := Lib.hid (dpk_step (bs := f.blocks) (i := i) ht)
            have hle := dpk_le f.blocks i y k t
            rw [HNN.out] at hle
            have hk0 : (0 : Int) ≤ k := by omega
            have hk1 : (k : Int) < lz := by omega
            clear hr hb hb5 hg3 q0 q2 s3 s4 hx ht
            obtain ⟨z, hz⟩ : ∃ z, dpk f.blocks i y k t = z := ⟨_, rfl⟩
            have HZ := Lib.hid hz
            rw [hz] at hdc hle
            clear hz
            go_wp2_with fail
            go_roundw
            case rel =>
              refine ⟨k + 1, by omega, by go_num, (HRK.out.set t _).congr fun b _ => ?_, HBK.out.setCell (p := ⟨G, t, none⟩) (Nat.le_refl _) _⟩
              rw [HS.out b, HZ.out]
              by_cases e : b = t
              · rw [if_pos e, if_pos e]; simp
              · rw [if_neg e, if_neg e]
            case measure => simp [intOf]; omega
          · obtain rfl : k = lz := by omega
            clear hr hb hb5 hg3 q0 q2 s3 s4
            go_wp2_with fail
            go_roundw
            case rel => exact ⟨i + 1, by omega, by go_num, HRK.out.congr (fun b hb => by rw [dpk_all HIH.out (by rw [HLZ.out]; exact Nat.le_refl _) (by rw [HNN.out]; exact hb)]), HBK.out⟩
            case measure => simp [intOf]; omega
      · obtain rfl : i = m := by omega
        have hbw : Below w.heap.size w wL := HB5.out.trans (hb5L.mono hz5)
        have HBW := Lib.hid hbw
        obtain ⟨c0, c1, c2, c3⟩ := HSN.out wL hb5L
        clear hb5L hr hb hbw
        go_wp2_with fail
        refine (depth_any f _ wL (VFun.keep (kept_of_below HBW.out) HV.out) (by rw [HNN.out]; omega)).mono ?_
        rintro e w9 ⟨⟨G2, rfl, hG2, hg2, -⟩, hb9⟩
        rw [HNN.out] at hg2 ⊢
        have hdl : ∀ b, b < n → dpN f.blocks b ≤ 70 := fun b _ => by have := dpN_le f.blocks b; have := HNN.out; omega
        have hI : ∀ b, b < n → I64 (dpN f.blocks b : Int) := fun b hb => by have := hdl b hb; unfold I64; omega
        have HS2 : Hid (SL w9 1 RInt (some ⟨G2, 0, none⟩) n ((List.range n).map fun b => (dpN f.blocks b : Int))) := Lib.hid (sl_of_row hg2 (by omega) hI)
        have HS1 : Hid (SL w9 1 RInt (some ⟨G, 0, none⟩) n ((List.range n).map fun b => (dpN f.blocks b : Int))) := Lib.hid (sl_of_row ((HR.out.congr (fun b _ => by rw [dpc_all (by rw [HMM.out]; exact Nat.le_refl _)])).of_block (hb9.block G HR.out.lt)) (by omega) hI)
        have HBB : Hid (Below w.heap.size w w9) := Lib.hid (HBW.out.trans (hb9.mono HBW.out.size))
        have hll : ((List.range n).map fun b => (dpN f.blocks b : Int)).length = n := by rw [List.length_map, List.length_range]
        obtain ⟨xs, hxs⟩ : ∃ xs, xs = (List.range n).map fun b => (dpN f.blocks b : Int) := ⟨_, rfl⟩
        rw [← hxs] at hll HS1 HS2
        have HLL := Lib.hid hll
        clear hb9 hg2 hG2 hdl hI hxs hll c0 c1 c2 c3
        go_wp2_with fail
        refine (sameInts_any xs xs _ _ w9 ⟨_, _, by rw [HLL.out], HS2.out⟩ ⟨_, _, by rw [HLL.out], HS1.out⟩).mono ?_
        rintro e wc ⟨rfl, q, rfl⟩
        rw [decide_eq_true (rfl : xs = xs)]
        go_wp2_with fail
        go_ret
        exact ⟨rfl, below_drewN HBB.out q⟩
end Go.Proofs.Ytflbooopgjgkbaa
