/- errors.Is of a Spot at its Code; Is. -/
import Derived.Test.YtoidhjmhakajlaaGreatDoorErrAsJ
import Derived.Test.YtoidhjmhakajlaaGreatDoorInsGJ
import Derived.Test.YtoidhjmhakajlaaGreatDoorEqEJ
import Derived.Test.YtoidhjmhakajlaaGreatDoorSpecJ
import Derived.ProofKit
namespace Go.Proofs.YtoidhjmhakajlaaGreatDoor
open Go.ChangeShapes Go.WideShapes Go.RowKit Go.Deep Go.Extern.Stop Go.Stop Go.Extern
set_option linter.unusedVariables false

set_option maxRecDepth 100000 in
set_option maxHeartbeats 4000000 in
/-- Its loop: the Spot isn't it, what it bears is. -/
theorem is_loop (g : Nat) (c : Int) (w : World) (hs : w.cell? ⟨g, 1, none⟩ = some (.iface 51 (.int .i64 c))) :
    Calls Tryz.prog 71 #[.iface 70 (.pointer (some ⟨g, 0, none⟩)), .iface 51 (.int .i64 c), .bool true] w fun ev w' => ev = .returned (.bool true) ∧ w' = w := by
  have c4 := asrt_spotIs
  have c5 := asrt_spotUnwrap
  have mU := rlf_methodUnwrap
  have q1 := fun v u w => run_eql_iface_types (P := Tryz.prog) 70 51 v u Tryz.underlying29 (by decide) w
  have q2 := eqlErr
  go_enter Tryz.func71, Tryz.ntmps71
  go_wp2
  refine wp_loop_rounds 2 ?_
  rw [rounds_succ]
  go_wp2
  rw [rounds_succ]
  go_wp2
  go_ret
  exact ⟨rfl, rfl⟩

set_option maxRecDepth 100000 in
set_option maxHeartbeats 4000000 in
/-- errors.Is of a Spot at the Code that it bears. -/
theorem is_spot (g : Nat) (c : Int) (w : World) (hs : w.cell? ⟨g, 1, none⟩ = some (.iface 51 (.int .i64 c))) :
    Calls Tryz.prog 42 #[.iface 70 (.pointer (some ⟨g, 0, none⟩)), .iface 51 (.int .i64 c)] w fun ev w' => ev = .returned (.bool true) ∧ w' = w := by
  have h10 := @run_callFunc_extern Tryz.prog 70 _ ReflectliteType.typeOf Tryz.func70 (by kernel_rfl) (by kernel_rfl) (by kernel_rfl) (by kernel_rfl)
  have h69 := @run_callFunc_extern Tryz.prog 179 _ (ReflectliteType.method (fun t => do Rtype.noPackHeld "Comparable" t; pure (.bool (← typeInfo t).comparable))) Tryz.func179 (by kernel_rfl) (by kernel_rfl) (by kernel_rfl) (by kernel_rfl)
  have tO := rlf_typeOfCode
  have mC := rlf_methodComparable
  have cC := rlf_comparableCode
  have c4 := asrt_spotIs
  have c5 := asrt_spotUnwrap
  have mU := rlf_methodUnwrap
  have q1 := fun v u w => run_eql_iface_types (P := Tryz.prog) 70 51 v u Tryz.underlying29 (by decide) w
  have q2 := eqlErr
  go_enter Tryz.func42, Tryz.ntmps42
  go_wp2_with fail
  refine (is_loop g c w hs).mono ?_
  rintro e w' ⟨rfl, rfl⟩
  go_wp2_with fail
  go_ret
  exact ⟨rfl, rfl⟩

theorem spotInfo : Tryz.prog.info? 70 = some ((Tryz.prog.info? 70).get!) := by kernel_rfl
theorem spotComp : ((Tryz.prog.info? 70).get!).comparable = true := by kernel_rfl
theorem spotPInfo : Tryz.prog.info? 75 = some ((Tryz.prog.info? 75).get!) := by kernel_rfl
theorem neqSpot (a : Addr) (w : World) : (binOp .neq 29 (.iface 70 (.pointer (some a))) (.iface 70 (.pointer (some a)))).run Tryz.prog w = .ok (.bool false) w := by
  have h := run_equalIn_iface_ptr_same (P := Tryz.prog) (w := w) 9998 (ti := 29) (tp := 70) a Tryz.underlying29 Tryz.underlying70 spotInfo spotComp spotPInfo
  simp only [binOp]
  simp [Op.equal, Op.maxDepth, h]

set_option maxRecDepth 100000 in
set_option maxHeartbeats 4000000 in
/-- Is, of a Spot at its place with its Code. -/
theorem is_any (g : Nat) (c n : Int) (w : World) (hg : w.cell? ⟨0, 0, none⟩ = some (.iface 155 (.agg #[.pointer (some ⟨1, 29, none⟩)]))) (h0 : w.cell? ⟨g, 0, none⟩ = some (.int .i64 n)) (h1 : w.cell? ⟨g, 1, none⟩ = some (.iface 51 (.int .i64 c))) :
    Calls Tryz.prog 21 #[.iface 70 (.pointer (some ⟨g, 0, none⟩)), .int .i64 n, .int .i64 c] w fun e w' => e = .returned (.bool true) ∧ Below w.heap.size w w' := by
  have q2 := eqlErr
  have hlt : 0 < w.heap.size := by
    rcases Nat.eq_zero_or_pos w.heap.size with h0 | h
    · simp [World.cell?, h0] at hg
    · exact h
  have q1 := neqSpot
  go_enter Tryz.func21, Tryz.ntmps21
  go_wp2_with fail
  obtain ⟨w1, hw1, hs1, hk1, hb1, hc1, hf1⟩ := named w #[.pointer none] 70
  rw [← hw1]
  refine (as_spot ⟨g, 0, none⟩ ⟨w.heap.size, 0, none⟩ (.pointer none) w1 (hk1 _ _ hg) (hc1 0 _ rfl) (hf1 0)).mono ?_
  rintro e w2 ⟨rfl, hw2⟩
  have hb2 : Below w.heap.size w w2 := by
    rw [hw2]
    exact ((((hb1.alloc hb1.size _).alloc (by simp; omega) _).alloc (by simp; omega) _).alloc (by simp; omega) _).setCell (Nat.le_refl _) _
  have hc2 : w2.cell? ⟨w.heap.size, 0, none⟩ = some (.pointer (some ⟨g, 0, none⟩)) := by
    rw [hw2]
    have hbx : w1.heap[w.heap.size]? = some (.cells #[.pointer none] 70 (0, 0)) := by rw [hw1]; exact heap_alloc_new _ _
    have hl1 : w.heap.size < w1.heap.size := by omega
    have e : ∀ (W : World) (o : Obj), W.heap[w.heap.size]? = some (.cells #[.pointer none] 70 (0, 0)) → (W.alloc o).heap[w.heap.size]? = some (.cells #[.pointer none] 70 (0, 0)) := fun W o h => by
      have hl := block_lt h
      show (W.heap.push o)[w.heap.size]? = _
      rw [Array.getElem?_push, if_neg (by omega)]; exact h
    have h4 := set_of_block (i := 0) (.pointer (some ⟨g, 0, none⟩)) (e _ (.cells #[.pointer (some ⟨g, 0, none⟩)] 70) (e _ (.cells #[.pointer (some ⟨1, 72, none⟩), .pointer (some ⟨w1.heap.size, 0, none⟩), .int .u64 150] 112) (e _ (.cells #[.pointer (some ⟨1, 72, none⟩), .pointer (some ⟨w1.heap.size, 0, none⟩), .int .u64 150] 112) (e _ (.cells #[.pointer (some ⟨w.heap.size, 0, none⟩)] 72) hbx))))
    exact cell_of_heap h4 0
  clear hw2 hc1 hf1 hw1 hs1
  have h0 := kept_of_below hb2 _ _ h0
  have h1 := kept_of_below hb2 _ _ h1
  have hs2 : w.heap.size < w2.heap.size := block_lt_of_cell hc2
  go_wp2_with fail
  refine (is_spot g c w2 h1).mono ?_
  rintro e w' ⟨rfl, rfl⟩
  go_wp2_with fail
  go_ret
  exact ⟨rfl, hb2⟩
end Go.Proofs.YtoidhjmhakajlaaGreatDoor

/- The examples at the head of the statements of layer 3 hold. -/
namespace Go.Proofs.YtoidhjmhakajlaaGreatDoor
open Go.ChangeShapes Go.WideShapes Go.RowKit Go.Deep
set_option linter.unusedVariables false

/-- The variable errors.errorType holds the type error's handle. -/
def HoldsErr (w : World) : Prop := w.cell? ⟨0, 0, none⟩ = some (.iface 155 (.agg #[.pointer (some ⟨1, 29, none⟩)]))
theorem holdsErr_below : ∀ (w w' : World) (n : Nat), HoldsErr w → 0 < n → Below n w w' → HoldsErr w' := fun w w' n hL hn hb =>
  (hb.cell (p := ⟨0, 0, none⟩) hn).trans hL
theorem HoldsErr.pos {w : World} (h : HoldsErr w) : 0 < w.heap.size := block_lt_of_cell h

theorem SBytes.keep {w w' : World} (h : Kept w w') {A : Option Addr} {c : Nat} {l : List UInt8} (hv : SL w 1 RByte A c l) : SL w' 1 RByte A c l := SL.imp (fun b o x hx => h _ _ hx) hv
/-- Bytes that were made read as they are. -/
theorem bytes_of_new {w w' : World} {b : Value} {ys : List UInt8} (h : NewB w w' b ys) : ∃ g c, b = .slice (some ⟨g, 0, none⟩) ys.length c ∧ SL w' 1 RByte (some ⟨g, 0, none⟩) c ys := by
  obtain ⟨g, cap, rfl, ho⟩ := h
  refine ⟨g, cap, rfl, ?_⟩
  rcases ho.2 with ⟨h, _⟩ | ⟨g', c', cur, h, hb, hh, hn, hc, hsz, ht⟩
  · cases h
  · simp only [Value.slice.injEq, Option.some.injEq, Addr.mk.injEq] at h
    obtain ⟨⟨rfl, -, -⟩, -, rfl⟩ := h
    refine ⟨hn, ⟨hc, fun e => by cases e⟩, fun _ => ⟨g, 0, rfl, fun i x hi => ?_⟩⟩
    have := ho.cells (g := g) rfl i (bv x) (by rw [List.getElem?_map, hi]; rfl)
    rw [add_plain'] at this
    rwa [show 0 + i * 1 = 0 + i by omega]
/-- A text out of bytes. -/
theorem conv_bytes {w : World} {A : Option Addr} {c : Nat} {ys : List UInt8} (h : SL w 1 RByte A c ys) : (convert 27 9 (.slice A ys.length c)).run Tryz.prog w = .ok (.string ⟨ys.toArray⟩) w := by
  cases A with
  | none =>
    obtain rfl : c = 0 := h.2.1.2 rfl
    obtain rfl : ys = [] := List.length_eq_zero_iff.1 (by have := h.1; omega)
    kernel_rfl
  | some a =>
    refine run_convert_bytes_back (P := Tryz.prog) w 27 9 5 a c ys Tryz.underlying27 Tryz.underlying5 Tryz.underlying9 (fun j hj => ?_)
    obtain ⟨b, o, e, hx⟩ := h.2.2 (by omega)
    obtain rfl := Option.some.inj e
    have := hx j ys[j] (List.getElem?_eq_getElem hj)
    rw [Nat.mul_one] at this
    rw [add_plain']
    exact this
theorem modB_nil : modB [] = [102, 116, 108, 49, 0] := by
  unfold modB funsB
  rw [numB_lt (by decide)]
  decide
theorem modE_nil : modE [] = (0, -1) := by unfold modE; rfl
theorem decE_nil : decE [] = (2, 0) := by decide
theorem decM_nil : decM [] = [] := by decide

set_option maxRecDepth 100000 in
set_option maxHeartbeats 2000000 in
theorem up_any (OI : OfIns) (w : World) (hg : HoldsErr w) : Calls Tryz.prog 6 #[] w fun e w' => e = .returned (.bool true) ∧ Below w.heap.size w w' := by
  go_enter Tryz.func6, Tryz.ntmps6
  go_wp2_with fail
  refine (encode_any OI [] _ w ⟨none, 0, rfl, funs_nil w⟩ (fun f hf => by cases hf)).mono ?_
  rintro e w1 ⟨b, v, rfl, he, -, hn, hb1⟩
  obtain rfl := he.nil (by rw [modE_nil])
  obtain ⟨g, cap, rfl, hsb⟩ := bytes_of_new (hn (by rw [modE_nil]))
  clear hn he
  rw [modB_nil] at hsb ⊢
  go_wp2_with fail
  refine (decode_any OI [] none 0 w1 (bytes_none 0 (by unfold maxLen; omega) (fun _ => rfl))).mono ?_
  rintro e w2 ⟨A2, c2, ev, rfl, hm2, he2, hb2⟩
  rw [decE_nil] at he2
  rw [decM_nil] at hm2 ⊢
  have hB2 : Below w.heap.size w w2 := hb1.trans (hb2.mono hb1.size)
  have hg2 := holdsErr_below w w2 _ hg hg.pos hB2
  rcases he2 with ⟨h, _⟩ | ⟨_, h, _⟩ | ⟨-, -, gs, rfl, hs0, hs1⟩
  · exact absurd h (by decide)
  · exact absurd h (by decide)
  · have hcv := Lib.hid (conv_bytes (SBytes.keep ((kept_of_below hb2).trans (kept_alloc w2 (.cells #[.slice A2 ([] : List FunD).length c2] 24))) hsb))
    have hcv := hcv.out
    have hi := Lib.hid (is_any gs 2 0 (w2.alloc (.cells #[.slice A2 0 c2] 24)) (kept_alloc _ _ _ _ hg2) (kept_alloc _ _ _ _ hs0) (kept_alloc _ _ _ _ hs1))
    dsimp only [List.length_nil, List.length_cons] at hcv
    go_wp2_with fail
    refine hi.out.mono ?_
    rintro e w3 ⟨rfl, hb3⟩
    go_wp2_with fail
    go_ret
    exact ⟨rfl, (hB2.alloc hB2.size _).trans (hb3.mono (by have := hB2.size; simp; omega))⟩
end Go.Proofs.YtoidhjmhakajlaaGreatDoor

/- Functions and modules that came in as arguments: what they read as. -/
namespace Go.Proofs.YtoidhjmhakajlaaGreatDoor
open Go.ChangeShapes Go.WideShapes Go.RowKit Go.Deep
set_option linter.unusedVariables false

section
variable {H : Type} {enc : TypeId × Value → H} {P : Program} {w : World} {base : Nat} {spare : Nat → Bool} {held : Bool}

theorem struct_field {t : TypeId} {fs : Array Field} {fuel : Nat} {cs : List Value} {y : DataW H × List MemPlace} (ht : P.underlying t = some (.struct fs)) (h : DataW.trod enc P w base spare held fuel t cs = some y)
    (i : Nat) (f : Field) (hf : fs[i]? = some f) : ∃ n z, DataW.trod enc P w base spare held n f.type ((cs.drop f.offset).take (P.cellsOf f.type)) = some z := by
  obtain ⟨xs, n, _, _, _, hlen, hx⟩ := DataW.trod_struct ht h
  have hi : i < xs.length := by rw [hlen]; exact (Array.getElem?_eq_some_iff.1 hf).1
  exact ⟨n, xs[i], (hx i f hf).trans (List.getElem?_eq_getElem hi)⟩
theorem field_of {t : TypeId} {fs : Array Field} {fuel : Nat} {cs : List Value} {y : DataW H × List MemPlace} (ht : P.underlying t = some (.struct fs)) (h : DataW.trod enc P w base spare held fuel t cs = some y)
    (i : Nat) {f : Field} (hf : fs[i]? = some f) {t' : TypeId} {c k : Nat} (hft : f.type = t') (hk : f.offset = k) (hc : P.cellsOf t' = c) : ∃ n z, DataW.trod enc P w base spare held n t' ((cs.drop k).take c) = some z := by
  subst hft hk hc
  exact struct_field ht h i f hf
theorem drop_take_one {cs : List Value} {k : Nat} (hk : k < cs.length) : (cs.drop k).take 1 = [cs[k]] := by
  rw [List.drop_eq_getElem_cons hk]; rfl
theorem int_field {t : TypeId} {n k : Nat} {cs : List Value} {z : DataW H × List MemPlace} (ht : P.underlying t = some (.int .i64)) (hk : k < cs.length) (h : DataW.trod enc P w base spare held n t ((cs.drop k).take 1) = some z) :
    ∃ x, cs[k]? = some (.int .i64 x) ∧ I64 x := by
  rw [drop_take_one hk] at h
  obtain ⟨x, hx, _, hw⟩ := DataW.trod_int ht h
  exact ⟨x, by rw [List.getElem?_eq_getElem hk]; exact congrArg some (List.cons.inj hx).1, wf_i64 hw⟩
theorem slice_field {α : Type} [Inhabited α] {t e : TypeId} {sz : Nat} {R : World → Nat → Nat → α → Prop} {n k : Nat} {cs : List Value} {z : DataW H × List MemPlace} (ht : P.underlying t = some (.slice e)) (hsz : P.cellsOf e = sz) (hpos : 0 < sz)
    (hR : Opens enc P w base spare held e sz R) (hk : k < cs.length) (h : DataW.trod enc P w base spare held n t ((cs.drop k).take 1) = some z) : ∃ A c xs, cs[k]? = some (.slice A xs.length c) ∧ SL w sz R A c xs := by
  rw [drop_take_one hk] at h
  obtain ⟨xs, A, c, e, hs⟩ := open_vs ht hsz hpos hR h
  exact ⟨A, c, xs, by rw [List.getElem?_eq_getElem hk, e], hs⟩
end

theorem Tryz.cells3 : Tryz.prog.cellsOf 3 = 1 := by kernel_rfl
theorem Tryz.cells2 : Tryz.prog.cellsOf 2 = 1 := by kernel_rfl
theorem Tryz.cells54 : Tryz.prog.cellsOf 54 = 1 := by kernel_rfl
theorem Tryz.cells58 : Tryz.prog.cellsOf 58 = 1 := by kernel_rfl
theorem Tryz.cells59 : Tryz.prog.cellsOf 59 = 1 := by kernel_rfl
theorem Tryz.cells55 : Tryz.prog.cellsOf 55 = 1 := by kernel_rfl
theorem Tryz.cells22 : Tryz.prog.cellsOf 22 = 1 := by kernel_rfl
theorem Tryz.cells67 : Tryz.prog.cellsOf 67 = 2 := by kernel_rfl
theorem Tryz.cells65 : Tryz.prog.cellsOf 65 = 5 := by kernel_rfl
theorem Tryz.cells61 : Tryz.prog.cellsOf 61 = 3 := by kernel_rfl
theorem Tryz.cells63 : Tryz.prog.cellsOf 63 = 5 := by kernel_rfl
theorem Tryz.cells57 : Tryz.prog.cellsOf 57 = 4 := by kernel_rfl
theorem Tryz.cells24 : Tryz.prog.cellsOf 24 = 1 := by kernel_rfl

section
variable {H : Type} {enc : TypeId × Value → H} {w : World} {base : Nat} {spare : Nat → Bool} {held : Bool}

theorem opens_int : Opens enc Tryz.prog w base spare held 3 1 RInt := fun n b o cs y hlen hat h => by
  obtain ⟨x, rfl, _, hw⟩ := DataW.trod_int Tryz.underlying3 h
  exact ⟨x, (hat 0 (by omega)).trans rfl, wf_i64 hw⟩
theorem field_int {fs : Array Field} {t : TypeId} {fuel : Nat} {cs : List Value} {y : DataW H × List MemPlace} (ht : Tryz.prog.underlying t = some (.struct fs)) (h : DataW.trod enc Tryz.prog w base spare held fuel t cs = some y)
    (i : Nat) (f : Field) (hf : fs[i]? = some f) (hft : f.type = 3) (hk : f.offset < cs.length) : ∃ x, cs[f.offset]? = some (.int .i64 x) ∧ I64 x := by
  obtain ⟨n, z, hz⟩ := struct_field ht h i f hf
  rw [hft, Tryz.cells3] at hz
  exact int_field Tryz.underlying3 hk hz
theorem field_int64 {fs : Array Field} {t : TypeId} {fuel : Nat} {cs : List Value} {y : DataW H × List MemPlace} (ht : Tryz.prog.underlying t = some (.struct fs)) (h : DataW.trod enc Tryz.prog w base spare held fuel t cs = some y)
    (i : Nat) (f : Field) (hf : fs[i]? = some f) (hft : f.type = 2) (hk : f.offset < cs.length) : ∃ x, cs[f.offset]? = some (.int .i64 x) ∧ I64 x := by
  obtain ⟨n, z, hz⟩ := struct_field ht h i f hf
  rw [hft, Tryz.cells2] at hz
  exact int_field Tryz.underlying2 hk hz
theorem field_ints {fs : Array Field} {t : TypeId} {fuel : Nat} {cs : List Value} {y : DataW H × List MemPlace} (ht : Tryz.prog.underlying t = some (.struct fs)) (h : DataW.trod enc Tryz.prog w base spare held fuel t cs = some y)
    (i : Nat) (f : Field) (hf : fs[i]? = some f) (hft : f.type = 54) (hk : f.offset < cs.length) : ∃ A c, ∃ xs : List Int, cs[f.offset]? = some (.slice A xs.length c) ∧ SL w 1 RInt A c xs := by
  obtain ⟨n, z, hz⟩ := struct_field ht h i f hf
  rw [hft, Tryz.cells54] at hz
  exact slice_field Tryz.underlying54 Tryz.cells3 (by omega) opens_int hk hz
theorem opens_phi : Opens enc Tryz.prog w base spare held 67 2 RPhi := fun n b o cs y hlen hat h => by
  obtain ⟨x, h0, w0⟩ := field_int Tryz.underlying67 h 0 _ rfl rfl (by simp; omega)
  obtain ⟨A, c, xs, h1, w1⟩ := field_ints Tryz.underlying67 h 1 _ rfl rfl (by simp; omega)
  exact ⟨⟨x, xs⟩, ⟨(hat 0 (by omega)).trans h0, w0⟩, A, c, (hat 1 (by omega)).trans h1, w1⟩
theorem opens_ins : Opens enc Tryz.prog w base spare held 65 5 RIns := fun n b o cs y hlen hat h => by
  obtain ⟨x0, h0, w0⟩ := field_int Tryz.underlying65 h 0 _ rfl rfl (by simp; omega)
  obtain ⟨x1, h1, w1⟩ := field_int Tryz.underlying65 h 1 _ rfl rfl (by simp; omega)
  obtain ⟨A, c, xs, h2, w2⟩ := field_ints Tryz.underlying65 h 2 _ rfl rfl (by simp; omega)
  obtain ⟨x3, h3, w3⟩ := field_int64 Tryz.underlying65 h 3 _ rfl rfl (by simp; omega)
  obtain ⟨x4, h4, w4⟩ := field_int Tryz.underlying65 h 4 _ rfl rfl (by simp; omega)
  exact ⟨⟨x0, x1, xs, x3, x4⟩, ⟨(hat 0 (by omega)).trans h0, w0⟩, ⟨(hat 1 (by omega)).trans h1, w1⟩, ⟨A, c, (hat 2 (by omega)).trans h2, w2⟩, ⟨(hat 3 (by omega)).trans h3, w3⟩, ⟨(hat 4 (by omega)).trans h4, w4⟩⟩
theorem opens_blk : Opens enc Tryz.prog w base spare held 63 5 RBlk := fun n b o cs y hlen hat h => by
  obtain ⟨n0, z0, hz0⟩ := field_of Tryz.underlying63 h 0 rfl rfl rfl Tryz.cells58
  obtain ⟨A0, c0, ps, h0, w0⟩ := slice_field Tryz.underlying58 Tryz.cells67 (by omega) opens_phi (by simp; omega) hz0
  obtain ⟨n1, z1, hz1⟩ := field_of Tryz.underlying63 h 1 rfl rfl rfl Tryz.cells59
  obtain ⟨A1, c1, is, h1, w1⟩ := slice_field Tryz.underlying59 Tryz.cells65 (by omega) opens_ins (by simp; omega) hz1
  obtain ⟨n2, z2, hz2⟩ := field_of Tryz.underlying63 h 2 rfl rfl rfl Tryz.cells61
  have hl2 : ((cs.drop 2).take 3).length = 3 := by simp; omega
  obtain ⟨x2, h2, w2⟩ := field_int Tryz.underlying61 hz2 0 _ rfl rfl (by simp; omega)
  obtain ⟨x3, h3, w3⟩ := field_int Tryz.underlying61 hz2 1 _ rfl rfl (by simp; omega)
  obtain ⟨A4, c4, xs, h4, w4⟩ := field_ints Tryz.underlying61 hz2 2 _ rfl rfl (by simp; omega)
  have g (i : Nat) (hi : i < 3) : ((cs.drop 2).take 3)[i]? = cs[2 + i]? := by rw [List.getElem?_take_of_lt hi, List.getElem?_drop]
  exact ⟨⟨ps, is, ⟨x2, x3, xs⟩⟩, ⟨A0, c0, (hat 0 (by omega)).trans h0, w0⟩, ⟨A1, c1, (hat 1 (by omega)).trans h1, w1⟩, ⟨(hat 2 (by omega)).trans ((g 0 (by omega)).symm.trans h2), w2⟩, ⟨(hat 3 (by omega)).trans ((g 1 (by omega)).symm.trans h3), w3⟩, ⟨A4, c4, (hat 4 (by omega)).trans ((g 2 (by omega)).symm.trans h4), w4⟩⟩
theorem opens_fun : Opens enc Tryz.prog w base spare held 57 4 RFun := fun n b o cs y hlen hat h => by
  obtain ⟨x0, h0, w0⟩ := field_int Tryz.underlying57 h 0 _ rfl rfl (by simp; omega)
  obtain ⟨x1, h1, w1⟩ := field_int Tryz.underlying57 h 1 _ rfl rfl (by simp; omega)
  obtain ⟨A2, c2, xs, h2, w2⟩ := field_ints Tryz.underlying57 h 2 _ rfl rfl (by simp; omega)
  obtain ⟨n3, z3, hz3⟩ := field_of Tryz.underlying57 h 3 rfl rfl rfl Tryz.cells55
  obtain ⟨A3, c3, bs, h3, w3⟩ := slice_field Tryz.underlying55 Tryz.cells63 (by omega) opens_blk (by simp; omega) hz3
  exact ⟨⟨x0, x1, xs, bs⟩, ⟨(hat 0 (by omega)).trans h0, w0⟩, ⟨(hat 1 (by omega)).trans h1, w1⟩, ⟨A2, c2, (hat 2 (by omega)).trans h2, w2⟩, ⟨A3, c3, (hat 3 (by omega)).trans h3, w3⟩⟩

set_option maxRecDepth 100000 in
/-- A function by value. -/
theorem open_fun {r : Reach} {b0 : Nat} {v : Value} {d : DataW H} {p : List MemPlace} (hv : Value.okWide Tryz.prog w r b0 57 v) (h : DataW.Trod enc Tryz.prog w base spare held 57 v d p) : ∃ f, VFun w v f := by
  obtain ⟨cs, rfl, hsz⟩ := okWide_struct Tryz.underlying57 hv
  rw [Tryz.cells57] at hsz
  obtain ⟨l⟩ := cs
  match l, hsz with
  | [a, b, c, d], _ =>
    obtain ⟨fuel, hf⟩ := h
    have hf : DataW.trod enc Tryz.prog w base spare held fuel 57 [a, b, c, d] = some (_, p) := hf
    obtain ⟨x0, h0, w0⟩ := field_int Tryz.underlying57 hf 0 _ rfl rfl (by simp)
    obtain ⟨x1, h1, w1⟩ := field_int Tryz.underlying57 hf 1 _ rfl rfl (by simp)
    obtain ⟨A2, c2, xs, h2, w2⟩ := field_ints Tryz.underlying57 hf 2 _ rfl rfl (by simp)
    obtain ⟨n3, z3, hz3⟩ := field_of Tryz.underlying57 hf 3 rfl rfl rfl Tryz.cells55
    obtain ⟨A3, c3, bs, h3, w3⟩ := slice_field Tryz.underlying55 Tryz.cells63 (by omega) opens_blk (by simp) hz3
    obtain rfl := Option.some.inj h0
    obtain rfl := Option.some.inj h1
    obtain rfl := Option.some.inj h2
    obtain rfl := Option.some.inj h3
    exact ⟨⟨x0, x1, xs, bs⟩, A2, c2, A3, c3, rfl, w2, w3, w0, w1⟩
set_option maxRecDepth 100000 in
/-- A module by value. -/
theorem open_mod {r : Reach} {b0 : Nat} {v : Value} {d : DataW H} {p : List MemPlace} (hv : Value.okWide Tryz.prog w r b0 24 v) (h : DataW.Trod enc Tryz.prog w base spare held 24 v d p) : ∃ m, VMod w v m := by
  obtain ⟨cs, rfl, hsz⟩ := okWide_struct Tryz.underlying24 hv
  rw [Tryz.cells24] at hsz
  obtain ⟨l⟩ := cs
  match l, hsz with
  | [a], _ =>
    obtain ⟨fuel, hf⟩ := h
    have hf : DataW.trod enc Tryz.prog w base spare held fuel 24 [a] = some (_, p) := hf
    obtain ⟨n3, z3, hz3⟩ := field_of Tryz.underlying24 hf 0 rfl rfl rfl Tryz.cells22
    obtain ⟨A3, c3, bs, h3, w3⟩ := slice_field Tryz.underlying22 Tryz.cells57 (by omega) opens_fun (by simp) hz3
    obtain rfl := Option.some.inj h3
    exact ⟨bs, A3, c3, rfl, w3⟩
end
end Go.Proofs.YtoidhjmhakajlaaGreatDoor

/- Bytes that came in as an argument; bytes appended to bytes. -/
namespace Go.Proofs.YtoidhjmhakajlaaGreatDoor
open Go.ChangeShapes Go.WideShapes Go.RowKit Go.Deep
set_option linter.unusedVariables false

def VBytes (w : World) (v : Value) (l : List UInt8) : Prop := VS w 1 RByte v l
theorem Tryz.cells5 : Tryz.prog.cellsOf 5 = 1 := by kernel_rfl
theorem wf_byte {x : Int} (h : (Lit.int .u8 x).wf = true) : x = (UInt8.ofNat x.toNat).toNat := by
  have h' := h
  simp only [Lit.wf, Bool.and_eq_true, decide_eq_true_eq] at h'
  have hmin : IntKind.u8.min = 0 := rfl
  have hmax : IntKind.u8.max = 255 := rfl
  rw [byte_of (by omega)]
  omega
section
variable {H : Type} {enc : TypeId × Value → H} {w : World} {base : Nat} {spare : Nat → Bool} {held : Bool}
set_option maxRecDepth 100000 in
theorem opens_byte : Opens enc Tryz.prog w base spare held 5 1 RByte := fun n b o cs y hlen hat h => by
  obtain ⟨x, rfl, _, hw⟩ := DataW.trod_int Tryz.underlying5 h
  refine ⟨UInt8.ofNat x.toNat, ?_⟩
  unfold RByte bv
  rw [← wf_byte hw]
  exact (hat 0 (by omega)).trans rfl
set_option maxRecDepth 100000 in
theorem open_bytesV {r : Reach} {b0 : Nat} {v : Value} {d : DataW H} {p : List MemPlace} (hv : Value.okWide Tryz.prog w r b0 27 v) (h : DataW.Trod enc Tryz.prog w base spare held 27 v d p) : ∃ l, VBytes w v l := by
  obtain ⟨a, len, cap, rfl⟩ := okWide_slice Tryz.underlying27 hv
  obtain ⟨fuel, hf⟩ := h
  exact open_vs Tryz.underlying27 Tryz.cells5 (by omega) opens_byte hf
end
theorem VBytes.keep {w w' : World} (h : Kept w w') {v : Value} {l : List UInt8} (hv : VBytes w v l) : VBytes w' v l := VS.keep h (fun b o x hx => h _ _ hx) hv

/-- append(x, y...), of bytes. -/
theorem run_append_bytes (ty : TypeId) {w : World} {base : Nat} {v : Value} {xs ys : List UInt8} {A : Option Addr} {c : Nat} (hown : w.ownsRow base 5 1 v xs.length (xs.map bv)) (hsl : SL w 1 RByte A c ys) (hb : base ≤ w.heap.size) (hn : xs.length + ys.length ≤ 140737488355328) :
    ∃ v' w', (Builtin.append_ #[27, 27] ty #[v, .slice A ys.length c]).run Tryz.prog w = .ok v' w' ∧ w'.ownsRow base 5 1 v' (xs ++ ys).length ((xs ++ ys).map bv) ∧ w.grownBy w' v.ownBlock ∧ (v'.ownBlock = v.ownBlock ∨ v'.ownBlock = some w.heap.size) := by
  obtain ⟨i0, hi, hz0, hz1, hz2⟩ := info_parts Tryz.info5
  cases A with
  | none =>
    obtain rfl : c = 0 := hsl.2.1.2 rfl
    obtain rfl : ys = [] := List.length_eq_zero_iff.1 (by have := hsl.1; omega)
    exact ⟨v, w, run_append_owned_none (P := Tryz.prog) (w := w) base 27 ty 5 i0 1 Tryz.underlying27 hi v _ _ hown, by rw [List.append_nil]; exact hown, ⟨rfl, rfl, rfl, Nat.le_refl _, fun _ _ _ => rfl⟩, .inl rfl⟩
  | some ad =>
    have hnews : ∀ j u, (ys.map bv)[j]? = some u → w.cell? (ad.add j) = some u := by
      intro j u hu
      rw [List.getElem?_map] at hu
      obtain ⟨x, hx, rfl⟩ := Option.map_eq_some_iff.1 hu
      obtain ⟨_, _, h3⟩ := hsl
      obtain ⟨b, o, e, hr⟩ := h3 (by have := (List.getElem?_eq_some_iff.1 hx).1; omega)
      obtain rfl := Option.some.inj e
      have := hr j x hx
      rw [Nat.mul_one] at this
      rwa [add_plain']
    obtain ⟨v', w', hr, h2, h3, _, hat⟩ := run_append_own_at (P := Tryz.prog) w base 27 ty 5 i0 (.int .u8 0) 1 1 Tryz.underlying27 hi hz0 hz1 hz2 rfl (by decide) v xs.length (xs.map bv) hown ad ys.length c (ys.map bv) (by simp) hnews
      (fun u hu => by obtain ⟨x, _, rfl⟩ := List.mem_map.1 hu; rfl) (by unfold maxLen; omega) (by omega) hb
    exact ⟨v', w', hr, by rw [List.length_append, List.map_append]; exact h2, h3, hat⟩
theorem wpList_append_bytes {ops : Array Oper} {rest : List Oper} {o : Oper} {a : Act} {w : World} {Q : Exit → Act → World → Prop} (hgd : o.guard = none) (s x : Operand)
    (ho : o.op = .call { callee := .builtin .append, args := #[s, x], argTypes := #[27, 27] }) (base : Nat) (v : Value) (xs ys : List UInt8) (A : Option Addr) (len c : Nat) (hs : a.eval s = v) (hx : a.eval x = .slice A len c)
    (hown : w.ownsRow base 5 1 v xs.length (xs.map bv)) (hsl : SL w 1 RByte A c ys) (hlen : len = ys.length) (hb : base ≤ w.heap.size) (hn : xs.length + ys.length ≤ 140737488355328)
    (h : ∀ v' w', w'.ownsRow base 5 1 v' (xs ++ ys).length ((xs ++ ys).map bv) → w.grownBy w' v.ownBlock → (v'.ownBlock = v.ownBlock ∨ v'.ownBlock = some w.heap.size) → wpList Tryz.prog ops Q rest (a.put o.dst v') w') : wpList Tryz.prog ops Q (o :: rest) a w := by
  subst hlen
  refine wpList_plain hgd fun K hK => ?_
  obtain ⟨v', w', hr, h2, h3, h4⟩ := run_append_bytes o.type hown hsl hb hn
  unfold Oper.wp execOp
  simp only [ho, resolve, invoke, builtin, Sem.run_bind, Sem.run_pure, Result.andThen_ok, List.map_toArray, List.map_cons, List.map_nil, hs, hx, hr]
  exact hK _ _ (h v' w' h2 h3 h4)

/-! ### What is told of a module's bytes -/
/-- All that is amiss has one of two numbers. -/
def Errs {α : Type} (p : Pr α) : Prop := ∀ l e, p l = .error e → e.1 = 2 ∨ e.1 = 5
theorem errs_any : Errs anyP := fun l e h => by
  unfold anyP at h
  split at h
  · cases h; exact .inl rfl
  · cases h
theorem errs_num : Errs numP := fun l e h => by
  unfold numP at h
  split at h
  · rename_i e' he; cases h; exact errs_any _ _ he
  · split at h
    · cases h; exact .inl rfl
    · cases h
theorem errs_many (lim : Nat) : Errs (manyP lim) := fun l e h => by
  unfold manyP at h
  split at h
  · rename_i e' he; cases h; exact errs_num _ _ he
  · split at h
    · cases h; exact .inr rfl
    · cases h
theorem errs_ret {α : Type} (x : α) : Errs (retP x) := fun l e h => by cases h
theorem errs_and {α β : Type} {p : Pr α} {q : α → Pr β} (hp : Errs p) (hq : ∀ x, Errs (q x)) : Errs (andP p q) := fun l e h => by
  unfold andP at h
  split at h
  · rename_i e' he; cases h; exact hp _ _ he
  · exact hq _ _ _ h
theorem errs_rep {α : Type} {p : Pr α} (hp : Errs p) : ∀ n, Errs (repP p n)
  | 0 => errs_ret _
  | n + 1 => errs_and hp (fun _ => errs_and (errs_rep hp n) (fun _ => errs_ret _))
theorem errs_list {α : Type} {p : Pr α} (hp : Errs p) (lim : Nat) : Errs (listP p lim) := errs_and (errs_many lim) (fun _ => errs_rep hp _)
theorem errs_ints : Errs intsP := errs_list errs_num _
theorem errs_phi : Errs phiP := errs_and errs_num (fun _ => errs_and errs_ints (fun _ => errs_ret _))
theorem errs_ins : Errs insP := errs_and errs_num (fun _ => errs_and errs_num (fun _ => errs_and errs_ints (fun _ => errs_and errs_any (fun _ => errs_and errs_num (fun _ => errs_ret _)))))
theorem errs_term : Errs termP := errs_and errs_num (fun _ => errs_and errs_num (fun _ => errs_and errs_ints (fun _ => errs_ret _)))
theorem errs_blk : Errs blkP := errs_and (errs_list errs_phi _) (fun _ => errs_and (errs_list errs_ins _) (fun _ => errs_and errs_term (fun _ => errs_ret _)))
theorem errs_fun : Errs funP := errs_and errs_num (fun _ => errs_and errs_num (fun _ => errs_and errs_ints (fun _ => errs_and (errs_list errs_blk _) (fun _ => errs_ret _))))
theorem read_err {l : List UInt8} {e : Int × Nat} (h : readP l = .error e) : e.1 = 2 ∨ e.1 = 5 := by
  unfold readP at h
  split at h
  · split at h
    · rename_i e' he; cases h; exact errs_list errs_fun _ _ _ he
    · split at h
      · cases h
      · cases h; exact .inl rfl
  · cases h; exact .inl rfl
theorem dec_of_mod {m : List FunD} (h : okMod m) (hp : (modE m).1 = 0) : decE (modB m) = modE m ∧ decM (modB m) = m := by
  unfold decE decM
  rw [read_mod h]
  exact ⟨rfl, if_pos hp⟩
theorem dec_ok {l : List UInt8} (h : (decE l).1 = 0) : ∃ m, readP l = .ok m ∧ okMod m ∧ l = modB m ∧ (modE m).1 = 0 ∧ decM l = m := by
  unfold decE at h
  cases hr : readP l with
  | error e =>
    rw [hr] at h
    exfalso
    have h : e.1 = 0 := h
    have := read_err hr
    omega
  | ok m =>
    rw [hr] at h
    obtain ⟨h1, h2⟩ := read_back hr
    exact ⟨m, rfl, h2, h1, h, by unfold decM; rw [hr]; exact if_pos h⟩
end Go.Proofs.YtoidhjmhakajlaaGreatDoor
