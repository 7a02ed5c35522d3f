/- The reference of layer 3, written: Bytes. -/
import Derived.Test.YtoidhjmhakajlaaGreatDoorRfN
import Derived.Deep.Cut
namespace Go.Proofs.YtoidhjmhakajlaaGreatDoor
open Go.ChangeShapes Go.WideShapes Go.RowKit Go.Deep
set_option linter.unusedVariables false
set_option linter.unusedSimpArgs false

/-- Bytes under way: they lie in a row of their own; the blocks of the list are apart, and hold what they held. -/
structure Wr (w0 w : World) (g cap : Nat) (xs : List UInt8) (K : List (Nat × Obj)) : Prop where
  bel : Below w0.heap.size w0 w
  own : w.ownsRow w0.heap.size 5 1 (.slice (some ⟨g, 0, none⟩) xs.length cap) xs.length (xs.map bv)
  box : ∀ p ∈ K, w.heap[p.1]? = some p.2 ∧ p.1 ≠ g
theorem Wr.below {w0 w w' : World} {g cap : Nat} {xs : List UInt8} {K : List (Nat × Obj)} (h : Wr w0 w g cap xs K) (hb : Below w.heap.size w w') : Wr w0 w' g cap xs K :=
  ⟨h.bel.trans (hb.mono h.bel.size), cp_owns3 h.own (fun x hx => hb.block x (h.own.lt x hx).2), fun p hp => ⟨(hb.block p.1 (by obtain ⟨h1, -⟩ := h.box p hp; exact (Array.getElem?_eq_some_iff.1 h1).1)).trans (h.box p hp).1, (h.box p hp).2⟩⟩
theorem Wr.app {w0 w w' : World} {g g' cap cap' : Nat} {xs ys : List UInt8} {K : List (Nat × Obj)} (h : Wr w0 w g cap xs K) (ho : w'.ownsRow w0.heap.size 5 1 (.slice (some ⟨g', 0, none⟩) (xs ++ ys).length cap') (xs ++ ys).length ((xs ++ ys).map bv))
    (hg : w.grownBy w' (Value.slice (some ⟨g, 0, none⟩) xs.length cap).ownBlock) (hl : (Value.slice (some ⟨g', 0, none⟩) (xs ++ ys).length cap').ownBlock = (Value.slice (some ⟨g, 0, none⟩) xs.length cap).ownBlock ∨ (Value.slice (some ⟨g', 0, none⟩) (xs ++ ys).length cap').ownBlock = some w.heap.size) : Wr w0 w' g' cap' (xs ++ ys) K := by
  have hgl := h.own.lt g rfl
  refine ⟨h.bel.grown hg h.bel.size (fun k hk => by obtain rfl : g = k := Option.some.inj hk; exact hgl.1), ho, fun p hp => ?_⟩
  obtain ⟨h1, h2⟩ := h.box p hp
  have hlt : p.1 < w.heap.size := (Array.getElem?_eq_some_iff.1 h1).1
  refine ⟨(hg.block p.1 hlt (fun e => h2 (Option.some.inj e))).trans h1, ?_⟩
  rcases hl with e | e
  · have : some g' = some g := e
    rw [Option.some.inj this]; exact h2
  · have : some g' = some w.heap.size := e
    have := Option.some.inj this
    omega
theorem Wr.alloc {w0 w : World} {g cap : Nat} {xs : List UInt8} {K : List (Nat × Obj)} (h : Wr w0 w g cap xs K) (o : Obj) : Wr w0 (w.alloc o) g cap xs ((w.heap.size, o) :: K) := by
  have hb : Below w.heap.size w (w.alloc o) := (Below.refl _ _).alloc (Nat.le_refl _) _
  have h1 := h.below hb
  refine ⟨h1.bel, h1.own, fun p hp => ?_⟩
  rcases List.mem_cons.1 hp with rfl | hp
  · exact ⟨heap_alloc_new w o, by have := (h.own.lt g rfl).2; show w.heap.size ≠ g; omega⟩
  · exact h1.box p hp
theorem Wr.drop {w0 w : World} {g cap : Nat} {xs : List UInt8} {K : List (Nat × Obj)} {p : Nat × Obj} (h : Wr w0 w g cap xs (p :: K)) : Wr w0 w g cap xs K := ⟨h.bel, h.own, fun q hq => h.box q (List.mem_cons_of_mem _ hq)⟩
theorem flat_step {α : Type} {f : α → List UInt8} {l : List α} {k : Nat} {x : α} (h : l[k]? = some x) : (l.take (k + 1)).flatMap f = (l.take k).flatMap f ++ f x := by
  rw [take_succ_of h, List.flatMap_append]; simp
theorem flat_few {α : Type} {b : α → List UInt8} {n N : Nat} {l : List α} (k : Nat) (h : ∀ x ∈ l, (b x).length ≤ n) (hl : l.length ≤ N) : ((l.take k).flatMap b).length ≤ N * n := by
  have h1 := flat_len (b := b) (n := n) (l := l.take k) (fun x hx => h x (List.mem_of_mem_take hx))
  have h2 : (l.take k).length ≤ N := by rw [List.length_take]; omega
  exact Nat.le_trans h1 (Nat.mul_le_mul_right _ h2)
theorem nat_of {x : Int} (h : okN x) : ∃ q : Nat, x = (q : Int) ∧ q ≤ 2147483648 := ⟨x.toNat, by have := h.1; omega, by have := h.2; omega⟩
theorem nat_of1 {x : Int} (h : okN (x + 1)) : ∃ q : Nat, x = (q : Int) - 1 ∧ q ≤ 2147483648 := ⟨(x + 1).toNat, by have := h.1; omega, by have := h.2; omega⟩

set_option maxRecDepth 100000 in
set_option maxHeartbeats 16000000 in
/-- A proper module's bytes. -/
theorem refBytes_any (m : List FunD) (v : Value) (w : World) (hv : VMod w v m) (hok : okMod m) : Calls Tryz.prog 11 #[v] w fun e w' => ToldB w (modB m) e w' := by
  obtain ⟨A, c, rfl, hms⟩ := hv
  have hml := hms.len
  have hm32 := hok.1
  have HOK := Lib.hid hok
  have HMS := Lib.hid hms
  clear hok hms
  go_enter Tryz.func11, Tryz.ntmps11
  go_upto_region 1 with fail
  obtain ⟨w0, hw0, hs0, hk0, hb0, hc0, -⟩ := named w #[.slice A m.length c] 24
  rw [← hw0]
  obtain ⟨M, hM⟩ : ∃ M, M = w.heap.size := ⟨_, rfl⟩
  rw [← hM] at hc0 hs0 ⊢
  have HB0 := Lib.hid hb0
  have HMS0 := Lib.hid (SFuns.keep hk0 HMS.out)
  have m0 : w0.cell? ⟨M, 0, none⟩ = some (.slice A m.length c) := hc0 0 _ rfl
  have HM0 := Lib.hid m0
  have HMM := Lib.hid hM
  have hN := refNumber_any m.length (w0.alloc (.cells #[.int .u8 102, .int .u8 116, .int .u8 108, .int .u8 49] 5)) (by omega)
  have HN := Lib.hid hN
  have hMs : M < w0.heap.size := by omega
  clear hw0 hk0 hb0 hc0 hM hN hs0
  go_wp2_with fail
  refine HN.out.mono ?_
  rintro e w2 ⟨b1, rfl, ⟨g1, cap1, rfl, hown1⟩, hb1⟩
  have hsl := sl_of_bytes hown1
  have hlit : (w0.alloc (.cells #[.int .u8 102, .int .u8 116, .int .u8 108, .int .u8 49] 5)).ownsRow w0.heap.size 5 1 (.slice (some ⟨w0.heap.size, 0, none⟩) 4 4) 4 (markB.map bv) :=
    World.ownsRow_lit w0 #[.int .u8 102, .int .u8 116, .int .u8 108, .int .u8 49] 4 (Nat.le_refl _) (by unfold maxLen; omega) rfl
  have hbl : Below w0.heap.size w0 (w0.alloc (.cells #[.int .u8 102, .int .u8 116, .int .u8 108, .int .u8 49] 5)) := (Below.refl _ _).alloc (Nat.le_refl _) _
  have hW0 : Wr w0 (w0.alloc (.cells #[.int .u8 102, .int .u8 116, .int .u8 108, .int .u8 49] 5)) w0.heap.size 4 markB [] := ⟨hbl, hlit, fun p hp => by cases hp⟩
  have hW := hW0.below hb1
  have HW := Lib.hid hW
  have hown := hW.own
  have hbs := hW.bel.size
  clear hown1 hb1 hlit hbl hW0 hW
  go_wp2_with (at_builtin; refine wpList_append_bytes rfl (.tmp 11) (.tmp 16) rfl w0.heap.size (.slice (some ⟨w0.heap.size, 0, none⟩) 4 4) markB (numB m.length) _ _ _ rfl rfl hown hsl rfl hbs (by have := numB_len10 (n := m.length) (by omega); show 4 + _ ≤ _; omega) ?_; intro v' w3 hown' hgr hloc)
  obtain ⟨g3, cap3, rfl⟩ := own_slice hown' (by have := numB_pos m.length; rw [List.length_append]; omega)
  have HW3 := Lib.hid (HW.out.app hown' hgr hloc)
  have HL0 : Hid ((markB ++ numB m.length).length ≤ 20) := Lib.hid (by have := numB_len10 (n := m.length) (by omega); rw [List.length_append]; show 4 + _ ≤ _; omega)
  obtain ⟨x0, hx0⟩ : ∃ x0, x0 = markB ++ numB m.length := ⟨_, rfl⟩
  rw [← hx0] at HW3 HL0 ⊢
  have HX0 := Lib.hid hx0
  have HP0 : Hid (0 < x0.length) := Lib.hid (by rw [hx0, List.length_append]; show 0 < 4 + _; omega)
  clear hown' hgr hloc hown hbs hsl HN HW hx0

  go_loopw [3, 4] (fun u i wr => ∃ (k g cap : Nat) (xs : List UInt8), k ≤ m.length ∧ i = .int .i64 k ∧ u = .slice (some ⟨g, 0, none⟩) xs.length cap ∧ Hid (xs = x0 ++ (m.take k).flatMap funB) ∧ Hid (Wr w0 wr g cap xs [])) (fun _ i _ => m.length - (intOf i).toNat)
  case atStart => exact ⟨0, g3, cap3, x0, Nat.zero_le _, rfl, rfl, Lib.hid (by simp), HW3⟩
  case round =>
    obtain ⟨k, g, cap, xs, hk, rfl, rfl, hxs, hW⟩ := hrel
    have z0 := kept_of_below hW.out.bel _ _ HM0.out
    have HL : Hid (xs.length ≤ 2900000000) := Lib.hid (by
      have h1 := flat_few (b := funB) (n := 90000000) (N := 32) k (fun x hx => fun_len (HOK.out.2 x hx)) hm32
      have h2 := HL0.out
      rw [hxs.out, List.length_append]; omega)
    have HP : Hid (0 < xs.length) := Lib.hid (by have := HP0.out; rw [hxs.out, List.length_append]; omega)
    by_cases hlt : k < m.length
    · obtain ⟨bf, of_, f, rfl, hf, ⟨h0, -⟩, ⟨h1, -⟩, ⟨Ar, cr, h2, hregs⟩, Ab, cb, h3, hblks⟩ := (SFuns.keep (kept_of_below hW.out.bel) HMS0.out).at_ hlt
      have HRG : Hid (VS w0 1 RInt (.slice Ar f.regs.length cr) f.regs) := Lib.hid (by
        obtain ⟨bf', of', f', e', hf', -, -, ⟨Ar', cr', h2', hregs'⟩, -⟩ := HMS0.out.at_ hlt
        simp only [Option.some.injEq, Addr.mk.injEq] at e'
        obtain ⟨rfl, rfl, -⟩ := e'
        obtain rfl : f = f' := Option.some.inj (hf.out.symm.trans hf'.out)
        have e := (kept_of_below hW.out.bel _ _ h2').symm.trans h2
        simp only [Option.some.injEq, Value.slice.injEq] at e
        obtain ⟨rfl, -, rfl⟩ := e
        exact ⟨_, _, rfl, hregs'⟩)
      have HBL : Hid (SL w0 5 RBlk Ab cb f.blocks) := Lib.hid (by
        obtain ⟨bf', of', f', e', hf', -, -, -, Ab', cb', h3', hblks'⟩ := HMS0.out.at_ hlt
        simp only [Option.some.injEq, Addr.mk.injEq] at e'
        obtain ⟨rfl, rfl, -⟩ := e'
        obtain rfl : f = f' := Option.some.inj (hf.out.symm.trans hf'.out)
        have e := (kept_of_below hW.out.bel _ _ h3').symm.trans h3
        simp only [Option.some.injEq, Value.slice.injEq] at e
        obtain ⟨rfl, -, rfl⟩ := e
        exact hblks')
      have HOF := Lib.hid (HOK.out.2 f (List.mem_of_getElem? hf.out))
      obtain ⟨fp, hfp, hfp2⟩ := nat_of HOF.out.1
      obtain ⟨fr, hfr, hfr2⟩ := nat_of HOF.out.2.1
      have hbl64 := HOF.out.2.2.2.1
      have hbll := hblks.len
      have hrgl := hregs.len
      rw [hfp] at h0
      rw [hfr] at h1
      have hj0 : (0 : Int) ≤ k := by omega
      have hj1 : (k : Int) < m.length := by omega
      have HFP := Lib.hid hfp
      have HFR := Lib.hid hfr
      clear hregs hblks hfp hfr
      go_upto_region 6 with fail
      obtain ⟨wF, hwF⟩ : ∃ wF, wF = wr.alloc (.cells #[.int .i64 fp, .int .i64 fr, .slice Ar f.regs.length cr, .slice Ab f.blocks.length cb] 57) := ⟨_, rfl⟩
      have hWF := hW.out.alloc (.cells #[.int .i64 fp, .int .i64 fr, .slice Ar f.regs.length cr, .slice Ab f.blocks.length cb] 57)
      rw [← hwF] at hWF ⊢
      obtain ⟨F, hF⟩ : ∃ F, F = wr.heap.size := ⟨_, rfl⟩
      rw [← hF] at hWF ⊢
      have hcF : ∀ (K : List (Nat × Obj)) (w' : World) (g' cap' : Nat) (xs' : List UInt8), Wr w0 w' g' cap' xs' (K ++ [(F, .cells #[.int .i64 fp, .int .i64 fr, .slice Ar f.regs.length cr, .slice Ab f.blocks.length cb] 57 (0, 0))]) → ∀ i, w'.cell? ⟨F, i, none⟩ = (#[.int .i64 fp, .int .i64 fr, .slice Ar f.regs.length cr, .slice Ab f.blocks.length cb] : Array Value)[i]? := fun K w' g' cap' xs' h i => cell_of_block (h.box _ (List.mem_append_right _ (List.mem_singleton.2 rfl))).1 i
      obtain ⟨KF, hKF⟩ : ∃ KF, KF = [(F, (Obj.cells #[.int .i64 fp, .int .i64 fr, .slice Ar f.regs.length cr, .slice Ab f.blocks.length cb] 57 (0, 0)))] := ⟨_, rfl⟩
      rw [← hKF] at hWF hcF
      have HKF := Lib.hid hKF
      have HWF := Lib.hid hWF
      have HCF := Lib.hid hcF
      clear hKF
      clear hwF hF hWF hcF z0 h0 h1 h2 h3
      have y0 := HCF.out [] _ _ _ _ HWF.out 0
      have HN1 := Lib.hid (refNumber_any (fp) wF (by omega))
      go_wp2_with fail
      refine HN1.out.mono ?_
      rintro e wa1 ⟨ba1, rfl, ⟨ga1, ca1, rfl, hown1⟩, hb1⟩
      have hsl := sl_of_bytes hown1
      have HA1 := Lib.hid (HWF.out.below hb1)
      have hown := HA1.out.own
      have hbs := HA1.out.bel.size
      have hlen1 := HL.out
      have hlen2 : (numB fp).length ≤ 2570 := by have := numB_len10 (n := fp) (by omega); omega
      clear hown1 hb1
      go_upto_region 7 with (at_builtin; refine wpList_append_bytes rfl (.tmp 30) (.tmp 34) rfl w0.heap.size (.slice (some ⟨g, 0, none⟩) xs.length cap) xs (numB fp) _ _ _ rfl rfl hown hsl rfl hbs (by omega) ?_; intro v' wb1 hown' hgr hloc)
      obtain ⟨gb1, cb1, rfl⟩ := own_slice hown' (by have := HL.out; have := HP.out; rw [List.length_append]; omega)
      have HWb1 := Lib.hid (HA1.out.app hown' hgr hloc)
      obtain ⟨xb1, hxb1⟩ : ∃ xb, xb = xs ++ numB fp := ⟨_, rfl⟩
      have HLb1 : Hid (xb1.length ≤ 2900003000) := Lib.hid (by rw [hxb1, List.length_append]; omega)
      have HPb1 : Hid (0 < xb1.length) := Lib.hid (by have := HP.out; rw [hxb1, List.length_append]; omega)
      rw [← hxb1] at HWb1 ⊢
      have HXb1 := Lib.hid hxb1
      clear hown' hgr hloc hown hbs hsl hlen1 hlen2 hxb1 HA1
      clear y0
      have y1 := HCF.out [] _ _ _ _ HWb1.out 1
      have HN2 := Lib.hid (refNumber_any (fr) wb1 (by omega))
      go_wp2_with fail
      refine HN2.out.mono ?_
      rintro e wa2 ⟨ba2, rfl, ⟨ga2, ca2, rfl, hown1⟩, hb1⟩
      have hsl := sl_of_bytes hown1
      have HA2 := Lib.hid (HWb1.out.below hb1)
      have hown := HA2.out.own
      have hbs := HA2.out.bel.size
      have hlen1 := HLb1.out
      have hlen2 : (numB fr).length ≤ 2570 := by have := numB_len10 (n := fr) (by omega); omega
      clear hown1 hb1
      go_upto_region 8 with (at_builtin; refine wpList_append_bytes rfl (.tmp 36) (.tmp 40) rfl w0.heap.size (.slice (some ⟨gb1, 0, none⟩) xb1.length cb1) xb1 (numB fr) _ _ _ rfl rfl hown hsl rfl hbs (by omega) ?_; intro v' wb2 hown' hgr hloc)
      obtain ⟨gb2, cb2, rfl⟩ := own_slice hown' (by have := HLb1.out; have := HPb1.out; rw [List.length_append]; omega)
      have HWb2 := Lib.hid (HA2.out.app hown' hgr hloc)
      obtain ⟨xb2, hxb2⟩ : ∃ xb, xb = xb1 ++ numB fr := ⟨_, rfl⟩
      have HLb2 : Hid (xb2.length ≤ 2900006000) := Lib.hid (by rw [hxb2, List.length_append]; omega)
      have HPb2 : Hid (0 < xb2.length) := Lib.hid (by have := HPb1.out; rw [hxb2, List.length_append]; omega)
      rw [← hxb2] at HWb2 ⊢
      have HXb2 := Lib.hid hxb2
      clear hown' hgr hloc hown hbs hsl hlen1 hlen2 hxb2 HA2
      clear y1
      have y2 := HCF.out [] _ _ _ _ HWb2.out 2
      have HN3 := Lib.hid (refList_any f.regs _ wb2 (VInts.keep (kept_of_below HWb2.out.bel) HRG.out) HOF.out.2.2.1)
      go_wp2_with fail
      refine HN3.out.mono ?_
      rintro e wa3 ⟨ba3, rfl, ⟨ga3, ca3, rfl, hown1⟩, hb1⟩
      have hsl := sl_of_bytes hown1
      have HA3 := Lib.hid (HWb2.out.below hb1)
      have hown := HA3.out.own
      have hbs := HA3.out.bel.size
      have hlen1 := HLb2.out
      have hlen2 : (intsB f.regs).length ≤ 2570 := ints_len HOF.out.2.2.1
      clear hown1 hb1
      go_upto_region 9 with (at_builtin; refine wpList_append_bytes rfl (.tmp 42) (.tmp 45) rfl w0.heap.size (.slice (some ⟨gb2, 0, none⟩) xb2.length cb2) xb2 (intsB f.regs) _ _ _ rfl rfl hown hsl rfl hbs (by omega) ?_; intro v' wb3 hown' hgr hloc)
      obtain ⟨gb3, cb3, rfl⟩ := own_slice hown' (by have := HLb2.out; have := HPb2.out; rw [List.length_append]; omega)
      have HWb3 := Lib.hid (HA3.out.app hown' hgr hloc)
      obtain ⟨xb3, hxb3⟩ : ∃ xb, xb = xb2 ++ intsB f.regs := ⟨_, rfl⟩
      have HLb3 : Hid (xb3.length ≤ 2900009000) := Lib.hid (by rw [hxb3, List.length_append]; omega)
      have HPb3 : Hid (0 < xb3.length) := Lib.hid (by have := HPb2.out; rw [hxb3, List.length_append]; omega)
      rw [← hxb3] at HWb3 ⊢
      have HXb3 := Lib.hid hxb3
      clear hown' hgr hloc hown hbs hsl hlen1 hlen2 hxb3 HA3
      clear y2
      have y3 := HCF.out [] _ _ _ _ HWb3.out 3
      have HN4 := Lib.hid (refNumber_any (f.blocks.length) wb3 (by omega))
      go_wp2_with fail
      refine HN4.out.mono ?_
      rintro e wa4 ⟨ba4, rfl, ⟨ga4, ca4, rfl, hown1⟩, hb1⟩
      have hsl := sl_of_bytes hown1
      have HA4 := Lib.hid (HWb3.out.below hb1)
      have hown := HA4.out.own
      have hbs := HA4.out.bel.size
      have hlen1 := HLb3.out
      have hlen2 : (numB f.blocks.length).length ≤ 2570 := by have := numB_len10 (n := f.blocks.length) (by omega); omega
      clear hown1 hb1
      go_wp2_with (at_builtin; refine wpList_append_bytes rfl (.tmp 47) (.tmp 52) rfl w0.heap.size (.slice (some ⟨gb3, 0, none⟩) xb3.length cb3) xb3 (numB f.blocks.length) _ _ _ rfl rfl hown hsl rfl hbs (by omega) ?_; intro v' wb4 hown' hgr hloc)
      obtain ⟨gb4, cb4, rfl⟩ := own_slice hown' (by have := HLb3.out; have := HPb3.out; rw [List.length_append]; omega)
      have HWb4 := Lib.hid (HA4.out.app hown' hgr hloc)
      obtain ⟨xb4, hxb4⟩ : ∃ xb, xb = xb3 ++ numB f.blocks.length := ⟨_, rfl⟩
      have HLb4 : Hid (xb4.length ≤ 2900012000) := Lib.hid (by rw [hxb4, List.length_append]; omega)
      have HPb4 : Hid (0 < xb4.length) := Lib.hid (by have := HPb3.out; rw [hxb4, List.length_append]; omega)
      rw [← hxb4] at HWb4 ⊢
      have HXb4 := Lib.hid hxb4
      clear hown' hgr hloc hown hbs hsl hlen1 hlen2 hxb4 HA4
      clear y3
      go_loopw [3, 6] (fun u i wr => ∃ (k2 g cap : Nat) (xs : List UInt8), k2 ≤ f.blocks.length ∧ i = .int .i64 k2 ∧ u = .slice (some ⟨g, 0, none⟩) xs.length cap ∧ Hid (xs = xb4 ++ (f.blocks.take k2).flatMap blkB) ∧ Hid (Wr w0 wr g cap xs KF)) (fun _ i _ => f.blocks.length - (intOf i).toNat)
      case atStart => exact ⟨0, gb4, cb4, xb4, Nat.zero_le _, rfl, rfl, Lib.hid (by simp), HWb4⟩
      case round =>
        obtain ⟨k2, g, cap, xs, hk2, rfl, rfl, hxs2, hW2⟩ := hrel
        have y3 := HCF.out [] _ _ _ _ hW2.out 3
        have HL2 : Hid (xs.length ≤ 2989612010) := Lib.hid (by
          have h1 := flat_few (b := blkB) (n := 1400000) (N := 64) k2 (fun x hx => blk_len (HOF.out.2.2.2.2 x hx)) hbl64
          have h2 := HLb4.out
          rw [hxs2.out, List.length_append]; omega)
        have HP2 : Hid (0 < xs.length) := Lib.hid (by have := HPb4.out; rw [hxs2.out, List.length_append]; omega)
        by_cases hlt2 : k2 < f.blocks.length
        · obtain ⟨bk, ok_, kb, rfl, hkb, ⟨Ap, cp, h0, hphis⟩, ⟨Ai, ci, h1, hins⟩, ⟨h2, -⟩, ⟨h3, -⟩, ⟨At, ct, h4, hto⟩⟩ := HBL.out.at_ hlt2
          have HPH := Lib.hid hphis
          have HIN := Lib.hid hins
          have HTO : Hid (VS w0 1 RInt (.slice At kb.term.to.length ct) kb.term.to) := Lib.hid ⟨_, _, rfl, hto⟩
          have HOB := Lib.hid (HOF.out.2.2.2.2 kb (List.mem_of_getElem? hkb.out))
          obtain ⟨tk, htk, htk2⟩ := nat_of HOB.out.2.2.1
          obtain ⟨ta, hta, hta2⟩ := nat_of1 HOB.out.2.2.2.1
          have hp256 := HOB.out.1.1
          have hi256 := HOB.out.2.1.1
          have hphl := hphis.len
          have hinl := hins.len
          have htol := hto.len
          have kk := kept_of_below hW2.out.bel
          have h0 := kk _ _ h0
          have h1 := kk _ _ h1
          have h2 := kk _ _ h2
          have h3 := kk _ _ h3
          have h4 := kk _ _ h4
          rw [htk] at h2
          rw [hta] at h3
          have HTK := Lib.hid htk
          have HTA := Lib.hid hta
          have hj0 : (0 : Int) ≤ k2 := by omega
          have hj1 : (k2 : Int) < f.blocks.length := by omega
          clear hphis hins hto kk htk hta
          go_upto_region 14 with fail
          obtain ⟨wB, hwB⟩ : ∃ wB, wB = wr.alloc (.cells #[.slice Ap kb.phis.length cp, .slice Ai kb.ins.length ci, .int .i64 tk, .int .i64 ((ta : Int) - 1), .slice At kb.term.to.length ct] 63) := ⟨_, rfl⟩
          have hWB := hW2.out.alloc (.cells #[.slice Ap kb.phis.length cp, .slice Ai kb.ins.length ci, .int .i64 tk, .int .i64 ((ta : Int) - 1), .slice At kb.term.to.length ct] 63)
          rw [← hwB] at hWB ⊢
          obtain ⟨B, hB⟩ : ∃ B, B = wr.heap.size := ⟨_, rfl⟩
          rw [← hB] at hWB ⊢
          have HWB := Lib.hid hWB
          have hcB : ∀ (K : List (Nat × Obj)) (w' : World) (g' cap' : Nat) (xs' : List UInt8), Wr w0 w' g' cap' xs' (K ++ (B, .cells #[.slice Ap kb.phis.length cp, .slice Ai kb.ins.length ci, .int .i64 tk, .int .i64 ((ta : Int) - 1), .slice At kb.term.to.length ct] 63 (0, 0)) :: KF) → ∀ i, w'.cell? ⟨B, i, none⟩ = (#[.slice Ap kb.phis.length cp, .slice Ai kb.ins.length ci, .int .i64 tk, .int .i64 ((ta : Int) - 1), .slice At kb.term.to.length ct] : Array Value)[i]? := fun K w' g' cap' xs' h i => cell_of_block (h.box _ (List.mem_append_right _ (List.mem_cons_self ..))).1 i
          have HCB := Lib.hid hcB
          clear hwB hB hWB hcB y3 h0 h1 h2 h3 h4
          have y0 := HCB.out [] _ _ _ _ HWB.out 0
          have HN5 := Lib.hid (refNumber_any (kb.phis.length) wB (by omega))
          go_wp2_with fail
          refine HN5.out.mono ?_
          rintro e wa5 ⟨ba5, rfl, ⟨ga5, ca5, rfl, hown1⟩, hb1⟩
          have hsl := sl_of_bytes hown1
          have HA5 := Lib.hid (HWB.out.below hb1)
          have hown := HA5.out.own
          have hbs := HA5.out.bel.size
          have hlen1 := HL2.out
          have hlen2 : (numB kb.phis.length).length ≤ 2570 := by have := numB_len10 (n := kb.phis.length) (by omega); omega
          clear hown1 hb1
          go_wp2_with (at_builtin; refine wpList_append_bytes rfl (.tmp 66) (.tmp 71) rfl w0.heap.size (.slice (some ⟨g, 0, none⟩) xs.length cap) xs (numB kb.phis.length) _ _ _ rfl rfl hown hsl rfl hbs (by omega) ?_; intro v' wb5 hown' hgr hloc)
          obtain ⟨gb5, cb5, rfl⟩ := own_slice hown' (by have := HL2.out; have := HP2.out; rw [List.length_append]; omega)
          have HWb5 := Lib.hid (HA5.out.app hown' hgr hloc)
          obtain ⟨xb5, hxb5⟩ : ∃ xb, xb = xs ++ numB kb.phis.length := ⟨_, rfl⟩
          have HLb5 : Hid (xb5.length ≤ 2989615010) := Lib.hid (by rw [hxb5, List.length_append]; omega)
          have HPb5 : Hid (0 < xb5.length) := Lib.hid (by have := HP2.out; rw [hxb5, List.length_append]; omega)
          rw [← hxb5] at HWb5 ⊢
          have HXb5 := Lib.hid hxb5
          clear hown' hgr hloc hown hbs hsl hlen1 hlen2 hxb5 HA5
          clear y0
          go_loopw [3, 8] (fun u i wr => ∃ (k3 g cap : Nat) (xs : List UInt8), k3 ≤ kb.phis.length ∧ i = .int .i64 k3 ∧ u = .slice (some ⟨g, 0, none⟩) xs.length cap ∧ Hid (xs = xb5 ++ (kb.phis.take k3).flatMap phiB) ∧ Hid (Wr w0 wr g cap xs ((B, (Obj.cells #[.slice Ap kb.phis.length cp, .slice Ai kb.ins.length ci, .int .i64 tk, .int .i64 ((ta : Int) - 1), .slice At kb.term.to.length ct] 63 (0, 0))) :: KF))) (fun _ i _ => kb.phis.length - (intOf i).toNat)
          case atStart => exact ⟨0, gb5, cb5, xb5, Nat.zero_le _, rfl, rfl, Lib.hid (by simp), HWb5⟩
          case round =>
            obtain ⟨k3, g, cap, xs, hk3, rfl, rfl, hxs3, hW3⟩ := hrel
            have y0 := HCB.out [] _ _ _ _ hW3.out 0
            have HL3 : Hid (xs.length ≤ 2990275490) := Lib.hid (by
              have h1 := flat_few (b := phiB) (n := 2580) (N := 256) k3 (fun x hx => phi_len (HOB.out.1.2 x hx)) hp256
              have h2 := HLb5.out
              rw [hxs3.out, List.length_append]; omega)
            have HP3 : Hid (0 < xs.length) := Lib.hid (by have := HPb5.out; rw [hxs3.out, List.length_append]; omega)
            by_cases hlt3 : k3 < kb.phis.length
            · obtain ⟨bp, op, p, rfl, hp, ⟨h0, -⟩, Aa, ca, h1, hag⟩ := HPH.out.at_ hlt3
              have HAG : Hid (VS w0 1 RInt (.slice Aa p.args.length ca) p.args) := Lib.hid ⟨_, _, rfl, hag⟩
              have HOP := Lib.hid (HOB.out.1.2 p (List.mem_of_getElem? hp.out))
              obtain ⟨pd, hpd, hpd2⟩ := nat_of HOP.out.1
              have hagl := hag.len
              have kk := kept_of_below hW3.out.bel
              have h0 := kk _ _ h0
              rw [hpd] at h0
              have H1 := Lib.hid h1
              have HPD := Lib.hid hpd
              have hj0 : (0 : Int) ≤ k3 := by omega
              have hj1 : (k3 : Int) < kb.phis.length := by omega
              clear hag kk hpd h1
              have HN6 := Lib.hid (refNumber_any (pd) wr (by omega))
              go_wp2_with fail
              refine HN6.out.mono ?_
              rintro e wa6 ⟨ba6, rfl, ⟨ga6, ca6, rfl, hown1⟩, hb1⟩
              have hsl := sl_of_bytes hown1
              have HA6 := Lib.hid (hW3.out.below hb1)
              have hown := HA6.out.own
              have hbs := HA6.out.bel.size
              have hlen1 := HL3.out
              have hlen2 : (numB pd).length ≤ 2570 := by have := numB_len10 (n := pd) (by omega); omega
              clear hown1 hb1
              go_upto_region 19 with (at_builtin; refine wpList_append_bytes rfl (.tmp 80) (.tmp 88) rfl w0.heap.size (.slice (some ⟨g, 0, none⟩) xs.length cap) xs (numB pd) _ _ _ rfl rfl hown hsl rfl hbs (by omega) ?_; intro v' wb6 hown' hgr hloc)
              obtain ⟨gb6, cb6, rfl⟩ := own_slice hown' (by have := HL3.out; have := HP3.out; rw [List.length_append]; omega)
              have HWb6 := Lib.hid (HA6.out.app hown' hgr hloc)
              obtain ⟨xb6, hxb6⟩ : ∃ xb, xb = xs ++ numB pd := ⟨_, rfl⟩
              have HLb6 : Hid (xb6.length ≤ 2990278490) := Lib.hid (by rw [hxb6, List.length_append]; omega)
              have HPb6 : Hid (0 < xb6.length) := Lib.hid (by have := HP3.out; rw [hxb6, List.length_append]; omega)
              rw [← hxb6] at HWb6 ⊢
              have HXb6 := Lib.hid hxb6
              clear hown' hgr hloc hown hbs hsl hlen1 hlen2 hxb6 HA6
              clear h0 y0
              have y0 := HCB.out [] _ _ _ _ HWb6.out 0
              have h1 := kept_of_below HWb6.out.bel _ _ H1.out
              have HN7 := Lib.hid (refList_any p.args _ wb6 (VInts.keep (kept_of_below HWb6.out.bel) HAG.out) HOP.out.2)
              go_wp2_with fail
              refine HN7.out.mono ?_
              rintro e wa7 ⟨ba7, rfl, ⟨ga7, ca7, rfl, hown1⟩, hb1⟩
              have hsl := sl_of_bytes hown1
              have HA7 := Lib.hid (HWb6.out.below hb1)
              have hown := HA7.out.own
              have hbs := HA7.out.bel.size
              have hlen1 := HLb6.out
              have hlen2 : (intsB p.args).length ≤ 2570 := ints_len HOP.out.2
              clear hown1 hb1
              go_wp2_with (at_builtin; refine wpList_append_bytes rfl (.tmp 90) (.tmp 97) rfl w0.heap.size (.slice (some ⟨gb6, 0, none⟩) xb6.length cb6) xb6 (intsB p.args) _ _ _ rfl rfl hown hsl rfl hbs (by omega) ?_; intro v' wb7 hown' hgr hloc)
              obtain ⟨gb7, cb7, rfl⟩ := own_slice hown' (by have := HLb6.out; have := HPb6.out; rw [List.length_append]; omega)
              have HWb7 := Lib.hid (HA7.out.app hown' hgr hloc)
              obtain ⟨xb7, hxb7⟩ : ∃ xb, xb = xb6 ++ intsB p.args := ⟨_, rfl⟩
              have HLb7 : Hid (xb7.length ≤ 2990281490) := Lib.hid (by rw [hxb7, List.length_append]; omega)
              have HPb7 : Hid (0 < xb7.length) := Lib.hid (by have := HPb6.out; rw [hxb7, List.length_append]; omega)
              rw [← hxb7] at HWb7 ⊢
              have HXb7 := Lib.hid hxb7
              clear hown' hgr hloc hown hbs hsl hlen1 hlen2 hxb7 HA7
              go_roundw
              case rel =>
                refine ⟨k3 + 1, gb7, cb7, xb7, by omega, by go_num, rfl, Lib.hid ?_, HWb7⟩
                rw [flat_step hp.out, HXb7.out, HXb6.out, hxs3.out]
                unfold phiB intB
                rw [HPD.out, Int.toNat_natCast]
                simp only [List.append_assoc]
              case measure => simp [intOf]; omega
            · obtain rfl : k3 = kb.phis.length := by omega
              rw [List.take_length] at hxs3
              go_upto_region 20 with fail
              clear y0
              have y1 := HCB.out [] _ _ _ _ hW3.out 1
              have HN8 := Lib.hid (refNumber_any (kb.ins.length) wr (by omega))
              go_wp2_with fail
              refine HN8.out.mono ?_
              rintro e wa8 ⟨ba8, rfl, ⟨ga8, ca8, rfl, hown1⟩, hb1⟩
              have hsl := sl_of_bytes hown1
              have HA8 := Lib.hid (hW3.out.below hb1)
              have hown := HA8.out.own
              have hbs := HA8.out.bel.size
              have hlen1 := HL3.out
              have hlen2 : (numB kb.ins.length).length ≤ 2570 := by have := numB_len10 (n := kb.ins.length) (by omega); omega
              clear hown1 hb1
              go_wp2_with (at_builtin; refine wpList_append_bytes rfl (.tmp 99) (.tmp 104) rfl w0.heap.size (.slice (some ⟨g, 0, none⟩) xs.length cap) xs (numB kb.ins.length) _ _ _ rfl rfl hown hsl rfl hbs (by omega) ?_; intro v' wb8 hown' hgr hloc)
              obtain ⟨gb8, cb8, rfl⟩ := own_slice hown' (by have := HL3.out; have := HP3.out; rw [List.length_append]; omega)
              have HWb8 := Lib.hid (HA8.out.app hown' hgr hloc)
              obtain ⟨xb8, hxb8⟩ : ∃ xb, xb = xs ++ numB kb.ins.length := ⟨_, rfl⟩
              have HLb8 : Hid (xb8.length ≤ 2990278490) := Lib.hid (by rw [hxb8, List.length_append]; omega)
              have HPb8 : Hid (0 < xb8.length) := Lib.hid (by have := HP3.out; rw [hxb8, List.length_append]; omega)
              rw [← hxb8] at HWb8 ⊢
              have HXb8 := Lib.hid hxb8
              clear hown' hgr hloc hown hbs hsl hlen1 hlen2 hxb8 HA8
              clear y1
              go_loopw [3, 9] (fun u i wr => ∃ (k4 g cap : Nat) (xs : List UInt8), k4 ≤ kb.ins.length ∧ i = .int .i64 k4 ∧ u = .slice (some ⟨g, 0, none⟩) xs.length cap ∧ Hid (xs = xb8 ++ (kb.ins.take k4).flatMap insB) ∧ Hid (Wr w0 wr g cap xs ((B, (Obj.cells #[.slice Ap kb.phis.length cp, .slice Ai kb.ins.length ci, .int .i64 tk, .int .i64 ((ta : Int) - 1), .slice At kb.term.to.length ct] 63 (0, 0))) :: KF))) (fun _ i _ => kb.ins.length - (intOf i).toNat)
              case atStart => exact ⟨0, gb8, cb8, xb8, Nat.zero_le _, rfl, rfl, Lib.hid (by simp), HWb8⟩
              case round =>
                obtain ⟨k4, g, cap, xs, hk4, rfl, rfl, hxs4, hW4⟩ := hrel
                have y1 := HCB.out [] _ _ _ _ hW4.out 1
                have HL4 : Hid (xs.length ≤ 2990946650) := Lib.hid (by
                  have h1 := flat_few (b := insB) (n := 2610) (N := 256) k4 (fun x hx => ins_len (HOB.out.2.1.2 x hx)) hi256
                  have h2 := HLb8.out
                  rw [hxs4.out, List.length_append]; omega)
                have HP4 : Hid (0 < xs.length) := Lib.hid (by have := HPb8.out; rw [hxs4.out, List.length_append]; omega)
                by_cases hlt4 : k4 < kb.ins.length
                · obtain ⟨bi, oi, x, rfl, hx, ⟨h0, -⟩, ⟨h1, -⟩, ⟨Aa, ca, h2, hag⟩, ⟨h3, -⟩, ⟨h4, -⟩⟩ := HIN.out.at_ hlt4
                  have HAG : Hid (VS w0 1 RInt (.slice Aa x.args.length ca) x.args) := Lib.hid ⟨_, _, rfl, hag⟩
                  have HOX := Lib.hid (HOB.out.2.1.2 x (List.mem_of_getElem? hx.out))
                  obtain ⟨xo, hxo, hxo2⟩ := nat_of HOX.out.1
                  obtain ⟨xd, hxd, hxd2⟩ := nat_of1 HOX.out.2.1
                  obtain ⟨xf, hxf, hxf2⟩ := nat_of HOX.out.2.2.2.2
                  have hagl := hag.len
                  have kk := kept_of_below hW4.out.bel
                  have h0 := kk _ _ h0
                  have h1 := kk _ _ h1
                  have h2 := kk _ _ h2
                  have h3 := kk _ _ h3
                  have h4 := kk _ _ h4
                  rw [hxo] at h0
                  rw [hxd] at h1
                  rw [hxf] at h4
                  have HXO := Lib.hid hxo
                  have HXD := Lib.hid hxd
                  have HXF := Lib.hid hxf
                  have hj0 : (0 : Int) ≤ k4 := by omega
                  have hj1 : (k4 : Int) < kb.ins.length := by omega
                  clear hag kk hxo hxd hxf
                  go_upto_region 25 with fail
                  obtain ⟨wX, hwX⟩ : ∃ wX, wX = wr.alloc (.cells #[.int .i64 xo, .int .i64 ((xd : Int) - 1), .slice Aa x.args.length ca, .int .i64 x.imm, .int .i64 xf] 65) := ⟨_, rfl⟩
                  have hWX := hW4.out.alloc (.cells #[.int .i64 xo, .int .i64 ((xd : Int) - 1), .slice Aa x.args.length ca, .int .i64 x.imm, .int .i64 xf] 65)
                  rw [← hwX] at hWX ⊢
                  obtain ⟨X, hX⟩ : ∃ X, X = wr.heap.size := ⟨_, rfl⟩
                  rw [← hX] at hWX ⊢
                  have HWX := Lib.hid hWX
                  have hcX : ∀ (K : List (Nat × Obj)) (w' : World) (g' cap' : Nat) (xs' : List UInt8), Wr w0 w' g' cap' xs' ((X, .cells #[.int .i64 xo, .int .i64 ((xd : Int) - 1), .slice Aa x.args.length ca, .int .i64 x.imm, .int .i64 xf] 65 (0, 0)) :: K) → ∀ i, w'.cell? ⟨X, i, none⟩ = (#[.int .i64 xo, .int .i64 ((xd : Int) - 1), .slice Aa x.args.length ca, .int .i64 x.imm, .int .i64 xf] : Array Value)[i]? := fun K w' g' cap' xs' h i => cell_of_block (h.box _ (List.mem_cons_self ..)).1 i
                  have HCX := Lib.hid hcX
                  have hd1 : (xd : Int) - 1 + 1 = xd := by omega
                  clear hwX hX hWX hcX y1 h0 h1 h2 h3 h4
                  have y0 := HCX.out _ _ _ _ _ HWX.out 0
                  have HN9 := Lib.hid (refNumber_any (xo) wX (by omega))
                  go_wp2_with fail
                  refine HN9.out.mono ?_
                  rintro e wa9 ⟨ba9, rfl, ⟨ga9, ca9, rfl, hown1⟩, hb1⟩
                  have hsl := sl_of_bytes hown1
                  have HA9 := Lib.hid (HWX.out.below hb1)
                  have hown := HA9.out.own
                  have hbs := HA9.out.bel.size
                  have hlen1 := HL4.out
                  have hlen2 : (numB xo).length ≤ 2570 := by have := numB_len10 (n := xo) (by omega); omega
                  clear hown1 hb1
                  go_upto_region 26 with (at_builtin; refine wpList_append_bytes rfl (.tmp 118) (.tmp 122) rfl w0.heap.size (.slice (some ⟨g, 0, none⟩) xs.length cap) xs (numB xo) _ _ _ rfl rfl hown hsl rfl hbs (by omega) ?_; intro v' wb9 hown' hgr hloc)
                  obtain ⟨gb9, cb9, rfl⟩ := own_slice hown' (by have := HL4.out; have := HP4.out; rw [List.length_append]; omega)
                  have HWb9 := Lib.hid (HA9.out.app hown' hgr hloc)
                  obtain ⟨xb9, hxb9⟩ : ∃ xb, xb = xs ++ numB xo := ⟨_, rfl⟩
                  have HLb9 : Hid (xb9.length ≤ 2990949650) := Lib.hid (by rw [hxb9, List.length_append]; omega)
                  have HPb9 : Hid (0 < xb9.length) := Lib.hid (by have := HP4.out; rw [hxb9, List.length_append]; omega)
                  rw [← hxb9] at HWb9 ⊢
                  have HXb9 := Lib.hid hxb9
                  clear hown' hgr hloc hown hbs hsl hlen1 hlen2 hxb9 HA9
                  clear y0
                  have y1 := HCX.out _ _ _ _ _ HWb9.out 1
                  have HN10 := Lib.hid (refNumber_any (xd) wb9 (by omega))
                  go_wp2_with fail
                  refine HN10.out.mono ?_
                  rintro e wa10 ⟨ba10, rfl, ⟨ga10, ca10, rfl, hown1⟩, hb1⟩
                  have hsl := sl_of_bytes hown1
                  have HA10 := Lib.hid (HWb9.out.below hb1)
                  have hown := HA10.out.own
                  have hbs := HA10.out.bel.size
                  have hlen1 := HLb9.out
                  have hlen2 : (numB xd).length ≤ 2570 := by have := numB_len10 (n := xd) (by omega); omega
                  clear hown1 hb1
                  go_upto_region 27 with (at_builtin; refine wpList_append_bytes rfl (.tmp 124) (.tmp 129) rfl w0.heap.size (.slice (some ⟨gb9, 0, none⟩) xb9.length cb9) xb9 (numB xd) _ _ _ rfl rfl hown hsl rfl hbs (by omega) ?_; intro v' wb10 hown' hgr hloc)
                  obtain ⟨gb10, cb10, rfl⟩ := own_slice hown' (by have := HLb9.out; have := HPb9.out; rw [List.length_append]; omega)
                  have HWb10 := Lib.hid (HA10.out.app hown' hgr hloc)
                  obtain ⟨xb10, hxb10⟩ : ∃ xb, xb = xb9 ++ numB xd := ⟨_, rfl⟩
                  have HLb10 : Hid (xb10.length ≤ 2990952650) := Lib.hid (by rw [hxb10, List.length_append]; omega)
                  have HPb10 : Hid (0 < xb10.length) := Lib.hid (by have := HPb9.out; rw [hxb10, List.length_append]; omega)
                  rw [← hxb10] at HWb10 ⊢
                  have HXb10 := Lib.hid hxb10
                  clear hown' hgr hloc hown hbs hsl hlen1 hlen2 hxb10 HA10
                  clear y1
                  have y2 := HCX.out _ _ _ _ _ HWb10.out 2
                  have HN11 := Lib.hid (refList_any x.args _ wb10 (VInts.keep (kept_of_below HWb10.out.bel) HAG.out) HOX.out.2.2.1)
                  go_wp2_with fail
                  refine HN11.out.mono ?_
                  rintro e wa11 ⟨ba11, rfl, ⟨ga11, ca11, rfl, hown1⟩, hb1⟩
                  have hsl := sl_of_bytes hown1
                  have HA11 := Lib.hid (HWb10.out.below hb1)
                  have hown := HA11.out.own
                  have hbs := HA11.out.bel.size
                  have hlen1 := HLb10.out
                  have hlen2 : (intsB x.args).length ≤ 2570 := ints_len HOX.out.2.2.1
                  clear hown1 hb1
                  go_upto_region 28 with (at_builtin; refine wpList_append_bytes rfl (.tmp 131) (.tmp 134) rfl w0.heap.size (.slice (some ⟨gb10, 0, none⟩) xb10.length cb10) xb10 (intsB x.args) _ _ _ rfl rfl hown hsl rfl hbs (by omega) ?_; intro v' wb11 hown' hgr hloc)
                  obtain ⟨gb11, cb11, rfl⟩ := own_slice hown' (by have := HLb10.out; have := HPb10.out; rw [List.length_append]; omega)
                  have HWb11 := Lib.hid (HA11.out.app hown' hgr hloc)
                  obtain ⟨xb11, hxb11⟩ : ∃ xb, xb = xb10 ++ intsB x.args := ⟨_, rfl⟩
                  have HLb11 : Hid (xb11.length ≤ 2990955650) := Lib.hid (by rw [hxb11, List.length_append]; omega)
                  have HPb11 : Hid (0 < xb11.length) := Lib.hid (by have := HPb10.out; rw [hxb11, List.length_append]; omega)
                  rw [← hxb11] at HWb11 ⊢
                  have HXb11 := Lib.hid hxb11
                  clear hown' hgr hloc hown hbs hsl hlen1 hlen2 hxb11 HA11
                  clear y2
                  have y3 := HCX.out _ _ _ _ _ HWb11.out 3
                  have HN12 := Lib.hid (refSigned_any x.imm wb11 HOX.out.2.2.2.1)
                  go_wp2_with fail
                  refine HN12.out.mono ?_
                  rintro e wa12 ⟨ba12, rfl, ⟨ga12, ca12, rfl, hown1⟩, hb1⟩
                  have hsl := sl_of_bytes hown1
                  have HA12 := Lib.hid (HWb11.out.below hb1)
                  have hown := HA12.out.own
                  have hbs := HA12.out.bel.size
                  have hlen1 := HLb11.out
                  have hlen2 : (numB (zig x.imm)).length ≤ 2570 := by have := numB_len10 (zig_lt HOX.out.2.2.2.1); omega
                  clear hown1 hb1
                  go_upto_region 29 with (at_builtin; refine wpList_append_bytes rfl (.tmp 136) (.tmp 139) rfl w0.heap.size (.slice (some ⟨gb11, 0, none⟩) xb11.length cb11) xb11 (numB (zig x.imm)) _ _ _ rfl rfl hown hsl rfl hbs (by omega) ?_; intro v' wb12 hown' hgr hloc)
                  obtain ⟨gb12, cb12, rfl⟩ := own_slice hown' (by have := HLb11.out; have := HPb11.out; rw [List.length_append]; omega)
                  have HWb12 := Lib.hid (HA12.out.app hown' hgr hloc)
                  obtain ⟨xb12, hxb12⟩ : ∃ xb, xb = xb11 ++ numB (zig x.imm) := ⟨_, rfl⟩
                  have HLb12 : Hid (xb12.length ≤ 2990958650) := Lib.hid (by rw [hxb12, List.length_append]; omega)
                  have HPb12 : Hid (0 < xb12.length) := Lib.hid (by have := HPb11.out; rw [hxb12, List.length_append]; omega)
                  rw [← hxb12] at HWb12 ⊢
                  have HXb12 := Lib.hid hxb12
                  clear hown' hgr hloc hown hbs hsl hlen1 hlen2 hxb12 HA12
                  clear y3
                  have y4 := HCX.out _ _ _ _ _ HWb12.out 4
                  have HN13 := Lib.hid (refNumber_any (xf) wb12 (by omega))
                  go_wp2_with fail
                  refine HN13.out.mono ?_
                  rintro e wa13 ⟨ba13, rfl, ⟨ga13, ca13, rfl, hown1⟩, hb1⟩
                  have hsl := sl_of_bytes hown1
                  have HA13 := Lib.hid (HWb12.out.below hb1)
                  have hown := HA13.out.own
                  have hbs := HA13.out.bel.size
                  have hlen1 := HLb12.out
                  have hlen2 : (numB xf).length ≤ 2570 := by have := numB_len10 (n := xf) (by omega); omega
                  clear hown1 hb1
                  go_wp2_with (at_builtin; refine wpList_append_bytes rfl (.tmp 141) (.tmp 145) rfl w0.heap.size (.slice (some ⟨gb12, 0, none⟩) xb12.length cb12) xb12 (numB xf) _ _ _ rfl rfl hown hsl rfl hbs (by omega) ?_; intro v' wb13 hown' hgr hloc)
                  obtain ⟨gb13, cb13, rfl⟩ := own_slice hown' (by have := HLb12.out; have := HPb12.out; rw [List.length_append]; omega)
                  have HWb13 := Lib.hid (HA13.out.app hown' hgr hloc)
                  obtain ⟨xb13, hxb13⟩ : ∃ xb, xb = xb12 ++ numB xf := ⟨_, rfl⟩
                  have HLb13 : Hid (xb13.length ≤ 2990961650) := Lib.hid (by rw [hxb13, List.length_append]; omega)
                  have HPb13 : Hid (0 < xb13.length) := Lib.hid (by have := HPb12.out; rw [hxb13, List.length_append]; omega)
                  rw [← hxb13] at HWb13 ⊢
                  have HXb13 := Lib.hid hxb13
                  clear hown' hgr hloc hown hbs hsl hlen1 hlen2 hxb13 HA13
                  go_roundw
                  case rel =>
                    refine ⟨k4 + 1, gb13, cb13, xb13, by omega, by go_num, rfl, Lib.hid ?_, Lib.hid HWb13.out.drop⟩
                    rw [flat_step hx.out, HXb13.out, HXb12.out, HXb11.out, HXb10.out, HXb9.out, hxs4.out]
                    unfold insB intB
                    rw [HXO.out, HXD.out, HXF.out, show (xd : Int) - 1 + 1 = xd by omega, Int.toNat_natCast, Int.toNat_natCast, Int.toNat_natCast]
                    simp only [List.append_assoc]
                  case measure => simp [intOf]; omega
                · obtain rfl : k4 = kb.ins.length := by omega
                  rw [List.take_length] at hxs4
                  have hd1 : (ta : Int) - 1 + 1 = ta := by omega
                  go_upto_region 30 with fail
                  clear y1
                  have y2 := HCB.out [] _ _ _ _ hW4.out 2
                  have HN14 := Lib.hid (refNumber_any (tk) wr (by omega))
                  go_wp2_with fail
                  refine HN14.out.mono ?_
                  rintro e wa14 ⟨ba14, rfl, ⟨ga14, ca14, rfl, hown1⟩, hb1⟩
                  have hsl := sl_of_bytes hown1
                  have HA14 := Lib.hid (hW4.out.below hb1)
                  have hown := HA14.out.own
                  have hbs := HA14.out.bel.size
                  have hlen1 := HL4.out
                  have hlen2 : (numB tk).length ≤ 2570 := by have := numB_len10 (n := tk) (by omega); omega
                  clear hown1 hb1
                  go_upto_region 31 with (at_builtin; refine wpList_append_bytes rfl (.tmp 147) (.tmp 152) rfl w0.heap.size (.slice (some ⟨g, 0, none⟩) xs.length cap) xs (numB tk) _ _ _ rfl rfl hown hsl rfl hbs (by omega) ?_; intro v' wb14 hown' hgr hloc)
                  obtain ⟨gb14, cb14, rfl⟩ := own_slice hown' (by have := HL4.out; have := HP4.out; rw [List.length_append]; omega)
                  have HWb14 := Lib.hid (HA14.out.app hown' hgr hloc)
                  obtain ⟨xb14, hxb14⟩ : ∃ xb, xb = xs ++ numB tk := ⟨_, rfl⟩
                  have HLb14 : Hid (xb14.length ≤ 2990949650) := Lib.hid (by rw [hxb14, List.length_append]; omega)
                  have HPb14 : Hid (0 < xb14.length) := Lib.hid (by have := HP4.out; rw [hxb14, List.length_append]; omega)
                  rw [← hxb14] at HWb14 ⊢
                  have HXb14 := Lib.hid hxb14
                  clear hown' hgr hloc hown hbs hsl hlen1 hlen2 hxb14 HA14
                  clear y2
                  have y3 := HCB.out [] _ _ _ _ HWb14.out 3
                  have HN15 := Lib.hid (refNumber_any (ta) wb14 (by omega))
                  go_wp2_with fail
                  refine HN15.out.mono ?_
                  rintro e wa15 ⟨ba15, rfl, ⟨ga15, ca15, rfl, hown1⟩, hb1⟩
                  have hsl := sl_of_bytes hown1
                  have HA15 := Lib.hid (HWb14.out.below hb1)
                  have hown := HA15.out.own
                  have hbs := HA15.out.bel.size
                  have hlen1 := HLb14.out
                  have hlen2 : (numB ta).length ≤ 2570 := by have := numB_len10 (n := ta) (by omega); omega
                  clear hown1 hb1
                  go_upto_region 32 with (at_builtin; refine wpList_append_bytes rfl (.tmp 154) (.tmp 160) rfl w0.heap.size (.slice (some ⟨gb14, 0, none⟩) xb14.length cb14) xb14 (numB ta) _ _ _ rfl rfl hown hsl rfl hbs (by omega) ?_; intro v' wb15 hown' hgr hloc)
                  obtain ⟨gb15, cb15, rfl⟩ := own_slice hown' (by have := HLb14.out; have := HPb14.out; rw [List.length_append]; omega)
                  have HWb15 := Lib.hid (HA15.out.app hown' hgr hloc)
                  obtain ⟨xb15, hxb15⟩ : ∃ xb, xb = xb14 ++ numB ta := ⟨_, rfl⟩
                  have HLb15 : Hid (xb15.length ≤ 2990952650) := Lib.hid (by rw [hxb15, List.length_append]; omega)
                  have HPb15 : Hid (0 < xb15.length) := Lib.hid (by have := HPb14.out; rw [hxb15, List.length_append]; omega)
                  rw [← hxb15] at HWb15 ⊢
                  have HXb15 := Lib.hid hxb15
                  clear hown' hgr hloc hown hbs hsl hlen1 hlen2 hxb15 HA15
                  clear y3
                  have y4 := HCB.out [] _ _ _ _ HWb15.out 4
                  have HN16 := Lib.hid (refList_any kb.term.to _ wb15 (VInts.keep (kept_of_below HWb15.out.bel) HTO.out) HOB.out.2.2.2.2)
                  go_wp2_with fail
                  refine HN16.out.mono ?_
                  rintro e wa16 ⟨ba16, rfl, ⟨ga16, ca16, rfl, hown1⟩, hb1⟩
                  have hsl := sl_of_bytes hown1
                  have HA16 := Lib.hid (HWb15.out.below hb1)
                  have hown := HA16.out.own
                  have hbs := HA16.out.bel.size
                  have hlen1 := HLb15.out
                  have hlen2 : (intsB kb.term.to).length ≤ 2570 := ints_len HOB.out.2.2.2.2
                  clear hown1 hb1
                  go_wp2_with (at_builtin; refine wpList_append_bytes rfl (.tmp 162) (.tmp 166) rfl w0.heap.size (.slice (some ⟨gb15, 0, none⟩) xb15.length cb15) xb15 (intsB kb.term.to) _ _ _ rfl rfl hown hsl rfl hbs (by omega) ?_; intro v' wb16 hown' hgr hloc)
                  obtain ⟨gb16, cb16, rfl⟩ := own_slice hown' (by have := HLb15.out; have := HPb15.out; rw [List.length_append]; omega)
                  have HWb16 := Lib.hid (HA16.out.app hown' hgr hloc)
                  obtain ⟨xb16, hxb16⟩ : ∃ xb, xb = xb15 ++ intsB kb.term.to := ⟨_, rfl⟩
                  have HLb16 : Hid (xb16.length ≤ 2990955650) := Lib.hid (by rw [hxb16, List.length_append]; omega)
                  have HPb16 : Hid (0 < xb16.length) := Lib.hid (by have := HPb15.out; rw [hxb16, List.length_append]; omega)
                  rw [← hxb16] at HWb16 ⊢
                  have HXb16 := Lib.hid hxb16
                  clear hown' hgr hloc hown hbs hsl hlen1 hlen2 hxb16 HA16
                  go_roundw
                  case rel =>
                    refine ⟨k2 + 1, gb16, cb16, xb16, by omega, by go_num, rfl, Lib.hid ?_, Lib.hid HWb16.out.drop⟩
                    rw [flat_step hkb.out, HXb16.out, HXb15.out, HXb14.out, hxs4.out, HXb8.out, hxs3.out, HXb5.out, hxs2.out]
                    unfold blkB phisB inssB termB intB
                    rw [HTK.out, HTA.out, show (ta : Int) - 1 + 1 = ta by omega, Int.toNat_natCast, Int.toNat_natCast]
                    simp only [List.append_assoc]
                  case measure => simp [intOf]; omega
        · obtain rfl : k2 = f.blocks.length := by omega
          rw [List.take_length] at hxs2
          go_wp2_with fail
          go_roundw
          case rel =>
            refine ⟨k + 1, g, cap, xs, by omega, by go_num, rfl, Lib.hid ?_, Lib.hid (by have h := hW2.out; rw [HKF.out] at h; exact h.drop)⟩
            rw [flat_step hf.out, hxs2.out, HXb4.out, HXb3.out, HXb2.out, HXb1.out, hxs.out]
            unfold funB blksB intB
            rw [HFP.out, HFR.out, Int.toNat_natCast, Int.toNat_natCast]
            simp only [List.append_assoc]
          case measure => simp [intOf]; omega
    · obtain rfl : k = m.length := by omega
      rw [List.take_length] at hxs
      have he : xs = modB m := by rw [hxs.out, HX0.out, List.append_assoc]; rfl
      have HE := Lib.hid he
      have hsz := HB0.out.size
      go_wp2_with fail
      go_ret
      have hW := hW.out
      rw [HE.out] at hW ⊢
      exact ⟨_, rfl, ⟨g, cap, rfl, own_base hW.own HB0.out.size⟩, HB0.out.trans (hW.bel.mono HB0.out.size)⟩
    end Go.Proofs.YtoidhjmhakajlaaGreatDoor
