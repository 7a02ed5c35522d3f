/- The program's Clean: whether whatever goes round is a loop. -/
import Derived.Test.YtflbooopgjgkbaaLpDJ
import Derived.BigQuiet
import Derived.StillTailTactics
import Derived.Test.YtflbooopgjgkbaaGrNJ
import Derived.Test.YtflbooopgjgkbaaDmKJ
import Derived.Test.YtflbooopgjgkbaaClnJ
import Derived.Test.YtflbooopgjgkbaaDmCJ
namespace Go.Proofs.Ytflbooopgjgkbaa
open Go.ChangeShapes Go.WideShapes Go.RowKit Go.Deep
set_option linter.unusedVariables false

/-- Blocks that lead to one that is not behind them in the order are dominated by it: so up to the first k, and the first j that the next one leads to. -/
def ClP (bs : List BlkD) (k : Nat) : Prop := ∀ i x, i < k → (orderF bs)[i]? = some x → ∀ t ∈ nxF bs x, t ∈ (orderF bs).take (i + 1) → dmB bs t x = true
def ClJ (bs : List BlkD) (k x j : Nat) : Prop := ∀ t ∈ (nxF bs x).take j, t ∈ (orderF bs).take (k + 1) → dmB bs t x = true
def CleanP (bs : List BlkD) : Prop := ClP bs (orderF bs).length
theorem ClP.step {bs : List BlkD} {k x j : Nat} (h : ClP bs k) (hx : (orderF bs)[k]? = some x) (hj : ClJ bs k x j) (hl : (nxF bs x).length ≤ j) : ClP bs (k + 1) := fun i y hi hy t ht hm => by
  by_cases e : i = k
  · subst e
    rw [hx] at hy; cases hy
    exact hj t (by rw [List.take_of_length_le hl]; exact ht) hm
  · exact h i y (by omega) hy t ht hm
theorem ClJ.step {bs : List BlkD} {k x j t : Nat} (h : ClJ bs k x j) (ht : (nxF bs x)[j]? = some t) (hd : t ∈ (orderF bs).take (k + 1) → dmB bs t x = true) : ClJ bs k x (j + 1) := fun y hy hm => by
  rw [take_succ_of ht, List.mem_append, List.mem_singleton] at hy
  rcases hy with hy | rfl
  · exact h y hy hm
  · exact hd hm
theorem CleanP.not {bs : List BlkD} {k x t : Nat} (hx : (orderF bs)[k]? = some x) (ht : t ∈ nxF bs x) (hm : t ∈ (orderF bs).take (k + 1)) (hd : dmB bs t x = false) : ¬ CleanP bs := fun h => by
  have := h k x (List.getElem?_eq_some_iff.1 hx).1 hx t ht hm
  rw [hd] at this; cases this

def ToldCl (bs : List BlkD) (w : World) (e : Ending) (w' : World) : Prop :=
  (∃ r, e = .returned (.bool r) ∧ (r = true ↔ CleanP bs) ∧ ∃ ord, NearB bs (nearD bs) ord) ∧ Below w.heap.size w w'
/-- The first k of the order. -/
def dnB (bs : List BlkD) (k x : Nat) : Bool := decide (x ∈ (orderF bs).take k)
theorem dnB_step {bs : List BlkD} {k b : Nat} (hb : (orderF bs)[k]? = some b) (x : Nat) : dnB bs (k + 1) x = if x = b then true else dnB bs k x := by
  unfold dnB
  rw [take_succ_of hb]
  by_cases e : x = b
  · subst e; simp
  · simp [e]
theorem row_madeB {w : World} {H k : Nat} (h : w.heap[H]? = some (.cells (madeCells #[.bool false] k) 4)) : w.rowIs H 4 k (fun _ => .bool false) :=
  ⟨_, h, size_madeCells _ _, fun i hi => by simp [madeCells, hi, Nat.mod_one]⟩
set_option maxRecDepth 100000 in
set_option maxHeartbeats 8000000 in
theorem clean_any (f : FunD) (v : Value) (w : World) (hv : VFun w v f) (hn : f.blocks.length ≤ 1000) : Calls Try.prog 12 #[v] w (ToldCl f.blocks w) := by
  have hv0 := hv
  obtain ⟨Ar, cr, A, c, rfl, -, -, -, -⟩ := hv
  go_enter Try.func12, Try.ntmps12
  go_upto_region 1 with fail
  obtain ⟨w1, hw1, hs1, hk1, hbel1, hc1, -⟩ := named w #[.int .i64 f.params, .int .i64 f.result, .slice Ar f.regs.length cr, .slice A f.blocks.length c] 25
  rw [← hw1]
  have c0 : w1.cell? ⟨w.heap.size, 0, none⟩ = some (.int .i64 f.params) := hc1 0 _ rfl
  have c1 : w1.cell? ⟨w.heap.size, 1, none⟩ = some (.int .i64 f.result) := hc1 1 _ rfl
  have c2 : w1.cell? ⟨w.heap.size, 2, none⟩ = some (.slice Ar f.regs.length cr) := hc1 2 _ rfl
  have c3 : w1.cell? ⟨w.heap.size, 3, none⟩ = some (.slice A f.blocks.length c) := hc1 3 _ rfl
  have HB1 := Lib.hid hbel1
  have HS1 : Hid (w1.heap.size = w.heap.size + 1) := Lib.hid hs1
  have hV1 := VFun.keep hk1 hv0
  clear hw1 hs1 hk1 hc1 hbel1 hv0
  go_wp2_with fail
  refine (waysOf_any f _ w1 hV1 hn).mono ?_
  rintro e w2 ⟨⟨nm, en, Ao, co, Gn, Ga, G1, A2, c2', ord, rfl, hW, hNB⟩, hb2⟩
  obtain ⟨n, hnn⟩ : ∃ n, f.blocks.length = n := ⟨_, rfl⟩
  obtain ⟨ln, hln⟩ : ∃ ln, (orderF f.blocks).length = ln := ⟨_, rfl⟩
  have HNN := Lib.hid hnn
  have HLN := Lib.hid hln
  have hlnn : ln ≤ n := by rw [← hln, ← hnn]; exact orderF_len _
  have HW := Lib.hid hW
  have HNB := Lib.hid hNB
  have HB2 : Hid (Below w.heap.size w w2) := Lib.hid (HB1.out.trans (hb2.mono (by have := HS1.out; omega)))
  unfold wyV
  rw [hnn, hln]
  rw [hnn] at hn
  clear hnn hln hW hNB hb2 c0 c1 c2 c3 hV1 HB1 HS1
  go_upto_region 2 with fail
  obtain ⟨w3, hw3, hs3, hk3, hbel3, hc3, -⟩ := named w2 #[.slice Ao ln co, .slice (some ⟨Gn, 0, none⟩) n n, .slice (some ⟨Ga, 0, none⟩) n n, .slice (some ⟨G1, 0, none⟩) n n, .slice A2 n c2'] 70
  rw [← hw3]
  have hW3 := HW.out.keep hk3
  have HW3 := Lib.hid hW3
  have HC3 := Lib.hid hc3
  have HB3 : Hid (Below w.heap.size w w3) := Lib.hid (HB2.out.trans (hbel3.mono HB2.out.size))
  have HS3 : Hid (w3.heap.size = w2.heap.size + 1 ∧ w.heap.size ≤ w2.heap.size) := Lib.hid ⟨hs3, HB2.out.size⟩
  have x2 : w3.cell? ⟨w2.heap.size, 2, none⟩ = some (.slice (some ⟨Ga, 0, none⟩) n n) := hc3 2 _ rfl
  clear hw3 hs3 hk3 hc3 hbel3 hW3 HB2 HW
  have hmk := run_make_row' (P := Try.prog) 46 4 (.bool false) 1 Try.underlying46 Try.info4 rfl .i64 .i64 n (by omega) (by omega)
  go_upto_region 3 with fail
  clear hmk x2
  obtain ⟨D, hD⟩ : ∃ D, D = w3.heap.size := ⟨_, rfl⟩
  obtain ⟨w4, hw4⟩ : ∃ w4, w4 = w3.alloc (.cells (madeCells #[.bool false] n) 4) := ⟨_, rfl⟩
  have b1 : w4.heap[D]? = some (.cells (madeCells #[.bool false] n) 4) := by rw [hw4, hD]; exact heap_alloc_new _ _
  have hbel : Below w3.heap.size w3 w4 := by rw [hw4]; exact (Below.refl _ _).alloc (Nat.le_refl _) _
  have hsz4 : w4.heap.size = D + 1 := by rw [hw4, hD]; simp
  have HROW := Lib.hid (row_madeB b1)
  have HSZ : Hid (w4.heap.size = D + 1 ∧ w3.heap.size = D ∧ D = w2.heap.size + 1 ∧ w.heap.size ≤ w2.heap.size) := Lib.hid ⟨hsz4, hD.symm, by rw [hD]; exact HS3.out.1, HS3.out.2⟩
  have HB4 : Hid (Below w3.heap.size w3 w4) := Lib.hid hbel
  have x0 : w4.cell? ⟨w2.heap.size, 0, none⟩ = some (.slice Ao ln co) := (hbel.cell (p := ⟨w2.heap.size, 0, none⟩) (by have := HSZ.out; show w2.heap.size < w3.heap.size; omega)).trans (HC3.out 0 _ rfl)
  rw [← hw4, ← hD]
  clear hw4 hD b1 hbel hsz4 HS3
  go_wp2_with fail
  clear x0
  go_loopw [18] (fun s18 wr => ∃ k : Nat, k ≤ ln ∧ s18 = .int .i64 (k : Int) ∧ wr.rowIs D 4 n (fun b => .bool (dnB f.blocks k b)) ∧ FrX (fun b => b = D) w4 wr ∧ ClP f.blocks k) (fun s18 _ => ln - (intOf s18).toNat)
  case atStart => exact ⟨0, Nat.zero_le _, rfl, HROW.out.congr fun _ _ => by simp [dnB], FrX.refl _ _, fun i x hi => by omega⟩
  case round =>
    obtain ⟨k, hk, rfl, hR, hfr, hcl⟩ := hrel
    obtain ⟨wL, rfl⟩ : ∃ wL, wL = wr := ⟨_, rfl⟩
    have HR := Lib.hid hR
    have HFR := Lib.hid hfr
    have HCL := Lib.hid hcl
    by_cases hkl : k < ln
    · obtain ⟨b, hOb⟩ : ∃ b, (orderF f.blocks)[k]? = some b := ⟨_, List.getElem?_eq_getElem (by rw [HLN.out]; exact hkl)⟩
      have hbn : b < n := by rw [← HNN.out]; exact reachF_lt (orderF_mem.1 (List.mem_iff_getElem?.2 ⟨_, hOb⟩))
      obtain ⟨bo, oo, rfl, hcs⟩ := HW3.out.ord.2.2 (by rw [zs_len, HLN.out]; omega)
      have hbo3 : w3.cell? ⟨bo, oo + k, none⟩ = some (.int .i64 (b : Int)) := by
        have h1 := (hcs k (b : Int) (by unfold zs; rw [List.getElem?_map, hOb]; rfl)).1
        rw [Nat.mul_one] at h1; exact h1
      have H3L : Hid (∀ W', FrX (fun b => b = D) w4 W' → Below w3.heap.size w3 W') := Lib.hid (fun W' h => HB4.out.trans (h.below (by have := HSZ.out; omega) (fun b hb => by have : b = D := hb; have := HSZ.out; omega)))
      have hkL := kept_of_below (H3L.out _ hfr)
      have cO : wL.cell? ⟨bo, oo + k, none⟩ = some (.int .i64 (b : Int)) := hkL _ _ hbo3
      have x1 : wL.cell? ⟨w2.heap.size, 1, none⟩ = some (.slice (some ⟨Gn, 0, none⟩) n n) := hkL _ _ (HC3.out 1 _ rfl)
      obtain ⟨W, hW⟩ : ∃ W, W = wL.setCell ⟨D, b, none⟩ (.bool true) := ⟨_, rfl⟩
      have hRW : W.rowIs D 4 n (fun x => .bool (dnB f.blocks (k + 1) x)) := by rw [hW]; exact (hR.set b _).congr fun x _ => by rw [dnB_step hOb]; by_cases e : x = b <;> simp [e]
      have hFW : FrX (fun b => b = D) w4 W := by rw [hW]; exact hfr.setCell (p := ⟨D, b, none⟩) (.inl rfl) _
      obtain ⟨bg, og, lz, hbo2, hl, hcs2⟩ := HW3.out.nxt.at_ (k := b) (by simp; rw [HNN.out]; exact hbn)
      simp only [Option.some.injEq, Addr.mk.injEq, and_true] at hbo2
      obtain ⟨rfl, rfl⟩ := hbo2
      have hlz : lz = zs (nxF f.blocks b) := (map_range_at _ hl.out).1
      subst hlz
      obtain ⟨A4, c4, hcA, hslA⟩ := hcs2
      obtain ⟨m, hm⟩ : ∃ m, (nxF f.blocks b).length = m := ⟨_, rfl⟩
      rw [Nat.mul_one, Nat.zero_add, zs_len, hm] at hcA
      have hm63 : m ≤ 9223372036854775807 := by
        have h1 := hslA.1
        have h2 := hslA.2.1.1
        rw [zs_len, hm] at h1
        unfold maxLen at h2
        omega
      have hGnD : Gn < D := by have h1 := block_lt_of_cell hcA; have := HSZ.out; have h1 : Gn < w3.heap.size := h1; omega
      have hw2D : w2.heap.size < D := by have := HSZ.out; omega
      have hcAL : wL.cell? ⟨Gn, b, none⟩ = some (.slice A4 m c4) := hkL _ _ hcA
      have hDf := hR.frozen b
      have hDc := hR.cell hbn
      have HOb := Lib.hid hOb
      have HM := Lib.hid hm
      have HSA := Lib.hid hslA
      have HRW := Lib.hid hRW
      have HFW := Lib.hid hFW
      have hk0 : (0 : Int) ≤ k := by omega
      have hk1 : (k : Int) < ln := by omega
      clear hOb hcs hbo3 hkL hcl hR hfr hl hm hslA hRW hFW hcA
      go_wp2_with fail
      clear cO x1 hDf hDc hcAL
      rw [← hW]
      clear hW
      go_loopw [31] (fun s31 wq => ∃ j : Nat, j ≤ m ∧ s31 = .int .i64 (j : Int) ∧ Below W.heap.size W wq ∧ ClJ f.blocks k b j) (fun s31 _ => m - (intOf s31).toNat)
      case atStart => exact ⟨0, Nat.zero_le _, rfl, Below.refl _ _, fun t ht => by simp at ht⟩
      case round =>
        obtain ⟨j, hj, rfl, hB, hcj⟩ := hrel
        have HBJ := Lib.hid hB
        have HCJ := Lib.hid hcj
        have h3q := (H3L.out _ HFW.out).trans (HBJ.out.mono (H3L.out _ HFW.out).size)
        by_cases hjl : j < m
        · obtain ⟨bt, ot, x, rfl, hx, hxc, -⟩ := (SInts.keep (kept_of_below h3q) HSA.out).int (k := j) (by rw [zs_len, HM.out]; exact hjl)
          obtain ⟨t, ht, rfl⟩ := zs_at hx.out
          have htn : t < n := by rw [← HNN.out]; exact nxF_lt f.blocks b t (List.mem_of_getElem? ht)
          have hdt := (HRW.out.of_block (hB.block D HRW.out.lt)).cell htn
          have HT := Lib.hid ht
          have hdo := dominates_any f.blocks nm en _ co Gn Ga G1 A2 c2' wr (HW3.out.keep (kept_of_below h3q)) t b (by rw [HNN.out]; exact htn) (by rw [HNN.out]; exact hbn)
          unfold wyV at hdo
          rw [HNN.out, HLN.out] at hdo
          have HDO := Lib.hid hdo
          have x0 : wr.cell? ⟨w2.heap.size, 0, none⟩ = _ := (h3q.cell (p := ⟨w2.heap.size, 0, none⟩) (by have := HSZ.out; show w2.heap.size < w3.heap.size; omega)).trans (HC3.out 0 _ rfl)
          have x1 : wr.cell? ⟨w2.heap.size, 1, none⟩ = _ := (h3q.cell (p := ⟨w2.heap.size, 1, none⟩) (by have := HSZ.out; show w2.heap.size < w3.heap.size; omega)).trans (HC3.out 1 _ rfl)
          have x2 : wr.cell? ⟨w2.heap.size, 2, none⟩ = _ := (h3q.cell (p := ⟨w2.heap.size, 2, none⟩) (by have := HSZ.out; show w2.heap.size < w3.heap.size; omega)).trans (HC3.out 2 _ rfl)
          have x3 : wr.cell? ⟨w2.heap.size, 3, none⟩ = _ := (h3q.cell (p := ⟨w2.heap.size, 3, none⟩) (by have := HSZ.out; show w2.heap.size < w3.heap.size; omega)).trans (HC3.out 3 _ rfl)
          have x4 : wr.cell? ⟨w2.heap.size, 4, none⟩ = _ := (h3q.cell (p := ⟨w2.heap.size, 4, none⟩) (by have := HSZ.out; show w2.heap.size < w3.heap.size; omega)).trans (HC3.out 4 _ rfl)
          have hj0 : (0 : Int) ≤ j := by omega
          have hj1 : (j : Int) < m := by omega
          clear hB hcj h3q hx ht hdo
          have hwr : Below W.heap.size W wr := HBJ.out
          cases hdn : dnB f.blocks (k + 1) t
          · rw [hdn] at hdt
            have hno : t ∉ (orderF f.blocks).take (k + 1) := by
              intro h; unfold dnB at hdn; rw [decide_eq_true h] at hdn; cases hdn
            have HNO := Lib.hid hno
            clear hno hwr
            go_wp2_with fail
            go_roundw
            case rel => exact ⟨j + 1, by omega, by go_num, HBJ.out, ClJ.step HCJ.out HT.out (fun h => absurd h HNO.out)⟩
            case measure => simp [intOf]; omega
          · rw [hdn] at hdt
            have HYES : Hid (t ∈ (orderF f.blocks).take (k + 1)) := Lib.hid (of_decide_eq_true hdn)
            clear hwr
            cases hd1 : dmB f.blocks t b
            · rw [hd1] at HDO
              have hncl : ¬ CleanP f.blocks := CleanP.not HOb.out (List.mem_of_getElem? HT.out) HYES.out hd1
              have HNCL := Lib.hid hncl
              clear hncl hd1
              go_wp2_with (go_at_call 34; refine HDO.out.mono ?_; rintro e w5 ⟨rfl, hb5⟩)
              go_ret
              refine ⟨⟨false, rfl, ⟨fun h => Bool.noConfusion h, fun h => absurd h HNCL.out⟩, ord, HNB.out⟩, ?_⟩
              exact HB3.out.trans (((H3L.out _ HFW.out).trans ((HBJ.out.trans (hb5.mono HBJ.out.size)).mono (H3L.out _ HFW.out).size)).mono HB3.out.size)
            · rw [hd1] at HDO
              have HD1 := Lib.hid hd1
              clear hd1
              go_wp2_with (go_at_call 34; refine HDO.out.mono ?_; rintro e w5 ⟨rfl, hb5⟩)
              go_roundw
              case rel => exact ⟨j + 1, by omega, by go_num, HBJ.out.trans (hb5.mono HBJ.out.size), ClJ.step HCJ.out HT.out (fun _ => HD1.out)⟩
              case measure => simp [intOf]; omega
        · obtain rfl : j = m := by omega
          have HCL2 := Lib.hid (ClP.step HCL.out HOb.out hcj (by rw [HM.out]; exact Nat.le_refl _))
          clear hB hcj h3q
          go_wp2_with fail
          go_roundw
          case rel => exact ⟨k + 1, by omega, by go_num, HRW.out.of_block (HBJ.out.block D HRW.out.lt), HFW.out.trans (.of_below HBJ.out), HCL2.out⟩
          case measure => simp [intOf]; omega
    · obtain rfl : k = ln := by omega
      clear hR hfr hcl
      go_wp2_with fail
      go_ret
      exact ⟨⟨true, rfl, ⟨fun _ => by unfold CleanP; rw [HLN.out]; exact HCL.out, fun _ => rfl⟩, ord, HNB.out⟩, HB3.out.trans (HB4.out.trans (HFR.out.below (by have := HSZ.out; omega) (fun b hb => by have : b = D := hb; have := HSZ.out; omega)) |>.mono (by have := HSZ.out; omega))⟩
end Go.Proofs.Ytflbooopgjgkbaa

/- Where a block's end leads. -/
namespace Go.Proofs.Ytflbooopgjgkbaa
set_option linter.unusedVariables false

variable {bs : List BlkD}
def tosOf (bs : List BlkD) (c : Nat) : List Int := match bs[c]? with
  | some x => x.term.to
  | none => []
theorem tosOf_at {c : Nat} {x : BlkD} (h : bs[c]? = some x) : tosOf bs c = x.term.to := by unfold tosOf; rw [h]
end Go.Proofs.Ytflbooopgjgkbaa

/- The reference of layer 6: Dominates. -/
namespace Go.Proofs.Ytflbooopgjgkbaa
open Go.ChangeShapes Go.WideShapes Go.RowKit Go.Deep
set_option linter.unusedVariables false

theorem Try.infoD46 : (Try.prog.info? 46).map (fun i => (i.zero, i.size, i.bytes)) = some (some (.slice none 0 0), 1, 24) := by kernel_rfl
theorem Try.underlyingD41 : Try.prog.underlying 41 = some (.slice 46) := by kernel_rfl

/-- Rows of truths that were told, or grow: a row of the call's own, and of each of its rows a block. -/
structure TRow (w : World) (K n j : Nat) (v : Value) (D : Nat → Nat) (M : Nat → Nat → Bool) : Prop where
  own : w.ownsRow K 46 1 v j ((List.range j).map fun a => Value.slice (some ⟨D a, 0, none⟩) n n)
  cells : ∀ a, a < j → w.rowIs (D a) 4 n (fun b => .bool (M a b))
  ap : ∀ a, a < j → v.ownBlock ≠ some (D a)
  ge : ∀ a, a < j → K ≤ D a
theorem TRow.below {w w' : World} {K n j : Nat} {v : Value} {D : Nat → Nat} {M : Nat → Nat → Bool} (h : TRow w K n j v D M) (hb : Below w.heap.size w w') : TRow w' K n j v D M :=
  ⟨ownsRow_block h.own (fun g hg => hb.block g (h.own.lt g hg).2), fun a ha => (h.cells a ha).of_block (hb.block _ (h.cells a ha).lt), h.ap, h.ge⟩
theorem owns_mono {w : World} {base base' n size : Nat} {e : TypeId} {v : Value} {xs : List Value} (h : w.ownsRow base e size v n xs) (hk : base' ≤ base) : w.ownsRow base' e size v n xs := by
  obtain ⟨h1, h2 | ⟨g, cap, cur, rfl, hb, h3⟩⟩ := h
  · exact ⟨h1, .inl h2⟩
  · exact ⟨h1, .inr ⟨g, cap, cur, rfl, Nat.le_trans hk hb, h3⟩⟩
theorem TRow.nil (w : World) (K n : Nat) (D : Nat → Nat) (M : Nat → Nat → Bool) : TRow w K n 0 (.slice none 0 0) D M :=
  ⟨World.ownsRow_nil _ _ _ _, fun a ha => by omega, fun a ha => by omega, fun a ha => by omega⟩
theorem TRow.push {w w' : World} {K n j d : Nat} {v v' : Value} {D : Nat → Nat} {M : Nat → Nat → Bool} (h : TRow w K n j v D M) (hg : GroD w w' v v')
    (ho : w'.ownsRow K 46 1 v' (j + 1) ((List.range j).map (fun a => Value.slice (some ⟨D a, 0, none⟩) n n) ++ [.slice (some ⟨d, 0, none⟩) n n]))
    (hd : w.rowIs d 4 n (fun b => .bool (M j b))) (hK : K ≤ d) (hv : v.ownBlock ≠ some d) : TRow w' K n (j + 1) v' (updF D j d) M := by
  have key : ∀ x, x < w.heap.size → v.ownBlock ≠ some x → v'.ownBlock ≠ some x := fun x hx hvx e => by
    rcases hg.own x e with h1 | h1
    · exact hvx h1
    · omega
  refine ⟨?_, fun a ha => ?_, fun a ha => ?_, fun a ha => ?_⟩
  · rw [map_range_snoc] at ho
    have : ((List.range (j + 1)).map (updF (fun a => Value.slice (some ⟨D a, 0, none⟩) n n) j (.slice (some ⟨d, 0, none⟩) n n))) = (List.range (j + 1)).map fun a => Value.slice (some ⟨updF D j d a, 0, none⟩) n n :=
      List.map_congr_left fun a _ => by unfold updF; by_cases e : a = j <;> simp [e]
    rwa [this] at ho
  · by_cases e : a = j
    · subst e; rw [updF_here]; exact hd.of_block (hg.block _ hd.lt hv)
    · rw [updF_else _ _ e]; exact (h.cells a (by omega)).of_block (hg.block _ (h.cells a (by omega)).lt (h.ap a (by omega)))
  · by_cases e : a = j
    · subst e; rw [updF_here]; exact key d hd.lt hv
    · rw [updF_else _ _ e]; exact key _ (h.cells a (by omega)).lt (h.ap a (by omega))
  · by_cases e : a = j
    · subst e; rw [updF_here]; exact hK
    · rw [updF_else _ _ e]; exact h.ge a (by omega)
theorem TRow.at_ {w : World} {K n j : Nat} {v : Value} {D : Nat → Nat} {M : Nat → Nat → Bool} (h : TRow w K n j v D M) {a : Nat} (ha : a < j) : ∃ g cap, v = .slice (some ⟨g, 0, none⟩) j cap ∧ w.cell? ⟨g, a, none⟩ = some (.slice (some ⟨D a, 0, none⟩) n n) := by
  obtain ⟨g, cap, u, rfl, hu, hc, -⟩ := own_cellD h.own ha
  obtain ⟨rfl, -⟩ := map_range_at _ hu
  exact ⟨g, cap, rfl, hc⟩
def ToldRD (bs : List BlkD) (w : World) (e : Ending) (w' : World) : Prop :=
  (∃ v D, e = .returned v ∧ TRow w' w.heap.size bs.length bs.length v D (dmB bs)) ∧ Below w.heap.size w w'

set_option maxRecDepth 100000 in
set_option maxHeartbeats 8000000 in
theorem refDom_any (f : FunD) (v : Value) (w : World) (hv : VFun w v f) (hn : f.blocks.length ≤ 1000) : Calls Try.prog 31 #[v] w (ToldRD f.blocks w) := by
  have hv0 := hv
  obtain ⟨i0, hi, hz0, hz1, hz2⟩ := info_parts Try.infoD46
  have HI := Lib.hid (And.intro hi (And.intro hz0 (And.intro hz1 hz2)))
  clear hi hz0 hz1 hz2
  obtain ⟨Ar, cr, A, c, rfl, -, -, -, -⟩ := hv
  have HV := Lib.hid hv0
  go_enter Try.func31, Try.ntmps31
  go_upto_region 1 with fail
  obtain ⟨w1, hw1, hs1, hk1, hbel1, hc1, -⟩ := named w #[.int .i64 f.params, .int .i64 f.result, .slice Ar f.regs.length cr, .slice A f.blocks.length c] 25
  rw [← hw1]
  have c0 : w1.cell? ⟨w.heap.size, 0, none⟩ = some (.int .i64 f.params) := hc1 0 _ rfl
  have c1 : w1.cell? ⟨w.heap.size, 1, none⟩ = some (.int .i64 f.result) := hc1 1 _ rfl
  have c2 : w1.cell? ⟨w.heap.size, 2, none⟩ = some (.slice Ar f.regs.length cr) := hc1 2 _ rfl
  have c3 : w1.cell? ⟨w.heap.size, 3, none⟩ = some (.slice A f.blocks.length c) := hc1 3 _ rfl
  have HC := Lib.hid (And.intro c0 (And.intro c1 (And.intro c2 c3)))
  have HB1 := Lib.hid hbel1
  have HS1 := Lib.hid hs1
  have HN := Lib.hid (from_any f 0 (-1) _ w1 (VFun.keep hk1 hv0) hn)
  clear hw1 hs1 hbel1 hc1 hv0 hk1
  go_wp2_with fail
  refine HN.out.mono ?_
  rintro e w2 ⟨⟨R, rfl, hR, hr⟩, hb2⟩
  have HB2 : Hid (Below w.heap.size w w2) := Lib.hid (HB1.out.trans (hb2.mono (by have := HS1.out; omega)))
  have HR := Lib.hid hr
  have HNW : Hid (w.heap.size < w2.heap.size) := Lib.hid (by have := hb2.size; have := HS1.out; omega)
  have hk2 : ∀ i, w2.cell? ⟨w.heap.size, i, none⟩ = w1.cell? ⟨w.heap.size, i, none⟩ := fun i => hb2.cell (p := ⟨w.heap.size, i, none⟩) (by have := HS1.out; show w.heap.size < _; omega)
  have HC2 := Lib.hid (And.intro ((hk2 0).trans HC.out.1) (And.intro ((hk2 1).trans HC.out.2.1) (And.intro ((hk2 2).trans HC.out.2.2.1) ((hk2 3).trans HC.out.2.2.2))))
  have hmk := run_make_row' (P := Try.prog) 46 4 (.bool false) 1 Try.underlying46 Try.info4 rfl .i64 .i64 f.blocks.length (by omega) (by omega)
  have HMK := Lib.hid hmk
  clear c0 c1 c2 c3 hr hR hb2 HN hk2 hmk
  go_wp2_with fail
  go_loopw [4, 5] (fun s4 s5 wq => ∃ (j : Nat) (v : Value) (D : Nat → Nat), j ≤ f.blocks.length ∧ v = s4 ∧ s5 = .int .i64 (j : Int) ∧ TRow wq w2.heap.size f.blocks.length j v D (dmB f.blocks) ∧ Below w2.heap.size w2 wq) (fun s4 s5 _ => f.blocks.length - (intOf s5).toNat)
  case atStart => exact ⟨0, _, fun _ => 0, Nat.zero_le _, rfl, rfl, TRow.nil _ _ _ _ _, Below.refl _ _⟩
  case round =>
    obtain ⟨j, v, D, hj, rfl, rfl, ht, hb⟩ := hrel
    have HT := Lib.hid ht
    have HB := Lib.hid hb
    have HBW : Hid (Below w.heap.size w wr) := Lib.hid (HB2.out.trans (hb.mono (Nat.le_of_lt HNW.out)))
    by_cases hjl : j < f.blocks.length
    · have hk : ∀ i, wr.cell? ⟨w.heap.size, i, none⟩ = w2.cell? ⟨w.heap.size, i, none⟩ := fun i => hb.cell (p := ⟨w.heap.size, i, none⟩) HNW.out
      have c0 := (hk 0).trans HC2.out.1
      have c1 := (hk 1).trans HC2.out.2.1
      have c2 := (hk 2).trans HC2.out.2.2.1
      have c3 := (hk 3).trans HC2.out.2.2.2
      have HN := Lib.hid (from_any f 0 j _ wr (VFun.keep (kept_of_below HBW.out) HV.out) hn)
      clear ht hb hk
      go_wp2_with fail
      refine HN.out.mono ?_
      rintro e w4 ⟨⟨R2, rfl, hR2, hr2⟩, hb4⟩
      have HB4 : Hid (Below w2.heap.size w2 w4) := Lib.hid (HB.out.trans (hb4.mono HB.out.size))
      have HT4 := Lib.hid (HT.out.below hb4)
      have HR4 := Lib.hid (HR.out.of_block (HB4.out.block R HR.out.lt))
      have HR2 := Lib.hid hr2
      have hmk := HMK.out
      clear hb4 hr2 hR2 HN c0 c1 c2 c3
      go_upto_region 8 with fail
      clear hmk
      obtain ⟨Q, hQ⟩ : ∃ Q, Q = w4.heap.size := ⟨_, rfl⟩
      obtain ⟨w5, hw5⟩ : ∃ w5, w5 = w4.alloc (.cells (madeCells #[.bool false] f.blocks.length) 4) := ⟨_, rfl⟩
      have hb5 : Below w4.heap.size w4 w5 := by rw [hw5]; exact (Below.refl _ _).alloc (Nat.le_refl _) _
      have hrow : w5.rowIs Q 4 f.blocks.length (fun x => .bool (if x < 0 then dmB f.blocks j x else false)) := by rw [hw5, hQ]; exact (World.rowIs_made w4 (.bool false) f.blocks.length 4).congr fun x _ => by simp
      have HROW := Lib.hid hrow
      have HR5 := Lib.hid (HR4.out.of_block (hb5.block R HR4.out.lt))
      have HR25 := Lib.hid (HR2.out.of_block (hb5.block R2 HR2.out.lt))
      have HT5 := Lib.hid (HT4.out.below hb5)
      have HB5 : Hid (Below w2.heap.size w2 w5) := Lib.hid (HB4.out.trans (hb5.mono HB4.out.size))
      have HQ : Hid (w2.heap.size ≤ Q ∧ R < Q ∧ R2 < Q ∧ Q < w5.heap.size ∧ (∀ a, a < j → D a < Q) ∧ (∀ g, v.ownBlock = some g → g < Q)) := Lib.hid ⟨by rw [hQ]; exact HB4.out.size, by rw [hQ]; exact HR4.out.lt, by rw [hQ]; exact HR2.out.lt, hrow.lt, fun a ha => by rw [hQ]; exact (HT4.out.cells a ha).lt, fun g hg => by rw [hQ]; exact (HT4.out.own.lt g hg).2⟩
      rw [← hw5, ← hQ]
      clear hw5 hQ hb5 hrow HR4 HR2 HT4
      go_wp2_with fail
      go_loopw [8] (fun s8 wq => ∃ b : Nat, b ≤ f.blocks.length ∧ s8 = .int .i64 (b : Int) ∧ wq.rowIs Q 4 f.blocks.length (fun x => .bool (if x < b then dmB f.blocks j x else false)) ∧ FrX (fun y => y = Q) w5 wq) (fun s8 _ => f.blocks.length - (intOf s8).toNat)
      case atStart => exact ⟨0, Nat.zero_le _, rfl, HROW.out, FrX.refl _ _⟩
      case round =>
        obtain ⟨b, hb, rfl, hrw, hfr⟩ := hrel
        have HFR := Lib.hid hfr
        have HRW := Lib.hid hrw
        by_cases hbl : b < f.blocks.length
        · have xr := (HR5.out.of_block (hfr.block R HR5.out.lt (by have := HQ.out; omega))).cell hbl
          have x2 := (HR25.out.of_block (hfr.block R2 HR25.out.lt (by have := HQ.out; omega))).cell hbl
          have xc := hrw.cell hbl
          have xf := hrw.frozen b
          have hb0 : (0 : Int) ≤ b := by omega
          have hb1 : (b : Int) < f.blocks.length := by omega
          have HST : Hid (∀ u, dmB f.blocks j b = u → (wr.setCell ⟨Q, b, none⟩ (.bool u)).rowIs Q 4 f.blocks.length (fun x => .bool (if x < b + 1 then dmB f.blocks j x else false))) := Lib.hid (fun u hu => (HRW.out.set b (.bool u)).congr fun x _ => by
            by_cases e : x = b
            · subst e; rw [if_pos rfl, if_pos (by omega), hu]
            · rw [if_neg e]
              by_cases e2 : x < b
              · rw [if_pos e2, if_pos (by omega)]
              · rw [if_neg e2, if_neg (by omega)])
          have HF2 : Hid (∀ u, FrX (fun y => y = Q) w5 (wr.setCell ⟨Q, b, none⟩ (.bool u))) := Lib.hid (fun u => HFR.out.setCell (p := ⟨Q, b, none⟩) (.inl rfl) _)
          have hE : (((j : Nat) : Int) == ((b : Nat) : Int)) = decide (j = b) := by rw [Bool.eq_iff_iff, beq_iff_eq, decide_eq_true_iff]; omega
          have HD : Hid (dmB f.blocks j b = (fromB f.blocks 0 (-1) b && (decide (j = b) || !fromB f.blocks 0 j b))) := Lib.hid rfl
          clear hrw hfr
          generalize fromB f.blocks 0 (-1) b = y1 at *
          generalize fromB f.blocks 0 j b = y3 at *
          generalize decide (j = b) = y2 at *
          cases y1 <;> cases y2 <;> cases y3
          all_goals (
            go_wp2_with fail
            go_roundw
            case rel => exact ⟨b + 1, by omega, by go_num, HST.out _ (by rw [HD.out]; rfl), HF2.out _⟩
            case measure => simp [intOf]; omega)
        · have hbb : b = f.blocks.length := by omega
          subst hbb
          have hlow := hfr.below HB5.out.size (fun k hk => by have := HQ.out.1; have e : k = Q := hk; omega)
          have hT6 : TRow wr w2.heap.size f.blocks.length j v D (dmB f.blocks) := ⟨ownsRow_block HT5.out.own (fun g hg => hfr.block g (HT5.out.own.lt g hg).2 (fun e => by have := HQ.out.2.2.2.2.2 g hg; have e : g = Q := e; omega)), fun a ha => (HT5.out.cells a ha).of_block (hfr.block _ (HT5.out.cells a ha).lt (fun e => by have := HQ.out.2.2.2.2.1 a ha; have e : D a = Q := e; omega)), HT5.out.ap, HT5.out.ge⟩
          have HT6 := Lib.hid hT6
          have HRZ := Lib.hid (hrw.congr (g := fun x => .bool (dmB f.blocks j x)) fun x hx => by rw [if_pos hx])
          have HB6 : Hid (Below w2.heap.size w2 wr) := Lib.hid (HB5.out.trans (hlow.mono (Nat.le_refl _)))
          have hz6 := HB6.out.size
          clear hrw hfr hlow hT6
          go_wp2_with (at_builtin; refine wpList_append_lies _ rfl (.tmp 48) (.tmp 50) 41 rfl w2.heap.size 46 i0 (.slice none 0 0) 1 24 Try.underlyingD41 HI.out.1 HI.out.2.1 HI.out.2.2.1 HI.out.2.2.2 rfl (by decide) v _ _ rfl (HT6.out.own.alloc _) ⟨wr.heap.size, 0, none⟩ 1 1 [.slice (some ⟨Q, 0, none⟩) f.blocks.length f.blocks.length] rfl rfl ?e1 ?e2 ?e0 ?e3 ?e4 ?e5 (wr.heap.size + 1) ?e6 ?_)
          case e1 => exact cell_one_new_ wr _ _
          case e2 => intro u hu; rw [List.mem_singleton.1 hu]; rfl
          case e0 => omega
          case e3 => unfold maxLen; omega
          case e4 => omega
          case e5 => simp; omega
          case e6 => simp
          intro g cap w7 hown7 hgrow7 hloc7 hlt7
          have HGR : Hid (GroD wr w7 v (.slice (some ⟨g, 0, none⟩) (j + 1) cap)) := Lib.hid (groD_append (w := wr) hgrow7 (by simpa using hloc7))
          have HT7 := Lib.hid (HT6.out.push HGR.out hown7 HRZ.out HQ.out.1 (fun e => Nat.lt_irrefl Q (HQ.out.2.2.2.2.2 Q e)))
          have HB7 : Hid (Below w2.heap.size w2 w7) := Lib.hid (HB6.out.trans ((HGR.out.fr (X := fun y => v.ownBlock = some y) (FrX.refl _ _) (fun g hg => .inl hg)).below HB6.out.size (fun k hk => (HT6.out.own.lt k hk).1)))
          clear hown7 hgrow7 hloc7 hlt7
          go_wp2_with fail
          go_roundw
          case rel => exact ⟨j + 1, _, _, by omega, rfl, by go_num, HT7.out, HB7.out⟩
          case measure => simp [intOf]; omega
    · have hjj : j = f.blocks.length := by omega
      subst hjj
      clear ht hb
      go_wp2_with fail
      go_ret
      exact ⟨⟨_, D, rfl, ⟨owns_mono HT.out.own (Nat.le_of_lt HNW.out), HT.out.cells, HT.out.ap, fun a ha => Nat.le_trans (Nat.le_of_lt HNW.out) (HT.out.ge a ha)⟩⟩, HBW.out⟩
end Go.Proofs.Ytflbooopgjgkbaa

/- The reference of layer 5: Leads. No condition but that the block is there. -/
namespace Go.Proofs.Ytflbooopgjgkbaa
open Go.ChangeShapes Go.WideShapes Go.RowKit Go.Deep
set_option linter.unusedVariables false

set_option maxRecDepth 100000 in
set_option maxHeartbeats 4000000 in
theorem leads_any (f : FunD) (a : Nat) (kb : BlkD) (z : Int) (v : Value) (w : World) (hv : VFun w v f) (ha : f.blocks[a]? = some kb) :
    Calls Try.prog 33 #[v, .int .i64 a, .int .i64 z] w fun e w' => e = .returned (.bool (hasTo z kb.term.to)) ∧ Below w.heap.size w w' := by
  obtain ⟨Ar, cr, A, c, rfl, -, hb, -, -⟩ := hv
  have hbl := hb.len
  have hal : a < f.blocks.length := (List.getElem?_eq_some_iff.1 ha).1
  have ha0 : (0 : Int) ≤ a := by omega
  have ha1 : (a : Int) < f.blocks.length := by omega
  go_enter Try.func33, Try.ntmps33
  go_wp2_with fail
  obtain ⟨w1, hw1, hs1, hk1, hbel1, hc1, -⟩ := named w #[.int .i64 f.params, .int .i64 f.result, .slice Ar f.regs.length cr, .slice A f.blocks.length c] 25
  have c3 := hc1 3 _ rfl
  rw [← hw1]
  obtain ⟨b, o, kb', rfl, hkb, -, -, -, -, A', c', hto, htos⟩ := (SBlks.keep hk1 hb).at_ hal
  obtain rfl : kb = kb' := Option.some.inj (ha.symm.trans hkb.out)
  have htl := htos.len
  have HB1 := Lib.hid hbel1
  clear hw1 hs1 hk1 hbel1 hc1 hb ha hkb
  go_loopw [7] (fun i wr => ∃ k q : Nat, k ≤ kb.term.to.length ∧ i = .int .i64 k ∧ wr = w1.drewN q ∧ hasTo z (kb.term.to.take k) = false) (fun i _ => kb.term.to.length - (intOf i).toNat)
  case atStart => exact ⟨0, 0, Nat.zero_le _, rfl, rfl, by simp [hasTo]⟩
  case round =>
    obtain ⟨k, q, hk, rfl, rfl, hno⟩ := hrel
    have HNO := Lib.hid hno
    clear hno
    by_cases hlt : k < kb.term.to.length
    · obtain ⟨b', o', x, rfl, hx, hxc, -⟩ := htos.int hlt
      have HST := Lib.hid (hasTo_step z hx.out)
      have hk0 : (0 : Int) ≤ k := by omega
      have hk1 : (k : Int) < kb.term.to.length := by omega
      cases hxz : (x == z)
      · have HN : Hid (hasTo z (kb.term.to.take (k + 1)) = false) := Lib.hid (by rw [HST.out, HNO.out, hxz]; rfl)
        go_wp2_with fail
        go_roundw
        case rel => exact ⟨k + 1, _, by omega, by go_num, rfl, HN.out⟩
        case measure => simp [intOf]; omega
      · have HY : Hid (hasTo z kb.term.to = true) := Lib.hid (by
          have h1 : hasTo z (kb.term.to.take (k + 1)) = true := by rw [HST.out, hxz]; simp
          unfold hasTo at h1 ⊢
          rw [List.any_eq_true] at h1 ⊢
          obtain ⟨y, hy, e⟩ := h1
          exact ⟨y, List.mem_of_mem_take hy, e⟩)
        go_wp2_with fail
        go_ret
        exact ⟨(show Ending.returned (.bool true) = .returned (.bool (hasTo z kb.term.to)) by rw [HY.out]), below_drewN HB1.out _⟩
    · have HN : Hid (hasTo z kb.term.to = false) := Lib.hid (by have := HNO.out; rwa [List.take_of_length_le (by omega)] at this)
      go_wp2_with fail
      go_ret
      exact ⟨(show Ending.returned (.bool false) = .returned (.bool (hasTo z kb.term.to)) by rw [HN.out]), below_drewN HB1.out _⟩
end Go.Proofs.Ytflbooopgjgkbaa
