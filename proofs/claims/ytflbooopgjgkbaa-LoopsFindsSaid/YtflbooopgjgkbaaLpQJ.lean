/- The reference of layer 5: done, Order. -/
import Derived.Test.YtflbooopgjgkbaaGrEJ
import Derived.Test.YtflbooopgjgkbaaDmKJ
import Derived.StillTailTactics
import Derived.Deep.RegionHeld3
import Derived.Test.YtflbooopgjgkbaaLeadsJ
import Derived.BigQuiet
namespace Go.Proofs.Ytflbooopgjgkbaa
open Go.ChangeShapes Go.WideShapes Go.RowKit Go.Deep
set_option linter.unusedVariables false

/-- Nothing that was there has changed but block H and a row's own block; the row lies where it lay, or in a new block. -/
structure Fr2 (w : World) (H : Nat) (v : Value) (w' : World) (v' : Value) : Prop where
  os : w'.os = w.os
  tape : w'.tape = w.tape
  output : w'.output = w.output
  size : w.heap.size ≤ w'.heap.size
  block : ∀ k, k < w.heap.size → k ≠ H → some k ≠ v.ownBlock → w'.heap[k]? = w.heap[k]?
  own : v'.ownBlock = v.ownBlock ∨ ∀ g, v'.ownBlock = some g → w.heap.size ≤ g
theorem Fr2.refl (w : World) (H : Nat) (v : Value) : Fr2 w H v w v := ⟨rfl, rfl, rfl, Nat.le_refl _, fun _ _ _ _ => rfl, .inl rfl⟩
theorem Fr2.trans {w w1 w2 : World} {H : Nat} {v v1 v2 : Value} (h : Fr2 w H v w1 v1) (k : Fr2 w1 H v1 w2 v2) : Fr2 w H v w2 v2 := by
  refine ⟨k.os.trans h.os, k.tape.trans h.tape, k.output.trans h.output, Nat.le_trans h.size k.size, fun i h1 h2 h3 => ?_, ?_⟩
  · refine (k.block i (Nat.lt_of_lt_of_le h1 h.size) h2 (fun e => ?_)).trans (h.block i h1 h2 h3)
    rcases h.own with h4 | h4
    · exact h3 (e.trans h4)
    · have := h4 i e.symm; omega
  · rcases k.own with h5 | h5
    · rcases h.own with h4 | h4
      · exact .inl (h5.trans h4)
      · exact .inr fun g hg => h4 g (h5 ▸ hg)
    · exact .inr fun g hg => Nat.le_trans h.size (h5 g hg)
theorem Fr2.of_below {w w' : World} (H : Nat) (v : Value) (h : Below w.heap.size w w') : Fr2 w H v w' v := ⟨h.os, h.tape, h.output, h.size, fun k hk _ _ => h.block k hk, .inl rfl⟩
theorem Fr2.set {w : World} {H i : Nat} {v u : Value} : Fr2 w H v (w.setCell ⟨H, i, none⟩ u) v := ⟨rfl, rfl, rfl, by simp, fun k _ hk _ => Below.heap_setCell _ _ _ _ hk, .inl rfl⟩
theorem Fr2.grown {w w' : World} {H : Nat} {v v' : Value} (h : w.grownBy w' v.ownBlock) (ho : v'.ownBlock = v.ownBlock ∨ ∀ g, v'.ownBlock = some g → w.heap.size ≤ g) : Fr2 w H v w' v' :=
  ⟨h.os, h.tape, h.output, h.size, fun k hk _ hv => h.block k hk hv, ho⟩
theorem Fr2.below {B : Nat} {w w' : World} {H : Nat} {v v' : Value} (h : Fr2 w H v w' v') (hB : B ≤ w.heap.size) (hH : B ≤ H) (hv : ∀ g, v.ownBlock = some g → B ≤ g) : Below B w w' :=
  ⟨h.os, h.tape, h.output, h.size, fun k hk => h.block k (by omega) (by omega) (fun e => by have := hv k e.symm; omega)⟩

theorem goL_succ {v : Nat → DS → DS} {l : List Nat} {k q : Nat} {s : DS} (h : l[k]? = some q) : goL v (l.take (k + 1)) s = (if (goL v (l.take k) s).seen q = true then goL v (l.take k) s else v q (goL v (l.take k) s)) := by
  unfold goL; rw [take_succ_of h, List.foldl_append]; rfl

def ToldD_ (n H K : Nat) (s' : DS) (w : World) (vo : Value) (e : Ending) (w' : World) : Prop :=
  ∃ vo', e = .returned vo' ∧ w'.rowIs H 4 n (fun x => .bool (s'.seen x)) ∧ w'.ownsRow K 3 1 vo' s'.out.length ((zs s'.out).map (Value.int .i64)) ∧ Fr2 w H vo w' vo'
def DoneC (f : FunD) (v : Value) (w0 : World) (H K F : Nat) : Prop := ∀ (b : Nat) (S : Nat → Bool) (dn : List Nat) (vo : Value) (w : World),
  Below w0.heap.size w0 w → w.rowIs H 4 f.blocks.length (fun x => .bool (S x)) → w.ownsRow K 3 1 vo dn.length ((zs dn).map (Value.int .i64)) → b < f.blocks.length → S b = false → unseen f.blocks.length S ≤ F → dn.length + unseen f.blocks.length S ≤ 900000 →
  Calls Try.prog 53 #[v, .int .i64 b, .slice (some ⟨H, 0, none⟩) f.blocks.length f.blocks.length, vo] w (ToldD_ f.blocks.length H K (visit (nxF f.blocks) F b ⟨S, dn⟩) w vo)

set_option maxRecDepth 100000 in
set_option maxHeartbeats 8000000 in
theorem done_step (f : FunD) (v : Value) (w0 : World) (H K F : Nat) (hv : VFun w0 v f) (hn : f.blocks.length ≤ 1000) (hH : w0.heap.size ≤ H) (hK : K = H + 1) (ih : DoneC f v w0 H K F) : DoneC f v w0 H K (F + 1) := by
  intro b S dn vo w hB0 hrow hown hb hSb hF hdn
  have hv0 := hv
  have hK1 : H < K := by omega
  have hK2 : K ≤ H + 1 := by omega
  clear hK
  obtain ⟨Ar, cr, A, c, rfl, -, -, -, -⟩ := hv
  obtain ⟨i0, hi, hz0, hz1, hz2⟩ := info_parts Try.info3
  have HI := Lib.hid (And.intro hi (And.intro hz0 (And.intro hz1 hz2)))
  clear hi hz0 hz1 hz2
  have HV := Lib.hid hv0
  have HIH := Lib.hid ih
  have HF := Lib.hid hF
  have HDN := Lib.hid hdn
  have HSB := Lib.hid hSb
  have hb0 : (0 : Int) ≤ b := by omega
  have hb1 : (b : Int) < f.blocks.length := by omega
  have hmk := unseen_mark hSb hb
  have HMK := Lib.hid hmk
  clear hv0 ih hF hdn hSb hmk
  go_enter Try.func53, Try.ntmps53
  go_upto_region 1 with fail
  obtain ⟨w1, hw1, hs1, hk1, hbel1, hc1, -⟩ := named w #[.int .i64 f.params, .int .i64 f.result, .slice Ar f.regs.length cr, .slice A f.blocks.length c] 25
  rw [← hw1]
  have hHw : H < w.heap.size := hrow.lt
  have hrow1 : w1.rowIs H 4 f.blocks.length (fun x => .bool (S x)) := hrow.of_block (hbel1.block H hHw)
  have hown1 := ownsRow_block (w' := w1) hown (fun g hg => hbel1.block g (hown.lt g hg).2)
  have hgc := hrow1.cell hb
  have hgf := hrow1.frozen b
  have hrow2 := (hrow1.set b (.bool true)).congr (g := fun x => .bool (mark S b x)) fun x _ => by unfold mark; by_cases e : x = b <;> simp [e]
  have hown2 := ownsRow_block (w' := w1.setCell ⟨H, b, none⟩ (.bool true)) hown1 (fun g hg => Below.heap_setCell _ _ _ _ (by have := (hown1.lt g hg).1; show g ≠ H; omega))
  have hfr2 : Fr2 w H vo (w1.setCell ⟨H, b, none⟩ (.bool true)) vo := (Fr2.of_below H vo hbel1).trans Fr2.set
  have hk2 : KeptB (fun g => g ≠ H) w1 (w1.setCell ⟨H, b, none⟩ (.bool true)) := keptB_set w1 ⟨H, b, none⟩ (.bool true)
  have c0 := hk2 _ _ (by show w.heap.size ≠ H; omega) (hc1 0 _ rfl)
  have c1 := hk2 _ _ (by show w.heap.size ≠ H; omega) (hc1 1 _ rfl)
  have c2 := hk2 _ _ (by show w.heap.size ≠ H; omega) (hc1 2 _ rfl)
  have c3 := hk2 _ _ (by show w.heap.size ≠ H; omega) (hc1 3 _ rfl)
  have hz2 : w.heap.size < (w1.setCell ⟨H, b, none⟩ (.bool true)).heap.size := by simp; omega
  clear hrow1 hown1 hrow hbel1 hk1 hc1 hw1
  go_upto_region 2 with fail
  clear hgc hgf hk2
  generalize w1.setCell ⟨H, b, none⟩ (.bool true) = w2 at *
  have hB2 : Below w0.heap.size w0 w2 := hB0.trans (hfr2.below hB0.size hH (fun g hg => by have := (hown.lt g hg).1; omega))
  have HN := Lib.hid (refNext_any f b _ w2 (VFun.keep (kept_of_below hB2) HV.out) (by omega) hb)
  obtain ⟨Nw, hNw⟩ : ∃ Nw, Nw = w.heap.size := ⟨_, rfl⟩
  have HNW := Lib.hid hNw
  rw [← hNw] at c0 c1 c2 c3 hz2 hHw ⊢
  have HOB := Lib.hid (fun g (hg : vo.ownBlock = some g) => (hown.lt g hg).1)
  have HOT : Hid (∀ g, vo.ownBlock = some g → g < Nw) := Lib.hid (fun g hg => by have := (hown.lt g hg).2; omega)
  have HB2 := Lib.hid hB2
  have HFR2 := Lib.hid hfr2
  have HROW2 := Lib.hid hrow2
  have HOWN2 := Lib.hid hown2
  have HB0 := Lib.hid hB0
  clear hB2 hfr2 hrow2 hown2 hB0 hown hNw hs1
  go_wp2_with fail
  refine HN.out.mono ?_
  rintro e w3 ⟨⟨vl, rfl, hl⟩, hb3⟩
  have hk3 := kept_of_below hb3
  have c0 := hk3 _ _ c0
  have c1 := hk3 _ _ c1
  have c2 := hk3 _ _ c2
  have c3 := hk3 _ _ c3
  have hrow3 := HROW2.out.of_block (hb3.block H HROW2.out.lt)
  have hown3 := ownsRow_block (w' := w3) HOWN2.out (fun g hg => hb3.block g (HOWN2.out.lt g hg).2)
  have HFR3 := Lib.hid (HFR2.out.trans (Fr2.of_below H vo hb3))
  have HB3 : Hid (Below w0.heap.size w0 w3) := Lib.hid (HB2.out.trans (hb3.mono HB2.out.size))
  have hz3 : w2.heap.size ≤ w3.heap.size := hb3.size
  obtain ⟨l, hl'⟩ : ∃ l, l = nxF f.blocks b := ⟨_, rfl⟩
  rw [← hl'] at hl
  have HLQ := Lib.hid hl'
  have hlt : ∀ t ∈ l, t < f.blocks.length := by rw [hl']; exact nxF_lt f.blocks b
  have HLT := Lib.hid hlt
  have HL := Lib.hid hl
  have hll : l.length ≤ f.blocks.length := by
    rw [hl']; unfold nxF; split
    · exact nextN_few _ _
    · simp
  obtain ⟨Al, cl, rfl, hsl⟩ := slB_of_own (B := fun g => w2.heap.size ≤ g ∧ g < w3.heap.size) (xs := zs l) (by rw [zs_len]; exact hl) (fun y hy => by obtain ⟨q, hq, rfl⟩ := zs_mem hy; have := hlt q hq; unfold I64; omega) (fun _ h1 h2 => ⟨h1, h2⟩)
  rw [zs_len]
  have HV2 : Hid (∀ g, (Value.slice Al (zs l).length cl).ownBlock = some g → w2.heap.size ≤ g ∧ g < w3.heap.size) := Lib.hid (fun g hg => hl.lt g hg)
  have HVO2 : Hid (∀ g, vo.ownBlock = some g → g < w2.heap.size) := Lib.hid (fun g hg => (HOWN2.out.lt g hg).2)
  clear hb3 hk3 hl' hl hlt HN
  go_wp2_with fail
  go_loopw [3, 10] (fun o i wr => ∃ k : Nat, k ≤ l.length ∧ i = .int .i64 k ∧ wr.rowIs H 4 f.blocks.length (fun x => .bool ((goL (visit (nxF f.blocks) F) (l.take k) ⟨mark S b, dn⟩).seen x)) ∧ wr.ownsRow K 3 1 o (goL (visit (nxF f.blocks) F) (l.take k) ⟨mark S b, dn⟩).out.length ((zs (goL (visit (nxF f.blocks) F) (l.take k) ⟨mark S b, dn⟩).out).map (Value.int .i64)) ∧ Fr2 w3 H vo wr o ∧
    unseen f.blocks.length (goL (visit (nxF f.blocks) F) (l.take k) ⟨mark S b, dn⟩).seen ≤ F ∧ (goL (visit (nxF f.blocks) F) (l.take k) ⟨mark S b, dn⟩).out.length + unseen f.blocks.length (goL (visit (nxF f.blocks) F) (l.take k) ⟨mark S b, dn⟩).seen ≤ 900000) (fun _ i _ => l.length - (intOf i).toNat)
  case atStart => exact ⟨0, Nat.zero_le _, rfl, hrow3, hown3, Fr2.refl _ _ _, by have := HMK.out; have := HF.out; show unseen f.blocks.length (mark S b) ≤ F; omega, by have := HMK.out; have := HDN.out; show dn.length + unseen f.blocks.length (mark S b) ≤ 900000; omega⟩
  case round =>
    obtain ⟨k, hk, rfl, hrw, how, hfr, huF, hdF⟩ := hrel
    have HSUC := Lib.hid (fun q (h : l[k]? = some q) => goL_succ (v := visit (nxF f.blocks) F) (s := ⟨mark S b, dn⟩) h)
    obtain ⟨s, hs⟩ : ∃ s, s = goL (visit (nxF f.blocks) F) (l.take k) ⟨mark S b, dn⟩ := ⟨_, rfl⟩
    rw [← hs] at hrw how huF hdF HSUC
    have HS := Lib.hid hs
    have hkb : ∀ y, y < w3.heap.size → y ≠ H → (∀ g, vo.ownBlock = some g → y ≠ g) → wr.heap[y]? = w3.heap[y]? := fun y h1 h2 h3 => hfr.block y h1 h2 (fun e => h3 y e.symm rfl)
    have hNb : wr.heap[Nw]? = w3.heap[Nw]? := hkb Nw (by omega) (by omega) (fun g hg => by have := HOT.out g hg; omega)
    have d0 : wr.cell? ⟨Nw, 0, none⟩ = some (.int .i64 f.params) := (World.cell?_of_block (a := ⟨Nw, 0, none⟩) hNb).trans c0
    have d1 : wr.cell? ⟨Nw, 1, none⟩ = some (.int .i64 f.result) := (World.cell?_of_block (a := ⟨Nw, 1, none⟩) hNb).trans c1
    have d2 : wr.cell? ⟨Nw, 2, none⟩ = some (.slice Ar f.regs.length cr) := (World.cell?_of_block (a := ⟨Nw, 2, none⟩) hNb).trans c2
    have d3 : wr.cell? ⟨Nw, 3, none⟩ = some (.slice A f.blocks.length c) := (World.cell?_of_block (a := ⟨Nw, 3, none⟩) hNb).trans c3
    have hslr := SIntsB.go (B := fun g => w2.heap.size ≤ g ∧ g < w3.heap.size) (B' := fun _ => True) (w := w3) (w' := wr) (fun a v hb ha => (World.cell?_of_block (hkb a.block hb.2 (by have := hb.1; omega) (fun g hg => by have := HVO2.out g hg; have := hb.1; omega))).trans ha) (fun _ _ => trivial) hsl
    have HBR : Hid (Below w0.heap.size w0 wr) := Lib.hid (HB3.out.trans (hfr.below HB3.out.size hH (fun g hg => by have := HOB.out g hg; omega)))
    have HRW := Lib.hid hrw
    have HOW := Lib.hid how
    have HFR := Lib.hid hfr
    have HUF := Lib.hid huF
    have HDF := Lib.hid hdF
    clear hs hkb hNb c0 c1 c2 c3 hrow3 hown3 how hfr huF hdF hsl
    by_cases hlt : k < l.length
    · obtain ⟨bl, ol, y, rfl, hy, -, hyc, -⟩ := hslr.at_ (k := k) (by rw [zs_len]; exact hlt)
      obtain ⟨q, hq, rfl⟩ := zs_at hy.out
      have hqn : q < f.blocks.length := HLT.out q (List.mem_of_getElem? hq)
      have hyc : wr.cell? ⟨bl, ol + k, none⟩ = some (.int .i64 (q : Int)) := by rw [Nat.mul_one] at hyc; exact hyc
      have hq0 : (0 : Int) ≤ q := by omega
      have hq1 : (q : Int) < f.blocks.length := by omega
      have hk0 : (0 : Int) ≤ k := by omega
      have hk1 : (k : Int) < l.length := by omega
      have hsc := hrw.cell hqn
      have HSU := Lib.hid (HSUC.out q hq)
      clear hrw hq hslr
      cases hsq : s.seen q
      · rw [hsq] at hsc
        have HSQ := Lib.hid hsq
        have HC := Lib.hid (HIH.out q s.seen s.out _ wr.drew (HBR.out.drew) (HRW.out.drew) (ownsRow_drew HOW.out) hqn hsq HUF.out HDF.out)
        clear hsq
        go_upto_region 7 with fail
        go_still_tail 7, (by kernel_rfl)
        change wpList _ _ _ _ _ wr.drew
        go_wp2_with fail
        refine HC.out.mono ?_
        rintro e w4 ⟨vo', rfl, hr4, ho4, hf4⟩
        have HLV := Lib.hid (len_visit (nxF_lt f.blocks) F q s hqn HSQ.out HUF.out)
        have HSU2 : Hid (goL (visit (nxF f.blocks) F) (l.take (k + 1)) ⟨mark S b, dn⟩ = visit (nxF f.blocks) F q s) := Lib.hid (by rw [HSU.out, HSQ.out]; rfl)
        have HR4 := Lib.hid hr4
        have HO4 := Lib.hid ho4
        have HF4 : Hid (Fr2 w3 H vo w4 vo') := Lib.hid (HFR.out.trans ((Fr2.of_below H _ ((Below.refl _ wr).drew)).trans hf4))
        clear hr4 ho4 hf4 hsc d0 d1 d2 d3
        go_wp2_with fail
        go_roundw
        case rel => exact ⟨k + 1, by omega, by go_num, by rw [HSU2.out]; exact HR4.out, by rw [HSU2.out]; exact HO4.out, HF4.out, by rw [HSU2.out]; have := HLV.out.2; omega, by rw [HSU2.out]; exact Nat.le_trans (Nat.le_of_eq HLV.out.1) HDF.out⟩
        case measure => simp [intOf]; omega
      · rw [hsq] at hsc
        have HSU2 : Hid (goL (visit (nxF f.blocks) F) (l.take (k + 1)) ⟨mark S b, dn⟩ = s) := Lib.hid (by rw [HSU.out, hsq]; rfl)
        clear hsq
        go_wp2_with fail
        go_roundw
        case rel => exact ⟨k + 1, by omega, by go_num, by rw [HSU2.out]; exact HRW.out, by rw [HSU2.out]; exact HOW.out, HFR.out, by rw [HSU2.out]; exact HUF.out, by rw [HSU2.out]; exact HDF.out⟩
        case measure => simp [intOf]; omega
    · have hfin : Hid (visit (nxF f.blocks) (F + 1) b ⟨S, dn⟩ = endD b s) := Lib.hid (by
        have := HS.out
        rw [List.take_of_length_le (by omega), HLQ.out] at this
        rw [this]; rfl)
      have hol : s.out.length ≤ 900000 := by have := HDF.out; omega
      clear hrw hslr hk
      go_wp2_with (at_builtin; refine wpList_append_lies _ rfl (.tmp 39) (.tmp 41) 22 rfl K 3 i0 (.int .i64 0) 1 8 Try.underlying22 HI.out.1 HI.out.2.1 HI.out.2.2.1 HI.out.2.2.2 rfl (by decide) _ _ _ rfl (HOW.out.alloc _) ⟨wr.heap.size, 0, none⟩ 1 1 [.int .i64 b] rfl rfl ?c1 ?c2 ?c0 ?c3 ?c4 ?c5 (wr.heap.size + 1) ?c6 ?_)
      case c1 => exact news_one_add wr _ _ rfl
      case c2 => exact ints_oneCell .i64 [(b : Int)]
      case c0 => omega
      case c3 => unfold maxLen; omega
      case c4 => omega
      case c5 => have := HFR.out.size; simp; omega
      case c6 => simp
      intro g cap w4 hown4 hgrow4 hloc4 hlt4
      have hz4 := HFR.out.size
      have hr4 : w4.rowIs H 4 f.blocks.length (fun x => .bool (s.seen x)) := (HRW.out.alloc (.cells #[.int .i64 b] 3)).of_block (hgrow4.block H (by simp; omega) (fun e => by have := (HOW.out.lt H e.symm).1; omega))
      have hf4 : Fr2 w3 H vo w4 (.slice (some ⟨g, 0, none⟩) (s.out.length + 1) cap) := by
        refine HFR.out.trans ((Fr2.of_below H _ ((Below.refl _ wr).alloc (Nat.le_refl _) (.cells #[.int .i64 b] 3))).trans (Fr2.grown hgrow4 ?_))
        rcases hloc4 with h | h
        · exact .inl h.symm
        · right; intro g' hg'; have : g = g' := Option.some.inj hg'; simp; omega
      have HR4 := Lib.hid hr4
      have HO4 : Hid (w4.ownsRow K 3 1 (.slice (some ⟨g, 0, none⟩) (s.out.length + 1) cap) (s.out ++ [b]).length ((zs (s.out ++ [b])).map (Value.int .i64))) := Lib.hid (by rw [zs_snoc, List.map_append, List.length_append]; exact hown4)
      have HF4 := Lib.hid (HFR3.out.trans hf4)
      clear hown4 hgrow4 hloc4 hr4 hf4 d0 d1 d2 d3
      go_wp2_with fail
      go_ret
      exact ⟨_, rfl, by rw [hfin.out]; exact HR4.out, by rw [hfin.out]; exact HO4.out, HF4.out⟩

theorem done_any (f : FunD) (v : Value) (w0 : World) (H K : Nat) (hv : VFun w0 v f) (hn : f.blocks.length ≤ 1000) (hH : w0.heap.size ≤ H) (hK : K = H + 1) : ∀ F : Nat, DoneC f v w0 H K F
  | 0 => fun b S dn vo w _ _ _ hb hS hu => absurd (unseen_pos hS hb) (by omega)
  | F + 1 => done_step f v w0 H K F hv hn hH hK (done_any f v w0 H K hv hn hH hK F)

/-! ### Order -/
set_option maxRecDepth 100000 in
set_option maxHeartbeats 8000000 in
theorem refOrder_any (f : FunD) (v : Value) (w : World) (hv : VFun w v f) (hn : f.blocks.length ≤ 1000) :
    Calls Try.prog 35 #[v] w (ToldO_ f.blocks w) := by
  have hv0 := hv
  obtain ⟨Ar, cr, A, c, rfl, -, hb, -, -⟩ := hv
  have hbl := hb.len
  obtain ⟨i0, hi, hz0, hz1, hz2⟩ := info_parts Try.info3
  have HI := Lib.hid (And.intro hi (And.intro hz0 (And.intro hz1 hz2)))
  clear hi hz0 hz1 hz2 hb
  by_cases hn0 : f.blocks.length = 0
  · have hne : ((f.blocks.length : Int) == 0) = true := by simp [hn0]
    have he : Hid (orderF f.blocks = []) := Lib.hid (by unfold orderF orderL doneL; rw [if_pos hn0]; rfl)
    clear hn0 hv0
    go_enter Try.func35, Try.ntmps35
    go_wp2_with fail
    go_ret
    exact ⟨⟨_, rfl, by rw [he.out]; exact World.ownsRow_nil _ _ _ _⟩, (Below.refl _ _).alloc (Nat.le_refl _) _⟩
  · have hne : ((f.blocks.length : Int) == 0) = false := by rw [beq_eq_false_iff_ne]; omega
    have hpos : 0 < f.blocks.length := by omega
    have hmk := run_make_row' (P := Try.prog) 46 4 (.bool false) 1 Try.underlying46 Try.info4 rfl .i64 .i64 f.blocks.length (by omega) (by omega)
    have HN0 := Lib.hid hn0
    clear hn0
    go_enter Try.func35, Try.ntmps35
    go_upto_region 3 with fail
    obtain ⟨w1, hw1, hs1, hk1, hbel1, hc1, -⟩ := named w #[.int .i64 f.params, .int .i64 f.result, .slice Ar f.regs.length cr, .slice A f.blocks.length c] 25
    have c0 := hc1 0 _ rfl
    have c1 := hc1 1 _ rfl
    have c2 := hc1 2 _ rfl
    have c3 := hc1 3 _ rfl
    rw [← hw1]
    obtain ⟨W, hW⟩ : ∃ W, W = w1.alloc (.cells (madeCells #[.bool false] f.blocks.length) 4) := ⟨_, rfl⟩
    have hrow : W.rowIs w1.heap.size 4 f.blocks.length (fun x => .bool (noneSeen x)) := by rw [hW]; exact World.rowIs_made w1 (.bool false) f.blocks.length 4
    have hbW : Below w1.heap.size w1 W := by rw [hW]; exact (Below.refl _ _).alloc (Nat.le_refl _) _
    have HD := Lib.hid (done_any f _ w1 w1.heap.size (w1.heap.size + 1) (VFun.keep hk1 hv0) hn (Nat.le_refl _) rfl f.blocks.length 0 noneSeen [] (.slice none 0 0) W.drew hbW.drew hrow.drew (World.ownsRow_nil _ _ _ _) hpos rfl (unseen_le _ _) (by have := unseen_le f.blocks.length noneSeen; show 0 + unseen f.blocks.length noneSeen ≤ 900000; omega))
    have HB1 := Lib.hid hbel1
    have HBW := Lib.hid hbW
    have HDL := Lib.hid (show orderF f.blocks = (doneL (nxF f.blocks) f.blocks.length).reverse from rfl)
    have HDO := Lib.hid (doneL_out (nxF f.blocks) HN0.out)
    have HOL := Lib.hid (orderF_len f.blocks)
    clear hw1 hs1 hk1 hbel1 hc1 hrow hbW hv0
    have hS : ∀ w', Below w1.heap.size w1 w' → w'.cell? ⟨w.heap.size, 0, none⟩ = some (.int .i64 f.params) ∧ w'.cell? ⟨w.heap.size, 1, none⟩ = some (.int .i64 f.result) ∧ w'.cell? ⟨w.heap.size, 2, none⟩ = some (.slice Ar f.regs.length cr) ∧ w'.cell? ⟨w.heap.size, 3, none⟩ = some (.slice A f.blocks.length c) :=
      fun w' h => ⟨kept_of_below h _ _ c0, kept_of_below h _ _ c1, kept_of_below h _ _ c2, kept_of_below h _ _ c3⟩
    rw [hW] at HD HBW
    clear hW
    refine wp_region_last (L := 6) (S := fun w' => w'.cell? ⟨w.heap.size, 0, none⟩ = some (.int .i64 f.params) ∧ w'.cell? ⟨w.heap.size, 1, none⟩ = some (.int .i64 f.result) ∧ w'.cell? ⟨w.heap.size, 2, none⟩ = some (.slice Ar f.regs.length cr) ∧ w'.cell? ⟨w.heap.size, 3, none⟩ = some (.slice A f.blocks.length c)) (by kernel_rfl) (by rfl) (by kernel_rfl) (by kernel_rfl) ?_
    change wpAnyH _ _ _ _ _ _ _ _ (World.drew _)
    have hS0 := hS w1.drew (Below.refl _ _).drew
    clear c0 c1 c2 c3
    refine takeH (i := 0) (some 10) (v := ?_) rfl (by kernel_rfl) (by kernel_rfl) (by kernel_rfl) (fun _ _ _ h => h) hS0 (fun o ho => ?_) ?_
    rotate_left
    · simp only [List.getElem?_toArray, List.getElem?_cons_zero, Option.some.injEq] at ho; subst ho; refine Or.inl ⟨by rfl, fun w' hSw => ?_⟩; (try dsimp only at hSw); go_simp; try with_reducible rfl
    simp only [Act.put, List.setIfInBounds_toArray, List.set_cons_zero, List.set_cons_succ]
    refine takeH (i := 1) (some 11) (v := ?_) rfl (by kernel_rfl) (by kernel_rfl) (by kernel_rfl) (fun _ _ _ h => h) hS0 (fun o ho => ?_) ?_
    rotate_left
    · simp only [List.getElem?_toArray, List.getElem?_cons_zero, List.getElem?_cons_succ, Option.some.injEq] at ho; subst ho; refine Or.inl ⟨by rfl, fun w' hSw => ?_⟩; (try dsimp only at hSw); go_simp; try with_reducible rfl
    simp only [Act.put, List.setIfInBounds_toArray, List.set_cons_zero, List.set_cons_succ]
    refine takeH (i := 2) (some 12) (v := ?_) rfl (by kernel_rfl) (by kernel_rfl) (by kernel_rfl) (fun _ _ _ h => h) hS0 (fun o ho => ?_) ?_
    rotate_left
    · simp only [List.getElem?_toArray, List.getElem?_cons_zero, List.getElem?_cons_succ, Option.some.injEq] at ho; subst ho; refine Or.inl ⟨by rfl, fun w' hSw => ?_⟩; (try dsimp only at hSw); go_simp; try with_reducible rfl
    simp only [Act.put, List.setIfInBounds_toArray, List.set_cons_zero, List.set_cons_succ]
    refine takeH (i := 3) (some 13) (v := ?_) rfl (by kernel_rfl) (by kernel_rfl) (by kernel_rfl) (fun _ _ _ h => h) hS0 (fun o ho => ?_) ?_
    rotate_left
    · simp only [List.getElem?_toArray, List.getElem?_cons_zero, List.getElem?_cons_succ, Option.some.injEq] at ho; subst ho; refine Or.inl ⟨by rfl, fun w' hSw => ?_⟩; (try dsimp only at hSw); go_simp; try with_reducible rfl
    simp only [Act.put, List.setIfInBounds_toArray, List.set_cons_zero, List.set_cons_succ]
    refine oneH (i := 4) (by kernel_rfl) (fun o ho K hK => ?_)
    simp only [List.getElem?_toArray, List.getElem?_cons_zero, List.getElem?_cons_succ, Option.some.injEq] at ho; subst ho
    go_simp
    refine hK.out _ _ (hS _ HBW.out.drew) ?_
    clear hK K
    try simp only [Act.put, List.setIfInBounds_toArray, List.set_cons_zero, List.set_cons_succ]
    refine oneH (i := 5) (by kernel_rfl) (fun o ho K hK => ?_)
    simp only [List.getElem?_toArray, List.getElem?_cons_zero, List.getElem?_cons_succ, Option.some.injEq] at ho; subst ho
    go_simp
    refine HD.out.mono ?_
    rintro e w4 ⟨vo', rfl, -, ho4, hf4⟩
    have HB4 := Lib.hid (HBW.out.drew.trans (hf4.below (B := w1.heap.size) (by simp [World.drew]) (Nat.le_refl _) (fun g hg => by cases hg)))
    have HO4 := Lib.hid ho4
    clear ho4 hf4
    go_wp2_with fail
    refine hK.out _ _ (hS _ HB4.out) ?_
    clear hK K
    try simp only [Act.put, List.setIfInBounds_toArray, List.set_cons_zero, List.set_cons_succ]
    refine wpAnyH_done (by kernel_rfl) ?_ _
    refine lastH (by decide) (fun o ho K hK => ?_)
    simp only [List.getElem?_toArray, List.getElem?_cons_zero, List.getElem?_cons_succ, Option.some.injEq] at ho; subst ho
    go_simp
    refine hK.out _ _ ?_
    clear hK K
    rw [← HDO.out] at HO4
    have HLT2 : Hid (∀ x ∈ doneL (nxF f.blocks) f.blocks.length, x < f.blocks.length) := Lib.hid (fun x hx => orderF_lt (by rw [HDL.out]; exact List.mem_reverse.2 hx))
    have hdl : (doneL (nxF f.blocks) f.blocks.length).length ≤ 1000 := by have := HOL.out; rw [HDL.out, List.length_reverse] at this; omega
    have HBF : Hid (Below w.heap.size w w4) := Lib.hid (HB1.out.trans (HB4.out.mono HB1.out.size))
    generalize doneL (nxF f.blocks) f.blocks.length = dl at *
    obtain ⟨Ad, cd, rfl, hsd⟩ := slB_of_own (B := fun g => g < w4.heap.size) (xs := zs dl) (by rw [zs_len]; exact HO4.out) (fun y hy => by obtain ⟨q, hq, rfl⟩ := zs_mem hy; have := HLT2.out q hq; unfold I64; omega) (fun _ _ h2 => h2)
    rw [zs_len]
    have HSD := Lib.hid hsd
    clear hsd hS hS0
    go_wp2_with fail
    go_loopw [4, 5] (fun out i wr => ∃ k : Nat, k ≤ dl.length ∧ i = .int .i64 ((dl.length : Int) - 1 - k) ∧ Below w4.heap.size w4 wr ∧ wr.ownsRow w4.heap.size 3 1 out (dl.reverse.take k).length ((zs (dl.reverse.take k)).map (Value.int .i64))) (fun _ i _ => (intOf i + 1).toNat)
    case atStart => exact ⟨0, Nat.zero_le _, by go_num, Below.refl _ _, rfl, .inl ⟨rfl, rfl⟩⟩
    case round =>
      obtain ⟨k, hk, rfl, hbel, hown⟩ := hrel
      have hsr := SIntsB.go (B := fun g => g < w4.heap.size) (B' := fun _ => True) (w := w4) (w' := wr) (fun a v hb ha => (World.cell?_of_block (hbel.block a.block hb)).trans ha) (fun _ _ => trivial) HSD.out
      have hz := hbel.size
      have HBE := Lib.hid hbel
      have HOW := Lib.hid hown
      clear hbel hown
      by_cases hlt : k < dl.length
      · obtain ⟨j, hj⟩ : ∃ j : Nat, j = dl.length - 1 - k := ⟨_, rfl⟩
        have hjl : j < dl.length := by omega
        have hji : (dl.length : Int) - 1 - k = j := by omega
        rw [hji]
        obtain ⟨bl, ol, y, rfl, hy, -, hyc, -⟩ := hsr.at_ (k := j) (by rw [zs_len]; exact hjl)
        obtain ⟨q, hq, rfl⟩ := zs_at hy.out
        have hyc : wr.cell? ⟨bl, ol + j, none⟩ = some (.int .i64 (q : Int)) := by rw [Nat.mul_one] at hyc; exact hyc
        have HTK : Hid (dl.reverse.take (k + 1) = dl.reverse.take k ++ [q]) := Lib.hid (take_succ_of (by rw [List.getElem?_reverse hlt, ← hj]; exact hq))
        have HJ := Lib.hid hji
        have hj0 : (0 : Int) ≤ j := by omega
        have hj1 : (j : Int) < dl.length := by omega
        have hkl : (dl.reverse.take k).length ≤ 1000 := by simp; omega
        clear hq hsr hj hji
        go_wp2_with (at_builtin; refine wpList_append_lies _ rfl (.tmp 23) (.tmp 28) 22 rfl w4.heap.size 3 i0 (.int .i64 0) 1 8 Try.underlying22 HI.out.1 HI.out.2.1 HI.out.2.2.1 HI.out.2.2.2 rfl (by decide) _ _ _ rfl (HOW.out.alloc _) ⟨wr.heap.size, 0, none⟩ 1 1 [.int .i64 q] rfl rfl ?c1 ?c2 ?c0 ?c3 ?c4 ?c5 (wr.heap.size + 1) ?c6 ?_)
        case c1 => exact news_one_add wr _ _ rfl
        case c2 => exact ints_oneCell .i64 [(q : Int)]
        case c0 => omega
        case c3 => unfold maxLen; omega
        case c4 => omega
        case c5 => simp; omega
        case c6 => simp
        intro g cap w5 hown5 hgrow5 hloc5 hlt5
        have hb5 : Below w4.heap.size w4 w5 := (HBE.out.alloc hz _).grown hgrow5 (by simp; omega) (fun g hg => (HOW.out.lt g hg).1)
        have HB5 := Lib.hid hb5
        have HO5 : Hid (w5.ownsRow w4.heap.size 3 1 (.slice (some ⟨g, 0, none⟩) (k + 1) cap) (dl.reverse.take (k + 1)).length ((zs (dl.reverse.take (k + 1))).map (Value.int .i64))) := Lib.hid (by rw [HTK.out, zs_snoc, List.map_append, List.length_append, show (dl.reverse.take k).length = k by simp; omega]; exact hown5)
        clear hown5 hgrow5 hloc5 hb5
        go_wp2_with fail
        go_roundw
        case rel => exact ⟨k + 1, by omega, by have := HJ.out; go_num, HB5.out, HO5.out⟩
        case measure => simp [intOf]
      · have hall : Hid (dl.reverse.take k = orderF f.blocks) := Lib.hid (by rw [HDL.out, List.take_of_length_le (by simp; omega)])
        have hneg : (dl.length : Int) - 1 - k < 0 := by omega
        clear hsr
        go_wp2_with fail
        go_ret
        exact ⟨⟨_, rfl, own_base (by rw [← hall.out]; exact HOW.out) HBF.out.size⟩, HBF.out.trans (HBE.out.mono HBF.out.size)⟩
end Go.Proofs.Ytflbooopgjgkbaa

/- The document's Clean. -/
namespace Go.Proofs.Ytflbooopgjgkbaa
open Go.ChangeShapes Go.WideShapes Go.RowKit Go.Deep
set_option linter.unusedVariables false

/-- Whether a block leads to another one. -/
def ldB (bs : List BlkD) (a b : Nat) : Bool := hasTo (b : Int) (tosOf bs a)
theorem ld_iff {bs : List BlkD} {a b : Nat} (ha : a < bs.length) (hb : b < bs.length) : ldB bs a b = true ↔ b ∈ nxF bs a := by
  have hat : bs[a]? = Option.some (bs[a]'ha) := List.getElem?_eq_getElem ha
  unfold ldB hasTo
  rw [nxF_mem hat, tosOf_at hat, List.any_eq_true]
  constructor
  · rintro ⟨y, hy, e⟩
    rw [beq_iff_eq] at e
    exact ⟨hb, e ▸ hy⟩
  · rintro ⟨_, h⟩
    exact ⟨_, h, by simp⟩
theorem ld_get {bs : List BlkD} {a : Nat} (ha : a < bs.length) : ∃ x, bs[a]? = some x ∧ ∀ b, hasTo b x.term.to = hasTo b (tosOf bs a) := ⟨_, List.getElem?_eq_getElem ha, fun b => by rw [tosOf_at (List.getElem?_eq_getElem ha)]⟩
def ClK (bs : List BlkD) (x k : Nat) : Prop := ∀ j y, j < k → (orderF bs)[j]? = some y → y ∈ nxF bs x → dmB bs y x = true
theorem ClP.stepK {bs : List BlkD} {i x : Nat} (h : ClP bs i) (hx : (orderF bs)[i]? = some x) (hk : ClK bs x (i + 1)) : ClP bs (i + 1) := fun j y hj hy t ht hm => by
  by_cases e : j = i
  · subst e
    rw [hx] at hy; cases hy
    obtain ⟨q, hq⟩ := List.mem_iff_getElem?.1 hm
    have hql : q < j + 1 := by have := (List.getElem?_eq_some_iff.1 hq).1; simp at this; omega
    rw [List.getElem?_take_of_lt hql] at hq
    exact hk q t hql hq ht
  · exact h j y (by omega) hy t ht hm
theorem ClK.step {bs : List BlkD} {x k y : Nat} (h : ClK bs x k) (hy : (orderF bs)[k]? = some y) (hd : y ∈ nxF bs x → dmB bs y x = true) : ClK bs x (k + 1) := fun j z hj hz hm => by
  by_cases e : j = k
  · subst e
    rw [hy] at hz; cases hz
    exact hd hm
  · exact h j z (by omega) hz hm
theorem CleanP.notK {bs : List BlkD} {i k x y : Nat} (hx : (orderF bs)[i]? = some x) (hy : (orderF bs)[k]? = some y) (hk : k ≤ i) (ht : y ∈ nxF bs x) (hd : dmB bs y x = false) : ¬ CleanP bs :=
  CleanP.not hx ht (List.mem_iff_getElem?.2 ⟨k, by rw [List.getElem?_take_of_lt (by omega)]; exact hy⟩) hd
def ToldCR (bs : List BlkD) (w : World) (e : Ending) (w' : World) : Prop :=
  (∃ r, e = .returned (.bool r) ∧ (r = true ↔ CleanP bs)) ∧ Below w.heap.size w w'

set_option maxRecDepth 100000 in
set_option maxHeartbeats 8000000 in
theorem refClean_any (f : FunD) (v : Value) (w : World) (hv : VFun w v f) (hn : f.blocks.length ≤ 1000) : Calls Try.prog 13 #[v] w (ToldCR f.blocks w) := by
  have hv0 := hv
  obtain ⟨Ar, cr, A, c, rfl, -, -, -, -⟩ := hv
  have HV := Lib.hid hv0
  go_enter Try.func13, Try.ntmps13
  go_upto_region 1 with fail
  obtain ⟨w1, hw1, hs1, hk1, hbel1, hc1, -⟩ := named w #[.int .i64 f.params, .int .i64 f.result, .slice Ar f.regs.length cr, .slice A f.blocks.length c] 25
  rw [← hw1]
  have c0 : w1.cell? ⟨w.heap.size, 0, none⟩ = some (.int .i64 f.params) := hc1 0 _ rfl
  have c1 : w1.cell? ⟨w.heap.size, 1, none⟩ = some (.int .i64 f.result) := hc1 1 _ rfl
  have c2 : w1.cell? ⟨w.heap.size, 2, none⟩ = some (.slice Ar f.regs.length cr) := hc1 2 _ rfl
  have c3 : w1.cell? ⟨w.heap.size, 3, none⟩ = some (.slice A f.blocks.length c) := hc1 3 _ rfl
  have HC := Lib.hid (And.intro c0 (And.intro c1 (And.intro c2 c3)))
  have HB1 := Lib.hid hbel1
  have HS1 : Hid (w1.heap.size = w.heap.size + 1) := Lib.hid hs1
  have hV1 := VFun.keep hk1 hv0
  have HV1 := Lib.hid hV1
  obtain ⟨N, hN⟩ : ∃ N, N = w.heap.size := ⟨_, rfl⟩
  have HNN := Lib.hid hN
  rw [← hN] at c0 c1 c2 c3 ⊢
  clear hw1 hs1 hk1 hc1 hbel1 hv0 hN
  go_wp2_with fail
  refine (refDom_any f _ w1 hV1 hn).mono ?_
  rintro e w2 ⟨⟨vd, D, rfl, ht⟩, hb2⟩
  have hk2 := kept_of_below hb2
  have c0 := hk2 _ _ c0
  have c1 := hk2 _ _ c1
  have c2 := hk2 _ _ c2
  have c3 := hk2 _ _ c3
  have HB2 := Lib.hid hb2
  have HT2 := Lib.hid ht
  clear hk2 hb2 ht hV1
  go_wp2_with fail
  refine (refOrder_any f _ w2 (VFun.keep (kept_of_below HB2.out) HV1.out) hn).mono ?_
  rintro e w3 ⟨⟨vo, rfl, ho⟩, hb3⟩
  obtain ⟨ln, hln⟩ : ∃ ln, (orderF f.blocks).length = ln := ⟨_, rfl⟩
  have HLN := Lib.hid hln
  have hlnn : ln ≤ 1000 := by rw [← hln]; have := orderF_len f.blocks; omega
  rw [hln] at ho
  obtain ⟨Ao, co, rfl⟩ := own_sliceL ho
  have HB3 : Hid (Below w1.heap.size w1 w3) := Lib.hid (HB2.out.trans (hb3.mono HB2.out.size))
  have HT3 := Lib.hid (HT2.out.below hb3)
  have HO3 : Hid (∀ W, Below w3.heap.size w3 W → ∀ k, k < ln → ∃ g x, Ao = some ⟨g, 0, none⟩ ∧ (orderF f.blocks)[k]? = some x ∧ x < f.blocks.length ∧ W.cell? ⟨g, k, none⟩ = some (.int .i64 (x : Int))) := Lib.hid (fun W hW k hk => by
    have h1 : w3.ownsRow w2.heap.size 3 1 (.slice Ao ln co) ln ((zs (orderF f.blocks)).map (Value.int .i64)) := ho
    have hx : (orderF f.blocks)[k]? = some _ := List.getElem?_eq_getElem (by rw [HLN.out]; exact hk)
    rcases h1.2 with ⟨h0, _⟩ | ⟨g, cap, cur, hv2, -⟩
    · omega
    · cases hv2
      refine ⟨g, _, rfl, hx, orderF_lt (List.mem_of_getElem? hx), ?_⟩
      refine (hW.cell (p := ⟨g, k, none⟩) (h1.lt g rfl).2).trans ?_
      rw [h1.cellAt k (by omega), List.getElem?_map]
      unfold zs
      rw [List.getElem?_map, hx]; rfl)
  clear hb3 ho hln c0 c1 c2 c3
  have HTC : Hid (∀ W : World, Below w3.heap.size w3 W → ∀ a, a < f.blocks.length → ∃ g cg, vd = .slice (some ⟨g, 0, none⟩) f.blocks.length cg ∧ W.cell? ⟨g, a, none⟩ = some (.slice (some ⟨D a, 0, none⟩) f.blocks.length f.blocks.length) ∧ ∀ x, x < f.blocks.length → W.cell? ⟨D a, x, none⟩ = some (.bool (dmB f.blocks a x))) := Lib.hid (fun W hW a ha => by
    have h2 := HT3.out.below hW
    obtain ⟨g', cg', hg', hc'⟩ := h2.at_ ha
    exact ⟨g', cg', hg', hc', fun x hx => (h2.cells a ha).cell hx⟩)
  go_wp2_with fail
  go_loopw [5] (fun s5 wq => ∃ i : Nat, i ≤ ln ∧ s5 = .int .i64 (i : Int) ∧ Below w3.heap.size w3 wq ∧ ClP f.blocks i) (fun s5 _ => ln - (intOf s5).toNat)
  case atStart => exact ⟨0, Nat.zero_le _, rfl, Below.refl _ _, fun i x hi => by omega⟩
  case round =>
    obtain ⟨i, hi, rfl, hb, hcl⟩ := hrel
    obtain ⟨wL, rfl⟩ : ∃ wL, wL = wr := ⟨_, rfl⟩
    have HB := Lib.hid hb
    have HCL := Lib.hid hcl
    by_cases hil : i < ln
    · obtain ⟨g, x, rfl, hx, hxn, -⟩ := HO3.out wL hb i hil
      have HX := Lib.hid hx
      have hi0 : (0 : Int) ≤ i := by omega
      have hi1 : (i : Int) < ln := by omega
      clear hb hcl hx
      go_wp2_with fail
      go_loopw [6] (fun s6 wq => ∃ k : Nat, k ≤ i + 1 ∧ s6 = .int .i64 (k : Int) ∧ Below wL.heap.size wL wq ∧ ClK f.blocks x k) (fun s6 _ => i + 1 - (intOf s6).toNat)
      case atStart => exact ⟨0, Nat.zero_le _, rfl, Below.refl _ _, fun j y hj => by omega⟩
      case round =>
        obtain ⟨k, hk, rfl, hb, hcl⟩ := hrel
        have HBK := Lib.hid hb
        have HCK := Lib.hid hcl
        have hbq := HB.out.trans (hb.mono HB.out.size)
        by_cases hki : k ≤ i
        · obtain ⟨g', x', hg', hx', -, ci⟩ := HO3.out wr hbq i hil
          obtain rfl : g = g' := by injection hg' with h1; injection h1
          obtain rfl : x = x' := Option.some.inj (HX.out.symm.trans hx')
          obtain ⟨g', y, hg', hy, hyn, ck⟩ := HO3.out wr hbq k (by omega)
          obtain rfl : g = g' := by injection hg' with h1; injection h1
          have HY := Lib.hid hy
          obtain ⟨kb, hkb, hto⟩ := ld_get hxn
          have hkc : ∀ q, wr.cell? ⟨N, q, none⟩ = w1.cell? ⟨N, q, none⟩ := fun q => ((HB3.out.trans (hbq.mono HB3.out.size)).cell (p := ⟨N, q, none⟩) (by have := HS1.out; have := HNN.out; show N < _; omega))
          have c0 : wr.cell? ⟨N, 0, none⟩ = some (.int .i64 f.params) := (hkc 0).trans (by rw [HNN.out]; exact HC.out.1)
          have c1 : wr.cell? ⟨N, 1, none⟩ = some (.int .i64 f.result) := (hkc 1).trans (by rw [HNN.out]; exact HC.out.2.1)
          have c2 : wr.cell? ⟨N, 2, none⟩ = some (.slice Ar f.regs.length cr) := (hkc 2).trans (by rw [HNN.out]; exact HC.out.2.2.1)
          have c3 : wr.cell? ⟨N, 3, none⟩ = some (.slice A f.blocks.length c) := (hkc 3).trans (by rw [HNN.out]; exact HC.out.2.2.2)
          have hld := leads_any f x kb (y : Int) _ wr.drew (VFun.keep (kept_of_below (HB3.out.trans (hbq.mono HB3.out.size)).drew) HV1.out) hkb
          rw [hto] at hld
          have HLD : Hid (Calls Try.prog 33 _ _ _) := Lib.hid hld
          have hk0 : (0 : Int) ≤ k := by omega
          have hk1 : (k : Int) < ln := by omega
          have hki2 : (k : Int) ≤ i := by omega
          have hHZ := hbq.size
          have HBQ := Lib.hid hbq
          clear hb hcl hbq hx' hg' hy hkb hto hkc hld
          go_upto_region 9 with fail
          go_still_tail 9, (by kernel_rfl)
          change wpList _ _ _ _ _ wr.drew
          go_wp2_with (go_at_call 33; refine HLD.out.mono ?_; rintro e w5 ⟨rfl, hb5⟩)
          have hb5' : Below wr.heap.size wr w5 := (Below.refl _ wr).drew.trans hb5
          have HB5 : Hid (Below wL.heap.size wL w5) := Lib.hid (HBK.out.trans (hb5'.mono HBK.out.size))
          have hb35 : Below w3.heap.size w3 w5 := HB.out.trans (HB5.out.mono HB.out.size)
          have HEND : Hid (Below w.heap.size w w5) := Lib.hid (HB1.out.trans ((HB3.out.trans (hb35.mono HB3.out.size)).mono (by have := HS1.out; omega)))
          obtain ⟨g', x', hg', hx', -, ci⟩ := HO3.out w5 hb35 i hil
          obtain rfl : g = g' := by injection hg' with h1; injection h1
          obtain rfl : x = x' := Option.some.inj (HX.out.symm.trans hx')
          obtain ⟨g', y', hg', hy', -, ck⟩ := HO3.out w5 hb35 k (by omega)
          obtain rfl : g = g' := by injection hg' with h1; injection h1
          obtain rfl : y = y' := Option.some.inj (HY.out.symm.trans hy')
          obtain ⟨gd, cgd, rfl, td1, td2⟩ := HTC.out w5 hb35 y hyn
          have td3 := td2 x hxn
          have hx0 : (0 : Int) ≤ x := by omega
          have hx1 : (x : Int) < f.blocks.length := by omega
          have hy0 : (0 : Int) ≤ y := by omega
          have hy1 : (y : Int) < f.blocks.length := by omega
          clear hb5 hb5' hb35 hg' hx' hy' td2 HLD
          cases hl : hasTo (y : Int) (tosOf f.blocks x)
          · have HNO : Hid (y ∉ nxF f.blocks x) := Lib.hid (fun h => by have h1 := (ld_iff hxn hyn).2 h; unfold ldB at h1; rw [hl] at h1; cases h1)
            clear hl
            go_quiet (fail)
            go_wp2_with fail
            go_roundw
            case rel => exact ⟨k + 1, by omega, by go_num, below_drewN HB5.out _, ClK.step HCK.out HY.out (fun h => absurd h HNO.out)⟩
            case measure => simp [intOf]; omega
          · have HYES : Hid (y ∈ nxF f.blocks x) := Lib.hid ((ld_iff hxn hyn).1 hl)
            clear hl
            cases hd : dmB f.blocks y x
            · rw [hd] at td3
              have HNC : Hid (¬ CleanP f.blocks) := Lib.hid (CleanP.notK HX.out HY.out (by omega) HYES.out hd)
              clear hd
              go_quiet (fail)
              go_wp2_with fail
              go_ret
              exact ⟨⟨false, rfl, ⟨fun h => Bool.noConfusion h, fun h => absurd h HNC.out⟩⟩, below_drewN HEND.out _⟩
            · rw [hd] at td3
              have HD := Lib.hid hd
              clear hd
              go_quiet (fail)
              go_wp2_with fail
              go_roundw
              case rel => exact ⟨k + 1, by omega, by go_num, below_drewN HB5.out _, ClK.step HCK.out HY.out (fun _ => HD.out)⟩
              case measure => simp [intOf]; omega
        · obtain rfl : k = i + 1 := by omega
          have HCL2 := Lib.hid (ClP.stepK HCL.out HX.out hcl)
          clear hb hcl hbq
          go_wp2_with fail
          go_roundw
          case rel => exact ⟨i + 1, by omega, by go_num, HB.out.trans (HBK.out.mono HB.out.size), HCL2.out⟩
          case measure => simp [intOf]; omega
    · obtain rfl : i = ln := by omega
      clear hb hcl
      go_wp2_with fail
      go_ret
      exact ⟨⟨true, rfl, ⟨fun _ => by unfold CleanP; rw [HLN.out]; exact HCL.out, fun _ => rfl⟩⟩, HB1.out.trans ((HB3.out.trans (HB.out.mono HB3.out.size)).mono (by have := HS1.out; omega))⟩
end Go.Proofs.Ytflbooopgjgkbaa
