/- The reference of layer 6: Dominates. -/
import Derived.Test.YtbhndfknjkeilaaDmBgJ
import Derived.Test.YtbhndfknjkeilaaDmMJ
namespace Go.Proofs.Ytbhndfknjkeilaa
open Go.ChangeShapes Go.WideShapes Go.RowKit Go.Deep
set_option linter.unusedVariables false

/-- Rows of truths that were told, or grow: a row of the call's own, and of each of its rows a block. -/
structure TRow (w : World) (K n j : Nat) (v : Value) (D : Nat → Nat) (M : Nat → Nat → Bool) : Prop where
  own : w.ownsRow K 36 1 v j ((List.range j).map fun a => Value.slice (some ⟨D a, 0, none⟩) n n)
  cells : ∀ a, a < j → w.rowIs (D a) 4 n (fun b => .bool (M a b))
  ap : ∀ a, a < j → v.ownBlock ≠ some (D a)
  ge : ∀ a, a < j → K ≤ D a
theorem TRow.below {w w' : World} {K n j : Nat} {v : Value} {D : Nat → Nat} {M : Nat → Nat → Bool} (h : TRow w K n j v D M) (hb : Below w.heap.size w w') : TRow w' K n j v D M :=
  ⟨ownsRow_block h.own (fun g hg => hb.block g (h.own.lt g hg).2), fun a ha => (h.cells a ha).of_block (hb.block _ (h.cells a ha).lt), h.ap, h.ge⟩
theorem owns_mono {w : World} {base base' n size : Nat} {e : TypeId} {v : Value} {xs : List Value} (h : w.ownsRow base e size v n xs) (hk : base' ≤ base) : w.ownsRow base' e size v n xs := by
  obtain ⟨h1, h2 | ⟨g, cap, cur, rfl, hb, h3⟩⟩ := h
  · exact ⟨h1, .inl h2⟩
  · exact ⟨h1, .inr ⟨g, cap, cur, rfl, Nat.le_trans hk hb, h3⟩⟩
theorem TRow.nil (w : World) (K n : Nat) (D : Nat → Nat) (M : Nat → Nat → Bool) : TRow w K n 0 (.slice none 0 0) D M :=
  ⟨World.ownsRow_nil _ _ _ _, fun a ha => by omega, fun a ha => by omega, fun a ha => by omega⟩
theorem TRow.push {w w' : World} {K n j d : Nat} {v v' : Value} {D : Nat → Nat} {M : Nat → Nat → Bool} (h : TRow w K n j v D M) (hg : GroD w w' v v')
    (ho : w'.ownsRow K 36 1 v' (j + 1) ((List.range j).map (fun a => Value.slice (some ⟨D a, 0, none⟩) n n) ++ [.slice (some ⟨d, 0, none⟩) n n]))
    (hd : w.rowIs d 4 n (fun b => .bool (M j b))) (hK : K ≤ d) (hv : v.ownBlock ≠ some d) : TRow w' K n (j + 1) v' (updF D j d) M := by
  have key : ∀ x, x < w.heap.size → v.ownBlock ≠ some x → v'.ownBlock ≠ some x := fun x hx hvx e => by
    rcases hg.own x e with h1 | h1
    · exact hvx h1
    · omega
  refine ⟨?_, fun a ha => ?_, fun a ha => ?_, fun a ha => ?_⟩
  · rw [map_range_snoc] at ho
    have : ((List.range (j + 1)).map (updF (fun a => Value.slice (some ⟨D a, 0, none⟩) n n) j (.slice (some ⟨d, 0, none⟩) n n))) = (List.range (j + 1)).map fun a => Value.slice (some ⟨updF D j d a, 0, none⟩) n n :=
      List.map_congr_left fun a _ => by unfold updF; by_cases e : a = j <;> simp [e]
    rwa [this] at ho
  · by_cases e : a = j
    · subst e; rw [updF_here]; exact hd.of_block (hg.block _ hd.lt hv)
    · rw [updF_else _ _ e]; exact (h.cells a (by omega)).of_block (hg.block _ (h.cells a (by omega)).lt (h.ap a (by omega)))
  · by_cases e : a = j
    · subst e; rw [updF_here]; exact key d hd.lt hv
    · rw [updF_else _ _ e]; exact key _ (h.cells a (by omega)).lt (h.ap a (by omega))
  · by_cases e : a = j
    · subst e; rw [updF_here]; exact hK
    · rw [updF_else _ _ e]; exact h.ge a (by omega)
theorem TRow.at_ {w : World} {K n j : Nat} {v : Value} {D : Nat → Nat} {M : Nat → Nat → Bool} (h : TRow w K n j v D M) {a : Nat} (ha : a < j) : ∃ g cap, v = .slice (some ⟨g, 0, none⟩) j cap ∧ w.cell? ⟨g, a, none⟩ = some (.slice (some ⟨D a, 0, none⟩) n n) := by
  obtain ⟨g, cap, u, rfl, hu, hc, -⟩ := own_cellD h.own ha
  obtain ⟨rfl, -⟩ := map_range_at _ hu
  exact ⟨g, cap, rfl, hc⟩
def ToldRD (bs : List BlkD) (w : World) (e : Ending) (w' : World) : Prop :=
  (∃ v D, e = .returned v ∧ TRow w' w.heap.size bs.length bs.length v D (dmB bs)) ∧ Below w.heap.size w w'

set_option maxRecDepth 100000 in
set_option maxHeartbeats 8000000 in
theorem refDom_any (f : FunD) (v : Value) (w : World) (hv : VFun w v f) (hn : f.blocks.length ≤ 1000) : Calls Try.prog 25 #[v] w (ToldRD f.blocks w) := by
  have hv0 := hv
  obtain ⟨i0, hi, hz0, hz1, hz2⟩ := info_parts Try.info36
  have HI := Lib.hid (And.intro hi (And.intro hz0 (And.intro hz1 hz2)))
  clear hi hz0 hz1 hz2
  obtain ⟨Ar, cr, A, c, rfl, -, -, -, -⟩ := hv
  have HV := Lib.hid hv0
  go_enter Try.func25, Try.ntmps25
  go_upto_region 1 with fail
  obtain ⟨w1, hw1, hs1, hk1, hbel1, hc1, -⟩ := named w #[.int .i64 f.params, .int .i64 f.result, .slice Ar f.regs.length cr, .slice A f.blocks.length c] 25
  rw [← hw1]
  have c0 : w1.cell? ⟨w.heap.size, 0, none⟩ = some (.int .i64 f.params) := hc1 0 _ rfl
  have c1 : w1.cell? ⟨w.heap.size, 1, none⟩ = some (.int .i64 f.result) := hc1 1 _ rfl
  have c2 : w1.cell? ⟨w.heap.size, 2, none⟩ = some (.slice Ar f.regs.length cr) := hc1 2 _ rfl
  have c3 : w1.cell? ⟨w.heap.size, 3, none⟩ = some (.slice A f.blocks.length c) := hc1 3 _ rfl
  have HC := Lib.hid (And.intro c0 (And.intro c1 (And.intro c2 c3)))
  have HB1 := Lib.hid hbel1
  have HS1 := Lib.hid hs1
  have HN := Lib.hid (from_any f 0 (-1) _ w1 (VFun.keep hk1 hv0) hn)
  clear hw1 hs1 hbel1 hc1 hv0 hk1
  go_wp2_with fail
  refine HN.out.mono ?_
  rintro e w2 ⟨⟨R, rfl, hR, hr⟩, hb2⟩
  have HB2 : Hid (Below w.heap.size w w2) := Lib.hid (HB1.out.trans (hb2.mono (by have := HS1.out; omega)))
  have HR := Lib.hid hr
  have HNW : Hid (w.heap.size < w2.heap.size) := Lib.hid (by have := hb2.size; have := HS1.out; omega)
  have hk2 : ∀ i, w2.cell? ⟨w.heap.size, i, none⟩ = w1.cell? ⟨w.heap.size, i, none⟩ := fun i => hb2.cell (p := ⟨w.heap.size, i, none⟩) (by have := HS1.out; show w.heap.size < _; omega)
  have HC2 := Lib.hid (And.intro ((hk2 0).trans HC.out.1) (And.intro ((hk2 1).trans HC.out.2.1) (And.intro ((hk2 2).trans HC.out.2.2.1) ((hk2 3).trans HC.out.2.2.2))))
  have hmk := run_make_row' (P := Try.prog) 36 4 (.bool false) 1 Try.underlying36 Try.info4 rfl .i64 .i64 f.blocks.length (by omega) (by omega)
  have HMK := Lib.hid hmk
  clear c0 c1 c2 c3 hr hR hb2 HN hk2 hmk
  go_wp2_with fail
  go_loopw [4, 5] (fun s4 s5 wq => ∃ (j : Nat) (v : Value) (D : Nat → Nat), j ≤ f.blocks.length ∧ v = s4 ∧ s5 = .int .i64 (j : Int) ∧ TRow wq w2.heap.size f.blocks.length j v D (dmB f.blocks) ∧ Below w2.heap.size w2 wq) (fun s4 s5 _ => f.blocks.length - (intOf s5).toNat)
  case atStart => exact ⟨0, _, fun _ => 0, Nat.zero_le _, rfl, rfl, TRow.nil _ _ _ _ _, Below.refl _ _⟩
  case round =>
    obtain ⟨j, v, D, hj, rfl, rfl, ht, hb⟩ := hrel
    have HT := Lib.hid ht
    have HB := Lib.hid hb
    have HBW : Hid (Below w.heap.size w wr) := Lib.hid (HB2.out.trans (hb.mono (Nat.le_of_lt HNW.out)))
    by_cases hjl : j < f.blocks.length
    · have hk : ∀ i, wr.cell? ⟨w.heap.size, i, none⟩ = w2.cell? ⟨w.heap.size, i, none⟩ := fun i => hb.cell (p := ⟨w.heap.size, i, none⟩) HNW.out
      have c0 := (hk 0).trans HC2.out.1
      have c1 := (hk 1).trans HC2.out.2.1
      have c2 := (hk 2).trans HC2.out.2.2.1
      have c3 := (hk 3).trans HC2.out.2.2.2
      have HN := Lib.hid (from_any f 0 j _ wr (VFun.keep (kept_of_below HBW.out) HV.out) hn)
      clear ht hb hk
      go_wp2_with fail
      refine HN.out.mono ?_
      rintro e w4 ⟨⟨R2, rfl, hR2, hr2⟩, hb4⟩
      have HB4 : Hid (Below w2.heap.size w2 w4) := Lib.hid (HB.out.trans (hb4.mono HB.out.size))
      have HT4 := Lib.hid (HT.out.below hb4)
      have HR4 := Lib.hid (HR.out.of_block (HB4.out.block R HR.out.lt))
      have HR2 := Lib.hid hr2
      have hmk := HMK.out
      clear hb4 hr2 hR2 HN c0 c1 c2 c3
      go_upto_region 8 with fail
      clear hmk
      obtain ⟨Q, hQ⟩ : ∃ Q, Q = w4.heap.size := ⟨_, rfl⟩
      obtain ⟨w5, hw5⟩ : ∃ w5, w5 = w4.alloc (.cells (madeCells #[.bool false] f.blocks.length) 4) := ⟨_, rfl⟩
      have hb5 : Below w4.heap.size w4 w5 := by rw [hw5]; exact (Below.refl _ _).alloc (Nat.le_refl _) _
      have hrow : w5.rowIs Q 4 f.blocks.length (fun x => .bool (if x < 0 then dmB f.blocks j x else false)) := by rw [hw5, hQ]; exact (World.rowIs_made w4 (.bool false) f.blocks.length 4).congr fun x _ => by simp
      have HROW := Lib.hid hrow
      have HR5 := Lib.hid (HR4.out.of_block (hb5.block R HR4.out.lt))
      have HR25 := Lib.hid (HR2.out.of_block (hb5.block R2 HR2.out.lt))
      have HT5 := Lib.hid (HT4.out.below hb5)
      have HB5 : Hid (Below w2.heap.size w2 w5) := Lib.hid (HB4.out.trans (hb5.mono HB4.out.size))
      have HQ : Hid (w2.heap.size ≤ Q ∧ R < Q ∧ R2 < Q ∧ Q < w5.heap.size ∧ (∀ a, a < j → D a < Q) ∧ (∀ g, v.ownBlock = some g → g < Q)) := Lib.hid ⟨by rw [hQ]; exact HB4.out.size, by rw [hQ]; exact HR4.out.lt, by rw [hQ]; exact HR2.out.lt, hrow.lt, fun a ha => by rw [hQ]; exact (HT4.out.cells a ha).lt, fun g hg => by rw [hQ]; exact (HT4.out.own.lt g hg).2⟩
      rw [← hw5, ← hQ]
      clear hw5 hQ hb5 hrow HR4 HR2 HT4
      go_wp2_with fail
      go_loopw [8] (fun s8 wq => ∃ b : Nat, b ≤ f.blocks.length ∧ s8 = .int .i64 (b : Int) ∧ wq.rowIs Q 4 f.blocks.length (fun x => .bool (if x < b then dmB f.blocks j x else false)) ∧ FrX (fun y => y = Q) w5 wq) (fun s8 _ => f.blocks.length - (intOf s8).toNat)
      case atStart => exact ⟨0, Nat.zero_le _, rfl, HROW.out, FrX.refl _ _⟩
      case round =>
        obtain ⟨b, hb, rfl, hrw, hfr⟩ := hrel
        have HFR := Lib.hid hfr
        have HRW := Lib.hid hrw
        by_cases hbl : b < f.blocks.length
        · have xr := (HR5.out.of_block (hfr.block R HR5.out.lt (by have := HQ.out; omega))).cell hbl
          have x2 := (HR25.out.of_block (hfr.block R2 HR25.out.lt (by have := HQ.out; omega))).cell hbl
          have xc := hrw.cell hbl
          have xf := hrw.frozen b
          have hb0 : (0 : Int) ≤ b := by omega
          have hb1 : (b : Int) < f.blocks.length := by omega
          have HST : Hid (∀ u, dmB f.blocks j b = u → (wr.setCell ⟨Q, b, none⟩ (.bool u)).rowIs Q 4 f.blocks.length (fun x => .bool (if x < b + 1 then dmB f.blocks j x else false))) := Lib.hid (fun u hu => (HRW.out.set b (.bool u)).congr fun x _ => by
            by_cases e : x = b
            · subst e; rw [if_pos rfl, if_pos (by omega), hu]
            · rw [if_neg e]
              by_cases e2 : x < b
              · rw [if_pos e2, if_pos (by omega)]
              · rw [if_neg e2, if_neg (by omega)])
          have HF2 : Hid (∀ u, FrX (fun y => y = Q) w5 (wr.setCell ⟨Q, b, none⟩ (.bool u))) := Lib.hid (fun u => HFR.out.setCell (p := ⟨Q, b, none⟩) (.inl rfl) _)
          have hE : (((j : Nat) : Int) == ((b : Nat) : Int)) = decide (j = b) := by rw [Bool.eq_iff_iff, beq_iff_eq, decide_eq_true_iff]; omega
          have HD : Hid (dmB f.blocks j b = (fromB f.blocks 0 (-1) b && (decide (j = b) || !fromB f.blocks 0 j b))) := Lib.hid rfl
          clear hrw hfr
          generalize fromB f.blocks 0 (-1) b = y1 at *
          generalize fromB f.blocks 0 j b = y3 at *
          generalize decide (j = b) = y2 at *
          cases y1 <;> cases y2 <;> cases y3
          all_goals (
            go_wp2_with fail
            go_roundw
            case rel => exact ⟨b + 1, by omega, by go_num, HST.out _ (by rw [HD.out]; rfl), HF2.out _⟩
            case measure => simp [intOf]; omega)
        · have hbb : b = f.blocks.length := by omega
          subst hbb
          have hlow := hfr.below HB5.out.size (fun k hk => by have := HQ.out.1; have e : k = Q := hk; omega)
          have hT6 : TRow wr w2.heap.size f.blocks.length j v D (dmB f.blocks) := ⟨ownsRow_block HT5.out.own (fun g hg => hfr.block g (HT5.out.own.lt g hg).2 (fun e => by have := HQ.out.2.2.2.2.2 g hg; have e : g = Q := e; omega)), fun a ha => (HT5.out.cells a ha).of_block (hfr.block _ (HT5.out.cells a ha).lt (fun e => by have := HQ.out.2.2.2.2.1 a ha; have e : D a = Q := e; omega)), HT5.out.ap, HT5.out.ge⟩
          have HT6 := Lib.hid hT6
          have HRZ := Lib.hid (hrw.congr (g := fun x => .bool (dmB f.blocks j x)) fun x hx => by rw [if_pos hx])
          have HB6 : Hid (Below w2.heap.size w2 wr) := Lib.hid (HB5.out.trans (hlow.mono (Nat.le_refl _)))
          have hz6 := HB6.out.size
          clear hrw hfr hlow hT6
          go_wp2_with (at_builtin; refine wpList_append_lies _ rfl (.tmp 48) (.tmp 50) 34 rfl w2.heap.size 36 i0 (.slice none 0 0) 1 24 Try.underlying34 HI.out.1 HI.out.2.1 HI.out.2.2.1 HI.out.2.2.2 rfl (by decide) v _ _ rfl (HT6.out.own.alloc _) ⟨wr.heap.size, 0, none⟩ 1 1 [.slice (some ⟨Q, 0, none⟩) f.blocks.length f.blocks.length] rfl rfl ?e1 ?e2 ?e0 ?e3 ?e4 ?e5 (wr.heap.size + 1) ?e6 ?_)
          case e1 => exact cell_one_new_ wr _ _
          case e2 => intro u hu; rw [List.mem_singleton.1 hu]; rfl
          case e0 => omega
          case e3 => unfold maxLen; omega
          case e4 => omega
          case e5 => simp; omega
          case e6 => simp
          intro g cap w7 hown7 hgrow7 hloc7 hlt7
          have HGR : Hid (GroD wr w7 v (.slice (some ⟨g, 0, none⟩) (j + 1) cap)) := Lib.hid (groD_append (w := wr) hgrow7 (by simpa using hloc7))
          have HT7 := Lib.hid (HT6.out.push HGR.out hown7 HRZ.out HQ.out.1 (fun e => Nat.lt_irrefl Q (HQ.out.2.2.2.2.2 Q e)))
          have HB7 : Hid (Below w2.heap.size w2 w7) := Lib.hid (HB6.out.trans ((HGR.out.fr (X := fun y => v.ownBlock = some y) (FrX.refl _ _) (fun g hg => .inl hg)).below HB6.out.size (fun k hk => (HT6.out.own.lt k hk).1)))
          clear hown7 hgrow7 hloc7 hlt7
          go_wp2_with fail
          go_roundw
          case rel => exact ⟨j + 1, _, _, by omega, rfl, by go_num, HT7.out, HB7.out⟩
          case measure => simp [intOf]; omega
    · have hjj : j = f.blocks.length := by omega
      subst hjj
      clear ht hb
      go_wp2_with fail
      go_ret
      exact ⟨⟨_, D, rfl, ⟨owns_mono HT.out.own (Nat.le_of_lt HNW.out), HT.out.cells, HT.out.ap, fun a ha => Nat.le_trans (Nat.le_of_lt HNW.out) (HT.out.ge a ha)⟩⟩, HBW.out⟩
end Go.Proofs.Ytbhndfknjkeilaa

/- Ways, and whom they come by. -/
namespace Go.Proofs.Ytbhndfknjkeilaa
open Go.ChangeShapes Go.WideShapes Go.RowKit Go.Deep
set_option linter.unusedVariables false

variable {bs : List BlkD}
/-- Whoever isn't come by: one comes to this block without it. -/
def ByI (bs : List BlkD) (S : Nat → Bool) (at_ : Nat) : Prop := ∀ a, a < bs.length → S a = false → a ≠ at_ → a ≠ 0 ∧ Reach (nxW (nxF bs) a) 0 at_
theorem ByI.start (bs : List BlkD) : ByI bs (fun _ => false) 0 := fun a _ _ h => ⟨h, .refl⟩
theorem ByI.step {S : Nat → Bool} {at_ t : Nat} (h : ByI bs S at_) (ht : t ∈ nxF bs at_) : ByI bs (mark S at_) t := fun a ha hs hat => by
  unfold mark at hs
  by_cases e : a = at_
  · rw [if_pos e] at hs; cases hs
  · rw [if_neg e] at hs
    obtain ⟨h1, h2⟩ := h a ha hs e
    exact ⟨h1, .step h2 (nxW_mem.2 ⟨ht, by omega⟩)⟩
theorem ByI.seen {S : Nat → Bool} {at_ : Nat} (h : ByI bs S at_) (hat : at_ < bs.length) (a : Nat) (ha : a < bs.length) : (dmB bs a at_ && !mark S at_ a) = false := by
  cases h1 : mark S at_ a
  · unfold mark at h1
    by_cases e : a = at_
    · rw [if_pos e] at h1; cases h1
    · rw [if_neg e] at h1
      obtain ⟨h2, h3⟩ := h a ha h1 e
      have h4 := (from_iff (by omega) h2 at_).2 h3
      unfold dmB
      rw [h4]; simp [e]
  · simp

end Go.Proofs.Ytbhndfknjkeilaa

/- The walk of LoopsPaths. -/
namespace Go.Proofs.Ytbhndfknjkeilaa
open Go.ChangeShapes Go.WideShapes Go.RowKit Go.Deep
set_option linter.unusedVariables false

set_option maxRecDepth 100000 in
set_option maxHeartbeats 16000000 in
theorem loopsPaths_walk (f : FunD) (ys : List Int) (v u : Value) (w : World) (hv : VFun w v f) (hu : VS w 1 RInt u ys) :
    Calls Try.prog 6 #[v, u] w fun e w' => e = .returned (.bool true) ∧ Below w.heap.size w w' := by
  have hv0 := hv
  obtain ⟨Ar, cr, A, c, rfl, -, -, -, -⟩ := hv
  obtain ⟨Ay, cy, rfl, hys⟩ := hu
  have hyl := hys.len
  have HV := Lib.hid hv0
  have HY := Lib.hid hys
  clear hv0 hys
  go_enter Try.func6, Try.ntmps6
  go_wp2_with fail
  obtain ⟨w1, hw1, hs1, hk1, hbel1, hc1, -⟩ := named w #[.int .i64 f.params, .int .i64 f.result, .slice Ar f.regs.length cr, .slice A f.blocks.length c] 25
  rw [← hw1]
  refine (up7_any w1).mono ?_
  rintro e w2 ⟨rfl, hb2⟩
  have hk2 := kept_of_below hb2
  have c0 := hk2 _ _ (hc1 0 _ rfl)
  have c1 := hk2 _ _ (hc1 1 _ rfl)
  have c2 := hk2 _ _ (hc1 2 _ rfl)
  have c3 := hk2 _ _ (hc1 3 _ rfl)
  have HB2 : Hid (Below w.heap.size w w2) := Lib.hid (hbel1.trans (hb2.mono (by omega)))
  have HN : Hid (w.heap.size < w2.heap.size) := Lib.hid (by have := hb2.size; omega)
  obtain ⟨N, hN⟩ : ∃ N, N = w.heap.size := ⟨_, rfl⟩
  have HNN := Lib.hid hN
  rw [← hN] at c0 c1 c2 c3 ⊢
  clear hw1 hs1 hbel1 hc1 hb2 hk1 hk2 hN
  go_wp2_with fail
  refine (small7_any f _ w2 (VFun.keep (kept_of_below HB2.out) HV.out)).mono ?_
  rintro e w3 ⟨⟨bs, rfl, hsm⟩, hb3⟩
  have hk3 := kept_of_below hb3
  have c0 := hk3 _ _ c0
  have c1 := hk3 _ _ c1
  have c2 := hk3 _ _ c2
  have c3 := hk3 _ _ c3
  have HB3 : Hid (Below w.heap.size w w3) := Lib.hid (HB2.out.trans (hb3.mono HB2.out.size))
  have HN3 : Hid (w.heap.size < w3.heap.size) := Lib.hid (by have := HN.out; have := hb3.size; omega)
  cases bs
  · clear hb3 hk3 hsm
    go_wp2_with fail
    go_ret
    exact ⟨rfl, HB3.out⟩
  · have hn : f.blocks.length ≤ 70 := (hsm rfl).1
    clear hb3 hk3 hsm
    by_cases hz : f.blocks.length = 0
    · have hze : ((f.blocks.length : Int) == 0) = true := by rw [beq_iff_eq]; omega
      clear hz
      go_wp2_with fail
      go_ret
      exact ⟨rfl, HB3.out⟩
    · have hze : ((f.blocks.length : Int) == 0) = false := by rw [beq_eq_false_iff_ne]; omega
      have hpos : 0 < f.blocks.length := by omega
      clear hz
      go_wp2_with fail
      refine (loops_any f _ w3 (VFun.keep (kept_of_below HB3.out) HV.out) (by omega)).mono ?_
      rintro e w4 ⟨⟨U, hs, rfl, hH, hM, ord, hNB⟩, hb4⟩
      have hk4 := kept_of_below hb4
      have c0 := hk4 _ _ c0
      have c1 := hk4 _ _ c1
      have c2 := hk4 _ _ c2
      have c3 := hk4 _ _ c3
      have HB4 : Hid (Below w.heap.size w w4) := Lib.hid (HB3.out.trans (hb4.mono HB3.out.size))
      have HN4 : Hid (w.heap.size < w4.heap.size) := Lib.hid (by have := HN3.out; have := hb4.size; omega)
      obtain ⟨m, hm⟩ : ∃ m, (hdL f.blocks f.blocks.length).length = m := ⟨_, rfl⟩
      have hm70 : m ≤ 70 := by rw [← hm]; have := hdL_len f.blocks f.blocks.length; omega
      rw [hm] at hH hM
      obtain ⟨Al, cl, hU0⟩ := own_sliceL (show w4.ownsRow w3.heap.size 31 3 (U 0) m _ from hM.own 0 (by omega))
      rw [hU0]
      have HU0 := Lib.hid hU0
      have HH := Lib.hid hH
      have HM := Lib.hid hM
      have HNB := Lib.hid hNB
      have HC := Lib.hid (And.intro c0 (And.intro c1 (And.intro c2 c3)))
      have hmk := run_make_row' (P := Try.prog) 36 4 (.bool false) 1 Try.underlying36 Try.info4 rfl .i64 .i64 f.blocks.length (by omega) (by omega)
      have hz34 : w3.heap.size ≤ w4.heap.size := hb4.size
      clear hb4 hk4 hU0 hH hM hNB hm
      go_upto_region 9 with fail
      clear hmk
      obtain ⟨R, hR⟩ : ∃ R, R = w4.heap.size := ⟨_, rfl⟩
      obtain ⟨w5, hw5⟩ : ∃ w5, w5 = w4.alloc (.cells (madeCells #[.bool false] f.blocks.length) 4) := ⟨_, rfl⟩
      have hb5 : Below w4.heap.size w4 w5 := by rw [hw5]; exact (Below.refl _ _).alloc (Nat.le_refl _) _
      have hrow : w5.rowIs R 4 f.blocks.length (fun x => .bool ((fun _ => false) x : Bool)) := by rw [hw5, hR]; exact World.rowIs_made w4 (.bool false) f.blocks.length 4
      have HROW := Lib.hid hrow
      have HB5 : Hid (Below w.heap.size w w5) := Lib.hid (HB4.out.trans (hb5.mono HB4.out.size))
      have HC5 : Hid (∀ i, i < 4 → w5.cell? ⟨N, i, none⟩ = w4.cell? ⟨N, i, none⟩) := Lib.hid (fun i _ => hb5.cell (p := ⟨N, i, none⟩) (by rw [HNN.out]; exact HN4.out))
      have HRW : Hid (w.heap.size < R ∧ R < w5.heap.size ∧ N < R ∧ R = w4.heap.size ∧ w3.heap.size ≤ R) := Lib.hid ⟨by rw [hR]; exact HN4.out, hrow.lt, by rw [hR, HNN.out]; exact HN4.out, hR, by rw [hR]; exact hz34⟩
      have HMX : Hid (∀ w', FrX (fun b => b = R) w5 w' → LsM f.blocks w' w3.heap.size m U hs (fun i => lbL f.blocks (hs i) f.blocks.length)) := Lib.hid (fun w' hf => PoolD.go HM.out fun y h1 h2 => (hf.block y (by have := hb5.size; omega) (by omega)).trans (hb5.block y h2))
      rw [← hw5, ← hR]
      clear hw5 hR hb5 hrow c0 c1 c2 c3 hz34
      go_wp2_with fail
      go_loopg [9, 10] 61 (fun gk s9 s10 wq => ∃ (i at_ : Nat) (S : Nat → Bool), i ≤ 60 ∧ gk = 61 - i ∧ at_ < f.blocks.length ∧ s9 = .int .i64 (at_ : Int) ∧ s10 = .int .i64 (i : Int) ∧ ByI f.blocks S at_ ∧ wq.rowIs R 4 f.blocks.length (fun x => .bool (S x)) ∧ FrX (fun b => b = R) w5 wq)
      case atStart => exact ⟨0, 0, fun _ => false, by omega, rfl, hpos, rfl, rfl, ByI.start _, HROW.out, FrX.refl _ _⟩
      case round =>
        obtain ⟨i, at_, S, hi, rfl, hat, rfl, rfl, hby, hr, hfr⟩ := hrel
        have HBY := Lib.hid hby
        have HFR := Lib.hid hfr
        have HBF : Hid (Below w.heap.size w wr) := Lib.hid (HB5.out.trans (hfr.below HB5.out.size (fun b hb => by have := HRW.out.1; omega)))
        by_cases hgo : i ≤ ys.length ∧ i < 60
        · obtain ⟨hi1, hi2⟩ := hgo
          have hl1 : ((i : Int) ≤ (ys.length : Int)) := by omega
          have hl2 : ((i : Int) < 60) := by omega
          have xs := hr.cell hat
          have xf := hr.frozen at_
          have ha0 : (0 : Int) ≤ at_ := by omega
          have ha1 : (at_ : Int) < f.blocks.length := by omega
          have HR7 := Lib.hid ((hr.set at_ (.bool true)).congr (g := fun x => .bool (mark S at_ x)) fun x _ => by unfold mark; by_cases e : x = at_ <;> simp [e])
          have HF7 := Lib.hid (hfr.setCell (p := ⟨R, at_, none⟩) (.inl rfl) (.bool true))
          clear hby hr hfr
          go_upto_region 12 with fail
          clear xs xf
          generalize wr.setCell ⟨R, at_, none⟩ (.bool true) = w7 at *
          go_upto_region 13 with fail
          go_loopg [11] m (fun gk s11 wq => ∃ a : Nat, a ≤ m ∧ gk = m - a ∧ s11 = .int .i64 (a : Int) ∧ Below w7.heap.size w7 wq)
          case atStart => exact ⟨0, Nat.zero_le _, rfl, rfl, Below.refl _ _⟩
          case round =>
            obtain ⟨a, han, rfl, rfl, hb⟩ := hrel
            have HBA := Lib.hid hb
            by_cases hal : a < m
            · have hMr := HMX.out wr (HF7.out.trans (FrX.of_below hb))
              obtain ⟨hh1, hh2, -⟩ := hdL_hd (HH.out a hal)
              obtain ⟨g, cap, hUg, -, hgz, -, q1, -⟩ := hMr.at_ hal
              rw [HU0.out] at hUg
              injection hUg with hUa _ hUc
              subst hUa hUc
              obtain ⟨A1, k1, hU1, hs1⟩ := hMr.vs hal (fun x hx => by unfold lbL at hx; have h1 := List.mem_range.1 (List.mem_filter.1 hx).1; omega)
              have hz0 : (0 : Int) ≤ a := by omega
              have hz1 : (a : Int) < m := by omega
              have HHA := Lib.hid (has_any (zs (lbL f.blocks (hs a) f.blocks.length)) at_ _ wr (hs1 _ (Below.refl _ _)))
              have HGZ := Lib.hid hgz
              rw [hU1] at q1 HHA
              have hse : (decide ((at_ : Int) ∈ zs (lbL f.blocks (hs a) f.blocks.length)) && !mark S at_ (hs a)) = false := by
                by_cases e : (at_ : Int) ∈ zs (lbL f.blocks (hs a) f.blocks.length)
                · obtain ⟨q, hq, e2⟩ := zs_mem e
                  obtain rfl : q = at_ := by omega
                  have hl : lpB f.blocks (hs a) q = true := by unfold lbL at hq; simpa using (List.mem_filter.1 hq).2
                  have h1 := HBY.out.seen hat (hs a) hh2
                  rw [lp_dm HNB.out hl] at h1
                  rw [decide_eq_true e]; exact h1
                · rw [decide_eq_false e]; rfl
              have HSE := Lib.hid hse
              clear hMr hU1 hs1 hb hse
              go_upto_region 16 with (go_at_call 16; refine HHA.out.mono ?_; rintro e w8 ⟨rfl, hb8⟩)
              have HB8 : Hid (Below w7.heap.size w7 w8) := Lib.hid (HBA.out.trans (hb8.mono HBA.out.size))
              have hM8 := HMX.out w8 (HF7.out.trans (FrX.of_below HB8.out))
              obtain ⟨g', cap', hUg', -, hgz', q0, -, -⟩ := hM8.at_ hal
              rw [HU0.out] at hUg'
              injection hUg' with hUa' _ hUc'
              injection hUa' with hUa'
              injection hUa' with hUa'
              subst hUa' hUc'
              have xr := (HR7.out.of_block (HB8.out.block R HR7.out.lt)).cell hh2
              have hse := HSE.out
              have hn0 : (0 : Int) ≤ hs a := by omega
              have hn1 : ((hs a : Nat) : Int) < f.blocks.length := by omega
              have hn2 : decide (((hs a : Nat) : Int) < 0) = false := decide_eq_false (by omega)
              have hn3 : decide (((hs a : Nat) : Int) ≥ f.blocks.length) = false := decide_eq_false (by omega)
              clear hM8 q1 hb8 HHA hgz'
              go_cut [88] (fun s88 wc => s88 = .bool false ∧ wc = w8)
              case first =>
                generalize decide ((at_ : Int) ∈ zs (lbL f.blocks (hs a) f.blocks.length)) = x1 at *
                generalize mark S at_ (hs a) = x2 at *
                cases x1 <;> cases x2 <;> first | (exact absurd hse (by decide)) | (clear hse; go_wp2_with fail; go_meet; exact ⟨by rw [decide_eq_false (show ¬ f.blocks.length ≤ hs a by omega)], rfl⟩)
              case rest =>
                obtain ⟨rfl, rfl⟩ := hcut
                clear q0 xr hse
                go_wp2_with fail
                go_roundg (m - (a + 1))
                case measure => omega
                case rel => exact ⟨a + 1, by omega, rfl, by go_num, HB8.out⟩
            · have hkc : ∀ q, q < 4 → wr.cell? ⟨N, q, none⟩ = w4.cell? ⟨N, q, none⟩ := fun q hq => (World.cell?_of_block (a := ⟨N, q, none⟩) ((HF7.out.trans (FrX.of_below hb)).block N (by have := HRW.out; omega) (by have := HRW.out; omega))).trans (HC5.out q hq)
              have c0 := (hkc 0 (by omega)).trans HC.out.1
              have c1 := (hkc 1 (by omega)).trans HC.out.2.1
              have c2 := (hkc 2 (by omega)).trans HC.out.2.2.1
              have c3 := (hkc 3 (by omega)).trans HC.out.2.2.2
              have HBW : Hid (Below w.heap.size w wr) := Lib.hid (HB5.out.trans ((HF7.out.trans (FrX.of_below hb)).below HB5.out.size (fun b hb => by have := HRW.out.1; omega)))
              have HNX := Lib.hid (refNext_any f at_ _ wr (VFun.keep (kept_of_below HBW.out) HV.out) (by omega) hat)
              have HR8 := Lib.hid (HR7.out.of_block (hb.block R HR7.out.lt))
              have HF8 : Hid (FrX (fun b => b = R) w5 wr) := Lib.hid (HF7.out.trans (FrX.of_below hb))
              clear hb hkc
              go_wp2_with fail
              refine HNX.out.mono ?_
              rintro e w9 ⟨⟨vl, rfl, hl⟩, hb9⟩
              have HR9 := Lib.hid (HR8.out.of_block (hb9.block R HR8.out.lt))
              have HF9 : Hid (FrX (fun b => b = R) w5 w9) := Lib.hid (HF8.out.trans (FrX.of_below hb9))
              have HB9 : Hid (Below w.heap.size w w9) := Lib.hid (HBW.out.trans (hb9.mono HBW.out.size))
              obtain ⟨Al, cl, rfl, hsl⟩ := vs_of_own (xs := zs (nxF f.blocks at_)) (by rw [zs_len]; exact hl) (fun y hy => by obtain ⟨q, hq, rfl⟩ := zs_mem hy; have := nxF_lt f.blocks at_ q hq; unfold I64; omega)
              rw [zs_len]
              have HSL := Lib.hid hsl
              have hnl : (nxF f.blocks at_).length ≤ 70 := by unfold nxF; split; exact Nat.le_trans (nextN_few _ _) hn; simp
              clear hl hb9 hsl c0 c1 c2 c3
              by_cases he : (nxF f.blocks at_).length = 0
              · have heb : (((nxF f.blocks at_).length : Int) == 0) = true := by rw [beq_iff_eq]; omega
                clear he
                go_wp2_with fail
                go_ret
                exact ⟨rfl, HB9.out⟩
              · have heb : (((nxF f.blocks at_).length : Int) == 0) = false := by rw [beq_eq_false_iff_ne]; omega
                by_cases hiy : i < ys.length
                · have hge : ¬ ((i : Int) ≥ (ys.length : Int)) := by omega
                  have hgb : decide ((i : Int) ≥ (ys.length : Int)) = false := decide_eq_false hge
                  obtain ⟨by_, oy, y, rfl, hy, hyc, hy64⟩ := (SInts.keep (kept_of_below HB9.out) HY.out).int hiy
                  have hi0 : (0 : Int) ≤ i := by omega
                  have hi1' : (i : Int) < (ys.length : Int) := by omega
                  clear hy
                  have hpl : 0 < (nxF f.blocks at_).length := by omega
                  have hy64' := hy64
                  unfold I64 at hy64'
                  by_cases hyn : y < 0
                  · obtain ⟨m, hm⟩ : ∃ m : Nat, y = -((m : Int) + 1) := ⟨(-(y + 1)).toNat, by omega⟩
                    subst hm
                    have hm : m ≤ 9223372036854775807 := by omega
                    go_upto_region 23 with fail
                    rw [show (-(-(((m : Nat) : Int) + 1) + 1)) = (m : Int) by omega]
                    clear hyn hyc hy64 hy64'
                    obtain ⟨k, hk⟩ : ∃ k, k = m % (nxF f.blocks at_).length := ⟨_, rfl⟩
                    have hkl : k < (nxF f.blocks at_).length := by rw [hk]; exact Nat.mod_lt _ hpl
                    have hE : (m : Int) % ((nxF f.blocks at_).length : Int) = (k : Int) := by rw [hk]; exact (Int.natCast_emod _ _).symm
                    obtain ⟨bl, ol, z, rfl, hz, hzc, -⟩ := HSL.out.int (k := k) (by rw [zs_len]; exact hkl)
                    obtain ⟨t, ht, rfl⟩ := zs_at hz.out
                    have HTM : Hid (t ∈ nxF f.blocks at_) := Lib.hid (List.mem_of_getElem? ht)
                    have HTN : Hid (t < f.blocks.length) := Lib.hid (nxF_lt f.blocks at_ t HTM.out)
                    have hk0 : (0 : Int) ≤ k := by omega
                    have hk1 : (k : Int) < ((nxF f.blocks at_).length : Int) := by omega
                    clear hk hz ht
                    go_wp2_with fail
                    go_roundg (61 - (i + 1))
                    case measure => omega
                    case rel => exact ⟨i + 1, t, mark S at_, by omega, rfl, HTN.out, rfl, by go_num, HBY.out.step HTM.out, HR9.out, HF9.out⟩
                  · obtain ⟨m, rfl⟩ : ∃ m : Nat, y = (m : Int) := ⟨y.toNat, by omega⟩
                    have hm : m ≤ 9223372036854775807 := by omega
                    have hyb : decide ((m : Int) < 0) = false := decide_eq_false hyn
                    go_upto_region 23 with fail
                    clear hyn hyc hy64 hy64'
                    obtain ⟨k, hk⟩ : ∃ k, k = m % (nxF f.blocks at_).length := ⟨_, rfl⟩
                    have hkl : k < (nxF f.blocks at_).length := by rw [hk]; exact Nat.mod_lt _ hpl
                    have hE : (m : Int) % ((nxF f.blocks at_).length : Int) = (k : Int) := by rw [hk]; exact (Int.natCast_emod _ _).symm
                    obtain ⟨bl, ol, z, rfl, hz, hzc, -⟩ := HSL.out.int (k := k) (by rw [zs_len]; exact hkl)
                    obtain ⟨t, ht, rfl⟩ := zs_at hz.out
                    have HTM : Hid (t ∈ nxF f.blocks at_) := Lib.hid (List.mem_of_getElem? ht)
                    have HTN : Hid (t < f.blocks.length) := Lib.hid (nxF_lt f.blocks at_ t HTM.out)
                    have hk0 : (0 : Int) ≤ k := by omega
                    have hk1 : (k : Int) < ((nxF f.blocks at_).length : Int) := by omega
                    clear hk hz ht
                    go_wp2_with fail
                    go_roundg (61 - (i + 1))
                    case measure => omega
                    case rel => exact ⟨i + 1, t, mark S at_, by omega, rfl, HTN.out, rfl, by go_num, HBY.out.step HTM.out, HR9.out, HF9.out⟩
                · have hge : ((i : Int) ≥ (ys.length : Int)) := by omega
                  have hgb : decide ((i : Int) ≥ (ys.length : Int)) = true := decide_eq_true hge
                  clear he
                  go_wp2_with fail
                  go_ret
                  exact ⟨rfl, HB9.out⟩
        · clear hby hr hfr
          by_cases h1 : i ≤ ys.length
          · have hl1 : ((i : Int) ≤ (ys.length : Int)) := by omega
            have hl2 : ¬ ((i : Int) < 60) := by omega
            have hl3 : decide ((i : Int) < 60) = false := decide_eq_false hl2
            clear hgo h1
            go_wp2_with fail
            go_ret
            exact ⟨rfl, HBF.out⟩
          · have hl1 : ¬ ((i : Int) ≤ (ys.length : Int)) := by omega
            have hl3 : decide ((i : Int) ≤ (ys.length : Int)) = false := decide_eq_false hl1
            clear hgo h1
            go_wp2_with fail
            go_ret
            exact ⟨rfl, HBF.out⟩
end Go.Proofs.Ytbhndfknjkeilaa
