/- The program's Trim. -/
import Derived.Test.YtooblmiffgjmjaaGrI
import Derived.Test.YtooblmiffgjmjaaLast
namespace Go.Proofs.Ytooblmiffgjmjaa
open Go.ChangeShapes Go.WideShapes Go.RowKit Go.Deep
set_option linter.unusedVariables false

theorem results_cell_tmp_ {P : Program} {fn : Func} {p u : Tmp} {ty : TypeId} (h : fn.results = #[.cell p ty, .tmp u]) (tmps : Array Value) (w : World) (g : Nat) (t : TypeId) (cs : Array Value) (fr : Nat × Nat) (d : TypeDesc)
    (hp : tmps.getD p undef = .pointer (some ⟨g, 0, none⟩)) (hg : w.heap[g]? = some (.cells cs t fr))
    (hu : P.underlying ty = some d) (hd : (match d with | .struct _ | .array _ _ => true | _ => false) = true) (hi : (P.info? ty).map (·.size) = some cs.size) :
    (results fn tmps).run P w = .ok (.tuple #[.agg cs, tmps.getD u undef]) w := by
  have hp' : tmps[p]?.getD undef = .pointer (some ⟨g, 0, none⟩) := by simpa using hp
  rw [results_cell_tmp h]
  simp [hp', asAddr, run_loadVar_row w g t ty cs fr d hg hu hd hi, Result.andThen]

/-- A row of elements grows by one; blocks from the base on are as they were. -/
theorem rows_grow2 {α : Type} {sz base : Nat} {F : (Nat → Prop) → World → α → List Value → Prop} (Fgo : ∀ (B B' : Nat → Prop) (w w' : World) (x : α) (cs : List Value), KeptB B w w' → (∀ b, B b → B' b) → F B w x cs → F B' w' x cs)
    {w wN : World} {u u' : Value} {l : List α} {cs : List Value} (h : Rows sz (F (BF base u w) w) l cs) (hk : ∀ b, base ≤ b → b < w.heap.size → some b ≠ u.ownBlock → wN.heap[b]? = w.heap[b]?)
    (hu : u'.ownBlock = u.ownBlock ∨ ∀ g, u'.ownBlock = some g → w.heap.size ≤ g) {x : α} {c : List Value} (hc : c.length = sz) (hx : F (BF base u' wN) wN x c) : Rows sz (F (BF base u' wN) wN) (l ++ [x]) (cs ++ c) :=
  Rows.snoc hx hc (h.imp fun y d hy => Fgo _ _ _ _ y d (fun a v hb ha => (World.cell?_of_block (hk a.block hb.1.1 hb.1.2.lt hb.2)).trans ha) (fun b hb => ⟨⟨hb.1.1, hb.1.2.same (hk b hb.1.1 hb.1.2.lt hb.2)⟩, fun e => by
    rcases hu with h | h
    · exact hb.2 (e.trans h)
    · have := h b e.symm; have := hb.1.2.lt; omega⟩) hy)
theorem rows_stay {α : Type} {sz base : Nat} {F : (Nat → Prop) → World → α → List Value → Prop} (Fgo : ∀ (B B' : Nat → Prop) (w w' : World) (x : α) (cs : List Value), KeptB B w w' → (∀ b, B b → B' b) → F B w x cs → F B' w' x cs)
    {w wN : World} {u : Value} {l : List α} {cs : List Value} (h : Rows sz (F (BF base u w) w) l cs) (hk : ∀ b, base ≤ b → b < w.heap.size → some b ≠ u.ownBlock → wN.heap[b]? = w.heap[b]?) : Rows sz (F (BF base u wN) wN) l cs :=
  h.imp fun y d hy => Fgo _ _ _ _ y d (fun a v hb ha => (World.cell?_of_block (hk a.block hb.1.1 hb.1.2.lt hb.2)).trans ha) (fun b hb => ⟨⟨hb.1.1, hb.1.2.same (hk b hb.1.1 hb.1.2.lt hb.2)⟩, hb.2⟩) hy
theorem cblk_go : ∀ (B B' : Nat → Prop) (w w' : World) (x : BlkD) (cs : List Value), KeptB B w w' → (∀ b, B b → B' b) → CBlk B w x cs → CBlk B' w' x cs := fun _ _ _ _ _ _ h1 h2 h3 => CBlk.go h1 h2 h3
theorem aheadL_in {bs : List BlkD} {i : Int} (hn : bs.length ≤ 1000000) : ∀ a ∈ aheadL bs i, 0 ≤ a ∧ a < bs.length := fun a ha => by
  have := aheadK_mem bs 0 i a ha
  simp at this
  omega
/-- What Trim tells. -/
def ToldTr (f : FunD) (w : World) (e : Ending) (w' : World) : Prop :=
  (∃ Ar cr Ab cb G, e = .returned (.tuple #[.agg #[.int .i64 f.params, .int .i64 f.result, .slice Ar f.regs.length cr, .slice Ab (blksT f.blocks).length cb], .slice (some ⟨G, 0, none⟩) f.blocks.length f.blocks.length]) ∧
    SL w' 1 (RIntB (BG w.heap.size w')) Ar cr f.regs ∧ SL w' 5 (RBlkB (BG w.heap.size w')) Ab cb (blksT f.blocks) ∧ w.heap.size ≤ G ∧ w'.rowIs G 3 f.blocks.length (fun i => .int .i64 (numB (reachF f.blocks) i)) ∧ I64 f.params ∧ I64 f.result) ∧ Below w.heap.size w w'

set_option maxRecDepth 100000 in
set_option maxHeartbeats 16000000 in
theorem trim_any (f : FunD) (v : Value) (w : World) (hv : VFun w v f) (hsm : SmallF f) : Calls Try.prog 11 #[v] w (ToldTr f w) := by
  have hv0 := hv
  obtain ⟨Ar, cr, A, c, rfl, hr, hb, hp64, hr64⟩ := hv
  have hn := hsm.1
  have hrl := hsm.2.1
  have HV := Lib.hid hv0
  have HRS := Lib.hid hr
  have HBS := Lib.hid hb
  have HP := Lib.hid hp64
  have HR := Lib.hid hr64
  have HSM := Lib.hid hsm
  have hbl := hb.len
  obtain ⟨i5, p1, p2, p3, p4⟩ := info_parts Try.info49
  have HI := Lib.hid (And.intro p1 (And.intro p2 (And.intro p3 p4)))
  clear p1 p2 p3 p4 hv0 hr hb hp64 hr64 hsm
  go_enter Try.func11, Try.ntmps11
  go_upto_region 1 with fail
  obtain ⟨w1, hw1, hs1, hk1, hb1, hc1, -⟩ := named w #[.int .i64 f.params, .int .i64 f.result, .slice Ar f.regs.length cr, .slice A f.blocks.length c] 25
  obtain ⟨w2, hw2, hs2, hk2, hb2, hc2, -⟩ := named w1 #[.int .i64 0, .int .i64 0, .slice none 0 0, .slice none 0 0] 25
  have hbx : w2.heap[w.heap.size]? = some (.cells #[.int .i64 f.params, .int .i64 f.result, .slice Ar f.regs.length cr, .slice A f.blocks.length c] 25 (0, 0)) := by rw [hw2, hw1]; exact row_new2 w _ _
  have hby : w2.heap[w.heap.size + 1]? = some (.cells #[.int .i64 0, .int .i64 0, .slice none 0 0, .slice none 0 0] 25 (0, 0)) := by rw [hw2, hw1]; exact row_new3 w _ _
  rw [← hw1, ← hw2]
  have HB2 : Hid (Below w.heap.size w w2) := Lib.hid (hb1.trans (hb2.mono (by omega)))
  have hz2 : w2.heap.size = w.heap.size + 2 := by omega
  obtain ⟨N, hN⟩ : ∃ N, N = w.heap.size := ⟨_, rfl⟩
  rw [← hN] at hbx hby hz2 ⊢
  have HN := Lib.hid hN
  have c0 := cell_of_block hbx 0
  have c1 := cell_of_block hbx 1
  have c2 := cell_of_block hbx 2
  have c3 := cell_of_block hbx 3
  have HBX := Lib.hid hbx
  have HBY := Lib.hid hby
  have hzN : N + 1 < w2.heap.size := by omega
  clear hw1 hw2 hs1 hs2 hk1 hk2 hb1 hb2 hc1 hc2 hbx hby hN hz2
  go_wp2_with fail
  refine (reached_any f _ w2 (VFun.keep (kept_of_below HB2.out) HV.out) (by omega)).mono ?_
  rintro e w3 ⟨⟨H, rfl, hH, hrow⟩, hb3⟩
  have HB3 : Hid (Below w.heap.size w w3) := Lib.hid (HB2.out.trans (hb3.mono HB2.out.size))
  have HBX3 := Lib.hid ((hb3.block N (by omega)).trans HBX.out)
  have HBY3 := Lib.hid ((hb3.block (N + 1) (by omega)).trans HBY.out)
  have hz3 : N + 1 < w3.heap.size := by have := hb3.size; omega
  have HH : Hid (N + 1 < H) := Lib.hid (by omega)
  have HROW := Lib.hid hrow
  clear hb3 hrow hH c0 c1 c2 c3 HBX HBY hzN
  go_wp2_with fail
  refine (numbersOf_any H f.blocks.length (reachF f.blocks) w3 HROW.out (by omega)).mono ?_
  rintro e w4 ⟨⟨Gm, rfl, hGm, hnum⟩, hb4⟩
  have HB4 : Hid (Below w.heap.size w w4) := Lib.hid (HB3.out.trans (hb4.mono HB3.out.size))
  have hbx4 := (hb4.block N (by omega)).trans HBX3.out
  have HBX4 := Lib.hid hbx4
  have HBY4 := Lib.hid ((hb4.block (N + 1) (by omega)).trans HBY3.out)
  have HROW4 := Lib.hid (HROW.out.of_block (hb4.block H HROW.out.lt))
  have HNUM := Lib.hid hnum
  have HGM : Hid (N + 1 < Gm) := Lib.hid (by omega)
  have hz4 : N + 1 < w4.heap.size := by have := hb4.size; omega
  have c0 := cell_of_block hbx4 0
  have c1 := cell_of_block hbx4 1
  have c2 := cell_of_block hbx4 2
  have c3 := cell_of_block hbx4 3
  clear hb4 hbx4 hnum hGm HBX3 HBY3 HROW hz3
  go_wp2_with fail
  refine (aheadOf_any f _ w4 (VFun.keep (kept_of_below HB4.out) HV.out) (by omega)).mono ?_
  rintro e w5 ⟨⟨Va, Ga, Ka, rfl, hGa, hah⟩, hb5⟩
  have HB5 : Hid (Below w.heap.size w w5) := Lib.hid (HB4.out.trans (hb5.mono HB4.out.size))
  have hbx5 := (hb5.block N (by omega)).trans HBX4.out
  have HBX5 := Lib.hid hbx5
  have HBY5 := Lib.hid ((hb5.block (N + 1) (by omega)).trans HBY4.out)
  have HROW5 := Lib.hid (HROW4.out.of_block (hb5.block H HROW4.out.lt))
  have HNUM5 := Lib.hid (HNUM.out.of_block (hb5.block Gm HNUM.out.lt))
  have HAH := Lib.hid hah
  have hz5 : N + 1 < w5.heap.size := by have := hb5.size; omega
  clear c0 c1 c2 c3
  have c0 := cell_of_block hbx5 0
  have c1 := cell_of_block hbx5 1
  have c2 := cell_of_block hbx5 2
  have c3 := cell_of_block hbx5 3
  clear hb5 hbx5 hah hGa HBX4 HBY4 HROW4 HNUM hz4
  go_upto_region 5 with fail
  obtain ⟨w6, hw6, hs6, hk6, hb6, hc6, hf6⟩ := named w5 #[.int .i64 f.params, .int .i64 f.result, .slice Ar f.regs.length cr, .slice A f.blocks.length c] 25
  have hg6 : w6.heap[w5.heap.size]? = some (.cells #[.int .i64 f.params, .int .i64 f.result, .slice Ar f.regs.length cr, .slice A f.blocks.length c] 25 (0, 0)) := by rw [hw6]; exact heap_alloc_new _ _
  rw [← hw6]
  have HB6 : Hid (Below w.heap.size w w6) := Lib.hid (HB5.out.trans (hb6.mono HB5.out.size))
  obtain ⟨Gg, hGg⟩ : ∃ Gg, Gg = w5.heap.size := ⟨_, rfl⟩
  rw [← hGg] at hg6 hs6 hz5 ⊢
  have hbx6 := (hb6.block N (by omega)).trans HBX5.out
  have HBX6 := Lib.hid hbx6
  have HBY6 := Lib.hid ((hb6.block (N + 1) (by omega)).trans HBY5.out)
  have HROW6 := Lib.hid (HROW5.out.of_block (hb6.block H HROW5.out.lt))
  have HNUM6 := Lib.hid (HNUM5.out.of_block (hb6.block Gm HNUM5.out.lt))
  have HAH6 := Lib.hid (HAH.out.below hb6)
  have HLTS : Hid (H < Gg ∧ Gm < Gg ∧ Ga < Gg ∧ ∀ i, i < f.blocks.length → ∀ g, (Va i).ownBlock = some g → g < Gg) := Lib.hid ⟨by rw [hGg]; exact HROW5.out.lt, by rw [hGg]; exact HNUM5.out.lt, by rw [hGg]; exact HAH.out.row.lt, fun i hi g hg => by rw [hGg]; exact ((HAH.out.own i hi).lt g hg).2⟩
  have HG6 := Lib.hid hg6
  clear c0 c1 c3
  have c2 := cell_of_block hbx6 2
  have HGG := Lib.hid hGg
  clear hw6 hk6 hb6 hc6 hf6 hg6 hbx6 hGg HBX5 HBY5 HROW5 HNUM5 HAH
  go_wp2_with fail
  refine (cloneInts_any f.regs _ w6 ⟨Ar, cr, rfl, SInts.keep (kept_of_below HB6.out) HRS.out⟩ (by omega)).mono ?_
  rintro e w7 ⟨⟨vr, rfl, hvr⟩, hb7⟩
  have hrg64 : ∀ x ∈ f.regs, I64 x := fun x hx => by
    obtain ⟨i, hi⟩ := List.getElem?_of_mem hx
    obtain ⟨_, _, h3⟩ := HRS.out
    obtain ⟨b, o, e, hr⟩ := h3 (by have := (List.getElem?_eq_some_iff.1 hi).1; omega)
    exact (hr i x hi).2
  obtain ⟨Ar2, cr2, rfl, hrs2⟩ := slG_of_own hvr hrg64 (Nat.le_refl _)
  have hg7 := (hb7.block Gg (by omega)).trans HG6.out
  have g2 := cell_of_block hg7 2
  have g3 := cell_of_block hg7 3
  have gf2 := free_of_block hg7 2
  have gf3 := free_of_block hg7 3
  have hg8 := set_of_block (i := 3) (.slice none 0 0) (set_of_block (i := 2) (.slice Ar2 f.regs.length cr2) hg7)
  have hoth : ∀ y, y ≠ Gg → ((w7.setCell ⟨Gg, 2, none⟩ (.slice Ar2 f.regs.length cr2)).setCell ⟨Gg, 3, none⟩ (.slice none 0 0)).heap[y]? = w7.heap[y]? := fun y hy => (Below.heap_setCell _ _ _ _ hy).trans (Below.heap_setCell _ _ _ _ hy)
  have HB8 : Hid (Below w.heap.size w ((w7.setCell ⟨Gg, 2, none⟩ (.slice Ar2 f.regs.length cr2)).setCell ⟨Gg, 3, none⟩ (.slice none 0 0))) := Lib.hid (((HB6.out.trans (hb7.mono HB6.out.size)).setCell (by show w.heap.size ≤ Gg; rw [HGG.out]; exact HB5.out.size) _).setCell (by show w.heap.size ≤ Gg; rw [HGG.out]; exact HB5.out.size) _)
  have hold : ∀ y, y < w6.heap.size → y ≠ Gg → ((w7.setCell ⟨Gg, 2, none⟩ (.slice Ar2 f.regs.length cr2)).setCell ⟨Gg, 3, none⟩ (.slice none 0 0)).heap[y]? = w6.heap[y]? := fun y h1 h2 => (hoth y h2).trans (hb7.block y h1)
  have hz8 : w6.heap.size ≤ ((w7.setCell ⟨Gg, 2, none⟩ (.slice Ar2 f.regs.length cr2)).setCell ⟨Gg, 3, none⟩ (.slice none 0 0)).heap.size := by have := hb7.size; simpa using this
  have HRG8 : Hid (SL ((w7.setCell ⟨Gg, 2, none⟩ (.slice Ar2 f.regs.length cr2)).setCell ⟨Gg, 3, none⟩ (.slice none 0 0)) 1 (RIntB (BG w6.heap.size ((w7.setCell ⟨Gg, 2, none⟩ (.slice Ar2 f.regs.length cr2)).setCell ⟨Gg, 3, none⟩ (.slice none 0 0)))) Ar2 cr2 f.regs) := Lib.hid
    (SIntsB.go (B := BG w6.heap.size w7) (fun a v hb ha => (World.cell?_of_block (hoth a.block (by have := hb.1; omega))).trans ha) (fun b hb => ⟨hb.1, (hb.2.set _ _ _).set _ _ _⟩) hrs2)
  have lts := HLTS.out
  have HBX8 := Lib.hid ((hold N (by omega) (by omega)).trans HBX6.out)
  have HBY8 := Lib.hid ((hold (N + 1) (by omega) (by omega)).trans HBY6.out)
  have HROW8 := Lib.hid (HROW6.out.of_block (hold H (by omega) (by omega)))
  have HNUM8 := Lib.hid (HNUM6.out.of_block (hold Gm (by omega) (by omega)))
  have HAR8 : Hid (((w7.setCell ⟨Gg, 2, none⟩ (.slice Ar2 f.regs.length cr2)).setCell ⟨Gg, 3, none⟩ (.slice none 0 0)).rowIs Ga 22 f.blocks.length Va) := Lib.hid (HAH6.out.row.of_block (hold Ga (by omega) (by omega)))
  have HAO8 : Hid (∀ i, i < f.blocks.length → ((w7.setCell ⟨Gg, 2, none⟩ (.slice Ar2 f.regs.length cr2)).setCell ⟨Gg, 3, none⟩ (.slice none 0 0)).ownsRow Ka 3 1 (Va i) (aheadL f.blocks i).length ((aheadL f.blocks i).map (Value.int .i64))) := Lib.hid (fun i hi =>
    ownsRow_block (HAH6.out.own i hi) (fun g hg => hold g (by have := lts.2.2.2 i hi g hg; omega) (by have := lts.2.2.2 i hi g hg; omega)))
  have HG8 := Lib.hid hg8
  clear hvr hb7 hrg64 hrs2 hg7 hg8 hoth hold lts c2 HBX6 HBY6 HROW6 HNUM6 HAH6 HG6
  go_upto_region 6 with fail
  clear g2 g3 gf2 gf3
  generalize (w7.setCell ⟨Gg, 2, none⟩ (.slice Ar2 f.regs.length cr2)).setCell ⟨Gg, 3, none⟩ (.slice none 0 0) = w8 at *
  have c3 := cell_of_block HBX8.out 3
  have HS6 : Hid (w6.heap.size = Gg + 1) := Lib.hid hs6
  have hz8' : Gg < w8.heap.size := by omega
  clear hs6 hz8
  have hMN : N + 1 < w8.heap.size := by omega
  go_wp2_with fail
  go_loopw [25] (fun i wr => ∃ (k : Nat) (u : Value) (cs : List Value), k ≤ f.blocks.length ∧ i = .int .i64 k ∧ BB w8.heap.size Gg w8 wr ∧ wr.heap[Gg]? = some (.cells #[.int .i64 f.params, .int .i64 f.result, .slice Ar2 f.regs.length cr2, u] 25 (0, 0)) ∧
    wr.ownsRow w8.heap.size 49 5 u (blksK f.blocks (reachF f.blocks) k).length cs ∧ Rows 5 (CBlk (BF w8.heap.size u wr) wr) (blksK f.blocks (reachF f.blocks) k) cs) (fun i _ => f.blocks.length - (intOf i).toNat)
  case atStart => exact ⟨0, .slice none 0 0, [], Nat.zero_le _, rfl, BB.refl _ _ _, HG8.out, by rw [blksK_zero]; exact World.ownsRow_nil _ _ _ _, by rw [blksK_zero]; rfl⟩
  case round =>
    obtain ⟨k, u, cs, hk, rfl, hbb, hgg, hown, hrows⟩ := hrel
    have hzr := hbb.size
    have hNw := HN.out
    have HBR : Hid (Below w.heap.size w wr) := Lib.hid (HB8.out.trans (hbb.below (by omega) (by omega)))
    clear hNw
    have HBB := Lib.hid hbb
    have HGG := Lib.hid hgg
    have HOW := Lib.hid hown
    have HRW := Lib.hid hrows
    have lts := HLTS.out
    have HAR := Lib.hid (HAR8.out.of_block (hbb.block Ga (by omega) (by omega)))
    have HRO := Lib.hid (HROW8.out.of_block (hbb.block H (by omega) (by omega)))
    have HNU := Lib.hid (HNUM8.out.of_block (hbb.block Gm (by omega) (by omega)))
    have HAO : Hid (∀ i, i < f.blocks.length → wr.ownsRow Ka 3 1 (Va i) (aheadL f.blocks i).length ((aheadL f.blocks i).map (Value.int .i64))) := Lib.hid (fun i hi => ownsRow_block (HAO8.out i hi) (fun g hg => hbb.block g (by have := lts.2.2.2 i hi g hg; omega) (by have := lts.2.2.2 i hi g hg; omega)))
    have c3r : wr.cell? ⟨N, 3, none⟩ = some (.slice A f.blocks.length c) := (World.cell?_of_block (a := ⟨N, 3, none⟩) (hbb.block N (by omega) (by omega))).trans c3
    clear hgg hrows lts
    by_cases hlt : k < f.blocks.length
    · obtain ⟨b, o, kb, rfl, hkb, ⟨Ap, cp, hphi, hphis⟩, ⟨Ai, ci, hins, hinss⟩, ⟨hkd, hkd64⟩, ⟨har, har64⟩, ⟨At, ct, hto, htos⟩⟩ := (SBlks.keep (kept_of_below HBR.out) HBS.out).at_ hlt
      have HSB := Lib.hid (HSM.out.2.2.2 kb (List.mem_of_getElem? hkb.out))
      obtain ⟨w9, hw9, hs9, hk9, hb9, hc9, -⟩ := named wr #[.slice Ap kb.phis.length cp, .slice Ai kb.ins.length ci, .int .i64 kb.term.kind, .int .i64 kb.term.arg, .slice At kb.term.to.length ct] 49
      have hSUC := blksK_succ (r := reachF f.blocks) hkb.out
      have HSUC := Lib.hid hSUC
      have hb9' := hb9
      have HB9 := Lib.hid hb9
      have hrc := (HRO.out.of_block (hb9.block H HRO.out.lt)).cell hlt
      have hpl := hphis.len
      have hil := hinss.len
      have htl := htos.len
      clear hbb hown hSUC
      go_upto_region 9 with fail
      rw [← hw9]
      have x0 := hc9 0 _ rfl
      have x1 := hc9 1 _ rfl
      have x2 := hc9 2 _ rfl
      have x3 := hc9 3 _ rfl
      have x4 := hc9 4 _ rfl
      clear hw9 hc9 hphi hins hkd har hto c3r hb9 hb9'
      obtain ⟨P, hP⟩ : ∃ P, P = wr.heap.size := ⟨_, rfl⟩
      rw [← hP] at x0 x1 x2 x3 x4 hs9 ⊢
      have HPP := Lib.hid hP
      have hzP : w8.heap.size ≤ P := by omega
      have HZ9 := Lib.hid hs9
      have hz9 : P < w9.heap.size := by omega
      clear hP hs9 hzr
      cases hrk : reachF f.blocks k
      · rw [hrk] at hrc
        have HSU : Hid (blksK f.blocks (reachF f.blocks) (k + 1) = blksK f.blocks (reachF f.blocks) k) := Lib.hid (by rw [HSUC.out, hrk]; simp)
        have HRN := Lib.hid (rows_stay (F := CBlk) cblk_go HRW.out (wN := w9) (fun b _ hb _ => HB9.out.block b hb))
        clear hrk x0 x1 x2 x3 x4 hphis hinss htos hk9
        go_wp2_with fail
        go_roundw
        case rel => exact ⟨k + 1, u, cs, by omega, by go_num, HBB.out.trans (BB.of_below HB9.out (by have := HPP.out; omega)), (HB9.out.block Gg (by have := HPP.out; omega)).trans HGG.out, by rw [HSU.out]; exact ownsRow_block HOW.out (fun g hg => HB9.out.block g (HOW.out.lt g hg).2), by rw [HSU.out]; exact HRN.out⟩
        case measure => simp [intOf]; omega
      · rw [hrk] at hrc
        have HSU : Hid (blksK f.blocks (reachF f.blocks) (k + 1) = blksK f.blocks (reachF f.blocks) k ++ [blkT f.blocks (reachF f.blocks) k kb]) := Lib.hid (by rw [HSUC.out, hrk]; simp)
        clear hrk
        obtain ⟨Aa, ca, hva, has⟩ := vs_of_own (HAO.out k hlt) (aheadL_i64 f.blocks k (by omega))
        have hac := (HAR.out.of_block (HB9.out.block Ga HAR.out.lt)).cell hlt
        rw [hva] at hac
        have hGgr : Gg < wr.heap.size := block_lt HGG.out
        have hgg9 := (HB9.out.block Gg hGgr).trans HGG.out
        have hgc := cell_of_block hgg9 3
        have hunG : some Gg ≠ u.ownBlock := fun e => by have := (HOW.out.lt Gg e.symm).1; omega
        have hunP : some P ≠ u.ownBlock := fun e => by have := (HOW.out.lt P e.symm).2; have := HPP.out; omega
        have hGa : Ga < wr.heap.size := HAR.out.lt
        have hunA : some Ga ≠ u.ownBlock := fun e => by have := (HOW.out.lt Ga e.symm).1; have := HLTS.out.2.2.1; omega
        have hGar : Ga < w9.heap.size := by have := HB9.out.size; omega
        have hGg9 : Gg < w9.heap.size := by have := HB9.out.size; omega
        have hS : ∀ w' : World, (∀ b, b < w9.heap.size → some b ≠ u.ownBlock → w'.heap[b]? = w9.heap[b]?) → w'.cell? ⟨Gg, 3, none⟩ = some u ∧ w'.cell? ⟨P, 0, none⟩ = some (.slice Ap kb.phis.length cp) ∧ w'.cell? ⟨P, 1, none⟩ = some (.slice Ai kb.ins.length ci) ∧
            w'.cell? ⟨P, 2, none⟩ = some (.int .i64 kb.term.kind) ∧ w'.cell? ⟨P, 3, none⟩ = some (.int .i64 kb.term.arg) ∧ w'.cell? ⟨P, 4, none⟩ = some (.slice At kb.term.to.length ct) ∧ w'.cell? ⟨Ga, k, none⟩ = some (.slice Aa (aheadL f.blocks k).length ca) :=
          fun w' h => ⟨(World.cell?_of_block (a := ⟨Gg, 3, none⟩) (h Gg hGg9 hunG)).trans hgc, (World.cell?_of_block (a := ⟨P, 0, none⟩) (h P hz9 hunP)).trans x0, (World.cell?_of_block (a := ⟨P, 1, none⟩) (h P hz9 hunP)).trans x1, (World.cell?_of_block (a := ⟨P, 2, none⟩) (h P hz9 hunP)).trans x2,
            (World.cell?_of_block (a := ⟨P, 3, none⟩) (h P hz9 hunP)).trans x3, (World.cell?_of_block (a := ⟨P, 4, none⟩) (h P hz9 hunP)).trans x4, (World.cell?_of_block (a := ⟨Ga, k, none⟩) (h Ga hGar hunA)).trans hac⟩
        have HS := Lib.hid hS
        have HGF : Hid (∀ w' : World, (∀ b, b < w9.heap.size → some b ≠ u.ownBlock → w'.heap[b]? = w9.heap[b]?) → w'.frozen? ⟨Gg, 3, none⟩ = false) := Lib.hid (fun w' h => free_of_block ((h Gg hGg9 hunG).trans hgg9) 3)
        have HGG9 := Lib.hid hgg9
        have HK9 : Hid (Kept w w9) := Lib.hid (kept_of_below (HBR.out.trans (HB9.out.mono HBR.out.size)))
        have HPH := Lib.hid (phisOf_any H f.blocks.length (reachF f.blocks) kb.phis (aheadL f.blocks k) (.slice Ap kb.phis.length cp) (.slice Aa (aheadL f.blocks k).length ca) w9.drew (HRO.out.of_block (HB9.out.block H HRO.out.lt)) ⟨Ap, cp, rfl, SPhis.keep hk9 hphis⟩
          ⟨Aa, ca, rfl, SInts.keep (kept_of_below HB9.out) has⟩ (aheadL_in (by omega)) (by have := HSB.out.2.1; omega) (fun p hp => by have := HSB.out.2.2.2.2 p hp; omega))
        have HINS : Hid (SL w9 5 RIns Ai ci kb.ins) := Lib.hid (SInss.keep hk9 hinss)
        have HTO : Hid (VTerm w9 (.agg #[.int .i64 kb.term.kind, .int .i64 kb.term.arg, .slice At kb.term.to.length ct]) kb.term) := Lib.hid ⟨At, ct, rfl, SInts.keep hk9 htos, hkd64, har64⟩
        have HT64 : Hid (∀ x ∈ kb.term.to.map (toT (reachF f.blocks) f.blocks.length), I64 x) := Lib.hid (fun x hx => by
          obtain ⟨y, hy, rfl⟩ := List.mem_map.1 hx
          obtain ⟨i, hi⟩ := List.getElem?_of_mem hy
          obtain ⟨_, _, h3⟩ := htos
          obtain ⟨b', o', e, hr⟩ := h3 (by have := (List.getElem?_eq_some_iff.1 hi).1; omega)
          have h64 := (hr i y hi).2
          unfold toT
          split
          · exact numB_i64 _ (by omega)
          · exact h64)
        have HNU9 := Lib.hid (HNU.out.of_block (HB9.out.block Gm HNU.out.lt))
        have hmn : (blksK f.blocks (reachF f.blocks) k).length ≤ 70 := by
          have h1 : (blksK f.blocks (reachF f.blocks) k).length ≤ k := by
            unfold blksK
            refine Nat.le_trans (List.length_filterMap_le _ _) ?_
            simp; omega
          omega
        clear hS hac hgc hgg9 x0 x1 x2 x3 x4 hva has hunG hunP hunA hphis hinss htos hkd64 har64 hk9 hGgr hGa hGar hGg9
        go_upto_region 10 with fail
        clear hrc
        generalize hMK : (blksK f.blocks (reachF f.blocks) k).length = mk at *
        refine wp_region_last (L := 21) (S := fun w' => w'.cell? ⟨Gg, 3, none⟩ = some u ∧ w'.cell? ⟨P, 0, none⟩ = some (.slice Ap kb.phis.length cp) ∧ w'.cell? ⟨P, 1, none⟩ = some (.slice Ai kb.ins.length ci) ∧ w'.cell? ⟨P, 2, none⟩ = some (.int .i64 kb.term.kind) ∧ w'.cell? ⟨P, 3, none⟩ = some (.int .i64 kb.term.arg) ∧ w'.cell? ⟨P, 4, none⟩ = some (.slice At kb.term.to.length ct) ∧ w'.cell? ⟨Ga, k, none⟩ = some (.slice Aa (aheadL f.blocks k).length ca)) (by kernel_rfl) (by rfl) (by kernel_rfl) (by kernel_rfl) ?_
        change wpAnyH _ _ _ _ _ _ _ _ (World.drew _)
        have hk0 : (0 : Int) ≤ k := by omega
        have hk1 : (k : Int) < f.blocks.length := by omega
        have hS0 := HS.out w9.drew (fun _ _ _ => rfl)
        refine takeH (i := 0) (some 34) (v := ?_) rfl (by kernel_rfl) (by kernel_rfl) (by kernel_rfl) (fun _ _ _ h => h) hS0 (fun o ho => ?_) ?_
        rotate_left
        · simp only [List.getElem?_toArray, List.getElem?_cons_zero, Option.some.injEq] at ho; subst ho; refine Or.inl ⟨by rfl, fun w' hSw => ?_⟩; (try dsimp only at hSw); go_simp; try with_reducible rfl
        simp only [Act.put, List.setIfInBounds_toArray, List.set_cons_zero, List.set_cons_succ]
        refine takeH (i := 1) (some 35) (v := ?_) rfl (by kernel_rfl) (by kernel_rfl) (by kernel_rfl) (fun _ _ _ h => h) hS0 (fun o ho => ?_) ?_
        rotate_left
        · simp only [List.getElem?_toArray, List.getElem?_cons_zero, List.getElem?_cons_succ, Option.some.injEq] at ho; subst ho; refine Or.inl ⟨by rfl, fun w' hSw => ?_⟩; (try dsimp only at hSw); go_simp; try with_reducible rfl
        simp only [Act.put, List.setIfInBounds_toArray, List.set_cons_zero, List.set_cons_succ]
        refine takeH (i := 2) (some 36) (v := ?_) rfl (by kernel_rfl) (by kernel_rfl) (by kernel_rfl) (fun _ _ _ h => h) hS0 (fun o ho => ?_) ?_
        rotate_left
        · simp only [List.getElem?_toArray, List.getElem?_cons_zero, List.getElem?_cons_succ, Option.some.injEq] at ho; subst ho; refine Or.inl ⟨by rfl, fun w' hSw => ?_⟩; (try dsimp only at hSw); go_simp; try with_reducible rfl
        simp only [Act.put, List.setIfInBounds_toArray, List.set_cons_zero, List.set_cons_succ]
        refine takeH (i := 3) (some 37) (v := ?_) rfl (by kernel_rfl) (by kernel_rfl) (by kernel_rfl) (fun _ _ _ h => h) hS0 (fun o ho => ?_) ?_
        rotate_left
        · simp only [List.getElem?_toArray, List.getElem?_cons_zero, List.getElem?_cons_succ, Option.some.injEq] at ho; subst ho; refine Or.inl ⟨by rfl, fun w' hSw => ?_⟩; (try dsimp only at hSw); go_simp; try with_reducible rfl
        simp only [Act.put, List.setIfInBounds_toArray, List.set_cons_zero, List.set_cons_succ]
        refine takeH (i := 4) (some 38) (v := ?_) rfl (by kernel_rfl) (by kernel_rfl) (by kernel_rfl) (fun _ _ _ h => h) hS0 (fun o ho => ?_) ?_
        rotate_left
        · simp only [List.getElem?_toArray, List.getElem?_cons_zero, List.getElem?_cons_succ, Option.some.injEq] at ho; subst ho; refine Or.inl ⟨by rfl, fun w' hSw => ?_⟩; (try dsimp only at hSw); go_simp; try with_reducible rfl
        simp only [Act.put, List.setIfInBounds_toArray, List.set_cons_zero, List.set_cons_succ]
        refine takeH (i := 5) (some 39) (v := ?_) rfl (by kernel_rfl) (by kernel_rfl) (by kernel_rfl) (fun _ _ _ h => h) hS0 (fun o ho => ?_) ?_
        rotate_left
        · simp only [List.getElem?_toArray, List.getElem?_cons_zero, List.getElem?_cons_succ, Option.some.injEq] at ho; subst ho; refine Or.inl ⟨by rfl, fun w' hSw => ?_⟩; (try dsimp only at hSw); go_simp; try with_reducible rfl
        simp only [Act.put, List.setIfInBounds_toArray, List.set_cons_zero, List.set_cons_succ]
        refine takeH (i := 6) (some 40) (v := ?_) rfl (by kernel_rfl) (by kernel_rfl) (by kernel_rfl) (fun _ _ _ h => h) hS0 (fun o ho => ?_) ?_
        rotate_left
        · simp only [List.getElem?_toArray, List.getElem?_cons_zero, List.getElem?_cons_succ, Option.some.injEq] at ho; subst ho; refine Or.inl ⟨by rfl, fun w' hSw => ?_⟩; (try dsimp only at hSw); go_simp; try with_reducible rfl
        simp only [Act.put, List.setIfInBounds_toArray, List.set_cons_zero, List.set_cons_succ]
        refine takeH (i := 7) (some 41) (v := ?_) rfl (by kernel_rfl) (by kernel_rfl) (by kernel_rfl) (fun _ _ _ h => h) hS0 (fun o ho => ?_) ?_
        rotate_left
        · simp only [List.getElem?_toArray, List.getElem?_cons_zero, List.getElem?_cons_succ, Option.some.injEq] at ho; subst ho; refine Or.inl ⟨by rfl, fun w' hSw => ?_⟩; (try dsimp only at hSw); go_simp; try with_reducible rfl
        simp only [Act.put, List.setIfInBounds_toArray, List.set_cons_zero, List.set_cons_succ]
        refine takeH (i := 8) (some 42) (v := ?_) rfl (by kernel_rfl) (by kernel_rfl) (by kernel_rfl) (fun _ _ _ h => h) hS0 (fun o ho => ?_) ?_
        rotate_left
        · simp only [List.getElem?_toArray, List.getElem?_cons_zero, List.getElem?_cons_succ, Option.some.injEq] at ho; subst ho; refine Or.inl ⟨by rfl, fun w' hSw => ?_⟩; (try dsimp only at hSw); go_simp; try with_reducible rfl
        simp only [Act.put, List.setIfInBounds_toArray, List.set_cons_zero, List.set_cons_succ]
        refine takeH (i := 10) (some 44) (v := ?_) rfl (by kernel_rfl) (by kernel_rfl) (by kernel_rfl) (fun _ _ _ h => h) hS0 (fun o ho => ?_) ?_
        rotate_left
        · simp only [List.getElem?_toArray, List.getElem?_cons_zero, List.getElem?_cons_succ, Option.some.injEq] at ho; subst ho; refine Or.inl ⟨by rfl, fun w' hSw => ?_⟩; (try dsimp only at hSw); go_simp; try with_reducible rfl
        simp only [Act.put, List.setIfInBounds_toArray, List.set_cons_zero, List.set_cons_succ]
        refine takeH (i := 11) (some 45) (v := ?_) rfl (by kernel_rfl) (by kernel_rfl) (by kernel_rfl) (fun _ _ _ h => h) hS0 (fun o ho => ?_) ?_
        rotate_left
        · simp only [List.getElem?_toArray, List.getElem?_cons_zero, List.getElem?_cons_succ, Option.some.injEq] at ho; subst ho; refine Or.inl ⟨by rfl, fun w' hSw => ?_⟩; (try dsimp only at hSw); go_simp; try with_reducible rfl
        simp only [Act.put, List.setIfInBounds_toArray, List.set_cons_zero, List.set_cons_succ]
        refine takeH (i := 13) (some 47) (v := ?_) rfl (by kernel_rfl) (by kernel_rfl) (by kernel_rfl) (fun _ _ _ h => h) hS0 (fun o ho => ?_) ?_
        rotate_left
        · simp only [List.getElem?_toArray, List.getElem?_cons_zero, List.getElem?_cons_succ, Option.some.injEq] at ho; subst ho; refine Or.inl ⟨by rfl, fun w' hSw => ?_⟩; (try dsimp only at hSw); go_simp; try with_reducible rfl
        simp only [Act.put, List.setIfInBounds_toArray, List.set_cons_zero, List.set_cons_succ]
        refine takeH (i := 14) (some 48) (v := ?_) rfl (by kernel_rfl) (by kernel_rfl) (by kernel_rfl) (fun _ _ _ h => h) hS0 (fun o ho => ?_) ?_
        rotate_left
        · simp only [List.getElem?_toArray, List.getElem?_cons_zero, List.getElem?_cons_succ, Option.some.injEq] at ho; subst ho; refine Or.inl ⟨by rfl, fun w' hSw => ?_⟩; (try dsimp only at hSw); go_simp; try with_reducible rfl
        simp only [Act.put, List.setIfInBounds_toArray, List.set_cons_zero, List.set_cons_succ]
        refine takeH (i := 15) (some 49) (v := ?_) rfl (by kernel_rfl) (by kernel_rfl) (by kernel_rfl) (fun _ _ _ h => h) hS0 (fun o ho => ?_) ?_
        rotate_left
        · simp only [List.getElem?_toArray, List.getElem?_cons_zero, List.getElem?_cons_succ, Option.some.injEq] at ho; subst ho; refine Or.inl ⟨by rfl, fun w' hSw => ?_⟩; (try dsimp only at hSw); go_simp; try with_reducible rfl
        simp only [Act.put, List.setIfInBounds_toArray, List.set_cons_zero, List.set_cons_succ]
        refine oneH (i := 9) (by kernel_rfl) (fun o ho K hK => ?_)
        simp only [List.getElem?_toArray, List.getElem?_cons_zero, List.getElem?_cons_succ, Option.some.injEq] at ho; subst ho
        go_simp
        refine HPH.out.mono ?_
        rintro e w10 ⟨⟨A1, d1, rfl, hs1⟩, hb10⟩
        have HB10 : Hid (Below w9.heap.size w9 w10) := Lib.hid ((Below.refl w9.heap.size w9).drew.trans hb10)
        have HS1 : Hid (SL w10 2 (RPhiB (BG w9.heap.size w10)) A1 d1 (kb.phis.map (phiT (reachF f.blocks) (aheadL f.blocks k)))) := Lib.hid hs1
        have HK10 : Hid (∀ b, b < w9.heap.size → some b ≠ u.ownBlock → w10.heap[b]? = w9.heap[b]?) := Lib.hid (fun b h1 _ => HB10.out.block b h1)
        have HINS10 := Lib.hid (insOf_any kb.ins (.slice Ai kb.ins.length ci) w10 ⟨Ai, ci, rfl, SInss.keep (kept_of_below HB10.out) HINS.out⟩ (by have := HSB.out.1; omega) (fun x hx => by have := HSB.out.2.2.2.1 x hx; omega))
        clear hs1 hb10
        go_wp2_with fail
        refine hK.out _ _ (HS.out _ HK10.out) ?_
        clear hK K
        refine oneH (i := 12) (by kernel_rfl) (fun o ho K hK => ?_)
        simp only [List.getElem?_toArray, List.getElem?_cons_zero, List.getElem?_cons_succ, Option.some.injEq] at ho; subst ho
        go_simp
        refine HINS10.out.mono ?_
        rintro e w11 ⟨⟨A2, d2, rfl, hs2⟩, hb11⟩
        have HB11' := Lib.hid hb11
        have HB11 : Hid (Below w9.heap.size w9 w11) := Lib.hid (HB10.out.trans (hb11.mono HB10.out.size))
        have HS2 := Lib.hid hs2
        have HK11 : Hid (∀ b, b < w9.heap.size → some b ≠ u.ownBlock → w11.heap[b]? = w9.heap[b]?) := Lib.hid (fun b h1 _ => HB11.out.block b h1)
        have HT11 := Lib.hid (termOf_any Gm f.blocks.length (reachF f.blocks) kb.term _ w11 (HNU9.out.of_block (HB11.out.block Gm HNU9.out.lt)) (VTerm.keep (kept_of_below HB11.out) HTO.out) (by omega) (by have := HSB.out.2.2.1; omega))
        clear hs2 hb11
        go_wp2_with fail
        refine hK.out _ _ (HS.out _ HK11.out) ?_
        clear hK K
        refine oneH (i := 16) (by kernel_rfl) (fun o ho K hK => ?_)
        simp only [List.getElem?_toArray, List.getElem?_cons_zero, List.getElem?_cons_succ, Option.some.injEq] at ho; subst ho
        go_simp
        refine HT11.out.mono ?_
        rintro e w12 ⟨⟨v3, rfl, hs3⟩, hb12⟩
        obtain ⟨A3, d3, hv3, hs3'⟩ := slG_of_own (xs := kb.term.to.map (toT (reachF f.blocks) f.blocks.length)) (by rw [List.length_map]; exact hs3) HT64.out (base' := w11.heap.size) (Nat.le_refl _)
        rw [List.length_map] at hv3
        subst hv3
        have HB12' := Lib.hid hb12
        have HB12 : Hid (Below w9.heap.size w9 w12) := Lib.hid (HB11.out.trans (hb12.mono HB11.out.size))
        have HS3 := Lib.hid hs3'
        have HK12 : Hid (∀ b, b < w9.heap.size → some b ≠ u.ownBlock → w12.heap[b]? = w9.heap[b]?) := Lib.hid (fun b h1 _ => HB12.out.block b h1)
        have HZ12 : Hid (w9.heap.size ≤ w12.heap.size) := Lib.hid HB12.out.size
        clear hs3 hs3' hb12
        go_wp2_with fail
        refine hK.out _ _ (HS.out _ HK12.out) ?_
        clear hK K
        have hS12 := HS.out w12 HK12.out
        try simp only [Act.put, List.setIfInBounds_toArray, List.set_cons_zero, List.set_cons_succ]
        refine takeH (i := 17) (some 51) (v := ?_) rfl (by kernel_rfl) (by kernel_rfl) (by kernel_rfl) (fun _ _ _ h => h) hS12 (fun o ho => ?_) ?_
        rotate_left
        · simp only [List.getElem?_toArray, List.getElem?_cons_zero, List.getElem?_cons_succ, Option.some.injEq] at ho; subst ho; refine Or.inl ⟨by rfl, fun w' hSw => ?_⟩; (try dsimp only at hSw); go_simp; try with_reducible rfl
        simp only [Act.put, List.setIfInBounds_toArray, List.set_cons_zero, List.set_cons_succ]
        refine oneH (i := 18) (by kernel_rfl) (fun o ho K hK => ?_)
        simp only [List.getElem?_toArray, List.getElem?_cons_zero, List.getElem?_cons_succ, Option.some.injEq] at ho; subst ho
        go_simp
        have hKB : ∀ (o : Obj) (b : Nat), b < w9.heap.size → some b ≠ u.ownBlock → (w12.alloc o).heap[b]? = w9.heap[b]? := fun o b h1 h2 => (Below.heap_alloc _ _ _ (by have := HZ12.out; omega)).trans (HK12.out b h1 h2)
        refine hK.out _ _ (HS.out _ (hKB _)) ?_
        clear hK K
        refine oneH (i := 19) (by kernel_rfl) (fun o ho K hK => ?_)
        simp only [List.getElem?_toArray, List.getElem?_cons_zero, List.getElem?_cons_succ, Option.some.injEq] at ho; subst ho
        have hownA : w12.ownsRow w8.heap.size 49 5 u mk cs := ownsRow_block HOW.out (fun g hg => (HB12.out.block g (by have := (HOW.out.lt g hg).2; have := HB9.out.size; omega)).trans (HB9.out.block g (HOW.out.lt g hg).2))
        have hz12 := HZ12.out
        refine step_append_lies _ (by rfl) _ _ _ (by rfl) w8.heap.size 49 i5 (.agg #[.slice none 0 0, .slice none 0 0, .int .i64 0, .int .i64 0, .slice none 0 0]) 5 88 Try.underlying23 HI.out.1 HI.out.2.1 HI.out.2.2.1 HI.out.2.2.2 rfl (by decide) u mk cs (by rfl) (hownA.alloc _)
          ⟨w12.heap.size, 0, none⟩ 1 1 [.slice A1 kb.phis.length d1, .slice A2 kb.ins.length d2, .int .i64 kb.term.kind, .int .i64 kb.term.arg, .slice A3 kb.term.to.length d3] (by rfl) (by rfl) (news_cells w12 #[.slice A1 kb.phis.length d1, .slice A2 kb.ins.length d2, .int .i64 kb.term.kind, .int .i64 kb.term.arg, .slice A3 kb.term.to.length d3] _ rfl) (by simp [Value.oneCell']) (by decide) (by unfold maxLen; omega) (by omega) (by simp; omega) (w12.heap.size + 1) (by simp) ?_
        intro g cap w13 hown13 hgrow13 hloc13 hlt13
        have HK13 : Hid (∀ b, b < w9.heap.size → some b ≠ u.ownBlock → w13.heap[b]? = w9.heap[b]?) := Lib.hid (fun b h1 h2 => (hgrow13.block b (by simp; omega) h2).trans (hKB _ b h1 h2))
        have hS13 := HS.out w13 HK13.out
        refine hK.out _ _ hS13 ?_
        clear hK K
        try simp only [Act.put, List.setIfInBounds_toArray, List.set_cons_zero, List.set_cons_succ]
        refine takeH (i := 20) (some 54) (v := ?_) rfl (by kernel_rfl) (by kernel_rfl) (by kernel_rfl) (fun _ _ _ h => h) hS13 (fun o ho => ?_) ?_
        rotate_left
        · simp only [List.getElem?_toArray, List.getElem?_cons_zero, List.getElem?_cons_succ, Option.some.injEq] at ho; subst ho; refine Or.inl ⟨by rfl, fun w' hSw => ?_⟩; (try dsimp only at hSw); go_simp; try with_reducible rfl
        simp only [Act.put, List.setIfInBounds_toArray, List.set_cons_zero, List.set_cons_succ]
        refine wpAnyH_done (by kernel_rfl) ?_ _
        refine lastH (by decide) (fun o ho K hK => ?_)
        simp only [List.getElem?_toArray, List.getElem?_cons_zero, List.getElem?_cons_succ, Option.some.injEq] at ho; subst ho
        have xc := hS13.1
        have xf := HGF.out w13 HK13.out
        go_simp
        refine hK.out _ _ ?_
        clear hK K
        have hPw := HPP.out
        have hZ9 := HZ9.out
        have hGg8 : Gg < w8.heap.size := hz8'
        have hset : ∀ y, y ≠ Gg → (w13.setCell ⟨Gg, 3, none⟩ (.slice (some ⟨g, 0, none⟩) (mk + 1) cap)).heap[y]? = w13.heap[y]? := fun y hy => Below.heap_setCell _ _ _ _ hy
        have hlate : ∀ y, w9.heap.size ≤ y → y < w12.heap.size → (w13.setCell ⟨Gg, 3, none⟩ (.slice (some ⟨g, 0, none⟩) (mk + 1) cap)).heap[y]? = w12.heap[y]? := fun y h1 h2 =>
          (hset y (by omega)).trans ((hgrow13.block y (by simp; omega) (fun e => by have := (HOW.out.lt y e.symm).2; omega)).trans (Below.heap_alloc _ _ _ h2))
        have hnotg : ∀ y, w9.heap.size ≤ y → y < w12.heap.size → some y ≠ (Value.slice (some ⟨g, 0, none⟩) (mk + 1) cap).ownBlock := fun y h1 h2 e => by
          have hyg : y = g := Option.some.inj e
          rcases hloc13 with h | h
          · have := (HOW.out.lt g h).2; omega
          · omega
        have hz10 := HB10.out.size
        have hz11 := HB11'.out.size
        have hz12' := HB12'.out.size
        have hphisN := SPhisB.go (B := BG w9.heap.size w10) (B' := BF w8.heap.size (.slice (some ⟨g, 0, none⟩) (mk + 1) cap) (w13.setCell ⟨Gg, 3, none⟩ (.slice (some ⟨g, 0, none⟩) (mk + 1) cap))) (w' := w13.setCell ⟨Gg, 3, none⟩ (.slice (some ⟨g, 0, none⟩) (mk + 1) cap))
          (fun a v hb ha => (World.cell?_of_block ((hlate a.block hb.1 (by have := hb.2.lt; omega)).trans ((HB12'.out.block a.block (by have := hb.2.lt; omega)).trans (HB11'.out.block a.block hb.2.lt)))).trans ha)
          (fun y hb => ⟨⟨by have := hb.1; omega, hb.2.same ((hlate y hb.1 (by have := hb.2.lt; omega)).trans ((HB12'.out.block y (by have := hb.2.lt; omega)).trans (HB11'.out.block y hb.2.lt)))⟩, hnotg y hb.1 (by have := hb.2.lt; omega)⟩) HS1.out
        have hinsN := SInssB.go (B := BG w10.heap.size w11) (B' := BF w8.heap.size (.slice (some ⟨g, 0, none⟩) (mk + 1) cap) (w13.setCell ⟨Gg, 3, none⟩ (.slice (some ⟨g, 0, none⟩) (mk + 1) cap))) (w' := w13.setCell ⟨Gg, 3, none⟩ (.slice (some ⟨g, 0, none⟩) (mk + 1) cap))
          (fun a v hb ha => (World.cell?_of_block ((hlate a.block (by have := hb.1; omega) (by have := hb.2.lt; omega)).trans (HB12'.out.block a.block hb.2.lt))).trans ha)
          (fun y hb => ⟨⟨by have := hb.1; omega, hb.2.same ((hlate y (by have := hb.1; omega) (by have := hb.2.lt; omega)).trans (HB12'.out.block y hb.2.lt))⟩, hnotg y (by have := hb.1; omega) (by have := hb.2.lt; omega)⟩) HS2.out
        have htoN := SIntsB.go (B := BG w11.heap.size w12) (B' := BF w8.heap.size (.slice (some ⟨g, 0, none⟩) (mk + 1) cap) (w13.setCell ⟨Gg, 3, none⟩ (.slice (some ⟨g, 0, none⟩) (mk + 1) cap))) (w' := w13.setCell ⟨Gg, 3, none⟩ (.slice (some ⟨g, 0, none⟩) (mk + 1) cap))
          (fun a v hb ha => (World.cell?_of_block (hlate a.block (by have := hb.1; omega) hb.2.lt)).trans ha)
          (fun y hb => ⟨⟨by have := hb.1; omega, hb.2.same (hlate y (by have := hb.1; omega) hb.2.lt)⟩, hnotg y (by have := hb.1; omega) hb.2.lt⟩) HS3.out
        have hk64 : I64 kb.term.kind ∧ I64 kb.term.arg := by obtain ⟨_, _, _, _, h1, h2⟩ := HTO.out; exact ⟨h1, h2⟩
        have hrowsN : Rows 5 (CBlk (BF w8.heap.size (.slice (some ⟨g, 0, none⟩) (mk + 1) cap) (w13.setCell ⟨Gg, 3, none⟩ (.slice (some ⟨g, 0, none⟩) (mk + 1) cap))) (w13.setCell ⟨Gg, 3, none⟩ (.slice (some ⟨g, 0, none⟩) (mk + 1) cap))) (blksK f.blocks (reachF f.blocks) (k + 1))
            (cs ++ [.slice A1 kb.phis.length d1, .slice A2 kb.ins.length d2, .int .i64 kb.term.kind, .int .i64 kb.term.arg, .slice A3 kb.term.to.length d3]) := by
          rw [HSU.out]
          refine rows_grow2 (F := CBlk) cblk_go HRW.out (fun y h1 h2 h3 => (hset y (by omega)).trans ((HK13.out y (by omega) h3).trans (HB9.out.block y h2))) ?_ rfl ?_
          · rcases hloc13 with h | h
            · exact .inl h.symm
            · right; intro g' hg'; have : g = g' := Option.some.inj hg'; omega
          · exact ⟨A1, d1, A2, d2, A3, d3, by simp [blkT], hphisN, hinsN, htoN, hk64.1, hk64.2⟩
        have hbbN : BB w8.heap.size Gg w8 (w13.setCell ⟨Gg, 3, none⟩ (.slice (some ⟨g, 0, none⟩) (mk + 1) cap)) :=
          HBB.out.trans ((((((BB.of_below HB9.out (by omega)).trans (BB.of_below HB12.out (by omega))).alloc (by omega) _).grown hgrow13 (by simp; omega) (fun y hy => .inr (HOW.out.lt y hy).1))).setCell (p := ⟨Gg, 3, none⟩) (.inl rfl) _)
        have hggN := set_of_block (i := 3) (.slice (some ⟨g, 0, none⟩) (mk + 1) cap) ((HK13.out Gg (by omega) (fun e => by have := (HOW.out.lt Gg e.symm).1; omega)).trans HGG9.out)
        have hownN : (w13.setCell ⟨Gg, 3, none⟩ (.slice (some ⟨g, 0, none⟩) (mk + 1) cap)).ownsRow w8.heap.size 49 5 (.slice (some ⟨g, 0, none⟩) (mk + 1) cap) (blksK f.blocks (reachF f.blocks) (k + 1)).length
            (cs ++ [.slice A1 kb.phis.length d1, .slice A2 kb.ins.length d2, .int .i64 kb.term.kind, .int .i64 kb.term.arg, .slice A3 kb.term.to.length d3]) := by
          rw [HSU.out, List.length_append, hMK]
          exact ownsRow_block hown13 (fun y hy => hset y (by have := (hown13.lt y hy).1; omega))
        have HRN := Lib.hid hrowsN
        have HBN := Lib.hid hbbN
        have HGN := Lib.hid hggN
        have HON := Lib.hid hownN
        clear hPw hZ9 hset hlate hnotg hphisN hinsN htoN hrowsN hbbN hggN hownN hown13 hgrow13 hloc13 hS13 hS12 hS0 xc xf hKB hownA
        go_wp2_with fail
        go_roundw
        case rel => exact ⟨k + 1, _, _, by omega, by go_num, HBN.out, HGN.out, HON.out, HRN.out⟩
        case measure => simp [intOf]; omega
    · obtain rfl : k = f.blocks.length := by omega
      have hNw := HN.out
      have hGg8 : Gg < w8.heap.size := hz8'
      have lts := HLTS.out
      have hs6 := HS6.out
      have hbyr := (hbb.block (N + 1) (by omega) (by omega)).trans HBY8.out
      have hggr := HGG.out
      have y0 := cell_of_block hbyr 0
      have y1 := cell_of_block hbyr 1
      have y2 := cell_of_block hbyr 2
      have y3 := cell_of_block hbyr 3
      have yf0 := free_of_block hbyr 0
      have yf1 := free_of_block hbyr 1
      have yf2 := free_of_block hbyr 2
      have yf3 := free_of_block hbyr 3
      have g0 := cell_of_block hggr 0
      have g1 := cell_of_block hggr 1
      have g2 := cell_of_block hggr 2
      have g3 := cell_of_block hggr 3
      have hrd := HRW.out.reads (R := RBlkB (BG w8.heap.size wr)) hown (fun g o x c hg hb hx hc hcell => CBlk.reads ⟨hb, Fz.own hown hg⟩ (CBlk.go (fun _ _ _ h => h) (fun b hb => hb.1) hx) hcell)
      obtain ⟨Ab, cb, rfl, hrs⟩ := hrd
      have hoth : ∀ y, y ≠ N + 1 → ((((wr.setCell ⟨N + 1, 0, none⟩ (.int .i64 f.params)).setCell ⟨N + 1, 1, none⟩ (.int .i64 f.result)).setCell ⟨N + 1, 2, none⟩ (.slice Ar2 f.regs.length cr2)).setCell ⟨N + 1, 3, none⟩ (.slice Ab (blksK f.blocks (reachF f.blocks) f.blocks.length).length cb)).heap[y]? = wr.heap[y]? := fun y hy => sets4_other wr hy _ _ _ _
      have hfin := sets4_block hbyr (.int .i64 f.params) (.int .i64 f.result) (.slice Ar2 f.regs.length cr2) (.slice Ab (blksK f.blocks (reachF f.blocks) f.blocks.length).length cb)
      have HFIN := Lib.hid hfin
      have HBL : Hid (SL ((((wr.setCell ⟨N + 1, 0, none⟩ (.int .i64 f.params)).setCell ⟨N + 1, 1, none⟩ (.int .i64 f.result)).setCell ⟨N + 1, 2, none⟩ (.slice Ar2 f.regs.length cr2)).setCell ⟨N + 1, 3, none⟩ (.slice Ab (blksK f.blocks (reachF f.blocks) f.blocks.length).length cb)) 5
          (RBlkB (BG w.heap.size ((((wr.setCell ⟨N + 1, 0, none⟩ (.int .i64 f.params)).setCell ⟨N + 1, 1, none⟩ (.int .i64 f.result)).setCell ⟨N + 1, 2, none⟩ (.slice Ar2 f.regs.length cr2)).setCell ⟨N + 1, 3, none⟩ (.slice Ab (blksK f.blocks (reachF f.blocks) f.blocks.length).length cb)))) Ab cb (blksT f.blocks)) := Lib.hid
        (SBlksB.go (B := BG w8.heap.size wr) (fun a v hb ha => (World.cell?_of_block (hoth a.block (by have := hb.1; omega))).trans ha) (fun y hb => ⟨by have := hb.1; omega, hb.2.same (hoth y (by have := hb.1; omega))⟩) hrs)
      have HRG : Hid (SL ((((wr.setCell ⟨N + 1, 0, none⟩ (.int .i64 f.params)).setCell ⟨N + 1, 1, none⟩ (.int .i64 f.result)).setCell ⟨N + 1, 2, none⟩ (.slice Ar2 f.regs.length cr2)).setCell ⟨N + 1, 3, none⟩ (.slice Ab (blksK f.blocks (reachF f.blocks) f.blocks.length).length cb)) 1
          (RIntB (BG w.heap.size ((((wr.setCell ⟨N + 1, 0, none⟩ (.int .i64 f.params)).setCell ⟨N + 1, 1, none⟩ (.int .i64 f.result)).setCell ⟨N + 1, 2, none⟩ (.slice Ar2 f.regs.length cr2)).setCell ⟨N + 1, 3, none⟩ (.slice Ab (blksK f.blocks (reachF f.blocks) f.blocks.length).length cb)))) Ar2 cr2 f.regs) := Lib.hid
        (SIntsB.go (B := BG w6.heap.size w8) (fun a v hb ha => (World.cell?_of_block ((hoth a.block (by have := hb.1; omega)).trans (hbb.block a.block hb.2.lt (by have := hb.1; omega)))).trans ha) (fun y hb => ⟨by have := hb.1; omega, hb.2.same ((hoth y (by have := hb.1; omega)).trans (hbb.block y hb.2.lt (by have := hb.1; omega)))⟩) HRG8.out)
      have hGmN := HGM.out
      have HNF : Hid (((((wr.setCell ⟨N + 1, 0, none⟩ (.int .i64 f.params)).setCell ⟨N + 1, 1, none⟩ (.int .i64 f.result)).setCell ⟨N + 1, 2, none⟩ (.slice Ar2 f.regs.length cr2)).setCell ⟨N + 1, 3, none⟩ (.slice Ab (blksK f.blocks (reachF f.blocks) f.blocks.length).length cb)).rowIs Gm 3 f.blocks.length (fun i => .int .i64 (numB (reachF f.blocks) i))) := Lib.hid (HNU.out.of_block (hoth Gm (by omega)))
      have HBF : Hid (Below w.heap.size w ((((wr.setCell ⟨N + 1, 0, none⟩ (.int .i64 f.params)).setCell ⟨N + 1, 1, none⟩ (.int .i64 f.result)).setCell ⟨N + 1, 2, none⟩ (.slice Ar2 f.regs.length cr2)).setCell ⟨N + 1, 3, none⟩ (.slice Ab (blksK f.blocks (reachF f.blocks) f.blocks.length).length cb))) := Lib.hid
        ((((HBR.out.setCell (by show w.heap.size ≤ N + 1; omega) _).setCell (by show w.heap.size ≤ N + 1; omega) _).setCell (by show w.heap.size ≤ N + 1; omega) _).setCell (by show w.heap.size ≤ N + 1; omega) _)
      have HGW : Hid (w.heap.size ≤ Gm) := Lib.hid (by omega)
      clear hNw lts hs6 hbyr hggr hbb hown hrs hoth hfin hGmN c3r hzr
      go_wp2_with fail
      refine bodyPost_ret (results_cell_tmp_ rfl _ _ (N + 1) 25 #[.int .i64 f.params, .int .i64 f.result, .slice Ar2 f.regs.length cr2, .slice Ab (blksK f.blocks (reachF f.blocks) f.blocks.length).length cb] (0, 0) _ (by rfl) HFIN.out Try.underlying25 (by rfl) (by obtain ⟨i, h1, _, h3, _⟩ := info_parts Try.info25; rw [h1]; exact congrArg some h3)) rfl ?_
      exact ⟨⟨Ar2, cr2, Ab, cb, Gm, rfl, HRG.out, HBL.out, HGW.out, HNF.out, HP.out, HR.out⟩, HBF.out⟩
end Go.Proofs.Ytooblmiffgjmjaa
