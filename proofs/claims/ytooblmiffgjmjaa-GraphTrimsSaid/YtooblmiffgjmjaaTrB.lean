/- The document's Trim. -/
import Derived.Test.YtooblmiffgjmjaaTrA
import Derived.Test.YtooblmiffgjmjaaRefB
import Derived.Test.YtooblmiffgjmjaaGrM
import Derived.StillTailTactics
import Derived.Laws.ResultCell
namespace Go.Proofs.Ytooblmiffgjmjaa
open Go.ChangeShapes Go.WideShapes Go.RowKit Go.Deep
set_option linter.unusedVariables false

def ToldRT (f : FunD) (w : World) (e : Ending) (w' : World) : Prop :=
  (∃ v vn, e = .returned (.tuple #[v, vn]) ∧ VFun w' v (trimF f) ∧ VS w' 1 RInt vn (numsL (reachF f.blocks) f.blocks.length)) ∧ Below w.heap.size w w'

set_option maxRecDepth 100000 in
set_option maxHeartbeats 16000000 in
theorem refTrim_any (f : FunD) (v : Value) (w : World) (hv : VFun w v f) (hsm : SmallF f) : Calls Try.prog 12 #[v] w (ToldRT f w) := by
  have hv0 := hv
  obtain ⟨Ar, cr, A, c, rfl, hr, hb, hp64, hr64⟩ := hv
  have hn := hsm.1
  have HV := Lib.hid hv0
  have HP := Lib.hid hp64
  have HR := Lib.hid hr64
  have HSM := Lib.hid hsm
  have hbl := hb.len
  obtain ⟨i5, p1, p2, p3, p4⟩ := info_parts Try.info49
  have HI := Lib.hid (And.intro p1 (And.intro p2 (And.intro p3 p4)))
  clear p1 p2 p3 p4
  obtain ⟨i0, p1, p2, p3, p4⟩ := info_parts Try.info3
  have HI0 := Lib.hid (And.intro p1 (And.intro p2 (And.intro p3 p4)))
  clear p1 p2 p3 p4 hv0 hr hb hp64 hr64 hsm
  go_enter Try.func12, Try.ntmps12
  go_upto_region 1 with fail
  obtain ⟨w1, hw1, hs1, hk1, hb1, hc1, -⟩ := named w #[.int .i64 f.params, .int .i64 f.result, .slice Ar f.regs.length cr, .slice A f.blocks.length c] 25
  obtain ⟨w2, hw2, hs2, hk2, hb2, hc2, -⟩ := named w1 #[.int .i64 0, .int .i64 0, .slice none 0 0, .slice none 0 0] 25
  have hbx : w2.heap[w.heap.size]? = some (.cells #[.int .i64 f.params, .int .i64 f.result, .slice Ar f.regs.length cr, .slice A f.blocks.length c] 25 (0, 0)) := by rw [hw2, hw1]; exact row_new2 w _ _
  have hby : w2.heap[w.heap.size + 1]? = some (.cells #[.int .i64 0, .int .i64 0, .slice none 0 0, .slice none 0 0] 25 (0, 0)) := by rw [hw2, hw1]; exact row_new3 w _ _
  rw [← hw1, ← hw2]
  have HB2 : Hid (Below w.heap.size w w2) := Lib.hid (hb1.trans (hb2.mono (by omega)))
  have hz2 : w2.heap.size = w.heap.size + 2 := by omega
  obtain ⟨N, hN⟩ : ∃ N, N = w.heap.size := ⟨_, rfl⟩
  rw [← hN] at hbx hby hz2 ⊢
  have HN := Lib.hid hN
  have c0 := cell_of_block hbx 0
  have c1 := cell_of_block hbx 1
  have c2 := cell_of_block hbx 2
  have c3 := cell_of_block hbx 3
  have HBX := Lib.hid hbx
  have HBY := Lib.hid hby
  have hzN : N + 1 < w2.heap.size := by omega
  clear hw1 hw2 hs1 hs2 hk1 hk2 hb1 hb2 hc1 hc2 hbx hby hN hz2
  go_wp2_with fail
  refine (from_any f 0 (-1) _ w2 (VFun.keep (kept_of_below HB2.out) HV.out) (by omega)).mono ?_
  rintro e w3 ⟨⟨H, rfl, hH, hrow⟩, hb3⟩
  have HB3 : Hid (Below w.heap.size w w3) := Lib.hid (HB2.out.trans (hb3.mono HB2.out.size))
  have HBX3 := Lib.hid ((hb3.block N (by omega)).trans HBX.out)
  have HBY3 := Lib.hid ((hb3.block (N + 1) (by omega)).trans HBY.out)
  have hz3 : N + 1 < w3.heap.size := by have := hb3.size; omega
  have HH : Hid (N + 1 < H) := Lib.hid (by omega)
  have HROW := Lib.hid (hrow.congr (g := fun x => .bool (reachF f.blocks x)) fun x _ => by rw [from_reachT])
  clear hb3 hrow hH c0 c1 c2 c3 HBX HBY hzN
  go_wp2_with fail
  go_loopw [5, 6, 7] (fun out cn i wr => ∃ k : Nat, k ≤ f.blocks.length ∧ i = .int .i64 k ∧ cn = .int .i64 (cnt (reachF f.blocks) k) ∧ Below w3.heap.size w3 wr ∧ wr.ownsRow w3.heap.size 3 1 out k ((numsL (reachF f.blocks) k).map (Value.int .i64))) (fun _ _ i _ => f.blocks.length - (intOf i).toNat)
  case atStart => exact ⟨0, Nat.zero_le _, rfl, rfl, Below.refl _ _, World.ownsRow_nil _ _ _ _⟩
  case round =>
    obtain ⟨k, hk, rfl, rfl, hb, hown⟩ := hrel
    have hz := hb.size
    have HB := Lib.hid hb
    have HOW := Lib.hid hown
    have hcl := cnt_le (reachF f.blocks) k
    have HCS := Lib.hid (cnt_succ (reachF f.blocks) k)
    have HNS := Lib.hid (numsL_succ (reachF f.blocks) k)
    by_cases hlt : k < f.blocks.length
    · have hrc := (HROW.out.of_block (hb.block H HROW.out.lt)).cell hlt
      clear hb hown
      cases hrk : reachF f.blocks k
      · rw [hrk] at hrc
        have HNB : Hid (numB (reachF f.blocks) k = -1) := Lib.hid (by unfold numB; rw [hrk]; simp)
        have HCS2 : Hid (cnt (reachF f.blocks) (k + 1) = cnt (reachF f.blocks) k) := Lib.hid (by rw [HCS.out, hrk]; simp)
        clear hrk
        go_wp2_with (at_builtin; refine wpList_append_lies _ rfl (.tmp 36) (.tmp 37) 22 rfl w3.heap.size 3 i0 (.int .i64 0) 1 8 Try.underlying22 HI0.out.1 HI0.out.2.1 HI0.out.2.2.1 HI0.out.2.2.2 rfl (by decide) _ _ _ rfl (HOW.out.alloc _) ⟨wr.heap.size, 0, none⟩ 1 1 [.int .i64 (-1)] rfl rfl ?c1 ?c2 ?c0 ?c3 ?c4 ?c5 (wr.heap.size + 1) ?c6 ?_)
        case c1 => exact news_one_add wr _ _ rfl
        case c2 => exact ints_oneCell .i64 [-1]
        case c0 => omega
        case c3 => unfold maxLen; omega
        case c4 => omega
        case c5 => simp; omega
        case c6 => simp
        intro g cap w4 hown4 hgrow4 hloc4 hlt4
        have HB4 : Hid (Below w3.heap.size w3 w4) := Lib.hid ((HB.out.alloc hz _).grown hgrow4 (by simp; omega) (fun g hg => (HOW.out.lt g hg).1))
        have HO4 : Hid (w4.ownsRow w3.heap.size 3 1 (.slice (some ⟨g, 0, none⟩) (k + 1) cap) (k + 1) ((numsL (reachF f.blocks) (k + 1)).map (Value.int .i64))) := Lib.hid (by rw [HNS.out, List.map_append, HNB.out]; exact hown4)
        clear hown4 hgrow4 hloc4
        go_wp2_with fail
        go_roundw
        case rel => exact ⟨k + 1, by omega, by go_num, by rw [HCS2.out], HB4.out, HO4.out⟩
        case measure => simp [intOf]; omega
      · rw [hrk] at hrc
        have HNB : Hid (numB (reachF f.blocks) k = cnt (reachF f.blocks) k) := Lib.hid (numB_cnt hrk)
        have HCS2 : Hid (cnt (reachF f.blocks) (k + 1) = cnt (reachF f.blocks) k + 1) := Lib.hid (by rw [HCS.out, hrk]; simp)
        clear hrk
        generalize hcn : cnt (reachF f.blocks) k = cn at *
        go_wp2_with (at_builtin; refine wpList_append_lies _ rfl (.tmp 30) (.tmp 32) 22 rfl w3.heap.size 3 i0 (.int .i64 0) 1 8 Try.underlying22 HI0.out.1 HI0.out.2.1 HI0.out.2.2.1 HI0.out.2.2.2 rfl (by decide) _ _ _ rfl (HOW.out.alloc _) ⟨wr.heap.size, 0, none⟩ 1 1 [.int .i64 cn] rfl rfl ?c1 ?c2 ?c0 ?c3 ?c4 ?c5 (wr.heap.size + 1) ?c6 ?_)
        case c1 => exact news_one_add wr _ _ rfl
        case c2 => exact ints_oneCell .i64 [(cn : Int)]
        case c0 => omega
        case c3 => unfold maxLen; omega
        case c4 => omega
        case c5 => simp; omega
        case c6 => simp
        intro g cap w4 hown4 hgrow4 hloc4 hlt4
        have HB4 : Hid (Below w3.heap.size w3 w4) := Lib.hid ((HB.out.alloc hz _).grown hgrow4 (by simp; omega) (fun g hg => (HOW.out.lt g hg).1))
        have HO4 : Hid (w4.ownsRow w3.heap.size 3 1 (.slice (some ⟨g, 0, none⟩) (k + 1) cap) (k + 1) ((numsL (reachF f.blocks) (k + 1)).map (Value.int .i64))) := Lib.hid (by rw [HNS.out, List.map_append, HNB.out]; exact hown4)
        clear hown4 hgrow4 hloc4
        go_wp2_with fail
        go_roundw
        case rel => exact ⟨k + 1, by omega, by go_num, by rw [HCS2.out]; go_num, HB4.out, HO4.out⟩
        case measure => simp [intOf]; omega
    · obtain rfl : k = f.blocks.length := by omega
      have HBR : Hid (Below w.heap.size w wr) := Lib.hid (HB3.out.trans (hb.mono HB3.out.size))
      have hbx := (hb.block N (by omega)).trans HBX3.out
      have c0 := cell_of_block hbx 0
      have c1 := cell_of_block hbx 1
      have c2 := cell_of_block hbx 2
      have c3 := cell_of_block hbx 3
      have HBXr := Lib.hid hbx
      have HBYr := Lib.hid ((hb.block (N + 1) (by omega)).trans HBY3.out)
      have HROWr := Lib.hid (HROW.out.of_block (hb.block H HROW.out.lt))
      have HHr : Hid (H < w3.heap.size) := Lib.hid HROW.out.lt
      have HOWL := Lib.hid (fun g hg => HOW.out.lt g hg)
      have hNr : N + 1 < wr.heap.size := by omega
      clear hb hown hbx HROW HBX3 HBY3
      go_wp2_with fail
      refine (copyFunc_apart f _ wr (VFun.keep (kept_of_below HBR.out) HV.out) HSM.out).mono ?_
      rintro e w5 ⟨⟨_, rfl, ur, Ab, cb, Mid, l, rfl, ⟨hM0, hM1⟩, -, -, ⟨hlm, hiv⟩, hsl, ⟨Ar2, cr2, rfl, hregs⟩, -, -, hfz⟩, hb5⟩
      have HB5 : Hid (Below w.heap.size w w5) := Lib.hid (HBR.out.trans (hb5.mono HBR.out.size))
      have hNM : N + 1 < Mid := by omega
      have HM : Hid (wr.heap.size ≤ Mid ∧ Mid ≤ w5.heap.size) := Lib.hid ⟨hM0, hM1⟩
      have hbx5 := (hb5.block N (by omega)).trans HBXr.out
      have hby5 := (hb5.block (N + 1) (by omega)).trans HBYr.out
      have hrow5 := HROWr.out.of_block (hb5.block H HROWr.out.lt)
      have hnum5 := ownsRow_block HOW.out (fun g hg => hb5.block g (HOW.out.lt g hg).2)
      have HIV := Lib.hid hiv
      have HLM := Lib.hid hlm
      have HSL := Lib.hid hsl
      have HFZ := Lib.hid hfz
      have hll : l.length = f.blocks.length := by rw [← hlm, List.length_map]
      have hsll := hsl.len
      clear c0 c1 c2 c3 HBXr HBYr HROWr hiv hlm hfz
      go_upto_region 13 with fail
      obtain ⟨w6, hw6, hs6, hk6, hb6, hc6, hf6⟩ := named w5 #[.int .i64 f.params, .int .i64 f.result, .slice Ar2 f.regs.length cr2, .slice Ab f.blocks.length cb] 25
      obtain ⟨w7, hw7, hs7, hk7, hb7, hc7, hf7⟩ := named w6 #[.int .i64 f.params, .int .i64 f.result, .slice Ar2 f.regs.length cr2, .slice none 0 0] 25
      have hg6 : w7.heap[w5.heap.size]? = some (.cells #[.int .i64 f.params, .int .i64 f.result, .slice Ar2 f.regs.length cr2, .slice Ab f.blocks.length cb] 25 (0, 0)) := by rw [hw7, hw6]; exact row_new2 w5 _ _
      have hg7 : w7.heap[w5.heap.size + 1]? = some (.cells #[.int .i64 f.params, .int .i64 f.result, .slice Ar2 f.regs.length cr2, .slice none 0 0] 25 (0, 0)) := by rw [hw7, hw6]; exact row_new3 w5 _ _
      rw [← hw6, ← hw7]
      have HB7 : Hid (Below w5.heap.size w5 w7) := Lib.hid (hb6.trans (hb7.mono (by omega)))
      have hz7 : w7.heap.size = w5.heap.size + 2 := by omega
      obtain ⟨Hc, hHc⟩ : ∃ Hc, Hc = w5.heap.size := ⟨_, rfl⟩
      rw [← hHc] at hg6 hg7 hz7 hM1 ⊢
      have HHC := Lib.hid hHc
      obtain ⟨bb, ob, hbb⟩ := copy_rows (hsl) (by rw [hll]; exact HFZ.out)
      rw [hll, ← hHc] at hbb
      have HBBR := Lib.hid hbb
      rw [← hHc] at HIV
      have HBX7 := Lib.hid hbx5
      have HBY7 := Lib.hid hby5
      have HROW5 := Lib.hid hrow5
      have HNUM5 := Lib.hid hnum5
      have HREG := Lib.hid hregs
      have HG6 := Lib.hid hg6
      have HG7 := Lib.hid hg7
      have hHM : H < Mid := by have := HHr.out; omega
      obtain ⟨r, hrr⟩ : ∃ r, r = reachF f.blocks := ⟨_, rfl⟩
      have HRR := Lib.hid hrr
      rw [← hrr] at HROW5 HNUM5 HOW ⊢
      have HPOST : Hid (∀ out, wr.ownsRow w3.heap.size 3 1 out f.blocks.length ((numsL r f.blocks.length).map (Value.int .i64)) → True) := Lib.hid (fun _ _ => trivial)
      clear HPOST hbb hw6 hw7 hs6 hs7 hk6 hk7 hb6 hb7 hc6 hc7 hf6 hf7 hg6 hg7 hbx5 hby5 hrow5 hnum5 hregs hb5 hM0 hHc hrr HFZ hsl hsll
      go_wp2_with fail
      go_loopw [10] (fun i wr => ∃ (k : Nat) (u : Value) (cs : List Value), k ≤ f.blocks.length ∧ i = .int .i64 k ∧ Below w.heap.size w wr ∧ Hc + 2 ≤ wr.heap.size ∧ FrX l bb Hc k w5 wr ∧
        wr.heap[Hc]? = some (.cells #[.int .i64 f.params, .int .i64 f.result, .slice Ar2 f.regs.length cr2, .slice Ab f.blocks.length cb] 25 (0, 0)) ∧
        wr.heap[Hc + 1]? = some (.cells #[.int .i64 f.params, .int .i64 f.result, .slice Ar2 f.regs.length cr2, u] 25 (0, 0)) ∧
        wr.ownsRow (Hc + 2) 49 5 u (blksK f.blocks r k).length cs ∧ Rows 5 (CBlk (BX l k (Hc + 2) u) wr) (blksK f.blocks r k) cs) (fun i _ => f.blocks.length - (intOf i).toNat)
      case atStart =>
        refine ⟨0, .slice none 0 0, [], Nat.zero_le _, rfl, HB5.out.trans (HB7.out.mono HB5.out.size), by omega, ?_, HG6.out, HG7.out, by rw [blksK_zero]; exact World.ownsRow_nil _ _ _ _, by rw [blksK_zero]; rfl⟩
        intro y hy _
        exact HB7.out.block y (by rw [← HHC.out]; exact hy)
      case round =>
        obtain ⟨k, u, cs, hk, rfl, hbw, hzw, hfr, hcb, hob, hown, hrows⟩ := hrel
        have HBW := Lib.hid hbw
        have HFR := Lib.hid hfr
        have HCB := Lib.hid hcb
        have HOB := Lib.hid hob
        have HOU := Lib.hid hown
        have HRW := Lib.hid hrows
        have hlow : ∀ y, y < Mid → wr.heap[y]? = w5.heap[y]? := fun y hy => hfr.low HIV.out y (by omega) hy
        have HLOW := Lib.hid hlow
        have HRO := Lib.hid (HROW5.out.of_block (hlow H hHM))
        have HBXw := Lib.hid ((hlow N (by omega)).trans HBX7.out)
        have c3r : wr.cell? ⟨N, 3, none⟩ = some (.slice A f.blocks.length c) := cell_of_block HBXw.out 3
        by_cases hlt : k < f.blocks.length
        · obtain ⟨hAb, hbbH, hbbM, hblk⟩ := HBBR.out (by omega)
          subst hAb
          obtain ⟨⟨kb, lo, hi⟩, hxl⟩ : ∃ x, l[k]? = some x := ⟨_, List.getElem?_eq_getElem (by omega)⟩
          have HXL := Lib.hid hxl
          have HKB : Hid (f.blocks[k]? = some kb) := Lib.hid (by rw [← HLM.out, List.getElem?_map, hxl]; rfl)
          have hin := HIV.out.1 _ (List.mem_of_getElem? hxl)
          have hlo : Mid ≤ lo := hin.1
          have hhi : hi ≤ Hc := hin.2
          obtain ⟨hR, hF1, hF2⟩ := hblk k _ hxl
          obtain ⟨t, p, Ap, cp, Ai, ci, At, ct, ⟨ht1, ht2, ht3⟩, ⟨b0, b1, b2, b3, b4⟩, ⟨s0, s1, s2⟩, ⟨hkd64, har64⟩, hz0, hz4⟩ := blk_at' HIV.out hR ⟨hF1, hF2⟩ hbbH hfr hxl
          have HSUC := Lib.hid (blksK_succ (r := r) HKB.out)
          have HSB := Lib.hid (HSM.out.2.2.2 kb (List.mem_of_getElem? HKB.out))
          have hrc := HRO.out.cell hlt
          have hcc : wr.cell? ⟨Hc, 3, none⟩ = some (.slice (some ⟨bb, ob, none⟩) f.blocks.length cb) := cell_of_block hcb 3
          have hpl := s0.len
          have hil := s1.len
          have htl := s2.len
          have HKD := Lib.hid hkd64
          have HAR := Lib.hid har64
          have HS0 := Lib.hid s0
          have HS1 := Lib.hid s1
          have HS2 := Lib.hid s2
          have HZ0 := Lib.hid hz0
          have HZ4 := Lib.hid hz4
          clear hbw hfr hcb hob hown hrows hlow hblk hxl hin hR hF1 hF2 s0 s1 s2 hkd64 har64 hz0 hz4
          cases hrk : r k
          · rw [hrk] at hrc
            have HSU : Hid (blksK f.blocks r (k + 1) = blksK f.blocks r k) := Lib.hid (by rw [HSUC.out, hrk]; simp)
            clear hrk b0 b1 b2 b3 b4
            go_wp2_with fail
            go_roundw
            case rel => exact ⟨k + 1, u, cs, by omega, by go_num, HBW.out, hzw, HFR.out.step HXL.out (fun _ _ _ => rfl), HCB.out, HOB.out, by rw [HSU.out]; exact HOU.out, by rw [HSU.out]; exact rows_keepX HRW.out (fun _ _ _ => rfl) (by omega) (fun _ _ _ h => h)⟩
            case measure => simp [intOf]; omega
          · rw [hrk] at hrc
            have HSU : Hid (blksK f.blocks r (k + 1) = blksK f.blocks r k ++ [blkT f.blocks r k kb]) := Lib.hid (by rw [HSUC.out, hrk]; simp)
            clear hrk
            go_upto_region 18 with fail
            obtain ⟨w8, hw8, hs8, hk8, hb8, hc8, -⟩ := named wr #[.slice Ap kb.phis.length cp, .slice Ai kb.ins.length ci, .int .i64 kb.term.kind, .int .i64 kb.term.arg, .slice At kb.term.to.length ct] 49
            rw [← hw8]
            obtain ⟨P, hP⟩ : ∃ P, P = wr.heap.size := ⟨_, rfl⟩
            have hg8 : w8.heap[P]? = some (.cells #[.slice Ap kb.phis.length cp, .slice Ai kb.ins.length ci, .int .i64 kb.term.kind, .int .i64 kb.term.arg, .slice At kb.term.to.length ct] 49 (0, 0)) := by rw [hP, hw8]; exact heap_alloc_new _ _
            rw [← hP] at hs8 ⊢
            have hPP : Hc + 2 ≤ P := by omega
            have HPW := Lib.hid hP
            have HBW8 : Hid (Below w.heap.size w w8) := Lib.hid (HBW.out.trans (hb8.mono HBW.out.size))
            have HB8 := Lib.hid hb8
            have hbx8 := (hb8.block N (by omega)).trans HBXw.out
            have d0 := cell_of_block hbx8 0
            have d1 := cell_of_block hbx8 1
            have d2 := cell_of_block hbx8 2
            have d3 := cell_of_block hbx8 3
            have HG8 := Lib.hid hg8
            clear hw8 hc8 hk8 b0 b1 b2 b3 b4 c3r hcc hP hb8 hbx8 hg8 hrc
            go_wp2_with fail
            refine (refAhead_own f k _ w8 (VFun.keep (kept_of_below HBW8.out) HV.out) (by omega)).mono ?_
            rintro e w9 ⟨⟨va, rfl, hoa⟩, hb9⟩
            have HBW9 : Hid (Below w.heap.size w w9) := Lib.hid (HBW8.out.trans (hb9.mono HBW8.out.size))
            have hz9 := hb9.size
            have hg9 := (hb9.block P (by omega)).trans HG8.out
            have HB9 : Hid (Below wr.heap.size wr w9) := Lib.hid (HB8.out.trans (hb9.mono HB8.out.size))
            obtain ⟨Aa, ca, rfl, hsa⟩ := slG_of_own hoa (aheadL_i64 f.blocks k (by omega)) (Nat.le_refl _)
            have HIN := Lib.hid (aheadL_in (bs := f.blocks) (i := k) (by omega))
            obtain ⟨ah, hah⟩ : ∃ ah, ah = aheadL f.blocks k := ⟨_, rfl⟩
            have HAH := Lib.hid hah
            rw [← hah] at hoa hsa HIN ⊢
            have HSA := Lib.hid hsa
            have hahl := hsa.len
            obtain ⟨Z, hZ⟩ : ∃ Z, Z = w9.heap.size := ⟨_, rfl⟩
            have hPZ : P < Z := by omega
            have HZW := Lib.hid hZ
            have HS0' := Lib.hid (SPhisS.go (B' := fun y => (y ≠ bb ∧ t ≤ y ∧ y < p) ∨ Z ≤ y) (kept_of_below HB9.out |> KeptB.of) (fun y hy => .inl hy) HS0.out)
            have hz0' : 0 < kb.phis.length → ∃ b o, Ap = some ⟨b, o, none⟩ ∧ FzC w9 b := fun hp => by
              obtain ⟨b, o, e, h⟩ := HZ0.out hp
              exact ⟨b, o, e, h.same (HB9.out.block b h.lt)⟩
            obtain ⟨bp, op, hbpF, hbp⟩ := row_block (S := fun y => (y ≠ bb ∧ t ≤ y ∧ y < p)) (Z := Z) (fun b o x h => h.1) (SPhisS.go (KeptB.of (kept_of_below HB9.out)) (fun y hy => hy) HS0.out) hz0'
            have HBPF := Lib.hid hbpF
            have hbpN : ¬ (bp < Mid) ∧ bp ≠ bb ∧ (bp < Hc ∨ Z ≤ bp) := by rcases hbp with h | h <;> (refine ⟨by omega, by omega, by omega⟩)
            have HG9 := Lib.hid hg9
            clear hoa hsa hah hg9 hb9 hz0' hbpF d0 d1 d2 d3 hZ
            go_wp2_with fail
            obtain ⟨wl, rfl⟩ : ∃ wl, wl = wr := ⟨wr, rfl⟩
            go_loopw [13] (fun s13 wq => ∃ q : Nat, q ≤ kb.phis.length ∧ s13 = .int .i64 q ∧ BB Z bp w9 wq ∧ SL wq 2 (RPhiS (fun y => (y ≠ bb ∧ t ≤ y ∧ y < p) ∨ Z ≤ y)) Ap cp (mixL (phiT r ah) kb.phis q) ∧ (0 < kb.phis.length → FzC wq bp)) (fun s13 _ => kb.phis.length - (intOf s13).toNat)
            case atStart => exact ⟨0, Nat.zero_le _, rfl, BB.refl _ _ _, by rw [mixL_zero]; exact HS0'.out, fun hp => (HBPF.out hp).2⟩
            case round =>
              obtain ⟨q, hq, rfl, hb3, hs3, hf3⟩ := hrel
              have HB3 := Lib.hid hb3
              have HS3 := Lib.hid hs3
              have HF3 := Lib.hid hf3
              obtain ⟨wq, rfl⟩ : ∃ wq, wq = wr := ⟨wr, rfl⟩
              have hZw := HZW.out
              have hzq : Z ≤ wq.heap.size := by rw [hZw]; exact hb3.size
              have hg3 := (hb3.block P (by omega) (by omega)).trans HG9.out
              have x0 := cell_of_block hg3 0
              have hsa3 : SL wq 1 RInt Aa ca ah := SL.imp RIntB.plain (SIntsB.go (B := BG w8.heap.size w9) (B' := fun _ => True) (fun a v hb ha => (World.cell?_of_block (hb3.block a.block (by have := hb.2.lt; omega) (by have := hb.2.lt; have := hb.1; omega))).trans ha) (fun _ _ => trivial) HSA.out)
              have hHr := HRO.out.lt
              have hroq := HRO.out.of_block (w' := wq) ((hb3.block H (by omega) (by omega)).trans (HB9.out.block H hHr))
              have HG3 := Lib.hid hg3
              have HRQ := Lib.hid hroq
              clear hZw hb3 hroq hg3
              by_cases hltq : q < kb.phis.length
              · obtain ⟨hAp, -⟩ := HBPF.out (by omega)
                subst hAp
                obtain ⟨pk, hpk⟩ : ∃ pk, kb.phis[q]? = some pk := ⟨_, List.getElem?_eq_getElem hltq⟩
                have hmix := mixL_at (g := phiT r ah) hpk
                have hmixl : (mixL (phiT r ah) kb.phis q).length = kb.phis.length := mixL_len
                obtain ⟨b', o', pk', e', hx', ⟨hS', hd', Aq, cq, hqa, hqs⟩⟩ := hs3.at_ (k := q) (by omega)
                cases e'
                obtain rfl : pk' = pk := by have := hx'.out; rw [hmix] at this; exact (Option.some.inj this).symm
                have hql := hqs.len
                have HFQ := Lib.hid (hf3 (by omega))
                have HMIX := Lib.hid hmix
                have hqs' := SL.imp RIntB.plain hqs
                have HQ64 : Hid (∀ x ∈ pk'.args, I64 x) := Lib.hid (fun x hx => by
                  obtain ⟨i, hi⟩ := List.getElem?_of_mem hx
                  obtain ⟨_, _, h3⟩ := hqs'
                  obtain ⟨b, o, e, hr⟩ := h3 (by have := (List.getElem?_eq_some_iff.1 hi).1; omega)
                  exact (hr i x hi).2)
                have hqal := (HSB.out.2.2.2.2 pk' (List.mem_of_getElem? hpk))
                by_cases hlen : pk'.args.length = ah.length
                · have hne : ((pk'.args.length : Int) != ah.length) = false := by simp [hlen]
                  have HLEN := Lib.hid hlen
                  have HMS := Lib.hid (mixL_set (g := phiT r ah) hpk)
                  have HPT := Lib.hid (phiT_keep (r := r) hlen)
                  clear hs3 hf3 hmix hmixl hS' hd' hqs hlen hpk hx'
                  go_wp2_with fail
                  go_loopw [14, 15] (fun out s15 wm => ∃ m : Nat, m ≤ ah.length ∧ s15 = .int .i64 m ∧ Below wq.heap.size wq wm ∧ wm.ownsRow wq.heap.size 3 1 out (keepA r (ah.take m) (pk'.args.take m)).length ((keepA r (ah.take m) (pk'.args.take m)).map (Value.int .i64))) (fun _ s15 _ => ah.length - (intOf s15).toNat)
                  case atStart => exact ⟨0, Nat.zero_le _, rfl, Below.refl _ _, by simpa [keepA] using World.ownsRow_nil _ _ _ _⟩
                  case round =>
                    obtain ⟨m, hm, rfl, hb4, ho4⟩ := hrel
                    obtain ⟨wm, rfl⟩ : ∃ wm, wm = wr := ⟨wr, rfl⟩
                    have hz4 := hb4.size
                    have HB4 := Lib.hid hb4
                    have HO4 := Lib.hid ho4
                    have hkw : Kept wq wm := kept_of_below hb4
                    have x0m := hkw _ _ x0
                    have qam := hkw _ _ hqa
                    by_cases hltm : m < ah.length
                    · obtain ⟨b1, o1, a, rfl, ha, hac, -⟩ := (SInts.keep hkw hsa3).int hltm
                      obtain ⟨b2, o2, y, rfl, hy, hyc, -⟩ := (SInts.keep hkw hqs').int (k := m) (by have := HLEN.out; omega)
                      obtain ⟨ha0, ha1⟩ := HIN.out a (List.mem_of_getElem? ha.out)
                      obtain ⟨j, rfl⟩ : ∃ j : Nat, a = j := ⟨a.toNat, by omega⟩
                      have hjn : j < f.blocks.length := by omega
                      have hrc := (HRQ.out.of_block (hb4.block H HRQ.out.lt)).cell hjn
                      have hm0 : (0 : Int) ≤ m := by omega
                      have hm1 : (m : Int) < pk'.args.length := by have := HLEN.out; omega
                      have hm2 : (m : Int) < ah.length := by omega
                      have HSN := Lib.hid (keepA_snoc (r := r) ha.out hy.out)
                      have hlk : (keepA r (ah.take m) (pk'.args.take m)).length ≤ 1000000 := by have := keepA_len r (ah.take m) (pk'.args.take m); simp at this; omega
                      clear hb4 ho4 hkw x0 hqa hsa3 hqs'
                      cases hrj : r j
                      · rw [hrj] at hrc
                        have HS2' : Hid (keepA r (ah.take (m + 1)) (pk'.args.take (m + 1)) = keepA r (ah.take m) (pk'.args.take m)) := Lib.hid (by rw [HSN.out, Int.toNat_natCast, hrj]; simp)
                        clear hrj
                        go_wp2_with fail
                        go_roundw
                        case rel => exact ⟨m + 1, by omega, by go_num, HB4.out, by rw [HS2'.out]; exact HO4.out⟩
                        case measure => simp [intOf]; omega
                      · rw [hrj] at hrc
                        have HS2' : Hid (keepA r (ah.take (m + 1)) (pk'.args.take (m + 1)) = keepA r (ah.take m) (pk'.args.take m) ++ [y]) := Lib.hid (by rw [HSN.out, Int.toNat_natCast, hrj]; simp)
                        clear hrj HSN
                        generalize keepA r (ah.take m) (pk'.args.take m) = acc at *
                        go_wp2_with (at_builtin; refine wpList_append_lies _ rfl (.tmp 97) (.tmp 107) 22 rfl wq.heap.size 3 i0 (.int .i64 0) 1 8 Try.underlying22 HI0.out.1 HI0.out.2.1 HI0.out.2.2.1 HI0.out.2.2.2 rfl (by decide) _ _ _ rfl (HO4.out.alloc _) ⟨wm.heap.size, 0, none⟩ 1 1 [.int .i64 y] rfl rfl ?c1 ?c2 ?c0 ?c3 ?c4 ?c5 (wm.heap.size + 1) ?c6 ?_)
                        case c1 => exact news_one_add wm _ _ rfl
                        case c2 => exact ints_oneCell .i64 [y]
                        case c0 => omega
                        case c3 => unfold maxLen; omega
                        case c4 => omega
                        case c5 => simp; omega
                        case c6 => simp
                        intro g cap w4 hown4 hgrow4 hloc4 hlt4
                        have HB4' : Hid (Below wq.heap.size wq w4) := Lib.hid ((HB4.out.alloc hz4 _).grown hgrow4 (by simp; omega) (fun g hg => (HO4.out.lt g hg).1))
                        have HO4' : Hid (w4.ownsRow wq.heap.size 3 1 (.slice (some ⟨g, 0, none⟩) (acc.length + 1) cap) (keepA r (ah.take (m + 1)) (pk'.args.take (m + 1))).length ((keepA r (ah.take (m + 1)) (pk'.args.take (m + 1))).map (Value.int .i64))) := Lib.hid (by rw [HS2'.out, List.map_append, List.length_append]; exact hown4)
                        clear hown4 hgrow4 hloc4
                        go_wp2_with fail
                        go_roundw
                        case rel => exact ⟨m + 1, by omega, by go_num, HB4'.out, HO4'.out⟩
                        case measure => simp [intOf]; omega
                    · have hkk : keepA r (ah.take m) (pk'.args.take m) = keepA r ah pk'.args := by rw [List.take_of_length_le (by omega), List.take_of_length_le (by have := HLEN.out; omega)]
                      rw [hkk] at ho4
                      obtain ⟨A', c', rfl, hsA⟩ := slG_of_own ho4 (fun x hx => HQ64.out x (keepA_mem hx)) (Nat.le_refl _)
                      have hal := hsA.len
                      have hfm := (HFQ.out.same (hb4.block bp HFQ.out.lt)).free (op + q * 2 + 1)
                      have hbpq := HFQ.out.lt
                      have hsm := (SPhisS.go (KeptB.of hkw) (fun _ h => h) HS3.out).phi_put (q := ⟨pk'.dst, keepA r ah pk'.args⟩) HMIX.out rfl (SIntsB.go (B' := fun y => ((y ≠ bb ∧ t ≤ y ∧ y < p) ∨ Z ≤ y) ∧ y ≠ bp) (KeptB.of (Kept.refl _)) (fun y hy => ⟨.inr (by have := hy.1; omega), by have := hy.1; omega⟩) hsA)
                      have HSM' : Hid (SL (wm.setCell ⟨bp, op + q * 2 + 1, none⟩ (.slice A' (keepA r ah pk'.args).length c')) 2 (RPhiS (fun y => (y ≠ bb ∧ t ≤ y ∧ y < p) ∨ Z ≤ y)) (some ⟨bp, op, none⟩) cp (mixL (phiT r ah) kb.phis (q + 1))) := Lib.hid (by rw [← HMS.out, HPT.out]; exact hsm)
                      have HBM : Hid (BB Z bp w9 (wm.setCell ⟨bp, op + q * 2 + 1, none⟩ (.slice A' (keepA r ah pk'.args).length c'))) := Lib.hid ((HB3.out.trans (BB.of_below hb4 hzq)).setCell (.inl rfl) _)
                      have HFM : Hid (FzC (wm.setCell ⟨bp, op + q * 2 + 1, none⟩ (.slice A' (keepA r ah pk'.args).length c')) bp) := Lib.hid ((HFQ.out.same (hb4.block bp HFQ.out.lt)).set _ _ _)
                      clear hb4 ho4 hkw x0 hqa hsa3 hqs' hsm hsA hkk
                      go_wp2_with fail
                      go_roundw
                      case rel => exact ⟨q + 1, by omega, by go_num, HBM.out, HSM'.out, fun _ => HFM.out⟩
                      case measure => simp [intOf]; omega
                · have hne : ((pk'.args.length : Int) != ah.length) = true := by simp; omega
                  have HMX : Hid (mixL (phiT r ah) kb.phis q = mixL (phiT r ah) kb.phis (q + 1)) := Lib.hid (mixL_same hpk (phiT_skip hlen))
                  clear hs3 hf3 hmix hmixl hS' hd' hqs hlen hpk hx' hqs' hsa3
                  go_wp2_with fail
                  go_roundw
                  case rel => exact ⟨q + 1, by omega, by go_num, HB3.out, by rw [← HMX.out]; exact HS3.out, HF3.out⟩
                  case measure => simp [intOf]; omega
              · obtain rfl : q = kb.phis.length := by omega
                have hmixE : mixL (phiT r ah) kb.phis kb.phis.length = kb.phis.map (phiT r ah) := mixL_all (Nat.le_refl _)
                have HSE : Hid (SL wq 2 (RPhiS (fun y => (y ≠ bb ∧ t ≤ y ∧ y < p) ∨ Z ≤ y)) Ap cp (kb.phis.map (phiT r ah))) := Lib.hid (by rw [← hmixE]; exact hs3)
                clear hs3 hf3 hmixE hsa3
                have hPq : P < wq.heap.size := by omega
                have hkq : ∀ y, y < wl.heap.size → y ≠ bp → wq.heap[y]? = wl.heap[y]? := fun y h1 h2 => (HB3.out.block y (by have := HPW.out; omega) h2).trans (HB9.out.block y h1)
                have hs2q := SIntsB.go (B := fun y => (y ≠ bb ∧ lo ≤ y ∧ y < t) ∧ y < wl.heap.size) (B' := fun y => y ≠ bb ∧ lo ≤ y ∧ y < t) (w' := wq) (fun a v hb ha => (World.cell?_of_block (hkq a.block hb.2 (by have := hb.1; omega))).trans ha) (fun y hy => hy.1) (SIntsB.lt HS2.out)
                have hz4q : 0 < kb.term.to.length → ∃ b o, At = some ⟨b, o, none⟩ ∧ FzC wq b := fun hp => by
                  obtain ⟨b, o, e, h⟩ := HZ4.out hp
                  obtain ⟨b', o', x', e', hx'⟩ := HS2.out.blk hp
                  rw [e] at e'; cases e'
                  exact ⟨b, o, e, h.same (hkq b h.lt (by have := hx'.1; omega))⟩
                obtain ⟨bt, ot, hbtF, hbt⟩ := row_block (S := fun y => (y ≠ bb ∧ lo ≤ y ∧ y < t)) (Z := wq.heap.size) (fun b o x h => h.1) hs2q hz4q
                have HBTF := Lib.hid hbtF
                have hbtN : ¬ (bt < Mid) ∧ bt ≠ bb ∧ (bt < Hc ∨ wq.heap.size ≤ bt) := by rcases hbt with h | h <;> (refine ⟨by omega, by omega, by omega⟩)
                have HS2Q := Lib.hid hs2q
                obtain ⟨gn, capn, hform, -, -⟩ := HNUM5.out.form (by omega)
                subst hform
                have hgn := HOWL.out gn rfl
                have hgnM : gn < Mid := by have := HM.out; omega
                have hgnl : gn < wl.heap.size := by omega
                have HNUQ := Lib.hid (ownsRow_block (w' := wq) HNUM5.out (fun g hg => by
                  have e : gn = g := Option.some.inj hg
                  subst e
                  exact (hkq gn hgnl (by omega)).trans (HLOW.out gn hgnM)))
                have x4 := cell_of_block HG3.out 4
                clear hs2q hz4q hbtF hgn
                go_wp2_with fail
                go_loopw [16] (fun s16 wt => ∃ q : Nat, q ≤ kb.term.to.length ∧ s16 = .int .i64 q ∧ BB wq.heap.size bt wq wt ∧ SL wt 1 (RIntB (fun y => y ≠ bb ∧ lo ≤ y ∧ y < t)) At ct (mixL (toT r f.blocks.length) kb.term.to q) ∧ (0 < kb.term.to.length → FzC wt bt)) (fun s16 _ => kb.term.to.length - (intOf s16).toNat)
                case atStart => exact ⟨0, Nat.zero_le _, rfl, BB.refl _ _ _, by rw [mixL_zero]; exact HS2Q.out, fun hp => (HBTF.out hp).2⟩
                case round =>
                  obtain ⟨q, hq, rfl, hb6, hs6, hf6⟩ := hrel
                  obtain ⟨wt, rfl⟩ : ∃ wt, wt = wr := ⟨wr, rfl⟩
                  have hzt := hb6.size
                  have HB6 := Lib.hid hb6
                  have HS6 := Lib.hid hs6
                  have HF6 := Lib.hid hf6
                  have x4t : wt.cell? ⟨P, 4, none⟩ = some (.slice At kb.term.to.length ct) := (World.cell?_of_block (a := ⟨P, 4, none⟩) (hb6.block P hPq (by omega))).trans x4
                  by_cases hltq : q < kb.term.to.length
                  · obtain ⟨hAt, -⟩ := HBTF.out (by omega)
                    subst hAt
                    obtain ⟨x, hx⟩ : ∃ x, kb.term.to[q]? = some x := ⟨_, List.getElem?_eq_getElem hltq⟩
                    have HX := Lib.hid hx
                    have hmixl : (mixL (toT r f.blocks.length) kb.term.to q).length = kb.term.to.length := mixL_len
                    obtain ⟨b', o', x', e', hx', hxc, hx64⟩ := (SL.imp RIntB.plain hs6).int (k := q) (by omega)
                    cases e'
                    obtain rfl : x' = x := by have := hx'.out; rw [mixL_at hx] at this; exact (Option.some.inj this).symm
                    have hfz := (hf6 (by omega)).free (ot + q)
                    have HFQ := Lib.hid (hf6 (by omega))
                    have hq0 : (0 : Int) ≤ q := by omega
                    have hq1 : (q : Int) < kb.term.to.length := by omega
                    clear hb6 hs6 hf6 hx hx' x4 x0
                    by_cases hxin : 0 ≤ x' ∧ x' < f.blocks.length
                    · obtain ⟨j, rfl⟩ : ∃ j : Nat, x' = j := ⟨x'.toNat, by omega⟩
                      have hjn : j < f.blocks.length := by omega
                      have hj0 : (0 : Int) ≤ j := by omega
                      have hj1 : (j : Int) < f.blocks.length := by omega
                      have HT : Hid (numB r j = toT r f.blocks.length j) := Lib.hid (by unfold toT; rw [if_pos hxin]; simp)
                      have hnc := own_int (ownsRow_block (w' := wt) HNUQ.out (fun g hg => by
                        have e : gn = g := Option.some.inj hg
                        subst e
                        exact HB6.out.block gn (by omega) (by omega))) (l := numsL r f.blocks.length) (i := j) (x := numB r j) (by unfold numsL; rw [List.getElem?_map, List.getElem?_range hjn]; rfl)
                      have hst := HS6.out.tos_put (k := q) (y := numB r j) (by omega) (numB_i64T r (by omega))
                      have HST : Hid (SL (wt.setCell ⟨bt, ot + q, none⟩ (.int .i64 (numB r j))).drew 1 (RIntB (fun y => y ≠ bb ∧ lo ≤ y ∧ y < t)) (some ⟨bt, ot, none⟩) ct (mixL (toT r f.blocks.length) kb.term.to (q + 1))) := Lib.hid (by
                        rw [← mixL_set HX.out, ← HT.out]; exact SIntsB.go (fun a v _ h => h) (fun _ h => h) hst)
                      have HBS : Hid (BB wq.heap.size bt wq (wt.setCell ⟨bt, ot + q, none⟩ (.int .i64 (numB r j))).drew) := Lib.hid (HB6.out.setCell (.inl rfl) _).drew
                      have HFS : Hid (FzC (wt.setCell ⟨bt, ot + q, none⟩ (.int .i64 (numB r j))).drew bt) := Lib.hid (HFQ.out.set _ _ _)
                      clear hst hxin
                      generalize hy : numB r j = y at *
                      go_upto_region 35 with fail
                      go_still_tail 9, (by kernel_rfl)
                      change wpList _ _ _ _ _ wt.drew
                      go_wp2_with fail
                      go_roundw
                      case rel => exact ⟨q + 1, by omega, by go_num, HBS.out, HST.out, fun _ => HFS.out⟩
                      case measure => simp [intOf]; omega
                    · have HT : Hid (mixL (toT r f.blocks.length) kb.term.to q = mixL (toT r f.blocks.length) kb.term.to (q + 1)) := Lib.hid (mixL_same HX.out (by unfold toT; rw [if_neg hxin]))
                      by_cases h0 : 0 ≤ x'
                      · have h1 : decide (x' < (f.blocks.length : Int)) = false := decide_eq_false (by omega)
                        clear hxin
                        go_wp2_with fail
                        go_roundw
                        case rel => exact ⟨q + 1, by omega, by go_num, HB6.out, by rw [← HT.out]; exact HS6.out, HF6.out⟩
                        case measure => simp [intOf]; omega
                      · clear hxin
                        go_wp2_with fail
                        go_roundw
                        case rel => exact ⟨q + 1, by omega, by go_num, HB6.out, by rw [← HT.out]; exact HS6.out, HF6.out⟩
                        case measure => simp [intOf]; omega
                  · obtain rfl : q = kb.term.to.length := by omega
                    have hmixE : mixL (toT r f.blocks.length) kb.term.to kb.term.to.length = kb.term.to.map (toT r f.blocks.length) := mixL_all (Nat.le_refl _)
                    have HTE : Hid (SL wt 1 (RIntB (fun y => y ≠ bb ∧ lo ≤ y ∧ y < t)) At ct (kb.term.to.map (toT r f.blocks.length))) := Lib.hid (by rw [← hmixE]; exact hs6)
                    clear hs6 hf6 hmixE
                    have hzZ : Z ≤ wq.heap.size := hzq
                    have HALL : Hid (∀ y, y < wl.heap.size → y ≠ bp → y ≠ bt → wt.heap[y]? = wl.heap[y]?) := Lib.hid (fun y h1 h2 h3 => (hb6.block y (by have := HPW.out; omega) h3).trans (hkq y h1 h2))
                    have hPl := HPW.out
                    have hgt := (hb6.block P hPq (by omega)).trans HG3.out
                    have p0 := cell_of_block hgt 0
                    have p1 := cell_of_block hgt 1
                    have p2 := cell_of_block hgt 2
                    have p3 := cell_of_block hgt 3
                    have hobt := (HALL.out (Hc + 1) (by omega) (by omega) (by omega)).trans HOB.out
                    have hcbt := (HALL.out Hc (by omega) (by omega) (by omega)).trans HCB.out
                    have o3 : wt.cell? ⟨Hc + 1, 3, none⟩ = some u := cell_of_block hobt 3
                    have hownt := ownsRow_block (w' := wt) HOU.out (fun g hg => HALL.out g (by have := HOU.out.lt g hg; omega) (by have := HOU.out.lt g hg; omega) (by have := HOU.out.lt g hg; omega))
                    have hbk : (blksK f.blocks r k).length ≤ 1000 := by rw [(blksK_facts (bs := f.blocks) r k hk).1]; have := cnt_le r k; omega
                    obtain ⟨mk, hmk⟩ : ∃ mk, mk = (blksK f.blocks r k).length := ⟨_, rfl⟩
                    have HMK := Lib.hid hmk
                    rw [← hmk] at hownt hbk
                    have HOWT := Lib.hid hownt
                    have HOBT := Lib.hid hobt
                    have HCBT := Lib.hid hcbt
                    have HB6' := Lib.hid hb6
                    have HZZ := Lib.hid hzZ
                    clear hkq hPl hgt hobt hcbt hmk hownt hb6 x0
                    go_wp2_with (at_builtin; refine wpList_append_lies _ rfl (.tmp 147) (.tmp 149) 23 rfl (Hc + 2) 49 i5 (.agg #[.slice none 0 0, .slice none 0 0, .int .i64 0, .int .i64 0, .slice none 0 0]) 5 88 Try.underlying23 HI.out.1 HI.out.2.1 HI.out.2.2.1 HI.out.2.2.2 rfl (by decide) _ _ _ rfl (HOWT.out.alloc _) ⟨wt.heap.size, 0, none⟩ 1 1 [.slice Ap kb.phis.length cp, .slice Ai kb.ins.length ci, .int .i64 kb.term.kind, .int .i64 kb.term.arg, .slice At kb.term.to.length ct] rfl rfl ?c1 ?c2 ?c0 ?c3 ?c4 ?c5 (wt.heap.size + 1) ?c6 ?_)
                    case c1 => exact news_cells wt #[.slice Ap kb.phis.length cp, .slice Ai kb.ins.length ci, .int .i64 kb.term.kind, .int .i64 kb.term.arg, .slice At kb.term.to.length ct] _ rfl
                    case c2 => simp [Value.oneCell']
                    case c0 => omega
                    case c3 => unfold maxLen; omega
                    case c4 => omega
                    case c5 => simp; omega
                    case c6 => simp
                    intro g cap wg howng hgrow hloc hltg
                    have hPl := HPW.out
                    have hgb : ∀ y, y < wt.heap.size → some y ≠ u.ownBlock → wg.heap[y]? = wt.heap[y]? := fun y h1 h2 => (hgrow.block y (by simp; omega) h2).trans (Below.heap_alloc _ _ _ h1)
                    have hul : ∀ y, some y = u.ownBlock → Hc + 2 ≤ y ∧ y < wl.heap.size := fun y hy => HOU.out.lt y hy.symm
                    have hobg := (hgb (Hc + 1) (by omega) (fun e => by have := hul _ e; omega)).trans HOBT.out
                    have q3 : wg.cell? ⟨Hc + 1, 3, none⟩ = some u := cell_of_block hobg 3
                    have qf3 : wg.frozen? ⟨Hc + 1, 3, none⟩ = false := free_of_block hobg 3
                    obtain ⟨wN, hwN⟩ : ∃ wN, wN = wg.setCell ⟨Hc + 1, 3, none⟩ (.slice (some ⟨g, 0, none⟩) (mk + 1) cap) := ⟨_, rfl⟩
                    have hset : ∀ y, y ≠ Hc + 1 → wN.heap[y]? = wg.heap[y]? := fun y hy => by rw [hwN]; exact Below.heap_setCell _ _ _ _ hy
                    have hobN : wN.heap[Hc + 1]? = some (.cells #[.int .i64 f.params, .int .i64 f.result, .slice Ar2 f.regs.length cr2, .slice (some ⟨g, 0, none⟩) (mk + 1) cap] 25 (0, 0)) := by
                      rw [hwN]; exact set_of_block (i := 3) (.slice (some ⟨g, 0, none⟩) (mk + 1) cap) hobg
                    have htN : ∀ y, y < wt.heap.size → some y ≠ u.ownBlock → y ≠ Hc + 1 → wN.heap[y]? = wt.heap[y]? := fun y h1 h2 h3 => (hset y h3).trans (hgb y h1 h2)
                    have hlN : ∀ y, y < wl.heap.size → y ≠ bp → y ≠ bt → some y ≠ u.ownBlock → y ≠ Hc + 1 → wN.heap[y]? = wl.heap[y]? := fun y h1 h2 h3 h4 h5 => (htN y (by omega) h4 h5).trans (HALL.out y h1 h2 h3)
                    have hu' : ∀ y, some y = (Value.slice (some ⟨g, 0, none⟩) (mk + 1) cap).ownBlock → some y = u.ownBlock ∨ wt.heap.size ≤ y := fun y hy => by
                      obtain rfl : y = g := Option.some.inj hy
                      rcases hloc with h | h
                      · exact .inl h.symm
                      · exact .inr (by omega)
                    have hNw := HN.out
                    have hszg : wt.heap.size ≤ wN.heap.size := by
                      have := hgrow.size; rw [hwN]; simp at this ⊢; omega
                    have hbelN : Below w.heap.size w wN := by
                      rw [hwN]
                      refine Below.setCell (Below.grown (Below.alloc ?_ (by omega) _) hgrow (by simp; omega) (fun y hy => by have := hul y hy.symm; omega)) (by show w.heap.size ≤ Hc + 1; omega) _
                      exact ((HBW9.out.trans (HB3.out.below (by have := HZW.out; omega) (by omega))).trans (HB6'.out.below (by omega) (by omega)))
                    have hphN := SPhisB.go (B := fun y => ((y ≠ bb ∧ t ≤ y ∧ y < p) ∨ Z ≤ y) ∧ y < wq.heap.size) (B' := BX l (k + 1) (Hc + 2) (.slice (some ⟨g, 0, none⟩) (mk + 1) cap)) (w' := wN)
                      (fun a v hb ha => (World.cell?_of_block ((htN a.block (by omega) (fun e => by have := hul _ e; have := hb.1; omega) (by have := hb.1; omega)).trans (HB6'.out.block a.block hb.2 (by have := hb.1; omega)))).trans ha)
                      (fun y hy => by
                        rcases hy.1 with h | h
                        · exact .inl ⟨k, _, by omega, HXL.out, by show lo ≤ y; omega, by show y < hi; omega⟩
                        · exact .inr ⟨by omega, fun e => by
                            have hy2 := hy.2
                            rcases hu' y e with h2 | h2
                            · have := hul y h2; omega
                            · omega⟩) (SPhisB.lt (SPhisS.toB HSE.out))
                    have hinN := SInssB.go (B := fun y => (y ≠ bb ∧ p ≤ y ∧ y < hi) ∧ y < wl.heap.size) (B' := BX l (k + 1) (Hc + 2) (.slice (some ⟨g, 0, none⟩) (mk + 1) cap)) (w' := wN)
                      (fun a v hb ha => (World.cell?_of_block (hlN a.block hb.2 (by have := hb.1; omega) (by have := hb.1; omega) (fun e => by have := hul _ e; have := hb.1; omega) (by have := hb.1; omega))).trans ha)
                      (fun y hy => .inl ⟨k, _, by omega, HXL.out, by show lo ≤ y; omega, by show y < hi; omega⟩) (SInssB.lt HS1.out)
                    have htoN := SIntsB.go (B := fun y => (y ≠ bb ∧ lo ≤ y ∧ y < t) ∧ y < wt.heap.size) (B' := BX l (k + 1) (Hc + 2) (.slice (some ⟨g, 0, none⟩) (mk + 1) cap)) (w' := wN)
                      (fun a v hb ha => (World.cell?_of_block (htN a.block hb.2 (fun e => by have := hul _ e; have := hb.1; omega) (by have := hb.1; omega))).trans ha)
                      (fun y hy => .inl ⟨k, _, by omega, HXL.out, by show lo ≤ y; omega, by show y < hi; omega⟩) (SIntsB.lt HTE.out)
                    have hrN := rows_keepX (i' := k + 1) (u' := .slice (some ⟨g, 0, none⟩) (mk + 1) cap) (wN := wN) HRW.out (fun y hy hbx => by
                      rcases hbx with ⟨j, x, h1, h2, h3, h4⟩ | ⟨h1, h2⟩
                      · have hbef : x.2.2 ≤ lo := HIV.out.before h1 h2 HXL.out
                        exact hlN y hy (by omega) (by omega) (fun e => by have := hul _ e; omega) (by omega)
                      · exact hlN y hy (by omega) (by omega) h2 (by omega)) (by omega) (fun y h1 h2 h3 e => by
                      rcases hu' y e with h | h
                      · exact h3 h
                      · omega)
                    have hrows : Rows 5 (CBlk (BX l (k + 1) (Hc + 2) (.slice (some ⟨g, 0, none⟩) (mk + 1) cap)) wN) (blksK f.blocks r (k + 1)) (cs ++ [.slice Ap kb.phis.length cp, .slice Ai kb.ins.length ci, .int .i64 kb.term.kind, .int .i64 kb.term.arg, .slice At kb.term.to.length ct]) := by
                      rw [HSU.out]
                      refine Rows.snoc (sz := 5) ?_ rfl hrN
                      exact ⟨Ap, cp, Ai, ci, At, ct, by simp [blkT], by rw [HAH.out] at hphN; exact hphN, hinN, htoN, HKD.out, HAR.out⟩
                    have hownN : wN.ownsRow (Hc + 2) 49 5 (.slice (some ⟨g, 0, none⟩) (mk + 1) cap) (blksK f.blocks r (k + 1)).length (cs ++ [.slice Ap kb.phis.length cp, .slice Ai kb.ins.length ci, .int .i64 kb.term.kind, .int .i64 kb.term.arg, .slice At kb.term.to.length ct]) := by
                      rw [HSU.out, List.length_append, ← HMK.out]
                      exact ownsRow_block howng (fun y hy => hset y (by have := (howng.lt y hy).1; omega))
                    have hfrN : FrX l bb Hc (k + 1) w5 wN := HFR.out.step HXL.out (fun y hy hc => hlN y (by omega) (by have hc' : y = bb ∨ ¬ (lo ≤ y ∧ y < hi) := hc; rcases hc' with h | h <;> omega) (by have hc' : y = bb ∨ ¬ (lo ≤ y ∧ y < hi) := hc; rcases hc' with h | h <;> omega) (fun e => by have := hul _ e; omega) (by omega))
                    have hcbN := (hlN Hc (by omega) (by omega) (by omega) (fun e => by have := hul _ e; omega) (by omega)).trans HCB.out
                    have HREL := Lib.hid (And.intro hbelN (And.intro hfrN (And.intro hcbN (And.intro hobN (And.intro hownN hrows)))))
                    have hszN : Hc + 2 ≤ wN.heap.size := by omega
                    rw [hwN] at HREL hszN
                    clear hgb hul hobg hset hobN htN hlN hu' hNw hszg hbelN hphN hinN htoN hrN hrows hownN hfrN hcbN howng hgrow hloc hwN hPl
                    go_wp2_with fail
                    go_roundw
                    case rel => exact ⟨k + 1, _, _, by omega, by go_num, HREL.out.1, hszN, HREL.out.2.1, HREL.out.2.2.1, HREL.out.2.2.2.1, HREL.out.2.2.2.2.1, HREL.out.2.2.2.2.2⟩
                    case measure => simp [intOf]; omega
        · obtain rfl : k = f.blocks.length := by omega
          obtain rfl := HRR.out
          have hNw := HN.out
          have hMMH := HM.out
          have hHcw := HHC.out
          have hbyr := (hlow (N + 1) (by omega)).trans HBY7.out
          have y0 := cell_of_block hbyr 0
          have y1 := cell_of_block hbyr 1
          have y2 := cell_of_block hbyr 2
          have y3 := cell_of_block hbyr 3
          have yf0 := free_of_block hbyr 0
          have yf1 := free_of_block hbyr 1
          have yf2 := free_of_block hbyr 2
          have yf3 := free_of_block hbyr 3
          have o0 := cell_of_block hob 0
          have o1 := cell_of_block hob 1
          have o2 := cell_of_block hob 2
          have o3 := cell_of_block hob 3
          have hrd := HRW.out.reads (R := RBlkB (fun y => N + 1 < y)) HOU.out (fun g o x c hg hb hx hc hcell => CBlk.reads (by omega) (CBlk.go (KeptB.of (Kept.refl _)) (fun y hy => by
            rcases hy with ⟨j, z, _, h2, h3, _⟩ | ⟨h1, _⟩
            · have := HIV.out.1 z (List.mem_of_getElem? h2); omega
            · omega) hx) hcell)
          obtain ⟨Ab', cb', rfl, hrs⟩ := hrd
          have hoth : ∀ y, y ≠ N + 1 → ((((wr.setCell ⟨N + 1, 0, none⟩ (.int .i64 f.params)).setCell ⟨N + 1, 1, none⟩ (.int .i64 f.result)).setCell ⟨N + 1, 2, none⟩ (.slice Ar2 f.regs.length cr2)).setCell ⟨N + 1, 3, none⟩ (.slice Ab' (blksK f.blocks (reachF f.blocks) f.blocks.length).length cb')).heap[y]? = wr.heap[y]? := fun y hy => sets4_other wr hy _ _ _ _
          have HFIN := Lib.hid (sets4_block hbyr (.int .i64 f.params) (.int .i64 f.result) (.slice Ar2 f.regs.length cr2) (.slice Ab' (blksK f.blocks (reachF f.blocks) f.blocks.length).length cb'))
          have HBL : Hid (SL ((((wr.setCell ⟨N + 1, 0, none⟩ (.int .i64 f.params)).setCell ⟨N + 1, 1, none⟩ (.int .i64 f.result)).setCell ⟨N + 1, 2, none⟩ (.slice Ar2 f.regs.length cr2)).setCell ⟨N + 1, 3, none⟩ (.slice Ab' (blksK f.blocks (reachF f.blocks) f.blocks.length).length cb')) 5 RBlk Ab' cb' (blksT f.blocks)) := Lib.hid
            (SL.imp RBlkB.plain (SBlksB.go (B := fun y => N + 1 < y) (B' := fun _ => True) (fun a v hb ha => (World.cell?_of_block (hoth a.block (by omega))).trans ha) (fun _ _ => trivial) hrs))
          have HRG : Hid (SL ((((wr.setCell ⟨N + 1, 0, none⟩ (.int .i64 f.params)).setCell ⟨N + 1, 1, none⟩ (.int .i64 f.result)).setCell ⟨N + 1, 2, none⟩ (.slice Ar2 f.regs.length cr2)).setCell ⟨N + 1, 3, none⟩ (.slice Ab' (blksK f.blocks (reachF f.blocks) f.blocks.length).length cb')) 1 RInt Ar2 cr2 f.regs) := Lib.hid
            (SL.imp RIntB.plain (SIntsB.go (B' := fun _ => True) (fun a v hb ha => (World.cell?_of_block ((hoth a.block (by have := hb.1; omega)).trans (hlow a.block hb.2))).trans ha) (fun _ _ => trivial) HREG.out))
          have HVN := Lib.hid (vs_of_own (xs := numsL (reachF f.blocks) f.blocks.length) (by
            rw [numsL_len]
            exact ownsRow_block (w' := ((((wr.setCell ⟨N + 1, 0, none⟩ (.int .i64 f.params)).setCell ⟨N + 1, 1, none⟩ (.int .i64 f.result)).setCell ⟨N + 1, 2, none⟩ (.slice Ar2 f.regs.length cr2)).setCell ⟨N + 1, 3, none⟩ (.slice Ab' (blksK f.blocks (reachF f.blocks) f.blocks.length).length cb'))) HNUM5.out (fun g hg => by
              have := HOWL.out g hg
              exact (hoth g (by omega)).trans (hlow g (by omega)))) (numsL_i64 _ (by omega)))
          have HBF : Hid (Below w.heap.size w ((((wr.setCell ⟨N + 1, 0, none⟩ (.int .i64 f.params)).setCell ⟨N + 1, 1, none⟩ (.int .i64 f.result)).setCell ⟨N + 1, 2, none⟩ (.slice Ar2 f.regs.length cr2)).setCell ⟨N + 1, 3, none⟩ (.slice Ab' (blksK f.blocks (reachF f.blocks) f.blocks.length).length cb'))) := Lib.hid
            ((((hbw.setCell (by show w.heap.size ≤ N + 1; omega) _).setCell (by show w.heap.size ≤ N + 1; omega) _).setCell (by show w.heap.size ≤ N + 1; omega) _).setCell (by show w.heap.size ≤ N + 1; omega) _)
          clear hNw hMMH hHcw hbyr hrs hoth hbw hfr hcb hob hown hrows hlow c3r
          go_wp2_with fail
          refine bodyPost_ret (results_cell_tmp_ rfl _ _ (N + 1) 25 #[.int .i64 f.params, .int .i64 f.result, .slice Ar2 f.regs.length cr2, .slice Ab' (blksK f.blocks (reachF f.blocks) f.blocks.length).length cb'] (0, 0) _ (by rfl) HFIN.out Try.underlying25 (by rfl) (by obtain ⟨i, h1, _, h3, _⟩ := info_parts Try.info25; rw [h1]; exact congrArg some h3)) rfl ?_
          exact ⟨⟨_, _, rfl, ⟨Ar2, cr2, Ab', cb', rfl, HRG.out, HBL.out, HP.out, HR.out⟩, HVN.out⟩, HBF.out⟩
end Go.Proofs.Ytooblmiffgjmjaa
