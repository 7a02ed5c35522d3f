/- All values of a table, by content. -/
import Derived.Test.YtcjmhdneelmbhaaTbGJ
import Derived.Laws.AppendOwnNone
import Derived.Deep.AppendLies
import Derived.OrdersHeld
import Derived.RegionTactic
import Derived.Lib.Hide
namespace Go.Proofs.Ytcjmhdneelmbhaa
open Go.ChangeShapes Go.WideShapes Go.RowKit Go.Deep
set_option linter.unusedVariables false

theorem bitsLenV (k : Int) (w : World) (h0 : 0 ≤ k) (h1 : k ≤ 18446744073709551615) : Calls Try.prog 47 #[.int .u64 k] w fun e w' => e = .returned (.int .i64 (Lib.bitLen k.toNat : Nat)) ∧ w' = w :=
  Any.bits_Len (SlLaysF0.n15.bits (P := Try.prog) (ρ := sfv_ren) { sfv with }) k w h0 h1
theorem insSortV_nil (cb : Value) (w : World) :
    Calls Try.prog 63 #[.slice none 0 0, .int .i64 0, .int .i64 0, cb] w fun e w' => e = .returned (.tuple #[]) ∧ w' = w := by
  go_enter Try.func63, Try.ntmps63
  go_wp2
  refine wp_loop_rounds 1 ?_
  rw [rounds_succ]
  go_wp2
  go_end0
  exact ⟨rfl, rfl⟩
set_option maxRecDepth 100000 in
theorem pdqSortV_nil (cb : Value) (w : World) :
    Calls Try.prog 46 #[.slice none 0 0, .int .i64 0, .int .i64 0, .int .i64 0, cb] w fun e w' => e = .returned (.tuple #[]) ∧ w' = w := by
  go_enter Try.func46, Try.ntmps46
  go_wp2
  refine wp_loop_rounds 1 ?_
  rw [rounds_succ]
  go_wp2_with (first | (go_at_call 63; refine (insSortV_nil _ _).mono ?_; rintro e w' ⟨rfl, rfl⟩))
  refine bodyPost_ret (results_none rfl _ _ _) rfl ?_
  exact ⟨rfl, rfl⟩
set_option maxRecDepth 100000 in
theorem sortV_nil (cb : Value) (w : World) :
    Calls Try.prog 32 #[.slice none 0 0, cb] w fun e w' => e = .returned (.tuple #[]) ∧ w' = w := by
  have hLen : ∀ w, Calls Try.prog 47 #[.int .u64 0] w fun e w' => e = .returned (.int .i64 0) ∧ w' = w := fun w => bitsLenV 0 w (by omega) (by omega)
  go_enter Try.func32, Try.ntmps32
  go_wp2_with (first
    | (go_at_call 47; refine (hLen _).mono ?_; rintro e w' ⟨rfl, rfl⟩)
    | (go_at_call 46; refine (pdqSortV_nil _ _).mono ?_; rintro e w' ⟨rfl, rfl⟩))
  go_end0
  exact ⟨rfl, rfl⟩
/-- The sort of any row of values of the caller's own. -/
theorem sortVals_any {w : World} {K : Nat} {v : Value} {l : List VD} (h : w.ownsRow K 69 2 v l.length (cellsV l)) (hl : l.length ≤ 1000000) :
    Calls Try.prog 32 #[v, .func (.func 33) #[] #[]] w fun e w' =>
      e = .returned (.tuple #[]) ∧ w'.ownsRow K 69 2 v l.length (cellsV (l.mergeSort leV)) ∧ GroD w w' v v := by
  have h0 := h
  rcases h.2 with ⟨rfl, h1⟩ | ⟨g, cap, cur, rfl, -⟩
  · obtain rfl : l = [] := List.length_eq_zero_iff.1 h1
    refine (sortV_nil _ w).mono ?_
    rintro e w' ⟨rfl, rfl⟩
    exact ⟨rfl, by simpa using h0, rfl, rfl, rfl, Nat.le_refl _, fun _ _ _ => rfl, fun _ h => .inl h⟩
  · exact sortVals_some h0 hl

theorem zeroCells_size (z : Array Value) (n : Nat) : (Builtin.zeroCells z n).size = n * z.size := by
  unfold Builtin.zeroCells
  simp
/-- Grow of nothing. -/
theorem grow_any (n : Nat) (hn : n ≤ 1000000) (w : World) :
    Calls Try.prog 45 #[.slice none 0 0, .int .i64 n] w fun e w' => ∃ v, e = .returned v ∧ w'.ownsRow w.heap.size 69 2 v 0 [] ∧ Below w.heap.size w w' := by
  rcases Nat.eq_zero_or_pos n with rfl | hp
  · refine Calls.mono (Any8.slices_Grow_room grw none 0 0 0 w (Nat.le_refl _) (by omega) (by omega) (by omega)) ?_
    rintro e w' ⟨rfl, rfl⟩
    exact ⟨_, rfl, World.ownsRow_nil _ _ _ _, Below.refl _ _⟩
  · obtain ⟨i0, hi0, hz0, hz1, hz2⟩ := info_parts Try.infoVal69
    refine Calls.mono (Any8.slices_Grow_grow grw i0 (.agg #[.int .i64 0, .int .i64 0]) hi0 hz0 (by rw [hz1]; omega) none 0 0 n [] w (Nat.le_refl _) (by omega) (by rw [hz2]; omega) (by omega) (by simp) (fun _ => rfl) (fun a h => by cases h)) ?_
    rintro e w' ⟨rfl, rfl⟩
    have h1 : 0 + n ≤ grownCap w (0 + n) 0 69 := grownCap_ge w _ _ _
    have h2 := grownCap_le_maxLen w (0 + n) 0 69 (by unfold maxLen; omega)
    refine ⟨_, rfl, ⟨rfl, .inr ⟨w.heap.size, _, _, rfl, Nat.le_refl _, heap_alloc_new w.drew _, Nat.zero_le _, h2, ?_, by simp⟩⟩, ((Below.refl _ w).drew).alloc (Nat.le_refl _) _⟩
    rw [Array.size_append, Array.size_append, zeroCells_size, zeroCells_size]
    show (0 + (0 + n - 0) * 2 + (grownCap w (0 + n) 0 69 - (0 + n)) * 2) = grownCap w (0 + n) 0 69 * 2
    omega
/-- An append of nothing. -/
theorem append_empty {w : World} {base : Nat} {t ty e : TypeId} {i : TypeInfo} {size : Nat} (ht : Try.prog.underlying t = some (.slice e)) (hi : Try.prog.info? e = some i) {v : Value} {n : Nat} {xs : List Value} (hown : w.ownsRow base e size v n xs) (A : Option Addr) (c : Nat) :
    (Builtin.append_ #[t, t] ty #[v, .slice A 0 c]).run Try.prog w = .ok v w := by
  cases A with
  | none =>
    rcases hown.2 with ⟨rfl, rfl⟩ | ⟨g, cap, cur, rfl, _, _, hnc, _⟩
    · simp [Builtin.append_, run_underlying ht, sizeOf, typeInfo, hi, Builtin.lenOf, Builtin.firstCells]
    · simp [Builtin.append_, run_underlying ht, sizeOf, typeInfo, hi, Builtin.lenOf, Builtin.firstCells, hnc, storeCells]
  | some a =>
    rcases hown.2 with ⟨rfl, rfl⟩ | ⟨g, cap, cur, rfl, _, _, hnc, _⟩
    · simp [Builtin.append_, run_underlying ht, sizeOf, typeInfo, hi, Builtin.lenOf, Builtin.firstCells, loadCells, loadCellsFrom]
    · simp [Builtin.append_, run_underlying ht, sizeOf, typeInfo, hi, Builtin.lenOf, Builtin.firstCells, hnc, storeCells, loadCells, loadCellsFrom]
/-- How many values the first j drawers have. -/
def preV (L : Nat → List VD) (j : Nat) : List VD := (List.range j).flatMap L
theorem preV_succ (L : Nat → List VD) (j : Nat) : preV L (j + 1) = preV L j ++ L j := by
  unfold preV
  rw [List.range_succ, List.flatMap_append]
  simp
theorem pre_mono (L : Nat → List VD) {a b : Nat} (h : a ≤ b) : (preV L a).length ≤ (preV L b).length := by
  induction h with
  | refl => exact Nat.le_refl _
  | step _ ih => rw [preV_succ, List.length_append]; omega
theorem preV_all (ds : List (List VD)) : preV (fun d => ds.getD d []) ds.length = ds.flatten := by
  unfold preV
  rw [List.flatMap_def]
  congr 1
  apply List.ext_getElem (by simp)
  intro i h1 h2
  have hi : i < ds.length := by simpa using h1
  simp [hi]
/-- A row of values of the call's own is told. -/
def ToldRow (w : World) (l : List VD) (e : Ending) (w' : World) : Prop := ∃ v, e = .returned v ∧ w'.ownsRow w.heap.size 69 2 v l.length (cellsV l) ∧ Below w.heap.size w w'
set_option maxRecDepth 100000 in
set_option maxHeartbeats 4000000 in
theorem concat_any {w : World} {K g n : Nat} {U : Nat → Value} {L : Nat → List VD} (hr : w.rowIs g 59 n U) (hp : ∀ d, d < n → w.ownsRow K 69 2 (U d) (L d).length (cellsV (L d))) (hn : n ≤ 16) (ht : (preV L n).length ≤ 4096) :
    Calls Try.prog 31 #[.slice (some ⟨g, 0, none⟩) n n] w (ToldRow w (preV L n)) := by
  have HR := Lib.hid hr
  have HP := Lib.hid hp
  have HT := Lib.hid ht
  clear hr hp ht
  go_enter Try.func31, Try.ntmps31
  go_wp2_with fail
  go_loop [3, 11] (fun s i => ∃ j : Nat, j ≤ n ∧ i = .int .i64 j ∧ ∃ q : Nat, s = .int .i64 q ∧ Hid (q = (preV L j).length)) (fun _ i => n - (intOf i).toNat)
  case atStart => exact ⟨0, Nat.zero_le _, rfl, 0, rfl, Lib.hid rfl⟩
  case round =>
    obtain ⟨j, hj, rfl, q, rfl, hq⟩ := hrel
    by_cases hjn : j < n
    · obtain ⟨A, c, hU⟩ : ∃ A c, U j = .slice A (L j).length c := own_sliceL (HP.out j hjn)
      have hc := HR.out.cell hjn
      rw [hU] at hc
      have hl : (preV L (j + 1)).length = (preV L j).length + (L j).length := by rw [preV_succ, List.length_append]
      have hle : (preV L (j + 1)).length ≤ 4096 := Nat.le_trans (pre_mono L hjn) HT.out
      have hq1 : (q : Int) + ((L j).length : Int) ≤ 4096 := by have := hq.out; omega
      have HN : Hid (q + (L j).length = (preV L (j + 1)).length) := Lib.hid (by rw [hl, ← hq.out])
      have hnn : ¬ ((q : Int) + ((L j).length : Int) < 0) := by omega
      have dnn : decide ((q : Int) + ((L j).length : Int) < 0) = false := decide_eq_false hnn
      have hj0 : (0 : Int) ≤ j := by omega
      have hj1 : (j : Int) < n := by omega
      clear hl hle hU hq
      go_wp2_with fail
      go_round
      case rel => exact ⟨j + 1, hjn, by go_num, q + (L j).length, by go_num, HN⟩
      case measure => simp [intOf]; omega
    · obtain rfl : j = n := by omega
      have HQ : Hid (q ≤ 4096) := Lib.hid (by rw [hq.out]; exact HT.out)
      clear hq hj hjn
      go_wp2_with fail
      refine (grow_any q (by have := HQ.out; omega) w).mono ?_
      rintro e w1 ⟨v, rfl, hown, hb1⟩
      have HO := Lib.hid hown
      have HB := Lib.hid hb1
      clear hown hb1
      go_wp2_with fail
      clear HQ
      go_loopw [6, 27] (fun sv i wr => ∃ k : Nat, k ≤ j ∧ i = .int .i64 k ∧ ∃ v2, sv = v2 ∧ Hid (wr.ownsRow w.heap.size 69 2 v2 (preV L k).length (cellsV (preV L k))) ∧ Hid (Below w.heap.size w wr)) (fun _ i _ => j - (intOf i).toNat)
      case atStart => exact ⟨0, Nat.zero_le _, rfl, v, rfl, HO, HB⟩
      case round =>
        obtain ⟨k, hk, rfl, v2, hv2, HOr, HBr⟩ := hrel
        obtain rfl := hv2.symm
        by_cases hkj : k < j
        · obtain ⟨A, c, hU⟩ : ∃ A c, U k = .slice A (L k).length c := own_sliceL (HP.out k hkj)
          have hc := (World.cell?_of_block (a := ⟨g, k, none⟩) (HBr.out.block g HR.out.lt)).trans (HR.out.cell hkj)
          rw [hU] at hc
          have hl : (preV L (k + 1)).length = (preV L k).length + (L k).length := by rw [preV_succ, List.length_append]
          have hle : (preV L (k + 1)).length ≤ 4096 := Nat.le_trans (pre_mono L hkj) HT.out
          have HUK := Lib.hid hU
          have hk0 : (0 : Int) ≤ k := by omega
          have hk1 : (k : Int) < j := by omega
          have HLE := Lib.hid (And.intro hl hle)
          clear hl hle hU
          cases hLk : L k with
          | nil =>
            have hc0 := hc
            rw [hLk] at hc0
            have hrun : ∀ ty, (Builtin.append_ #[59, 59] ty #[v2, .slice A 0 c]).run Try.prog wr = .ok v2 wr := fun ty => by
              obtain ⟨i0, hi0, -⟩ := info_parts Try.infoVal69
              exact append_empty Try.underlying59 hi0 HOr.out A c
            have HN : Hid (preV L (k + 1) = preV L k) := Lib.hid (by rw [preV_succ, hLk, List.append_nil])
            clear hc hLk
            go_wp2_with (at_builtin; refine Lib.wpList_append_run _ rfl _ _ _ _ rfl _ _ rfl rfl _ _ (hrun _) ?_)
            go_roundw
            case rel => exact ⟨k + 1, hkj, by go_num, _, rfl, by rw [HN.out]; exact HOr, HBr⟩
            case measure => simp [intOf]; omega
          | cons x0 r0 =>
            obtain ⟨b, hA⟩ : ∃ b, A = some ⟨b, 0, none⟩ := by
              rcases (HP.out k hkj).2 with ⟨_, h0⟩ | ⟨b, c', cur, e, -⟩
              · rw [hLk] at h0; cases h0
              · rw [HUK.out] at e
                simp only [Value.slice.injEq] at e
                exact ⟨b, e.1⟩
            subst hA
            have HLK : Hid (0 < (L k).length) := Lib.hid (by rw [hLk]; simp)
            clear hLk
            have hown := HP.out k hkj
            rw [HUK.out] at hown
            have hownr : wr.ownsRow K 69 2 (.slice (some ⟨b, 0, none⟩) (L k).length c) (L k).length (cellsV (L k)) := ownsRow_block hown fun y hy => HBr.out.block y (hown.lt y hy).2
            have HWR := Lib.hid hownr
            obtain ⟨i0, hi0, hz0, hz1, hz2⟩ := info_parts Try.infoVal69
            have HI0 := Lib.hid (And.intro hi0 (And.intro hz0 (And.intro hz1 hz2)))
            clear hown hownr hi0 hz0 hz1 hz2
            go_wp2_with (at_builtin; refine wpList_append_lies _ rfl _ _ _ rfl w.heap.size 69 i0 (.agg #[.int .i64 0, .int .i64 0]) 2 16 Try.underlying59 HI0.out.1 HI0.out.2.1 HI0.out.2.2.1 HI0.out.2.2.2 rfl (by decide) _ _ _ rfl HOr.out ⟨b, 0, none⟩ (L k).length c (cellsV (L k)) rfl (cellsV_len _) (fun jj u hu => HWR.out.cells (g := b) rfl jj u hu) (fun u hu => cellsV_one hu) HLK.out (by have := HLE.out; unfold maxLen; omega) (by have := HLE.out; omega) HBr.out.size wr.heap.size rfl ?_)
            intro g' cap' w8 hown8 hgrow8 hloc8 hlt8
            have HO8 : Hid (w8.ownsRow w.heap.size 69 2 (.slice (some ⟨g', 0, none⟩) (preV L (k + 1)).length cap') (preV L (k + 1)).length (cellsV (preV L (k + 1)))) := Lib.hid (by rw [HLE.out.1, preV_succ, cellsV_append]; exact hown8)
            have HB8 : Hid (Below w.heap.size w w8) := Lib.hid (HBr.out.grown hgrow8 HBr.out.size (fun y hy => (HOr.out.lt y hy).1))
            rw [← HLE.out.1]
            clear hown8 hgrow8 hloc8 hlt8
            go_wp2_with fail
            go_roundw
            case rel => exact ⟨k + 1, hkj, by go_num, _, rfl, HO8, HB8⟩
            case measure => simp [intOf]; omega
        · obtain rfl : k = j := by omega
          clear hk hkj
          go_wp2_with fail
          go_ret
          exact ⟨_, rfl, HOr.out, HBr.out⟩
theorem values_any {w : World} {K b g bm n : Nat} {U : Nat → Value} {ds : List (List VD)} (h : TabM w K b g bm n U ds) :
    Calls Try.prog 18 #[.pointer (some ⟨b, 0, none⟩)] w (ToldRow w (valsV ds)) := by
  have c0 := h.cells.1
  have hlen := h.ok.len
  have hpre : preV (fun d => ds.getD d []) n = ds.flatten := by rw [← hlen]; exact preV_all ds
  have htot : ds.flatten.length ≤ 4096 := h.ok.tot
  have HC := Lib.hid (concat_any (w := w) (K := K) (g := g) (n := n) (U := U) (L := fun d => ds.getD d []) h.row h.pool.own h.ok.n16 (by rw [hpre]; exact htot))
  have HPRE := Lib.hid hpre
  have HTOT := Lib.hid htot
  clear h hpre htot hlen
  go_enter Try.func18, Try.ntmps18
  go_wp2_with fail
  refine HC.out.mono ?_
  rintro e w1 ⟨v, rfl, hown, hb1⟩
  rw [HPRE.out] at hown
  have HS := Lib.hid (sortVals_any hown (by have := HTOT.out; omega))
  have HO := Lib.hid hown
  have HB := Lib.hid hb1
  clear hown hb1
  go_wp2_with fail
  refine HS.out.mono ?_
  rintro e w2 ⟨rfl, hown2, hg2⟩
  have HO2 : Hid (w2.ownsRow w.heap.size 69 2 v (valsV ds).length (cellsV (valsV ds))) := Lib.hid (by rw [vals_len]; exact hown2)
  have HB2 : Hid (Below w.heap.size w w2) := Lib.hid ⟨hg2.os.trans HB.out.os, hg2.tape.trans HB.out.tape, hg2.output.trans HB.out.output, Nat.le_trans HB.out.size hg2.size, fun k hk => (hg2.block k (Nat.lt_of_lt_of_le hk HB.out.size) (fun e => by have := (HO.out.lt k e).1; omega)).trans (HB.out.block k hk)⟩
  clear hown2 hg2
  go_wp2_with fail
  go_ret
  exact ⟨v, rfl, HO2.out, HB2.out⟩
end Go.Proofs.Ytcjmhdneelmbhaa

/- Ranks: each handle's place by content. -/
namespace Go.Proofs.Ytcjmhdneelmbhaa
open Go.ChangeShapes Go.WideShapes Go.RowKit Go.Deep
set_option linter.unusedVariables false

theorem run_makeMap_hint {P : Program} {t k e : TypeId} (ht : P.underlying t = some (.map k e)) (n : Int) (w : World) : (Instr.makeMap t (some (.int .i64 n))).run P w = .ok (.map (some w.heap.size)) (w.alloc (.map #[] 0)) := by
  simp [Instr.makeMap, run_underlying ht, asInt, asIntOf, Result.andThen]
/-- The first k values' handles have their places. -/
structure RkUp (n : Nat) (ds : List (List VD)) (f : Int → Option Int) (k : Nat) : Prop where
  at_ : ∀ i x, i < k → (valsV ds)[i]? = some x → f (hV n ds x : Int) = some (i : Int)
  only : ∀ h : Int, (f h).isSome = true → ∃ i x, i < k ∧ (valsV ds)[i]? = some x ∧ h = (hV n ds x : Int)
theorem RkUp.start (n : Nat) (ds : List (List VD)) : RkUp n ds (fun _ => none) 0 := ⟨fun i x h => by omega, fun h e => by cases e⟩
theorem RkUp.fresh {n : Nat} {ds : List (List VD)} {f : Int → Option Int} {k : Nat} (h : RkUp n ds f k) (T : TbOk n ds) {x : VD} (hx : (valsV ds)[k]? = some x) : (f (hV n ds x : Int)).isSome = false := by
  cases e : (f (hV n ds x : Int)).isSome with
  | false => rfl
  | true =>
    obtain ⟨i, y, hi, hy, hh⟩ := h.only _ e
    have a := T.mem_vals.1 (List.mem_of_getElem? hx)
    have b := T.mem_vals.1 (List.mem_of_getElem? hy)
    obtain rfl := T.h_inj a b (by omega)
    have h1 := (List.getElem?_eq_some_iff.1 hx)
    have h2 := (List.getElem?_eq_some_iff.1 hy)
    have h3 := List.pairwise_iff_getElem.1 T.vals_nodup i k h2.1 h1.1 (by omega)
    exact absurd (h2.2.trans h1.2.symm) h3
theorem RkUp.step {n : Nat} {ds : List (List VD)} {f : Int → Option Int} {k : Nat} (h : RkUp n ds f k) (T : TbOk n ds) {x : VD} (hx : (valsV ds)[k]? = some x) : RkUp n ds (putF f (hV n ds x : Int) (k : Int)) (k + 1) := by
  refine ⟨fun i y hi hy => ?_, fun z hz => ?_⟩
  · unfold putF
    by_cases e : i = k
    · subst e
      rw [hx] at hy
      rw [Option.some.inj hy, if_pos rfl]
    · rw [if_neg (fun q => ?_)]
      · exact h.at_ i y (by omega) hy
      · have h1 := h.fresh T hx
        rw [← q, h.at_ i y (by omega) hy] at h1
        cases h1
  · unfold putF at hz
    by_cases e : z = (hV n ds x : Int)
    · exact ⟨k, x, by omega, hx, e⟩
    · rw [if_neg e] at hz
      obtain ⟨i, y, hi, hy⟩ := h.only z hz
      exact ⟨i, y, by omega, hy⟩
def ToldRk (w : World) (n : Nat) (ds : List (List VD)) (e : Ending) (w' : World) : Prop :=
  ∃ br c f, e = .returned (.map (some br)) ∧ w.heap.size ≤ br ∧ c ≤ 4096 ∧ MpI w' br c f (totV ds) ∧ RkUp n ds f (totV ds) ∧ Below w.heap.size w w'

set_option maxRecDepth 100000 in
set_option maxHeartbeats 4000000 in
theorem ranks_any {w : World} {K b g bm n : Nat} {U : Nat → Value} {ds : List (List VD)} (h : TabM w K b g bm n U ds) :
    Calls Try.prog 22 #[.pointer (some ⟨b, 0, none⟩)] w (ToldRk w n ds) := by
  have HT := Lib.hid h
  have hmk := fun (z : Int) (u : World) => run_makeMap_hint (P := Try.prog) Try.underlying70 z u
  have hbl := (h.lt (.inl rfl)).2
  obtain ⟨N, hN⟩ : ∃ N, N = totV ds := ⟨_, rfl⟩
  have hN4 : N ≤ 4096 := by rw [hN]; exact h.ok.tot
  have HNN := Lib.hid hN
  clear h hN
  go_enter Try.func22, Try.ntmps22
  go_wp2_with fail
  refine (len_any HT.out).mono ?_
  rintro e w1 ⟨rfl, rfl⟩
  go_wp2_with fail
  obtain ⟨wM, hwM⟩ : ∃ wM, wM = w1.alloc (.map #[] 0) := ⟨_, rfl⟩
  have HM0 : Hid (MpI wM w1.heap.size 0 (fun _ => none) 0) := Lib.hid (by rw [hwM]; exact MpI.made w1)
  have HBM : Hid (Below w1.heap.size w1 wM) := Lib.hid (by rw [hwM]; exact (Below.refl _ _).alloc (Nat.le_refl _) _)
  have hzM : wM.heap.size = w1.heap.size + 1 := by rw [hwM]; simp
  rw [← hwM]
  obtain ⟨br, hbr⟩ : ∃ br, br = w1.heap.size := ⟨_, rfl⟩
  rw [← hbr] at HM0 ⊢
  have HZ := Lib.hid (And.intro hzM hbr)
  clear hwM hzM hbr hmk
  refine (values_any (HT.out.below HBM.out)).mono ?_
  rintro e w2 ⟨v, rfl, hown, hb2⟩
  rw [vals_len, ← HNN.out] at hown
  obtain ⟨A, cv, hv⟩ := own_sliceL hown
  subst hv
  have HO := Lib.hid hown
  have HB2 := Lib.hid hb2
  have HB12 : Hid (Below w1.heap.size w1 w2) := Lib.hid (HBM.out.trans (hb2.mono HBM.out.size))
  have HM2 : Hid (MpI w2 br 0 (fun _ => none) 0) := Lib.hid (HM0.out.kept (hb2.block br HM0.out.lt))
  clear hown hb2
  go_wp2_with fail
  go_loopw [12] (fun i wr => ∃ (k c : Nat) (f : Int → Option Int), k ≤ N ∧ i = .int .i64 k ∧ c ≤ k ∧ Hid (MpI wr br c f k) ∧ Hid (RkUp n ds f k) ∧ Hid (FrX (fun y => y = br) w2 wr)) (fun i _ => N - (intOf i).toNat)
  case atStart => exact ⟨0, 0, _, Nat.zero_le _, rfl, Nat.le_refl _, HM2, Lib.hid (RkUp.start n ds), Lib.hid (FrX.refl _ _)⟩
  case round =>
    obtain ⟨k, c, f, hk, rfl, hck, HMr, HRr, HFr⟩ := hrel
    have hbrlt := HMr.out.lt
    by_cases hkN : k < N
    · obtain ⟨x, hx⟩ : ∃ x, (valsV ds)[k]? = some x := ⟨_, List.getElem?_eq_getElem (by rw [vals_len, ← HNN.out]; exact hkN)⟩
      obtain ⟨gv, hA⟩ : ∃ gv, A = some ⟨gv, 0, none⟩ := by
        rcases HO.out.2 with ⟨_, h0⟩ | ⟨gv, c', cur, e, -⟩
        · omega
        · simp only [Value.slice.injEq] at e
          exact ⟨gv, e.1⟩
      subst hA
      have hgv := HO.out.lt gv rfl
      have hgv2 : wr.heap[gv]? = w2.heap[gv]? := HFr.out.block gv hgv.2 (fun e => by have := HZ.out; omega)
      have hca := cellsV_at hx
      have e0 : wr.cell? ⟨gv, k * 2, none⟩ = some (.int .i64 x.1) := by
        rw [World.cell?_of_block (a := ⟨gv, k * 2, none⟩) hgv2, HO.out.cellAt _ (by omega)]; exact hca.1
      have e1 : wr.cell? ⟨gv, k * 2 + 1, none⟩ = some (.int .i64 x.2) := by
        rw [World.cell?_of_block (a := ⟨gv, k * 2 + 1, none⟩) hgv2, HO.out.cellAt _ (by omega)]; exact hca.2
      have hin : inV n ds x = true := HT.out.ok.mem_vals.1 (List.mem_of_getElem? hx)
      have HX := Lib.hid (And.intro hx hin)
      have hk0 : (0 : Int) ≤ k := by omega
      have hk1 : (k : Int) < N := by omega
      have c1 := HT.out.cells.2
      have hb12 := HB12.out
      have HBr : Hid (Below w1.heap.size w1 wr) := Lib.hid (hb12.trans (HFr.out.below hb12.size (fun y hy => by have := HZ.out; omega)))
      clear hgv2 hca hx hin hb12
      go_upto_region 5 with fail
      obtain ⟨wA, hwA⟩ : ∃ wA, wA = wr.alloc (.cells #[.int .i64 x.1, .int .i64 x.2] 69) := ⟨_, rfl⟩
      have hbA : Below wr.heap.size wr wA := by rw [hwA]; exact (Below.refl _ _).alloc (Nat.le_refl _) _
      have g0 : wA.cell? ⟨wr.heap.size, 0, none⟩ = some (.int .i64 x.1) := by rw [hwA]; simp
      have g1 : wA.cell? ⟨wr.heap.size, 1, none⟩ = some (.int .i64 x.2) := by rw [hwA]; simp
      rw [← hwA]
      have HBA : Hid (Below w1.heap.size w1 wA) := Lib.hid (HBr.out.trans (hbA.mono HBr.out.size))
      have HFA : Hid (FrX (fun y => y = br) w2 wA) := Lib.hid (HFr.out.trans (FrX.of_below hbA))
      have HTA : Hid (TabM wA K b g bm n U ds) := Lib.hid (HT.out.below HBA.out)
      have c1 := HTA.out.cells.2
      have hiv : IV x := HT.out.in_iv HX.out.2
      have hlk : (Instr.lookup 90 (.map (some bm)) (.agg #[.int .i64 x.1, .int .i64 x.2]) false).run Try.prog wA.drew = .ok (.int .i64 (hV n ds x : Int)) wA.drew := by
        have := (HTA.out.map.kept (w' := wA.drew) rfl).look1 hiv
        rw [if_pos HX.out.2] at this
        exact this
      have hMA : MpI wA.drew br c f k := (HMr.out.kept (hbA.block br hbrlt)).kept rfl
      have hh := HT.out.ok.h_lt HX.out.2
      obtain ⟨w9, hrun9, hm9, hg9, hz9⟩ := hMA.store (by unfold maxLen; omega) (x := (hV n ds x : Int)) (y := (k : Int)) (by unfold I64; omega) (by unfold I64; omega)
      rw [HRr.out.fresh HT.out.ok HX.out.1] at hm9
      have HM9 : Hid (MpI w9 br (c + 1) (putF f (hV n ds x : Int) (k : Int)) (k + 1)) := Lib.hid hm9
      have HR9 : Hid (RkUp n ds (putF f (hV n ds x : Int) (k : Int)) (k + 1)) := Lib.hid (HRr.out.step HT.out.ok HX.out.1)
      have HF9 : Hid (FrX (fun y => y = br) w2 w9) := Lib.hid (HFA.out.drew.grown hg9 (fun y hy => .inl (by simpa using hy.symm)))
      generalize (hV n ds x : Int) = hx at *
      clear hwA hbA hiv hMA hh hm9 hg9 hz9 e0 e1
      go_still_tail 8, (by kernel_rfl)
      change wpList _ _ _ _ _ wA.drew
      go_wp2_with fail
      go_roundw
      case rel => exact ⟨k + 1, c + 1, _, hkN, by go_num, by omega, HM9, HR9, HF9⟩
      case measure => simp [intOf]; omega
    · obtain rfl : k = N := by omega
      clear hk hkN
      go_wp2_with fail
      go_ret
      exact ⟨br, c, f, rfl, by have := HZ.out; omega, by omega, by rw [← HNN.out]; exact HMr.out, by rw [← HNN.out]; exact HRr.out, HB12.out.trans (HFr.out.below HB12.out.size (fun y hy => by have := HZ.out; omega))⟩
end Go.Proofs.Ytcjmhdneelmbhaa

/- A region that draws its order, whose last operation waits for all others: the others first, in whatever order, with a condition on the world that need not hold behind the last one. Over any program. -/
namespace Go.Proofs.Ytcjmhdneelmbhaa
open Go
set_option linter.unusedVariables false

section
variable {P : Program} {ops : Array Oper} {Q : Exit → Act → World → Prop} {md : Region.Mode} {S : World → Prop}

/-- Edges lead to what stands ahead in the text. -/
def downB (md : Region.Mode) (ops : Array Oper) : Bool :=
  (List.range ops.size).all fun i => ((ops[i]?).map fun o => o.after.all fun e => !Region.binds md e || decide (e.on < i)).getD true
/-- Each but number L is waited for by one behind it. -/
def feedsB (md : Region.Mode) (ops : Array Oper) (L : Nat) : Bool :=
  (List.range L).all fun i => (List.range (L + 1)).any fun j => decide (i < j) && ((ops[j]?).map fun o => o.after.any fun e => Region.binds md e && decide (e.on = i)).getD false

theorem downB_spec (h : downB md ops = true) {i : Nat} {o : Oper} (ho : ops[i]? = some o) : ∀ e ∈ o.after, Region.binds md e = true → e.on < i := by
  intro e he hb
  unfold downB at h
  have hi : i < ops.size := (Array.getElem?_eq_some_iff.1 ho).1
  have h1 := List.all_eq_true.1 h i (List.mem_range.2 hi)
  rw [ho] at h1
  simp only [Option.map_some, Option.getD_some, Array.all_eq_true_iff_forall_mem] at h1
  have h2 := h1 e he
  simpa [hb] using h2
theorem feedsB_spec {L : Nat} (h : feedsB md ops L = true) {i : Nat} (hi : i < L) : ∃ j o e, i < j ∧ j ≤ L ∧ ops[j]? = some o ∧ e ∈ o.after ∧ Region.binds md e = true ∧ e.on = i := by
  unfold feedsB at h
  have h1 := List.all_eq_true.1 h i (List.mem_range.2 hi)
  obtain ⟨j, hj, h2⟩ := List.any_eq_true.1 h1
  rw [Bool.and_eq_true] at h2
  obtain ⟨h3, h4⟩ := h2
  cases ho : ops[j]? with
  | none => rw [ho] at h4; simp at h4
  | some o =>
    rw [ho] at h4
    simp only [Option.map_some, Option.getD_some, Array.any_eq_true'] at h4
    obtain ⟨e, he, hb⟩ := h4
    rw [Bool.and_eq_true] at hb
    exact ⟨j, o, e, of_decide_eq_true h3, by have := List.mem_range.1 hj; omega, ho, he, hb.1, of_decide_eq_true hb.2⟩

/-- What has come up had all that it waits for. -/
def Closed (md : Region.Mode) (ops : Array Oper) (listed : Array Bool) : Prop :=
  ∀ i o, ops[i]? = some o → listed.getD i true = true → ∀ e ∈ o.after, Region.binds md e = true → listed.getD e.on false = true

theorem getD_two {l : Array Bool} {i : Nat} (h : i < l.size) (a b : Bool) : l.getD i a = l.getD i b := by
  simp [Array.getD, h]
theorem getD_set_self {l : Array Bool} {i : Nat} (h : i < l.size) (d : Bool) : (l.setIfInBounds i true).getD i d = true := by
  simp [Array.getD, h]

theorem Closed.set {listed : Array Bool} (hc : Closed md ops listed) (hs : listed.size = ops.size) {i : Nat} (hi : i ∈ Region.ready md ops listed) : Closed md ops (listed.setIfInBounds i true) := by
  intro j o ho hj e he hb
  by_cases hji : j = i
  · subst hji
    obtain ⟨_, o', ho', hall⟩ := mem_ready.1 hi
    rw [ho] at ho'
    cases ho'
    exact getD_set_true (hall e he hb)
  · rw [getD_set_ne true (Ne.symm hji)] at hj
    exact getD_set_true (hc j o ho hj e he hb)

/-- When the last one may come up, all others have. -/
theorem all_of_last {L : Nat} {listed : Array Bool} (hsz : ops.size = L + 1) (hs : listed.size = ops.size) (hf : feedsB md ops L = true) (hc : Closed md ops listed) (hL : L ∈ Region.ready md ops listed) : ∀ i, i < L → listed.getD i true = true := by
  have key : ∀ n i, L - i ≤ n → i < L → listed.getD i true = true := by
    intro n
    induction n with
    | zero => intro i h1 h2; omega
    | succ n ih =>
      intro i h1 h2
      obtain ⟨j, o, e, hij, hjL, ho, he, hb, hei⟩ := feedsB_spec hf h2
      have h3 : listed.getD e.on false = true := by
        by_cases hj : j = L
        · subst hj
          obtain ⟨_, o', ho', hall⟩ := mem_ready.1 hL
          rw [ho] at ho'
          cases ho'
          exact hall e he hb
        · exact hc j o ho (ih j (by omega) (by omega)) e he hb
      rw [hei] at h3
      rw [getD_two (by omega) true false]
      exact h3
  exact fun i hi => key (L - i) i (Nat.le_refl _) hi
/-- While the last one has not come up, one may. -/
theorem ready_some {L : Nat} {listed : Array Bool} (hsz : ops.size = L + 1) (hs : listed.size = ops.size) (hd : downB md ops = true) (hL : listed.getD L true = false) : Region.ready md ops listed ≠ [] := by
  have key : ∀ n i, i ≤ n → i ≤ L → listed.getD i true = false → ∃ k, k ∈ Region.ready md ops listed := by
    intro n
    induction n with
    | zero =>
      intro i h1 h2 h3
      obtain rfl : i = 0 := by omega
      have ho : ops[0]? = some ops[0] := Array.getElem?_eq_getElem (by omega)
      exact ⟨0, mem_ready.2 ⟨h3, _, ho, fun e he hb => absurd (downB_spec hd ho e he hb) (by omega)⟩⟩
    | succ n ih =>
      intro i h1 h2 h3
      have ho : ops[i]? = some ops[i] := Array.getElem?_eq_getElem (by omega)
      by_cases hall : ∀ e ∈ ops[i].after, Region.binds md e = true → listed.getD e.on false = true
      · exact ⟨i, mem_ready.2 ⟨h3, _, ho, hall⟩⟩
      · simp only [Classical.not_forall] at hall
        obtain ⟨e, he, hb, hno⟩ := hall
        have hlt := downB_spec hd ho e he hb
        refine ih e.on (by omega) (by omega) ?_
        rw [getD_two (by omega) true false]
        simpa using hno
  obtain ⟨k, hk⟩ := key L L (Nat.le_refl _) (Nat.le_refl _) hL
  intro h0
  rw [h0] at hk
  cases hk

/-- The post behind all but the last: the last one's turn. -/
def LastQ (P : Program) (ops : Array Oper) (Q : Exit → Act → World → Prop) (L : Nat) : Exit → Act → World → Prop
  | .normal, a, w => wpOp P ops Q L (Q .normal) a w
  | e, a, w => Q e a w

theorem upon_last {L : Nat} {o : Oper} {a : Act} {K : Act → World → Prop} {r : Result Next} (h : o.upon P a K (LastQ P ops Q L) r) : o.upon P a K Q r := by
  cases r with
  | ok n w' =>
    cases n <;> simp only [Oper.upon] at h ⊢ <;> exact h
  | halt x w' => cases x <;> simp only [Oper.upon] at h ⊢ <;> exact h
theorem wpOp_last {L i : Nat} {K : Act → World → Prop} {a : Act} {w : World} (h : wpOp P ops (LastQ P ops Q L) i K a w) : wpOp P ops Q i K a w := by
  unfold wpOp at *
  split
  · rename_i ho; simp only [ho] at h; exact h
  · rename_i o ho
    simp only [ho] at h
    split
    · rename_i hw; simp only [hw, if_true] at h; exact h.imp (fun h => by unfold Oper.wp at *; exact upon_last h) (fun h => ⟨h.1, h.2⟩)
    · rename_i hw; simp only [hw] at h; exact h

theorem wpAny_last {L : Nat} (hsz : ops.size = L + 1) (hd : downB md ops = true) (hf : feedsB md ops L = true) :
    ∀ (fuel : Nat) (listed : Array Bool) (a : Act) (w : World), listed.size = ops.size → Closed md ops listed → listed.getD L true = false →
      wpAnyH P md ops (LastQ P ops Q L) S fuel (listed.setIfInBounds L true) a w → wpAny P md ops Q (fuel + 1) listed a w := by
  intro fuel
  induction fuel with
  | zero =>
    intro listed a w hs hc hL H
    refine ⟨fun h0 => absurd h0 (ready_some hsz hs hd hL), fun i hi => ?_⟩
    by_cases hiL : i = L
    · subst hiL
      exact wpOp_mono (fun a' w' h' => ⟨H.1, h'⟩) (show wpOp P ops Q i (Q .normal) a w from H.2)
    · have := ready_mono hi hiL
      rw [H.1] at this
      cases this
  | succ fuel ih =>
    intro listed a w hs hc hL H
    refine ⟨fun h0 => absurd h0 (ready_some hsz hs hd hL), fun i hi => ?_⟩
    by_cases hiL : i = L
    · subst hiL
      have hall := all_of_last hsz hs hf hc hi
      have hr : Region.ready md ops (listed.setIfInBounds i true) = [] := by
        rw [List.eq_nil_iff_forall_not_mem]
        intro k hk
        obtain ⟨h0, o, ho, _⟩ := mem_ready.1 hk
        have hkl : k < ops.size := (Array.getElem?_eq_some_iff.1 ho).1
        by_cases hki : k = i
        · subst hki
          rw [getD_set_self (by omega)] at h0
          cases h0
        · rw [getD_set_ne true (Ne.symm hki), hall k (by omega)] at h0
          cases h0
      exact wpOp_mono (fun a' w' h' => wpAny_done hr h' _) (show wpOp P ops Q i (Q .normal) a w from H.1 hr)
    · have h1 := wpOp_last (H.2 i (ready_mono hi hiL))
      refine wpOp_mono (fun a' w' h' => ih (listed.setIfInBounds i true) a' w' (by simpa using hs) (hc.set hs hi) ?_ ?_) h1
      · rw [getD_set_ne true hiL]; exact hL
      · rw [Array.setIfInBounds_comm _ _ hiL]; exact h'.2

/-- THE LAW. -/
theorem wp_region_last {id L : Nat} {a : Act} {w : World} (hm : P.follows .mixedOrders = true) (hsz : ops.size = L + 1) (hd : downB .any ops = true) (hf : feedsB .any ops L = true)
    (h : wpAnyH P .any ops (LastQ P ops Q L) S L ((Array.replicate ops.size false).setIfInBounds L true) a { w with drawn := w.drawn + 1 }) : (Code.region id ops true).wp P Q a w := by
  refine wp_region_any hm ?_
  have h2 := wpAny_last (md := .any) (Q := Q) (S := S) hsz hd hf L (Array.replicate ops.size false) a { w with drawn := w.drawn + 1 } (by simp) (fun i o ho hi => ?_) (by simp [Array.getD, hsz]) h
  · rwa [← hsz] at h2
  · have hlt := (Array.getElem?_eq_some_iff.1 ho).1
    simp [Array.getD, hlt] at hi

/-- Take number i first: what it writes to is said by the caller. -/
theorem takeH {i : Nat} (d : Option Tmp) {v : Value} {fuel : Nat} {listed : Array Bool} {a : Act} {w : World} (hd : (ops[i]?).map (·.dst) = some d)
    (hs : Region.noSelect ops = true) (hf : Region.free md ops listed i = true) (hr : (Region.ready md ops listed).contains i = true)
    (hQ : ∀ c a w, Q (.panic c) (a.put d v) w → Q (.panic c) a w) (hS : S w) (hy : ∀ o, ops[i]? = some o → YieldsIf P ops S o v a)
    (h : wpAnyH P md ops Q S fuel (listed.setIfInBounds i true) (a.put d v) w) : wpAnyH P md ops Q S (fuel + 1) listed a w := by
  cases ho : ops[i]? with
  | none => rw [ho] at hd; cases hd
  | some o =>
    rw [ho] at hd
    obtain rfl := Option.some.inj hd
    exact wpAnyH_take ho hs hf hr hQ (hy o ho) hS h
/-- Number i alone may come up. -/
theorem oneH {i : Nat} {fuel : Nat} {listed : Array Bool} {a : Act} {w : World} (hr : Region.ready md ops listed = [i])
    (h : ∀ o, ops[i]? = some o → ∀ K : Act → World → Prop, RowKit.Hid (∀ a' w', S w' → wpAnyH P md ops Q S fuel (listed.setIfInBounds i true) a' w' → K a' w') → if Region.wanted o (yielded ops a.tmps) = true then Oper.wp P o a w K Q else K (a.put o.dst undef) w) :
    wpAnyH P md ops Q S (fuel + 1) listed a w := by
  refine wpAnyH_all hr (by simp) fun k hk => ?_
  obtain rfl := List.mem_singleton.1 hk
  unfold wpOp
  split
  · rename_i ho
    have : k ∈ Region.ready md ops listed := by rw [hr]; simp
    obtain ⟨_, o, ho', _⟩ := mem_ready.1 this
    rw [ho] at ho'; cases ho'
  · rename_i o ho
    have := h o ho (fun a' w' => S w' ∧ wpAnyH P md ops Q S fuel (listed.setIfInBounds k true) a' w') (Lib.hid (fun a' w' h1 h2 => ⟨h1, h2⟩))
    split
    · rename_i hw; rw [if_pos hw] at this; exact .inl this
    · rename_i hw; rw [if_neg hw] at this; exact this
/-- The last one. -/
theorem lastH {L : Nat} {a : Act} {w : World} (hL : L < ops.size)
    (h : ∀ o, ops[L]? = some o → ∀ K : Act → World → Prop, RowKit.Hid (∀ a' w', Q .normal a' w' → K a' w') → if Region.wanted o (yielded ops a.tmps) = true then Oper.wp P o a w K Q else K (a.put o.dst undef) w) : LastQ P ops Q L .normal a w := by
  show wpOp P ops Q L (Q .normal) a w
  have ho : ops[L]? = some ops[L] := Array.getElem?_eq_getElem hL
  have := h _ ho (Q .normal) (Lib.hid (fun a' w' h1 => h1))
  unfold wpOp
  simp only [ho]
  split
  · rename_i hw; rw [if_pos hw] at this; exact .inl this
  · rename_i hw; rw [if_neg hw] at this; exact this
end
end Go.Proofs.Ytcjmhdneelmbhaa
