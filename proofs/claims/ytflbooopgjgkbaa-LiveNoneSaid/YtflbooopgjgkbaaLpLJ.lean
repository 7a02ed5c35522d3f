/- The program's entries, inmost. -/
import Derived.Test.YtflbooopgjgkbaaLpJJ
import Derived.Test.YtflbooopgjgkbaaLpKJ
import Derived.Test.YtflbooopgjgkbaaLpVJ
import Derived.Test.YtflbooopgjgkbaaGrEJ
namespace Go.Proofs.Ytflbooopgjgkbaa
open Go.ChangeShapes Go.WideShapes Go.RowKit Go.Deep
set_option linter.unusedVariables false

set_option maxRecDepth 100000 in
set_option maxHeartbeats 4000000 in
theorem inmost_any (n GA GR cu b : Nat) (Au : Option Addr) (hd : Nat → Bool) (ar : Nat → Int) (w : World) (hn : n ≤ 1000) (hb : b < n) (rA : w.rowIs GA 4 n (fun b => .bool (hd b))) (rR : w.rowIs GR 3 n (fun b => .int .i64 (ar b))) :
    Calls Try.prog 30 #[.agg #[.slice (some ⟨GA, 0, none⟩) n n, .slice (some ⟨GR, 0, none⟩) n n, .slice Au n cu], .int .i64 (b : Int)] w fun e w' => e = .returned (.int .i64 (if hd b = true then (b : Int) else ar b)) ∧ Below w.heap.size w w' := by
  go_enter Try.func30, Try.ntmps30
  go_upto_region 1 with fail
  obtain ⟨w1, hw1, hs1, hk1, hbel1, hc1, -⟩ := named w #[.slice (some ⟨GA, 0, none⟩) n n, .slice (some ⟨GR, 0, none⟩) n n, .slice Au n cu] 73
  rw [← hw1]
  have b0 : w1.cell? ⟨w.heap.size, 0, none⟩ = _ := hc1 0 _ rfl
  have b1 : w1.cell? ⟨w.heap.size, 1, none⟩ = _ := hc1 1 _ rfl
  have d1 := hk1 _ _ (rA.cell hb)
  have d2 := hk1 _ _ (rR.cell hb)
  have HB := Lib.hid hbel1
  clear hw1 hs1 hk1 hc1 hbel1 rA rR
  cases hh : hd b
  · rw [hh] at d1
    go_wp2_with fail
    all_goals go_ret
    all_goals exact ⟨by simp, HB.out⟩
  · rw [hh] at d1
    go_wp2_with fail
    all_goals go_ret
    all_goals exact ⟨by simp, HB.out⟩

theorem owns_mono_ {w : World} {base base' n size : Nat} {e : TypeId} {v : Value} {xs : List Value} (h : w.ownsRow base e size v n xs) (hk : base' ≤ base) : w.ownsRow base' e size v n xs := by
  obtain ⟨h1, h2 | ⟨g, cap, cur, rfl, hb, h3⟩⟩ := h
  · exact ⟨h1, .inl h2⟩
  · exact ⟨h1, .inr ⟨g, cap, cur, rfl, Nat.le_trans hk hb, h3⟩⟩
def entL (bs : List BlkD) (h j : Nat) : List Nat := ((raL bs bs.length h).take j).filter fun k => !dmB bs h k
theorem entL_succ {bs : List BlkD} {h j k : Nat} (hk : (raL bs bs.length h)[j]? = some k) : entL bs h (j + 1) = entL bs h j ++ (if dmB bs h k = true then [] else [k]) := by
  unfold entL
  rw [take_succ_of hk, List.filter_append]
  congr 1
  by_cases e : dmB bs h k = true
  · rw [if_pos e]; simp [e]
  · rw [if_neg e]; simp [e]
theorem entL_len (bs : List BlkD) (h j : Nat) : (entL bs h j).length ≤ bs.length := by
  unfold entL
  have h1 := List.length_filter_le (fun k => !dmB bs h k) ((raL bs bs.length h).take j)
  have h2 : ((raL bs bs.length h).take j).length ≤ (raL bs bs.length h).length := by simp; omega
  have := ra_len bs h
  omega
/-- Whence a head's loop is entered. -/
def enL (bs : List BlkD) (h : Nat) : List Nat := (raL bs bs.length h).filter fun k => !dmB bs h k
theorem entL_all (bs : List BlkD) (h : Nat) {j : Nat} (hj : (raL bs bs.length h).length ≤ j) : entL bs h j = enL bs h := by unfold entL enL; rw [List.take_of_length_le hj]

set_option maxRecDepth 100000 in
set_option maxHeartbeats 8000000 in
theorem entries_any (bs : List BlkD) (nm en : Nat → Int) (Ao : Option Addr) (co Gn Ga G1 : Nat) (A2 : Option Addr) (c2 : Nat) (w : World) (hW : WyL bs nm en w Ao co Gn Ga G1 A2 c2) (h : Nat) (hh : h < bs.length) :
    Calls Try.prog 29 #[wyV bs Ao co Gn Ga G1 A2 c2, .int .i64 (h : Int)] w fun e w' => (∃ v, e = .returned v ∧ w'.ownsRow w.heap.size 3 1 v (enL bs h).length ((enL bs h).map fun y : Nat => Value.int .i64 (y : Int))) ∧ Below w.heap.size w w' := by
  obtain ⟨i0, hi, hz0, hz1, hz2⟩ := info_parts Try.info3
  have HI := Lib.hid (And.intro hi (And.intro hz0 (And.intro hz1 hz2)))
  clear hi hz0 hz1 hz2
  obtain ⟨n, hn⟩ : ∃ n, bs.length = n := ⟨_, rfl⟩
  obtain ⟨ln, hln⟩ : ∃ ln, (orderF bs).length = ln := ⟨_, rfl⟩
  have HNB := Lib.hid hn
  have HLN := Lib.hid hln
  have HW := Lib.hid hW
  have hn2 : n ≤ 1000 := by rw [← hn]; exact hW.few
  unfold wyV
  rw [hn] at hh ⊢
  rw [hln]
  clear hn hln hW
  go_enter Try.func29, Try.ntmps29
  go_upto_region 1 with fail
  obtain ⟨w1, hw1, hs1, hk1, hbel1, hc1, -⟩ := named w #[.slice Ao ln co, .slice (some ⟨Gn, 0, none⟩) n n, .slice (some ⟨Ga, 0, none⟩) n n, .slice (some ⟨G1, 0, none⟩) n n, .slice A2 n c2] 70
  rw [← hw1]
  have hWy := HW.out.keep hk1
  obtain ⟨bg, og, lz, hbo, hl, hcs⟩ := hWy.ahd.at_ (k := h) (by simp; rw [HNB.out]; exact hh)
  simp only [Option.some.injEq, Addr.mk.injEq, and_true] at hbo
  obtain ⟨rfl, rfl⟩ := hbo
  have hlz : lz = zs (raL bs bs.length h) := (map_range_at _ hl.out).1
  subst hlz
  obtain ⟨A3, c3, hcA, hslA⟩ := hcs
  obtain ⟨m, hm⟩ : ∃ m, (raL bs bs.length h).length = m := ⟨_, rfl⟩
  rw [Nat.mul_one, Nat.zero_add, zs_len, hm] at hcA
  have hmn : m ≤ 1000 := by rw [← hm]; have := ra_len bs h; have := HNB.out; omega
  have cx2 : w1.cell? ⟨w.heap.size, 2, none⟩ = _ := hc1 2 _ rfl
  have HC1 := Lib.hid hc1
  have HWY := Lib.hid hWy
  have HSA := Lib.hid hslA
  have HM := Lib.hid hm
  have HB1 := Lib.hid hbel1
  have hlW : w.heap.size < w1.heap.size := by rw [hs1]; omega
  clear hw1 hs1 hk1 hc1 hbel1 hWy hslA hm hl
  go_wp2_with fail
  clear cx2 hcA
  go_loopw [5, 14] (fun s5 s14 wr => ∃ (i : Nat) (vo : Value), i ≤ m ∧ s14 = .int .i64 (i : Int) ∧ s5 = vo ∧ wr.ownsRow w1.heap.size 3 1 vo (entL bs h i).length ((entL bs h i).map fun y : Nat => Value.int .i64 (y : Int)) ∧ Below w1.heap.size w1 wr) (fun _ s14 _ => m - (intOf s14).toNat)
  case atStart => exact ⟨0, _, Nat.zero_le _, rfl, rfl, World.ownsRow_nil _ _ _ _, Below.refl _ _⟩
  case round =>
    obtain ⟨i, vo, hi, rfl, rfl, hown, hbr⟩ := hrel
    have HOW := Lib.hid hown
    have HBR := Lib.hid hbr
    by_cases him : i < m
    · obtain ⟨bt, ot, x, rfl, hx, hxc, -⟩ := (SInts.keep (kept_of_below hbr) HSA.out).int (k := i) (by rw [zs_len, HM.out]; exact him)
      obtain ⟨t, ht, rfl⟩ := zs_at hx.out
      have htn : t < bs.length := (raL_lt (List.mem_of_getElem? ht)).1
      have hopl : (entL bs h i).length ≤ 1000 := by have := entL_len bs h i; have := HNB.out; omega
      have x0 : wr.cell? ⟨w.heap.size, 0, none⟩ = _ := (hbr.cell (p := ⟨w.heap.size, 0, none⟩) hlW).trans (HC1.out 0 _ rfl)
      have x1 : wr.cell? ⟨w.heap.size, 1, none⟩ = _ := (hbr.cell (p := ⟨w.heap.size, 1, none⟩) hlW).trans (HC1.out 1 _ rfl)
      have x2 : wr.cell? ⟨w.heap.size, 2, none⟩ = _ := (hbr.cell (p := ⟨w.heap.size, 2, none⟩) hlW).trans (HC1.out 2 _ rfl)
      have x3 : wr.cell? ⟨w.heap.size, 3, none⟩ = _ := (hbr.cell (p := ⟨w.heap.size, 3, none⟩) hlW).trans (HC1.out 3 _ rfl)
      have x4 : wr.cell? ⟨w.heap.size, 4, none⟩ = _ := (hbr.cell (p := ⟨w.heap.size, 4, none⟩) hlW).trans (HC1.out 4 _ rfl)
      have hdo := dominates_any bs nm en Ao co Gn Ga G1 A2 c2 wr (HWY.out.keep (kept_of_below hbr)) h t (by rw [HNB.out]; exact hh) htn
      unfold wyV at hdo
      rw [HNB.out, HLN.out] at hdo
      have HDO := Lib.hid hdo
      have HT := Lib.hid ht
      clear hdo ht hx hown hbr
      cases hd1 : dmB bs h t
      · rw [hd1] at HDO
        go_wp2_with (first | (go_at_call 34; refine HDO.out.mono ?_; rintro e w5 ⟨rfl, hb5⟩) |
          (at_builtin; refine wpList_append_lies _ rfl (.tmp 23) (.tmp 25) 22 rfl w1.heap.size 3 i0 (.int .i64 0) 1 8 Try.underlying22 HI.out.1 HI.out.2.1 HI.out.2.2.1 HI.out.2.2.2 rfl (by decide) _ _ _ rfl ((show w5.ownsRow _ _ _ _ _ _ from ownsRow_block HOW.out (fun g hg => hb5.block g (HOW.out.lt g hg).2)).alloc _) ⟨w5.heap.size, 0, none⟩ 1 1 [.int .i64 (t : Int)] rfl rfl ?e1 ?e2 (by decide) ?e3 ?e4 ?e5 (w5.heap.size + 1) ?e6 ?_))
        case e1 => exact news_one_add w5 _ _ rfl
        case e2 => exact ints_oneCell .i64 [(t : Int)]
        case e3 => unfold maxLen; omega
        case e4 => omega
        case e5 => have := HBR.out.size; have := hb5.size; simp; omega
        case e6 => simp
        intro g cap w6 hown6 hgrow6 hloc6 hlt6
        have hb6 : Below w1.heap.size w1 w6 := by
          have h1 := HBR.out.trans (hb5.mono HBR.out.size)
          exact (h1.alloc h1.size _).grown hgrow6 (by have := h1.size; simp; omega) (fun g' hg' => (HOW.out.lt g' hg').1)
        have HB6 := Lib.hid hb6
        have HO6 := Lib.hid hown6
        clear hown6 hgrow6 hloc6 hlt6 hb6
        go_wp2_with fail
        go_roundw
        case rel =>
          refine ⟨i + 1, _, by omega, by go_num, rfl, ?_, HB6.out⟩
          have h2 : entL bs h (i + 1) = entL bs h i ++ [t] := by rw [entL_succ HT.out, hd1]; rfl
          rw [h2]; simpa using HO6.out
        case measure => simp [intOf]; omega
      · rw [hd1] at HDO
        go_wp2_with (go_at_call 34; refine HDO.out.mono ?_; rintro e w5 ⟨rfl, hb5⟩)
        go_roundw
        case rel => exact ⟨i + 1, _, by omega, by go_num, rfl, by rw [entL_succ HT.out, hd1]; simpa using ownsRow_block HOW.out (fun g hg => hb5.block g (HOW.out.lt g hg).2), HBR.out.trans (hb5.mono HBR.out.size)⟩
        case measure => simp [intOf]; omega
    · have him2 : i = m := by omega
      have hent : entL bs h i = enL bs h := entL_all bs h (by rw [HM.out]; omega)
      rw [hent] at HOW
      clear hown hbr hent
      go_wp2_with fail
      go_ret
      exact ⟨⟨_, rfl, owns_mono_ HOW.out (by omega)⟩, HB1.out.trans (HBR.out.mono (by omega))⟩
end Go.Proofs.Ytflbooopgjgkbaa

/- The program's Loops. -/
namespace Go.Proofs.Ytflbooopgjgkbaa
open Go.ChangeShapes Go.WideShapes Go.RowKit Go.Deep
set_option linter.unusedVariables false

/-! ### In mathematics -/
def hdL (bs : List BlkD) (k : Nat) : List Nat := (List.range k).filter fun b => hdB bs b
def lbL (bs : List BlkD) (h k : Nat) : List Nat := (List.range k).filter fun b => lpB bs h b
theorem hdL_succ (bs : List BlkD) (k : Nat) : hdL bs (k + 1) = hdL bs k ++ (if hdB bs k = true then [k] else []) := by
  unfold hdL; rw [List.range_succ, List.filter_append]
  congr 1
  by_cases h : hdB bs k = true
  · rw [if_pos h]; simp [h]
  · rw [if_neg h]; simp [h]
theorem lbL_succ (bs : List BlkD) (h k : Nat) : lbL bs h (k + 1) = lbL bs h k ++ (if lpB bs h k = true then [k] else []) := by
  unfold lbL; rw [List.range_succ, List.filter_append]
  congr 1
  by_cases e : lpB bs h k = true
  · rw [if_pos e]; simp [e]
  · rw [if_neg e]; simp [e]
theorem hdL_len (bs : List BlkD) (k : Nat) : (hdL bs k).length ≤ k := by unfold hdL; exact Nat.le_trans (List.length_filter_le _ _) (by simp)
theorem lbL_len (bs : List BlkD) (h k : Nat) : (lbL bs h k).length ≤ k := by unfold lbL; exact Nat.le_trans (List.length_filter_le _ _) (by simp)
theorem hdL_at {bs : List BlkD} {k b : Nat} (hb : b < k) (hh : hdB bs b = true) : (hdL bs k)[(hdL bs b).length]? = some b := by
  induction k with
  | zero => omega
  | succ k ih =>
    rw [hdL_succ]
    by_cases e : b = k
    · subst e; rw [if_pos hh, List.getElem?_append_right (Nat.le_refl _)]; simp
    · have h1 := ih (by omega)
      rw [List.getElem?_append_left (List.getElem?_eq_some_iff.1 h1).1]; exact h1
theorem hdL_hd {bs : List BlkD} {k i b : Nat} (h : (hdL bs k)[i]? = some b) : hdB bs b = true ∧ b < k ∧ (hdL bs b).length = i := by
  have hm := List.mem_of_getElem? h
  unfold hdL at hm
  rw [List.mem_filter, List.mem_range] at hm
  refine ⟨hm.2, hm.1, ?_⟩
  have h1 := hdL_at hm.1 hm.2
  have hnd : (hdL bs k).Nodup := by unfold hdL; exact List.Pairwise.filter _ List.nodup_range
  have e1 := List.getElem?_eq_some_iff.1 h
  have e2 := List.getElem?_eq_some_iff.1 h1
  rcases Nat.lt_trichotomy (hdL bs b).length i with h3 | h3 | h3
  · exact absurd (e2.2.trans e1.2.symm) (List.pairwise_iff_getElem.1 hnd _ _ e2.1 e1.1 h3)
  · exact h3
  · exact absurd (e1.2.trans e2.2.symm) (List.pairwise_iff_getElem.1 hnd _ _ e1.1 e2.1 h3)

/-! ### In memory -/
def intR (l : List Nat) : RowD := ⟨3, 1, l.length, l.map fun y : Nat => Value.int .i64 (y : Int)⟩
def flF (hs : Nat → Nat) (U : Nat → Value) (j : Nat) : Value := if j % 3 = 0 then .int .i64 (hs (j / 3) : Int) else if j % 3 = 1 then U (2 * (j / 3) + 1) else U (2 * (j / 3) + 2)
def lsT (bs : List BlkD) (m : Nat) (hs : Nat → Nat) (BL : Nat → List Nat) (U : Nat → Value) (t : Nat) : RowD :=
  if t = 0 then ⟨31, 3, m, (List.range (3 * m)).map (flF hs U)⟩ else if t % 2 = 1 then intR (BL ((t - 1) / 2)) else intR (enL bs (hs ((t - 1) / 2)))
/-- A row of loops of the call's own: heads, blocks, whence they are entered. -/
def LsM (bs : List BlkD) (w : World) (K m : Nat) (U : Nat → Value) (hs : Nat → Nat) (BL : Nat → List Nat) : Prop := PoolD w K (2 * m + 1) U (lsT bs m hs BL U)
theorem lsT_zero (bs : List BlkD) (m : Nat) (hs : Nat → Nat) (BL : Nat → List Nat) (U : Nat → Value) : lsT bs m hs BL U 0 = ⟨31, 3, m, (List.range (3 * m)).map (flF hs U)⟩ := rfl
theorem lsT_odd (bs : List BlkD) (m : Nat) (hs : Nat → Nat) (BL : Nat → List Nat) (U : Nat → Value) (i : Nat) : lsT bs m hs BL U (2 * i + 1) = intR (BL i) := by
  unfold lsT; rw [if_neg (by omega), if_pos (by omega), show (2 * i + 1 - 1) / 2 = i by omega]
theorem lsT_even (bs : List BlkD) (m : Nat) (hs : Nat → Nat) (BL : Nat → List Nat) (U : Nat → Value) (i : Nat) : lsT bs m hs BL U (2 * i + 2) = intR (enL bs (hs i)) := by
  unfold lsT; rw [if_neg (by omega), if_neg (by omega), show (2 * i + 2 - 1) / 2 = i by omega]
theorem LsM.start (bs : List BlkD) (w : World) (K : Nat) (hs : Nat → Nat) (BL : Nat → List Nat) : LsM bs w K 0 (fun _ => .slice none 0 0) hs BL := by
  refine ⟨fun i hi => ?_, fun i j hi hj hij => .inl rfl⟩
  obtain rfl : i = 0 := by omega
  rw [lsT_zero]; exact World.ownsRow_nil _ _ _ _
theorem LsM.below {bs : List BlkD} {w w' : World} {K m : Nat} {U : Nat → Value} {hs : Nat → Nat} {BL : Nat → List Nat} (h : LsM bs w K m U hs BL) (hb : Below w.heap.size w w') : LsM bs w' K m U hs BL := PoolD.go h fun k _ hk => hb.block k hk
theorem LsM.congr {bs : List BlkD} {w : World} {K m : Nat} {U : Nat → Value} {hs : Nat → Nat} {BL BL' : Nat → List Nat} (h : LsM bs w K m U hs BL) (e : ∀ i, i < m → BL i = BL' i) : LsM bs w K m U hs BL' := by
  refine PoolD.congr h (fun _ _ => rfl) fun t ht => ?_
  unfold lsT
  by_cases h0 : t = 0
  · rw [if_pos h0, if_pos h0]
  · rw [if_neg h0, if_neg h0]
    by_cases h1 : t % 2 = 1
    · rw [if_pos h1, if_pos h1, e _ (by omega)]
    · rw [if_neg h1, if_neg h1]
/-- A loop more, with no blocks yet. -/
theorem LsM.push {bs : List BlkD} {w w5 w7 : World} {K m b : Nat} {U : Nat → Value} {hs : Nat → Nat} {BL : Nat → List Nat} {vE v' : Value} (h : LsM bs w K m U hs BL) (hK : K ≤ w.heap.size) (hb5 : Below w.heap.size w w5) (hE : w5.ownsRow w.heap.size 3 1 vE (enL bs b).length ((enL bs b).map fun y : Nat => Value.int .i64 (y : Int)))
    (hg : GroD w5 w7 (U 0) v') (ho : w7.ownsRow K 31 3 v' (m + 1) ((List.range (3 * m)).map (flF hs U) ++ [.int .i64 (b : Int), .slice none 0 0, vE])) (hBL : BL m = []) :
    ∃ U', U' 0 = v' ∧ LsM bs w7 K (m + 1) U' (updF hs m b) BL := by
  have h1 := (PoolD.more h 3 1).more 3 1
  have hgE : GroD w w5 (updF (updF U (2 * m + 1) (.slice none 0 0)) (2 * m + 1 + 1) (.slice none 0 0) (2 * m + 1 + 1)) vE := by
    rw [updF_here]
    exact ⟨hb5.os, hb5.tape, hb5.output, hb5.size, fun k hk _ => hb5.block k hk, fun g hg => .inr (hE.lt g hg).1⟩
  have hoE : OwnD w5 K vE (intR (enL bs b)) := owns_mono_ (show w5.ownsRow w.heap.size _ _ _ _ _ from hE) hK
  have h2 := h1.gro (t := 2 * m + 1 + 1) (by omega) hgE hoE
  have hg0 : GroD w5 w7 (updF (updF (updF U (2 * m + 1) (.slice none 0 0)) (2 * m + 1 + 1) (.slice none 0 0)) (2 * m + 1 + 1) vE 0) v' := by
    rw [updF_else _ _ (by omega), updF_else _ _ (by omega), updF_else _ _ (by omega)]; exact hg
  have h3 := h2.gro (t := 0) (by omega) hg0 (r := ⟨31, 3, m + 1, (List.range (3 * m)).map (flF hs U) ++ [.int .i64 (b : Int), .slice none 0 0, vE]⟩) ho
  refine ⟨_, updF_here _ _ _, PoolD.congr (h3 : PoolD w7 K (2 * m + 1 + 1 + 1) _ _) (fun _ _ => rfl) fun t ht => ?_⟩
  by_cases e0 : t = 0
  · subst e0
    rw [updF_here, lsT_zero]
    congr 1
    have hx : ∀ j, j < 3 * m → flF hs U j = flF (updF hs m b) (updF (updF (updF (updF U (2 * m + 1) (.slice none 0 0)) (2 * m + 1 + 1) (.slice none 0 0)) (2 * m + 1 + 1) vE) 0 v') j := fun j hj => by
      unfold flF
      rw [updF_else hs b (show j / 3 ≠ m by omega)]
      rw [updF_else _ v' (show 2 * (j / 3) + 1 ≠ 0 by omega), updF_else _ vE (show 2 * (j / 3) + 1 ≠ 2 * m + 1 + 1 by omega), updF_else _ _ (show 2 * (j / 3) + 1 ≠ 2 * m + 1 + 1 by omega), updF_else U _ (show 2 * (j / 3) + 1 ≠ 2 * m + 1 by omega)]
      rw [updF_else _ v' (show 2 * (j / 3) + 2 ≠ 0 by omega), updF_else _ vE (show 2 * (j / 3) + 2 ≠ 2 * m + 1 + 1 by omega), updF_else _ _ (show 2 * (j / 3) + 2 ≠ 2 * m + 1 + 1 by omega), updF_else U _ (show 2 * (j / 3) + 2 ≠ 2 * m + 1 by omega)]
    rw [show 3 * (m + 1) = 3 * m + 1 + 1 + 1 by omega, List.range_succ, List.range_succ, List.range_succ, List.map_append, List.map_append, List.map_append, List.append_assoc, List.append_assoc]
    congr 1
    · exact List.map_congr_left fun j hj => hx j (List.mem_range.1 hj)
    · simp only [List.map_cons, List.map_nil, List.cons_append, List.nil_append]
      unfold flF
      rw [if_pos (show 3 * m % 3 = 0 by omega), if_neg (show ¬ (3 * m + 1) % 3 = 0 by omega), if_pos (show (3 * m + 1) % 3 = 1 by omega), if_neg (show ¬ (3 * m + 1 + 1) % 3 = 0 by omega), if_neg (show ¬ (3 * m + 1 + 1) % 3 = 1 by omega)]
      rw [show 3 * m / 3 = m by omega, show (3 * m + 1) / 3 = m by omega, show (3 * m + 1 + 1) / 3 = m by omega, updF_here]
      rw [updF_else _ v' (show 2 * m + 1 ≠ 0 by omega), updF_else _ vE (show 2 * m + 1 ≠ 2 * m + 1 + 1 by omega), updF_else _ _ (show 2 * m + 1 ≠ 2 * m + 1 + 1 by omega), updF_here]
      rw [updF_else _ v' (show 2 * m + 2 ≠ 0 by omega), updF_here]
  · rw [updF_else _ _ e0]
    by_cases e2 : t = 2 * m + 1 + 1
    · subst e2
      rw [updF_here, show 2 * m + 1 + 1 = 2 * m + 2 by omega, lsT_even, updF_here]
    · rw [updF_else _ _ e2, updF_else _ _ e2]
      by_cases e1 : t = 2 * m + 1
      · subst e1
        rw [updF_here, lsT_odd, hBL]; rfl
      · rw [updF_else _ _ e1]
        unfold lsT
        rw [if_neg e0, if_neg e0, updF_else hs b (show (t - 1) / 2 ≠ m by omega)]
theorem own_setD {w : World} {K size g cap n j : Nat} {e : TypeId} {xs : List Value} (h : w.ownsRow K e size (.slice (some ⟨g, 0, none⟩) n cap) n xs) (hj : j < n * size) (u : Value) : (w.setCell ⟨g, j, none⟩ u).ownsRow K e size (.slice (some ⟨g, 0, none⟩) n cap) n (xs.set j u) := by
  obtain ⟨h1, ⟨h0, _⟩ | ⟨g', c', cur, hv, hb, hh, hn, hc, hsz, ht⟩⟩ := h
  · cases h0
  · injection hv with hv1 hv2 hv3
    injection hv1 with hv1
    injection hv1 with hv1
    subst hv1 hv3
    refine ⟨by rw [List.length_set]; exact h1, .inr ⟨g, cap, cur.setIfInBounds j u, rfl, hb, ?_, hn, hc, by simpa using hsz, ?_⟩⟩
    · simp [World.setCell, Array.getElem?_modify, hh]
    · rw [← ht]
      rw [Array.toList_setIfInBounds, List.take_set]
theorem LsM.grow {bs : List BlkD} {w wC : World} {K m i b g cap : Nat} {U : Nat → Value} {hs : Nat → Nat} {BL : Nat → List Nat} {v' : Value} (h : LsM bs w K m U hs BL) (hi : i < m) (hU : U 0 = .slice (some ⟨g, 0, none⟩) m cap)
    (hg : GroD w wC (U (2 * i + 1)) v') (ho : wC.ownsRow K 3 1 v' ((BL i).length + 1) (((BL i).map fun y : Nat => Value.int .i64 (y : Int)) ++ [.int .i64 (b : Int)])) :
    LsM bs (wC.setCell ⟨g, 3 * i + 1, none⟩ v') K m (updF U (2 * i + 1) v') hs (updF BL i (BL i ++ [b])) := by
  have hoD : OwnD wC K v' (intR (BL i ++ [b])) := by
    unfold OwnD intR
    rw [List.length_append, List.map_append]; exact ho
  have h1 := PoolD.gro h (t := 2 * i + 1) (by omega) hg hoD
  have h0 := h1.own 0 (by omega)
  rw [updF_else _ _ (by omega), updF_else _ _ (by omega), lsT_zero, hU] at h0
  have h2 := own_setD (j := 3 * i + 1) (show wC.ownsRow K 31 3 (.slice (some ⟨g, 0, none⟩) m cap) m _ from h0) (by omega) v'
  have hgs : GroD wC (wC.setCell ⟨g, 3 * i + 1, none⟩ v') (updF U (2 * i + 1) v' 0) (.slice (some ⟨g, 0, none⟩) m cap) := by
    rw [updF_else _ _ (by omega), hU]; exact groD_store wC v'
  have h3 := h1.gro (t := 0) (by omega) hgs (r := ⟨31, 3, m, ((List.range (3 * m)).map (flF hs U)).set (3 * i + 1) v'⟩) h2
  refine PoolD.congr h3 (fun t ht => ?_) (fun t ht => ?_)
  · by_cases e : t = 0
    · subst e; rw [updF_here, updF_else _ _ (by omega), hU]
    · rw [updF_else _ _ e]
  · by_cases e0 : t = 0
    · subst e0
      rw [updF_here, lsT_zero, map_range_set]
      congr 1
      refine List.map_congr_left fun j hj => ?_
      by_cases ej : j = 3 * i + 1
      · subst ej
        rw [updF_here]
        unfold flF
        rw [if_neg (by omega), if_pos (by omega), show 2 * ((3 * i + 1) / 3) + 1 = 2 * i + 1 by omega, updF_here]
      · rw [updF_else _ _ ej]
        unfold flF
        by_cases e1 : j % 3 = 0
        · rw [if_pos e1, if_pos e1]
        · rw [if_neg e1, if_neg e1]
          by_cases e2 : j % 3 = 1
          · rw [if_pos e2, if_pos e2, updF_else _ _ (by omega)]
          · rw [if_neg e2, if_neg e2, updF_else _ _ (by omega)]
    · rw [updF_else _ _ e0]
      by_cases e1 : t = 2 * i + 1
      · subst e1; rw [updF_here, lsT_odd, updF_here]
      · rw [updF_else _ _ e1]
        unfold lsT
        rw [if_neg e0, if_neg e0]
        by_cases e2 : t % 2 = 1
        · rw [if_pos e2, if_pos e2, updF_else _ _ (by omega)]
        · rw [if_neg e2, if_neg e2]
end Go.Proofs.Ytflbooopgjgkbaa
