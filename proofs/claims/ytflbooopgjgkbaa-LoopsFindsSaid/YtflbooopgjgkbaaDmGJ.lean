/- slices.Backward over a list of numbers: its contract, round by round. Every list, an empty one too. -/
import Derived.Test.YtflbooopgjgkbaaGrEJ
import Derived.Test.YtflbooopgjgkbaaRndJ
import Derived.RangeFuncBound
import Derived.RangeFuncCalls
import Derived.Shelf.Abstract
import Derived.Shelf.RegionOpen
import Derived.WalkKit
import Derived.OwnWalkIn
import Derived.TacticsInMore
import Derived.LoopNIn
import Derived.LoopIn
import Derived.Test.YtflbooopgjgkbaaDmKJ
import Derived.Laws.IdiomCopy
import Derived.WalkSmall
import Derived.Test.YtflbooopgjgkbaaAheadLJ
namespace Go.Proofs.Ytflbooopgjgkbaa
open Go.ChangeShapes Go.WideShapes Go.RowKit Go.Deep Go.Shelf
set_option linter.unusedVariables false
attribute [local go_sem] Oper.semAt_some

/-- What the k-th round is given: a place, from the list's end on, and what stands there. -/
def backE (zs : List Int) (k : Nat) : Array Value := #[.int .i64 ((zs.length : Int) - 1 - (k : Int)), .int .i64 (zs[zs.length - 1 - k]?.getD 0)]

set_option maxRecDepth 100000 in
set_option maxHeartbeats 2000000 in
theorem backward1_in (l Bs b off len cap : Nat) (X : Nat → Prop) (z : Nat → Int) (hreach : len * 8 ≤ 140737488351232) (hb : X b) (J : Nat → World → Prop)
    (hY : ∀ k W, J k W → k < len → YieldAt Fence.wide 2 Try.prog l #[.int .i64 ((len : Int) - 1 - (k : Int)), .int .i64 (z (len - 1 - k))] W fun e W' => e = .returned (.bool true) ∧ J (k + 1) W' ∧ KeepX X W W')
    (W : World) (hBn : X Bs) (hBs : W.cell? ⟨Bs, 0, none⟩ = some (.slice (some ⟨b, off, none⟩) len cap)) (hc : ∀ j, j < len → W.cell? ⟨b, off + j, none⟩ = some (.int .i64 (z j))) (h0 : J 0 W) :
    CallsIn Fence.wide 3 Try.prog 70 #[.func (.yield l) #[] #[], .pointer (some ⟨Bs, 0, none⟩)] W fun e W' => (∃ v, e = .returned v) ∧ J len W' := by
  refine callsIn_of_wp Try.func70 rfl trivial ?_ rfl
  simp only [Try.ntmps70, List.size_toArray, List.length_cons, List.length_nil, Nat.reduceAdd, Nat.reduceSub, Array.replicate_succ, Array.replicate_zero, List.push_toArray, List.append_toArray, List.nil_append, List.cons_append]
  gi_wp2
  gi_loopw [3] (fun i wr => ∃ k : Nat, k ≤ len ∧ i = .int .i64 ((len : Int) - 1 - (k : Int)) ∧ J k wr ∧ KeepX X W wr)
    (fun i _ => (intOf i + 1).toNat)
  case atStart => exact ⟨0, Nat.zero_le _, by simp, h0, keepX_refl _ _⟩
  case round =>
    obtain ⟨k, hk, rfl, hJs, hnx⟩ := hrel
    have hbs := (hnx.cell (p := ⟨Bs, 0, none⟩) hBn).trans hBs
    by_cases hlt : k < len
    · obtain ⟨i, hi⟩ : ∃ i : Nat, len = i + 1 + k := ⟨len - 1 - k, by omega⟩
      have hi2 : (len : Int) - 1 - (k : Int) = (i : Int) := by omega
      have hi3 : i < len := by omega
      rw [hi2]
      have hcx := (hnx.cell (p := ⟨b, off + i, none⟩) hb).trans (hc i hi3)
      obtain ⟨fn, tmps, assign, body, hy, hR⟩ := hY k wr hJs hlt
      rw [hi2, show len - 1 - k = i by omega] at hy
      have HI := Lib.hid hi
      clear hi hi2
      gi_wp2
      refine hR.mono ?_
      rintro e W3 ⟨rfl, hJ3, hk3⟩
      gi_wp2
      go_roundw
      case rel =>
        have hi := HI.out
        exact ⟨k + 1, by omega, by congr 1; omega, hJ3, keepX_t hnx hk3⟩
      case measure => simp [intOf]
    · obtain rfl : k = len := by omega
      rw [show (k : Int) - 1 - (k : Int) = -1 by omega]
      gi_wp2
      go_end0
      exact ⟨⟨_, rfl⟩, hJs⟩

set_option maxRecDepth 100000 in
set_option maxHeartbeats 1000000 in
/-- .. at an empty list: no round. -/
theorem backward1_nil (l Bs : Nat) (A : Option Addr) (cap : Nat) (J : World → Prop) (W : World) (hBs : W.cell? ⟨Bs, 0, none⟩ = some (.slice A 0 cap)) (h0 : J W) :
    CallsIn Fence.wide 3 Try.prog 70 #[.func (.yield l) #[] #[], .pointer (some ⟨Bs, 0, none⟩)] W fun e W' => (∃ v, e = .returned v) ∧ J W' := by
  refine callsIn_of_wp Try.func70 rfl trivial ?_ rfl
  simp only [Try.ntmps70, List.size_toArray, List.length_cons, List.length_nil, Nat.reduceAdd, Nat.reduceSub, Array.replicate_succ, Array.replicate_zero, List.push_toArray, List.append_toArray, List.nil_append, List.cons_append]
  gi_wp2
  gi_loopw [3] (fun i wr => i = .int .i64 (-1) ∧ J wr) (fun _ _ => 0)
  case atStart => exact ⟨rfl, h0⟩
  case round =>
    obtain ⟨rfl, hJs⟩ := hrel
    gi_wp2
    go_end0
    exact ⟨⟨_, rfl⟩, hJs⟩

set_option maxHeartbeats 1000000 in
theorem backward_in (a : Option Addr) (len cap : Nat) (w : World) :
    Calls Try.prog 50 #[.slice a len cap] w fun e w' => e = .returned (.func (.func 70) #[] #[.pointer (some ⟨w.heap.size, 0, none⟩)]) ∧ w' = w.alloc (.cells #[.slice a len cap] 22) := by
  go_enter Try.func50, Try.ntmps50
  go_wp2_with fail
  go_ret
  exact ⟨rfl, rfl⟩

/-- THE CONTRACT: all, the last one first. Rounds keep the box and the list. -/
theorem backward_stops (Bs cap : Nat) (X : Nat → Prop) (A : Option Addr) (zs : List Int) (hreach : zs.length ≤ 1000000) (w : World) (hX : ∀ k, X k → k < w.heap.size)
    (hc : w.cell? ⟨Bs, 0, none⟩ = some (.slice A zs.length cap)) (hS : SL w 1 RInt A cap zs) (hBs : X Bs) (hA : ∀ b off, A = some ⟨b, off, none⟩ → 0 < zs.length → X b) :
    SeqN Try.prog 70 #[.pointer (some ⟨Bs, 0, none⟩)] (backE zs) X zs.length w := fun l J W hW hY h0 => by
  have hc' := (hW.cell (p := ⟨Bs, 0, none⟩) (hX _ hBs)).trans hc
  by_cases hz : zs.length = 0
  · rw [hz] at hc' ⊢
    exact backward1_nil l Bs A cap (J 0) W hc' h0
  · obtain ⟨b, off, rfl, hcs⟩ := hS.2.2 (by omega)
    have hb := hA b off rfl (by omega)
    exact backward1_in l Bs b off zs.length cap X (fun i => zs[i]?.getD 0) (by omega) hb J hY W hBs hc' (fun j hj => by
      refine (hW.cell (p := ⟨b, off + j, none⟩) (hX _ hb)).trans ?_
      have hzj : zs[j]? = some zs[j] := List.getElem?_eq_getElem hj
      have := (hcs j zs[j] hzj).1
      rw [Nat.mul_one] at this
      rw [hzj]; exact this) h0
end Go.Proofs.Ytflbooopgjgkbaa

/- slices.Repeat of one number: a new row that holds it throughout. -/
namespace Go.Proofs.Ytflbooopgjgkbaa
open Go.ChangeShapes Go.WideShapes Go.RowKit Go.Deep
set_option linter.unusedVariables false

theorem and_mask (n : Nat) (hn : n ≤ 1000000) : bits BinOp.and IntKind.u64 (n : Int) 4294967295 = (n : Int) := by
  have h := bits_and_u64_nat n 4294967295 (by omega) (by omega)
  have h2 : n &&& 4294967295 = n := by
    have := Nat.and_two_pow_sub_one_eq_mod n 32
    rw [show (2 : Nat) ^ 32 - 1 = 4294967295 by decide] at this
    rw [this]; exact Nat.mod_eq_of_lt (by omega)
  rw [h2] at h
  exact h
set_option maxRecDepth 100000 in
theorem mul64_one (n : Nat) (w : World) (hn : n ≤ 1000000) : Calls Try.prog 89 #[.int .u64 1, .int .u64 (n : Int)] w fun e w' => e = .returned (.tuple #[.int .u64 0, .int .u64 (n : Int)]) ∧ w = w' := by
  have e1 : bits BinOp.and IntKind.u64 1 4294967295 = 1 := by decide
  have e2 := and_mask n hn
  have e3 : (n : Int) / 4294967296 = 0 := by omega
  have e4 : IntKind.u64.wrap (n : Int) = n := (by rw [IntKind.wrap_u64]; omega)
  have e5 : IntKind.u64.wrap 0 = 0 := by decide
  have e6 : bits BinOp.and IntKind.u64 0 4294967295 = 0 := by decide
  go_enter Try.func89, Try.ntmps89
  go_wp2_with fail
  go_ret2
  exact ⟨rfl, rfl⟩

set_option maxRecDepth 100000 in
theorem mul_one_ (n : Nat) (w : World) (hn : n ≤ 1000000) : Calls Try.prog 69 #[.int .u64 1, .int .u64 (n : Int)] w fun e w' => e = .returned (.tuple #[.int .u64 0, .int .u64 (n : Int)]) ∧ w = w' := by
  go_enter Try.func69, Try.ntmps69
  go_wp2_with (go_at_call 89; refine (mul64_one n _ hn).mono ?_; rintro e w' ⟨rfl, rfl⟩)
  go_ret2
  exact ⟨rfl, rfl⟩

/-- Part of a row is written over by one value. -/
theorem row_setCells {G n : Nat} {e : TypeId} (u : Value) : ∀ (k o : Nat) {w : World} {V : Nat → Value}, w.rowIs G e n V → (w.setCells G o (List.replicate k u)).rowIs G e n (fun j => if o ≤ j ∧ j < o + k then u else V j)
  | 0, o, w, V, h => by
    refine (show (w.setCells G o (List.replicate 0 u)).rowIs G e n V from h).congr fun j _ => ?_
    rw [if_neg (by omega)]
  | k + 1, o, w, V, h => by
    refine (show (w.setCells G o (List.replicate (k + 1) u)).rowIs G e n _ from row_setCells u k (o + 1) (h.set o u)).congr fun j _ => ?_
    by_cases e1 : j = o
    · rw [if_neg (by omega), if_pos e1, if_pos (by omega)]
    · by_cases e2 : o + 1 ≤ j ∧ j < o + 1 + k
      · rw [if_pos e2, if_pos (by omega)]
      · rw [if_neg e2, if_neg e1, if_neg (by omega)]
theorem below_setCells_ {B : Nat} {a : World} (b : Nat) (hb : B ≤ b) : ∀ (vs : List Value) (o : Nat) {w : World}, Below B a w → Below B a (w.setCells b o vs)
  | [], _, _, h => h
  | v :: r, o, _, h => below_setCells_ b hb r (o + 1) (h.setCell (p := ⟨b, o, none⟩) hb v)
/-- The operation 'copy(d, s)', where its run is known by an equation. -/
theorem wp_copy_runs {P : Program} (w : World) {o : Oper} {a : Act} {K : Act → World → Prop} {Q : Exit → Act → World → Prop} (d s : Operand) (t t' : TypeId)
    (ho : o.op = .call { callee := .builtin .copy, args := #[d, s], argTypes := #[t, t'] }) (v u : Value) (hd : a.eval d = v) (hs : a.eval s = u) {v' : Value} {w' : World}
    (hr : (Builtin.copy_ #[t, t'] o.type #[v, u]).run P w = .ok v' w') (h : K (a.put o.dst v') w') : o.wp P a w K Q := by
  unfold Oper.wp execOp
  simp only [ho, resolve, invoke, builtin, Sem.run_bind, Sem.run_pure, Result.andThen_ok, List.map_toArray, List.map_cons, List.map_nil, hd, hs, hr]
  exact h
theorem wpList_copy_runs {P : Program} (w : World) {ops : Array Oper} {rest : List Oper} {o : Oper} {a : Act} {Q : Exit → Act → World → Prop} (hgd : o.guard = none) (d s : Operand) (t t' : TypeId)
    (ho : o.op = .call { callee := .builtin .copy, args := #[d, s], argTypes := #[t, t'] }) (v u : Value) (hd : a.eval d = v) (hs : a.eval s = u) {v' : Value} {w' : World}
    (hr : (Builtin.copy_ #[t, t'] o.type #[v, u]).run P w = .ok v' w') (h : wpList P ops Q rest (a.put o.dst v') w') : wpList P ops Q (o :: rest) a w :=
  wpList_plain hgd fun _ hK => wp_copy_runs w d s t t' ho v u hd hs hr (hK _ _ h)
theorem copy_row {P : Program} (t ty e : TypeId) (hu : P.underlying t = some (.slice e)) (hs : (P.info? e).map (·.size) = some 1) {w : World} {G n k d : Nat} {V : Nat → Value} (h : w.rowIs G e n V) {x : Int} {H c c' : Nat} (hkn : k + d ≤ n) (hd : 0 < d)
    (hsrc : ∀ j, j < d → w.cell? ⟨H, j, none⟩ = some (.int .i64 x)) (sl dl : Nat) (hmin : Nat.min sl dl = d) :
    ∃ w', (Builtin.copy_ #[t, t] ty #[.slice (some ⟨G, k, none⟩) dl c, .slice (some ⟨H, 0, none⟩) sl c']).run P w = .ok (.int .i64 (d : Int)) w' ∧
      w'.rowIs G e n (fun j => if k ≤ j ∧ j < k + d then .int .i64 x else V j) ∧ ∀ B a, B ≤ G → Below B a w → Below B a w' := by
  refine ⟨w.setCells G k (List.replicate d (.int .i64 x)), ?_, row_setCells _ d k h, fun B a hB hw => below_setCells_ G hB _ _ hw⟩
  have := run_copy_cells (P := P) w t t ty e G k dl c ⟨H, 0, none⟩ sl c' (List.replicate d (.int .i64 x)) hu hs (by rw [List.length_replicate]; exact hmin.symm)
    (fun j v hj => by
      rw [List.getElem?_replicate] at hj
      split at hj
      · cases hj
        have := hsrc j (by assumption)
        rw [show (⟨H, 0, none⟩ : Addr).add j = ⟨H, j, none⟩ by unfold Addr.add; simp <;> omega]; exact this
      · cases hj)
    (fun j hj => by rw [List.length_replicate] at hj; rw [h.cell (by omega)]; rfl) (fun j _ => h.frozen _)
    (fun v hv => by rw [List.mem_replicate] at hv; rw [hv.2]; rfl)
  rw [List.length_replicate] at this
  exact this

end Go.Proofs.Ytflbooopgjgkbaa

/- slices.Repeat of one number: a new row that holds it throughout. -/
namespace Go.Proofs.Ytflbooopgjgkbaa
open Go.ChangeShapes Go.WideShapes Go.RowKit Go.Deep
set_option linter.unusedVariables false

def ToldRp (n : Nat) (x : Int) (w : World) (e : Ending) (w' : World) : Prop :=
  (∃ G, e = .returned (.slice (some ⟨G, 0, none⟩) n n) ∧ w.heap.size ≤ G ∧ w'.rowIs G 3 n (fun _ => .int .i64 x)) ∧ Below w.heap.size w w'
/-- A row whose first k hold x. -/
def RpR (w : World) (G n k : Nat) (x : Int) : Prop := w.rowIs G 3 n (fun j => .int .i64 (if j < k then x else 0))
theorem RpR.cell {w : World} {G n k : Nat} {x : Int} (h : RpR w G n k x) (hk : k ≤ n) : ∀ j, j < k → w.cell? ⟨G, j, none⟩ = some (.int .i64 x) := fun j hj => by
  have := World.rowIs.cell h (i := j) (by omega)
  rw [if_pos hj] at this; exact this

set_option maxRecDepth 100000 in
set_option maxHeartbeats 4000000 in
theorem repeat_any (n H c : Nat) (x : Int) (w : World) (hc : w.cell? ⟨H, 0, none⟩ = some (.int .i64 x)) (hn : n ≤ 1000000) : Calls Try.prog 49 #[.slice (some ⟨H, 0, none⟩) 1 c, .int .i64 (n : Int)] w (ToldRp n x w) := by
  have hmk2 := run_make_row' (P := Try.prog) 22 3 (.int .i64 0) 8 Try.underlying22 Try.info3 rfl .i64 .i64 n (by omega) (by omega)
  have e4 : IntKind.u64.wrap (n : Int) = n := (by rw [IntKind.wrap_u64]; omega)
  have hsz : (Try.prog.info? 3).map (·.size) = some 1 := by kernel_rfl
  obtain ⟨W0, hW0⟩ : ∃ W0, w.alloc (.cells (madeCells #[.int .i64 0] n) 3) = W0 := ⟨_, rfl⟩
  have hb0 : Below w.heap.size w W0 := by rw [← hW0]; exact (Below.refl _ _).alloc (Nat.le_refl _) _
  have hr0 : RpR W0 w.heap.size n 0 x := by
    rw [← hW0]
    exact (World.rowIs_made w (.int .i64 0) n 3).congr fun j _ => by simp
  have hcw : W0.cell? ⟨H, 0, none⟩ = some (.int .i64 x) := (hb0.cell (p := ⟨H, 0, none⟩) (World.block_lt_of_cell? w _ hc)).trans hc
  obtain ⟨k, w1, hr, hkn, hk0, hrow, hB⟩ : ∃ (k : Nat) (w1 : World), (Builtin.copy_ #[22, 22] 3 #[.slice (some ⟨w.heap.size, 0, none⟩) n n, .slice (some ⟨H, 0, none⟩) 1 c]).run Try.prog W0 = .ok (.int .i64 (k : Int)) w1 ∧ k ≤ n ∧ (n = 0 ∨ 1 ≤ k) ∧ RpR w1 w.heap.size n k x ∧ Below w.heap.size w w1 := by
    by_cases h0 : n = 0
    · subst h0
      exact ⟨0, W0, run_copy_none W0 22 22 3 3 _ _ 0 0 1 c Try.underlying22 hsz (by decide), Nat.le_refl _, .inl rfl, hr0, hb0⟩
    · obtain ⟨w1, h1, h2, h3⟩ := copy_row (P := Try.prog) 22 3 3 Try.underlying22 hsz hr0 (k := 0) (d := 1) (x := x) (H := H) (c := n) (c' := c) (by omega) (by omega) (fun j hj => by rw [show j = 0 by omega]; exact hcw) 1 n (by show min 1 n = 1; omega)
      exact ⟨1, w1, h1, by omega, .inr (Nat.le_refl _), h2.congr fun j _ => by by_cases e : j < 1; rw [if_pos (by omega), if_pos e]; rw [if_neg (by omega), if_neg e, if_neg (by omega)], h3 _ _ (Nat.le_refl _) hb0⟩
  have HR := Lib.hid hrow
  have HB := Lib.hid hB
  have HK0 := Lib.hid hk0
  clear hrow hB hk0 hb0 hr0 hcw hc hsz
  go_enter Try.func49, Try.ntmps49
  go_wp2_with (first | (go_at_call 69; refine (mul_one_ n _ hn).mono ?_; rintro e w' ⟨rfl, rfl⟩) | (at_builtin; rw [hW0]; refine wpList_copy_runs _ rfl (.tmp 31) (.tmp 32) 22 22 rfl _ _ rfl rfl hr ?_))
  clear hr hmk2 e4 hW0
  obtain ⟨G, hG⟩ : ∃ G, G = w.heap.size := ⟨_, rfl⟩
  have HG := Lib.hid hG
  rw [← hG] at HR HB ⊢
  clear hG
  go_loopw [8] (fun m wr => ∃ k : Nat, k ≤ n ∧ m = .int .i64 k ∧ (n = 0 ∨ 1 ≤ k) ∧ RpR wr G n k x ∧ Below G w wr) (fun m _ => n - (intOf m).toNat)
  case atStart => exact ⟨k, hkn, rfl, HK0.out, HR.out, HB.out⟩
  case round =>
    clear hkn HR HB HK0
    obtain ⟨k, hkn, rfl, hk0, hrow, hbr⟩ := hrel
    by_cases hlt : k < n
    · have hk1 : 1 ≤ k := by omega
      obtain ⟨w2, hr2, hrow2, hb2⟩ := copy_row (P := Try.prog) 22 3 3 Try.underlying22 (by kernel_rfl) (w := wr.drew) (show RpR wr.drew G n k x from hrow) (k := k) (d := min k (n - k)) (x := x) (H := G) (c := n - k) (c' := n) (by omega) (by omega) (fun j hj => hrow.cell hkn j (by omega)) k (n - k) rfl
      have HX : Hid (RpR w2 G n (k + min k (n - k)) x ∧ Below G w w2) := Lib.hid ⟨hrow2.congr fun j _ => by
        by_cases e : j < k
        · rw [if_neg (by omega), if_pos e, if_pos (by omega)]
        · by_cases e2 : j < k + min k (n - k)
          · rw [if_pos (by omega), if_pos e2]
          · rw [if_neg (by omega), if_neg e, if_neg e2], hb2 _ _ (Nat.le_refl _) hbr.drew⟩
      have hnk : ¬ (n = k) := by omega
      clear hrow2 hb2 hrow hbr hk0
      have e1 : IntKind.i64.wrap ((k : Int) + ((min k (n - k) : Nat) : Int)) = ((k + min k (n - k) : Nat) : Int) := by rw [Go.IntWalk.i64_in _ (by omega)]; omega
      have E1 := Lib.hid e1
      clear e1
      go_wp2_with fail
      refine wp_region_last (L := 9) (S := fun w' => True) (by kernel_rfl) (by rfl) (by kernel_rfl) (by kernel_rfl) ?_
      change wpAnyH _ _ _ _ _ _ _ _ (World.drew _)
      refine takeH (i := 0) (some 38) (v := ?_) rfl (by kernel_rfl) (by kernel_rfl) (by kernel_rfl) (fun _ _ _ h => h) trivial (fun o ho => ?_) ?_
      rotate_left
      · simp only [List.getElem?_toArray, List.getElem?_cons_zero, Option.some.injEq] at ho; subst ho; refine Or.inl ⟨by rfl, fun w' hSw => ?_⟩; (try dsimp only at hSw); go_simp; try with_reducible rfl
      simp only [Act.put, List.setIfInBounds_toArray, List.set_cons_zero, List.set_cons_succ]
      refine takeH (i := 1) (some 39) (v := ?_) rfl (by kernel_rfl) (by kernel_rfl) (by kernel_rfl) (fun _ _ _ h => h) trivial (fun o ho => ?_) ?_
      rotate_left
      · simp only [List.getElem?_toArray, List.getElem?_cons_zero, List.getElem?_cons_succ, Option.some.injEq] at ho; subst ho; refine Or.inl ⟨by rfl, fun w' hSw => ?_⟩; (try dsimp only at hSw); go_simp; try with_reducible rfl
      simp only [Act.put, List.setIfInBounds_toArray, List.set_cons_zero, List.set_cons_succ]
      refine takeH (i := 2) (some 40) (v := ?_) rfl (by kernel_rfl) (by kernel_rfl) (by kernel_rfl) (fun _ _ _ h => h) trivial (fun o ho => ?_) ?_
      rotate_left
      · simp only [List.getElem?_toArray, List.getElem?_cons_zero, List.getElem?_cons_succ, Option.some.injEq] at ho; subst ho; refine Or.inl ⟨by rfl, fun w' hSw => ?_⟩; (try dsimp only at hSw); go_simp; try with_reducible rfl
      simp only [Act.put, List.setIfInBounds_toArray, List.set_cons_zero, List.set_cons_succ]
      refine takeH (i := 3) (some 41) (v := ?_) rfl (by kernel_rfl) (by kernel_rfl) (by kernel_rfl) (fun _ _ _ h => h) trivial (fun o ho => ?_) ?_
      rotate_left
      · simp only [List.getElem?_toArray, List.getElem?_cons_zero, List.getElem?_cons_succ, Option.some.injEq] at ho; subst ho; refine Or.inl ⟨by rfl, fun w' hSw => ?_⟩; (try dsimp only at hSw); go_simp; try with_reducible rfl
      simp only [Act.put, List.setIfInBounds_toArray, List.set_cons_zero, List.set_cons_succ]
      refine takeH (i := 4) (some 42) (v := ?_) rfl (by kernel_rfl) (by kernel_rfl) (by kernel_rfl) (fun _ _ _ h => h) trivial (fun o ho => ?_) ?_
      rotate_left
      · simp only [List.getElem?_toArray, List.getElem?_cons_zero, List.getElem?_cons_succ, Option.some.injEq] at ho; subst ho; refine Or.inl ⟨by rfl, fun w' hSw => ?_⟩; (try dsimp only at hSw); go_simp; try with_reducible rfl
      simp only [Act.put, List.setIfInBounds_toArray, List.set_cons_zero, List.set_cons_succ]
      refine takeH (i := 5) (some 43) (v := ?_) rfl (by kernel_rfl) (by kernel_rfl) (by kernel_rfl) (fun _ _ _ h => h) trivial (fun o ho => ?_) ?_
      rotate_left
      · simp only [List.getElem?_toArray, List.getElem?_cons_zero, List.getElem?_cons_succ, Option.some.injEq] at ho; subst ho; refine Or.inl ⟨by rfl, fun w' hSw => ?_⟩; (try dsimp only at hSw); go_simp; try with_reducible rfl
      simp only [Act.put, List.setIfInBounds_toArray, List.set_cons_zero, List.set_cons_succ]
      refine takeH (i := 6) (some 44) (v := ?_) rfl (by kernel_rfl) (by kernel_rfl) (by kernel_rfl) (fun _ _ _ h => h) trivial (fun o ho => ?_) ?_
      rotate_left
      · simp only [List.getElem?_toArray, List.getElem?_cons_zero, List.getElem?_cons_succ, Option.some.injEq] at ho; subst ho; refine Or.inl ⟨by rfl, fun w' hSw => ?_⟩; (try dsimp only at hSw); go_simp; try with_reducible rfl
      simp only [Act.put, List.setIfInBounds_toArray, List.set_cons_zero, List.set_cons_succ]
      refine oneH (i := 7) (by kernel_rfl) (fun o ho K' hK => ?_)
      simp only [List.getElem?_toArray, List.getElem?_cons_zero, List.getElem?_cons_succ, Option.some.injEq] at ho; subst ho
      refine wp_copy_runs _ (.tmp 41) (.tmp 44) 22 22 (by rfl) _ _ (by rfl) (by rfl) hr2 ?_
      refine hK.out _ _ trivial ?_
      clear hK K'
      simp only [Act.put, List.setIfInBounds_toArray, List.set_cons_zero, List.set_cons_succ]
      refine takeH (i := 8) (some 46) (v := ?_) rfl (by kernel_rfl) (by kernel_rfl) (by kernel_rfl) (fun _ _ _ h => h) trivial (fun o ho => ?_) ?_
      rotate_left
      · simp only [List.getElem?_toArray, List.getElem?_cons_zero, List.getElem?_cons_succ, Option.some.injEq] at ho; subst ho; refine Or.inl ⟨by rfl, fun w' hSw => ?_⟩; (try dsimp only at hSw); go_simp; try with_reducible rfl
      simp only [Act.put, List.setIfInBounds_toArray, List.set_cons_zero, List.set_cons_succ]
      refine wpAnyH_done (by kernel_rfl) ?_ _
      refine lastH (by decide) (fun o ho K' hK => ?_)
      simp only [List.getElem?_toArray, List.getElem?_cons_zero, List.getElem?_cons_succ, Option.some.injEq] at ho; subst ho
      go_simp
      refine hK.out _ _ ?_
      clear hK K'
      go_wp2_with fail
      go_roundw
      case rel => exact ⟨k + min k (n - k), by omega, by rw [← E1.out], .inr (by omega), HX.out.1, HX.out.2⟩
      case measure => simp only [intOf]; have := E1.out; simp; omega
    · obtain rfl : k = n := by omega
      have HX := Lib.hid (And.intro hrow hbr)
      clear hrow hbr hk0
      go_wp2_with fail
      go_ret
      exact ⟨⟨G, rfl, by rw [HG.out]; exact Nat.le_refl _, HX.out.1.congr fun j hj => by rw [if_pos hj]⟩, by rw [← HG.out]; exact HX.out.2⟩
end Go.Proofs.Ytflbooopgjgkbaa

/- The early ones, and the nearest, as they are reckoned place by place, in mathematics. No condition. -/
namespace Go.Proofs.Ytflbooopgjgkbaa
set_option linter.unusedVariables false

/-! ### Places that hang below others -/
/-- Places from L on hang below others; of each the one with the earliest early one, up to there. -/
structure GrvI (par : Nat → Nat) (k L : Nat) (early least : Nat → Nat) (above : Nat → Int) : Prop where
  lo : ∀ v, v < L → v < k → above v = -1 ∧ least v = v
  hi : ∀ v, L ≤ v → v < k → ∃ a : Nat, above v = (a : Int) ∧ a < v ∧ AncP par a v ∧ (∀ y, AncP par y v → a < y → L ≤ y) ∧ AncP par (least v) v ∧ a < least v ∧ ∀ y, AncP par y v → a < y → early (least v) ≤ early y
/-- The one with the earliest early one, above one, that hangs. -/
def BestP (par : Nat → Nat) (L : Nat) (early : Nat → Nat) (v x : Nat) : Prop := (v < L ∧ x = v) ∨ (L ≤ v ∧ AncP par x v ∧ L ≤ x ∧ ∀ y, AncP par y v → L ≤ y → early x ≤ early y)

variable {n k L : Nat} {E : Nat → Nat → Prop} {par early least : Nat → Nat} {above : Nat → Int}
theorem GrvI.start (par : Nat → Nat) (k : Nat) (early : Nat → Nat) : GrvI par k k early (fun v => v) (fun _ => -1) :=
  ⟨fun _ _ _ => ⟨rfl, rfl⟩, fun v h1 h2 => by omega⟩
theorem GrvI.least_lt (T : TreeP k E par) (G : GrvI par k L early least above) {v : Nat} (hv : v < k) : least v < k := by
  by_cases h : v < L
  · rw [(G.lo v h hv).2]; exact hv
  · obtain ⟨a, _, _, _, _, h5, _⟩ := G.hi v (by omega) hv
    have := T.anc_le h5 hv; omega
theorem GrvI.best (G : GrvI par k L early least above) {v : Nat} (hv : v < k) (hr : above v < (L : Int)) : BestP par L early v (least v) := by
  by_cases h : v < L
  · exact .inl ⟨h, (G.lo v h hv).2⟩
  · obtain ⟨a, h1, h2, h3, h4, h5, h6, h7⟩ := G.hi v (by omega) hv
    exact .inr ⟨by omega, h5, h4 _ h5 h6, fun y hy hL => h7 y hy (by omega)⟩
theorem GrvI.hang (T : TreeP k E par) (G : GrvI par k L early least above) {p q : Nat} {r : Int} (hp : L ≤ p) (hpk : p < k) (hq : above p = (q : Int)) (hqL : L ≤ q) (hr : above q = r) :
    GrvI par k L early (updF least p (if early (least q) < early (least p) then least q else least p)) (updF above p r) := by
  refine ⟨fun v h1 h2 => ?_, fun v h1 h2 => ?_⟩
  · rw [updF_else _ _ (by omega), updF_else _ _ (by omega)]; exact G.lo v h1 h2
  · by_cases e : v = p
    · subst e
      rw [updF_here, updF_here]
      obtain ⟨a, a1, a2, a3, a4, a5, a6, a7⟩ := G.hi v h1 h2
      obtain rfl : a = q := by omega
      obtain ⟨b, b1, b2, b3, b4, b5, b6, b7⟩ := G.hi a hqL (by omega)
      refine ⟨b, by omega, by omega, b3.trans a3, fun y hy hby => ?_, ?_, ?_, fun y hy hby => ?_⟩
      · by_cases hay : a < y
        · exact a4 y hy hay
        · exact b4 y (T.both hy a3 h2 (by omega)) hby
      · split
        · exact b5.trans a3
        · exact a5
      · split <;> omega
      · by_cases hay : a < y
        · have := a7 y hy hay
          split <;> omega
        · have := b7 y (T.both hy a3 h2 (by omega)) hby
          split <;> omega
    · rw [updF_else _ _ e, updF_else _ _ e]; exact G.hi v h1 h2
theorem GrvI.congr {early' : Nat → Nat} (G : GrvI par k L early least above) (he : ∀ v, L ≤ v → early' v = early v) : GrvI par k L early' least above := by
  refine ⟨G.lo, fun v h1 h2 => ?_⟩
  obtain ⟨a, a1, a2, a3, a4, a5, a6, a7⟩ := G.hi v h1 h2
  refine ⟨a, a1, a2, a3, a4, a5, a6, fun y hy hay => ?_⟩
  rw [he _ (a4 _ a5 a6), he _ (a4 y hy hay)]; exact a7 y hy hay
theorem GrvI.link (T : TreeP k E par) {P : Nat} (G : GrvI par k (P + 1) early least above) (h0 : 0 < P) (hP : P < k) : GrvI par k P early least (updF above P (par P : Int)) := by
  refine ⟨fun v h1 h2 => ?_, fun v h1 h2 => ?_⟩
  · rw [updF_else _ _ (by omega)]; exact G.lo v (by omega) h2
  · by_cases e : v = P
    · subst e
      rw [updF_here, (G.lo v (by omega) h2).2]
      have hp := T.par_lt v h0 hP
      have key : ∀ y, AncP par y v → par v < y → y = v := fun y hy hlt => by
        cases hy with
        | refl => rfl
        | step _ hy => have := T.anc_le hy (by omega); omega
      exact ⟨par v, rfl, hp, .step h0 .refl, fun y hy hlt => by rw [key y hy hlt]; exact Nat.le_refl _, .refl, hp, fun y hy hlt => by rw [key y hy hlt]; exact Nat.le_refl _⟩
    · rw [updF_else _ _ e]
      obtain ⟨a, a1, a2, a3, a4, a5, a6, a7⟩ := G.hi v (by omega) h2
      exact ⟨a, a1, a2, a3, fun y hy hay => by have := a4 y hy hay; omega, a5, a6, a7⟩

/-! ### The early one of a place -/
/-- What e is, of those that lead to P. -/
structure PredP (par early : Nat → Nat) (P : Nat) (l : List Nat) (e : Nat) : Prop where
  here : ∀ u ∈ l, u ≤ P → e ≤ u
  chain : ∀ u ∈ l, ∀ x, AncP par x u → P < x → e ≤ early x
  found : e = P ∨ (∃ u, u ∈ l ∧ u < P ∧ e = u) ∨ ∃ u x, u ∈ l ∧ AncP par x u ∧ P < x ∧ e = early x
theorem PredP.start (par early : Nat → Nat) (P : Nat) : PredP par early P [] P := ⟨fun u h => (by cases h), fun u h => (by cases h), .inl rfl⟩
theorem PredP.le {P e : Nat} {l : List Nat} (h : PredP par early P l e) (T : TreeP k E par) (hr : ∀ u ∈ l, u < k) (hf : ∀ w, P < w → w < k → early w ≤ k) (hP : P < k) : e ≤ k := by
  rcases h.found with h1 | ⟨u, h1, h2, h3⟩ | ⟨u, x, h1, h2, h3, h4⟩
  · omega
  · omega
  · have := T.anc_le h2 (hr u h1)
    have := hr u h1
    rw [h4]; exact hf x h3 (by omega)
theorem PredP.step {P e u b : Nat} {l : List Nat} (T : TreeP k E par) (h : PredP par early P l e) (hf : ∀ v, v < P → early v = v) (hu : u < k) (hb : BestP par (P + 1) (updF early P e) u b) (heP : e ≤ P) :
    PredP par early P (l ++ [u]) (min e (updF early P e b)) := by
  have hmem : ∀ {x : Nat}, x ∈ l ++ [u] → x ∈ l ∨ x = u := fun hx => by simpa using hx
  rcases hb with ⟨h1, rfl⟩ | ⟨h1, h2, h3, h4⟩
  · by_cases hbP : b = P
    · subst hbP
      rw [updF_here, Nat.min_self]
      refine ⟨fun x hx hxP => ?_, fun x hx y hy hPy => ?_, ?_⟩
      · rcases hmem hx with hx | rfl
        · exact h.here x hx hxP
        · exact heP
      · rcases hmem hx with hx | rfl
        · exact h.chain x hx y hy hPy
        · have := T.anc_le hy hu; omega
      · rcases h.found with h5 | ⟨x, h5, h6⟩ | ⟨x, y, h5, h6⟩
        · exact .inl h5
        · exact .inr (.inl ⟨x, by simp [h5], h6⟩)
        · exact .inr (.inr ⟨x, y, by simp [h5], h6⟩)
    · have hbl : b < P := by omega
      rw [updF_else _ _ hbP, hf b hbl]
      refine ⟨fun x hx hxP => ?_, fun x hx y hy hPy => ?_, ?_⟩
      · rcases hmem hx with hx | rfl
        · have := h.here x hx hxP; omega
        · omega
      · rcases hmem hx with hx | rfl
        · have := h.chain x hx y hy hPy; omega
        · have := T.anc_le hy hu; omega
      · by_cases hle : e ≤ b
        · rw [Nat.min_eq_left hle]
          rcases h.found with h5 | ⟨x, h5, h6⟩ | ⟨x, y, h5, h6⟩
          · exact .inl h5
          · exact .inr (.inl ⟨x, by simp [h5], h6⟩)
          · exact .inr (.inr ⟨x, y, by simp [h5], h6⟩)
        · rw [Nat.min_eq_right (by omega)]
          exact .inr (.inl ⟨b, by simp, hbl, rfl⟩)
  · rw [updF_else _ _ (by omega)]
    have hby : ∀ y, AncP par y u → P < y → early b ≤ early y := fun y hy hPy => by
      have := h4 y hy (by omega)
      rwa [updF_else _ _ (by omega), updF_else _ _ (by omega)] at this
    refine ⟨fun x hx hxP => ?_, fun x hx y hy hPy => ?_, ?_⟩
    · rcases hmem hx with hx | rfl
      · have := h.here x hx hxP; omega
      · omega
    · rcases hmem hx with hx | rfl
      · have := h.chain x hx y hy hPy; omega
      · have := hby y hy hPy; omega
    · by_cases hle : e ≤ early b
      · rw [Nat.min_eq_left hle]
        rcases h.found with h5 | ⟨x, h5, h6⟩ | ⟨x, y, h5, h6⟩
        · exact .inl h5
        · exact .inr (.inl ⟨x, by simp [h5], h6⟩)
        · exact .inr (.inr ⟨x, y, by simp [h5], h6⟩)
      · rw [Nat.min_eq_right (by omega)]
        exact .inr (.inr ⟨u, b, by simp, h2, by omega, rfl⟩)
theorem PredP.done {P e : Nat} {l : List Nat} (T : TreeP k E par) (h : PredP par early P l e) (hl : ∀ u, u ∈ l ↔ E u P) (S : EarlyP (P + 1) k E par early) (h0 : 0 < P) (hP : P < k) : e < P ∧ EarlyP P k E par (updF early P e) := by
  have hp := T.par_lt P h0 hP
  have he := h.here (par P) ((hl _).2 (T.par_e P h0 hP)) (by omega)
  refine ⟨by omega, ⟨fun w u hw hE hu => ?_, fun w u x hw hE hx hwx => ?_, fun w hw hwk => ?_, h0⟩⟩
  · by_cases e1 : w = P
    · subst e1; rw [updF_here]; exact h.here u ((hl u).2 hE) hu
    · rw [updF_else _ _ e1]; exact S.here w u (by omega) hE hu
  · rw [updF_else early e (show x ≠ P by omega)]
    by_cases e1 : w = P
    · subst e1; rw [updF_here]; exact h.chain u ((hl u).2 hE) x hx hwx
    · rw [updF_else _ _ e1]; exact S.chain w u x (by omega) hE hx hwx
  · by_cases e1 : w = P
    · subst e1
      rw [updF_here]
      rcases h.found with h5 | ⟨x, h5, h6⟩ | ⟨x, y, h5, h6, h7, h8⟩
      · omega
      · exact .inl ⟨x, (hl x).1 h5, h6⟩
      · exact .inr ⟨x, y, (hl x).1 h5, h6, h7, by rw [updF_else _ _ (by omega)]; exact h8⟩
    · rw [updF_else _ _ e1]
      rcases S.found w (by omega) hwk with h5 | ⟨x, y, h5, h6, h7, h8⟩
      · exact .inl h5
      · exact .inr ⟨x, y, h5, h6, h7, by rw [updF_else _ _ (by omega)]; exact h8⟩

/-! ### The nearest, at first -/
def HandP (par : Nat → Nat) (L : Nat) (early near : Nat → Nat) (w : Nat) : Prop := ∃ x, AncP par x w ∧ early w < x ∧ (∀ y, AncP par y w → early w < y → L ≤ y ∧ early x ≤ early y) ∧ ((early x = early w ∧ near w = early w) ∨ (early x < early w ∧ near w = x))
structure NrI (k L : Nat) (E : Nat → Nat → Prop) (par early near : Nat → Nat) (W : Nat → List Nat) : Prop where
  fresh : ∀ v, v < L → early v = v
  ear : EarlyP L k E par early
  wait : ∀ s, ∀ w ∈ W s, L ≤ w ∧ w < k ∧ early w = s ∧ ∀ c, L ≤ c → par c = s → ¬ AncP par c w
  got : ∀ w, L ≤ w → w < k → w ∈ W (early w) ∨ HandP par L early near w
  zero : near 0 = 0
  few : ∀ s, (W s).length + L ≤ k
variable {near : Nat → Nat} {W : Nat → List Nat}
theorem NrI.start (E : Nat → Nat → Prop) (par : Nat → Nat) (k : Nat) (h0 : 0 < k) (hE : ∀ u v, E u v → v < k) : NrI k k E par (fun v => v) (fun _ => 0) (fun _ => []) :=
  ⟨fun _ _ => rfl, ⟨fun w u h1 h2 => (by have := hE _ _ h2; omega), fun w u x h1 h2 => (by have := hE _ _ h2; omega), fun w h1 h2 => (by omega), h0⟩, fun s w h => (by cases h), fun w h1 h2 => (by omega), rfl, fun s => (by simp)⟩
/-- The child on the way down. -/
theorem anc_child {a v : Nat} (h : AncP par a v) : a = v ∨ ∃ c, par c = a ∧ 0 < c ∧ AncP par c v := by
  induction h with
  | refl => exact .inl rfl
  | @step v h1 h2 ih =>
    right
    rcases ih with h | ⟨c, h3, h4, h5⟩
    · exact ⟨v, h.symm, h1, .refl⟩
    · exact ⟨c, h3, h4, .step h1 h5⟩
/-- Those that wait for a place's parent are below the place. -/
theorem wait_below {P w : Nat} (T : TreeP k E par) (S : EarlyP P k E par early) (h0 : 0 < P) (hP : P < k) (hw : P ≤ w) (hwk : w < k) (he : early w = par P) (hc : ∀ c, P + 1 ≤ c → par c = par P → ¬ AncP par c w) : AncP par P w := by
  have hlt := S.lt T hw hwk
  have ha := S.anc T hw hwk
  rw [he] at ha hlt
  rcases anc_child ha with h | ⟨c, h1, h2, h3⟩
  · omega
  · have hcw := T.anc_le h3 hwk
    have hcl := T.par_lt c h2 (by omega)
    have hPl := T.par_lt P h0 hP
    by_cases h4 : P < c
    · exact absurd h3 (hc c h4 h1)
    · have h5 : AncP par c P := T.mid c P w h3 hwk (by omega) hw
      cases h5 with
      | refl => exact h3
      | step _ h6 => have := T.anc_le h6 (by omega); omega
/-- One that waited is handled. -/
theorem hand_of {P w x : Nat} (T : TreeP k E par) (S : EarlyP P k E par early) (h0 : 0 < P) (hP : P < k) (hw : P ≤ w) (hwk : w < k) (he : early w = par P) (hc : ∀ c, P + 1 ≤ c → par c = par P → ¬ AncP par c w) (hb : BestP par P early w x) (near : Nat → Nat) (hn : near w = if early x < par P then x else par P) : HandP par P early near w := by
  have hbw := wait_below T S h0 hP hw hwk he hc
  have hPl := T.par_lt P h0 hP
  rcases hb with ⟨h1, _⟩ | ⟨_, h2, h3, h4⟩
  · omega
  · have hx := h4 w .refl hw
    have hyP : ∀ y, AncP par y w → early w < y → P ≤ y := fun y hy hly => by
      apply Classical.byContradiction
      intro h5
      have h6 := T.both hy hbw hwk (by omega)
      cases h6 with
      | refl => omega
      | step _ h7 => have := T.anc_le h7 (by omega); omega
    refine ⟨x, h2, by omega, fun y hy hly => ⟨hyP y hy hly, h4 y hy (hyP y hy hly)⟩, ?_⟩
    rw [he] at hx ⊢
    by_cases h5 : early x < par P
    · rw [if_pos h5] at hn; exact .inr ⟨h5, hn⟩
    · rw [if_neg h5] at hn; exact .inl ⟨by omega, hn⟩
/-- Those that wait while a place is handled: it itself besides. -/
theorem NrI.waits {P e : Nat} (T : TreeP k E par) (N : NrI k (P + 1) E par early near W) (hP : P < k) :
    ∀ s, ∀ w ∈ updF W e (W e ++ [P]) s, P ≤ w ∧ w < k ∧ updF early P e w = s ∧ ∀ c, P + 1 ≤ c → par c = s → ¬ AncP par c w := by
  intro s w hw
  have old : ∀ s, w ∈ W s → P ≤ w ∧ w < k ∧ updF early P e w = s ∧ ∀ c, P + 1 ≤ c → par c = s → ¬ AncP par c w := fun s hw => by
    obtain ⟨h1, h2, h3, h4⟩ := N.wait s w hw
    exact ⟨by omega, h2, by rw [updF_else _ _ (by omega)]; exact h3, h4⟩
  by_cases e1 : s = e
  · subst e1
    rw [updF_here] at hw
    rcases List.mem_append.1 hw with hw | hw
    · exact old s hw
    · rw [List.mem_singleton.1 hw]
      exact ⟨Nat.le_refl _, hP, updF_here _ _ _, fun c hc _ h => by have := T.anc_le h hP; omega⟩
  · rw [updF_else _ _ e1] at hw
    exact old s hw
theorem NrI.next {P e : Nat} {near' : Nat → Nat} (T : TreeP k E par) (N : NrI k (P + 1) E par early near W) (h0 : 0 < P) (hP : P < k) (S : EarlyP P k E par (updF early P e))
    (hh : ∀ w ∈ updF W e (W e ++ [P]) (par P), HandP par P (updF early P e) near' w) (hk : ∀ w, w ∉ updF W e (W e ++ [P]) (par P) → near' w = near w) :
    NrI k P E par (updF early P e) near' (updF (updF W e (W e ++ [P])) (par P) []) := by
  have hwt := N.waits (e := e) T hP
  have hPl := T.par_lt P h0 hP
  have hin : ∀ w, P ≤ w → w < k → w ∈ updF W e (W e ++ [P]) (updF early P e w) ∨ HandP par (P + 1) early near w := fun w hw hwk => by
    by_cases e3 : w = P
    · subst e3; left; rw [updF_here, updF_here]; simp
    · rw [updF_else _ _ e3]
      rcases N.got w (by omega) hwk with h1 | h1
      · left
        by_cases e4 : early w = e
        · rw [e4, updF_here]; rw [e4] at h1; simp [h1]
        · rw [updF_else _ _ e4]; exact h1
      · exact .inr h1
  refine ⟨fun v hv => by rw [updF_else _ _ (by omega)]; exact N.fresh v (by omega), S, fun s w hw => ?_, fun w hw hwk => ?_, ?_, fun s => ?_⟩
  · by_cases e1 : s = par P
    · subst e1; rw [updF_here] at hw; cases hw
    · rw [updF_else _ _ e1] at hw
      obtain ⟨h1, h2, h3, h4⟩ := hwt s w hw
      refine ⟨h1, h2, h3, fun c hc hp => ?_⟩
      by_cases e2 : c = P
      · subst e2; exact absurd hp.symm e1
      · exact h4 c (by omega) hp
  · by_cases e2 : w ∈ updF W e (W e ++ [P]) (par P)
    · exact .inr (hh w e2)
    · rcases hin w hw hwk with h1 | ⟨x, h1, h2, h3, h4⟩
      · left
        by_cases e4 : updF early P e w = par P
        · rw [e4] at h1; exact absurd h1 e2
        · rw [updF_else _ _ e4]; exact h1
      · right
        have hwP : w ≠ P := fun e3 => by have := (h3 w .refl (by have := T.anc_le h1 hwk; omega)).1; omega
        have hxP := (h3 x h1 h2).1
        refine ⟨x, h1, by rw [updF_else _ _ hwP]; exact h2, fun y hy hly => ?_, ?_⟩
        · rw [updF_else _ _ hwP] at hly
          obtain ⟨h5, h6⟩ := h3 y hy hly
          rw [updF_else _ _ (by omega), updF_else _ _ (by omega)]
          exact ⟨by omega, h6⟩
        · rw [updF_else _ _ hwP, updF_else _ _ (by omega), hk w e2]; exact h4
  · rw [hk 0 (fun h => by have := (hwt _ _ h).1; omega)]; exact N.zero
  · have h1 := N.few s
    by_cases e1 : s = par P
    · subst e1; rw [updF_here]; simp; omega
    · rw [updF_else _ _ e1]
      by_cases e2 : s = e
      · subst e2; rw [updF_here]; simp; omega
      · rw [updF_else _ _ e2]; omega

/-! ### The nearest -/
/-- How far the second way has come: j. -/
structure NdI (k : Nat) (par early near0 near : Nat → Nat) (j : Nat) : Prop where
  done : ∀ w, 0 < w → w < j → w < k → ∃ x, AncP par x w ∧ early w < x ∧ (∀ y, AncP par y w → early w < y → early x ≤ early y) ∧ ((early x = early w ∧ near w = early w) ∨ (early x < early w ∧ x < w ∧ near w = near x))
  left : ∀ w, j ≤ w → near w = near0 w
  zero : near 0 = 0
theorem NrI.hand (T : TreeP k E par) (N : NrI k 1 E par early near W) : ∀ w, 0 < w → w < k → HandP par 1 early near w := fun w h0 hw => by
  rcases N.got w h0 hw with h | h
  · exfalso
    obtain ⟨h1, h2, h3, h4⟩ := N.wait _ w h
    have ha := N.ear.anc T h0 hw
    have hl := N.ear.lt T h0 hw
    rcases anc_child ha with h5 | ⟨c, h5, h6, h7⟩
    · omega
    · exact h4 c h6 h5 h7
  · exact h
/-- What a place has at first: its early one, or one above it with an earlier one. -/
theorem NrI.pick (T : TreeP k E par) (N : NrI k 1 E par early near W) {w : Nat} (h0 : 0 < w) (hw : w < k) : near w < w := by
  obtain ⟨x, h1, h2, h3, ⟨h4, h5⟩ | ⟨h4, h5⟩⟩ := N.hand T w h0 hw
  · have := N.ear.lt T h0 hw; omega
  · have := T.anc_le h1 hw
    have : x ≠ w := fun e => by subst e; omega
    omega
theorem NdI.start (N : NrI k 1 E par early near W) : NdI k par early near near 0 := ⟨fun w h0 h1 => by omega, fun _ _ => rfl, N.zero⟩
theorem NdI.step (T : TreeP k E par) {near0 : Nat → Nat} (N : NrI k 1 E par early near0 W) {j : Nat} (h : NdI k par early near0 near j) (hj : j < k) :
    NdI k par early near0 (if near j = early j then near else updF near j (near (near j))) (j + 1) := by
  have hj0 := h.left j (Nat.le_refl _)
  rcases Nat.eq_zero_or_pos j with h0 | h0
  · subst h0
    rw [if_pos (by rw [h.zero, N.fresh 0 (by omega)])]
    exact ⟨fun w h1 h2 => by omega, fun w hw => h.left w (by omega), h.zero⟩
  · have hpick := N.pick T h0 hj
    obtain ⟨x, h1, h2, h3, h4⟩ := N.hand T j h0 hj
    have hlt := N.ear.lt T h0 hj
    rcases h4 with ⟨h4, h5⟩ | ⟨h4, h5⟩
    · rw [if_pos (by omega)]
      refine ⟨fun w hw hwj hwk => ?_, fun w hw => h.left w (by omega), h.zero⟩
      by_cases e : w = j
      · subst e
        exact ⟨x, h1, h2, fun y hy hly => (h3 y hy hly).2, .inl ⟨h4, by omega⟩⟩
      · exact h.done w hw (by omega) hwk
    · have hnx : near j = x := by omega
      rw [if_neg (by omega), hnx]
      have hxj : x < j := by omega
      refine ⟨fun w hw hwj hwk => ?_, fun w hw => by rw [updF_else _ _ (by omega)]; exact h.left w (by omega), by rw [updF_else _ _ (by omega)]; exact h.zero⟩
      by_cases e : w = j
      · subst e
        exact ⟨x, h1, h2, fun y hy hly => (h3 y hy hly).2, .inr ⟨h4, hxj, by rw [updF_here, updF_else _ _ (by omega)]⟩⟩
      · obtain ⟨z, z1, z2, z3, z4⟩ := h.done w hw (by omega) hwk
        refine ⟨z, z1, z2, z3, ?_⟩
        rw [updF_else _ _ e]
        rcases z4 with z4 | ⟨z4, z5, z6⟩
        · exact .inl z4
        · exact .inr ⟨z4, z5, by rw [updF_else _ _ (by omega)]; exact z6⟩
theorem NdI.all {near0 : Nat → Nat} (h : NdI k par early near0 near k) : NearP k par early near := fun w h0 hw => h.done w h0 hw hw
end Go.Proofs.Ytflbooopgjgkbaa
