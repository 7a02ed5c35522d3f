/- slices.Backward over a list of numbers: its contract, round by round. Every list, an empty one too. -/
import Derived.Test.YtflbooopgjgkbaaGrEJ
import Derived.Test.YtflbooopgjgkbaaRndJ
import Derived.RangeFuncBound
import Derived.RangeFuncCalls
import Derived.Shelf.Abstract
import Derived.Shelf.RegionOpen
import Derived.WalkKit
import Derived.OwnWalkIn
import Derived.TacticsInMore
import Derived.LoopNIn
import Derived.LoopIn
import Derived.Test.YtflbooopgjgkbaaDmAJ
import Derived.Laws.IdiomCopy
import Derived.WalkSmall
import Derived.Test.YtflbooopgjgkbaaDmRaJ
import Derived.WalkSpells
namespace Go.Proofs.Ytflbooopgjgkbaa
open Go.ChangeShapes Go.WideShapes Go.RowKit Go.Deep Go.Shelf
set_option linter.unusedVariables false
attribute [local go_sem] Oper.semAt_some

/-- What the k-th round is given: a place, from the list's end on, and what stands there. -/
def backE (zs : List Int) (k : Nat) : Array Value := #[.int .i64 ((zs.length : Int) - 1 - (k : Int)), .int .i64 (zs[zs.length - 1 - k]?.getD 0)]

set_option maxRecDepth 100000 in
set_option maxHeartbeats 2000000 in
theorem backward1_in (l Bs b off len cap : Nat) (X : Nat → Prop) (z : Nat → Int) (hreach : len * 8 ≤ 140737488351232) (hb : X b) (J : Nat → World → Prop)
    (hY : ∀ k W, J k W → k < len → YieldAt Fence.wide 2 Try.prog l #[.int .i64 ((len : Int) - 1 - (k : Int)), .int .i64 (z (len - 1 - k))] W fun e W' => e = .returned (.bool true) ∧ J (k + 1) W' ∧ KeepX X W W')
    (W : World) (hBn : X Bs) (hBs : W.cell? ⟨Bs, 0, none⟩ = some (.slice (some ⟨b, off, none⟩) len cap)) (hc : ∀ j, j < len → W.cell? ⟨b, off + j, none⟩ = some (.int .i64 (z j))) (h0 : J 0 W) :
    CallsIn Fence.wide 3 Try.prog 70 #[.func (.yield l) #[] #[], .pointer (some ⟨Bs, 0, none⟩)] W fun e W' => (∃ v, e = .returned v) ∧ J len W' := by
  refine callsIn_of_wp Try.func70 rfl trivial ?_ rfl
  simp only [Try.ntmps70, List.size_toArray, List.length_cons, List.length_nil, Nat.reduceAdd, Nat.reduceSub, Array.replicate_succ, Array.replicate_zero, List.push_toArray, List.append_toArray, List.nil_append, List.cons_append]
  gi_wp2
  gi_loopw [3] (fun i wr => ∃ k : Nat, k ≤ len ∧ i = .int .i64 ((len : Int) - 1 - (k : Int)) ∧ J k wr ∧ KeepX X W wr)
    (fun i _ => (intOf i + 1).toNat)
  case atStart => exact ⟨0, Nat.zero_le _, by simp, h0, keepX_refl _ _⟩
  case round =>
    obtain ⟨k, hk, rfl, hJs, hnx⟩ := hrel
    have hbs := (hnx.cell (p := ⟨Bs, 0, none⟩) hBn).trans hBs
    by_cases hlt : k < len
    · obtain ⟨i, hi⟩ : ∃ i : Nat, len = i + 1 + k := ⟨len - 1 - k, by omega⟩
      have hi2 : (len : Int) - 1 - (k : Int) = (i : Int) := by omega
      have hi3 : i < len := by omega
      rw [hi2]
      have hcx := (hnx.cell (p := ⟨b, off + i, none⟩) hb).trans (hc i hi3)
      obtain ⟨fn, tmps, assign, body, hy, hR⟩ := hY k wr hJs hlt
      rw [hi2, show len - 1 - k = i by omega] at hy
      have HI := Lib.hid hi
      clear hi hi2
      gi_wp2
      refine hR.mono ?_
      rintro e W3 ⟨rfl, hJ3, hk3⟩
      gi_wp2
      go_roundw
      case rel =>
        have hi := HI.out
        exact ⟨k + 1, by omega, by congr 1; omega, hJ3, keepX_t hnx hk3⟩
      case measure => simp [intOf]
    · obtain rfl : k = len := by omega
      rw [show (k : Int) - 1 - (k : Int) = -1 by omega]
      gi_wp2
      go_end0
      exact ⟨⟨_, rfl⟩, hJs⟩

set_option maxRecDepth 100000 in
set_option maxHeartbeats 1000000 in
/-- .. at an empty list: no round. -/
theorem backward1_nil (l Bs : Nat) (A : Option Addr) (cap : Nat) (J : World → Prop) (W : World) (hBs : W.cell? ⟨Bs, 0, none⟩ = some (.slice A 0 cap)) (h0 : J W) :
    CallsIn Fence.wide 3 Try.prog 70 #[.func (.yield l) #[] #[], .pointer (some ⟨Bs, 0, none⟩)] W fun e W' => (∃ v, e = .returned v) ∧ J W' := by
  refine callsIn_of_wp Try.func70 rfl trivial ?_ rfl
  simp only [Try.ntmps70, List.size_toArray, List.length_cons, List.length_nil, Nat.reduceAdd, Nat.reduceSub, Array.replicate_succ, Array.replicate_zero, List.push_toArray, List.append_toArray, List.nil_append, List.cons_append]
  gi_wp2
  gi_loopw [3] (fun i wr => i = .int .i64 (-1) ∧ J wr) (fun _ _ => 0)
  case atStart => exact ⟨rfl, h0⟩
  case round =>
    obtain ⟨rfl, hJs⟩ := hrel
    gi_wp2
    go_end0
    exact ⟨⟨_, rfl⟩, hJs⟩

set_option maxHeartbeats 1000000 in
theorem backward_in (a : Option Addr) (len cap : Nat) (w : World) :
    Calls Try.prog 50 #[.slice a len cap] w fun e w' => e = .returned (.func (.func 70) #[] #[.pointer (some ⟨w.heap.size, 0, none⟩)]) ∧ w' = w.alloc (.cells #[.slice a len cap] 22) := by
  go_enter Try.func50, Try.ntmps50
  go_wp2_with fail
  go_ret
  exact ⟨rfl, rfl⟩

/-- THE CONTRACT: all, the last one first. Rounds keep the box and the list. -/
theorem backward_stops (Bs cap : Nat) (X : Nat → Prop) (A : Option Addr) (zs : List Int) (hreach : zs.length ≤ 1000000) (w : World) (hX : ∀ k, X k → k < w.heap.size)
    (hc : w.cell? ⟨Bs, 0, none⟩ = some (.slice A zs.length cap)) (hS : SL w 1 RInt A cap zs) (hBs : X Bs) (hA : ∀ b off, A = some ⟨b, off, none⟩ → 0 < zs.length → X b) :
    SeqN Try.prog 70 #[.pointer (some ⟨Bs, 0, none⟩)] (backE zs) X zs.length w := fun l J W hW hY h0 => by
  have hc' := (hW.cell (p := ⟨Bs, 0, none⟩) (hX _ hBs)).trans hc
  by_cases hz : zs.length = 0
  · rw [hz] at hc' ⊢
    exact backward1_nil l Bs A cap (J 0) W hc' h0
  · obtain ⟨b, off, rfl, hcs⟩ := hS.2.2 (by omega)
    have hb := hA b off rfl (by omega)
    exact backward1_in l Bs b off zs.length cap X (fun i => zs[i]?.getD 0) (by omega) hb J hY W hBs hc' (fun j hj => by
      refine (hW.cell (p := ⟨b, off + j, none⟩) (hX _ hb)).trans ?_
      have hzj : zs[j]? = some zs[j] := List.getElem?_eq_getElem hj
      have := (hcs j zs[j] hzj).1
      rw [Nat.mul_one] at this
      rw [hzj]; exact this) h0
end Go.Proofs.Ytflbooopgjgkbaa

/- slices.Repeat of one number: a new row that holds it throughout. -/
namespace Go.Proofs.Ytflbooopgjgkbaa
open Go.ChangeShapes Go.WideShapes Go.RowKit Go.Deep
set_option linter.unusedVariables false

theorem and_mask (n : Nat) (hn : n ≤ 1000000) : bits BinOp.and IntKind.u64 (n : Int) 4294967295 = (n : Int) := by
  have h := bits_and_u64_nat n 4294967295 (by omega) (by omega)
  have h2 : n &&& 4294967295 = n := by
    have := Nat.and_two_pow_sub_one_eq_mod n 32
    rw [show (2 : Nat) ^ 32 - 1 = 4294967295 by decide] at this
    rw [this]; exact Nat.mod_eq_of_lt (by omega)
  rw [h2] at h
  exact h
set_option maxRecDepth 100000 in
theorem mul64_one (n : Nat) (w : World) (hn : n ≤ 1000000) : Calls Try.prog 89 #[.int .u64 1, .int .u64 (n : Int)] w fun e w' => e = .returned (.tuple #[.int .u64 0, .int .u64 (n : Int)]) ∧ w = w' := by
  have e1 : bits BinOp.and IntKind.u64 1 4294967295 = 1 := by decide
  have e2 := and_mask n hn
  have e3 : (n : Int) / 4294967296 = 0 := by omega
  have e4 : IntKind.u64.wrap (n : Int) = n := (by rw [IntKind.wrap_u64]; omega)
  have e5 : IntKind.u64.wrap 0 = 0 := by decide
  have e6 : bits BinOp.and IntKind.u64 0 4294967295 = 0 := by decide
  go_enter Try.func89, Try.ntmps89
  go_wp2_with fail
  go_ret2
  exact ⟨rfl, rfl⟩

set_option maxRecDepth 100000 in
theorem mul_one_ (n : Nat) (w : World) (hn : n ≤ 1000000) : Calls Try.prog 69 #[.int .u64 1, .int .u64 (n : Int)] w fun e w' => e = .returned (.tuple #[.int .u64 0, .int .u64 (n : Int)]) ∧ w = w' := by
  go_enter Try.func69, Try.ntmps69
  go_wp2_with (go_at_call 89; refine (mul64_one n _ hn).mono ?_; rintro e w' ⟨rfl, rfl⟩)
  go_ret2
  exact ⟨rfl, rfl⟩

/-- Part of a row is written over by one value. -/
theorem row_setCells {G n : Nat} {e : TypeId} (u : Value) : ∀ (k o : Nat) {w : World} {V : Nat → Value}, w.rowIs G e n V → (w.setCells G o (List.replicate k u)).rowIs G e n (fun j => if o ≤ j ∧ j < o + k then u else V j)
  | 0, o, w, V, h => by
    refine (show (w.setCells G o (List.replicate 0 u)).rowIs G e n V from h).congr fun j _ => ?_
    rw [if_neg (by omega)]
  | k + 1, o, w, V, h => by
    refine (show (w.setCells G o (List.replicate (k + 1) u)).rowIs G e n _ from row_setCells u k (o + 1) (h.set o u)).congr fun j _ => ?_
    by_cases e1 : j = o
    · rw [if_neg (by omega), if_pos e1, if_pos (by omega)]
    · by_cases e2 : o + 1 ≤ j ∧ j < o + 1 + k
      · rw [if_pos e2, if_pos (by omega)]
      · rw [if_neg e2, if_neg e1, if_neg (by omega)]
theorem below_setCells_ {B : Nat} {a : World} (b : Nat) (hb : B ≤ b) : ∀ (vs : List Value) (o : Nat) {w : World}, Below B a w → Below B a (w.setCells b o vs)
  | [], _, _, h => h
  | v :: r, o, _, h => below_setCells_ b hb r (o + 1) (h.setCell (p := ⟨b, o, none⟩) hb v)
/-- The operation 'copy(d, s)', where its run is known by an equation. -/
theorem wp_copy_runs {P : Program} (w : World) {o : Oper} {a : Act} {K : Act → World → Prop} {Q : Exit → Act → World → Prop} (d s : Operand) (t t' : TypeId)
    (ho : o.op = .call { callee := .builtin .copy, args := #[d, s], argTypes := #[t, t'] }) (v u : Value) (hd : a.eval d = v) (hs : a.eval s = u) {v' : Value} {w' : World}
    (hr : (Builtin.copy_ #[t, t'] o.type #[v, u]).run P w = .ok v' w') (h : K (a.put o.dst v') w') : o.wp P a w K Q := by
  unfold Oper.wp execOp
  simp only [ho, resolve, invoke, builtin, Sem.run_bind, Sem.run_pure, Result.andThen_ok, List.map_toArray, List.map_cons, List.map_nil, hd, hs, hr]
  exact h
theorem wpList_copy_runs {P : Program} (w : World) {ops : Array Oper} {rest : List Oper} {o : Oper} {a : Act} {Q : Exit → Act → World → Prop} (hgd : o.guard = none) (d s : Operand) (t t' : TypeId)
    (ho : o.op = .call { callee := .builtin .copy, args := #[d, s], argTypes := #[t, t'] }) (v u : Value) (hd : a.eval d = v) (hs : a.eval s = u) {v' : Value} {w' : World}
    (hr : (Builtin.copy_ #[t, t'] o.type #[v, u]).run P w = .ok v' w') (h : wpList P ops Q rest (a.put o.dst v') w') : wpList P ops Q (o :: rest) a w :=
  wpList_plain hgd fun _ hK => wp_copy_runs w d s t t' ho v u hd hs hr (hK _ _ h)
theorem copy_row {P : Program} (t ty e : TypeId) (hu : P.underlying t = some (.slice e)) (hs : (P.info? e).map (·.size) = some 1) {w : World} {G n k d : Nat} {V : Nat → Value} (h : w.rowIs G e n V) {x : Int} {H c c' : Nat} (hkn : k + d ≤ n) (hd : 0 < d)
    (hsrc : ∀ j, j < d → w.cell? ⟨H, j, none⟩ = some (.int .i64 x)) (sl dl : Nat) (hmin : Nat.min sl dl = d) :
    ∃ w', (Builtin.copy_ #[t, t] ty #[.slice (some ⟨G, k, none⟩) dl c, .slice (some ⟨H, 0, none⟩) sl c']).run P w = .ok (.int .i64 (d : Int)) w' ∧
      w'.rowIs G e n (fun j => if k ≤ j ∧ j < k + d then .int .i64 x else V j) ∧ ∀ B a, B ≤ G → Below B a w → Below B a w' := by
  refine ⟨w.setCells G k (List.replicate d (.int .i64 x)), ?_, row_setCells _ d k h, fun B a hB hw => below_setCells_ G hB _ _ hw⟩
  have := run_copy_cells (P := P) w t t ty e G k dl c ⟨H, 0, none⟩ sl c' (List.replicate d (.int .i64 x)) hu hs (by rw [List.length_replicate]; exact hmin.symm)
    (fun j v hj => by
      rw [List.getElem?_replicate] at hj
      split at hj
      · cases hj
        have := hsrc j (by assumption)
        rw [show (⟨H, 0, none⟩ : Addr).add j = ⟨H, j, none⟩ by unfold Addr.add; simp <;> omega]; exact this
      · cases hj)
    (fun j hj => by rw [List.length_replicate] at hj; rw [h.cell (by omega)]; rfl) (fun j _ => h.frozen _)
    (fun v hv => by rw [List.mem_replicate] at hv; rw [hv.2]; rfl)
  rw [List.length_replicate] at this
  exact this

end Go.Proofs.Ytflbooopgjgkbaa

/- slices.Repeat of one number: a new row that holds it throughout. -/
namespace Go.Proofs.Ytflbooopgjgkbaa
open Go.ChangeShapes Go.WideShapes Go.RowKit Go.Deep
set_option linter.unusedVariables false

def ToldRp (n : Nat) (x : Int) (w : World) (e : Ending) (w' : World) : Prop :=
  (∃ G, e = .returned (.slice (some ⟨G, 0, none⟩) n n) ∧ w.heap.size ≤ G ∧ w'.rowIs G 3 n (fun _ => .int .i64 x)) ∧ Below w.heap.size w w'
/-- A row whose first k hold x. -/
def RpR (w : World) (G n k : Nat) (x : Int) : Prop := w.rowIs G 3 n (fun j => .int .i64 (if j < k then x else 0))
theorem RpR.cell {w : World} {G n k : Nat} {x : Int} (h : RpR w G n k x) (hk : k ≤ n) : ∀ j, j < k → w.cell? ⟨G, j, none⟩ = some (.int .i64 x) := fun j hj => by
  have := World.rowIs.cell h (i := j) (by omega)
  rw [if_pos hj] at this; exact this

set_option maxRecDepth 100000 in
set_option maxHeartbeats 4000000 in
theorem repeat_any (n H c : Nat) (x : Int) (w : World) (hc : w.cell? ⟨H, 0, none⟩ = some (.int .i64 x)) (hn : n ≤ 1000000) : Calls Try.prog 49 #[.slice (some ⟨H, 0, none⟩) 1 c, .int .i64 (n : Int)] w (ToldRp n x w) := by
  have hmk2 := run_make_row' (P := Try.prog) 22 3 (.int .i64 0) 8 Try.underlying22 Try.info3 rfl .i64 .i64 n (by omega) (by omega)
  have e4 : IntKind.u64.wrap (n : Int) = n := (by rw [IntKind.wrap_u64]; omega)
  have hsz : (Try.prog.info? 3).map (·.size) = some 1 := by kernel_rfl
  obtain ⟨W0, hW0⟩ : ∃ W0, w.alloc (.cells (madeCells #[.int .i64 0] n) 3) = W0 := ⟨_, rfl⟩
  have hb0 : Below w.heap.size w W0 := by rw [← hW0]; exact (Below.refl _ _).alloc (Nat.le_refl _) _
  have hr0 : RpR W0 w.heap.size n 0 x := by
    rw [← hW0]
    exact (World.rowIs_made w (.int .i64 0) n 3).congr fun j _ => by simp
  have hcw : W0.cell? ⟨H, 0, none⟩ = some (.int .i64 x) := (hb0.cell (p := ⟨H, 0, none⟩) (World.block_lt_of_cell? w _ hc)).trans hc
  obtain ⟨k, w1, hr, hkn, hk0, hrow, hB⟩ : ∃ (k : Nat) (w1 : World), (Builtin.copy_ #[22, 22] 3 #[.slice (some ⟨w.heap.size, 0, none⟩) n n, .slice (some ⟨H, 0, none⟩) 1 c]).run Try.prog W0 = .ok (.int .i64 (k : Int)) w1 ∧ k ≤ n ∧ (n = 0 ∨ 1 ≤ k) ∧ RpR w1 w.heap.size n k x ∧ Below w.heap.size w w1 := by
    by_cases h0 : n = 0
    · subst h0
      exact ⟨0, W0, run_copy_none W0 22 22 3 3 _ _ 0 0 1 c Try.underlying22 hsz (by decide), Nat.le_refl _, .inl rfl, hr0, hb0⟩
    · obtain ⟨w1, h1, h2, h3⟩ := copy_row (P := Try.prog) 22 3 3 Try.underlying22 hsz hr0 (k := 0) (d := 1) (x := x) (H := H) (c := n) (c' := c) (by omega) (by omega) (fun j hj => by rw [show j = 0 by omega]; exact hcw) 1 n (by show min 1 n = 1; omega)
      exact ⟨1, w1, h1, by omega, .inr (Nat.le_refl _), h2.congr fun j _ => by by_cases e : j < 1; rw [if_pos (by omega), if_pos e]; rw [if_neg (by omega), if_neg e, if_neg (by omega)], h3 _ _ (Nat.le_refl _) hb0⟩
  have HR := Lib.hid hrow
  have HB := Lib.hid hB
  have HK0 := Lib.hid hk0
  clear hrow hB hk0 hb0 hr0 hcw hc hsz
  go_enter Try.func49, Try.ntmps49
  go_wp2_with (first | (go_at_call 69; refine (mul_one_ n _ hn).mono ?_; rintro e w' ⟨rfl, rfl⟩) | (at_builtin; rw [hW0]; refine wpList_copy_runs _ rfl (.tmp 31) (.tmp 32) 22 22 rfl _ _ rfl rfl hr ?_))
  clear hr hmk2 e4 hW0
  obtain ⟨G, hG⟩ : ∃ G, G = w.heap.size := ⟨_, rfl⟩
  have HG := Lib.hid hG
  rw [← hG] at HR HB ⊢
  clear hG
  go_loopw [8] (fun m wr => ∃ k : Nat, k ≤ n ∧ m = .int .i64 k ∧ (n = 0 ∨ 1 ≤ k) ∧ RpR wr G n k x ∧ Below G w wr) (fun m _ => n - (intOf m).toNat)
  case atStart => exact ⟨k, hkn, rfl, HK0.out, HR.out, HB.out⟩
  case round =>
    clear hkn HR HB HK0
    obtain ⟨k, hkn, rfl, hk0, hrow, hbr⟩ := hrel
    by_cases hlt : k < n
    · have hk1 : 1 ≤ k := by omega
      obtain ⟨w2, hr2, hrow2, hb2⟩ := copy_row (P := Try.prog) 22 3 3 Try.underlying22 (by kernel_rfl) (w := wr.drew) (show RpR wr.drew G n k x from hrow) (k := k) (d := min k (n - k)) (x := x) (H := G) (c := n - k) (c' := n) (by omega) (by omega) (fun j hj => hrow.cell hkn j (by omega)) k (n - k) rfl
      have HX : Hid (RpR w2 G n (k + min k (n - k)) x ∧ Below G w w2) := Lib.hid ⟨hrow2.congr fun j _ => by
        by_cases e : j < k
        · rw [if_neg (by omega), if_pos e, if_pos (by omega)]
        · by_cases e2 : j < k + min k (n - k)
          · rw [if_pos (by omega), if_pos e2]
          · rw [if_neg (by omega), if_neg e, if_neg e2], hb2 _ _ (Nat.le_refl _) hbr.drew⟩
      have hnk : ¬ (n = k) := by omega
      clear hrow2 hb2 hrow hbr hk0
      have e1 : IntKind.i64.wrap ((k : Int) + ((min k (n - k) : Nat) : Int)) = ((k + min k (n - k) : Nat) : Int) := by rw [Go.IntWalk.i64_in _ (by omega)]; omega
      have E1 := Lib.hid e1
      clear e1
      go_wp2_with fail
      refine wp_region_last (L := 9) (S := fun w' => True) (by kernel_rfl) (by rfl) (by kernel_rfl) (by kernel_rfl) ?_
      change wpAnyH _ _ _ _ _ _ _ _ (World.drew _)
      refine takeH (i := 0) (some 38) (v := ?_) rfl (by kernel_rfl) (by kernel_rfl) (by kernel_rfl) (fun _ _ _ h => h) trivial (fun o ho => ?_) ?_
      rotate_left
      · simp only [List.getElem?_toArray, List.getElem?_cons_zero, Option.some.injEq] at ho; subst ho; refine Or.inl ⟨by rfl, fun w' hSw => ?_⟩; (try dsimp only at hSw); go_simp; try with_reducible rfl
      simp only [Act.put, List.setIfInBounds_toArray, List.set_cons_zero, List.set_cons_succ]
      refine takeH (i := 1) (some 39) (v := ?_) rfl (by kernel_rfl) (by kernel_rfl) (by kernel_rfl) (fun _ _ _ h => h) trivial (fun o ho => ?_) ?_
      rotate_left
      · simp only [List.getElem?_toArray, List.getElem?_cons_zero, List.getElem?_cons_succ, Option.some.injEq] at ho; subst ho; refine Or.inl ⟨by rfl, fun w' hSw => ?_⟩; (try dsimp only at hSw); go_simp; try with_reducible rfl
      simp only [Act.put, List.setIfInBounds_toArray, List.set_cons_zero, List.set_cons_succ]
      refine takeH (i := 2) (some 40) (v := ?_) rfl (by kernel_rfl) (by kernel_rfl) (by kernel_rfl) (fun _ _ _ h => h) trivial (fun o ho => ?_) ?_
      rotate_left
      · simp only [List.getElem?_toArray, List.getElem?_cons_zero, List.getElem?_cons_succ, Option.some.injEq] at ho; subst ho; refine Or.inl ⟨by rfl, fun w' hSw => ?_⟩; (try dsimp only at hSw); go_simp; try with_reducible rfl
      simp only [Act.put, List.setIfInBounds_toArray, List.set_cons_zero, List.set_cons_succ]
      refine takeH (i := 3) (some 41) (v := ?_) rfl (by kernel_rfl) (by kernel_rfl) (by kernel_rfl) (fun _ _ _ h => h) trivial (fun o ho => ?_) ?_
      rotate_left
      · simp only [List.getElem?_toArray, List.getElem?_cons_zero, List.getElem?_cons_succ, Option.some.injEq] at ho; subst ho; refine Or.inl ⟨by rfl, fun w' hSw => ?_⟩; (try dsimp only at hSw); go_simp; try with_reducible rfl
      simp only [Act.put, List.setIfInBounds_toArray, List.set_cons_zero, List.set_cons_succ]
      refine takeH (i := 4) (some 42) (v := ?_) rfl (by kernel_rfl) (by kernel_rfl) (by kernel_rfl) (fun _ _ _ h => h) trivial (fun o ho => ?_) ?_
      rotate_left
      · simp only [List.getElem?_toArray, List.getElem?_cons_zero, List.getElem?_cons_succ, Option.some.injEq] at ho; subst ho; refine Or.inl ⟨by rfl, fun w' hSw => ?_⟩; (try dsimp only at hSw); go_simp; try with_reducible rfl
      simp only [Act.put, List.setIfInBounds_toArray, List.set_cons_zero, List.set_cons_succ]
      refine takeH (i := 5) (some 43) (v := ?_) rfl (by kernel_rfl) (by kernel_rfl) (by kernel_rfl) (fun _ _ _ h => h) trivial (fun o ho => ?_) ?_
      rotate_left
      · simp only [List.getElem?_toArray, List.getElem?_cons_zero, List.getElem?_cons_succ, Option.some.injEq] at ho; subst ho; refine Or.inl ⟨by rfl, fun w' hSw => ?_⟩; (try dsimp only at hSw); go_simp; try with_reducible rfl
      simp only [Act.put, List.setIfInBounds_toArray, List.set_cons_zero, List.set_cons_succ]
      refine takeH (i := 6) (some 44) (v := ?_) rfl (by kernel_rfl) (by kernel_rfl) (by kernel_rfl) (fun _ _ _ h => h) trivial (fun o ho => ?_) ?_
      rotate_left
      · simp only [List.getElem?_toArray, List.getElem?_cons_zero, List.getElem?_cons_succ, Option.some.injEq] at ho; subst ho; refine Or.inl ⟨by rfl, fun w' hSw => ?_⟩; (try dsimp only at hSw); go_simp; try with_reducible rfl
      simp only [Act.put, List.setIfInBounds_toArray, List.set_cons_zero, List.set_cons_succ]
      refine oneH (i := 7) (by kernel_rfl) (fun o ho K' hK => ?_)
      simp only [List.getElem?_toArray, List.getElem?_cons_zero, List.getElem?_cons_succ, Option.some.injEq] at ho; subst ho
      refine wp_copy_runs _ (.tmp 41) (.tmp 44) 22 22 (by rfl) _ _ (by rfl) (by rfl) hr2 ?_
      refine hK.out _ _ trivial ?_
      clear hK K'
      simp only [Act.put, List.setIfInBounds_toArray, List.set_cons_zero, List.set_cons_succ]
      refine takeH (i := 8) (some 46) (v := ?_) rfl (by kernel_rfl) (by kernel_rfl) (by kernel_rfl) (fun _ _ _ h => h) trivial (fun o ho => ?_) ?_
      rotate_left
      · simp only [List.getElem?_toArray, List.getElem?_cons_zero, List.getElem?_cons_succ, Option.some.injEq] at ho; subst ho; refine Or.inl ⟨by rfl, fun w' hSw => ?_⟩; (try dsimp only at hSw); go_simp; try with_reducible rfl
      simp only [Act.put, List.setIfInBounds_toArray, List.set_cons_zero, List.set_cons_succ]
      refine wpAnyH_done (by kernel_rfl) ?_ _
      refine lastH (by decide) (fun o ho K' hK => ?_)
      simp only [List.getElem?_toArray, List.getElem?_cons_zero, List.getElem?_cons_succ, Option.some.injEq] at ho; subst ho
      go_simp
      refine hK.out _ _ ?_
      clear hK K'
      go_wp2_with fail
      go_roundw
      case rel => exact ⟨k + min k (n - k), by omega, by rw [← E1.out], .inr (by omega), HX.out.1, HX.out.2⟩
      case measure => simp only [intOf]; have := E1.out; simp; omega
    · obtain rfl : k = n := by omega
      have HX := Lib.hid (And.intro hrow hbr)
      clear hrow hbr hk0
      go_wp2_with fail
      go_ret
      exact ⟨⟨G, rfl, by rw [HG.out]; exact Nat.le_refl _, HX.out.1.congr fun j hj => by rw [if_pos hj]⟩, by rw [← HG.out]; exact HX.out.2⟩
end Go.Proofs.Ytflbooopgjgkbaa

/- A row of the call's own, of which the first n are known. -/
namespace Go.Proofs.Ytflbooopgjgkbaa
open Go.ChangeShapes Go.WideShapes Go.RowKit Go.Deep
set_option linter.unusedVariables false

def RowG (w : World) (b : Nat) (t : TypeId) (n : Nat) (f : Nat → Value) : Prop := ∃ c : Array Value, w.heap[b]? = some (.cells c t (0, 0)) ∧ n ≤ c.size ∧ ∀ i, i < n → c[i]? = some (f i)
namespace RowG
variable {w : World} {b : Nat} {t : TypeId} {n : Nat} {f g : Nat → Value}
theorem cell (h : RowG w b t n f) {i : Nat} (hi : i < n) : w.cell? ⟨b, i, none⟩ = some (f i) := by
  obtain ⟨c, hb, _, hc⟩ := h
  simp [World.cell?, hb, hc i hi]
theorem frozen (h : RowG w b t n f) (i : Nat) : w.frozen? ⟨b, i, none⟩ = false := by
  obtain ⟨c, hb, _, _⟩ := h
  simp [World.frozen?, hb]
theorem lt (h : RowG w b t n f) : b < w.heap.size := by
  obtain ⟨c, hb, _, _⟩ := h
  exact (Array.getElem?_eq_some_iff.1 hb).1
theorem congr (h : RowG w b t n f) (e : ∀ i, i < n → f i = g i) : RowG w b t n g := by
  obtain ⟨c, hb, hn, hc⟩ := h
  exact ⟨c, hb, hn, fun i hi => by rw [hc i hi, e i hi]⟩
theorem of_block {w' : World} (h : RowG w b t n f) (e : w'.heap[b]? = w.heap[b]?) : RowG w' b t n f := by
  obtain ⟨c, hb, hn, hc⟩ := h
  exact ⟨c, e.trans hb, hn, hc⟩
theorem set (h : RowG w b t n f) (i : Nat) (v : Value) : RowG (w.setCell ⟨b, i, none⟩ v) b t n (fun j => if j = i then v else f j) := by
  obtain ⟨c, hb, hn, hc⟩ := h
  refine ⟨c.setIfInBounds i v, ?_, by simpa using hn, fun j hj => ?_⟩
  · simp [World.setCell, Array.getElem?_modify, hb]
  · rw [Array.getElem?_setIfInBounds]
    by_cases e : j = i
    · subst e
      simp [show j < c.size by omega]
    · rw [if_neg (fun h => e h.symm)]
      show c[j]? = some (if j = i then v else f j)
      rw [if_neg e]
      exact hc j hj
theorem of_row (h : w.rowIs b t n f) : RowG w b t n f := by
  obtain ⟨c, hb, hn, hc⟩ := h
  exact ⟨c, hb, by omega, hc⟩
end RowG
theorem rowG_of_own {w : World} {base n : Nat} {e : TypeId} {v : Value} {xs : List Value} (h : w.ownsRow base e 1 v n xs) {f : Nat → Value} (hf : ∀ i, i < n → xs[i]? = some (f i)) :
    ∃ A c, v = .slice A n c ∧ (0 < n → ∃ g, A = some ⟨g, 0, none⟩ ∧ base ≤ g ∧ RowG w g e n f) := by
  rcases h.2 with ⟨rfl, h0⟩ | ⟨g, c, cur, rfl, hb, hh, hn, hc, hsz, ht⟩
  · refine ⟨none, 0, by rw [h0], fun hp => by omega⟩
  · refine ⟨some ⟨g, 0, none⟩, c, rfl, fun hp => ⟨g, rfl, hb, cur, hh, by omega, fun i hi => ?_⟩⟩
    have h1 := h.cells (g := g) rfl i (f i) (hf i hi)
    rw [add_plain'] at h1
    simpa [World.cell?, hh] using h1
end Go.Proofs.Ytflbooopgjgkbaa

/- A row of the call's own as a list. -/
namespace Go.Proofs.Ytflbooopgjgkbaa
open Go.ChangeShapes Go.WideShapes Go.RowKit Go.Deep
set_option linter.unusedVariables false

theorem sl_of_row {w : World} {H n : Nat} {F : Nat → Int} (h : w.rowIs H 3 n (fun b => .int .i64 (F b))) (hn : n ≤ 1000000) (h64 : ∀ b, b < n → I64 (F b)) : SL w 1 RInt (some ⟨H, 0, none⟩) n ((List.range n).map F) := by
  refine ⟨by simp, ⟨by unfold maxLen; omega, fun e => by cases e⟩, fun _ => ⟨H, 0, rfl, fun i x hi => ?_⟩⟩
  obtain ⟨rfl, hl⟩ := map_range_at _ hi
  rw [Nat.mul_one, Nat.zero_add]
  exact ⟨h.cell hl, h64 i hl⟩
theorem NearB.near_lt {bs : List BlkD} {N : Nat → Int} {ord : Nat → Nat} (h : NearB bs N ord) {b : Nat} (hb : b < bs.length) : -1 ≤ N b ∧ N b < bs.length := by
  by_cases h1 : fromB bs 0 (-1) b = false ∨ b = 0
  · rw [h.none b hb h1]; omega
  · obtain ⟨a, ha, he, -⟩ := h.some b hb (by cases hf : fromB bs 0 (-1) b; exact absurd (.inl hf) h1; rfl) (fun e => h1 (.inr e))
    omega
end Go.Proofs.Ytflbooopgjgkbaa

/- slices.Clone of a list of numbers. -/
namespace Go.Proofs.Ytflbooopgjgkbaa
open Go.ChangeShapes Go.WideShapes Go.RowKit Go.Deep
set_option linter.unusedVariables false

/-- An append whose run is known. -/
theorem wpList_append_runs {ops : Array Oper} {rest : List Oper} {o : Oper} {a : Act} {w : World} {Q : Exit → Act → World → Prop} (hgd : o.guard = none) (s x : Operand) (t t' : TypeId)
    (ho : o.op = .call { callee := .builtin .append, args := #[s, x], argTypes := #[t, t'] }) (vs vx : Value) (hs : a.eval s = vs) (hx : a.eval x = vx) {v' : Value} {w' : World}
    (hr : (Builtin.append_ #[t, t'] o.type #[vs, vx]).run Try.prog w = .ok v' w')
    (h : wpList Try.prog ops Q rest (a.put o.dst v') w') : wpList Try.prog ops Q (o :: rest) a w := by
  refine wpList_plain hgd fun K hK => ?_
  unfold Oper.wp execOp
  simp only [ho, resolve, invoke, builtin, Sem.run_bind, Sem.run_pure, Result.andThen_ok, List.map_toArray, List.map_cons, List.map_nil, hs, hx, hr]
  exact hK _ _ h

/-- What slices.Clone tells of a list of numbers. -/
def ToldC_ (xs : List Int) (w : World) (e : Ending) (w' : World) : Prop := (∃ v, e = .returned v ∧ w'.ownsRow w.heap.size 3 1 v xs.length (xs.map (Value.int .i64))) ∧ Below w.heap.size w w'

set_option maxRecDepth 100000 in
theorem cloneInts_any (xs : List Int) (v : Value) (w : World) (hv : VS w 1 RInt v xs) (hn : xs.length ≤ 1000000) : Calls Try.prog 66 #[v] w (ToldC_ xs w) := by
  obtain ⟨A, c, rfl, hs⟩ := hv
  have heq := Lib.run_eql_slice_nil (P := Try.prog) w 22 3 A xs.length c 0 0 Try.underlying22
  cases A with
  | none =>
    obtain rfl : xs = [] := by
      rcases Nat.eq_zero_or_pos xs.length with h0 | h0
      · exact List.length_eq_zero_iff.1 h0
      · obtain ⟨b, o, e, _⟩ := hs.2.2 h0; cases e
    obtain rfl : c = 0 := hs.2.1.2 rfl
    clear hs heq
    have heq := Lib.run_eql_slice_nil (P := Try.prog) w 22 3 none 0 0 0 0 Try.underlying22
    go_enter Try.func66, Try.ntmps66
    go_wp2_with (simp only [heq, Option.isNone])
    go_ret
    exact ⟨⟨_, rfl, World.ownsRow_nil _ _ _ _⟩, Below.refl _ _⟩
  | some ad =>
    obtain ⟨v', w', hr, -, hg, hown, -⟩ := run_append_copy 22 (w := w.alloc (.cells #[] 3)) (heap_alloc_new w (.cells #[] 3)) (SInts.keep (kept_alloc w _) hs) rfl hn
    have hB : Below w.heap.size w w' := ((Below.refl w.heap.size w).alloc (Nat.le_refl _) (.cells #[] 3)).grown hg (by simp) (fun k hk => by have := Option.some.inj hk; omega)
    have HF := Lib.hid (And.intro hown hB)
    clear hown hB hg hs
    go_enter Try.func66, Try.ntmps66
    go_wp2_with (first | (at_builtin; refine wpList_append_runs rfl (.tmp 5) (.tmp 6) 22 22 rfl _ _ rfl rfl hr ?_) | simp only [heq, Option.isNone])
    go_ret
    exact ⟨⟨v', rfl, HF.out.1⟩, HF.out.2⟩

end Go.Proofs.Ytflbooopgjgkbaa
