/- The reference's Same of two modules. -/
import Derived.Test.YtflbooopgjgkbaaSameFJ
import Derived.Test.YtflbooopgjgkbaaLvUJ
import Derived.RegionTactic
import Derived.Test.YtflbooopgjgkbaaSmallJ
import Derived.Deep.QuietTactic
import Derived.BigQuiet
import Derived.Test.YtflbooopgjgkbaaLvBJ
import Derived.StillTailTactics
import Derived.Deep.RegionHeld3
namespace Go.Proofs.Ytflbooopgjgkbaa
open Go.ChangeShapes Go.WideShapes Go.RowKit Go.Deep
set_option linter.unusedVariables false

set_option maxRecDepth 100000 in
set_option maxHeartbeats 8000000 in
theorem same_any (x y : List FunD) (v u : Value) (w : World) (hv : VMod w v x) (hu : VMod w u y) :
    Calls Try.prog 26 #[v, u] w fun e w' => e = .returned (.bool (same x y)) ∧ Below w.heap.size w w' := by
  obtain ⟨Ab, cb, rfl, hb⟩ := hv
  obtain ⟨Bb, db, rfl, kb⟩ := hu
  have hbl := hb.len
  have kbl := kb.len
  have hB : Below w.heap.size w ((w.alloc (.cells #[.slice Ab x.length cb] 38)).alloc (.cells #[.slice Bb y.length db] 38)) := ((Below.refl _ _).alloc (Nat.le_refl _) _).alloc (by simp) _
  have hK := kept_of_below hB
  by_cases e3 : x.length = y.length
  · have e3' : ((x.length : Int) != y.length) = false := by simp [e3]
    have E3 := Lib.hid e3
    clear e3
    go_enter Try.func26, Try.ntmps26
    go_wp2_with fail
    obtain ⟨w1, hw1⟩ : ∃ w1, w1 = (w.alloc (.cells #[.slice Ab x.length cb] 38)).alloc (.cells #[.slice Bb y.length db] 38) := ⟨_, rfl⟩
    have gx3 : w1.cell? ⟨w.heap.size, 0, none⟩ = some (.slice Ab x.length cb) := by rw [hw1]; simp
    have gy3 : w1.cell? ⟨w.heap.size + 1, 0, none⟩ = some (.slice Bb y.length db) := by rw [hw1]; simp
    rw [← hw1] at hB hK ⊢
    clear hw1
    have hb0 : Below w1.heap.size w1 w1 := Below.refl _ _
    go_loopw [5] (fun i wr => ∃ k : Nat, k ≤ x.length ∧ i = .int .i64 k ∧ Below w1.heap.size w1 wr ∧ Hid (x.take k = y.take k)) (fun i _ => x.length - (intOf i).toNat)
    case atStart => exact ⟨0, Nat.zero_le _, rfl, hb0, Lib.hid rfl⟩
    case round =>
      obtain ⟨k, hk, rfl, hbel, hi2⟩ := hrel
      have hkr : Kept w1 wr := kept_of_below hbel
      have hx3 := hkr _ _ gx3
      have hy3 := hkr _ _ gy3
      have hBr : Below w.heap.size w wr := hB.trans (hbel.mono hB.size)
      by_cases hlt : k < x.length
      · have hlt2 : k < y.length := by have := E3.out; omega
        obtain ⟨b1, o1, p, rfl, hp1, ⟨h1, i1⟩, ⟨h2, i2⟩, ⟨A3, c3, h3, g3⟩, A4, c4, h4, g4⟩ := (SFuns.keep (hK.trans hkr) hb).at_ hlt
        obtain ⟨b2, o2, q, rfl, hq1, ⟨k1, l1⟩, ⟨k2, l2⟩, ⟨B3, d3, k3, j3⟩, B4, d4, k4, j4⟩ := (SFuns.keep (hK.trans hkr) kb).at_ hlt2
        have hk0 : (0 : Int) ≤ k := by omega
        have hk1 : (k : Int) < x.length := by omega
        have hk2 : (k : Int) < y.length := by omega
        go_wp2_with fail
        go_still_tail 10, (by kernel_rfl)
        change wpList _ _ _ _ _ wr.drew
        have hvp : VFun wr.drew (.agg #[.int .i64 p.params, .int .i64 p.result, .slice A3 p.regs.length c3, .slice A4 p.blocks.length c4]) p := ⟨A3, c3, A4, c4, rfl, g3, g4, i1, i2⟩
        have hvq : VFun wr.drew (.agg #[.int .i64 q.params, .int .i64 q.result, .slice B3 q.regs.length d3, .slice B4 q.blocks.length d4]) q := ⟨B3, d3, B4, d4, rfl, j3, j4, l1, l2⟩
        have hbd : Below w1.heap.size w1 wr.drew := hbel.drew
        have hBd : Below w.heap.size w wr.drew := hBr.drew
        generalize wr.drew = w2 at *
        go_wp2_with fail
        refine (sameFunc_any p q _ _ _ hvp hvq).mono ?_
        rintro e w3 ⟨rfl, hb3⟩
        have hb3' : Below w1.heap.size w1 w3 := hbd.trans (hb3.mono hbd.size)
        have hB3 : Below w.heap.size w w3 := hBd.trans (hb3.mono hBd.size)
        cases hs : same p q
        · have E2 : Hid (same x y = false) := Lib.hid (same_no (fun e => ne_at hp1.out hq1.out (fun e2 => by have := same_yes e2; rw [hs] at this; cases this) (by rw [e])))
          clear hs
          go_wp2_with fail
          go_ret
          exact ⟨by rw [E2.out]; rfl, hB3⟩
        · have HS := Lib.hid (same_iff.1 hs)
          clear hs
          go_wp2_with fail
          go_roundw
          case rel => exact ⟨k + 1, by omega, by go_num, hb3', Lib.hid (take_snoc_eq hi2.out hp1.out hq1.out HS.out)⟩
          case measure => simp [intOf]; omega
      · have HP := Lib.hid (take_len_eq hi2.out (Nat.le_of_not_lt hlt) (by have := E3.out; omega))
        go_wp2_with fail
        go_ret
        exact ⟨by rw [same_yes HP.out]; rfl, hBr⟩
  · have e3' : ((x.length : Int) != y.length) = true := by rw [bne_iff_ne]; omega
    have E2 : Hid (same x y = false) := Lib.hid (same_no (fun e => e3 (by rw [e])))
    clear e3
    go_enter Try.func26, Try.ntmps26
    go_wp2_with fail
    go_ret
    exact ⟨by rw [E2.out]; rfl, hB⟩
end Go.Proofs.Ytflbooopgjgkbaa

/- slices.Reverse of a row of numbers that the caller owns. -/
namespace Go.Proofs.Ytflbooopgjgkbaa
open Go.ChangeShapes Go.WideShapes Go.RowKit Go.Deep
set_option linter.unusedVariables false

/-- Turned round from both ends, i elements deep. -/
def Turned (l l' : List Nat) (i : Nat) : Prop := l'.length = l.length ∧ ∀ p, p < l.length → l'[p]? = if p < i ∨ l.length - 1 - i < p then l[l.length - 1 - p]? else l[p]?
theorem Turned.zero (l : List Nat) : Turned l l 0 := ⟨rfl, fun p hp => by rw [if_neg (by omega)]⟩
theorem Turned.all {l l' : List Nat} {i : Nat} (h : Turned l l' i) (hi : l.length ≤ 2 * i + 1) : l' = l.reverse := by
  apply List.ext_getElem?
  intro p
  by_cases hp : p < l.length
  · rw [h.2 p hp, List.getElem?_reverse hp]
    split
    · rfl
    · congr 1; omega
  · rw [List.getElem?_eq_none (by rw [h.1]; omega), List.getElem?_eq_none (by simp; omega)]
theorem Turned.step {l l' : List Nat} {i x y : Nat} (h : Turned l l' i) (hi : i < l.length - 1 - i) (hx : l'[i]? = some x) (hy : l'[l.length - 1 - i]? = some y) : Turned l ((l'.set i y).set (l.length - 1 - i) x) (i + 1) := by
  have e1 := h.2 i (by omega)
  have e2 := h.2 (l.length - 1 - i) (by omega)
  rw [if_neg (by omega), hx] at e1
  rw [if_neg (by omega), hy] at e2
  refine ⟨by simp [h.1], fun p hp => ?_⟩
  rw [List.getElem?_set, List.getElem?_set]
  have hl := h.1
  by_cases c1 : l.length - 1 - i = p
  · subst c1
    rw [if_pos rfl, if_pos (by simp; omega), if_pos (by omega), show l.length - 1 - (l.length - 1 - i) = i by omega, ← e1]
  · rw [if_neg c1]
    by_cases c2 : i = p
    · subst c2
      rw [if_pos rfl, if_pos (by omega), if_pos (by omega), ← e2]
    · rw [if_neg c2, h.2 p hp]
      by_cases c3 : p < i ∨ l.length - 1 - i < p
      · rw [if_pos c3, if_pos (by omega)]
      · rw [if_neg c3, if_neg (by omega)]
theorem grown_refl (w : World) (row : Option Nat) : w.grownBy w row := ⟨rfl, rfl, rfl, Nat.le_refl _, fun _ _ _ => rfl⟩
theorem grown_trans {a b c : World} {row : Option Nat} (h : a.grownBy b row) (k : b.grownBy c row) : a.grownBy c row :=
  ⟨k.os.trans h.os, k.tape.trans h.tape, k.output.trans h.output, Nat.le_trans h.size k.size, fun i h1 h2 => (k.block i (Nat.lt_of_lt_of_le h1 h.size) h2).trans (h.block i h1 h2)⟩
theorem grown_drew (w : World) (row : Option Nat) : w.grownBy w.drew row := ⟨rfl, rfl, rfl, Nat.le_refl _, fun _ _ _ => rfl⟩
/-- A number of a row that the call owns. -/
theorem own_cell {w : World} {base n cap g : Nat} {l : List Nat} {i x : Nat} (h : w.ownsRow base 3 1 (.slice (some ⟨g, 0, none⟩) n cap) n ((zs l).map (Value.int .i64))) (hi : l[i]? = some x) : w.cell? ⟨g, i, none⟩ = some (.int .i64 x) := by
  have := h.cells (g := g) rfl i (.int .i64 x) (by simp [zs, hi])
  rwa [show (⟨g, 0, none⟩ : Addr).add i = ⟨g, i, none⟩ by unfold Addr.add; split <;> simp_all] at this
theorem zs_set (l : List Nat) (i x : Nat) : ((zs l).map (Value.int .i64)).set i (.int .i64 x) = (zs (l.set i x)).map (Value.int .i64) := by
  simp only [zs, List.map_set]
theorem ownsRow_drew {w : World} {base n size : Nat} {e : TypeId} {v : Value} {xs : List Value} (h : w.ownsRow base e size v n xs) : w.drew.ownsRow base e size v n xs := h

set_option maxRecDepth 100000 in
set_option maxHeartbeats 4000000 in
theorem reverse_any (base : Nat) (l : List Nat) (v : Value) (w : World) (h : w.ownsRow base 3 1 v l.length ((zs l).map (Value.int .i64))) (hl : l.length ≤ 1000000) :
    Calls Try.prog 64 #[v] w fun e w' => e = .returned (.tuple #[]) ∧ w'.ownsRow base 3 1 v l.length ((zs l.reverse).map (Value.int .i64)) ∧ w.grownBy w' v.ownBlock := by
  have h0 := h
  rcases h.2 with ⟨hv, hn⟩ | ⟨g, cap, cur, hv, -⟩
  · subst hv
    obtain rfl : l = [] := List.length_eq_zero_iff.1 hn
    clear h h0 hl hn
    go_enter Try.func64, Try.ntmps64
    go_wp2_with fail
    go_loopw [2, 3] (fun s2 s3 wr => s2 = .int .i64 0 ∧ s3 = .int .i64 (-1) ∧ wr = w) (fun _ _ _ => 0)
    case atStart => exact ⟨rfl, rfl, rfl⟩
    case round =>
      obtain ⟨rfl, rfl, rfl⟩ := hrel
      go_wp2_with fail
      go_end0
      exact ⟨rfl, World.ownsRow_nil _ _ _ _, grown_refl _ _⟩
  · subst hv
    have HO := Lib.hid h
    clear h h0
    go_enter Try.func64, Try.ntmps64
    go_wp2_with fail
    go_loopw [2, 3] (fun s2 s3 wr => ∃ (i : Nat) (jz : Int) (l' : List Nat), s2 = .int .i64 i ∧ s3 = .int .i64 jz ∧ jz = (l.length : Int) - 1 - i ∧ i ≤ l.length ∧ Turned l l' i ∧ wr.ownsRow base 3 1 (.slice (some ⟨g, 0, none⟩) l.length cap) l.length ((zs l').map (Value.int .i64)) ∧ w.grownBy wr (some g)) (fun s2 _ _ => l.length - (intOf s2).toNat)
    case atStart => exact ⟨0, _, l, rfl, rfl, by omega, Nat.zero_le _, Turned.zero l, HO.out, grown_refl _ _⟩
    case round =>
      obtain ⟨i, jz, l', rfl, rfl, hjz, hi, ht, hown, hg⟩ := hrel
      have HJ := Lib.hid hjz
      have HT := Lib.hid ht
      have HOW := Lib.hid hown
      have HG := Lib.hid hg
      clear hjz ht hown hg HO
      by_cases hlt : (i : Int) < jz
      · obtain ⟨j, rfl⟩ : ∃ j : Nat, jz = j := ⟨jz.toNat, by omega⟩
        have hij : i < j := by omega
        have hjl : j < l.length := by have := HJ.out; omega
        have HJN : Hid (j = l.length - 1 - i) := Lib.hid (by have := HJ.out; omega)
        obtain ⟨x, hx⟩ : ∃ x, l'[i]? = some x := ⟨_, List.getElem?_eq_getElem (by rw [HT.out.1]; omega)⟩
        obtain ⟨y, hy⟩ : ∃ y, l'[j]? = some y := ⟨_, List.getElem?_eq_getElem (by rw [HT.out.1]; omega)⟩
        have ci : wr.cell? ⟨g, i, none⟩ = some (.int .i64 x) := own_cell HOW.out hx
        have cj : wr.cell? ⟨g, j, none⟩ = some (.int .i64 y) := own_cell HOW.out hy
        have fi := HOW.out.frozenAt i
        have fj := HOW.out.frozenAt j
        have HX := Lib.hid hx
        have HY := Lib.hid hy
        clear hx hy
        go_wp2_with fail
        go_region
        all_goals
          go_wp2_with fail
          have h1 := HOW.out.stored i (.int .i64 y)
          have h2 := h1.1.stored j (.int .i64 x)
          rw [zs_set, zs_set] at h2
          have h3 : Turned l ((l'.set i y).set j x) (i + 1) := by
            have := HT.out.step (by have := HJN.out; omega) HX.out (by rw [← HJN.out]; exact HY.out)
            rwa [← HJN.out] at this
          have HS := Lib.hid (ownsRow_drew h2.1)
          have HGR := Lib.hid (grown_trans HG.out (grown_trans (grown_trans h1.2 h2.2) (grown_drew _ _)))
          go_roundw
          case rel => exact ⟨i + 1, (j : Int) - 1, (l'.set i y).set j x, by go_num, rfl, by have := HJ.out; push_cast; omega, by omega, h3, HS.out, HGR.out⟩
          case measure => simp [intOf]; omega
      · have hnot : ¬ ((i : Int) < jz) := hlt
        have hlen : Hid (l.length ≤ 2 * i + 1) := Lib.hid (by have := HJ.out; omega)
        go_wp2_with fail
        go_end0
        exact ⟨rfl, by rw [← HT.out.all hlen.out]; exact HOW.out, HG.out⟩
end Go.Proofs.Ytflbooopgjgkbaa

/- The program's Order, Reached. -/
namespace Go.Proofs.Ytflbooopgjgkbaa
open Go.ChangeShapes Go.WideShapes Go.RowKit Go.Deep
set_option linter.unusedVariables false

theorem orderF_len (bs : List BlkD) : (orderF bs).length ≤ bs.length := orderL_len (nxF_lt bs)
theorem orderF_lt {bs : List BlkD} {x : Nat} (h : x ∈ orderF bs) : x < bs.length := orderL_lt (nxF_lt bs) h
theorem doneL_len (nx : Nat → List Nat) (n : Nat) : (orderL nx n).length = (doneL nx n).length := by simp [orderL]
theorem below_grown {n : Nat} {w w' : World} {row : Option Nat} (h : w.grownBy w' row) (hr : ∀ k, row = some k → n ≤ k) (hn : n ≤ w.heap.size) : Below n w w' :=
  ⟨h.os, h.tape, h.output, h.size, fun k hk => h.block k (by omega) (fun e => by have := hr k e.symm; omega)⟩

def ToldO_ (bs : List BlkD) (w : World) (e : Ending) (w' : World) : Prop :=
  (∃ v, e = .returned v ∧ w'.ownsRow w.heap.size 3 1 v (orderF bs).length ((zs (orderF bs)).map (Value.int .i64))) ∧ Below w.heap.size w w'

set_option maxRecDepth 100000 in
set_option maxHeartbeats 4000000 in
theorem order_any (f : FunD) (v : Value) (w : World) (hv : VFun w v f) (hn : f.blocks.length ≤ 1000) :
    Calls Try.prog 45 #[v] w (ToldO_ f.blocks w) := by
  have hv0 := hv
  obtain ⟨Ar, cr, A, c, rfl, hr, hb, hp64, hr64⟩ := hv
  clear hr hb hp64 hr64
  go_enter Try.func45, Try.ntmps45
  go_upto_region 1 with fail
  obtain ⟨w1, hw1, hs1, hk1, hbel1, hc1, -⟩ := named w #[.int .i64 f.params, .int .i64 f.result, .slice Ar f.regs.length cr, .slice A f.blocks.length c] 25
  rw [← hw1]
  have c0 := hc1 0 _ rfl
  have c1 := hc1 1 _ rfl
  have c2 := hc1 2 _ rfl
  have c3 := hc1 3 _ rfl
  have HB1 := Lib.hid hbel1
  have HN := Lib.hid (next_any f _ w1 (VFun.keep hk1 hv0) (by omega))
  clear hw1 hs1 hbel1 hc1 hv0 hk1
  go_wp2_with fail
  refine HN.out.mono ?_
  rintro e w2 ⟨⟨V, G, rfl, hG, hg⟩, hb2⟩
  have HB2 : Hid (Below w.heap.size w w2) := Lib.hid (HB1.out.trans (hb2.mono HB1.out.size))
  have HK := Lib.hid (backwards_any G (G + 2) f.blocks.length V (nxF f.blocks) w2 hg hn (nxF_lt f.blocks))
  have HG : Hid (w.heap.size ≤ G) := Lib.hid (Nat.le_trans HB1.out.size hG)
  clear c0 c1 c2 c3 hG hg hb2 HN
  go_wp2_with fail
  refine HK.out.mono ?_
  rintro e w3 ⟨⟨vd, rfl, hown⟩, hb3⟩
  have HB3 : Hid (Below w.heap.size w w3) := Lib.hid (HB2.out.trans (hb3.below HB2.out.size HG.out))
  have hown' := own_base hown (base' := w.heap.size) HB2.out.size
  have HR := Lib.hid (reverse_any w.heap.size (doneL (nxF f.blocks) f.blocks.length) vd w3 hown' (by have := orderF_len f.blocks; rw [← doneL_len]; unfold orderF at this; omega))
  have HO := Lib.hid hown'
  clear hown hown' hb3 HK
  go_wp2_with fail
  refine HR.out.mono ?_
  rintro e w4 ⟨rfl, hown4, hg4⟩
  have HO4 := Lib.hid hown4
  have HB4 : Hid (Below w.heap.size w w4) := Lib.hid (HB3.out.trans (below_grown hg4 (fun k hk => (HO.out.lt k hk).1) HB3.out.size))
  clear hown4 hg4 HR
  go_wp2_with fail
  go_ret
  exact ⟨⟨vd, rfl, by have := HO4.out; rw [← doneL_len] at this; exact this⟩, HB4.out⟩

def ToldR_ (bs : List BlkD) (w : World) (e : Ending) (w' : World) : Prop :=
  (∃ H, e = .returned (.slice (some ⟨H, 0, none⟩) bs.length bs.length) ∧ w.heap.size ≤ H ∧ w'.rowIs H 4 bs.length (fun x => .bool (reachF bs x))) ∧ Below w.heap.size w w'
def tookB (l : List Nat) (k x : Nat) : Bool := decide (x ∈ l.take k)
theorem takesB_succ {l : List Nat} {k q : Nat} (h : l[k]? = some q) (x : Nat) : tookB l (k + 1) x = if x = q then true else tookB l k x := by
  unfold tookB
  rw [take_succ_of h]
  by_cases e : x = q
  · simp [e]
  · simp [e]
theorem takesB_all {bs : List BlkD} {k : Nat} (h : (orderF bs).length ≤ k) (x : Nat) : tookB (orderF bs) k x = reachF bs x := by
  unfold tookB reachF reachB orderF at *
  rw [List.take_of_length_le h]

end Go.Proofs.Ytflbooopgjgkbaa

/- The reference of layer 5: Next; and small, Ints of the statements. -/
namespace Go.Proofs.Ytflbooopgjgkbaa
open Go.ChangeShapes Go.WideShapes Go.RowKit Go.Deep
set_option linter.unusedVariables false

theorem sameInts_any (a b : List Int) (v u : Value) (w : World) (hv : VS w 1 RInt v a) (hu : VS w 1 RInt u b) :
    Calls Try.prog 14 #[v, u] w fun e w' => e = .returned (.bool (decide (a = b))) ∧ ∃ n, w' = w.drewN n := by
  obtain ⟨A, c, rfl, ha⟩ := hv
  obtain ⟨B, d, rfl, hb⟩ := hu
  have hal := ha.len
  have hbl := hb.len
  by_cases hl : a.length = b.length
  · have hne : ((a.length : Int) != b.length) = false := by simp [hl]
    have HL := Lib.hid hl
    clear hl
    go_enter Try.func14, Try.ntmps14
    go_wp2_with fail
    go_loopw [5] (fun i wr => ∃ k q : Nat, k ≤ a.length ∧ i = .int .i64 k ∧ wr = w.drewN q ∧ a.take k = b.take k) (fun i _ => a.length - (intOf i).toNat)
    case atStart => exact ⟨0, 0, Nat.zero_le _, rfl, rfl, by simp⟩
    case round =>
      obtain ⟨k, q, hk, rfl, rfl, hsame⟩ := hrel
      have HS := Lib.hid hsame
      clear hsame
      by_cases hlt : k < a.length
      · obtain ⟨b1, o1, x, rfl, hx, hxc, -⟩ := ha.int hlt
        have hkb : k < b.length := by have := HL.out; omega
        obtain ⟨b2, o2, y, rfl, hy, hyc, -⟩ := hb.int hkb
        have hk0 : (0 : Int) ≤ k := by omega
        have hk1 : (k : Int) < a.length := by omega
        have hk2 : (k : Int) < b.length := by omega
        by_cases hxy : x = y
        · have hb1 : (x != y) = false := by simp [hxy]
          have hsn : Hid (a.take (k + 1) = b.take (k + 1)) := Lib.hid (by rw [take_succ_of hx.out, take_succ_of hy.out, HS.out, hxy])
          clear hxy
          go_wp2_with fail
          go_quiet (fail)
          go_wp2_with fail
          go_roundw
          case rel => exact ⟨k + 1, _, by omega, by go_num, rfl, hsn.out⟩
          case measure => simp [intOf]; omega
        · have hb1 : (x != y) = true := by simpa using hxy
          have hne2 : Hid (decide (a = b) = false) := Lib.hid (decide_eq_false (fun e => hxy (by have h1 := hx.out; rw [e, hy.out] at h1; exact (Option.some.inj h1).symm)))
          clear hxy
          go_wp2_with fail
          go_quiet (fail)
          go_wp2_with fail
          go_ret
          exact ⟨(show Ending.returned (.bool false) = .returned (.bool (decide (a = b))) by rw [hne2.out]), _, World.drewN_drewN _ _ _⟩
      · have hyes : Hid (decide (a = b) = true) := Lib.hid (decide_eq_true (by
          have h1 := HS.out
          rwa [List.take_of_length_le (by omega), List.take_of_length_le (by have := HL.out; omega)] at h1))
        go_wp2_with fail
        go_ret
        exact ⟨(show Ending.returned (.bool true) = .returned (.bool (decide (a = b))) by rw [hyes.out]), _, rfl⟩
  · have hne : ((a.length : Int) != b.length) = true := by simp; omega
    have hno : decide (a = b) = false := decide_eq_false (fun e => hl (by rw [e]))
    rw [hno]
    clear hl hno
    go_enter Try.func14, Try.ntmps14
    go_wp2_with fail
    go_ret
    exact ⟨rfl, 0, rfl⟩

/-! ### Next -/
def outB (n : Nat) (x : Int) : Bool := decide (x < 0) || decide ((n : Int) ≤ x)
def hasB (n : Nat) (acc : List Nat) (x : Int) (i : Nat) : Bool := outB n x || decide (∃ q ∈ acc.take i, (q : Int) = x)
theorem hasB_step {n : Nat} {acc : List Nat} {x : Int} {i q : Nat} (h : acc[i]? = some q) : hasB n acc x (i + 1) = (hasB n acc x i || ((q : Int) == x)) := by
  unfold hasB
  rw [take_succ_of h, Bool.or_assoc]
  congr 1
  rw [Bool.eq_iff_iff, Bool.or_eq_true, decide_eq_true_iff, decide_eq_true_iff, beq_iff_eq]
  constructor
  · rintro ⟨p, hp, e⟩
    rcases List.mem_append.1 hp with hp | hp
    · exact .inl ⟨p, hp, e⟩
    · rw [List.mem_singleton.1 hp] at e; exact .inr e
  · rintro (⟨p, hp, e⟩ | e)
    · exact ⟨p, List.mem_append.2 (.inl hp), e⟩
    · exact ⟨q, by simp, e⟩
theorem addT_has {n : Nat} {acc : List Nat} {x : Int} (h : hasB n acc x acc.length = true) : addT n acc x = acc := by
  apply addT_old
  rintro ⟨h1, h2, h3⟩
  unfold hasB outB at h
  rw [List.take_length] at h
  simp only [Bool.or_eq_true, decide_eq_true_iff] at h
  rcases h with (h | h) | ⟨q, hq, e⟩
  · omega
  · omega
  · exact h3 (by rw [← e]; simpa using hq)
theorem addT_has_not {n : Nat} {acc : List Nat} {x : Int} (h : hasB n acc x acc.length = false) : 0 ≤ x ∧ x < n ∧ addT n acc x = acc ++ [x.toNat] := by
  unfold hasB outB at h
  rw [List.take_length] at h
  simp only [Bool.or_eq_false_iff, decide_eq_false_iff_not] at h
  obtain ⟨⟨h1, h2⟩, h3⟩ := h
  refine ⟨by omega, by omega, ?_⟩
  unfold addT
  rw [if_pos ⟨by omega, by omega, fun hm => h3 ⟨_, hm, by omega⟩⟩]

def ToldN_ (bs : List BlkD) (a : Nat) (w : World) (e : Ending) (w' : World) : Prop :=
  (∃ v, e = .returned v ∧ w'.ownsRow w.heap.size 3 1 v (nxF bs a).length ((zs (nxF bs a)).map (Value.int .i64))) ∧ Below w.heap.size w w'

set_option maxRecDepth 100000 in
set_option maxHeartbeats 4000000 in
theorem refNext_any (f : FunD) (a : Nat) (v : Value) (w : World) (hv : VFun w v f) (hn : f.blocks.length ≤ 1000000) (ha : a < f.blocks.length) :
    Calls Try.prog 52 #[v, .int .i64 a] w (ToldN_ f.blocks a w) := by
  obtain ⟨Ar, cr, A, c, rfl, -, hb, -, -⟩ := hv
  have hbl := hb.len
  obtain ⟨i0, hi, hz0, hz1, hz2⟩ := info_parts Try.info3
  have HI := Lib.hid (And.intro hi (And.intro hz0 (And.intro hz1 hz2)))
  clear hi hz0 hz1 hz2
  have ha0 : (0 : Int) ≤ a := by omega
  have ha1 : (a : Int) < f.blocks.length := by omega
  go_enter Try.func52, Try.ntmps52
  go_wp2_with fail
  obtain ⟨w1, hw1, hs1, hk1, hbel1, hc1, -⟩ := named w #[.int .i64 f.params, .int .i64 f.result, .slice Ar f.regs.length cr, .slice A f.blocks.length c] 25
  have c3 := hc1 3 _ rfl
  rw [← hw1]
  have HB1 := Lib.hid hbel1
  have HS1 : Hid (w.heap.size ≤ w1.heap.size) := Lib.hid (by omega)
  obtain ⟨b, o, kb, rfl, hkb, -, -, -, -, A', c', hto, htos⟩ := (SBlks.keep hk1 hb).at_ ha
  have htl := htos.len
  have HT := Lib.hid (nxF_at hkb.out)
  clear hw1 hs1 hk1 hbel1 hc1 hb
  go_loopw [5, 6] (fun out i wr => ∃ k : Nat, k ≤ kb.term.to.length ∧ i = .int .i64 k ∧ Below w1.heap.size w1 wr ∧
    wr.ownsRow w1.heap.size 3 1 out (nextN f.blocks.length (kb.term.to.take k)).length ((zs (nextN f.blocks.length (kb.term.to.take k))).map (Value.int .i64))) (fun _ i _ => kb.term.to.length - (intOf i).toNat)
  case atStart => exact ⟨0, Nat.zero_le _, rfl, Below.refl _ _, rfl, .inl ⟨rfl, rfl⟩⟩
  case round =>
    obtain ⟨k, hk, rfl, hbel, hown⟩ := hrel
    have hs := hbel.size
    have hkw : Kept w1 wr := kept_of_below hbel
    have hbox := hkw _ _ c3
    have htoc := hkw _ _ hto
    by_cases hlt : k < kb.term.to.length
    · obtain ⟨b', o', x, rfl, hx, hxc, -⟩ := (SInts.keep hkw htos).int hlt
      have HST := Lib.hid (nextN_step (n := f.blocks.length) hx.out)
      have hfew := nextN_few f.blocks.length (kb.term.to.take k)
      have HBEL := Lib.hid hbel
      have HKW := Lib.hid hkw
      clear hbel hkw
      have hmem : ∀ q ∈ nextN f.blocks.length (kb.term.to.take k), q < f.blocks.length := fun q hq => (nextN_mem.1 hq).1
      generalize nextN f.blocks.length (kb.term.to.take k) = acc at *
      obtain ⟨Ao, co, rfl, hso⟩ := slB_of_own (B := fun _ => True) (xs := zs acc) (by rw [zs_len]; exact hown) (fun y hy => by obtain ⟨q, hq, rfl⟩ := zs_mem hy; have := hmem q hq; unfold I64; omega) (fun _ _ _ => trivial)
      rw [zs_len] at hown ⊢
      have HOWN := Lib.hid hown
      have HM := Lib.hid hmem
      clear hown hmem
      go_upto_region 6 with fail
      go_cut [8] (fun s8 wx => s8 = .bool (outB f.blocks.length x) ∧ wx = wr)
      case first =>
        by_cases h0 : x < 0
        · have e : outB f.blocks.length x = true := by unfold outB; simp [h0]
          go_wp2_with fail
          go_meet
          exact ⟨by rw [e], rfl⟩
        · by_cases h1 : (f.blocks.length : Int) ≤ x
          · have e : outB f.blocks.length x = true := by unfold outB; simp [h1]
            go_wp2_with fail
            go_meet
            exact ⟨by rw [e], rfl⟩
          · have e : outB f.blocks.length x = false := by unfold outB; simp; omega
            have h1' : decide ((f.blocks.length : Int) ≤ x) = false := decide_eq_false h1
            go_wp2_with fail
            go_meet
            exact ⟨by rw [e], rfl⟩
      case rest =>
        obtain ⟨rfl, rfl⟩ := hcut
        have hal : acc.length ≤ 1000000 := by omega
        go_wp2_with fail
        go_loop [8, 9] (fun h i => ∃ j : Nat, j ≤ acc.length ∧ i = .int .i64 j ∧ h = .bool (hasB f.blocks.length acc x j)) (fun _ i => acc.length - (intOf i).toNat)
        case atStart => exact ⟨0, Nat.zero_le _, rfl, by unfold hasB; simp⟩
        case round =>
          obtain ⟨j, hj, rfl, rfl⟩ := hrel
          by_cases hjt : j < acc.length
          · obtain ⟨bo, oo, y, rfl, hy, -, hyc, -⟩ := hso.at_ (k := j) (by rw [zs_len]; exact hjt)
            obtain ⟨q, hq, rfl⟩ := zs_at hy.out
            have hyc : wc.cell? ⟨bo, oo + j, none⟩ = some (.int .i64 (q : Int)) := by rw [Nat.mul_one] at hyc; exact hyc
            have HSTEP := Lib.hid (hasB_step (n := f.blocks.length) (x := x) hq)
            have hj0 : (0 : Int) ≤ j := by omega
            have hj1 : (j : Int) < acc.length := by omega
            clear hq hso
            generalize hasB f.blocks.length acc x j = h0 at *
            cases h0
            · cases hqx : ((q : Int) == x)
              · have HQ := Lib.hid hqx
                go_wp2_with fail
                go_round
                case rel => exact ⟨j + 1, by omega, by go_num, by rw [HSTEP.out, HQ.out]; rfl⟩
                case measure => simp [intOf]; omega
              · have HQ := Lib.hid hqx
                go_wp2_with fail
                go_round
                case rel => exact ⟨j + 1, by omega, by go_num, by rw [HSTEP.out, HQ.out]; rfl⟩
                case measure => simp [intOf]; omega
            · go_wp2_with fail
              go_round
              case rel => exact ⟨j + 1, by omega, by go_num, by rw [HSTEP.out]; rfl⟩
              case measure => simp [intOf]; omega
          · obtain rfl : j = acc.length := by omega
            cases hh : hasB f.blocks.length acc x acc.length
            · have HH := Lib.hid (addT_has_not hh)
              clear hh hjt hj
              go_wp2_with (at_builtin; refine wpList_append_lies _ rfl (.tmp 58) (.tmp 60) 22 rfl w1.heap.size 3 i0 (.int .i64 0) 1 8 Try.underlying22 HI.out.1 HI.out.2.1 HI.out.2.2.1 HI.out.2.2.2 rfl (by decide) _ _ _ rfl (HOWN.out.alloc _) ⟨wc.heap.size, 0, none⟩ 1 1 [.int .i64 x] rfl rfl ?d1 ?d2 ?d0 ?d3 ?d4 ?d5 (wc.heap.size + 1) ?d6 ?_)
              case d2 => rfl
              case d3 => unfold maxLen; omega
              case d4 => omega
              case d5 => omega
              intro g cap w3 hown3 hgrow3 hloc3 hlt3
              have hb3 : Below w1.heap.size w1 w3 := (HBEL.out.alloc hs _).grown hgrow3 (by simp; omega) (fun g hg => (HOWN.out.lt g hg).1)
              obtain ⟨q, hq⟩ : ∃ q : Nat, x = q := ⟨x.toNat, by have := HH.out; omega⟩
              have hnew : w3.ownsRow w1.heap.size 3 1 (.slice (some ⟨g, 0, none⟩) (acc.length + 1) cap) (nextN f.blocks.length (kb.term.to.take (k + 1))).length ((zs (nextN f.blocks.length (kb.term.to.take (k + 1)))).map (Value.int .i64)) := by
                rw [HST.out, HH.out.2.2, hq]
                simpa [zs, hq] using hown3
              have HNEW := Lib.hid hnew
              have HB3 := Lib.hid hb3
              clear hown3 hgrow3 hloc3 hnew hb3 hq
              go_wp2_with fail
              go_roundw
              case rel => exact ⟨k + 1, by omega, by go_num, HB3.out, HNEW.out⟩
              case measure => simp [intOf]; omega
            · have HH := Lib.hid (addT_has hh)
              have HOWN2 : Hid (wc.ownsRow w1.heap.size 3 1 (.slice Ao acc.length co) (nextN f.blocks.length (kb.term.to.take (k + 1))).length ((zs (nextN f.blocks.length (kb.term.to.take (k + 1)))).map (Value.int .i64))) := Lib.hid (by rw [HST.out, HH.out]; exact HOWN.out)
              clear hh hjt hj
              go_wp2_with fail
              go_roundw
              case rel => exact ⟨k + 1, by omega, by go_num, HBEL.out, HOWN2.out⟩
              case measure => simp [intOf]; omega
    · have hjj : kb.term.to.take k = kb.term.to := List.take_of_length_le (by omega)
      rw [hjj, ← HT.out] at hown
      have HO := Lib.hid (own_base hown (base' := w.heap.size) HS1.out)
      have HBF : Hid (Below w.heap.size w wr) := Lib.hid (HB1.out.trans (hbel.mono HB1.out.size))
      clear hjj hown hbel hkw
      go_wp2_with fail
      go_ret
      exact ⟨⟨_, rfl, HO.out⟩, HBF.out⟩
end Go.Proofs.Ytflbooopgjgkbaa

/- The reference of layer 5: From. -/
namespace Go.Proofs.Ytflbooopgjgkbaa
open Go.ChangeShapes Go.WideShapes Go.RowKit Go.Deep
set_option linter.unusedVariables false

/-- What can be come to from a block without going by another one. -/
def fromB (bs : List BlkD) (b w : Int) (x : Nat) : Bool := if 0 ≤ b ∧ b < bs.length ∧ b ≠ w then fromN (nxF bs) w bs.length b.toNat bs.length x else false
theorem range_fold {nx : Nat → List Nat} {w : Int} {S : Nat → Bool} (a : Nat) : (List.range (a + 1)).foldl (fromA nx w) S = fromA nx w ((List.range a).foldl (fromA nx w) S) a := by
  rw [List.range_succ, List.foldl_append]; rfl
theorem mk_fold {w : Int} {S : Nat → Bool} {l : List Nat} {k q : Nat} (h : l[k]? = some q) : (l.take (k + 1)).foldl (mkW w) S = mkW w ((l.take k).foldl (mkW w) S) q := by
  rw [take_succ_of h, List.foldl_append]; rfl
def ToldF_ (bs : List BlkD) (b w : Int) (W : World) (e : Ending) (W' : World) : Prop :=
  (∃ H, e = .returned (.slice (some ⟨H, 0, none⟩) bs.length bs.length) ∧ W.heap.size ≤ H ∧ W'.rowIs H 4 bs.length (fun x => .bool (fromB bs b w x))) ∧ Below W.heap.size W W'

set_option maxRecDepth 100000 in
set_option maxHeartbeats 8000000 in
theorem from_any (f : FunD) (b z : Int) (v : Value) (w : World) (hv : VFun w v f) (hn : f.blocks.length ≤ 1000) :
    Calls Try.prog 32 #[v, .int .i64 b, .int .i64 z] w (ToldF_ f.blocks b z w) := by
  have hv0 := hv
  obtain ⟨Ar, cr, A, c, rfl, -, -, -, -⟩ := hv
  have hmk := run_make_row' (P := Try.prog) 46 4 (.bool false) 1 Try.underlying46 Try.info4 rfl .i64 .i64 f.blocks.length (by omega) (by omega)
  have HV := Lib.hid hv0
  clear hv0
  go_enter Try.func32, Try.ntmps32
  go_upto_region 2 with fail
  clear hmk
  obtain ⟨w1, hw1, hs1, hk1, hbel1, hc1, -⟩ := named w #[.int .i64 f.params, .int .i64 f.result, .slice Ar f.regs.length cr, .slice A f.blocks.length c] 25
  rw [← hw1]
  obtain ⟨H, hH⟩ : ∃ H, H = w.heap.size + 1 := ⟨_, rfl⟩
  have hrow := World.rowIs_made w1 (.bool false) f.blocks.length 4
  have hb2 : Below w1.heap.size w1 (w1.alloc (.cells (madeCells #[.bool false] f.blocks.length) 4)) := (Below.refl _ _).alloc (Nat.le_refl _) _
  have hz2 : (w1.alloc (.cells (madeCells #[.bool false] f.blocks.length) 4)).heap.size = w1.heap.size + 1 := by simp
  rw [hs1, ← hH] at hrow hb2 hz2
  rw [← hH]
  generalize w1.alloc (.cells (madeCells #[.bool false] f.blocks.length) 4) = w2 at *
  have hk2 := kept_below hb2 (by omega)
  have c0 := hk2 _ _ (hc1 0 _ rfl)
  have c1 := hk2 _ _ (hc1 1 _ rfl)
  have c2 := hk2 _ _ (hc1 2 _ rfl)
  have c3 := hk2 _ _ (hc1 3 _ rfl)
  have HHW : Hid (w.heap.size + 1 = H) := Lib.hid (by omega)
  have hhw : w.heap.size < H := by omega
  have hh2 : H < w2.heap.size := by omega
  have HB2 : Hid (Below w.heap.size w w2) := Lib.hid (hbel1.trans (hb2.mono (by omega)))
  have HV2 : Hid (VFun w2 (.agg #[.int .i64 f.params, .int .i64 f.result, .slice Ar f.regs.length cr, .slice A f.blocks.length c]) f) := Lib.hid (VFun.keep (hk1.trans hk2) HV.out)
  have HROW := Lib.hid hrow
  have HV0 := HV
  clear hw1 hs1 hk1 hbel1 hc1 hb2 hz2 hk2 hH hrow HV
  by_cases hok : 0 ≤ b ∧ b < f.blocks.length ∧ b ≠ z
  · obtain ⟨h1, h2, h3⟩ := hok
    obtain ⟨q, rfl⟩ : ∃ q : Nat, b = q := ⟨b.toNat, by omega⟩
    have hq : q < f.blocks.length := by omega
    have hne : ((q : Int) == z) = false := by rw [beq_eq_false_iff_ne]; exact h3
    have hge : ¬ ((f.blocks.length : Int) ≤ q) := by omega
    have hge' : decide ((f.blocks.length : Int) ≤ q) = false := decide_eq_false hge
    have HRES : Hid (∀ x, fromB f.blocks q z x = fromN (nxF f.blocks) z f.blocks.length q f.blocks.length x) := Lib.hid (fun x => by unfold fromB; rw [if_pos ⟨h1, h2, h3⟩]; simp)
    have hcell := HROW.out.cell hq
    have hfr := HROW.out.frozen q
    have hset := (HROW.out.set q (.bool true)).congr (g := fun x => .bool (mark noneSeen q x)) fun x _ => by unfold mark noneSeen; by_cases e : x = q <;> simp [e]
    have hbs : BB w2.heap.size H w2 (w2.setCell ⟨H, q, none⟩ (.bool true)) := (BB.refl w2.heap.size H w2).setCell (p := ⟨H, q, none⟩) (.inl rfl) _
    clear h3
    go_upto_region 5 with fail
    clear hcell hfr
    generalize hW3 : w2.setCell ⟨H, q, none⟩ (.bool true) = w3 at *
    clear hW3
    have HSET := Lib.hid hset
    have HBS := Lib.hid hbs
    clear hset hbs
    go_wp2_with fail
    go_loopw [8] (fun s8 wr => ∃ i : Nat, i ≤ f.blocks.length ∧ s8 = .int .i64 i ∧ wr.rowIs H 4 f.blocks.length (fun x => .bool (fromN (nxF f.blocks) z f.blocks.length q i x)) ∧ BB w2.heap.size H w2 wr) (fun s8 _ => f.blocks.length - (intOf s8).toNat)
    case atStart => exact ⟨0, Nat.zero_le _, rfl, HSET.out, HBS.out⟩
    case round =>
      obtain ⟨i, hi, rfl, hrw, hbb⟩ := hrel
      have HRW := Lib.hid hrw
      have HBB := Lib.hid hbb
      clear hrw hbb
      obtain ⟨wo, rfl⟩ : ∃ wo, wo = wr := ⟨wr, rfl⟩
      by_cases hlt : i < f.blocks.length
      · go_wp2_with fail
        go_loopw [9] (fun s9 wr => ∃ a : Nat, a ≤ f.blocks.length ∧ s9 = .int .i64 a ∧ wr.rowIs H 4 f.blocks.length (fun x => .bool ((List.range a).foldl (fromA (nxF f.blocks) z) (fromN (nxF f.blocks) z f.blocks.length q i) x)) ∧ BB w2.heap.size H w2 wr) (fun s9 _ => f.blocks.length - (intOf s9).toNat)
        case atStart => exact ⟨0, Nat.zero_le _, rfl, HRW.out, HBB.out⟩
        case round =>
          obtain ⟨a, ha, rfl, hrw, hbb⟩ := hrel
          obtain ⟨wm, rfl⟩ : ∃ wm, wm = wr := ⟨wr, rfl⟩
          have HSUC := Lib.hid (range_fold (nx := nxF f.blocks) (w := z) (S := fromN (nxF f.blocks) z f.blocks.length q i) a)
          obtain ⟨S, hS⟩ : ∃ S, S = (List.range a).foldl (fromA (nxF f.blocks) z) (fromN (nxF f.blocks) z f.blocks.length q i) := ⟨_, rfl⟩
          rw [← hS] at hrw HSUC
          have HS := Lib.hid hS
          clear hS HRW HBB
          have HRA := Lib.hid hrw
          have HBA := Lib.hid hbb
          by_cases hlta : a < f.blocks.length
          · have hsc := hrw.cell hlta
            have ha0 : (0 : Int) ≤ a := by omega
            have ha1 : (a : Int) < f.blocks.length := by omega
            cases hsa : S a
            · rw [hsa] at hsc
              have HSU : Hid ((List.range (a + 1)).foldl (fromA (nxF f.blocks) z) (fromN (nxF f.blocks) z f.blocks.length q i) = S) := Lib.hid (by rw [HSUC.out]; unfold fromA; rw [hsa]; rfl)
              clear hsa hrw hbb
              go_wp2_with fail
              go_roundw
              case rel => exact ⟨a + 1, by omega, by go_num, by rw [HSU.out]; exact HRA.out, HBA.out⟩
              case measure => simp [intOf]; omega
            · rw [hsa] at hsc
              have HSU : Hid ((List.range (a + 1)).foldl (fromA (nxF f.blocks) z) (fromN (nxF f.blocks) z f.blocks.length q i) = (nxF f.blocks a).foldl (mkW z) S) := Lib.hid (by rw [HSUC.out]; unfold fromA; rw [hsa]; rfl)
              have hkb : ∀ y o u, y < w2.heap.size → y ≠ H → w2.cell? ⟨y, o, none⟩ = some u → wm.cell? ⟨y, o, none⟩ = some u := fun y o u h1 h2 hu => (World.cell?_of_block (a := ⟨y, o, none⟩) (hbb.block y h1 h2)).trans hu
              have d0 := hkb _ _ _ (by omega) (by omega) c0
              have d1 := hkb _ _ _ (by omega) (by omega) c1
              have d2 := hkb _ _ _ (by omega) (by omega) c2
              have d3 := hkb _ _ _ (by omega) (by omega) c3
              have hzr := hbb.size
              have hbw : Below w2.heap.size w2 w2 := Below.refl _ _
              have HVR : Hid (VFun wm (.agg #[.int .i64 f.params, .int .i64 f.result, .slice Ar f.regs.length cr, .slice A f.blocks.length c]) f) := Lib.hid (VFun.keep (kept_of_below (HB2.out.trans (hbb.below (by omega) (by omega)))) HV0.out)
              have HN := Lib.hid (refNext_any f a _ wm HVR.out (by omega) hlta)
              clear hsa hrw hbb hkb
              go_wp2_with fail
              refine HN.out.mono ?_
              rintro e w5 ⟨⟨vl, rfl, hl⟩, hb5⟩
              have hk5 := kept_of_below hb5
              have d0 := hk5 _ _ d0
              have d1 := hk5 _ _ d1
              have d2 := hk5 _ _ d2
              have d3 := hk5 _ _ d3
              have HR5 := Lib.hid (HRA.out.of_block (hb5.block H HRA.out.lt))
              have HB5 : Hid (BB w2.heap.size H w2 w5) := Lib.hid (HBA.out.trans (BB.of_below hb5 hzr))
              have hll : (nxF f.blocks a).length ≤ f.blocks.length := by
                unfold nxF; split
                · exact nextN_few _ _
                · simp
              have HLT := Lib.hid (nxF_lt f.blocks a)
              have hz5 := hb5.size
              generalize nxF f.blocks a = l at *
              obtain ⟨Al, cl, rfl, hsl⟩ := slB_of_own (B := fun g => wm.heap.size ≤ g ∧ g < w5.heap.size) (xs := zs l) (by rw [zs_len]; exact hl) (fun y hy => by obtain ⟨t, ht, rfl⟩ := zs_mem hy; have := HLT.out t ht; unfold I64; omega) (fun _ h1 h2 => ⟨h1, h2⟩)
              rw [zs_len]
              have HSL := Lib.hid hsl
              have hHr : H < wm.heap.size := HRA.out.lt
              clear hl hb5 hk5 hsl HN hsc
              go_wp2_with fail
              go_loopw [11] (fun s11 wi => ∃ k : Nat, k ≤ l.length ∧ s11 = .int .i64 k ∧ wi.rowIs H 4 f.blocks.length (fun x => .bool ((l.take k).foldl (mkW z) S x)) ∧ BB w5.heap.size H w5 wi) (fun s11 _ => l.length - (intOf s11).toNat)
              case atStart => exact ⟨0, Nat.zero_le _, rfl, by simpa using HR5.out, BB.refl _ _ _⟩
              case round =>
                obtain ⟨k, hk, rfl, hri, hbi⟩ := hrel
                obtain ⟨wi, rfl⟩ : ∃ wi, wi = wr := ⟨wr, rfl⟩
                have hsi := SIntsB.go (B := fun g => wm.heap.size ≤ g ∧ g < w5.heap.size) (B' := fun _ => True) (w := w5) (w' := wi) (fun a v hb ha => (World.cell?_of_block (hbi.block a.block hb.2 (by have := hb.1; omega))).trans ha) (fun _ _ => trivial) HSL.out
                have HRI := Lib.hid hri
                have HBI := Lib.hid hbi
                by_cases hkl : k < l.length
                · obtain ⟨bl, ol, y, rfl, hy, -, hyc, -⟩ := hsi.at_ (k := k) (by rw [zs_len]; exact hkl)
                  obtain ⟨t, ht, rfl⟩ := zs_at hy.out
                  have htn : t < f.blocks.length := HLT.out t (List.mem_of_getElem? ht)
                  have hyc : wi.cell? ⟨bl, ol + k, none⟩ = some (.int .i64 (t : Int)) := by rw [Nat.mul_one] at hyc; exact hyc
                  have ht0 : (0 : Int) ≤ t := by omega
                  have ht1 : (t : Int) < f.blocks.length := by omega
                  have hk0 : (0 : Int) ≤ k := by omega
                  have hk1 : (k : Int) < l.length := by omega
                  have HMK := Lib.hid (mk_fold (w := z) (S := S) ht)
                  by_cases htz : (t : Int) = z
                  · have hbz : ((t : Int) != z) = false := by simp [htz]
                    have HS2 : Hid ((l.take (k + 1)).foldl (mkW z) S = (l.take k).foldl (mkW z) S) := Lib.hid (by rw [HMK.out]; unfold mkW; rw [if_pos htz])
                    clear htz ht hsi hri hbi
                    go_wp2_with fail
                    go_roundw
                    case rel => exact ⟨k + 1, by omega, by go_num, by rw [HS2.out]; exact HRI.out, HBI.out⟩
                    case measure => simp [intOf]; omega
                  · have hbz : ((t : Int) != z) = true := by simpa using htz
                    have HS2 : Hid ((l.take (k + 1)).foldl (mkW z) S = mark ((l.take k).foldl (mkW z) S) t) := Lib.hid (by rw [HMK.out]; unfold mkW; rw [if_neg htz])
                    have hcc := hri.cell htn
                    have hcf := hri.frozen t
                    have HR2 := Lib.hid ((hri.set t (.bool true)).congr (g := fun x => .bool ((l.take (k + 1)).foldl (mkW z) S x)) fun x _ => by rw [HS2.out]; unfold mark; by_cases e : x = t <;> simp [e])
                    clear htz ht hsi hri hbi
                    go_wp2_with fail
                    go_roundw
                    case rel => exact ⟨k + 1, by omega, by go_num, HR2.out, HBI.out.setCell (.inl rfl) _⟩
                    case measure => simp [intOf]; omega
                · have hfin : Hid ((List.range (a + 1)).foldl (fromA (nxF f.blocks) z) (fromN (nxF f.blocks) z f.blocks.length q i) = (l.take k).foldl (mkW z) S) := Lib.hid (by rw [HSU.out, List.take_of_length_le (by omega)])
                  have HBF : Hid (BB w2.heap.size H w2 wi) := Lib.hid (HB5.out.trans (HBI.out.mono (by omega)))
                  clear hsi hri hbi
                  go_wp2_with fail
                  go_roundw
                  case rel => exact ⟨a + 1, by omega, by go_num, by rw [hfin.out]; exact HRI.out, HBF.out⟩
                  case measure => simp [intOf]; omega
          · obtain rfl : a = f.blocks.length := by omega
            have hfin : Hid (fromN (nxF f.blocks) z f.blocks.length q (i + 1) = S) := Lib.hid HS.out.symm
            clear hrw hbb
            go_wp2_with fail
            go_roundw
            case rel => exact ⟨i + 1, by omega, by go_num, by rw [hfin.out]; exact HRA.out, HBA.out⟩
            case measure => simp [intOf]; omega
      · obtain rfl : i = f.blocks.length := by omega
        have HFIN := Lib.hid (HRW.out.congr (g := fun x => .bool (fromB f.blocks q z x)) fun x _ => by rw [HRES.out])
        go_wp2_with fail
        go_ret
        exact ⟨⟨H, rfl, by omega, HFIN.out⟩, HB2.out.trans (HBB.out.below (by omega) (by omega))⟩
  · have HRES : Hid (∀ x, fromB f.blocks b z x = false) := Lib.hid (fun x => by unfold fromB; rw [if_neg hok])
    have HFIN := Lib.hid (HROW.out.congr (g := fun x => .bool (fromB f.blocks b z x)) fun x _ => by rw [HRES.out])
    by_cases h0 : b < 0
    · clear hok
      go_wp2_with fail
      go_ret
      exact ⟨⟨H, rfl, by omega, HFIN.out⟩, HB2.out⟩
    · by_cases h1 : (f.blocks.length : Int) ≤ b
      · clear hok
        go_wp2_with fail
        go_ret
        exact ⟨⟨H, rfl, by omega, HFIN.out⟩, HB2.out⟩
      · have hbz : (b == z) = true := by rw [beq_iff_eq]; omega
        have h1' : decide ((f.blocks.length : Int) ≤ b) = false := decide_eq_false h1
        clear hok
        go_wp2_with fail
        go_ret
        exact ⟨⟨H, rfl, by omega, HFIN.out⟩, HB2.out⟩
end Go.Proofs.Ytflbooopgjgkbaa
