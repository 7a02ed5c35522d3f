/- slices.Reverse of a row of numbers that the caller owns. -/
import Derived.Test.YtoidhjmhakajlaaGrOJ
import Derived.RegionTactic
import Derived.WalkSpells
namespace Go.Proofs.Ytoidhjmhakajlaa
open Go.ChangeShapes Go.WideShapes Go.RowKit Go.Deep
set_option linter.unusedVariables false

/-- Turned round from both ends, i elements deep. -/
def Turned (l l' : List Nat) (i : Nat) : Prop := l'.length = l.length ∧ ∀ p, p < l.length → l'[p]? = if p < i ∨ l.length - 1 - i < p then l[l.length - 1 - p]? else l[p]?
theorem Turned.zero (l : List Nat) : Turned l l 0 := ⟨rfl, fun p hp => by rw [if_neg (by omega)]⟩
theorem Turned.all {l l' : List Nat} {i : Nat} (h : Turned l l' i) (hi : l.length ≤ 2 * i + 1) : l' = l.reverse := by
  apply List.ext_getElem?
  intro p
  by_cases hp : p < l.length
  · rw [h.2 p hp, List.getElem?_reverse hp]
    split
    · rfl
    · congr 1; omega
  · rw [List.getElem?_eq_none (by rw [h.1]; omega), List.getElem?_eq_none (by simp; omega)]
theorem Turned.step {l l' : List Nat} {i x y : Nat} (h : Turned l l' i) (hi : i < l.length - 1 - i) (hx : l'[i]? = some x) (hy : l'[l.length - 1 - i]? = some y) : Turned l ((l'.set i y).set (l.length - 1 - i) x) (i + 1) := by
  have e1 := h.2 i (by omega)
  have e2 := h.2 (l.length - 1 - i) (by omega)
  rw [if_neg (by omega), hx] at e1
  rw [if_neg (by omega), hy] at e2
  refine ⟨by simp [h.1], fun p hp => ?_⟩
  rw [List.getElem?_set, List.getElem?_set]
  have hl := h.1
  by_cases c1 : l.length - 1 - i = p
  · subst c1
    rw [if_pos rfl, if_pos (by simp; omega), if_pos (by omega), show l.length - 1 - (l.length - 1 - i) = i by omega, ← e1]
  · rw [if_neg c1]
    by_cases c2 : i = p
    · subst c2
      rw [if_pos rfl, if_pos (by omega), if_pos (by omega), ← e2]
    · rw [if_neg c2, h.2 p hp]
      by_cases c3 : p < i ∨ l.length - 1 - i < p
      · rw [if_pos c3, if_pos (by omega)]
      · rw [if_neg c3, if_neg (by omega)]
theorem grown_refl (w : World) (row : Option Nat) : w.grownBy w row := ⟨rfl, rfl, rfl, Nat.le_refl _, fun _ _ _ => rfl⟩
theorem grown_trans {a b c : World} {row : Option Nat} (h : a.grownBy b row) (k : b.grownBy c row) : a.grownBy c row :=
  ⟨k.os.trans h.os, k.tape.trans h.tape, k.output.trans h.output, Nat.le_trans h.size k.size, fun i h1 h2 => (k.block i (Nat.lt_of_lt_of_le h1 h.size) h2).trans (h.block i h1 h2)⟩
theorem grown_drew (w : World) (row : Option Nat) : w.grownBy w.drew row := ⟨rfl, rfl, rfl, Nat.le_refl _, fun _ _ _ => rfl⟩
/-- A number of a row that the call owns. -/
theorem own_cell {w : World} {base n cap g : Nat} {l : List Nat} {i x : Nat} (h : w.ownsRow base 3 1 (.slice (some ⟨g, 0, none⟩) n cap) n ((zs l).map (Value.int .i64))) (hi : l[i]? = some x) : w.cell? ⟨g, i, none⟩ = some (.int .i64 x) := by
  have := h.cells (g := g) rfl i (.int .i64 x) (by simp [zs, hi])
  rwa [show (⟨g, 0, none⟩ : Addr).add i = ⟨g, i, none⟩ by unfold Addr.add; split <;> simp_all] at this
theorem zs_set (l : List Nat) (i x : Nat) : ((zs l).map (Value.int .i64)).set i (.int .i64 x) = (zs (l.set i x)).map (Value.int .i64) := by
  simp only [zs, List.map_set]
theorem ownsRow_drew {w : World} {base n size : Nat} {e : TypeId} {v : Value} {xs : List Value} (h : w.ownsRow base e size v n xs) : w.drew.ownsRow base e size v n xs := h

set_option maxRecDepth 100000 in
set_option maxHeartbeats 4000000 in
theorem reverse_any (base : Nat) (l : List Nat) (v : Value) (w : World) (h : w.ownsRow base 3 1 v l.length ((zs l).map (Value.int .i64))) (hl : l.length ≤ 1000000) :
    Calls Try.prog 43 #[v] w fun e w' => e = .returned (.tuple #[]) ∧ w'.ownsRow base 3 1 v l.length ((zs l.reverse).map (Value.int .i64)) ∧ w.grownBy w' v.ownBlock := by
  have h0 := h
  rcases h.2 with ⟨hv, hn⟩ | ⟨g, cap, cur, hv, -⟩
  · subst hv
    obtain rfl : l = [] := List.length_eq_zero_iff.1 hn
    clear h h0 hl hn
    go_enter Try.func43, Try.ntmps43
    go_wp2_with fail
    go_loopw [2, 3] (fun s2 s3 wr => s2 = .int .i64 0 ∧ s3 = .int .i64 (-1) ∧ wr = w) (fun _ _ _ => 0)
    case atStart => exact ⟨rfl, rfl, rfl⟩
    case round =>
      obtain ⟨rfl, rfl, rfl⟩ := hrel
      go_wp2_with fail
      go_end0
      exact ⟨rfl, World.ownsRow_nil _ _ _ _, grown_refl _ _⟩
  · subst hv
    have HO := Lib.hid h
    clear h h0
    go_enter Try.func43, Try.ntmps43
    go_wp2_with fail
    go_loopw [2, 3] (fun s2 s3 wr => ∃ (i : Nat) (jz : Int) (l' : List Nat), s2 = .int .i64 i ∧ s3 = .int .i64 jz ∧ jz = (l.length : Int) - 1 - i ∧ i ≤ l.length ∧ Turned l l' i ∧ wr.ownsRow base 3 1 (.slice (some ⟨g, 0, none⟩) l.length cap) l.length ((zs l').map (Value.int .i64)) ∧ w.grownBy wr (some g)) (fun s2 _ _ => l.length - (intOf s2).toNat)
    case atStart => exact ⟨0, _, l, rfl, rfl, by omega, Nat.zero_le _, Turned.zero l, HO.out, grown_refl _ _⟩
    case round =>
      obtain ⟨i, jz, l', rfl, rfl, hjz, hi, ht, hown, hg⟩ := hrel
      have HJ := Lib.hid hjz
      have HT := Lib.hid ht
      have HOW := Lib.hid hown
      have HG := Lib.hid hg
      clear hjz ht hown hg HO
      by_cases hlt : (i : Int) < jz
      · obtain ⟨j, rfl⟩ : ∃ j : Nat, jz = j := ⟨jz.toNat, by omega⟩
        have hij : i < j := by omega
        have hjl : j < l.length := by have := HJ.out; omega
        have HJN : Hid (j = l.length - 1 - i) := Lib.hid (by have := HJ.out; omega)
        obtain ⟨x, hx⟩ : ∃ x, l'[i]? = some x := ⟨_, List.getElem?_eq_getElem (by rw [HT.out.1]; omega)⟩
        obtain ⟨y, hy⟩ : ∃ y, l'[j]? = some y := ⟨_, List.getElem?_eq_getElem (by rw [HT.out.1]; omega)⟩
        have ci : wr.cell? ⟨g, i, none⟩ = some (.int .i64 x) := own_cell HOW.out hx
        have cj : wr.cell? ⟨g, j, none⟩ = some (.int .i64 y) := own_cell HOW.out hy
        have fi := HOW.out.frozenAt i
        have fj := HOW.out.frozenAt j
        have HX := Lib.hid hx
        have HY := Lib.hid hy
        clear hx hy
        go_wp2_with fail
        go_region
        all_goals
          go_wp2_with fail
          have h1 := HOW.out.stored i (.int .i64 y)
          have h2 := h1.1.stored j (.int .i64 x)
          rw [zs_set, zs_set] at h2
          have h3 : Turned l ((l'.set i y).set j x) (i + 1) := by
            have := HT.out.step (by have := HJN.out; omega) HX.out (by rw [← HJN.out]; exact HY.out)
            rwa [← HJN.out] at this
          have HS := Lib.hid (ownsRow_drew h2.1)
          have HGR := Lib.hid (grown_trans HG.out (grown_trans (grown_trans h1.2 h2.2) (grown_drew _ _)))
          go_roundw
          case rel => exact ⟨i + 1, (j : Int) - 1, (l'.set i y).set j x, by go_num, rfl, by have := HJ.out; push_cast; omega, by omega, h3, HS.out, HGR.out⟩
          case measure => simp [intOf]; omega
      · have hnot : ¬ ((i : Int) < jz) := hlt
        have hlen : Hid (l.length ≤ 2 * i + 1) := Lib.hid (by have := HJ.out; omega)
        go_wp2_with fail
        go_end0
        exact ⟨rfl, by rw [← HT.out.all hlen.out]; exact HOW.out, HG.out⟩
end Go.Proofs.Ytoidhjmhakajlaa

/- The program's Order, Reached. -/
namespace Go.Proofs.Ytoidhjmhakajlaa
open Go.ChangeShapes Go.WideShapes Go.RowKit Go.Deep
set_option linter.unusedVariables false

theorem orderF_len (bs : List BlkD) : (orderF bs).length ≤ bs.length := orderL_len (nxF_lt bs)
theorem orderF_lt {bs : List BlkD} {x : Nat} (h : x ∈ orderF bs) : x < bs.length := orderL_lt (nxF_lt bs) h
theorem doneL_len (nx : Nat → List Nat) (n : Nat) : (orderL nx n).length = (doneL nx n).length := by simp [orderL]
theorem below_grown {n : Nat} {w w' : World} {row : Option Nat} (h : w.grownBy w' row) (hr : ∀ k, row = some k → n ≤ k) (hn : n ≤ w.heap.size) : Below n w w' :=
  ⟨h.os, h.tape, h.output, h.size, fun k hk => h.block k (by omega) (fun e => by have := hr k e.symm; omega)⟩

def ToldO_ (bs : List BlkD) (w : World) (e : Ending) (w' : World) : Prop :=
  (∃ v, e = .returned v ∧ w'.ownsRow w.heap.size 3 1 v (orderF bs).length ((zs (orderF bs)).map (Value.int .i64))) ∧ Below w.heap.size w w'

set_option maxRecDepth 100000 in
set_option maxHeartbeats 4000000 in
theorem order_any (f : FunD) (v : Value) (w : World) (hv : VFun w v f) (hn : f.blocks.length ≤ 1000) :
    Calls Try.prog 25 #[v] w (ToldO_ f.blocks w) := by
  have hv0 := hv
  obtain ⟨Ar, cr, A, c, rfl, hr, hb, hp64, hr64⟩ := hv
  clear hr hb hp64 hr64
  go_enter Try.func25, Try.ntmps25
  go_upto_region 1 with fail
  obtain ⟨w1, hw1, hs1, hk1, hbel1, hc1, -⟩ := named w #[.int .i64 f.params, .int .i64 f.result, .slice Ar f.regs.length cr, .slice A f.blocks.length c] 39
  rw [← hw1]
  have c0 := hc1 0 _ rfl
  have c1 := hc1 1 _ rfl
  have c2 := hc1 2 _ rfl
  have c3 := hc1 3 _ rfl
  have HB1 := Lib.hid hbel1
  have HN := Lib.hid (next_any f _ w1 (VFun.keep hk1 hv0) (by omega))
  clear hw1 hs1 hbel1 hc1 hv0 hk1
  go_wp2_with fail
  refine HN.out.mono ?_
  rintro e w2 ⟨⟨V, G, rfl, hG, hg⟩, hb2⟩
  have HB2 : Hid (Below w.heap.size w w2) := Lib.hid (HB1.out.trans (hb2.mono HB1.out.size))
  have HK := Lib.hid (backwards_any G (G + 2) f.blocks.length V (nxF f.blocks) w2 hg hn (nxF_lt f.blocks))
  have HG : Hid (w.heap.size ≤ G) := Lib.hid (Nat.le_trans HB1.out.size hG)
  clear c0 c1 c2 c3 hG hg hb2 HN
  go_wp2_with fail
  refine HK.out.mono ?_
  rintro e w3 ⟨⟨vd, rfl, hown⟩, hb3⟩
  have HB3 : Hid (Below w.heap.size w w3) := Lib.hid (HB2.out.trans (hb3.below HB2.out.size HG.out))
  have hown' := own_base hown (base' := w.heap.size) HB2.out.size
  have HR := Lib.hid (reverse_any w.heap.size (doneL (nxF f.blocks) f.blocks.length) vd w3 hown' (by have := orderF_len f.blocks; rw [← doneL_len]; unfold orderF at this; omega))
  have HO := Lib.hid hown'
  clear hown hown' hb3 HK
  go_wp2_with fail
  refine HR.out.mono ?_
  rintro e w4 ⟨rfl, hown4, hg4⟩
  have HO4 := Lib.hid hown4
  have HB4 : Hid (Below w.heap.size w w4) := Lib.hid (HB3.out.trans (below_grown hg4 (fun k hk => (HO.out.lt k hk).1) HB3.out.size))
  clear hown4 hg4 HR
  go_wp2_with fail
  go_ret
  exact ⟨⟨vd, rfl, by have := HO4.out; rw [← doneL_len] at this; exact this⟩, HB4.out⟩

def ToldR_ (bs : List BlkD) (w : World) (e : Ending) (w' : World) : Prop :=
  (∃ H, e = .returned (.slice (some ⟨H, 0, none⟩) bs.length bs.length) ∧ w.heap.size ≤ H ∧ w'.rowIs H 4 bs.length (fun x => .bool (reachF bs x))) ∧ Below w.heap.size w w'
def tookB (l : List Nat) (k x : Nat) : Bool := decide (x ∈ l.take k)
theorem takesB_succ {l : List Nat} {k q : Nat} (h : l[k]? = some q) (x : Nat) : tookB l (k + 1) x = if x = q then true else tookB l k x := by
  unfold tookB
  rw [take_succ_of h]
  by_cases e : x = q
  · simp [e]
  · simp [e]
theorem takesB_all {bs : List BlkD} {k : Nat} (h : (orderF bs).length ≤ k) (x : Nat) : tookB (orderF bs) k x = reachF bs x := by
  unfold tookB reachF reachB orderF at *
  rw [List.take_of_length_le h]

set_option maxRecDepth 100000 in
set_option maxHeartbeats 4000000 in
theorem reached_any (f : FunD) (v : Value) (w : World) (hv : VFun w v f) (hn : f.blocks.length ≤ 1000) :
    Calls Try.prog 26 #[v] w (ToldR_ f.blocks w) := by
  have hv0 := hv
  obtain ⟨Ar, cr, A, c, rfl, hr, hb, hp64, hr64⟩ := hv
  have hmk := run_make_row' (P := Try.prog) 68 4 (.bool false) 1 Try.underlying68 Try.info4 rfl .i64 .i64 f.blocks.length (by omega) (by omega)
  clear hr hb hp64 hr64
  go_enter Try.func26, Try.ntmps26
  go_upto_region 2 with fail
  clear hmk
  obtain ⟨w1, hw1, hs1, hk1, hbel1, hc1, -⟩ := named w #[.int .i64 f.params, .int .i64 f.result, .slice Ar f.regs.length cr, .slice A f.blocks.length c] 39
  rw [← hw1]
  have hrow := World.rowIs_made w1 (.bool false) f.blocks.length 4
  have hk2 : Kept w1 (w1.alloc (.cells (madeCells #[.bool false] f.blocks.length) 4)) := kept_alloc _ _
  have c0 := hk2 _ _ (hc1 0 _ rfl)
  have c1 := hk2 _ _ (hc1 1 _ rfl)
  have c2 := hk2 _ _ (hc1 2 _ rfl)
  have c3 := hk2 _ _ (hc1 3 _ rfl)
  have hb2 : Below w.heap.size w (w1.alloc (.cells (madeCells #[.bool false] f.blocks.length) 4)) := hbel1.alloc (by omega) _
  have hz2 : (w1.alloc (.cells (madeCells #[.bool false] f.blocks.length) 4)).heap.size = w1.heap.size + 1 := by simp
  obtain ⟨H, hH⟩ : ∃ H, H = w1.heap.size := ⟨_, rfl⟩
  rw [hs1] at hH
  rw [hs1, ← hH] at hrow hz2
  rw [← hH]
  generalize w1.alloc (.cells (madeCells #[.bool false] f.blocks.length) 4) = w2 at *
  have HO := Lib.hid (order_any f _ w2 (VFun.keep (hk1.trans hk2) hv0) hn)
  have HB2 := Lib.hid hb2
  have HH : Hid (w.heap.size ≤ H) := Lib.hid (by omega)
  have HZ := Lib.hid hz2
  have HROW := Lib.hid hrow
  clear hw1 hs1 hbel1 hc1 hv0 hk1 hk2 hb2 hz2 hrow hH
  go_wp2_with fail
  refine HO.out.mono ?_
  rintro e w3 ⟨⟨vo, rfl, hown⟩, hb3⟩
  obtain ⟨Ao, co, rfl, hso⟩ := slB_of_own (B := fun b => w2.heap.size ≤ b) (xs := zs (orderF f.blocks)) (by rw [zs_len]; exact hown) (fun x hx => by obtain ⟨q, hq, rfl⟩ := zs_mem hx; have := orderF_lt hq; unfold I64; omega) (fun g h1 _ => h1)
  rw [zs_len]
  have hlen := orderF_len f.blocks
  have HB3 : Hid (Below w.heap.size w w3) := Lib.hid (HB2.out.trans (hb3.mono HB2.out.size))
  have hrow3 : w3.rowIs H 4 f.blocks.length (fun x => .bool (tookB (orderF f.blocks) 0 x)) := (HROW.out.of_block (hb3.block H HROW.out.lt)).congr fun x _ => by simp [tookB]
  have HSO := Lib.hid hso
  clear hown hb3 hso c0 c1 c2 c3
  go_wp2_with fail
  go_loopw [13] (fun i wr => ∃ k : Nat, k ≤ (orderF f.blocks).length ∧ i = .int .i64 k ∧ wr.rowIs H 4 f.blocks.length (fun x => .bool (tookB (orderF f.blocks) k x)) ∧ BB w3.heap.size H w3 wr) (fun i _ => (orderF f.blocks).length - (intOf i).toNat)
  case atStart => exact ⟨0, Nat.zero_le _, rfl, hrow3, BB.refl _ _ _⟩
  case round =>
    obtain ⟨k, hk, rfl, hrw, hbb⟩ := hrel
    have HBB := Lib.hid hbb
    have hso := SIntsB.go (B := fun b => w2.heap.size ≤ b ∧ b < w3.heap.size) (B' := fun b => w2.heap.size ≤ b) (w := w3) (w' := wr) (fun a v hb ha => (World.cell?_of_block (hbb.block a.block (by have := hb.2; omega) (by have := HZ.out; have := hb.1; omega))).trans ha) (fun b hb => hb.1) (SIntsB.lt HSO.out)
    clear hbb
    by_cases hlt : k < (orderF f.blocks).length
    · obtain ⟨b, o, x, rfl, hx, -, hxc, -⟩ := hso.at_ (k := k) (by rw [zs_len]; exact hlt)
      obtain ⟨q, hq, rfl⟩ := zs_at hx.out
      have hqn : q < f.blocks.length := orderF_lt (List.mem_of_getElem? hq)
      have hxc : wr.cell? ⟨b, o + k, none⟩ = some (.int .i64 (q : Int)) := by rw [Nat.mul_one] at hxc; exact hxc
      have hq0 : (0 : Int) ≤ q := by omega
      have hq1 : (q : Int) < f.blocks.length := by omega
      have hcell := hrw.cell hqn
      have hfr := hrw.frozen q
      have HRW := Lib.hid ((hrw.set q (.bool true)).congr (g := fun x => .bool (tookB (orderF f.blocks) (k + 1) x)) fun x _ => by rw [takesB_succ hq]; by_cases e : x = q <;> simp [e])
      clear hrw hq hso
      go_wp2_with fail
      go_roundw
      case rel => exact ⟨k + 1, by omega, by go_num, HRW.out, HBB.out.setCell (.inl rfl) _⟩
      case measure => simp [intOf]; omega
    · have HRW := Lib.hid (hrw.congr (g := fun x => .bool (reachF f.blocks x)) fun x _ => by rw [takesB_all (by omega)])
      clear hrw hso
      go_wp2_with fail
      go_ret
      exact ⟨⟨H, rfl, HH.out, HRW.out⟩, HB3.out.trans (HBB.out.below HB3.out.size HH.out)⟩
end Go.Proofs.Ytoidhjmhakajlaa

/- Trim's smaller functions: copies of lists, new numbers, the blocks ahead. -/
namespace Go.Proofs.Ytoidhjmhakajlaa
open Go.ChangeShapes Go.WideShapes Go.RowKit Go.Deep
set_option linter.unusedVariables false

/-- An append whose run is known. -/
theorem wpList_append_runs {ops : Array Oper} {rest : List Oper} {o : Oper} {a : Act} {w : World} {Q : Exit → Act → World → Prop} (hgd : o.guard = none) (s x : Operand) (t t' : TypeId)
    (ho : o.op = .call { callee := .builtin .append, args := #[s, x], argTypes := #[t, t'] }) (vs vx : Value) (hs : a.eval s = vs) (hx : a.eval x = vx) {v' : Value} {w' : World}
    (hr : (Builtin.append_ #[t, t'] o.type #[vs, vx]).run Try.prog w = .ok v' w')
    (h : wpList Try.prog ops Q rest (a.put o.dst v') w') : wpList Try.prog ops Q (o :: rest) a w := by
  refine wpList_plain hgd fun K hK => ?_
  unfold Oper.wp execOp
  simp only [ho, resolve, invoke, builtin, Sem.run_bind, Sem.run_pure, Result.andThen_ok, List.map_toArray, List.map_cons, List.map_nil, hs, hx, hr]
  exact hK _ _ h

/-- What slices.Clone tells of a list of numbers. -/
def ToldC_ (xs : List Int) (w : World) (e : Ending) (w' : World) : Prop := (∃ v, e = .returned v ∧ w'.ownsRow w.heap.size 3 1 v xs.length (xs.map (Value.int .i64))) ∧ Below w.heap.size w w'

set_option maxRecDepth 100000 in
theorem cloneInts_any (xs : List Int) (v : Value) (w : World) (hv : VS w 1 RInt v xs) (hn : xs.length ≤ 1000000) : Calls Try.prog 29 #[v] w (ToldC_ xs w) := by
  obtain ⟨A, c, rfl, hs⟩ := hv
  have heq := Lib.run_eql_slice_nil (P := Try.prog) w 36 3 A xs.length c 0 0 Try.underlying36
  cases A with
  | none =>
    obtain rfl : xs = [] := by
      rcases Nat.eq_zero_or_pos xs.length with h0 | h0
      · exact List.length_eq_zero_iff.1 h0
      · obtain ⟨b, o, e, _⟩ := hs.2.2 h0; cases e
    obtain rfl : c = 0 := hs.2.1.2 rfl
    clear hs heq
    have heq := Lib.run_eql_slice_nil (P := Try.prog) w 36 3 none 0 0 0 0 Try.underlying36
    go_enter Try.func29, Try.ntmps29
    go_wp2_with (simp only [heq, Option.isNone])
    go_ret
    exact ⟨⟨_, rfl, World.ownsRow_nil _ _ _ _⟩, Below.refl _ _⟩
  | some ad =>
    obtain ⟨v', w', hr, -, hg, hown, -⟩ := run_append_copy 36 (w := w.alloc (.cells #[] 3)) (heap_alloc_new w (.cells #[] 3)) (SInts.keep (kept_alloc w _) hs) rfl hn
    have hB : Below w.heap.size w w' := ((Below.refl w.heap.size w).alloc (Nat.le_refl _) (.cells #[] 3)).grown hg (by simp) (fun k hk => by have := Option.some.inj hk; omega)
    have HF := Lib.hid (And.intro hown hB)
    clear hown hB hg hs
    go_enter Try.func29, Try.ntmps29
    go_wp2_with (first | (at_builtin; refine wpList_append_runs rfl (.tmp 5) (.tmp 6) 36 36 rfl _ _ rfl rfl hr ?_) | simp only [heq, Option.isNone])
    go_ret
    exact ⟨⟨v', rfl, HF.out.1⟩, HF.out.2⟩

/-! ### New numbers -/
def ToldNums (r : Nat → Bool) (n : Nat) (w : World) (e : Ending) (w' : World) : Prop :=
  (∃ G, e = .returned (.slice (some ⟨G, 0, none⟩) n n) ∧ w.heap.size ≤ G ∧ w'.rowIs G 3 n (fun i => .int .i64 (numB r i))) ∧ Below w.heap.size w w'

set_option maxRecDepth 100000 in
set_option maxHeartbeats 4000000 in
theorem numbersOf_any (H n : Nat) (r : Nat → Bool) (w : World) (hrow : w.rowIs H 4 n (fun x => .bool (r x))) (hn : n ≤ 1000000) :
    Calls Try.prog 27 #[.slice (some ⟨H, 0, none⟩) n n] w (ToldNums r n w) := by
  have hmk2 := run_make_row' (P := Try.prog) 36 3 (.int .i64 0) 8 Try.underlying36 Try.info3 rfl .i64 .i64 n (by omega) (by omega)
  go_enter Try.func27, Try.ntmps27
  go_wp2_with fail
  clear hmk2
  have hg0 := World.rowIs_made w (.int .i64 0) n 3
  have hb0 : Below w.heap.size w (w.alloc (.cells (madeCells #[.int .i64 0] n) 3)) := (Below.refl _ _).alloc (Nat.le_refl _) _
  obtain ⟨G, hG⟩ : ∃ G, G = w.heap.size := ⟨_, rfl⟩
  have HG := Lib.hid hG
  have hr0 := hrow.of_block (hb0.block H hrow.lt)
  have hHG : H < G := by rw [hG]; exact hrow.lt
  rw [← hG] at hg0 hb0 ⊢
  generalize w.alloc (.cells (madeCells #[.int .i64 0] n) 3) = w1 at *
  clear hrow hG
  go_loopw [4, 12] (fun m i wr => ∃ k : Nat, k ≤ n ∧ i = .int .i64 k ∧ m = .int .i64 ((List.range k).countP r) ∧ wr.rowIs H 4 n (fun x => .bool (r x)) ∧ wr.rowIs G 3 n (fun j => .int .i64 (if j < k then numB r j else 0)) ∧ Below G w wr) (fun _ i _ => n - (intOf i).toNat)
  case atStart => exact ⟨0, Nat.zero_le _, rfl, rfl, hr0, hg0.congr fun j _ => by simp, hb0⟩
  case round =>
    obtain ⟨k, hk, rfl, rfl, hrr, hgr, hbr⟩ := hrel
    have HRR := Lib.hid hrr
    have HBR := Lib.hid hbr
    by_cases hlt : k < n
    · have hc := hrr.cell hlt
      have hgc := hgr.cell hlt
      have hgf := hgr.frozen k
      have hcs := countP_range_succ r k
      have hcl := countP_range_le r k
      have hset (x : Int) (hx : x = numB r k) := (hgr.set k (.int .i64 x)).congr (g := fun j => .int .i64 (if j < k + 1 then numB r j else 0)) fun j _ => by
        by_cases e : j = k
        · subst e; simp [hx]
        · have : (j < k + 1) = (j < k) := by rw [eq_iff_iff]; omega
          simp only [if_neg e, this]
      have HSET := Lib.hid hset
      have HCS := Lib.hid hcs
      clear hset hcs hrr hgr hbr
      cases hrk : r k
      · rw [hrk] at hc
        have hm : Hid ((-1 : Int) = numB r k) := Lib.hid (by unfold numB; rw [hrk]; rfl)
        have hcc : Hid ((List.range (k + 1)).countP r = (List.range k).countP r) := Lib.hid (by rw [HCS.out, hrk]; rfl)
        clear hrk
        generalize (List.range k).countP r = m at *
        go_wp2_with fail
        go_roundw
        case rel => exact ⟨k + 1, by omega, by go_num, by rw [hcc.out], HRR.out.setOther (by show H ≠ G; omega) _, HSET.out _ hm.out, HBR.out.setCell (by show G ≤ G; omega) _⟩
        case measure => simp [intOf]; omega
      · rw [hrk] at hc
        have hm : Hid ((((List.range k).countP r : Nat) : Int) = numB r k) := Lib.hid (by unfold numB; rw [if_pos hrk])
        have hcc : Hid ((List.range (k + 1)).countP r = (List.range k).countP r + 1) := Lib.hid (by rw [HCS.out, hrk]; rfl)
        clear hrk
        generalize (List.range k).countP r = m at *
        go_wp2_with fail
        go_roundw
        case rel => exact ⟨k + 1, by omega, by go_num, by rw [hcc.out]; go_num, HRR.out.setOther (by show H ≠ G; omega) _, HSET.out _ hm.out, HBR.out.setCell (by show G ≤ G; omega) _⟩
        case measure => simp [intOf]; omega
    · have HGR := Lib.hid (hgr.congr (g := fun j => .int .i64 (numB r j)) fun j hj => by rw [if_pos (by omega)])
      clear hgr
      go_wp2_with fail
      go_ret
      exact ⟨⟨G, rfl, by have := HG.out; omega, HGR.out⟩, by rw [← HG.out]; exact HBR.out⟩
end Go.Proofs.Ytoidhjmhakajlaa
