/- Trim's smaller functions: a phi's Args, an end. -/
import Derived.Test.YtooblmiffgjmjaaGrY
import Derived.Test.YtooblmiffgjmjaaModB
import Derived.StillTailTactics
import Derived.Laws.ResultCell
namespace Go.Proofs.Ytooblmiffgjmjaa
open Go.ChangeShapes Go.WideShapes Go.RowKit Go.Deep
set_option linter.unusedVariables false

set_option maxRecDepth 100000 in
set_option maxHeartbeats 4000000 in
theorem argsOf_any (H n : Nat) (r : Nat → Bool) (args ahead : List Int) (va vh : Value) (w : World) (hrow : w.rowIs H 4 n (fun x => .bool (r x))) (ha : VS w 1 RInt va args) (hh : VS w 1 RInt vh ahead)
    (hin : ∀ a ∈ ahead, 0 ≤ a ∧ a < n) (hn : args.length ≤ 1000000) :
    Calls Try.prog 46 #[va, vh, .slice (some ⟨H, 0, none⟩) n n] w (ToldC_ (argsT r ahead args) w) := by
  have ha0 := ha
  obtain ⟨A, c, rfl, hsa⟩ := ha
  obtain ⟨B, d, rfl, hsh⟩ := hh
  have hal := hsa.len
  have hhl := hsh.len
  obtain ⟨i0, hi, hz0, hz1, hz2⟩ := info_parts Try.info3
  have HI := Lib.hid (And.intro hi (And.intro hz0 (And.intro hz1 hz2)))
  clear hi hz0 hz1 hz2
  by_cases hl : args.length = ahead.length
  · have hne : ((args.length : Int) != ahead.length) = false := by simp [hl]
    have HL := Lib.hid hl
    have HIN := Lib.hid hin
    have HRES : Hid (argsT r ahead args = keepA r ahead args) := Lib.hid (by unfold argsT; rw [if_pos hl])
    have hi64 : ∀ x ∈ args, I64 x := fun x hx => by
      obtain ⟨i, hi⟩ := List.getElem?_of_mem hx
      obtain ⟨_, _, h3⟩ := hsa
      obtain ⟨b, o, e, hr⟩ := h3 (by have := (List.getElem?_eq_some_iff.1 hi).1; omega)
      exact (hr i x hi).2
    clear hl hin hi64 ha0
    go_enter Try.func46, Try.ntmps46
    go_wp2_with fail
    go_loopw [7, 19] (fun out i wr => ∃ k : Nat, k ≤ args.length ∧ i = .int .i64 k ∧ Below w.heap.size w wr ∧ wr.ownsRow w.heap.size 3 1 out (keepA r (ahead.take k) (args.take k)).length ((keepA r (ahead.take k) (args.take k)).map (Value.int .i64))) (fun _ i _ => args.length - (intOf i).toNat)
    case atStart => exact ⟨0, Nat.zero_le _, rfl, Below.refl _ _, by simpa [keepA] using World.ownsRow_nil _ _ _ _⟩
    case round =>
      obtain ⟨k, hk, rfl, hb, hown⟩ := hrel
      have hkr := kept_of_below hb
      have hz := hb.size
      have HB := Lib.hid hb
      have HOW := Lib.hid hown
      by_cases hlt : k < args.length
      · obtain ⟨b1, o1, x, rfl, hx, hxc, -⟩ := (SInts.keep hkr hsa).int hlt
        obtain ⟨b2, o2, y, rfl, hy, hyc, -⟩ := (SInts.keep hkr hsh).int (k := k) (by have := HL.out; omega)
        obtain ⟨hy0, hy1⟩ := HIN.out y (List.mem_of_getElem? hy.out)
        obtain ⟨q, rfl⟩ : ∃ q : Nat, y = q := ⟨y.toNat, by omega⟩
        have hqn : q < n := by omega
        have hrc := (hrow.of_block (hb.block H hrow.lt)).cell hqn
        have hk0 : (0 : Int) ≤ k := by omega
        have hk1 : (k : Int) < args.length := by omega
        have hk2 : (k : Int) < ahead.length := by have := HL.out; omega
        have HSN := Lib.hid (keepA_snoc (r := r) hy.out hx.out)
        have hlk : (keepA r (ahead.take k) (args.take k)).length ≤ 1000000 := by have := keepA_len r (ahead.take k) (args.take k); simp at this; omega
        clear hb hown hkr
        cases hrq : r q
        · rw [hrq] at hrc
          have HS2 : Hid (keepA r (ahead.take (k + 1)) (args.take (k + 1)) = keepA r (ahead.take k) (args.take k)) := Lib.hid (by rw [HSN.out, Int.toNat_natCast, hrq]; simp)
          clear hrq
          go_wp2_with fail
          go_roundw
          case rel => exact ⟨k + 1, by omega, by go_num, HB.out, by rw [HS2.out]; exact HOW.out⟩
          case measure => simp [intOf]; omega
        · rw [hrq] at hrc
          have HS2 : Hid (keepA r (ahead.take (k + 1)) (args.take (k + 1)) = keepA r (ahead.take k) (args.take k) ++ [x]) := Lib.hid (by rw [HSN.out, Int.toNat_natCast, hrq]; simp)
          clear hrq
          generalize keepA r (ahead.take k) (args.take k) = acc at *
          go_wp2_with (at_builtin; refine wpList_append_lies _ rfl (.tmp 31) (.tmp 33) 22 rfl w.heap.size 3 i0 (.int .i64 0) 1 8 Try.underlying22 HI.out.1 HI.out.2.1 HI.out.2.2.1 HI.out.2.2.2 rfl (by decide) _ _ _ rfl (HOW.out.alloc _) ⟨wr.heap.size, 0, none⟩ 1 1 [.int .i64 x] rfl rfl ?c1 ?c2 ?c0 ?c3 ?c4 ?c5 (wr.heap.size + 1) ?c6 ?_)
          case c1 => exact news_one_add wr _ _ rfl
          case c2 => exact ints_oneCell .i64 [x]
          case c0 => omega
          case c3 => unfold maxLen; omega
          case c4 => omega
          case c5 => simp; omega
          case c6 => simp
          intro g cap w4 hown4 hgrow4 hloc4 hlt4
          have HB4 : Hid (Below w.heap.size w w4) := Lib.hid ((HB.out.alloc hz _).grown hgrow4 (by simp; omega) (fun g hg => (HOW.out.lt g hg).1))
          have HO4 : Hid (w4.ownsRow w.heap.size 3 1 (.slice (some ⟨g, 0, none⟩) (acc.length + 1) cap) (keepA r (ahead.take (k + 1)) (args.take (k + 1))).length ((keepA r (ahead.take (k + 1)) (args.take (k + 1))).map (Value.int .i64))) := Lib.hid (by rw [HS2.out, List.map_append, List.length_append]; exact hown4)
          clear hown4 hgrow4 hloc4
          go_wp2_with fail
          go_roundw
          case rel => exact ⟨k + 1, by omega, by go_num, HB4.out, HO4.out⟩
          case measure => simp [intOf]; omega
      · have HF : Hid (keepA r (ahead.take k) (args.take k) = argsT r ahead args) := Lib.hid (by rw [HRES.out, List.take_of_length_le (by have := HL.out; omega), List.take_of_length_le (by omega)])
        clear hb hown hkr
        go_wp2_with fail
        go_ret
        exact ⟨⟨_, rfl, by rw [← HF.out]; exact HOW.out⟩, HB.out⟩
  · have hne : ((args.length : Int) != ahead.length) = true := by simp; omega
    have HRES : Hid (argsT r ahead args = args) := Lib.hid (by unfold argsT; rw [if_neg hl])
    have HC := Lib.hid (cloneInts_any args _ w ha0 hn)
    clear hl ha0
    go_enter Try.func46, Try.ntmps46
    go_wp2_with fail
    refine HC.out.mono ?_
    rintro e w1 ⟨⟨v, rfl, ho⟩, hb⟩
    have HF := Lib.hid (And.intro ho hb)
    clear ho hb
    go_wp2_with fail
    go_ret
    exact ⟨⟨_, rfl, by rw [HRES.out]; exact HF.out.1⟩, HF.out.2⟩

/-! ### An end -/
def uptoL (g : Int → Int) (l : List Int) (k : Nat) : List Int := (l.take k).map g ++ l.drop k
theorem uptoL_zero (g : Int → Int) (l : List Int) : uptoL g l 0 = l := by simp [uptoL]
theorem uptoL_all {g : Int → Int} {l : List Int} {k : Nat} (h : l.length ≤ k) : uptoL g l k = l.map g := by unfold uptoL; rw [List.take_of_length_le h, List.drop_eq_nil_of_le h]; simp
theorem uptoL_len (g : Int → Int) (l : List Int) (k : Nat) : (uptoL g l k).length = l.length := by unfold uptoL; simp; omega
theorem uptoL_at {g : Int → Int} {l : List Int} {k : Nat} {x : Int} (h : l[k]? = some x) : (uptoL g l k)[k]? = some x := by
  have hk : k < l.length := (List.getElem?_eq_some_iff.1 h).1
  unfold uptoL
  rw [List.getElem?_append_right (by simp; omega)]
  simp only [List.length_map, List.length_take, List.getElem?_drop]
  rw [show k + (k - min k l.length) = k by omega]; exact h
theorem uptoL_set {g : Int → Int} {l : List Int} {k : Nat} {x : Int} (h : l[k]? = some x) : (uptoL g l k).set k (g x) = uptoL g l (k + 1) := by
  have hk : k < l.length := (List.getElem?_eq_some_iff.1 h).1
  unfold uptoL
  rw [take_succ_of h, List.map_append, List.append_assoc, List.set_append_right _ _ (by simp; omega)]
  congr 1
  obtain ⟨_, rfl⟩ := List.getElem?_eq_some_iff.1 h
  have e : (l.drop k).set 0 (g l[k]) = g l[k] :: l.drop (k + 1) := by rw [List.drop_eq_getElem_cons hk]; rfl
  rw [show k - ((l.take k).map g).length = 0 by simp; omega, e]; rfl
theorem uptoL_same {g : Int → Int} {l : List Int} {k : Nat} {x : Int} (h : l[k]? = some x) (hg : g x = x) : uptoL g l k = uptoL g l (k + 1) := by
  rw [← uptoL_set h, hg]
  apply List.ext_getElem?
  intro i
  rw [List.getElem?_set]
  split
  · rename_i e; subst e; rw [uptoL_at h, if_pos (by rw [uptoL_len]; exact (List.getElem?_eq_some_iff.1 h).1)]
  · rfl
/-- A number of a row that the call owns. -/
theorem own_int {w : World} {base n cap g : Nat} {l : List Int} {i : Nat} {x : Int} (h : w.ownsRow base 3 1 (.slice (some ⟨g, 0, none⟩) n cap) n (l.map (Value.int .i64))) (hi : l[i]? = some x) : w.cell? ⟨g, i, none⟩ = some (.int .i64 x) := by
  have := h.cells (g := g) rfl i (.int .i64 x) (by rw [List.getElem?_map, hi]; rfl)
  rwa [show (⟨g, 0, none⟩ : Addr).add i = ⟨g, i, none⟩ by unfold Addr.add; split <;> simp_all] at this

def ToldT_ (r : Nat → Bool) (n : Nat) (t : TermD) (w : World) (e : Ending) (w' : World) : Prop :=
  (∃ v, e = .returned (.agg #[.int .i64 t.kind, .int .i64 t.arg, v]) ∧ w'.ownsRow w.heap.size 3 1 v t.to.length ((t.to.map (toT r n)).map (Value.int .i64))) ∧ Below w.heap.size w w'

set_option maxRecDepth 100000 in
set_option maxHeartbeats 4000000 in
theorem termOf_any (G n : Nat) (r : Nat → Bool) (t : TermD) (v : Value) (w : World) (hrow : w.rowIs G 3 n (fun i => .int .i64 (numB r i))) (hv : VTerm w v t) (hn : n ≤ 1000000) (hl : t.to.length ≤ 1000000) :
    Calls Try.prog 35 #[v, .slice (some ⟨G, 0, none⟩) n n] w (ToldT_ r n t w) := by
  obtain ⟨A, c, rfl, hs, hk64, ha64⟩ := hv
  have HK := Lib.hid hk64
  have HA := Lib.hid ha64
  clear hk64 ha64
  go_enter Try.func35, Try.ntmps35
  go_upto_region 1 with fail
  obtain ⟨w1, hw1, hs1, hk1, hb1, hc1, hf1⟩ := named w #[.int .i64 t.kind, .int .i64 t.arg, .slice A t.to.length c] 44
  obtain ⟨w2, hw2, hs2, hk2, hb2, hc2, hf2⟩ := named w1 #[.int .i64 0, .int .i64 0, .slice none 0 0] 44
  have hbx : w2.heap[w.heap.size]? = some (.cells #[.int .i64 t.kind, .int .i64 t.arg, .slice A t.to.length c] 44 (0, 0)) := by rw [hw2, hw1]; exact row_new2 w _ _
  have hby : w2.heap[w.heap.size + 1]? = some (.cells #[.int .i64 0, .int .i64 0, .slice none 0 0] 44 (0, 0)) := by rw [hw2, hw1]; exact row_new3 w _ _
  rw [← hw1, ← hw2]
  have HB2 : Hid (Below w.heap.size w w2) := Lib.hid (hb1.trans (hb2.mono (by omega)))
  have hz2 : w2.heap.size = w.heap.size + 2 := by omega
  have HC := Lib.hid (cloneInts_any t.to _ w2 ⟨A, c, rfl, SInts.keep (hk1.trans hk2) hs⟩ hl)
  obtain ⟨N, hN⟩ : ∃ N, N = w.heap.size := ⟨_, rfl⟩
  rw [← hN] at hbx hby hz2 ⊢
  have hGN : G < N := by rw [hN]; exact hrow.lt
  have HR2 := Lib.hid (hrow.of_block (HB2.out.block G hrow.lt))
  have HN := Lib.hid hN
  have x2 := cell_of_block hbx 2
  clear hw1 hw2 hs1 hs2 hk1 hk2 hb1 hb2 hc1 hc2 hf1 hf2 hs hrow hN
  go_wp2_with fail
  refine HC.out.mono ?_
  rintro e w3 ⟨⟨vc, rfl, ho⟩, hb3⟩
  have hvc : ∃ A' c', vc = .slice A' t.to.length c' := by
    rcases ho.2 with ⟨e, h0⟩ | ⟨g, c', cur, e, _⟩
    · exact ⟨none, 0, by rw [e, h0]⟩
    · exact ⟨_, _, e⟩
  obtain ⟨A', c', rfl⟩ := hvc
  have hz3 := hb3.size
  have hbx3 := (hb3.block N (by omega)).trans hbx
  have hby3 := (hb3.block (N + 1) (by omega)).trans hby
  have hbx4 := set_of_block (i := 2) (.slice A' t.to.length c') hbx3
  have hby4 := (Below.heap_setCell w3 ⟨N, 2, none⟩ (.slice A' t.to.length c') (N + 1) (by show N + 1 ≠ N; omega)).trans hby3
  have ho4 := ownsRow_block (w' := w3.setCell ⟨N, 2, none⟩ (.slice A' t.to.length c')) ho (fun g hg => Below.heap_setCell _ _ _ _ (by have := (ho.lt g hg).1; show g ≠ N; omega))
  have HR4 : Hid ((w3.setCell ⟨N, 2, none⟩ (.slice A' t.to.length c')).rowIs G 3 n (fun i => .int .i64 (numB r i))) := Lib.hid ((HR2.out.of_block (hb3.block G (by omega))).setOther (by show G ≠ N; omega) _)
  have HB4 : Hid (Below w.heap.size w (w3.setCell ⟨N, 2, none⟩ (.slice A' t.to.length c'))) := Lib.hid ((HB2.out.trans (hb3.mono HB2.out.size)).setCell (by show w.heap.size ≤ N; have := HN.out; omega) _)
  have hz4 : w2.heap.size ≤ (w3.setCell ⟨N, 2, none⟩ (.slice A' t.to.length c')).heap.size := by simpa using hz3
  have y2 := cell_of_block hbx3 2
  have yf2 := free_of_block hbx3 2
  clear x2 ho hb3 HC hbx hby
  go_upto_region 2 with fail
  clear y2 yf2
  generalize w3.setCell ⟨N, 2, none⟩ (.slice A' t.to.length c') = w4 at *
  have hx2 : w4.cell? ⟨N, 2, none⟩ = some (.slice A' t.to.length c') := cell_of_block hbx4 2
  have HO4 : Hid (w4.ownsRow w2.heap.size 3 1 (.slice A' t.to.length c') t.to.length ((uptoL (toT r n) t.to 0).map (Value.int .i64))) := Lib.hid (by rw [uptoL_zero]; exact ho4)
  have HBX := Lib.hid hbx4
  have HBY := Lib.hid hby4
  clear hbx4 hby4 hbx3 hby3 ho4 hz3
  go_wp2_with fail
  go_loopw [14] (fun i wr => ∃ k : Nat, k ≤ t.to.length ∧ i = .int .i64 k ∧ Below w2.heap.size w4 wr ∧ wr.ownsRow w2.heap.size 3 1 (.slice A' t.to.length c') t.to.length ((uptoL (toT r n) t.to k).map (Value.int .i64))) (fun i _ => t.to.length - (intOf i).toNat)
  case atStart => exact ⟨0, Nat.zero_le _, rfl, Below.refl _ _, HO4.out⟩
  case round =>
    obtain ⟨k, hk, rfl, hbr, hor⟩ := hrel
    have HBR := Lib.hid hbr
    have HOR := Lib.hid hor
    have hbxr := (hbr.block N (by omega)).trans HBX.out
    have z2 : wr.cell? ⟨N, 2, none⟩ = some (.slice A' t.to.length c') := cell_of_block hbxr 2
    by_cases hlt : k < t.to.length
    · obtain ⟨g, cap, hform, hg1, hg2⟩ := hor.form (by omega)
      cases hform
      obtain ⟨x, hx⟩ : ∃ x, t.to[k]? = some x := ⟨_, List.getElem?_eq_getElem hlt⟩
      have hxc := own_int hor (uptoL_at (g := toT r n) hx)
      have hxf := hor.frozenAt k
      have hk0 : (0 : Int) ≤ k := by omega
      have hk1 : (k : Int) < t.to.length := by omega
      have HX := Lib.hid hx
      clear hbr hbxr hx hor
      by_cases hin : 0 ≤ x ∧ x < n
      · obtain ⟨q, rfl⟩ : ∃ q : Nat, x = q := ⟨x.toNat, by omega⟩
        have hqn : q < n := by omega
        have hq0 : (0 : Int) ≤ q := by omega
        have hq1 : (q : Int) < n := by omega
        have HT : Hid (numB r q = toT r n q) := Lib.hid (by unfold toT; rw [if_pos hin]; simp)
        have hrc := (HR4.out.of_block (HBR.out.block G (by omega))).cell hqn
        have hst := (HOR.out.stored k (.int .i64 (numB r q))).1
        have HST : Hid ((wr.setCell ⟨g, k, none⟩ (.int .i64 (numB r q))).ownsRow w2.heap.size 3 1 (.slice (some ⟨g, 0, none⟩) t.to.length c') t.to.length ((uptoL (toT r n) t.to (k + 1)).map (Value.int .i64))) := Lib.hid (by
          rw [← uptoL_set HX.out, ← HT.out, List.map_set]; exact hst)
        have HBS : Hid (Below w2.heap.size w4 (wr.setCell ⟨g, k, none⟩ (.int .i64 (numB r q)))) := Lib.hid (HBR.out.setCell (by show w2.heap.size ≤ g; exact hg1) _)
        clear hst hin
        generalize hy : numB r q = y at *
        go_upto_region 6 with fail
        go_still_tail 8, (by kernel_rfl)
        change wpList _ _ _ _ _ wr.drew
        go_wp2_with fail
        go_roundw
        case rel => exact ⟨k + 1, by omega, by go_num, HBS.out.drew, ownsRow_drew HST.out⟩
        case measure => simp [intOf]; omega
      · have HT : Hid (uptoL (toT r n) t.to k = uptoL (toT r n) t.to (k + 1)) := Lib.hid (uptoL_same HX.out (by unfold toT; rw [if_neg hin]))
        by_cases h0 : 0 ≤ x
        · have h1 : decide (x < (n : Int)) = false := decide_eq_false (by omega)
          clear hin
          go_wp2_with fail
          go_roundw
          case rel => exact ⟨k + 1, by omega, by go_num, HBR.out, by rw [← HT.out]; exact HOR.out⟩
          case measure => simp [intOf]; omega
        · clear hin
          go_wp2_with fail
          go_roundw
          case rel => exact ⟨k + 1, by omega, by go_num, HBR.out, by rw [← HT.out]; exact HOR.out⟩
          case measure => simp [intOf]; omega
    · have HFIN : Hid (uptoL (toT r n) t.to k = t.to.map (toT r n)) := Lib.hid (uptoL_all (by omega))
      have z0 : wr.cell? ⟨N, 0, none⟩ = some (.int .i64 t.kind) := cell_of_block hbxr 0
      have z1 : wr.cell? ⟨N, 1, none⟩ = some (.int .i64 t.arg) := cell_of_block hbxr 1
      have hbyr := (hbr.block (N + 1) (by omega)).trans HBY.out
      have u0 := cell_of_block hbyr 0
      have u1 := cell_of_block hbyr 1
      have u2 := cell_of_block hbyr 2
      have v0 := free_of_block hbyr 0
      have v1 := free_of_block hbyr 1
      have v2 := free_of_block hbyr 2
      have HBYR := Lib.hid hbyr
      clear hbxr hbyr hbr hor
      have hfin := set_of_block (i := 2) (.slice A' t.to.length c') (set_of_block (i := 1) (.int .i64 t.arg) (set_of_block (i := 0) (.int .i64 t.kind) HBYR.out))
      have hoth : ∀ y, y ≠ N + 1 → (((wr.setCell ⟨N + 1, 0, none⟩ (.int .i64 t.kind)).setCell ⟨N + 1, 1, none⟩ (.int .i64 t.arg)).setCell ⟨N + 1, 2, none⟩ (.slice A' t.to.length c')).heap[y]? = wr.heap[y]? := fun y hy =>
        (Below.heap_setCell _ _ _ _ hy).trans ((Below.heap_setCell _ _ _ _ hy).trans (Below.heap_setCell _ _ _ _ hy))
      have HOF := Lib.hid (own_base (ownsRow_block HOR.out (fun g hg => hoth g (by have := (HOR.out.lt g hg).1; omega))) (base' := w.heap.size) (by have := HN.out; omega))
      have HBF : Hid (Below w.heap.size w (((wr.setCell ⟨N + 1, 0, none⟩ (.int .i64 t.kind)).setCell ⟨N + 1, 1, none⟩ (.int .i64 t.arg)).setCell ⟨N + 1, 2, none⟩ (.slice A' t.to.length c'))) := Lib.hid (by
        have hNw := HN.out
        exact (((HB4.out.trans (HBR.out.mono (by omega))).setCell (by show w.heap.size ≤ N + 1; omega) _).setCell (by show w.heap.size ≤ N + 1; omega) _).setCell (by show w.heap.size ≤ N + 1; omega) _)
      have HFIN2 := Lib.hid hfin
      clear hfin hoth
      go_wp2_with fail
      refine bodyPost_ret (results_cell_row rfl _ _ (N + 1) 44 #[.int .i64 t.kind, .int .i64 t.arg, .slice A' t.to.length c'] (0, 0) _ (by rfl) HFIN2.out Try.underlying44 (by rfl) (by kernel_rfl)) rfl ?_
      exact ⟨⟨_, rfl, by rw [← HFIN.out]; exact HOF.out⟩, HBF.out⟩
end Go.Proofs.Ytooblmiffgjmjaa
