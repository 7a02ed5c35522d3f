/- The closure that goes on from a block: goOn does what visit says. -/
import Derived.Test.YtflbooopgjgkbaaDmAJ
import Derived.Laws.EntriesVeiled
namespace Go.Proofs.Ytflbooopgjgkbaa
open Go.ChangeShapes Go.WideShapes Go.RowKit Go.Deep
set_option linter.unusedVariables false

/-- What goOn leaves. -/
def ToldG (M G n : Nat) (nx : Nat → List Nat) (b : Nat) (S : Nat → Bool) (R : Nat → List Nat) (op : List Nat) (s' : DS) (w : World) (e : Ending) (w' : World) : Prop :=
  e = .returned (.tuple #[]) ∧ ∃ (R' : Nat → List Nat) (V' : Nat → Value) (vo' vd' : Value), BW w' M G n s'.seen R' V' op s'.out vo' vd' ∧ (∀ x, x < n → s'.seen x = false → R' x = nx x) ∧ (∀ x, x < n → S x = true → x ≠ b → R' x = R x) ∧ BB M G w w'
def lenAt (G b : Nat) (w : World) : Nat := match w.cell? ⟨G, b, none⟩ with
  | some (.slice _ m _) => m
  | _ => 0
theorem lenAt_of {G b m : Nat} {w : World} {A : Option Addr} {c : Nat} (h : w.cell? ⟨G, b, none⟩ = some (.slice A m c)) : lenAt G b w = m := by unfold lenAt; rw [h]
theorem zs_cons (q : Nat) (l : List Nat) : zs (q :: l) = (q : Int) :: zs l := rfl

def GoOn (M G n F : Nat) (nx : Nat → List Nat) : Prop := ∀ (b deep : Nat) (l : List Nat) (S : Nat → Bool) (R : Nat → List Nat) (V : Nat → Value) (op dn : List Nat) (vo vd : Value) (w : World),
  BW w M G n S R V (op ++ [b]) dn vo vd → b < n → S b = true → R b = l → (∀ x, x < n → S x = false → R x = nx x) → unseen n S ≤ F → deep + F < 4096 → op.length + F ≤ 900000 → dn.length + unseen n S ≤ 900000 →
  Calls Try.prog 84 #[.int .i64 b, .int .i64 deep, .pointer (some ⟨M, 0, none⟩), .pointer (some ⟨M + 2, 0, none⟩), .pointer (some ⟨M + 5, 0, none⟩), .pointer (some ⟨M + 6, 0, none⟩), .pointer (some ⟨M + 4, 0, none⟩), .pointer (some ⟨M + 3, 0, none⟩)] w
    (ToldG M G n nx b S R op (rest nx F b l ⟨S, dn⟩) w)

set_option maxRecDepth 100000 in
set_option maxHeartbeats 8000000 in
theorem goOn_step (M G n F : Nat) (nx : Nat → List Nat) (hn : n ≤ 1000000) (hnx : ∀ x, ∀ t ∈ nx x, t < n) (ih : ∀ F', F = F' + 1 → GoOn M G n F' nx) : GoOn M G n F nx := by
  intro b deep l S R V op dn vo vd w h hb hSb hRb hun hF hdeep hop hdn
  obtain ⟨i0, hi, hz0, hz1, hz2⟩ := info_parts Try.info3
  have HI := Lib.hid (And.intro hi (And.intro hz0 (And.intro hz1 hz2)))
  clear hi hz0 hz1 hz2
  have HIH := Lib.hid ih
  have H0 := Lib.hid h
  have HUN := Lib.hid hun
  have HSB := Lib.hid hSb
  have HRB := Lib.hid hRb
  have hd1 : (deep : Int) < 4096 := by omega
  have hd2 : ((deep : Int) == 4096) = false := by simp; omega
  have HF := Lib.hid hF
  have HDN := Lib.hid hdn
  clear ih h hun hSb hRb hF hdn
  go_enter Try.func84, Try.ntmps84
  go_wp2_with fail
  go_loopw [] (fun wr => ∃ (l' : List Nat) (S' : Nat → Bool) (R' : Nat → List Nat) (V' : Nat → Value) (vo' vd' : Value) (dn' : List Nat), BW wr M G n S' R' V' (op ++ [b]) dn' vo' vd' ∧ R' b = l' ∧ S' b = true ∧ (∀ x, x < n → S' x = false → R' x = nx x) ∧ unseen n S' ≤ F ∧ dn'.length + unseen n S' ≤ 900000 ∧
    rest nx F b l' ⟨S', dn'⟩ = rest nx F b l ⟨S, dn⟩ ∧ (∀ x, x < n → S x = true → x ≠ b → R' x = R x) ∧ (∀ x, S x = true → S' x = true) ∧ BB M G w wr) (fun wr => lenAt G b wr)
  case atStart => exact ⟨l, S, R, V, vo, vd, dn, H0.out, HRB.out, HSB.out, HUN.out, HF.out, HDN.out, rfl, fun _ _ _ _ => rfl, fun _ h => h, BB.refl _ _ _⟩
  case round =>
    obtain ⟨l', S', R', V', vo', vd', dn', hw, hR, hSb, hun, hF, hdn, hrest, hold, hgrow, hbb⟩ := hrel
    have HUN' := Lib.hid hun
    have HF' := Lib.hid hF
    have HDN' := Lib.hid hdn
    have HREST := Lib.hid hrest
    have HOLD := Lib.hid hold
    have HGROW := Lib.hid hgrow
    have HBB := Lib.hid hbb
    have HSB' := Lib.hid hSb
    clear hun hF hdn hrest hold hgrow hbb hSb HUN HSB HRB HF HDN H0
    have hM := hw.size
    have hgm := hw.gm
    obtain ⟨A, c, hv, hs⟩ := hw.lists b hb
    rw [hR] at hv hs
    have hrow := hw.nrow.cell hb
    rw [hv] at hrow
    have hnb : wr.cell? ⟨M, 0, none⟩ = some (.slice (some ⟨G, 0, none⟩) n n) := cell_of_block hw.nbox 0
    have hlen := hs.len
    rw [zs_len] at hlen
    cases l' with
    | nil =>
      obtain ⟨g, cap, hvo, hlast, hcap, hcm, hpop, hown⟩ := own_pop hw.ownO
      subst hvo
      have c4 : wr.cell? ⟨M + 4, 0, none⟩ = some (.slice (some ⟨g, 0, none⟩) (op.length + 1) cap) := cell_of_block hw.obox 0
      have f4 : wr.frozen? ⟨M + 4, 0, none⟩ = false := free_of_block hw.obox 0
      have hnew := hw.open_ (op' := op) (vo' := .slice (some ⟨g, 0, none⟩) op.length cap) (fun _ _ => rfl) (fun _ _ => rfl) hown hw.apart
      have hb1 : BB M G wr (wr.setCell ⟨M + 4, 0, none⟩ (.slice (some ⟨g, 0, none⟩) op.length cap)) := (BB.refl M G wr).setCell (.inr (by show M ≤ M + 4; omega)) _
      have hz1 : M + 6 < (wr.setCell ⟨M + 4, 0, none⟩ (.slice (some ⟨g, 0, none⟩) op.length cap)).heap.size := by simpa using hM
      have hl1 : (op.length : Int) ≤ cap := by omega
      have hop0 : op.length < 1000000 := by omega
      simp only [List.length_nil] at hrow
      clear hlast hown hcap hw hs hv
      go_upto_region 9 with fail
      clear hrow hnb c4 f4 hpop
      generalize wr.setCell ⟨M + 4, 0, none⟩ (.slice (some ⟨g, 0, none⟩) op.length cap) = w1 at *
      have c3 : w1.cell? ⟨M + 3, 0, none⟩ = some vd' := cell_of_block hnew.dbox 0
      have HDL : Hid (dn'.length ≤ 900000) := Lib.hid (by have := HDN'.out; omega)
      go_wp2_with (at_builtin; refine wpList_append_lies _ rfl (.tmp 58) (.tmp 60) 22 rfl (M + 7) 3 i0 (.int .i64 0) 1 8 Try.underlying22 HI.out.1 HI.out.2.1 HI.out.2.2.1 HI.out.2.2.2 rfl (by decide) vd' _ _ rfl (hnew.ownD.alloc _) ⟨w1.heap.size, 0, none⟩ 1 1 [.int .i64 b] rfl rfl ?c1 ?c2 ?c0 ?c3 ?c4 ?c5 (w1.heap.size + 1) ?c6 ?_)
      case c1 => exact news_one_add w1 _ _ rfl
      case c2 => exact ints_oneCell .i64 [(b : Int)]
      case c0 => omega
      case c3 => have := HDL.out; unfold maxLen; omega
      case c4 => have := HDL.out; omega
      case c5 => simp; omega
      case c6 => simp
      intro g2 cap2 w2 hown2 hgrow hloc hlt
      have hk : ∀ k, k < w1.heap.size → some k ≠ vd'.ownBlock → w2.heap[k]? = w1.heap[k]? := fun k hk hne => (hgrow.block k (by simp; omega) hne).trans (Below.heap_alloc _ _ _ hk)
      have hlow : ∀ k, k < M + 7 → w2.heap[k]? = w1.heap[k]? := fun k hk' => hk k (by omega) (fun e => by have := (hnew.ownD.lt k e.symm).1; omega)
      have hfin := hnew.done_ (dn' := dn' ++ [b]) (vd' := .slice (some ⟨g2, 0, none⟩) (dn'.length + 1) cap2) hlow (fun x hx => hk x (hnew.ownO.lt x hx).2 (fun e => by
          rcases hnew.apart with h | h
          · rw [h] at hx; cases hx
          · exact h (hx.trans e))) (by simpa [zs] using hown2) (by
        right
        intro e
        have hgo : (Value.slice (some ⟨g, 0, none⟩) op.length cap).ownBlock = some g2 := e
        rcases hloc with h | h
        · rcases hnew.apart with h2 | h2
          · rw [h2] at hgo; cases hgo
          · exact h2 (hgo.trans h.symm)
        · have := (hnew.ownO.lt g2 hgo).2; omega)
      have d3 : w2.cell? ⟨M + 3, 0, none⟩ = some vd' := (World.cell?_of_block (a := ⟨M + 3, 0, none⟩) (hlow (M + 3) (by omega))).trans c3
      have f3 : w2.frozen? ⟨M + 3, 0, none⟩ = false := free_of_block ((hlow (M + 3) (by omega)).trans hnew.dbox) 0
      have hbb2 : BB M G w w2 := ((HBB.out.trans hb1).alloc (by omega) _).grown hgrow (by simp; omega) (fun k hk => .inr (by have := (hnew.ownD.lt k hk).1; omega))
      have HN := Lib.hid hfin
      have HB2 := Lib.hid hbb2
      clear hown2 hgrow hloc hk hlow hfin hbb2 hnew c3 hb1
      go_wp2_with fail
      go_end0
      refine ⟨rfl, R', V', .slice (some ⟨g, 0, none⟩) op.length cap, .slice (some ⟨g2, 0, none⟩) (dn'.length + 1) cap2, ?_, ?_, HOLD.out, HB2.out.setCell (.inr (by show M ≤ M + 3; omega)) _⟩
      · rw [← HREST.out, rest_nil]; exact HN.out
      · rw [← HREST.out, rest_nil]; exact HUN'.out
    | cons t l' =>
      obtain ⟨A', c', hcut, hs'⟩ := cut_first (x := (t : Int)) (xs := zs l') hs
      obtain ⟨b1, o1, x, rfl, hx, hxb, hxc, hx64⟩ := hs.at_ (k := 0) (by simp [zs])
      obtain rfl : x = (t : Int) := by have := hx.out; simp [zs] at this; exact this.symm
      rw [Nat.zero_mul, Nat.add_zero] at hxc
      rw [zs_len] at hcut
      have hfr := hw.nrow.frozen b
      have htn : t < n := hw.inR b hb t (by rw [hR]; simp)
      obtain ⟨w1, hw1⟩ : ∃ w1, w1 = (wr.setCell ⟨G, b, none⟩ (.slice A' l'.length c')).drew := ⟨_, rfl⟩
      have hnew : BW w1 M G n S' (fun x => if x = b then l' else R' x) (fun x => if x = b then .slice A' l'.length c' else V' x) (op ++ [b]) dn' vo' vd' := by
        rw [hw1]; exact (hw.next_ (b := b) (l := l') (A := A') (c := c') (fun y hy => hw.inR b hb y (by rw [hR]; simp [hy])) hs').drewN 1
      have hb1 : BB M G wr w1 := by rw [hw1]; exact ((BB.refl M G wr).setCell (.inl rfl) _).drew
      have hz1 : M + 6 < w1.heap.size := by rw [hw1]; simpa [World.drew] using hM
      have HLN : Hid (lenAt G b wr = l'.length + 1) := Lib.hid (lenAt_of hrow)
      simp only [List.length_cons] at hrow hlen
      have hbn : (b : Int) < n := by omega
      have hb0 : (0 : Int) ≤ b := by omega
      have hc0 : (0 : Int) < ((l'.length : Int) + 1) := by omega
      clear hw hs hv hs' hx hxb
      go_upto_region 3 with fail
      go_still_tail 8, (by kernel_rfl)
      change wpList _ _ _ _ _ wr.drew
      go_upto_region 4 with fail
      rw [← hw1]
      clear hw1 hrow hnb hfr hcut hxc hlen hM
      have HNEW := Lib.hid hnew
      have HBB1 : Hid (BB M G w w1) := Lib.hid (HBB.out.trans hb1)
      have hgb : w1.cell? ⟨M + 2, 0, none⟩ = some (.slice (some ⟨M + 1, 0, none⟩) n n) := cell_of_block hnew.gbox 0
      have hgt := hnew.grow.cell htn
      have ht0 : (0 : Int) ≤ t := by omega
      have ht1 : (t : Int) < n := by omega
      cases hst : S' t
      · rw [hst] at hgt
        have HST := Lib.hid hst
        have heb : w1.cell? ⟨M + 5, 0, none⟩ = some (.func (.func 83) #[] #[.pointer (some ⟨M + 2, 0, none⟩), .pointer (some ⟨M + 4, 0, none⟩)]) := cell_of_block hnew.ebox 0
        have hpos : 0 < unseen n S' := unseen_pos hst htn
        have hopl : (op ++ [b]).length ≤ 1000000 := by simp; omega
        obtain ⟨F', hF'⟩ : ∃ F', F = F' + 1 := ⟨F - 1, by have := HF'.out; omega⟩
        have HFF := Lib.hid hF'
        have HPOS := Lib.hid hpos
        have HOPL := Lib.hid hopl
        clear hst hpos hF' hnew hb1 hopl
        go_wp2_with fail
        refine (enterG_any M G n t _ _ _ _ _ _ _ w1 HNEW.out htn hn HOPL.out).mono ?_
        rintro e w2 ⟨rfl, ⟨vo2, hw2⟩, hbb2⟩
        have hrb : w2.cell? ⟨M + 6, 0, none⟩ = some (.func (.func 84) #[] #[.pointer (some ⟨M, 0, none⟩), .pointer (some ⟨M + 2, 0, none⟩), .pointer (some ⟨M + 5, 0, none⟩), .pointer (some ⟨M + 6, 0, none⟩), .pointer (some ⟨M + 4, 0, none⟩), .pointer (some ⟨M + 3, 0, none⟩)]) := cell_of_block hw2.rbox 0
        have HW2 := Lib.hid hw2
        have HBB2 : Hid (BB M G w w2) := Lib.hid (HBB1.out.trans hbb2)
        clear hgt hgb heb hw2 hbb2
        have htb : t ≠ b := fun e => by have h1 := HST.out; rw [e, HSB'.out] at h1; cases h1
        have HTB := Lib.hid htb
        have hum := unseen_mark HST.out htn
        have HC : Hid (Calls Try.prog 84 #[.int .i64 t, .int .i64 ((deep : Int) + 1), .pointer (some ⟨M, 0, none⟩), .pointer (some ⟨M + 2, 0, none⟩), .pointer (some ⟨M + 5, 0, none⟩), .pointer (some ⟨M + 6, 0, none⟩), .pointer (some ⟨M + 4, 0, none⟩), .pointer (some ⟨M + 3, 0, none⟩)] w2 (ToldG M G n nx t (mark S' t) (fun x => if x = b then l' else R' x) (op ++ [b]) (rest nx F' t (nx t) ⟨mark S' t, dn'⟩) w2)) := Lib.hid (by
          have := HIH.out F' HFF.out t (deep + 1) (nx t) (mark S' t) (fun x => if x = b then l' else R' x) _ (op ++ [b]) dn' vo2 vd' w2 HW2.out htn (mark_same _ _) (by rw [if_neg htb]; exact HUN'.out t htn HST.out)
            (fun x hx hm => by
              have hxs : S' x = false := by
                cases h : S' x
                · rfl
                · rw [mark_of h] at hm; cases hm
              rw [if_neg (fun e => by rw [e, HSB'.out] at hxs; cases hxs)]; exact HUN'.out x hx hxs)
            (by have := HF'.out; have := HFF.out; omega) (by have := HFF.out; omega) (by have := HFF.out; simp; omega) (by have := HDN'.out; omega)
          rwa [show (((deep + 1 : Nat) : Int)) = (deep : Int) + 1 by push_cast; rfl] at this)
        have HVIS : Hid (rest nx F' t (nx t) ⟨mark S' t, dn'⟩ = visit nx F t ⟨S', dn'⟩) := Lib.hid (by rw [HFF.out, visit_succ])
        clear htb hum
        go_wp2_with fail
        refine HC.out.mono ?_
        rintro e w3 ⟨rfl, R'', V'', vo'', vd'', hw3, hun3, hold3, hbb3⟩
        have HLV := Lib.hid (len_visit hnx F t ⟨S', dn'⟩ htn HST.out HF'.out)
        have HGV : Hid (∀ x, S' x = true → (visit nx F t ⟨S', dn'⟩).seen x = true) := Lib.hid (by
          obtain ⟨e, he, _⟩ := went_visit hnx F t ⟨S', dn'⟩ htn HST.out HF'.out
          exact he.grows)
        rw [← HVIS.out] at HLV HGV
        have HVIS2 : Hid (rest nx F b l' (rest nx F' t (nx t) ⟨mark S' t, dn'⟩) = rest nx F b l ⟨S, dn⟩) := Lib.hid (by rw [← HREST.out, rest_new _ _ _ _ _ _ HST.out, HVIS.out])
        generalize rest nx F' t (nx t) ⟨mark S' t, dn'⟩ = s' at *
        have HUN3 := Lib.hid hun3
        have HOLD3 := Lib.hid hold3
        have HBB3 := Lib.hid hbb3
        have HW3 := Lib.hid hw3
        obtain ⟨g3, cap3, hvo3, hlast3, hcap3, hcm3, -, -⟩ := own_pop hw3.ownO
        subst hvo3
        have hob : w3.cell? ⟨M + 4, 0, none⟩ = some (.slice (some ⟨g3, 0, none⟩) (op.length + 1) cap3) := cell_of_block hw3.obox 0
        have hbb' : ((b : Int) != b) = false := by simp
        have hop0 : op.length < 1000000 := by omega
        have hRb : R'' b = l' := by
          have := HOLD3.out b hb (mark_of HSB'.out) (fun e => HTB.out e.symm)
          rw [this]; simp
        have HRB := Lib.hid hRb
        have hln : Hid (lenAt G b w3 < lenAt G b wr) := Lib.hid (by
          obtain ⟨A3, c3, e3, -⟩ := hw3.lists b hb
          have h1 := hw3.nrow.cell hb
          rw [e3, hRb] at h1
          rw [HLN.out, lenAt_of h1]; omega)
        clear hw3 hun3 hold3 hbb3 hrb hRb HC
        go_wp2_with fail
        go_roundw
        case rel => exact ⟨l', s'.seen, R'', V'', _, vd'', s'.out, HW3.out, HRB.out, HGV.out b HSB'.out, HUN3.out, by have := HLV.out.2; omega, by have := HLV.out.1; have := HDN'.out; exact Nat.le_trans (Nat.le_of_eq HLV.out.1) HDN'.out, HVIS2.out,
          fun x hx h1 h2 => by
            rw [HOLD3.out x hx (mark_of (HGROW.out x h1)) (fun e => by have h3 := HST.out; rw [← e, HGROW.out x h1] at h3; cases h3), if_neg h2]; exact HOLD.out x hx h1 h2,
          fun x h1 => HGV.out x (HGROW.out x h1), HBB2.out.trans HBB3.out⟩
        case measure => exact hln.out
      · rw [hst] at hgt
        have HST := Lib.hid hst
        have hln : Hid (lenAt G b w1 < lenAt G b wr) := Lib.hid (by
          have h1 := hnew.nrow.cell hb
          simp only [if_true] at h1
          rw [HLN.out, lenAt_of h1]; omega)
        have HREST2 : Hid (rest nx F b l' ⟨S', dn'⟩ = rest nx F b l ⟨S, dn⟩) := Lib.hid (by rw [← HREST.out, rest_seen _ _ _ _ _ _ hst])
        clear hst hnew hb1
        go_wp2_with fail
        go_roundw
        case rel => exact ⟨l', S', _, _, vo', vd', dn', HNEW.out, by simp, HSB'.out, fun x hx hs => by
            rw [if_neg (fun e => by rw [e, HSB'.out] at hs; cases hs)]; exact HUN'.out x hx hs, HF'.out, HDN'.out, HREST2.out, fun x hx h1 h2 => by rw [if_neg h2]; exact HOLD.out x hx h1 h2, HGROW.out, HBB1.out⟩
        case measure => exact hln.out

theorem goOn_any (M G n : Nat) (nx : Nat → List Nat) (hn : n ≤ 1000000) (hnx : ∀ x, ∀ t ∈ nx x, t < n) : ∀ F : Nat, GoOn M G n F nx
  | 0 => goOn_step M G n 0 nx hn hnx (fun F' h => by omega)
  | F + 1 => goOn_step M G n (F + 1) nx hn hnx (fun F' h => by obtain rfl : F = F' := by omega
                                                               exact goOn_any M G n nx hn hnx F)
end Go.Proofs.Ytflbooopgjgkbaa

/- The program's backwards, Order, Reached. -/
namespace Go.Proofs.Ytflbooopgjgkbaa
open Go.ChangeShapes Go.WideShapes Go.RowKit Go.Deep
set_option linter.unusedVariables false

theorem Try.info4 : (Try.prog.info? 4).map (fun i => (i.zero, i.size, i.bytes)) = some (some (.bool false), 1, 1) := by kernel_rfl
/-- A row that the call owns, as a list that lies in its blocks. -/
theorem slB_of_own {w : World} {base : Nat} {v : Value} {xs : List Int} (h : w.ownsRow base 3 1 v xs.length (xs.map (Value.int .i64))) (hx : ∀ x ∈ xs, I64 x) {B : Nat → Prop} (hB : ∀ g, base ≤ g → g < w.heap.size → B g) :
    ∃ A c, v = .slice A xs.length c ∧ SL w 1 (RIntB B) A c xs := by
  obtain ⟨A, c, e, hs⟩ := vs_of_own h hx
  obtain ⟨h1, h2, h3⟩ := hs
  refine ⟨A, c, e, h1, h2, fun hp => ?_⟩
  obtain ⟨b, o, e2, hr⟩ := h3 hp
  have hl := h.lt b (by rw [e, e2]; rfl)
  exact ⟨b, o, e2, fun i x hi => ⟨hB b hl.1 hl.2, hr i x hi⟩⟩

/-- Seven new blocks. -/
theorem boxes7 (w : World) (M : Nat) (hM : M = w.heap.size) (o0 o1 o2 o3 o4 o5 o6 : Obj) (W : World) (hW : W = ((((((w.alloc o0).alloc o1).alloc o2).alloc o3).alloc o4).alloc o5).alloc o6) :
    W.heap[M]? = some o0 ∧ W.heap[M + 1]? = some o1 ∧ W.heap[M + 2]? = some o2 ∧ W.heap[M + 3]? = some o3 ∧ W.heap[M + 4]? = some o4 ∧ W.heap[M + 5]? = some o5 ∧ W.heap[M + 6]? = some o6 ∧ W.heap.size = M + 7 ∧ Below M w W := by
  subst hM hW
  have hz (u : World) (o : Obj) : (u.alloc o).heap.size = u.heap.size + 1 := by simp
  have hg (u : World) (o : Obj) (k : Nat) : (u.alloc o).heap[k]? = if k = u.heap.size then some o else u.heap[k]? := by
    show (u.heap.push o)[k]? = _
    rw [Array.getElem?_push]
  refine ⟨?_, ?_, ?_, ?_, ?_, ?_, ?_, ?_, ?_⟩
  · simp only [hg, hz]; repeat rw [if_neg (by omega)]
    exact if_pos (by first | trivial | omega)
  · simp only [hg, hz]; repeat rw [if_neg (by omega)]
    exact if_pos (by first | trivial | omega)
  · simp only [hg, hz]; repeat rw [if_neg (by omega)]
    exact if_pos (by first | trivial | omega)
  · simp only [hg, hz]; repeat rw [if_neg (by omega)]
    exact if_pos (by first | trivial | omega)
  · simp only [hg, hz]; repeat rw [if_neg (by omega)]
    exact if_pos (by first | trivial | omega)
  · simp only [hg, hz]; repeat rw [if_neg (by omega)]
    exact if_pos (by first | trivial | omega)
  · simp only [hg, hz]; repeat rw [if_neg (by omega)]
    exact if_pos (by first | trivial | omega)
  · simp [hz]
  · refine (((((((Below.refl _ w).alloc ?_ _).alloc ?_ _).alloc ?_ _).alloc ?_ _).alloc ?_ _).alloc ?_ _).alloc ?_ _
    all_goals (simp [hz]; try omega)
theorem doneL_rest (nx : Nat → List Nat) {n : Nat} (hn : n ≠ 0) : rest nx (n - 1) 0 (nx 0) ⟨mark noneSeen 0, []⟩ = visit nx n 0 ⟨noneSeen, []⟩ := by
  obtain ⟨m, rfl⟩ : ∃ m, n = m + 1 := ⟨n - 1, by omega⟩
  rfl
theorem doneL_out (nx : Nat → List Nat) {n : Nat} (hn : n ≠ 0) : doneL nx n = (visit nx n 0 ⟨noneSeen, []⟩).out := by unfold doneL; rw [if_neg hn]

set_option maxRecDepth 100000 in
set_option maxHeartbeats 8000000 in
theorem backwards_any (G K n : Nat) (V : Nat → Value) (nx : Nat → List Nat) (w : World) (h : Gri w G K n V (fun i => zs (nx i))) (hn : n ≤ 1000) (hnx : ∀ x, ∀ t ∈ nx x, t < n) :
    Calls Try.prog 63 #[.slice (some ⟨G, 0, none⟩) n n] w fun e w' => (∃ vd, e = .returned vd ∧ w'.ownsRow w.heap.size 3 1 vd (doneL nx n).length ((zs (doneL nx n)).map (Value.int .i64))) ∧ BB w.heap.size G w w' := by
  by_cases hn0 : n = 0
  · subst hn0
    have e : doneL nx 0 = [] := rfl
    rw [e]
    go_enter Try.func63, Try.ntmps63
    go_wp2_with fail
    go_ret
    exact ⟨⟨_, rfl, World.ownsRow_nil _ _ _ _⟩, (BB.refl _ _ _).alloc (Nat.le_refl _) _⟩
  · have hpos : 0 < n := by omega
    have hne : ((n : Int) == 0) = false := by simp; omega
    have hmf : ∀ (fn : Fn) (first cap : Array Value) (w : World), (Instr.makeFunc fn first cap).run Try.prog w = .ok (.func fn first cap) w := fun _ _ _ _ => rfl
    have hmk := run_make_row' (P := Try.prog) 46 4 (.bool false) 1 Try.underlying46 Try.info4 rfl .i64 .i64 n (by omega) (by omega)
    clear hn0
    go_enter Try.func63, Try.ntmps63
    go_upto_region 8 with fail
    clear hmk hmf
    obtain ⟨M, hM⟩ : ∃ M, M = w.heap.size := ⟨_, rfl⟩
    rw [← hM]
    obtain ⟨W, hW⟩ : ∃ W, W = ((((((w.alloc (.cells #[.slice (some ⟨G, 0, none⟩) n n] 68)).alloc (.cells (madeCells #[.bool false] n) 4)).alloc (.cells #[.slice (some ⟨M + 1, 0, none⟩) n n] 46)).alloc (.cells #[.slice none 0 0] 22)).alloc (.cells #[.slice none 0 0] 22)).alloc
      (.cells #[.func (.func 83) #[] #[.pointer (some ⟨M + 1 + 1, 0, none⟩), .pointer (some ⟨M + 1 + 1 + 1 + 1, 0, none⟩)]] 135)).alloc
      (.cells #[.func (.func 84) #[] #[.pointer (some ⟨M, 0, none⟩), .pointer (some ⟨M + 1 + 1, 0, none⟩), .pointer (some ⟨M + 1 + 1 + 1 + 1 + 1, 0, none⟩), .pointer (some ⟨M + 1 + 1 + 1 + 1 + 1 + 1, 0, none⟩), .pointer (some ⟨M + 1 + 1 + 1 + 1, 0, none⟩), .pointer (some ⟨M + 1 + 1 + 1, 0, none⟩)]] 108) := ⟨_, rfl⟩
    rw [← hW]
    obtain ⟨b0, b1, b2, b3, b4, b5, b6, hsz, hbel⟩ := boxes7 w M hM _ _ _ _ _ _ _ W hW
    clear hW
    have hGM : G < M := by rw [hM]; exact h.row.lt
    have hbw : BW W M G n noneSeen nx V [] [] (.slice none 0 0) (.slice none 0 0) := by
      refine ⟨b0, b2, b3, b4, b5, b6, ⟨_, b1, size_madeCells _ _, fun i hi => ?_⟩, h.row.of_block (hbel.block G hGM), fun x hx => ?_, World.ownsRow_nil _ _ _ _, World.ownsRow_nil _ _ _ _, .inl rfl, fun x _ => hnx x, hGM⟩
      · simp [madeCells, hi, Nat.mod_one, noneSeen]
      · have hg := h.below (w' := W) (by rw [← hM]; exact hbel)
        obtain ⟨A, c, e, hs⟩ := slB_of_own (h.own x hx) (fun y hy => by obtain ⟨q, hq, rfl⟩ := zs_mem hy; have := hnx x q hq; unfold I64; omega) (B := fun b => b < M ∧ b ≠ G) (fun g h1 h2 => ⟨by omega, fun e => by have := h.lt; omega⟩)
        rw [zs_len] at e
        exact ⟨A, c, e, SIntsB.go (fun a v hb ha => (World.cell?_of_block (hbel.block _ hb.1)).trans ha) (fun _ hb => hb) hs⟩
    have HBEL : Hid (BB M G w W) := Lib.hid (BB.of_below hbel (Nat.le_refl _))
    have heb : W.cell? ⟨M + 1 + 1 + 1 + 1 + 1, 0, none⟩ = some (.func (.func 83) #[] #[.pointer (some ⟨M + 1 + 1, 0, none⟩), .pointer (some ⟨M + 1 + 1 + 1 + 1, 0, none⟩)]) := cell_of_block b5 0
    have HE := Lib.hid (enterG_any M G n 0 noneSeen nx V [] [] _ _ W hbw hpos (by omega) (by simp))
    have HMW := Lib.hid hM
    clear b0 b1 b2 b3 b4 b5 b6 hsz hbel hbw hM
    go_wp2_with fail
    refine HE.out.mono ?_
    rintro e w2 ⟨rfl, ⟨vo, hw2⟩, hbb2⟩
    have HB2 : Hid (BB M G w w2) := Lib.hid (HBEL.out.trans hbb2)
    have HW2 := Lib.hid hw2
    clear heb HE HBEL hw2 hbb2
    go_wp2_with fail
    go_loopw [] (fun wr => ((∃ vo vd, BW wr M G n (mark noneSeen 0) nx V [0] [] vo vd) ∨ (∃ S R V' vo vd, BW wr M G n S R V' [] (doneL nx n) vo vd)) ∧ BB M G w wr) (fun wr => lenAt (M + 4) 0 wr)
    case atStart => exact ⟨.inl ⟨_, _, HW2.out⟩, HB2.out⟩
    case round =>
      obtain ⟨hor, hbb⟩ := hrel
      have HBB := Lib.hid hbb
      clear hbb HW2 HB2
      rcases hor with ⟨vo, vd, hw⟩ | ⟨S, R, V', vo, vd, hw⟩
      · have HW := Lib.hid hw
        obtain ⟨g, cap, hvo, hlast, hcap, hcm, -, -⟩ := own_pop (xs := []) (x := 0) hw.ownO
        subst hvo
        have hob : wr.cell? ⟨M + 1 + 1 + 1 + 1, 0, none⟩ = some (.slice (some ⟨g, 0, none⟩) 1 cap) := cell_of_block hw.obox 0
        have hrb : wr.cell? ⟨M + 1 + 1 + 1 + 1 + 1 + 1, 0, none⟩ = some (.func (.func 84) #[] #[.pointer (some ⟨M, 0, none⟩), .pointer (some ⟨M + 1 + 1, 0, none⟩), .pointer (some ⟨M + 1 + 1 + 1 + 1 + 1, 0, none⟩), .pointer (some ⟨M + 1 + 1 + 1 + 1 + 1 + 1, 0, none⟩), .pointer (some ⟨M + 1 + 1 + 1 + 1, 0, none⟩), .pointer (some ⟨M + 1 + 1 + 1, 0, none⟩)]) := cell_of_block hw.rbox 0
        have hob' : wr.cell? ⟨M + 4, 0, none⟩ = some (.slice (some ⟨g, 0, none⟩) 1 cap) := hob
        have hrb' : wr.cell? ⟨M + 6, 0, none⟩ = some (.func (.func 84) #[] #[.pointer (some ⟨M, 0, none⟩), .pointer (some ⟨M + 1 + 1, 0, none⟩), .pointer (some ⟨M + 1 + 1 + 1 + 1 + 1, 0, none⟩), .pointer (some ⟨M + 1 + 1 + 1 + 1 + 1 + 1, 0, none⟩), .pointer (some ⟨M + 1 + 1 + 1 + 1, 0, none⟩), .pointer (some ⟨M + 1 + 1 + 1, 0, none⟩)]) := hrb
        have hl0 : wr.cell? ⟨g, 0, none⟩ = some (.int .i64 0) := hlast
        have hun := unseen_mark (S := noneSeen) (b := 0) rfl hpos
        have hul := unseen_le n noneSeen
        have HG := Lib.hid (goOn_any M G n nx (by omega) hnx (n - 1) 0 0 (nx 0) (mark noneSeen 0) nx V [] [] _ _ wr.drew (hw.drewN 1) hpos (mark_same _ _) rfl (fun _ _ _ => rfl) (by omega) (by omega) (by simp; omega) (by simp; omega))
        have HL : Hid (lenAt (M + 4) 0 wr = 1) := Lib.hid (lenAt_of hob)
        clear hw hlast hun hul
        go_upto_region 10 with fail
        have hw0 : IntKind.i64.wrap (0 : Int) = 0 := by decide
        go_still_tail 7, (by kernel_rfl)
        change wpList _ _ _ _ _ wr.drew
        go_wp2_with fail
        refine HG.out.mono ?_
        rintro e w3 ⟨rfl, R', V', vo', vd', hw3, -, -, hbb3⟩
        rw [doneL_rest nx (by omega), ← doneL_out nx (by omega)] at hw3
        have HW3 := Lib.hid hw3
        have HM : Hid (lenAt (M + 4) 0 w3 < lenAt (M + 4) 0 wr) := Lib.hid (by
          rcases hw3.ownO.2 with ⟨e, _⟩ | ⟨g3, c3, cur3, e, _⟩
          · have h1 : w3.cell? ⟨M + 4, 0, none⟩ = some vo' := cell_of_block hw3.obox 0
            rw [e] at h1
            rw [HL.out, lenAt_of h1]; omega
          · have h1 : w3.cell? ⟨M + 4, 0, none⟩ = some vo' := cell_of_block hw3.obox 0
            rw [e] at h1
            rw [HL.out, lenAt_of h1]; simp)
        have HB3 : Hid (BB M G w w3) := Lib.hid (HBB.out.trans ((BB.refl M G wr).drew.trans hbb3))
        clear hw3 hbb3 hob hrb hob' hrb' hl0 HG
        go_wp2_with fail
        go_roundw
        case rel => exact ⟨.inr ⟨_, _, _, _, _, HW3.out⟩, HB3.out⟩
        case measure => exact HM.out
      · have HW := Lib.hid hw
        have h1 : wr.cell? ⟨M + 1 + 1 + 1 + 1, 0, none⟩ = some vo := cell_of_block hw.obox 0
        have h2 : wr.cell? ⟨M + 1 + 1 + 1, 0, none⟩ = some vd := cell_of_block hw.dbox 0
        have hown := own_base hw.ownD (base' := M) (by omega)
        have hvo : ∃ A c, vo = .slice A 0 c := by
          rcases hw.ownO.2 with ⟨e, _⟩ | ⟨g3, c3, cur3, e, _⟩
          · exact ⟨_, _, e⟩
          · exact ⟨_, _, e⟩
        obtain ⟨A, c, rfl⟩ := hvo
        have HO := Lib.hid hown
        clear hw hown
        go_wp2_with fail
        go_ret
        exact ⟨⟨_, rfl, by rw [← HMW.out]; exact HO.out⟩, by rw [← HMW.out]; exact HBB.out⟩
end Go.Proofs.Ytflbooopgjgkbaa
