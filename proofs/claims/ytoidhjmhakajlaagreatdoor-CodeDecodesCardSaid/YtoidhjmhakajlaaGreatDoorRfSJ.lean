/- The reference's reader: its state; amiss, raw, num, sign, many. -/
import Derived.Test.YtoidhjmhakajlaaGreatDoorRfNJ
import Derived.Test.YtoidhjmhakajlaaGreatDoorRlJ
import Derived.Deep.Cut
import Derived.Deep.DeepCutAuto
namespace Go.Proofs.YtoidhjmhakajlaaGreatDoor
open Go.ChangeShapes Go.WideShapes Go.RowKit Go.Deep
set_option linter.unusedVariables false

/-! ### A number's bytes, from the last one on -/
/-- How many bytes there are ahead of the first that is below 128. -/
def hiN : List UInt8 → Nat
  | [] => 0
  | c :: r => if 128 ≤ c.toNat then hiN r + 1 else 0
def valN : List UInt8 → Nat → Nat
  | [], _ => 0
  | c :: _, 0 => c.toNat % 128
  | c :: r, n + 1 => c.toNat % 128 + 128 * valN r n
theorem hi_le : ∀ l : List UInt8, hiN l ≤ l.length
  | [] => Nat.le_refl _
  | c :: r => by
    unfold hiN; have := hi_le r
    split <;> simp <;> omega
theorem hi_step : ∀ {l : List UInt8} {n : Nat} {c : UInt8}, n ≤ hiN l → l[n]? = some c → (128 ≤ c.toNat → n + 1 ≤ hiN l) ∧ (c.toNat < 128 → hiN l = n)
  | [], _, _, _, h => by simp at h
  | d :: r, 0, c, _, h => by
    obtain rfl : d = c := Option.some.inj h
    unfold hiN
    split
    · exact ⟨fun _ => by omega, fun h => by omega⟩
    · exact ⟨fun h => by omega, fun _ => rfl⟩
  | d :: r, n + 1, c, hn, h => by
    unfold hiN at hn ⊢
    split at hn
    · rename_i hd
      rw [if_pos hd]
      have := hi_step (l := r) (n := n) (c := c) (by omega) (by simpa using h)
      exact ⟨fun hc => by have := this.1 hc; omega, fun hc => by have := this.2 hc; omega⟩
    · omega
theorem lead_hi : ∀ (l : List UInt8) (i : Nat), leadK i l = if hiN l < l.length ∧ i + hiN l ≤ 9 ∧ ¬ ((0 < i + hiN l ∧ (l.getD (hiN l) 0).toNat = 0) ∨ (i + hiN l = 9 ∧ 1 < (l.getD (hiN l) 0).toNat)) then some (valN l (hiN l), hiN l + 1) else none
  | [], i => by simp [leadK]
  | c :: r, i => by
    unfold leadK
    by_cases h9 : 9 < i
    · rw [if_pos h9, if_neg (by omega)]
    rw [if_neg h9]
    by_cases hc : 128 ≤ c.toNat
    · have e : hiN (c :: r) = hiN r + 1 := by show (if 128 ≤ c.toNat then hiN r + 1 else 0) = _; rw [if_pos hc]
      have ev : valN (c :: r) (hiN r + 1) = c.toNat % 128 + 128 * valN r (hiN r) := rfl
      have hlt : c.toNat < 256 := by have := c.toNat_lt; omega
      have e3 : c.toNat % 128 = c.toNat - 128 := by omega
      rw [if_pos hc, lead_hi r (i + 1), e, ev, e3]
      have e2 : (c :: r).getD (hiN r + 1) 0 = r.getD (hiN r) 0 := by simp [List.getD_cons_succ]
      rw [e2, show i + 1 + hiN r = i + (hiN r + 1) by omega]
      by_cases hq : hiN r < r.length ∧ i + (hiN r + 1) ≤ 9 ∧ ¬ ((0 < i + (hiN r + 1) ∧ (r.getD (hiN r) 0).toNat = 0) ∨ (i + (hiN r + 1) = 9 ∧ 1 < (r.getD (hiN r) 0).toNat))
      · rw [if_pos hq, if_pos ⟨by simpa using hq.1, hq.2⟩]; rfl
      · rw [if_neg hq, if_neg (fun h => hq ⟨by simpa using h.1, h.2⟩)]; rfl
    · have e : hiN (c :: r) = 0 := by show (if 128 ≤ c.toNat then hiN r + 1 else 0) = _; rw [if_neg hc]
      have ev : valN (c :: r) 0 = c.toNat % 128 := rfl
      rw [if_neg hc, e, ev, Nat.mod_eq_of_lt (by omega)]
      simp only [List.getD_cons_zero, Nat.add_zero]
      by_cases hq : (c.toNat = 0 ∧ 0 < i) ∨ (i = 9 ∧ 1 < c.toNat)
      · rw [if_pos hq, if_neg (fun h => h.2.2 (by rcases hq with h | h; exact .inl ⟨h.2, h.1⟩; exact .inr h))]
      · rw [if_neg hq, if_pos ⟨by simp, by omega, fun h => hq (by rcases h with h | h; exact .inl ⟨h.2, h.1⟩; exact .inr h)⟩]
/-- What was gathered of the bytes from j on. -/
def accN (l : List UInt8) (n j : Nat) : Nat := if j ≤ n then valN (l.drop j) (n - j) else 0
theorem acc_step {l : List UInt8} {n i : Nat} {c : UInt8} (hi : i ≤ n) (h : l[i]? = some c) : accN l n i = accN l n (i + 1) * 128 + c.toNat % 128 := by
  have hd : l.drop i = c :: l.drop (i + 1) := by
    have hl := (List.getElem?_eq_some_iff.1 h)
    rw [List.drop_eq_getElem_cons hl.1, hl.2]
  unfold accN
  rw [if_pos hi, hd]
  by_cases hin : i = n
  · subst hin
    rw [Nat.sub_self, if_neg (by omega)]
    show c.toNat % 128 = _
    omega
  · rw [if_pos (by omega), show n - i = (n - (i + 1)) + 1 by omega]
    show c.toNat % 128 + 128 * valN (l.drop (i + 1)) (n - (i + 1)) = _
    omega
theorem acc_le {l : List UInt8} {n : Nat} (hn : n < l.length) : ∀ j, j ≤ n + 1 → accN l n j ≤ accN l n 0 := by
  intro j
  induction j with
  | zero => intro _; exact Nat.le_refl _
  | succ j ih =>
    intro hj
    have h := acc_step (l := l) (n := n) (i := j) (by omega) (List.getElem?_eq_getElem (by omega))
    have := ih (by omega)
    omega

/-! ### The state -/
/-- The reference's reader in block R is in state s. -/
def StF (bs : List UInt8) (s : St) (pos : Nat) (bad at_ : Int) : Prop :=
  match s with
  | .ok r => bad = 0 ∧ bs.drop pos = r
  | .bad c n => bad = c ∧ (c = 2 ∨ c = 5) ∧ ∃ pl : Nat, at_ = pl ∧ pl ≤ bs.length ∧ n = bs.length - pl
def Rf (bs : List UInt8) (R : Nat) (w : World) (s : St) : Prop :=
  ∃ A c pos bad at_, w.heap[R]? = some (.cells #[.slice A bs.length c, .int .i64 (pos : Nat), .int .i64 bad, .int .i64 at_] 82 (0, 0)) ∧ SL w 1 (RByteB (· < R)) A c bs ∧ pos ≤ bs.length ∧ StF bs s pos bad at_
theorem Rf.lt {bs : List UInt8} {R : Nat} {w : World} {s : St} (h : Rf bs R w s) : R < w.heap.size := by
  obtain ⟨_, _, _, _, _, h1, _⟩ := h
  exact block_lt h1
theorem Rf.keep {bs : List UInt8} {R : Nat} {w w' : World} {s : St} (h : Rf bs R w s) (hk : ∀ k, k < w.heap.size → k ≤ R → w'.heap[k]? = w.heap[k]?) : Rf bs R w' s := by
  have hl := h.lt
  obtain ⟨A, c, pos, bad, at_, h1, h2, h3, h4⟩ := h
  exact ⟨A, c, pos, bad, at_, (hk R hl (Nat.le_refl _)).trans h1, bytes_keep h2 (fun k hk1 hk2 => hk k hk1 (by omega)), h3, h4⟩
theorem Rf.below {bs : List UInt8} {R : Nat} {w w' : World} {s : St} (h : Rf bs R w s) (hb : Below w.heap.size w w') : Rf bs R w' s :=
  h.keep (fun k hk _ => hb.block k hk)
/-- What a function of the reference's reader tells. -/
def ToldQ {α : Type} (bs : List UInt8) (R : Nat) (p : Pr α) (V : (Nat → Prop) → World → Value → α → Prop) (w : World) (s : St) (e : Ending) (w' : World) : Prop :=
  ∃ v x s', e = .returned v ∧ V (fun b => w.heap.size ≤ b) w' v x ∧ ToldS p s x s' ∧ Rf bs R w' s' ∧ BB w.heap.size R w w'
def ToldG (bs : List UInt8) (R : Nat) (w : World) (s : St) (e : Ending) (w' : World) : Prop := e = .returned (.tuple #[]) ∧ Rf bs R w' s ∧ BB w.heap.size R w w'

set_option maxRecDepth 100000 in
set_option maxHeartbeats 1000000 in
theorem amiss_any (bs : List UInt8) (R : Nat) (w : World) (s : St) (pl : Nat) (cd : Int) (hr : Rf bs R w s) (hpl : pl ≤ bs.length) (hcd : cd = 2 ∨ cd = 5) :
    Calls Tryz.prog 35 #[.pointer (some ⟨R, 0, none⟩), .int .i64 cd, .int .i64 pl] w (ToldG bs R w (failS bs s cd pl)) := by
  have hr0 := hr
  have hlt := hr.lt
  obtain ⟨A, c, pos, bad, at_, h1, h2, h3, h4⟩ := hr
  have HC := Lib.hid h1
  have HCD := Lib.hid hcd
  clear hcd
  have c2 := cell_of_block h1 2
  have c3 := cell_of_block h1 3
  have f2 := free_of_block h1 2
  have f3 := free_of_block h1 3
  clear h1
  cases s with
  | ok r =>
    obtain ⟨rfl, h5⟩ := h4
    have H5 := Lib.hid h5
    clear h5 hr0
    go_enter Tryz.func35, Tryz.ntmps35
    go_wp2_with fail
    go_end0
    have e := set_of_block (i := 3) (.int .i64 (pl : Nat)) (set_of_block (i := 2) (.int .i64 cd) HC.out)
    have hbb : BB w.heap.size R w ((w.setCell ⟨R, 2, none⟩ (.int .i64 cd)).setCell ⟨R, 3, none⟩ (.int .i64 (pl : Nat))) := ((BB.refl w.heap.size R w).setCell (p := ⟨R, 2, none⟩) (.inl rfl) _).setCell (p := ⟨R, 3, none⟩) (.inl rfl) _
    exact ⟨rfl, ⟨A, c, pos, cd, pl, e, bytes_keep h2 (fun k hk hk2 => hbb.block k hk (by omega)), h3, rfl, HCD.out, pl, rfl, hpl, rfl⟩, hbb⟩
  | bad c' n' =>
    obtain ⟨rfl, hcc, p, rfl, -⟩ := h4
    have hc0 : (bad == 0) = false := by rcases hcc with h | h <;> subst h <;> rfl
    have HR0 := Lib.hid hr0
    clear hr0 hcc
    go_enter Tryz.func35, Tryz.ntmps35
    go_wp2_with fail
    go_end0
    exact ⟨rfl, HR0.out, BB.refl _ _ _⟩

theorem byte_at {B : Nat → Prop} {w : World} {A : Option Addr} {c k : Nat} {bs : List UInt8} (h : SL w 1 (RByteB B) A c bs) (hk : k < bs.length) : ∃ b o x, A = some ⟨b, o, none⟩ ∧ Hid (bs[k]? = some x) ∧ w.cell? ⟨b, o + k, none⟩ = some (.int .u8 (x.toNat : Nat)) := by
  obtain ⟨b, o, x, e, hx, h1⟩ := h.at_ hk
  refine ⟨b, o, x, e, hx, ?_⟩
  have := h1.2
  rw [Nat.mul_one] at this
  exact this
theorem any_none {l : List UInt8} (h : leadK 0 l = none) : anyP l = .error (2, l.length) := by unfold anyP; rw [h]
theorem any_some {l : List UInt8} {n k : Nat} (h : leadK 0 l = some (n, k)) : anyP l = .ok (n, l.drop k) := by unfold anyP; rw [h]

set_option maxRecDepth 100000 in
set_option maxHeartbeats 4000000 in
/-- A number, as it is written. -/
theorem raw_any (bs : List UInt8) (R : Nat) (w : World) (s : St) (hr : Rf bs R w s) (hbl : bs.length ≤ 1000000) :
    Calls Tryz.prog 59 #[.pointer (some ⟨R, 0, none⟩)] w (ToldQ bs R anyP VU w s) := by
  have hr0 := hr
  have hlt := hr.lt
  obtain ⟨A, c, pos, bad, at_, h1, h2, h3, h4⟩ := hr
  have HC := Lib.hid h1
  have c0 := cell_of_block h1 0
  have c1 := cell_of_block h1 1
  have c2 := cell_of_block h1 2
  have f1 := free_of_block h1 1
  have H2 := Lib.hid h2
  clear h1 h2
  cases s with
  | bad c' n' =>
    obtain ⟨rfl, hcc, p, rfl, -⟩ := h4
    have hc0 : (bad != 0) = true := by rcases hcc with h | h <;> subst h <;> rfl
    have HR0 := Lib.hid hr0
    clear hr0 hcc
    go_enter Tryz.func59, Tryz.ntmps59
    go_wp2_with fail
    go_ret
    exact ⟨_, 0, _, rfl, ⟨rfl, by unfold okU; omega⟩, rfl, HR0.out, BB.refl _ _ _⟩
  | ok l =>
    obtain ⟨rfl, hd⟩ := h4
    have HD := Lib.hid hd
    have HR0 := Lib.hid hr0
    have hll : l.length = bs.length - pos := by rw [← hd, List.length_drop]
    have HLL := Lib.hid hll
    have HAM := Lib.hid (amiss_any bs R w (.ok l) pos 2 hr0 h3 (.inl rfl))
    have HXL : Hid (∀ k, l[k]? = bs[pos + k]?) := Lib.hid (fun k => by rw [← hd, List.getElem?_drop])
    have HLE := Lib.hid (hi_le l)
    clear hd hr0 hll
    go_enter Tryz.func59, Tryz.ntmps59
    go_wp2_with fail
    go_loop [4] (fun s4 => ∃ n : Nat, s4 = .int .i64 n ∧ n ≤ hiN l) (fun s4 => bs.length - (intOf s4).toNat)
    case atStart => exact ⟨0, rfl, Nat.zero_le _⟩
    case round =>
      obtain ⟨n, rfl, hn⟩ := hrel
      have hnl : pos + n ≤ bs.length := by have := HLE.out; have := HLL.out; omega
      by_cases hlt2 : pos + n < bs.length
      · obtain ⟨b, o, x, rfl, hx, hxc⟩ := byte_at H2.out hlt2
        have hst := hi_step hn (show l[n]? = some x from (HXL.out n).trans hx.out)
        have hi0 : (0 : Int) ≤ (pos : Int) + n := by omega
        have hi1 : (pos : Int) + n < bs.length := by omega
        by_cases hc : 128 ≤ x.toNat
        · have hn2 := hst.1 hc
          have hc2 : (127 : Int) < (x.toNat : Nat) := by omega
          clear hst
          go_wp2_with fail
          go_round
          case rel => exact ⟨n + 1, by go_num, hn2⟩
          case measure => simp [intOf]; omega
        · have hn2 := hst.2 (by omega)
          have hc2 : ¬ (127 : Int) < (x.toNat : Nat) := by omega
          have HXB := Lib.hid hx.out
          have HN := Lib.hid hn2
          have hlt3 : n < l.length := by have := HLL.out; omega
          have hgd : l.getD n 0 = x := by rw [List.getD_eq_getElem?_getD, (HXL.out n).trans hx.out]; rfl
          have HGD := Lib.hid hgd
          have HLT3 := Lib.hid hlt3
          clear hst hgd hn hlt3
          by_cases hn9 : 9 < n
          · have hn9' : (9 : Int) < n := by omega
            have HTT : Hid (ToldS anyP (.ok l) 0 (failS bs (.ok l) 2 pos)) := Lib.hid (by
              show ToldS anyP (.ok l) 0 (.bad 2 (bs.length - pos))
              rw [← HLL.out]
              exact ToldS.err _ (any_none (by rw [lead_hi, if_neg (fun h => by have := h.2.1; have := HN.out; omega)])))
            clear hn2
            go_wp2_with fail
            refine HAM.out.mono ?_
            rintro e w2 ⟨rfl, hr2, hb2⟩
            go_wp2_with fail
            go_ret
            exact ⟨_, 0, _, rfl, ⟨rfl, by unfold okU; omega⟩, HTT.out, hr2, hb2⟩
          have hn9' : ¬ (9 : Int) < n := by omega
          have hx256 : x.toNat < 256 := by have := x.toNat_lt; omega
          clear hn2
          go_upto_region 11 with fail
          obtain ⟨y, hy⟩ : ∃ y, y = x.toNat := ⟨_, rfl⟩
          rw [← hy] at hxc hc hc2 hx256 ⊢
          have HY := Lib.hid hy
          clear hy
          go_cut [78] (fun s78 wx => s78 = .bool (decide ((0 < n ∧ y = 0) ∨ (n = 9 ∧ 1 < y))) ∧ wx = w)
          case first =>
            by_cases a : 0 < n
            · have a' : (0 : Int) < n := by omega
              by_cases b : y = 0
              · have b' : (((y : Nat) : Int) == 0) = true := by subst b; rfl
                have e : Hid (decide ((0 < n ∧ y = 0) ∨ (n = 9 ∧ 1 < y)) = true) := Lib.hid (decide_eq_true (.inl ⟨a, b⟩))
                clear b
                go_wp2_with fail
                go_meet
                exact ⟨by rw [e.out], rfl⟩
              · have b' : (((y : Nat) : Int) == 0) = false := by rw [beq_eq_false_iff_ne]; omega
                by_cases c : n = 9
                · have c' : (((n : Nat) : Int) == 9) = true := by subst c; rfl
                  by_cases d : 1 < y
                  · have d' : (1 : Int) < (y : Nat) := by omega
                    have e : Hid (decide ((0 < n ∧ y = 0) ∨ (n = 9 ∧ 1 < y)) = true) := Lib.hid (decide_eq_true (.inr ⟨c, d⟩))
                    clear c b
                    go_wp2_with fail
                    go_meet
                    exact ⟨by rw [e.out], rfl⟩
                  · have d' : ¬ (1 : Int) < (y : Nat) := by omega
                    have e : Hid (decide ((0 < n ∧ y = 0) ∨ (n = 9 ∧ 1 < y)) = false) := Lib.hid (decide_eq_false (by omega))
                    clear c b
                    go_wp2_with fail
                    go_meet
                    exact ⟨by rw [e.out], rfl⟩
                · have c' : (((n : Nat) : Int) == 9) = false := by rw [beq_eq_false_iff_ne]; omega
                  have e : Hid (decide ((0 < n ∧ y = 0) ∨ (n = 9 ∧ 1 < y)) = false) := Lib.hid (decide_eq_false (by omega))
                  clear c b
                  go_wp2_with fail
                  go_meet
                  exact ⟨by rw [e.out], rfl⟩
            · have a' : ¬ (0 : Int) < n := by omega
              have c' : (((n : Nat) : Int) == 9) = false := by rw [beq_eq_false_iff_ne]; omega
              have e : Hid (decide ((0 < n ∧ y = 0) ∨ (n = 9 ∧ 1 < y)) = false) := Lib.hid (decide_eq_false (by omega))
              clear a
              go_wp2_with fail
              go_meet
              exact ⟨by rw [e.out], rfl⟩
          case rest =>
            obtain ⟨rfl, hwc⟩ := hcut
            obtain rfl : w = wc := hwc.symm
            by_cases hb : (0 < n ∧ y = 0) ∨ (n = 9 ∧ 1 < y)
            · rw [decide_eq_true hb]
              have HTT : Hid (ToldS anyP (.ok l) 0 (failS bs (.ok l) 2 pos)) := Lib.hid (by
                show ToldS anyP (.ok l) 0 (.bad 2 (bs.length - pos))
                rw [← HLL.out]
                refine ToldS.err _ (any_none (by
                  rw [lead_hi]
                  refine if_neg (fun h => h.2.2 ?_)
                  rw [HN.out, HGD.out, ← HY.out, Nat.zero_add]
                  exact hb)))
              clear hb
              go_wp2_with fail
              refine HAM.out.mono ?_
              rintro e w2 ⟨rfl, hr2, hb2⟩
              go_wp2_with fail
              go_ret
              exact ⟨_, 0, _, rfl, ⟨rfl, by unfold okU; omega⟩, HTT.out, hr2, hb2⟩
            · rw [decide_eq_false hb]
              have hlead : leadK 0 l = some (valN l n, n + 1) := by
                have h := lead_hi l 0
                rw [HN.out] at h
                rw [h, if_pos ⟨HLT3.out, by omega, by rw [HGD.out, ← HY.out, Nat.zero_add]; exact hb⟩]
              have HTT : Hid (ToldS anyP (.ok l) (valN l n) (.ok (l.drop (n + 1)))) := Lib.hid (ToldS.ok (any_some hlead))
              have HU : Hid (valN l n < 18446744073709551616) := Lib.hid (lead0_back hlead).2.1
              have hacc0 : accN l n 0 = valN l n := by unfold accN; rw [if_pos (Nat.zero_le _), List.drop_zero, Nat.sub_zero]
              have HACC0 := Lib.hid hacc0
              have hz : accN l n (n + 1) = 0 := by unfold accN; rw [if_neg (by omega)]
              clear hb hlead hacc0
              go_wp2_with fail
              go_loop [6, 7] (fun v i => ∃ j : Nat, j ≤ n + 1 ∧ i = .int .i64 ((j : Int) - 1) ∧ v = .int .u64 (accN l n j : Nat)) (fun _ i => (intOf i + 1).toNat)
              case atStart => exact ⟨n + 1, Nat.le_refl _, by first | (congr 1; done) | (congr 1; omega), by first | (rw [hz]; done) | (rw [hz]; rfl)⟩
              case round =>
                obtain ⟨j, hj, rfl, rfl⟩ := hrel
                cases j with
                | zero =>
                  rw [HACC0.out]
                  have HPL : Hid (pos + n + 1 ≤ bs.length) := Lib.hid (by omega)
                  have HP1 : Hid ((pos : Int) + n + 1 = ((pos + n + 1 : Nat) : Int)) := Lib.hid (by omega)
                  go_wp2_with fail
                  go_ret
                  rw [HP1.out]
                  have e := set_of_block (i := 1) (.int .i64 ((pos + n + 1 : Nat) : Int)) HC.out
                  have hbb : BB w.heap.size R w (w.setCell ⟨R, 1, none⟩ (.int .i64 ((pos + n + 1 : Nat) : Int))) := (BB.refl w.heap.size R w).setCell (p := ⟨R, 1, none⟩) (.inl rfl) _
                  exact ⟨_, valN l n, _, rfl, ⟨rfl, HU.out⟩, HTT.out, ⟨_, c, pos + n + 1, 0, at_, e, bytes_keep H2.out (fun k hk hk2 => hbb.block k hk (by omega)), HPL.out, rfl, by rw [← HD.out, List.drop_drop, Nat.add_assoc]⟩, hbb⟩
                | succ i =>
                  have hil : pos + i < bs.length := by omega
                  obtain ⟨b2, o2, z, e2, hzx, hzc⟩ := byte_at H2.out hil
                  simp only [Option.some.injEq, Addr.mk.injEq] at e2
                  obtain ⟨rfl, rfl, -⟩ := e2
                  have hst := acc_step (l := l) (n := n) (i := i) (by omega) (show l[i]? = some z from (HXL.out i).trans hzx.out)
                  have hle := acc_le HLT3.out i (by omega)
                  rw [HACC0.out] at hle
                  have hU := HU.out
                  have hz256 : z.toNat < 256 := by have := z.toNat_lt; omega
                  obtain ⟨a, ha⟩ : ∃ a, a = accN l n (i + 1) := ⟨_, rfl⟩
                  rw [← ha] at hst ⊢
                  have ha57 : (a : Int) ≤ 144115188075855871 := by omega
                  have hnew : Hid (((accN l n i : Nat) : Int) = (a : Int) * 128 + ((z.toNat : Nat) : Int) % 128) := Lib.hid (by rw [hst]; omega)
                  have hi1 : (((i + 1 : Nat)) : Int) - 1 = (i : Int) := by omega
                  rw [hi1]
                  have hi0 : (0 : Int) ≤ i := by omega
                  have hp0 : (0 : Int) ≤ (pos : Int) + i := by omega
                  have hp1 : (pos : Int) + i < bs.length := by omega
                  have hij : i ≤ n + 1 := by omega
                  generalize z.toNat = zz at *
                  clear hst hle hU ha
                  go_wp2_with fail
                  go_round
                  case rel => exact ⟨i, hij, rfl, by rw [hnew.out]⟩
                  case measure => first | (simp [intOf]; done) | (simp [intOf]; omega)
      · have hni : (bs.length : Int) ≤ (pos : Int) + n := by omega
        have HTT : Hid (ToldS anyP (.ok l) 0 (failS bs (.ok l) 2 pos)) := Lib.hid (by
          show ToldS anyP (.ok l) 0 (.bad 2 (bs.length - pos))
          rw [← HLL.out]
          exact ToldS.err _ (any_none (by rw [lead_hi, if_neg (fun h => by have := h.1; have := HLL.out; have := HLE.out; omega)])))
        go_wp2_with fail
        refine HAM.out.mono ?_
        rintro e w2 ⟨rfl, hr2, hb2⟩
        go_wp2_with fail
        go_ret
        exact ⟨_, 0, _, rfl, ⟨rfl, by unfold okU; omega⟩, HTT.out, hr2, hb2⟩

theorem Rf.pos {bs : List UInt8} {R : Nat} {w : World} {s : St} (h : Rf bs R w s) : ∃ pos : Nat, w.cell? ⟨R, 1, none⟩ = some (.int .i64 pos) ∧ pos ≤ bs.length ∧ ∀ l, s = .ok l → l.length = bs.length - pos := by
  obtain ⟨A, c, pos, bad, at_, h1, -, h3, h4⟩ := h
  refine ⟨pos, cell_of_block h1 1, h3, fun l hl => ?_⟩
  subst hl
  obtain ⟨-, hd⟩ := h4
  rw [← hd, List.length_drop]
def VZ (B : Nat → Prop) (w : World) (v : Value) (n : Nat) : Prop := v = .int .i64 (zag n) ∧ okU n

set_option maxRecDepth 100000 in
set_option maxHeartbeats 1000000 in
/-- A number without a sign. -/
theorem numF_any (bs : List UInt8) (R : Nat) (w : World) (s : St) (hr : Rf bs R w s) (hbl : bs.length ≤ 1000000) :
    Calls Tryz.prog 32 #[.pointer (some ⟨R, 0, none⟩)] w (ToldQ bs R numP VN w s) := by
  obtain ⟨pos, c1, hpos, hl⟩ := hr.pos
  have HL := Lib.hid hl
  have HR := Lib.hid (raw_any bs R w s hr hbl)
  clear hl
  go_enter Tryz.func32, Tryz.ntmps32
  go_wp2_with fail
  refine HR.out.mono ?_
  rintro e w1 ⟨v, n, s1, rfl, ⟨rfl, hn⟩, ht, hr1, hb1⟩
  have HT := Lib.hid ht
  have HB := Lib.hid hb1
  have HR1 := Lib.hid hr1
  have HOK := Lib.hid hn
  clear ht hb1 hr1 hn
  by_cases hbig : 2147483648 < n
  · have hb2 : (2147483648 : Int) < n := by omega
    have HA := Lib.hid (amiss_any bs R w1 s1 pos 2 HR1.out hpos (.inl rfl))
    have HTT : Hid (ToldS numP s 0 (failS bs s1 2 pos)) := Lib.hid (by
      cases s with
      | bad c m => obtain rfl : s1 = .bad c m := HT.out; rfl
      | ok l =>
        have h := HT.out
        have hlen := HL.out l rfl
        unfold ToldS at h
        cases ha : anyP l with
        | error e => obtain ⟨c, m⟩ := e; simp only [ha] at h; subst h; exact ToldS.err _ (by unfold numP; rw [ha])
        | ok z =>
          obtain ⟨z, r⟩ := z
          simp only [ha] at h
          obtain ⟨rfl, rfl⟩ := h
          exact ToldS.err _ (by unfold numP; rw [ha]; dsimp only; rw [if_pos hbig, hlen]))
    clear hbig
    go_wp2_with fail
    refine HA.out.mono ?_
    rintro e w2 ⟨rfl, hr2, hb3⟩
    go_wp2_with fail
    go_ret
    exact ⟨_, 0, _, rfl, ⟨rfl, by unfold okN; omega⟩, HTT.out, hr2, HB.out.trans (hb3.mono HB.out.size)⟩
  · have hb2 : ¬ (2147483648 : Int) < n := by omega
    have hn63 : (n : Int) ≤ 2147483648 := by omega
    have HTT : Hid (ToldS numP s (n : Int) s1) := Lib.hid (by
      cases s with
      | bad c m => exact HT.out
      | ok l =>
        have h := HT.out
        unfold ToldS at h
        cases ha : anyP l with
        | error e => obtain ⟨c, m⟩ := e; simp only [ha] at h; subst h; exact ToldS.err _ (by unfold numP; rw [ha])
        | ok z =>
          obtain ⟨z, r⟩ := z
          simp only [ha] at h
          obtain ⟨rfl, rfl⟩ := h
          exact ToldS.ok (by unfold numP; rw [ha]; dsimp only; rw [if_neg hbig]))
    go_wp2_with fail
    go_ret
    exact ⟨_, (n : Int), _, rfl, ⟨rfl, by unfold okN; omega⟩, HTT.out, HR1.out, HB.out⟩

set_option maxRecDepth 100000 in
set_option maxHeartbeats 1000000 in
/-- How many there are. -/
theorem manyF_any (bs : List UInt8) (R lim : Nat) (w : World) (s : St) (hr : Rf bs R w s) (hbl : bs.length ≤ 1000000) (hlim : lim ≤ 1000000) :
    Calls Tryz.prog 31 #[.pointer (some ⟨R, 0, none⟩), .int .i64 lim] w (ToldQ bs R (manyP lim) (VM lim) w s) := by
  obtain ⟨pos, c1, hpos, hl⟩ := hr.pos
  have HL := Lib.hid hl
  have HR := Lib.hid (numF_any bs R w s hr hbl)
  clear hl
  go_enter Tryz.func31, Tryz.ntmps31
  go_wp2_with fail
  refine HR.out.mono ?_
  rintro e w1 ⟨v, n, s1, rfl, ⟨rfl, hn⟩, ht, hr1, hb1⟩
  have HT := Lib.hid ht
  have HB := Lib.hid hb1
  have HR1 := Lib.hid hr1
  have hn0 := hn.1
  clear ht hb1 hr1
  by_cases hbig : (lim : Int) < n
  · have HA := Lib.hid (amiss_any bs R w1 s1 pos 5 HR1.out hpos (.inr rfl))
    have HTT : Hid (ToldS (manyP lim) s 0 (failS bs s1 5 pos)) := Lib.hid (by
      cases s with
      | bad c m => obtain rfl : s1 = .bad c m := HT.out; rfl
      | ok l =>
        have h := HT.out
        have hlen := HL.out l rfl
        unfold ToldS at h
        cases ha : numP l with
        | error e => obtain ⟨c, m⟩ := e; simp only [ha] at h; subst h; exact ToldS.err _ (by unfold manyP; rw [ha])
        | ok z =>
          obtain ⟨z, r⟩ := z
          simp only [ha] at h
          obtain ⟨rfl, rfl⟩ := h
          exact ToldS.err _ (by unfold manyP; rw [ha]; dsimp only; rw [if_pos hbig, hlen]))
    clear hn
    go_wp2_with fail
    refine HA.out.mono ?_
    rintro e w2 ⟨rfl, hr2, hb3⟩
    go_wp2_with fail
    go_ret
    exact ⟨_, 0, _, rfl, ⟨rfl, by omega, by omega⟩, HTT.out, hr2, HB.out.trans (hb3.mono HB.out.size)⟩
  · have HTT : Hid (ToldS (manyP lim) s n s1) := Lib.hid (by
      cases s with
      | bad c m => exact HT.out
      | ok l =>
        have h := HT.out
        unfold ToldS at h
        cases ha : numP l with
        | error e => obtain ⟨c, m⟩ := e; simp only [ha] at h; subst h; exact ToldS.err _ (by unfold manyP; rw [ha])
        | ok z =>
          obtain ⟨z, r⟩ := z
          simp only [ha] at h
          obtain ⟨rfl, rfl⟩ := h
          exact ToldS.ok (by unfold manyP; rw [ha]; dsimp only; rw [if_neg hbig]))
    clear hn
    go_wp2_with fail
    go_ret
    exact ⟨_, n, _, rfl, ⟨rfl, hn0, by omega⟩, HTT.out, HR1.out, HB.out⟩
theorem zag_i64 {n : Nat} (h : okU n) : I64 (zag n) := by unfold okU at h; unfold zag I64; split <;> omega

set_option maxRecDepth 100000 in
set_option maxHeartbeats 1000000 in
/-- A number with a sign. -/
theorem signF_any (bs : List UInt8) (R : Nat) (w : World) (s : St) (hr : Rf bs R w s) (hbl : bs.length ≤ 1000000) :
    Calls Tryz.prog 60 #[.pointer (some ⟨R, 0, none⟩)] w (ToldQ bs R anyP VZ w s) := by
  have HR := Lib.hid (raw_any bs R w s hr hbl)
  go_enter Tryz.func60, Tryz.ntmps60
  go_wp2_with fail
  refine HR.out.mono ?_
  rintro e w1 ⟨v, n, s1, rfl, ⟨rfl, hn⟩, ht, hr1, hb1⟩
  have HT := Lib.hid ht
  have HB := Lib.hid hb1
  have HR1 := Lib.hid hr1
  have HN := Lib.hid hn
  clear ht hb1 hr1 hn
  obtain ⟨q, hq⟩ : ∃ q, q = n / 2 := ⟨_, rfl⟩
  have hq1 : (n : Int) / 2 = (q : Nat) := by omega
  have hq2 : q < 9223372036854775808 := by have := HN.out; unfold okU at this; omega
  have HQ2 := Lib.hid hq2
  by_cases he : n % 2 = 0
  · have hz : Hid (zag n = (q : Int)) := Lib.hid (by unfold zag; rw [if_pos he, hq])
    have he2 : (((n : Int) % 2) == 0) = true := by rw [beq_iff_eq]; omega
    clear hq he hq2
    have hq3 : (q : Int) ≤ 9223372036854775807 := by have := HQ2.out; omega
    go_wp2_with fail
    go_ret
    exact ⟨_, n, _, rfl, ⟨by rw [hz.out]; rfl, HN.out⟩, HT.out, HR1.out, HB.out⟩
  · have hz : Hid (zag n = -(q : Int) - 1) := Lib.hid (by unfold zag; rw [if_neg he, hq])
    have he2 : (((n : Int) % 2) == 0) = false := by rw [beq_eq_false_iff_ne]; omega
    clear hq he hq2
    have hq3 : (q : Int) ≤ 9223372036854775807 := by have := HQ2.out; omega
    go_wp2_with fail
    go_ret
    exact ⟨_, n, _, rfl, ⟨by rw [hz.out]; rfl, HN.out⟩, HT.out, HR1.out, HB.out⟩
end Go.Proofs.YtoidhjmhakajlaaGreatDoor
