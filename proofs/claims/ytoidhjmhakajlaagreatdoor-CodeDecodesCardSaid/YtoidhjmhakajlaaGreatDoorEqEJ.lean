/- read and Decode: the module of bytes, or what is amiss first. -/
import Derived.Test.YtoidhjmhakajlaaGreatDoorRdlJ
import Derived.Test.YtoidhjmhakajlaaGreatDoorEncJ
import Derived.Test.YtoidhjmhakajlaaGreatDoorInsBJ
import Derived.LaidEql
import Derived.Test.YtoidhjmhakajlaaGreatDoorSpecJ
namespace Go.Proofs.YtoidhjmhakajlaaGreatDoor
open Go.ChangeShapes Go.WideShapes Go.RowKit Go.Deep
set_option linter.unusedVariables false

theorem RFunB.lt {B : Nat → Prop} {w : World} (b o : Nat) (x : FunD) (hv : RFunB B w b o x) : RFunB (fun b => B b ∧ b < w.heap.size) w b o x :=
  ⟨⟨hv.1, block_lt_of_cell hv.2.1.1⟩, hv.2.1, hv.2.2.1, CSB.plain RIntB.lt hv.2.2.2.1, CSB.plain RBlkB.lt hv.2.2.2.2⟩
def markS (bs : List UInt8) : St := if bs.take 4 = markB then .ok (bs.drop 4) else .bad 2 bs.length
def endS (s : St) : St := match s with
  | .ok r => if r = [] then .ok r else .bad 2 r.length
  | b => b
theorem mark_eq {l : List UInt8} (h : l = markB) : (l == [102, 116, 108, 49]) = true := by subst h; decide
theorem mark_ne {l : List UInt8} (h : l ≠ markB) : (l == [102, 116, 108, 49]) = false := by
  cases hb : (l == [102, 116, 108, 49]) with
  | false => rfl
  | true => exact absurd (eq_of_beq hb) h

set_option maxRecDepth 100000 in
set_option maxHeartbeats 1000000 in
theorem mark_any (bs : List UInt8) (R : Nat) (w : World) (hr : Rd bs R w (.ok bs)) :
    Calls Tryz.prog 55 #[.pointer (some ⟨R, 0, none⟩)] w (ToldF bs R w (markS bs)) := by
  have hr0 := hr
  have hlt := hr.lt
  obtain ⟨A, c, pos, ev, h1, h2, h3, rfl, h5⟩ := hr
  have hpos : pos = 0 := by
    have := congrArg List.length h5
    rw [List.length_drop] at this
    rcases Nat.eq_zero_or_pos pos with h | h
    · exact h
    · omega
  subst hpos
  clear h5
  have hbl : bs.length ≤ 9223372036854775807 := by have := h2.1; have := h2.2.1.1; unfold maxLen at this; omega
  have hbc := h2.1
  have HC := Lib.hid h1
  have c0 := cell_of_block h1 0
  have c1 := cell_of_block h1 1
  have f1 := free_of_block h1 1
  clear h1
  by_cases hl : bs.length < 4
  · have HM : Hid (markS bs = .bad 2 bs.length) := Lib.hid (if_neg (fun e => by have := congrArg List.length e; rw [List.length_take] at this; simp [markB] at this; omega))
    rw [HM.out]
    go_enter Tryz.func55, Tryz.ntmps55
    go_wp2_with fail
    refine (fail_any bs R w (.ok bs) 0 2 hr0 (Nat.zero_le _) (.inl rfl)).mono ?_
    rintro e w1 ⟨rfl, hr1, hb1⟩
    go_wp2_with fail
    go_end0
    exact ⟨rfl, hr1, hb1⟩
  · obtain ⟨b, o, rfl, hx⟩ := h2.2.2 (by omega)
    have hcv : (convert 27 9 (.slice (some ⟨b, o, none⟩) 4 c)).run Tryz.prog w = .ok (.string ⟨(bs.take 4).toArray⟩) w := by
      have h := run_convert_bytes_back (P := Tryz.prog) w 27 9 5 ⟨b, o, none⟩ c (bs.take 4) Tryz.underlying27 Tryz.underlying5 Tryz.underlying9 (fun j hj => by
        have hj' : j < bs.length := by rw [List.length_take] at hj; omega
        have := (hx j bs[j] (List.getElem?_eq_getElem hj')).2
        rw [Nat.mul_one] at this
        rw [add_plain', List.getElem_take]
        exact this)
      rwa [show (bs.take 4).length = 4 by rw [List.length_take]; omega] at h
    by_cases hm : bs.take 4 = markB
    · have HM : Hid (markS bs = .ok (bs.drop 4)) := Lib.hid (if_pos hm)
      rw [HM.out]
      have hme := mark_eq hm
      clear hm
      go_enter Tryz.func55, Tryz.ntmps55
      go_wp2_with fail
      go_end0
      exact ⟨rfl, Rd.set_pos (pos' := 4) HC.out h2 (by omega) ⟨rfl, rfl⟩, BB.setCell (p := ⟨R, 1, none⟩) (BB.refl w.heap.size R w) (.inl rfl) _⟩
    · have HM : Hid (markS bs = .bad 2 bs.length) := Lib.hid (if_neg hm)
      have hne := mark_ne hm
      rw [HM.out]
      clear hm
      go_enter Tryz.func55, Tryz.ntmps55
      go_wp2_with fail
      refine (fail_any bs R w (.ok bs) 0 2 hr0 (Nat.zero_le _) (.inl rfl)).mono ?_
      rintro e w1 ⟨rfl, hr1, hb1⟩
      go_wp2_with fail
      go_end0
      exact ⟨rfl, hr1, hb1⟩

set_option maxRecDepth 100000 in
set_option maxHeartbeats 1000000 in
theorem end_any (bs : List UInt8) (R : Nat) (w : World) (s : St) (hr : Rd bs R w s) :
    Calls Tryz.prog 58 #[.pointer (some ⟨R, 0, none⟩)] w (ToldF bs R w (endS s)) := by
  have hr0 := hr
  have hlt := hr.lt
  obtain ⟨A, c, pos, ev, h1, h2, h3, h4⟩ := hr
  have hbl : bs.length ≤ 9223372036854775807 := by have := h2.1; have := h2.2.1.1; unfold maxLen at this; omega
  have c0 := cell_of_block h1 0
  have c1 := cell_of_block h1 1
  clear h1
  by_cases hp : pos < bs.length
  · have hp1 : decide ((pos : Int) < bs.length) = true := by simp; omega
    have hp2 : (pos : Int) < bs.length := by omega
    have HE : Hid (failS bs s 2 pos = endS s) := Lib.hid (by
      cases s with
      | bad c n => rfl
      | ok r =>
        have := h4.2
        have hl : r.length = bs.length - pos := by rw [← this, List.length_drop]
        show St.bad 2 (bs.length - pos) = if r = [] then St.ok r else .bad 2 r.length
        rw [if_neg (fun e => by rw [e] at hl; simp at hl; omega), hl])
    have HF := Lib.hid (fun j => fail_any bs R (w.drewN j) s pos 2 (hr0.below (below_drewN (Below.refl _ _) _)) h3 (.inl rfl))
    clear h4
    go_enter Tryz.func58, Tryz.ntmps58
    go_wp2_with fail
    go_quiet (fail)
    go_wp2_with fail
    refine (HF.out _).mono ?_
    rintro e w1 ⟨rfl, hr1, hb1⟩
    rw [HE.out] at hr1
    go_wp2_with fail
    go_end0
    exact ⟨rfl, hr1, (BB.of_below (below_drewN (Below.refl _ _) _) (Nat.le_refl _)).trans hb1⟩
  · have hp1 : decide ((pos : Int) < bs.length) = false := by simp; omega
    have hp2 : ¬ (pos : Int) < bs.length := by omega
    have HE : Hid (s = endS s) := Lib.hid (by
      cases s with
      | bad c n => rfl
      | ok r =>
        have := h4.2
        rw [List.drop_eq_nil_of_le (by omega)] at this
        subst this
        rfl)
    clear h4
    go_enter Tryz.func58, Tryz.ntmps58
    go_wp2_with fail
    go_quiet (fail)
    go_wp2_with fail
    go_end0
    rw [← HE.out]
    exact ⟨rfl, hr0.below (below_drewN (Below.refl _ _) _), BB.of_below (below_drewN (Below.refl _ _) _) (Nat.le_refl _)⟩

/-- What read tells. -/
def ToldRead (bs : List UInt8) (w : World) (e : Ending) (w' : World) : Prop :=
  ∃ A c m ev, e = .returned (.tuple #[.agg #[.slice A (m : List FunD).length c], ev]) ∧ SL w' 4 (RFunB (fun b => w.heap.size ≤ b)) A c m ∧ (match readP bs with
    | .ok m' => m = m' ∧ ev = .nilIface
    | .error z => ErrAt w' ev (z.1, ((bs.length - z.2 : Nat) : Int)) ∧ z.1 ≠ 0) ∧ Below w.heap.size w w'
theorem read_told {bs : List UInt8} {m : List FunD} {s : St} (h : ToldS funsP (markS bs) m s) : match readP bs with
    | .ok m' => m = m' ∧ endS s = .ok []
    | .error z => endS s = .bad z.1 z.2 := by
  unfold readP
  unfold markS at h
  by_cases hm : bs.take 4 = markB
  · rw [if_pos hm] at h ⊢
    unfold ToldS at h
    cases hp : funsP (bs.drop 4) with
    | error e =>
      obtain ⟨c, n⟩ := e
      simp only [hp] at h
      subst h
      rfl
    | ok z =>
      obtain ⟨m', r⟩ := z
      simp only [hp] at h
      obtain ⟨rfl, rfl⟩ := h
      dsimp only
      by_cases hr : r = []
      · subst hr; exact ⟨rfl, rfl⟩
      · rw [if_neg hr]
        dsimp only
        unfold endS
        dsimp only
        rw [if_neg hr]
  · rw [if_neg hm] at h ⊢
    obtain rfl : s = .bad 2 bs.length := h
    rfl

set_option maxRecDepth 100000 in
set_option maxHeartbeats 2000000 in
theorem read_any (bs : List UInt8) (A : Option Addr) (c : Nat) (w : World) (hb : SL w 1 RByte A c bs) :
    Calls Tryz.prog 30 #[.slice A bs.length c] w (ToldRead bs w) := by
  go_enter Tryz.func30, Tryz.ntmps30
  go_wp2_with fail
  obtain ⟨wa, hwa, hsa, hka, hba, -, -⟩ := named w #[.slice none 0 0] 24
  obtain ⟨w1, hw1, hs1, hk1, hb1, -, -⟩ := named wa #[.slice A bs.length c, .int .i64 0, .nilIface] 123
  have hN1 : w1.heap[w.heap.size]? = some (.cells #[.slice none 0 0] 24 (0, 0)) := (hb1.block _ (by omega)).trans (by rw [hwa]; exact heap_alloc_new _ _)
  have hR1 : w1.heap[w.heap.size + 1]? = some (.cells #[.slice A bs.length c, .int .i64 0, .nilIface] 123 (0, 0)) := by rw [hw1, ← hsa]; exact heap_alloc_new _ _
  have hB1 : Below w.heap.size w w1 := hba.trans (hb1.mono (by omega))
  rw [← hwa, ← hw1]
  clear hwa hw1 hka hk1 hba hb1
  have hr1 : Rd bs (w.heap.size + 1) w1 (.ok bs) := ⟨A, c, 0, .nilIface, hR1, SL.imp (fun b o x hx => by
    have hlt := block_lt_of_cell hx
    dsimp only at hlt
    exact ⟨by omega, kept_of_below hB1 _ _ hx⟩) hb, Nat.zero_le _, rfl, rfl⟩
  have hz1 : w.heap.size + 1 < w1.heap.size := by omega
  clear hR1 hs1 hsa
  refine (mark_any bs (w.heap.size + 1) w1 hr1).mono ?_
  rintro e w2 ⟨rfl, hr2, hb2⟩
  have hN2 := hb2.block' hN1 (by omega) (by omega)
  have hz2 := hb2.size
  have hB2 : Below w.heap.size w w2 := hB1.trans (hb2.below hB1.size (by omega))
  have HN2 := Lib.hid hN2
  clear hN1 hN2
  go_wp2_with fail
  refine (readFuns_any bs (w.heap.size + 1) w2 (markS bs) hr2).mono ?_
  rintro e w3 ⟨v, m, s3, rfl, ⟨A3, c3, rfl, hs3⟩, ht, hr3, hb3⟩
  have HT := Lib.hid (read_told ht)
  have hN3 := hb3.block' HN2.out (by omega) (by omega)
  have hz3 := hb3.size
  have hB3 : Below w.heap.size w w3 := hB2.trans (hb3.below hB2.size (by omega))
  have HN3 := Lib.hid hN3
  clear hN3 ht
  go_wp2_with fail
  obtain ⟨w4, hw4, hs4, hk4, hb4, -, -⟩ := named w3 #[.slice A3 m.length c3] 24
  have hM4 : w4.heap[w3.heap.size]? = some (.cells #[.slice A3 m.length c3] 24 (0, 0)) := by rw [hw4]; exact heap_alloc_new _ _
  have hN4 := (hb4.block _ (by omega)).trans HN3.out
  have hr4 := hr3.below hb4
  have hB4 : Below w.heap.size w w4 := hB3.trans (hb4.mono hB3.size)
  rw [← hw4]
  clear hw4
  have hms4 : SL w4 4 (RFunB (fun b => w2.heap.size ≤ b ∧ b < w3.heap.size)) A3 c3 m := SL.imp (RFunB.go (KeptB.of hk4) (fun b hb => hb)) (SL.imp RFunB.lt hs3)
  have hz4 : w3.heap.size < w4.heap.size := by omega
  refine (end_any bs (w.heap.size + 1) w4 s3 hr4).mono ?_
  rintro e w5 ⟨rfl, hr5, hb5⟩
  have hM5 := hb5.block' hM4 (by omega) (by omega)
  have hN5 := hb5.block' hN4 (by omega) (by omega)
  have hB5 : Below w.heap.size w w5 := hB4.trans (hb5.below hB4.size (by omega))
  have hms5 : SL w5 4 (RFunB (fun b => w2.heap.size ≤ b ∧ b < w3.heap.size)) A3 c3 m := SL.imp (RFunB.go (hb5.kept.mono (fun b hb => by omega)) (fun b hb => hb)) hms4
  obtain ⟨A5, c5, pos5, ev5, k1, -, -, k4⟩ := hr5
  have d2 := cell_of_block k1 2
  have m0 := cell_of_block hM5 0
  have n0 := cell_of_block hN5 0
  have nf := free_of_block hN5 0
  have HK := Lib.hid k4
  have HN5 := Lib.hid hN5
  have hz5 : w.heap.size < w5.heap.size := by have := hb5.size; omega
  clear k1 k4 hN5 hM5 hN4 hM4
  go_wp2_with fail
  go_region
  have e := set_of_block (i := 0) (.slice A3 m.length c3) HN5.out
  have hBF : Below w.heap.size w (w5.setCell ⟨w.heap.size, 0, none⟩ (.slice A3 m.length c3)).drew := (hB5.setCell (by exact Nat.le_refl _) _).drew
  have hkF := keptB_set w5 ⟨w.heap.size, 0, none⟩ (.slice A3 m.length c3)
  have HKF : Hid (ErrR bs (w.heap.size + 1) (w5.setCell ⟨w.heap.size, 0, none⟩ (.slice A3 m.length c3)) (endS s3) pos5 ev5) := Lib.hid (HK.out.keep (fun k cs hk => Below.heap_setCell _ _ _ _ (fun e => by
    have e : k = w.heap.size := e
    subst e
    have := hk.symm.trans HN5.out
    simp at this)))
  have hmF : SL (w5.setCell ⟨w.heap.size, 0, none⟩ (.slice A3 m.length c3)) 4 (RFunB (fun b => w.heap.size ≤ b)) A3 c3 m := SL.imp (RFunB.go (hkF.mono (fun b hb => by show b ≠ w.heap.size; omega)) (fun b hb => by omega)) hms5
  clear HK d2 m0 n0 nf hkF
  generalize w5.setCell ⟨w.heap.size, 0, none⟩ (.slice A3 m.length c3) = wF at *
  go_wp2_with fail
  refine bodyPost_ret (results_cell_row_tmp rfl _ _ w.heap.size 24 #[.slice A3 m.length c3] (0, 0) _ (by rfl) (show wF.drew.heap[w.heap.size]? = _ from e) Tryz.underlying24 (by rfl) (by kernel_rfl)) rfl ?_
  refine ⟨A3, c3, m, ev5, rfl, hmF, ?_, hBF⟩
  have ht := HT.out
  have hk := HKF.out
  cases hp : readP bs with
  | ok m' =>
    rw [hp] at ht
    obtain ⟨rfl, h2⟩ := ht
    rw [h2] at hk
    exact ⟨rfl, hk.1⟩
  | error z =>
    rw [hp] at ht
    rw [show endS s3 = .bad z.1 z.2 from ht] at hk
    obtain ⟨g, pl, rfl, hg, hcell, hpl, hn, hz⟩ := hk
    refine ⟨.inr (.inr ⟨by rcases hz with h | h <;> (dsimp only; omega), by dsimp only; omega, g, rfl, ?_, ?_⟩), by rcases hz with h | h <;> omega⟩
    · have := cell_of_block hcell 0
      rw [show bs.length - z.2 = pl by omega]
      exact this
    · exact cell_of_block hcell 1

/-- What Decode tells. -/
def ToldD (bs : List UInt8) (w : World) (e : Ending) (w' : World) : Prop :=
  ∃ A c ev, e = .returned (.tuple #[.agg #[.slice A (decM bs).length c], ev]) ∧ SL w' 4 RFun A c (decM bs) ∧ ErrAt w' ev (decE bs) ∧ Below w.heap.size w w'
/-- Likewise, in new memory. -/
def ToldDB (bs : List UInt8) (w : World) (e : Ending) (w' : World) : Prop :=
  ∃ A c ev, e = .returned (.tuple #[.agg #[.slice A (decM bs).length c], ev]) ∧ SL w' 4 (RFunB (fun b => w.heap.size ≤ b)) A c (decM bs) ∧ ErrAt w' ev (decE bs) ∧ Below w.heap.size w w'
theorem ToldDB.plain {bs : List UInt8} {w w' : World} {e : Ending} (h : ToldDB bs w e w') : ToldD bs w e w' := by
  obtain ⟨A, c, ev, h1, h2, h3⟩ := h
  exact ⟨A, c, ev, h1, SL.imp RFunB.plain h2, h3⟩
theorem kept_same {w : World} {G : Nat} {v0 : Value} {t : TypeId} (h : w.heap[G]? = some (.cells #[v0] t (0, 0))) : Kept w (w.setCell ⟨G, 0, none⟩ v0) := fun a v ha => by
  by_cases hb : a.block = G
  · obtain ⟨b, o, s⟩ := a
    obtain rfl : b = G := hb
    obtain rfl : s = none := World.cell?_spot ha
    by_cases ho : o = 0
    · subst ho
      have h2 := ha.symm.trans (cell_of_block h 0)
      obtain rfl : v = v0 := by simpa using h2
      exact World.cell?_setCell_same _ _ _ ha
    · rw [World.cell?_setCell_other _ _ _ _ (fun e => ho (by have := congrArg Addr.off e; exact this.symm))]
      exact ha
  · exact (World.cell?_setCell_other _ _ _ _ (fun e => hb (by rw [← e]))).trans ha
theorem funs_nilB (B : Nat → Prop) (w : World) : SL w 4 (RFunB B) none 0 [] := ⟨Nat.le_refl _, ⟨by unfold maxLen; omega, fun _ => rfl⟩, fun h => absurd h (by simp)⟩
theorem funs_nil (w : World) : SL w 4 RFun none 0 [] := ⟨Nat.le_refl _, ⟨by unfold maxLen; omega, fun _ => rfl⟩, fun h => absurd h (by simp)⟩

set_option maxRecDepth 100000 in
set_option maxHeartbeats 2000000 in
theorem decode_own (OI : OfIns) (bs : List UInt8) (A : Option Addr) (c : Nat) (w : World) (hb : SL w 1 RByte A c bs) :
    Calls Tryz.prog 12 #[.slice A bs.length c] w (ToldDB bs w) := by
  go_enter Tryz.func12, Tryz.ntmps12
  go_wp2_with fail
  obtain ⟨w1, hw1, hs1, hk1, hb1, -, -⟩ := named w #[.slice none 0 0] 24
  have hN1 : w1.heap[w.heap.size]? = some (.cells #[.slice none 0 0] 24 (0, 0)) := by rw [hw1]; exact heap_alloc_new _ _
  rw [← hw1]
  clear hw1
  have hz1 : w.heap.size < w1.heap.size := by omega
  refine (read_any bs A c w1 (SL.imp (fun b o x hx => hk1 _ _ hx) hb)).mono ?_
  rintro e w2 ⟨A2, c2, m, ev, rfl, hms, hev, hb2⟩
  have hB2 : Below w.heap.size w w2 := hb1.trans (hb2.mono hb1.size)
  have hN2 := (hb2.block _ hz1).trans hN1
  have hz2 : w.heap.size < w2.heap.size := by have := hb2.size; omega
  have HN2 := Lib.hid hN2
  have hml := hms.len
  clear hN1 hN2
  cases hp : readP bs with
  | error z =>
    rw [hp] at hev
    obtain ⟨he, hz⟩ := hev
    have hE : Hid (decE bs = (z.1, ((bs.length - z.2 : Nat) : Int)) ∧ decM bs = []) := Lib.hid (by unfold decE decM; rw [hp]; exact ⟨rfl, rfl⟩)
    obtain ⟨ty, x, rfl⟩ := he.iface hz
    have HE := Lib.hid he
    have n0 := cell_of_block HN2.out 0
    have nf := free_of_block HN2.out 0
    clear he hz hp
    go_wp2_with fail
    have e := set_of_block (i := 0) (.slice none 0 0) HN2.out
    have hz3 := hB2.size
    have hBF : Below w.heap.size w ((w2.setCell ⟨w.heap.size, 0, none⟩ (.slice none 0 0)).alloc (.cells #[.slice A2 m.length c2] 24)) := (hB2.setCell (by exact Nat.le_refl _) _).alloc (by simp [World.setCell]; omega) _
    have hkF : Kept w2 ((w2.setCell ⟨w.heap.size, 0, none⟩ (.slice none 0 0)).alloc (.cells #[.slice A2 m.length c2] 24)) := (kept_same HN2.out).trans (kept_alloc _ _)
    have e2 : ((w2.setCell ⟨w.heap.size, 0, none⟩ (.slice none 0 0)).alloc (.cells #[.slice A2 m.length c2] 24)).heap[w.heap.size]? = some (.cells #[.slice none 0 0] 24 (0, 0)) := (Below.heap_alloc _ _ _ (by simp [World.setCell]; omega)).trans e
    refine bodyPost_ret (results_cell_row_tmp rfl _ _ w.heap.size 24 #[.slice none 0 0] (0, 0) _ (by rfl) e2 Tryz.underlying24 (by rfl) (by kernel_rfl)) rfl ?_
    refine ⟨none, 0, _, by rw [hE.out.2]; rfl, by rw [hE.out.2]; exact funs_nilB _ _, by rw [hE.out.1]; exact HE.out.keep hkF, hBF⟩
  | ok m' =>
    rw [hp] at hev
    obtain ⟨rfl, rfl⟩ := hev
    have HOK := Lib.hid (read_back hp).2
    have HP := Lib.hid hp
    clear hp
    go_wp2_with fail
    obtain ⟨w3, hw3, hs3, hk3, hb3, -, -⟩ := named w2 #[.slice A2 m.length c2] 24
    have hM3 : w3.heap[w2.heap.size]? = some (.cells #[.slice A2 m.length c2] 24 (0, 0)) := by rw [hw3]; exact heap_alloc_new _ _
    have hN3 := (hb3.block _ hz2).trans HN2.out
    have hB3 : Below w.heap.size w w3 := hB2.trans (hb3.mono hB2.size)
    rw [← hw3]
    clear hw3
    have hms3 : SL w3 4 (RFunB (fun b => w1.heap.size ≤ b)) A2 c2 m := SL.imp (RFunB.go (KeptB.of hk3) (fun b hb => hb)) hms
    refine (module_any OI m _ w3 ⟨A2, c2, rfl, SL.imp RFunB.plain hms3⟩ (lim_of_ok HOK.out)).mono ?_
    rintro e w4 ⟨⟨ev, rfl, he⟩, hb4⟩
    have hB4 : Below w.heap.size w w4 := hB3.trans (hb4.mono hB3.size)
    have hM4 := (hb4.block _ (by omega)).trans hM3
    have hN4 := (hb4.block _ (by omega)).trans hN3
    have hms4 : SL w4 4 (RFunB (fun b => w1.heap.size ≤ b)) A2 c2 m := SL.imp (RFunB.go (KeptB.of (kept_of_below hb4)) (fun b hb => hb)) hms3
    have m0 := cell_of_block hM4 0
    have n0 := cell_of_block hN4 0
    have nf := free_of_block hN4 0
    have HN4 := Lib.hid hN4
    have hz4 : w.heap.size < w4.heap.size := block_lt hN4
    clear hM3 hN3 hM4 hN4 hms3 hms
    by_cases hz : (modE m).1 = 0
    · obtain rfl := he.nil hz
      have hE : Hid (decE bs = modE m ∧ decM bs = m) := Lib.hid (by unfold decE decM; rw [HP.out]; exact ⟨rfl, if_pos hz⟩)
      have HE := Lib.hid hz
      clear he hz
      go_wp2_with fail
      have e := set_of_block (i := 0) (.slice A2 m.length c2) HN4.out
      have hBF : Below w.heap.size w (w4.setCell ⟨w.heap.size, 0, none⟩ (.slice A2 m.length c2)) := hB4.setCell (by exact Nat.le_refl _) _
      have hkF := keptB_set w4 ⟨w.heap.size, 0, none⟩ (.slice A2 m.length c2)
      refine bodyPost_ret (results_cell_row_tmp rfl _ _ w.heap.size 24 #[.slice A2 m.length c2] (0, 0) _ (by rfl) e Tryz.underlying24 (by rfl) (by kernel_rfl)) rfl ?_
      refine ⟨A2, c2, _, by rw [hE.out.2], ?_, by rw [hE.out.1]; exact .inl ⟨HE.out, rfl⟩, hBF⟩
      rw [hE.out.2]
      exact SL.imp (RFunB.go (hkF.mono (fun b hb => by show b ≠ w.heap.size; omega)) (fun b hb => by omega)) hms4
    · obtain ⟨ty, x, rfl⟩ := he.iface hz
      have hE : Hid (decE bs = modE m ∧ decM bs = []) := Lib.hid (by unfold decE decM; rw [HP.out]; exact ⟨rfl, if_neg hz⟩)
      have HE := Lib.hid he
      clear he hz
      go_wp2_with fail
      have e := set_of_block (i := 0) (.slice none 0 0) HN4.out
      have hBF : Below w.heap.size w (w4.setCell ⟨w.heap.size, 0, none⟩ (.slice none 0 0)) := hB4.setCell (by exact Nat.le_refl _) _
      refine bodyPost_ret (results_cell_row_tmp rfl _ _ w.heap.size 24 #[.slice none 0 0] (0, 0) _ (by rfl) e Tryz.underlying24 (by rfl) (by kernel_rfl)) rfl ?_
      exact ⟨none, 0, _, by rw [hE.out.2]; rfl, by rw [hE.out.2]; exact funs_nilB _ _, by rw [hE.out.1]; exact HE.out.keep (kept_same HN4.out), hBF⟩
theorem decode_any (OI : OfIns) (bs : List UInt8) (A : Option Addr) (c : Nat) (w : World) (hb : SL w 1 RByte A c bs) :
    Calls Tryz.prog 12 #[.slice A bs.length c] w (ToldD bs w) := (decode_own OI bs A c w hb).mono fun _ _ h => h.plain
end Go.Proofs.YtoidhjmhakajlaaGreatDoor

/- Two interface values of one integer type are equal as their numbers are; one of them against nil is not. Over any program. -/
namespace Go.Proofs.YtoidhjmhakajlaaGreatDoor
section
variable {P : Program} (w : World)

theorem run_equalIn_iface_int (d : Nat) {ti tn : TypeId} {ms : Array (String × TypeId)} {i : TypeInfo} {k : IntKind} (a b : Int)
    (hi : P.underlying ti = some (.interface ms)) (hn : P.underlying tn = some (.int k)) (hinfo : P.info? tn = some i) (hcomp : i.comparable = true) :
    (Op.equalIn (d + 2) ti (.iface tn (.int k a)) (.iface tn (.int k b))).run P w = .ok (a == b) w := by
  simp [Op.equalIn, run_underlying hi, run_underlying hn, typeInfo, hinfo, hcomp]

theorem run_eql_iface_int {ti tn : TypeId} {ms : Array (String × TypeId)} {i : TypeInfo} {k : IntKind} (a b : Int)
    (hi : P.underlying ti = some (.interface ms)) (hn : P.underlying tn = some (.int k)) (hinfo : P.info? tn = some i) (hcomp : i.comparable = true) :
    (binOp .eql ti (.iface tn (.int k a)) (.iface tn (.int k b))).run P w = .ok (.bool (a == b)) w := by
  simp only [binOp]
  simp [Op.equal, Op.maxDepth, run_equalIn_iface_int w 9998 a b hi hn hinfo hcomp]
end
end Go.Proofs.YtoidhjmhakajlaaGreatDoor

/- Two errors that are Codes are equal as their numbers are. -/
namespace Go.Proofs.YtoidhjmhakajlaaGreatDoor
open Go.ChangeShapes Go.WideShapes Go.RowKit Go.Deep
set_option linter.unusedVariables false

theorem codeInfo : Tryz.prog.info? 51 = some ((Tryz.prog.info? 51).get!) := by kernel_rfl
theorem codeComp : ((Tryz.prog.info? 51).get!).comparable = true := by kernel_rfl
theorem eqlErr (x y : Int) (w : World) : (binOp .eql 29 (.iface 51 (.int .i64 x)) (.iface 51 (.int .i64 y))).run Tryz.prog w = .ok (.bool (x == y)) w :=
  run_eql_iface_int w x y Tryz.underlying29 Tryz.underlying51 codeInfo codeComp

end Go.Proofs.YtoidhjmhakajlaaGreatDoor
