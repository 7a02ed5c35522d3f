/- Trim's smaller functions: a block's instructions in new memory. -/
import Derived.Test.YtooblmiffgjmjaaGrH
namespace Go.Proofs.Ytooblmiffgjmjaa
open Go.ChangeShapes Go.WideShapes Go.RowKit Go.Deep
set_option linter.unusedVariables false

theorem rows_len_ {α : Type} {sz : Nat} {F : α → List Value → Prop} : ∀ {l : List α} {cs : List Value}, Rows sz F l cs → cs.length = l.length * sz
  | [], cs, h => by rw [show cs = [] from h]; simp
  | x :: l, cs, ⟨c, r, e, h1, _, h3⟩ => by rw [e, List.length_append, h1, rows_len_ h3, List.length_cons, Nat.succ_mul]; omega
theorem cins_of {w : World} {b o : Nat} {x : InsD} (h : RIns w b o x) : ∃ cs, cs.length = 5 ∧ CIns (fun _ => True) w x cs ∧ (∀ j u, cs[j]? = some u → w.cell? ⟨b, o + j, none⟩ = some u) ∧ ∀ u ∈ cs, u.oneCell' = true := by
  obtain ⟨⟨h0, g0⟩, ⟨h1, g1⟩, ⟨A, c, h2, hs⟩, ⟨h3, g3⟩, ⟨h4, g4⟩⟩ := h
  refine ⟨[.int .i64 x.op, .int .i64 x.dst, .slice A x.args.length c, .int .i64 x.imm, .int .i64 x.fn], rfl, ⟨A, c, rfl, SL.imp (fun b o y hy => ⟨trivial, hy⟩) hs, g0, g1, g3, g4⟩, fun j u hu => ?_, fun u hu => ?_⟩
  · match j, hu with
    | 0, hu => obtain rfl := Option.some.inj hu; exact h0
    | 1, hu => obtain rfl := Option.some.inj hu; exact h1
    | 2, hu => obtain rfl := Option.some.inj hu; exact h2
    | 3, hu => obtain rfl := Option.some.inj hu; exact h3
    | 4, hu => obtain rfl := Option.some.inj hu; exact h4
  · simp only [List.mem_cons, List.not_mem_nil, or_false] at hu
    rcases hu with rfl | rfl | rfl | rfl | rfl <;> rfl
theorem ins_news {w : World} {b : Nat} : ∀ (xs : List InsD) (o : Nat), (∀ i x, xs[i]? = some x → RIns w b (o + i * 5) x) →
    ∃ cs, Rows 5 (CIns (fun _ => True) w) xs cs ∧ (∀ j u, cs[j]? = some u → w.cell? ⟨b, o + j, none⟩ = some u) ∧ ∀ u ∈ cs, u.oneCell' = true
  | [], o, _ => ⟨[], rfl, fun j u h => by simp at h, fun u h => by simp at h⟩
  | x :: xs, o, h => by
    obtain ⟨c, hl, hc, hcell, hone⟩ := cins_of (by simpa using h 0 x rfl)
    obtain ⟨cs, hr, hcell2, hone2⟩ := ins_news xs (o + 5) (fun i y hy => by have := h (i + 1) y (by simpa using hy); rwa [show o + (i + 1) * 5 = o + 5 + i * 5 by omega] at this)
    refine ⟨c ++ cs, ⟨c, cs, rfl, hl, hc, hr⟩, fun j u hu => ?_, fun u hu => ?_⟩
    · by_cases hj : j < 5
      · rw [List.getElem?_append_left (by omega)] at hu; exact hcell j u hu
      · rw [List.getElem?_append_right (by omega), hl] at hu
        have := hcell2 (j - 5) u hu
        rwa [show o + 5 + (j - 5) = o + j by omega] at this
    · rcases List.mem_append.1 hu with hu | hu
      · exact hone u hu
      · exact hone2 u hu

def ToldCI (xs : List InsD) (w : World) (e : Ending) (w' : World) : Prop :=
  (∃ v cs, e = .returned v ∧ w'.ownsRow w.heap.size 69 5 v xs.length cs ∧ Rows 5 (CIns (fun b => b < w.heap.size) w') xs cs) ∧ Below w.heap.size w w'

set_option maxRecDepth 100000 in
theorem cloneIns_any (xs : List InsD) (v : Value) (w : World) (hv : VS w 5 RIns v xs) (hn : xs.length ≤ 1000) : Calls Try.prog 47 #[v] w (ToldCI xs w) := by
  obtain ⟨A, c, rfl, hs⟩ := hv
  cases A with
  | none =>
    obtain rfl : xs = [] := by
      rcases Nat.eq_zero_or_pos xs.length with h0 | h0
      · exact List.length_eq_zero_iff.1 h0
      · obtain ⟨b, o, e, _⟩ := hs.2.2 h0; cases e
    obtain rfl : c = 0 := hs.2.1.2 rfl
    clear hs
    have heq := Lib.run_eql_slice_nil (P := Try.prog) w 47 69 none 0 0 0 0 Try.underlying47
    go_enter Try.func47, Try.ntmps47
    go_wp2_with (simp only [heq, Option.isNone])
    go_ret
    exact ⟨⟨_, [], rfl, World.ownsRow_nil _ _ _ _, rfl⟩, Below.refl _ _⟩
  | some ad =>
    have heq := Lib.run_eql_slice_nil (P := Try.prog) w 47 69 (some ad) xs.length c 0 0 Try.underlying47
    obtain ⟨i5, p1, p2, p3, p4⟩ := info_parts Try.info69
    have hown : (w.alloc (.cells #[] 69)).ownsRow w.heap.size 69 5 (.slice (some ⟨w.heap.size, 0, none⟩) 0 0) 0 [] :=
      ⟨rfl, .inr ⟨w.heap.size, 0, #[], rfl, Nat.le_refl _, heap_alloc_new w _, Nat.le_refl _, Nat.zero_le _, rfl, rfl⟩⟩
    obtain ⟨cs, hrows, hcells, hone⟩ : ∃ cs, Rows 5 (CIns (fun _ => True) w) xs cs ∧ (∀ j u, cs[j]? = some u → w.cell? (ad.add j) = some u) ∧ ∀ u ∈ cs, u.oneCell' = true := by
      rcases Nat.eq_zero_or_pos xs.length with h0 | h0
      · obtain rfl : xs = [] := List.length_eq_zero_iff.1 h0
        exact ⟨[], rfl, fun j u h => by simp at h, fun u h => by simp at h⟩
      · obtain ⟨b, o, e, hx⟩ := hs.2.2 h0
        obtain rfl := Option.some.inj e
        obtain ⟨cs, h1, h2, h3⟩ := ins_news xs o hx
        exact ⟨cs, h1, fun j u hu => by rw [show (⟨b, o, none⟩ : Addr).add j = ⟨b, o + j, none⟩ by unfold Addr.add; split <;> simp_all]; exact h2 j u hu, h3⟩
    obtain ⟨v', w', hr, h2, h3, _, h5⟩ := run_append_own_at (P := Try.prog) (w.alloc (.cells #[] 69)) w.heap.size 47 47 69 i5 _ 5 56 Try.underlying47 p1 p2 p3 p4 (by rfl) (by decide) _ 0 [] hown ad xs.length c
      cs (rows_len_ hrows) (fun j u hu => kept_alloc w _ _ _ (hcells j u hu)) hone (by unfold maxLen; omega) (by omega) (by simp)
    rw [Nat.zero_add, List.nil_append] at h2
    have hB : Below w.heap.size w w' := ((Below.refl w.heap.size w).alloc (Nat.le_refl _) (.cells #[] 69)).grown h3 (by simp) (fun k hk => by have := Option.some.inj (show some w.heap.size = some k from hk); omega)
    have hrows' : Rows 5 (CIns (fun b => b < w.heap.size) w') xs cs := hrows.imp fun x c hx => CIns.go (KeptB.of (kept_of_below hB)) (fun b hb => hb.2) (CIns.lt hx)
    have HF := Lib.hid (And.intro h2 (And.intro hrows' hB))
    clear h2 h3 h5 hB hown p1 p2 p3 p4 hs hrows hcells hone hrows'
    go_enter Try.func47, Try.ntmps47
    go_wp2_with (first | (at_builtin; refine wpList_append_runs rfl (.tmp 5) (.tmp 6) 47 47 rfl _ _ rfl rfl hr ?_) | simp only [heq, Option.isNone])
    go_ret
    exact ⟨⟨v', cs, rfl, HF.out.1, HF.out.2.1⟩, HF.out.2.2⟩

def ToldI_ (xs : List InsD) (w : World) (e : Ending) (w' : World) : Prop :=
  (∃ A c, e = .returned (.slice A xs.length c) ∧ SL w' 5 (RInsB (BG w.heap.size w')) A c xs) ∧ Below w.heap.size w w'

theorem setG_mid {cs r : List Value} {a b c d e v : Value} {k : Nat} (h : cs.length = k * 5) : (cs ++ ([a, b, c, d, e] ++ r)).set (k * 5 + 2) v = (cs ++ [a, b, v, d, e]) ++ r := by
  rw [List.set_append_right _ _ (by omega), show k * 5 + 2 - cs.length = 2 by omega, List.append_assoc]; rfl
theorem get_mid {cs r : List Value} {a b c d e : Value} {k : Nat} (h : cs.length = k * 5) : (cs ++ ([a, b, c, d, e] ++ r))[k * 5 + 2]? = some c := by
  rw [List.getElem?_append_right (by omega), show k * 5 + 2 - cs.length = 2 by omega]; rfl

set_option maxRecDepth 100000 in
set_option maxHeartbeats 8000000 in
theorem insOf_any (xs : List InsD) (v : Value) (w : World) (hv : VS w 5 RIns v xs) (hn : xs.length ≤ 1000) (ha : ∀ x ∈ xs, x.args.length ≤ 1000) : Calls Try.prog 34 #[v] w (ToldI_ xs w) := by
  have HC := Lib.hid (cloneIns_any xs v w hv hn)
  have HAL := Lib.hid ha
  obtain ⟨A, c, rfl, -⟩ := hv
  clear ha
  go_enter Try.func34, Try.ntmps34
  go_wp2_with fail
  refine HC.out.mono ?_
  rintro e w1 ⟨⟨vc, cs, rfl, ho, hr⟩, hb1⟩
  have hvc : ∃ A' c', vc = .slice A' xs.length c' := by
    rcases ho.2 with ⟨e, h0⟩ | ⟨g, c', cur, e, _⟩
    · exact ⟨none, 0, by rw [e, h0]⟩
    · exact ⟨_, _, e⟩
  obtain ⟨A', c', rfl⟩ := hvc
  have HB1 := Lib.hid hb1
  have HO1 := Lib.hid ho
  have HR1 := Lib.hid hr
  clear hb1 ho hr HC
  go_wp2_with fail
  go_loopw [9] (fun i wr => ∃ (k : Nat) (cs1 cs2 : List Value), k ≤ xs.length ∧ i = .int .i64 k ∧ Below w.heap.size w wr ∧ wr.ownsRow w.heap.size 69 5 (.slice A' xs.length c') xs.length (cs1 ++ cs2) ∧
    Rows 5 (CIns (BF w.heap.size (.slice A' xs.length c') wr) wr) (xs.take k) cs1 ∧ Rows 5 (CIns (fun b => b < w.heap.size) wr) (xs.drop k) cs2) (fun i _ => xs.length - (intOf i).toNat)
  case atStart => exact ⟨0, [], cs, Nat.zero_le _, rfl, HB1.out, HO1.out, rfl, HR1.out⟩
  case round =>
    obtain ⟨k, cs1, cs2, hk, rfl, hb, ho, hr1, hr2⟩ := hrel
    have HB := Lib.hid hb
    have HO := Lib.hid ho
    have HR := Lib.hid hr1
    by_cases hlt : k < xs.length
    · obtain ⟨x, hx⟩ : ∃ x, xs[k]? = some x := ⟨_, List.getElem?_eq_getElem hlt⟩
      have hd : xs.drop k = x :: xs.drop (k + 1) := by
        obtain ⟨_, rfl⟩ := List.getElem?_eq_some_iff.1 hx
        exact List.drop_eq_getElem_cons hlt
      rw [hd] at hr2
      obtain ⟨c0, r, rfl, -, ⟨Ax, cx, rfl, hax, g0, g1, g3, g4⟩, hrr⟩ := hr2
      obtain ⟨g, cap, hform, hg1, hg2⟩ := ho.form (by omega)
      cases hform
      have hl1 : cs1.length = k * 5 := by have := rows_len_ hr1; rw [List.length_take, Nat.min_eq_left (by omega)] at this; exact this
      have hc2 := ho.cellAt (k * 5 + 2) (by omega)
      rw [get_mid hl1] at hc2
      have hf2 := ho.frozenAt (k * 5 + 2)
      have hk0 : (0 : Int) ≤ k := by omega
      have hk1 : (k : Int) < xs.length := by omega
      have hxl := HAL.out x (List.mem_of_getElem? hx)
      have HCL := Lib.hid (cloneInts_any x.args (.slice Ax x.args.length cx) wr ⟨Ax, cx, rfl, SL.imp RIntB.plain hax⟩ (by omega))
      have HX := Lib.hid hx
      have H64 : Hid (∀ y ∈ x.args, I64 y) := Lib.hid (fun y hy => by
        obtain ⟨j, hj⟩ := List.getElem?_of_mem hy
        obtain ⟨_, _, h4⟩ := hax
        obtain ⟨b', o', e', hr'⟩ := h4 (by have := (List.getElem?_eq_some_iff.1 hj).1; omega)
        exact (hr' j y hj).2.2)
      have HI := Lib.hid (And.intro g0 (And.intro g1 (And.intro g3 g4)))
      have HL1 := Lib.hid hl1
      have HRR := Lib.hid hrr
      clear hb ho hr1 hd hax g0 g1 g3 g4 hx hrr hl1
      go_wp2_with fail
      refine HCL.out.mono ?_
      rintro e w2 ⟨⟨va, rfl, hoa⟩, hb2⟩
      obtain ⟨A2, c2, rfl, hs2⟩ := slG_of_own hoa H64.out (base' := wr.heap.size) (Nat.le_refl _)
      have hown2 := ownsRow_block (w' := w2) HO.out (fun g hg => hb2.block g (HO.out.lt g hg).2)
      have hcell2 : w2.cell? ⟨g, k * 5 + 2, none⟩ = some (.slice Ax x.args.length cx) := (hb2.cell (p := ⟨g, k * 5 + 2, none⟩) hg2).trans hc2
      have hfree2 : w2.frozen? ⟨g, k * 5 + 2, none⟩ = false := (hb2.frozen (p := ⟨g, k * 5 + 2, none⟩) hg2).trans hf2
      have hst := (hown2.stored (k * 5 + 2) (.slice A2 x.args.length c2)).1
      rw [setG_mid HL1.out] at hst
      have hset : ∀ b, b ≠ g → (w2.setCell ⟨g, k * 5 + 2, none⟩ (.slice A2 x.args.length c2)).heap[b]? = w2.heap[b]? := fun b hb => Below.heap_setCell _ _ _ _ hb
      have hrn : Rows 5 (CIns (BF w.heap.size (.slice (some ⟨g, 0, none⟩) xs.length c') (w2.setCell ⟨g, k * 5 + 2, none⟩ (.slice A2 x.args.length c2))) (w2.setCell ⟨g, k * 5 + 2, none⟩ (.slice A2 x.args.length c2))) (xs.take (k + 1)) (cs1 ++ [.int .i64 x.op, .int .i64 x.dst, .slice A2 x.args.length c2, .int .i64 x.imm, .int .i64 x.fn]) := by
        rw [take_succ_of HX.out]
        refine rows_grow (F := CIns) (fun _ _ _ _ _ _ h1 h2 h3 => CIns.go h1 h2 h3) HR.out (fun b hb hne => (hset b (fun e => hne (by rw [e]; rfl))).trans (hb2.block b hb)) (.inl rfl) rfl ?_
        refine ⟨A2, c2, rfl, ?_, HI.out.1, HI.out.2.1, HI.out.2.2.1, HI.out.2.2.2⟩
        exact SIntsB.go (B := BG wr.heap.size w2) (fun a v hb ha => (World.cell?_of_block (hset a.block (fun e => by have := hb.1; omega))).trans ha) (fun b hb => ⟨⟨by have := HB.out.size; have := hb.1; omega, hb.2.set _ _ _⟩, fun e => by have : b = g := Option.some.inj e; have := hb.1; omega⟩) hs2
      have hrr2 : Rows 5 (CIns (fun b => b < w.heap.size) (w2.setCell ⟨g, k * 5 + 2, none⟩ (.slice A2 x.args.length c2))) (xs.drop (k + 1)) r := HRR.out.imp fun y d hy => CIns.go (B := fun b => b < w.heap.size) (fun a v hb ha => (World.cell?_of_block ((hset a.block (fun e => by omega)).trans (hb2.block a.block (by have := HB.out.size; omega)))).trans ha) (fun b hb => hb) hy
      have HBN : Hid (Below w.heap.size w (w2.setCell ⟨g, k * 5 + 2, none⟩ (.slice A2 x.args.length c2))) := Lib.hid ((HB.out.trans (hb2.mono HB.out.size)).setCell (by show w.heap.size ≤ g; exact hg1) _)
      have HST := Lib.hid hst
      have HRN := Lib.hid hrn
      have HRR2 := Lib.hid hrr2
      clear hoa hb2 hs2 hown2 hst hset hrn hrr2 hc2 hf2 HCL
      go_wp2_with fail
      go_roundw
      case rel => exact ⟨k + 1, _, r, by omega, by go_num, HBN.out, HST.out, HRN.out, HRR2.out⟩
      case measure => simp [intOf]; omega
    · have hkk : xs.take k = xs := List.take_of_length_le (by omega)
      have hdd : xs.drop k = [] := List.drop_eq_nil_of_le (by omega)
      rw [hkk] at hr1
      rw [hdd] at hr2
      obtain rfl : cs2 = [] := hr2
      rw [List.append_nil] at ho
      have hrd := hr1.reads (R := RInsB (BG w.heap.size wr)) ho (fun g o x c hg hb hx hc hcell => CIns.reads ⟨hb, Fz.own ho hg⟩ (CIns.go (fun _ _ _ h => h) (fun b hb => hb.1) hx) hcell)
      obtain ⟨Ar, cr, hu, hrs⟩ := hrd
      cases hu
      have HRS := Lib.hid hrs
      clear hb ho hr1 hrs hkk hdd
      go_wp2_with fail
      go_ret
      exact ⟨⟨_, _, rfl, HRS.out⟩, HB.out⟩
end Go.Proofs.Ytooblmiffgjmjaa
