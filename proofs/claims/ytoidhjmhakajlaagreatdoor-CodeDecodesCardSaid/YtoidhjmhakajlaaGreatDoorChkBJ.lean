/- Rule 2: isTyped. -/
import Derived.Test.YtoidhjmhakajlaaGreatDoorSpecJ
import Derived.Deep.QuietTactic
import Derived.BigQuiet
import Derived.Deep.OwnRows
import Derived.Deep.AppendLies
namespace Go.Proofs.YtoidhjmhakajlaaGreatDoor
open Go.ChangeShapes Go.WideShapes Go.RowKit Go.Deep
set_option linter.unusedVariables false

set_option maxRecDepth 100000 in
set_option maxHeartbeats 4000000 in
theorem isTyped_any (f : FunD) (v : Value) (w : World) (hv : VFun w v f) :
    Calls Tryz.prog 73 #[v] w fun e w' => e = .returned (.bool (typedB f)) ∧ Below w.heap.size w w' := by
  obtain ⟨Ar, cr, A, c, rfl, hr, hb, -, -⟩ := hv
  have hrl := hr.len
  go_enter Tryz.func73, Tryz.ntmps73
  go_wp2_with fail
  obtain ⟨w1, hw1, hs1, hk1, hbel1, hc1, -⟩ := named w #[.int .i64 f.params, .int .i64 f.result, .slice Ar f.regs.length cr, .slice A f.blocks.length c] 57
  have hc0 := hc1 0 _ rfl
  have hcr := hc1 1 _ rfl
  have hc2 := hc1 2 _ rfl
  rw [← hw1]
  clear hw1 hc1
  have hs1 : w.heap.size < w1.heap.size := by omega
  go_loopw [8] (fun i wr => ∃ k : Nat, k ≤ f.regs.length ∧ i = .int .i64 k ∧ Hid ((f.regs.take k).all isTy = true) ∧ wr = w1) (fun i _ => f.regs.length - (intOf i).toNat)
  case atStart => exact ⟨0, Nat.zero_le _, rfl, Lib.hid rfl, rfl⟩
  case round =>
    obtain ⟨k, hk, rfl, hi, rfl⟩ := hrel
    by_cases hlt : k < f.regs.length
    · obtain ⟨b, o, x, rfl, hx, hxc, -⟩ := (SInts.keep hk1 hr).int hlt
      by_cases h1 : x = 1
      · subst h1
        go_wp2_with fail
        go_roundw
        case rel => exact ⟨k + 1, by omega, by go_num, Lib.hid (by rw [all_step hx.out hi.out]; rfl), trivial⟩
        case measure => simp [intOf]; omega
      · by_cases h2 : x = 2
        · subst h2
          clear h1
          go_wp2_with fail
          go_roundw
          case rel => exact ⟨k + 1, by omega, by go_num, Lib.hid (by rw [all_step hx.out hi.out]; rfl), trivial⟩
          case measure => simp [intOf]; omega
        · have hf : isTy x = false := decide_eq_false (by omega)
          have h1' : (x != 1) = true := by simpa using h1
          have h2' : (x != 2) = true := by simpa using h2
          have HF := Lib.hid hf
          clear h1 h2 hf
          go_wp2_with fail
          go_ret
          exact ⟨by unfold typedB; rw [all_stop hx.out HF.out]; rfl, hbel1⟩
    · have hd := all_done hi.out (Nat.le_of_not_lt hlt)
      have HD := Lib.hid hd
      clear hd
      by_cases hp : 0 ≤ f.params ∧ f.params ≤ 8 ∧ f.params ≤ f.regs.length
      · obtain ⟨p1, p2, p3⟩ := hp
        have HT : Hid (typedB f = decide (f.result = 0 ∨ f.result = 1 ∨ f.result = 2)) := Lib.hid (by unfold typedB; rw [HD.out, decide_eq_true (show 0 ≤ f.params ∧ f.params ≤ 8 ∧ f.params ≤ f.regs.length from ⟨p1, p2, p3⟩)]; rfl)
        by_cases r0 : f.result = 0
        · have HR : Hid (typedB f = true) := Lib.hid (by rw [HT.out]; exact decide_eq_true (by omega))
          have r0' : (f.result == 0) = true := by simpa using r0
          clear r0 HT
          go_wp2_with fail
          go_ret
          exact ⟨by rw [HR.out]; rfl, hbel1⟩
        · by_cases r1 : f.result = 1
          · have HR : Hid (typedB f = true) := Lib.hid (by rw [HT.out]; exact decide_eq_true (by omega))
            have r0' : (f.result == 0) = false := by simpa using r0
            have r1' : (f.result == 1) = true := by simpa using r1
            clear r0 r1 HT
            go_wp2_with fail
            go_ret
            exact ⟨by rw [HR.out]; rfl, hbel1⟩
          · have HR : Hid (typedB f = decide (f.result = 2)) := Lib.hid (by rw [HT.out]; congr 1; rw [eq_iff_iff]; omega)
            have r0' : (f.result == 0) = false := by simpa using r0
            have r1' : (f.result == 1) = false := by simpa using r1
            clear r0 r1 HT
            go_wp2_with fail
            go_ret
            exact ⟨by rw [HR.out]; simp [Bool.beq_eq_decide_eq], hbel1⟩
      · have HT : Hid (typedB f = false) := Lib.hid (by unfold typedB; rw [decide_eq_false hp, Bool.and_false]; rfl)
        by_cases p1 : f.params < 0
        · clear hp
          go_wp2_with fail
          all_goals (go_ret; exact ⟨by rw [HT.out]; rfl, hbel1⟩)
        · by_cases p2 : 8 < f.params
          · clear hp
            go_wp2_with fail
            all_goals (go_ret; exact ⟨by rw [HT.out]; rfl, hbel1⟩)
          · have p3 : (f.regs.length : Int) < f.params := by omega
            clear hp
            go_wp2_with fail
            all_goals (go_ret; exact ⟨by rw [HT.out]; rfl, hbel1⟩)
end Go.Proofs.YtoidhjmhakajlaaGreatDoor

/- The program's Ahead: a row of rows, row i the blocks ahead of i. -/
namespace Go.Proofs.YtoidhjmhakajlaaGreatDoor
open Go.ChangeShapes Go.WideShapes Go.RowKit Go.Deep
set_option linter.unusedVariables false

theorem isAt_yes (a b : Int) (w : World) (h0 : 0 ≤ a) (h1 : a < b) : Calls Tryz.prog 91 #[.int .i64 a, .int .i64 b] w fun e w' => e = .returned (.bool true) ∧ w = w' := by
  go_enter Tryz.func91, Tryz.ntmps91
  go_wp2_with fail
  go_ret
  exact ⟨rfl, rfl⟩
theorem isAt_no (a b : Int) (w : World) (h : ¬ (0 ≤ a ∧ a < b)) : Calls Tryz.prog 91 #[.int .i64 a, .int .i64 b] w fun e w' => e = .returned (.bool false) ∧ w = w' := by
  by_cases h0 : 0 ≤ a
  · have h1 : b ≤ a := by omega
    clear h
    go_enter Tryz.func91, Tryz.ntmps91
    go_wp2_with fail
    go_ret
    exact ⟨by simp [h1], rfl⟩
  · clear h
    go_enter Tryz.func91, Tryz.ntmps91
    go_wp2_with fail
    go_ret
    exact ⟨rfl, rfl⟩
/-- Is it the number of one of so many? -/
def isAtB (a : Int) (n : Int) : Bool := decide (0 ≤ a ∧ a < n)
theorem isAt_any (a b : Int) (w : World) : Calls Tryz.prog 91 #[.int .i64 a, .int .i64 b] w fun e w' => e = .returned (.bool (isAtB a b)) ∧ w = w' := by
  by_cases h : 0 ≤ a ∧ a < b
  · exact (isAt_yes a b w h.1 h.2).mono fun e w' h' => ⟨by rw [h'.1, isAtB, decide_eq_true h], h'.2⟩
  · exact (isAt_no a b w h).mono fun e w' h' => ⟨by rw [h'.1, isAtB, decide_eq_false h], h'.2⟩

/-- Is a list's last number n? -/
def endsB (l : List Int) (n : Int) : Bool := l.getLast? == some n

theorem endsWith_any (l : List Int) (v : Value) (n : Int) (w : World) (hv : VS w 1 RInt v l) :
    Calls Tryz.prog 92 #[v, .int .i64 n] w fun e w' => e = .returned (.bool (endsB l n)) ∧ w = w' := by
  obtain ⟨A, c, rfl, hl⟩ := hv
  have hlen := hl.len
  by_cases h0 : l.length = 0
  · have he : endsB l n = false := by
      rw [List.length_eq_zero_iff.1 h0]; rfl
    rw [he]
    clear he
    have h00 : ¬ (0 < l.length) := by omega
    have H0 := Lib.hid h0
    clear h0
    go_enter Tryz.func92, Tryz.ntmps92
    go_wp2_with fail
    go_ret
    exact ⟨rfl, rfl⟩
  · have h1 : 0 < l.length := by omega
    clear h0
    obtain ⟨b, o, x, rfl, hx, hc, -⟩ := hl.int (k := l.length - 1) (by omega)
    have he : endsB l n = (x == n) := by
      rw [endsB, List.getLast?_eq_getElem?, hx.out]; rfl
    rw [he]
    have hc' : w.cell? ⟨b, o + (l.length - 1), none⟩ = some (.int .i64 x) := hc
    clear he hx
    go_enter Tryz.func92, Tryz.ntmps92
    go_wp2_with fail
    go_ret
    exact ⟨rfl, rfl⟩

/-! ### The row of rows -/
structure Grid (w : World) (G n : Nat) (V : Nat → Value) (L : Nat → List Int) : Prop where
  row : w.rowIs G 54 n V
  own : ∀ i, i < n → w.ownsRow (G + 1) 3 1 (V i) (L i).length ((L i).map (Value.int .i64))
  apart : ∀ i j, i < n → j < n → i ≠ j → (V i).ownBlock = none ∨ (V i).ownBlock ≠ (V j).ownBlock

theorem Grid.congr {w : World} {G n : Nat} {V : Nat → Value} {L L' : Nat → List Int} (h : Grid w G n V L) (e : ∀ i, i < n → L i = L' i) : Grid w G n V L' :=
  ⟨h.row, fun i hi => by rw [← e i hi]; exact h.own i hi, h.apart⟩
theorem Grid.alloc {w : World} {G n : Nat} {V : Nat → Value} {L : Nat → List Int} (h : Grid w G n V L) (o : Obj) : Grid (w.alloc o) G n V L :=
  ⟨h.row.alloc o, fun i hi => (h.own i hi).alloc o, h.apart⟩
theorem Grid.drewN {w : World} {G n : Nat} {V : Nat → Value} {L : Nat → List Int} (h : Grid w G n V L) (k : Nat) : Grid (w.drewN k) G n V L := ⟨h.row, h.own, h.apart⟩
theorem Grid.made (w : World) (G n : Nat) (hG : G = w.heap.size) : Grid (w.alloc (.cells (madeCells #[.slice none 0 0] n) 54)) G n (fun _ => .slice none 0 0) (fun _ => []) := by
  subst hG
  exact ⟨World.rowIs_made w _ n _, fun i _ => World.ownsRow_nil _ _ _ _, fun i j _ _ _ => .inl rfl⟩
theorem Grid.push {w w3 : World} {G n : Nat} {V : Nat → Value} {L : Nat → List Int} (h : Grid w G n V L) {t : Nat} (ht : t < n) {g cap : Nat} {x : Int}
    (hown : w3.ownsRow (G + 1) 3 1 (.slice (some ⟨g, 0, none⟩) ((L t).length + 1) cap) ((L t).length + 1) ((L t).map (Value.int .i64) ++ [.int .i64 x]))
    (hgrow : w.grownBy w3 (V t).ownBlock) (hloc : (V t).ownBlock = some g ∨ g = w.heap.size) :
    Grid (w3.setCell ⟨G, t, none⟩ (.slice (some ⟨g, 0, none⟩) ((L t).length + 1) cap)) G n (fun j => if j = t then .slice (some ⟨g, 0, none⟩) ((L t).length + 1) cap else V j) (fun j => if j = t then L t ++ [x] else L j) := by
  have hblk : w3.heap[G]? = w.heap[G]? := hgrow.block G h.row.lt (fun e => by have := ((h.own t ht).lt G e.symm).1; omega)
  have hrow3 : w3.rowIs G 54 n V := h.row.of_block hblk
  refine ⟨hrow3.set t _, fun j hj => ?_, fun i j hi hj hij => ?_⟩
  · by_cases e : j = t
    · subst e
      simp only [if_true]
      have := ownsRow_setCell_below hown (a := ⟨G, j, none⟩) (by show G < G + 1; omega) (.slice (some ⟨g, 0, none⟩) ((L j).length + 1) cap)
      simpa using this
    · simp only [if_neg e]
      exact ownsRow_setCell_below ((h.own j hj).kept hgrow (h.apart j t hj ht e)) (a := ⟨G, t, none⟩) (by show G < G + 1; omega) _
  · have key : ∀ j, j < n → j ≠ t → (V j).ownBlock = none ∨ (V j).ownBlock ≠ some g := fun j hj hjt => by
      rcases hloc with e | e
      · rw [← e]; exact h.apart j t hj ht hjt
      · cases hb : (V j).ownBlock with
        | none => exact .inl rfl
        | some b => right; intro e2; have := ((h.own j hj).lt b hb).2; simp at e2; omega
    by_cases ei : i = t
    · subst ei
      simp only [if_true, if_neg (Ne.symm hij)]
      right
      rcases key j hj (Ne.symm hij) with e | e
      · rw [e]; simp [Value.ownBlock]
      · intro e2; exact e (e2.symm.trans rfl)
    · by_cases ej : j = t
      · subst ej
        simp only [if_true, if_neg ei]
        exact key i hi ei
      · simp only [if_neg ei, if_neg ej]
        exact h.apart i j hi hj hij

theorem Tryz.info54 : (Tryz.prog.info? 54).map (fun i => (i.zero, i.size, i.bytes)) = some (some (.slice none 0 0), 1, 24) := by kernel_rfl

/-! ### What the loops come to -/
def LJ (bs : List BlkD) (k : Nat) (t : List Int) (i : Nat) : List Int := aheadL (bs.take k) i ++ (if hasTo i t then [(k : Int)] else [])
theorem LJ_nil (bs : List BlkD) (k i : Nat) : LJ bs k [] i = aheadL (bs.take k) i := by simp [LJ, hasTo]
theorem LJ_all {bs : List BlkD} {k : Nat} {x : BlkD} (i : Nat) (h : bs[k]? = some x) : LJ bs k x.term.to i = aheadL (bs.take (k + 1)) i := (aheadL_step i h).symm
theorem LJ_ends (bs : List BlkD) (k : Nat) (t : List Int) (i : Nat) : endsB (LJ bs k t i) k = hasTo i t := by
  unfold LJ endsB
  cases h : hasTo i t
  · simp only [if_neg Bool.false_ne_true, List.append_nil]
    rw [beq_eq_false_iff_ne]
    intro e
    have hm := List.mem_of_getLast? e
    have := aheadK_mem (bs.take k) 0 i _ hm
    simp at this; omega
  · simp
theorem LJ_len (bs : List BlkD) (k : Nat) (t : List Int) (i : Nat) : (LJ bs k t i).length ≤ bs.length + 1 := by
  unfold LJ
  have := aheadK_len (bs.take k) 0 i
  rw [List.length_append, aheadL]
  have h2 : (bs.take k).length ≤ bs.length := by simp; omega
  split <;> simp <;> omega
theorem LJ_i64 (bs : List BlkD) (k : Nat) (t : List Int) (i : Nat) (hk : k ≤ 1000000) (h : bs.length ≤ 1000000) : ∀ x ∈ LJ bs k t i, I64 x := by
  intro x hx
  unfold LJ at hx
  rcases List.mem_append.1 hx with hx | hx
  · exact aheadL_i64 _ _ (by simp; omega) x hx
  · split at hx
    · rw [List.mem_singleton.1 hx]; unfold I64; omega
    · simp at hx
/-- A To that is no block's number changes nothing. -/
theorem LJ_out {bs : List BlkD} {k : Nat} {t : List Int} {j : Nat} {x : Int} (hx : t[j]? = some x) (i : Nat) (h : x ≠ i) : LJ bs k (t.take j) i = LJ bs k (t.take (j + 1)) i := by
  unfold LJ
  rw [hasTo_step _ hx, beq_eq_false_iff_ne.2 h, Bool.or_false]
theorem LJ_again {bs : List BlkD} {k : Nat} {t : List Int} {j : Nat} {x : Int} (hx : t[j]? = some x) (i : Nat) (h : hasTo x (t.take j) = true) : LJ bs k (t.take j) i = LJ bs k (t.take (j + 1)) i := by
  by_cases e : x = i
  · unfold LJ; rw [hasTo_step _ hx, ← e, h]; rfl
  · exact LJ_out hx i e
theorem LJ_new {bs : List BlkD} {k : Nat} {t : List Int} {j : Nat} {q : Nat} (hx : t[j]? = some (q : Int)) (i : Nat) (h : hasTo q (t.take j) = false) :
    (if i = q then LJ bs k (t.take j) q ++ [(k : Int)] else LJ bs k (t.take j) i) = LJ bs k (t.take (j + 1)) i := by
  by_cases e : i = q
  · subst e; rw [if_pos rfl]; unfold LJ; rw [hasTo_step _ hx, h]; simp
  · rw [if_neg e, LJ_out hx i (fun e2 => e (by omega))]

/-- A slice of slices reads as a list of lists. -/
def RRow (w : World) (b o : Nat) (xs : List Int) : Prop := CS w b o 1 RInt xs
def rows (bs : List BlkD) : List (List Int) := (List.range bs.length).map fun i => aheadL bs (i : Nat)

theorem rows_len (bs : List BlkD) : (rows bs).length = bs.length := by simp [rows]
theorem rows_at {bs : List BlkD} {k : Nat} {x : List Int} (h : (rows bs)[k]? = some x) : x = aheadL bs k := by
  unfold rows at h
  rw [List.getElem?_map] at h
  obtain ⟨i, hi, rfl⟩ := Option.map_eq_some_iff.1 h
  obtain ⟨hl, rfl⟩ := List.getElem?_eq_some_iff.1 hi
  simp
theorem RRow.keep {w w' : World} (h : Kept w w') (b o : Nat) (x : List Int) (hv : RRow w b o x) : RRow w' b o x := CS.keep h (RInt.keep h) hv
theorem Grid.reads {w : World} {G : Nat} {V : Nat → Value} {bs : List BlkD} (h : Grid w G bs.length V (fun i => aheadL bs i)) (hn : bs.length ≤ 1000000) : SL w 1 RRow (some ⟨G, 0, none⟩) bs.length (rows bs) := by
  refine ⟨by rw [rows_len]; omega, ⟨by unfold maxLen; omega, fun e => by cases e⟩, fun _ => ⟨G, 0, rfl, fun i x hi => ?_⟩⟩
  have hl : i < bs.length := by have := (List.getElem?_eq_some_iff.1 hi).1; rwa [rows_len] at this
  rw [rows_at hi, Nat.mul_one, Nat.zero_add]
  obtain ⟨A, c, e, hs⟩ := vs_of_own (h.own i hl) (aheadL_i64 _ _ (by omega))
  exact ⟨A, c, (h.row.cell hl).trans (congrArg some e), hs⟩

set_option maxRecDepth 100000 in
set_option maxHeartbeats 4000000 in
theorem ahead_any (f : FunD) (v : Value) (w : World) (hv : VFun w v f) (hn : f.blocks.length ≤ 1000000) :
    Calls Tryz.prog 63 #[v] w fun e w' => (∃ V G, e = .returned (.slice (some ⟨G, 0, none⟩) f.blocks.length f.blocks.length) ∧ w.heap.size ≤ G ∧ Grid w' G f.blocks.length V (fun i => aheadL f.blocks i)) ∧ Below w.heap.size w w' := by
  obtain ⟨Ar, cr, A, c, rfl, hr, hb, -, -⟩ := hv
  have hbl := hb.len
  obtain ⟨i0, hi, hz0, hz1, hz2⟩ := info_parts Tryz.info3
  have HI := Lib.hid (And.intro hi (And.intro hz0 (And.intro hz1 hz2)))
  clear hi hz0 hz1 hz2
  have hmk := run_make_row' (P := Tryz.prog) 138 54 (.slice none 0 0) 24 Tryz.underlying138 Tryz.info54 rfl .i64 .i64 f.blocks.length (by omega) (by omega)
  go_enter Tryz.func63, Tryz.ntmps63
  go_wp2_with fail
  clear hmk
  obtain ⟨w1, hw1, hs1, hk1, hbel1, hc1, -⟩ := named w #[.int .i64 f.params, .int .i64 f.result, .slice Ar f.regs.length cr, .slice A f.blocks.length c] 57
  have hc1 := hc1 3 _ rfl
  rw [← hw1]
  clear hw1
  have hgr := Grid.made w1 (w.heap.size + 1) f.blocks.length hs1.symm
  have hbel1' : Below (w.heap.size + 1) w1 (w1.alloc (.cells (madeCells #[.slice none 0 0] f.blocks.length) 54)) := (Below.refl _ _).alloc (by omega) _
  have hs2 : w.heap.size + 1 < (w1.alloc (.cells (madeCells #[.slice none 0 0] f.blocks.length) 54)).heap.size := by simp; omega
  generalize w1.alloc (.cells (madeCells #[.slice none 0 0] f.blocks.length) 54) = w2 at *
  have HS1 := Lib.hid hs1
  clear hs1
  go_loopw [15] (fun i wr => ∃ (k : Nat) (V : Nat → Value), k ≤ f.blocks.length ∧ i = .int .i64 k ∧ Below (w.heap.size + 1) w1 wr ∧ w.heap.size + 1 < wr.heap.size ∧ Grid wr (w.heap.size + 1) f.blocks.length V (fun i => aheadL (f.blocks.take k) i)) (fun i _ => f.blocks.length - (intOf i).toNat)
  case atStart => exact ⟨0, _, Nat.zero_le _, rfl, hbel1', hs2, hgr⟩
  case round =>
    obtain ⟨k, V, hk, rfl, hbel, hs, hg⟩ := hrel
    obtain ⟨wo, rfl⟩ : ∃ wo, wo = wr := ⟨wr, rfl⟩
    have hkw : Kept w1 wo := kept_below hbel (by have := HS1.out; omega)
    have hbox := hkw _ _ hc1
    by_cases hlt : k < f.blocks.length
    · obtain ⟨b, o, kb, rfl, hkb, ⟨Ap, cp, hphi, -⟩, ⟨Ai, ci, hins, -⟩, ⟨hkd, -⟩, ⟨har, -⟩, ⟨At, ct, hto, htos⟩⟩ := (SBlks.keep hk1 hb).at_ hlt
      have hphi := hkw _ _ hphi
      have hins := hkw _ _ hins
      have hkd := hkw _ _ hkd
      have har := hkw _ _ har
      have hto := hkw _ _ hto
      have htl := htos.len
      go_wp2_with fail
      clear hphi hins hkd har hto
      obtain ⟨w3, hw3, hs3, hk3, hbel3, -, -⟩ := named wo #[.slice Ap kb.phis.length cp, .slice Ai kb.ins.length ci, .int .i64 kb.term.kind, .int .i64 kb.term.arg, .slice At kb.term.to.length ct] 63
      have hg3 : Grid w3 (w.heap.size + 1) f.blocks.length V (LJ f.blocks k []) := by
        rw [hw3]; exact (hg.alloc _).congr (fun i _ => (LJ_nil _ _ _).symm)
      have hb3 : Below (w.heap.size + 1) w1 w3 := hbel.trans (hbel3.mono (by omega))
      have hs3 : w.heap.size + 1 < w3.heap.size := by omega
      rw [← hw3]
      clear hw3
      go_loopw [24] (fun i wr => ∃ (j : Nat) (V : Nat → Value), j ≤ kb.term.to.length ∧ i = .int .i64 j ∧ Below (w.heap.size + 1) w1 wr ∧ w.heap.size + 1 < wr.heap.size ∧ Grid wr (w.heap.size + 1) f.blocks.length V (LJ f.blocks k (kb.term.to.take j))) (fun i _ => kb.term.to.length - (intOf i).toNat)
      case atStart => exact ⟨0, V, Nat.zero_le _, rfl, hb3, hs3, hg3⟩
      case round =>
        obtain ⟨j, V', hj, rfl, hbelr, hsr, hgr'⟩ := hrel
        have hkr : Kept w1 wr := kept_below hbelr (by have := HS1.out; omega)
        have hboxr := hkr _ _ hc1
        by_cases hjt : j < kb.term.to.length
        · obtain ⟨b', o', x, rfl, hx, hxc, -⟩ := htos.int hjt
          have hxc := hkr _ _ hxc
          by_cases hin : 0 ≤ x ∧ x < f.blocks.length
          · obtain ⟨q, rfl⟩ : ∃ q : Nat, x = q := ⟨x.toNat, by omega⟩
            have hq : q < f.blocks.length := by omega
            have hq1 : (q : Int) < f.blocks.length := by omega
            have hq0 : (0 : Int) ≤ q := by omega
            clear hin
            have hrow := hgr'.row.cell hq
            have hvs : VS wr 1 RInt (V' q) (LJ f.blocks k (kb.term.to.take j) q) := vs_of_own (hgr'.own q hq) (LJ_i64 _ _ _ _ (by omega) hn)
            have he := LJ_ends f.blocks k (kb.term.to.take j) q
            have HE := Lib.hid he
            clear he
            go_wp2_with fail
            refine (isAt_yes _ _ _ hq0 hq1).mono ?_
            rintro e w' ⟨rfl, rfl⟩
            go_wp2_with fail
            refine (endsWith_any _ _ _ _ hvs).mono ?_
            rintro e w' ⟨rfl, rfl⟩
            rw [HE.out]
            cases hh : hasTo q (kb.term.to.take j)
            · have HH := Lib.hid hh
              clear hh
              have hll := LJ_len f.blocks k (kb.term.to.take j) q
              go_wp2_with (at_builtin; refine wpList_append_lies _ rfl (.tmp 47) (.tmp 49) 54 rfl (w.heap.size + 1 + 1) 3 i0 (.int .i64 0) 1 8 Tryz.underlying54 HI.out.1 HI.out.2.1 HI.out.2.2.1 HI.out.2.2.2 rfl (by decide) (V' q) _ _ rfl ((hgr'.own q hq).alloc _) ⟨wr.heap.size, 0, none⟩ 1 1 [.int .i64 k] rfl rfl ?c1 ?c2 ?c0 ?c3 ?c4 ?c5 (wr.heap.size + 1) ?c6 ?_)
              case c1 => exact news_one_add wr _ _ rfl
              case c2 => exact ints_oneCell .i64 [(k : Int)]
              case c0 => omega
              case c3 => unfold maxLen; omega
              case c4 => omega
              case c5 => simp; omega
              case c6 => simp
              intro g cap w4 hown4 hgrow4 hloc4 hlt4
              have hgp := Grid.push (hgr'.alloc _) hq hown4 hgrow4 (by simpa using hloc4)
              have hgp' := hgp.congr (fun i _ => LJ_new hx.out i HH.out)
              have hb4 : Below (w.heap.size + 1) w1 w4 := (hbelr.alloc (by omega) _).grown hgrow4 (by simp; omega) (fun g hg => by have := ((hgr'.own q hq).lt g hg).1; omega)
              have hG4 : w4.heap[w.heap.size + 1]? = (wr.alloc (.cells #[.int .i64 k] 3)).heap[w.heap.size + 1]? := hgrow4.block _ (by simp; omega) (fun e => by have := ((hgr'.own q hq).lt _ e.symm).1; omega)
              have hrow4 := (World.cell?_of_block (a := ⟨w.heap.size + 1, q, none⟩) hG4).trans ((hgr'.row.alloc _).cell hq)
              have hfr4 := (World.frozen?_of_block (a := ⟨w.heap.size + 1, q, none⟩) hG4).trans ((hgr'.row.alloc _).frozen q)
              have hs4 : w.heap.size + 1 < w4.heap.size := by have := hgrow4.size; simp at this; omega
              have HP := Lib.hid hgp'
              clear hgp hgp' hown4 hgrow4 hloc4 hG4 hgr' hrow hvs
              go_wp2_with fail
              go_roundw
              case rel => exact ⟨j + 1, _, by omega, by go_num, hb4.setCell (by show _ ≤ w.heap.size + 1; omega) _, by simpa using hs4, HP.out⟩
              case measure => simp [intOf]; omega
            · have HH := Lib.hid hh
              clear hh
              go_wp2_with fail
              go_roundw
              case rel => exact ⟨j + 1, V', by omega, by go_num, hbelr, hsr, hgr'.congr (fun i _ => LJ_again hx.out i HH.out)⟩
              case measure => simp [intOf]; omega
          · go_wp2_with fail
            refine (isAt_no _ _ _ hin).mono ?_
            rintro e w' ⟨rfl, rfl⟩
            go_wp2_with fail
            go_roundw
            case rel => exact ⟨j + 1, V', by omega, by go_num, hbelr, hsr, hgr'.congr (fun i hi => LJ_out hx.out i (fun e => hin (by omega)))⟩
            case measure => simp [intOf]; omega
        · have hjj : kb.term.to.take j = kb.term.to := List.take_of_length_le (by omega)
          rw [hjj] at hgr'
          clear hjj
          go_wp2_with fail
          go_roundw
          case rel => exact ⟨k + 1, V', by omega, by go_num, hbelr, hsr, hgr'.congr (fun i _ => LJ_all i hkb.out)⟩
          case measure => simp [intOf]; omega
    · have hkk : f.blocks.take k = f.blocks := List.take_of_length_le (by omega)
      rw [hkk] at hg
      clear hkk
      go_wp2_with fail
      go_ret
      exact ⟨⟨V, _, rfl, by omega, hg⟩, hbel1.trans (hbel.mono (by omega))⟩
end Go.Proofs.YtoidhjmhakajlaaGreatDoor

/- Rule 3: hasItsTos, endsWell. -/
namespace Go.Proofs.YtoidhjmhakajlaaGreatDoor
open Go.ChangeShapes Go.WideShapes Go.RowKit Go.Deep
set_option linter.unusedVariables false

set_option maxRecDepth 100000 in
set_option maxHeartbeats 4000000 in
theorem hasItsTos_any (t : TermD) (v : Value) (w : World) (hv : VTerm w v t) :
    Calls Tryz.prog 98 #[v] w fun e w' => e = .returned (.bool (tosB t)) ∧ Below w.heap.size w w' := by
  obtain ⟨A, c, rfl, ht, -, -⟩ := hv
  have htl := ht.len
  have hbel1 : Below w.heap.size w (w.alloc (.cells #[.int .i64 t.kind, .int .i64 t.arg, .slice A t.to.length c] 61)) := (Below.refl _ _).alloc (Nat.le_refl _) _
  by_cases k1 : t.kind = 1
  · have HT : Hid (tosB t = decide (t.to.length = 1)) := Lib.hid (by unfold tosB; rw [if_pos k1])
    have k1' : (t.kind == 1) = true := by simpa using k1
    clear k1
    go_enter Tryz.func98, Tryz.ntmps98
    go_wp2_with fail
    go_ret
    exact ⟨by rw [HT.out]; simp [Bool.beq_eq_decide_eq]; try omega, hbel1⟩
  · have k1' : (t.kind == 1) = false := by simpa using k1
    by_cases k2 : t.kind = 2
    · have k2' : (t.kind == 2) = true := by simpa using k2
      have HT : Hid (tosB t = (decide (t.to.length = 2) && decide (t.to.getD 0 0 ≠ t.to.getD 1 0))) := Lib.hid (by unfold tosB; rw [if_neg k1, if_pos k2])
      clear k1 k2
      by_cases l2 : t.to.length = 2
      · obtain ⟨b, o, x, rfl, hx, hxc, -⟩ := ht.int (k := 0) (by omega)
        obtain ⟨b', o', y, he, hy, hyc, -⟩ := ht.int (k := 1) (by omega)
        simp only [Option.some.injEq, Addr.mk.injEq] at he
        obtain ⟨rfl, rfl, -⟩ := he
        have HT' : Hid (tosB t = decide (x ≠ y)) := Lib.hid (by
          rw [HT.out, decide_eq_true l2, Bool.true_and, List.getD_eq_getElem?_getD, List.getD_eq_getElem?_getD, hx.out, hy.out]; rfl)
        have l2' : ((t.to.length : Int) == 2) = true := by simp [l2]
        have l2'' : 2 ≤ t.to.length := by omega
        have hltx := block_lt_of_cell hxc
        simp only [Nat.add_zero] at hxc
        clear l2 HT
        go_enter Tryz.func98, Tryz.ntmps98
        go_wp2_with fail
        go_quiet (fail)
        go_wp2_with fail
        go_ret
        exact ⟨by rw [HT'.out]; simp [bne, Bool.beq_eq_decide_eq], below_drewN hbel1 _⟩
      · have l2' : ((t.to.length : Int) == 2) = false := by
          rw [beq_eq_false_iff_ne]; omega
        have HT' : Hid (tosB t = false) := Lib.hid (by rw [HT.out, decide_eq_false l2]; rfl)
        clear l2 HT
        go_enter Tryz.func98, Tryz.ntmps98
        go_wp2_with fail
        go_quiet (fail)
        go_wp2_with fail
        go_ret
        exact ⟨by rw [HT'.out]; rfl, below_drewN hbel1 _⟩
    · have k2' : (t.kind == 2) = false := by simpa using k2
      by_cases k3 : t.kind = 3
      · have k3' : (t.kind == 3) = true := by simpa using k3
        have HT : Hid (tosB t = decide (t.to.length = 0)) := Lib.hid (by unfold tosB; rw [if_neg k1, if_neg k2, if_pos k3])
        clear k1 k2 k3
        go_enter Tryz.func98, Tryz.ntmps98
        go_wp2_with fail
        go_ret
        exact ⟨by rw [HT.out]; simp [Bool.beq_eq_decide_eq]; try omega, hbel1⟩
      · have k3' : (t.kind == 3) = false := by simpa using k3
        have HT : Hid (tosB t = false) := Lib.hid (by unfold tosB; rw [if_neg k1, if_neg k2, if_neg k3])
        clear k1 k2 k3
        go_enter Tryz.func98, Tryz.ntmps98
        go_wp2_with fail
        go_ret
        exact ⟨by rw [HT.out]; rfl, hbel1⟩
end Go.Proofs.YtoidhjmhakajlaaGreatDoor
