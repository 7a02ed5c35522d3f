/- Operations under way of one deque, in memory: one more, one a step further. -/
import Derived.Test.YtacadgocoleaoaaOnBJ
import Derived.Test.YtacadgocoleaoaaOpenDJ
namespace Go.Proofs.Ytacadgocoleaoaa
open Go.ChangeShapes Go.WideShapes Go.RowKit Go.Deep
set_option linter.unusedVariables false

/-- Whose the owner's operation is. -/
def OwS (l : List (Nat × OpS)) (ow : Option Nat) : Prop := ∀ p, ow = some p ↔ ∃ o, (p, o) ∈ l ∧ o.kind ≠ 3
/-- No block twice. -/
def NdI (l : List (Nat × OpS)) : Prop := ∀ (i j : Nat) x y, l[i]? = some x → l[j]? = some y → x.1 = y.1 → i = j
structure OnL (wr : World) (D : Nat) (s : DqS) (ow : Option Nat) (l : List (Nat × OpS)) (i : Int) : Prop where
  deq : DeqB wr D s (ovV ow)
  bd : BdS s i
  ops : ∀ x ∈ l, OpB wr x.1 D x.2 ∧ BdO x.2 i
  ne : ∀ x ∈ l, x.1 ≠ D
  nd : NdI l
  ow : OwS l ow
theorem NdI.append {l : List (Nat × OpS)} (h : NdI l) {p : Nat} {o : OpS} (hp : ∀ x ∈ l, x.1 ≠ p) : NdI (l ++ [(p, o)]) := by
  intro i j x y hi hj he
  have key : ∀ {k : Nat} {z : Nat × OpS}, (l ++ [(p, o)])[k]? = some z → (k < l.length ∧ l[k]? = some z) ∨ (k = l.length ∧ z = (p, o)) := fun {k z} hk => by
    by_cases c : k < l.length
    · rw [List.getElem?_append_left c] at hk
      exact .inl ⟨c, hk⟩
    · obtain ⟨c2, -⟩ := List.getElem?_eq_some_iff.1 hk
      rw [List.length_append] at c2
      have c3 : k = l.length := by simp at c2; omega
      subst c3
      rw [List.getElem?_append_right (Nat.le_refl _), Nat.sub_self] at hk
      exact .inr ⟨rfl, (Option.some.inj hk).symm⟩
  rcases key hi with ⟨h1, h2⟩ | ⟨h1, rfl⟩ <;> rcases key hj with ⟨h3, h4⟩ | ⟨h3, rfl⟩
  · exact h i j x y h2 h4 he
  · exact absurd he (hp x (List.mem_of_getElem? h2))
  · exact absurd he.symm (hp y (List.mem_of_getElem? h4))
  · omega
theorem NdI.set {l : List (Nat × OpS)} (h : NdI l) {n p : Nat} {o o' : OpS} (hn : l[n]? = some (p, o)) : NdI (l.set n (p, o')) := by
  intro i j x y hi hj he
  have key : ∀ {k : Nat} {z : Nat × OpS}, (l.set n (p, o'))[k]? = some z → ∃ z', l[k]? = some z' ∧ z'.1 = z.1 := fun {k z} hk => by
    by_cases c : n = k
    · subst c
      rw [List.getElem?_set_self (List.getElem?_eq_some_iff.1 hn).1] at hk
      exact ⟨_, hn, by rw [← Option.some.inj hk]⟩
    · rw [List.getElem?_set_ne c] at hk
      exact ⟨z, hk, rfl⟩
  obtain ⟨x', h1, h2⟩ := key hi
  obtain ⟨y', h3, h4⟩ := key hj
  exact h i j x' y' h1 h3 (by rw [h2, h4, he])
theorem NdI.erase {l : List (Nat × OpS)} (h : NdI l) (n : Nat) : NdI (l.eraseIdx n) := by
  intro i j x y hi hj he
  rw [List.getElem?_eraseIdx] at hi hj
  split at hi <;> split at hj
  · exact h i j x y hi hj he
  · have := h i (j + 1) x y hi hj he; omega
  · have := h (i + 1) j x y hi hj he; omega
  · have := h (i + 1) (j + 1) x y hi hj he; omega
theorem NdI.not_erase {l : List (Nat × OpS)} (h : NdI l) {n p : Nat} {o : OpS} (hn : l[n]? = some (p, o)) : ∀ x ∈ l.eraseIdx n, x.1 ≠ p := by
  intro x hx he
  obtain ⟨j, hj, hjx⟩ := List.mem_eraseIdx_iff_getElem?.1 hx
  exact hj (h j n x (p, o) hjx hn he)
theorem OwS.free {l : List (Nat × OpS)} {ow : Option Nat} (h : OwS l ow) (hf : FreeB l = true) : ow = none := by
  cases ow with
  | none => rfl
  | some p =>
    obtain ⟨o, ho, hk⟩ := (h p).1 rfl
    have := ((freeB_iff l).1 hf) o (List.mem_map.2 ⟨_, ho, rfl⟩)
    exact absurd this hk
theorem OwS.busy {l : List (Nat × OpS)} {ow : Option Nat} (h : OwS l ow) (hf : FreeB l = false) : ∃ q, ow = some q := by
  unfold FreeB at hf
  rw [List.all_eq_false] at hf
  obtain ⟨x, hx, hk⟩ := hf
  exact ⟨x.1, (h x.1).2 ⟨x.2, hx, by simpa using hk⟩⟩
theorem OwS.steal {l : List (Nat × OpS)} {ow : Option Nat} (h : OwS l ow) {p : Nat} {o : OpS} (hk : o.kind = 3) : OwS (l ++ [(p, o)]) ow := by
  intro q
  rw [h q]
  constructor
  · rintro ⟨o2, h1, h2⟩
    exact ⟨o2, List.mem_append_left _ h1, h2⟩
  · rintro ⟨o2, h1, h2⟩
    rcases List.mem_append.1 h1 with h1 | h1
    · exact ⟨o2, h1, h2⟩
    · have := List.mem_singleton.1 h1
      injection this with h3 h4
      subst h4
      exact absurd hk h2
theorem OwS.begin_ {l : List (Nat × OpS)} (h : OwS l none) {p : Nat} {o : OpS} (hk : o.kind ≠ 3) : OwS (l ++ [(p, o)]) (some p) := by
  intro q
  constructor
  · intro e
    injection e with e
    subst e
    exact ⟨o, by simp, hk⟩
  · rintro ⟨o2, h1, h2⟩
    rcases List.mem_append.1 h1 with h1 | h1
    · have := (h q).2 ⟨o2, h1, h2⟩
      cases this
    · have := List.mem_singleton.1 h1
      injection this with h3 h4
      rw [h3]
theorem OwS.set {l : List (Nat × OpS)} {ow : Option Nat} (h : OwS l ow) {n p : Nat} {o o' : OpS} (hn : l[n]? = some (p, o)) (hk : o'.kind = o.kind) : OwS (l.set n (p, o')) ow := by
  have hnl := (List.getElem?_eq_some_iff.1 hn).1
  intro q
  rw [h q]
  constructor
  · rintro ⟨o2, h1, h2⟩
    obtain ⟨i, hi⟩ := List.getElem?_of_mem h1
    by_cases c : n = i
    · subst c
      rw [hn] at hi
      injection hi with hi
      injection hi with h3 h4
      subst h3 h4
      exact ⟨o', List.mem_of_getElem? (List.getElem?_set_self hnl), by rw [hk]; exact h2⟩
    · exact ⟨o2, List.mem_of_getElem? (i := i) (by rw [List.getElem?_set_ne c]; exact hi), h2⟩
  · rintro ⟨o2, h1, h2⟩
    rcases List.mem_or_eq_of_mem_set h1 with h1 | h1
    · exact ⟨o2, h1, h2⟩
    · injection h1 with h3 h4
      subst h3 h4
      exact ⟨o, List.mem_of_getElem? hn, by rw [← hk]; exact h2⟩
theorem OwS.erase {l : List (Nat × OpS)} {ow : Option Nat} (h : OwS l ow) (hd : NdI l) {n p : Nat} {o o' : OpS} (hn : l[n]? = some (p, o)) (hg : o'.got ≠ 0) : OwS (l.eraseIdx n) (ovE p o' ow) := by
  have hmem := List.mem_of_getElem? hn
  by_cases hk : o.kind = 3
  · have hne : ow ≠ some p := fun e => by
      obtain ⟨o2, h1, h2⟩ := (h p).1 e
      obtain ⟨i, hi⟩ := List.getElem?_of_mem h1
      have := hd i n _ _ hi hn rfl
      subst this
      rw [hn] at hi
      injection hi with hi
      injection hi with _ h4
      subst h4
      exact h2 hk
    have hE : ovE p o' ow = ow := by unfold ovE; rw [if_neg (fun q => hne q.2)]
    rw [hE]
    intro q
    rw [h q]
    constructor
    · rintro ⟨o2, h1, h2⟩
      obtain ⟨i, hi⟩ := List.getElem?_of_mem h1
      refine ⟨o2, List.mem_eraseIdx_iff_getElem?.2 ⟨i, fun e => ?_, hi⟩, h2⟩
      subst e
      rw [hn] at hi
      injection hi with hi
      injection hi with _ h4
      subst h4
      exact h2 hk
    · rintro ⟨o2, h1, h2⟩
      exact ⟨o2, List.mem_of_mem_eraseIdx h1, h2⟩
  · have ho : ow = some p := (h p).2 ⟨o, hmem, hk⟩
    have hE : ovE p o' ow = none := by unfold ovE; rw [if_pos ⟨hg, ho⟩]
    rw [hE]
    intro q
    constructor
    · intro e; cases e
    · rintro ⟨o2, h1, h2⟩
      have hq := (h q).2 ⟨o2, List.mem_of_mem_eraseIdx h1, h2⟩
      rw [ho] at hq
      injection hq with hq
      exact absurd hq.symm (hd.not_erase hn _ h1)
section
variable {wr w' : World} {D : Nat} {s : DqS} {ow : Option Nat} {l : List (Nat × OpS)} {i : Int}
theorem OnL.go (h : OnL wr D s ow l i) (hD : w'.heap[D]? = wr.heap[D]?) (hp : ∀ x ∈ l, w'.heap[x.1]? = wr.heap[x.1]?) : OnL w' D s ow l i :=
  ⟨h.deq.go hD, h.bd, fun x hx => ⟨(h.ops x hx).1.go (hp x hx), (h.ops x hx).2⟩, h.ne, h.nd, h.ow⟩
theorem OnL.lt (h : OnL wr D s ow l i) : ∀ x ∈ l, x.1 < wr.heap.size := fun x hx => (h.ops x hx).1.lt
theorem OnL.below (h : OnL wr D s ow l i) (hb : Below wr.heap.size wr w') : OnL w' D s ow l i := h.go (hb.block D h.deq.lt) fun x hx => hb.block _ (h.lt x hx)
theorem OnL.more {j : Int} (h : OnL wr D s ow l i) (hij : i ≤ j) : OnL wr D s ow l j :=
  ⟨h.deq, h.bd.more hij, fun x hx => ⟨(h.ops x hx).1, (h.ops x hx).2.more hij⟩, h.ne, h.nd, h.ow⟩
theorem OnL.how (h : OnL wr D s ow l i) : ∀ q, ow = some q → q ≠ D ∧ ∃ cs t, wr.heap[q]? = some (.cells cs t (0, 0)) := fun q hq => by
  obtain ⟨o, ho, -⟩ := (h.ow q).1 hq
  exact ⟨h.ne _ ho, _, _, (h.ops _ ho).1⟩
theorem OnL.start (hD : DeqB wr D zeroQ (ovV none)) : OnL wr D zeroQ none [] 0 :=
  ⟨hD, ⟨by decide, by decide, by decide, by decide⟩, fun x hx => (by cases hx), fun x hx => (by cases hx), fun i j x y hi => (by cases hi), fun p => ⟨fun e => (by cases e), fun ⟨o, ho, _⟩ => (by cases ho)⟩⟩
theorem OnL.low (h : OnL wr D s ow l i) : 0 ≤ i := by have := h.bd.t0; have := h.bd.t1; omega
/-- A Steal is begun. -/
theorem OnL.steal {p : Nat} (h : OnL wr D s ow l i) (hO : OpB w' p D (opB 3 0)) (hb : Below wr.heap.size wr w') (hp : wr.heap.size ≤ p) : OnL w' D s ow (l ++ [(p, opB 3 0)]) i := by
  have h' := h.below hb
  refine ⟨h'.deq, h'.bd, fun x hx => ?_, fun x hx => ?_, h.nd.append (fun x hx => by have := h.lt x hx; omega), h.ow.steal rfl⟩
  · rcases List.mem_append.1 hx with hx | hx
    · exact h'.ops x hx
    · rw [List.mem_singleton.1 hx]; exact ⟨hO, bdO_new _ _ _ h.low⟩
  · rcases List.mem_append.1 hx with hx | hx
    · exact h.ne x hx
    · rw [List.mem_singleton.1 hx]; have := h.deq.lt; show p ≠ D; omega
/-- The owner begins. -/
theorem OnL.begin_ {p k : Nat} {v : Int} (h : OnL wr D s none l i) (hD : DeqB w' D s (ovV (some p))) (hO : OpB w' p D (opB k v)) (hb : FrX (fun y => y = D) wr w') (hp : wr.heap.size ≤ p) (hk : k ≠ 3) : OnL w' D s (some p) (l ++ [(p, opB k v)]) i := by
  refine ⟨hD, h.bd, fun x hx => ?_, fun x hx => ?_, h.nd.append (fun x hx => by have := h.lt x hx; omega), h.ow.begin_ hk⟩
  · rcases List.mem_append.1 hx with hx | hx
    · exact ⟨(h.ops x hx).1.go (hb.block _ (h.lt x hx) (h.ne x hx)), (h.ops x hx).2⟩
    · rw [List.mem_singleton.1 hx]; exact ⟨hO, bdO_new _ _ _ h.low⟩
  · rcases List.mem_append.1 hx with hx | hx
    · exact h.ne x hx
    · rw [List.mem_singleton.1 hx]; have := h.deq.lt; show p ≠ D; omega
/-- A step of the n-th one. -/
theorem OnL.step {n p : Nat} {o : OpS} (h : OnL wr D s ow l i) (hn : l[n]? = some (p, o)) (hs : Safe s o) (hR : StepR p D s o ow wr w') :
    ((stepD s o).2.got = 0 → OnL w' D (stepD s o).1 ow (l.set n (p, (stepD s o).2)) (i + 1)) ∧
    ((stepD s o).2.got ≠ 0 → OnL w' D (stepD s o).1 (ovE p (stepD s o).2 ow) (l.eraseIdx n) (i + 1)) := by
  have hmem := List.mem_of_getElem? hn
  have hbd := bd_step h.bd (h.ops _ hmem).2 hs
  have hkd := (step_next s hs.in_).2
  have hoth : ∀ x ∈ l, x.1 ≠ p → OpB w' x.1 D x.2 ∧ BdO x.2 (i + 1) := fun x hx hne =>
    ⟨(h.ops x hx).1.go (hR.fr.block _ (h.lt x hx) (fun q => by rcases q with q | q; exact h.ne x hx q; exact hne q)), (h.ops x hx).2.more (by omega)⟩
  refine ⟨fun hg => ?_, fun hg => ?_⟩
  · have hE : ovE p (stepD s o).2 ow = ow := by unfold ovE; rw [if_neg (fun q => q.1 hg)]
    have hd := hR.deq
    rw [hE] at hd
    refine ⟨hd, hbd.1, fun x hx => ?_, fun x hx => ?_, h.nd.set hn, h.ow.set hn hkd⟩
    · obtain ⟨j, hj⟩ := List.getElem?_of_mem hx
      by_cases c : n = j
      · subst c
        rw [List.getElem?_set_self (List.getElem?_eq_some_iff.1 hn).1] at hj
        rw [← Option.some.inj hj]
        exact ⟨hR.op, hbd.2⟩
      · rw [List.getElem?_set_ne c] at hj
        exact hoth x (List.mem_of_getElem? hj) (fun e => c (h.nd n j _ _ hn hj e.symm))
    · rcases List.mem_or_eq_of_mem_set hx with hx | hx
      · exact h.ne x hx
      · rw [hx]; show p ≠ D; exact h.ne (p, o) hmem
  · refine ⟨hR.deq, hbd.1, fun x hx => hoth x (List.mem_of_mem_eraseIdx hx) (h.nd.not_erase hn x hx), fun x hx => h.ne x (List.mem_of_mem_eraseIdx hx), h.nd.erase n, h.ow.erase h.nd hn hg⟩
end
end Go.Proofs.Ytacadgocoleaoaa

/- What DequeOnce holds between any two rounds. -/
namespace Go.Proofs.Ytacadgocoleaoaa
open Go.ChangeShapes Go.WideShapes Go.RowKit Go.Deep
set_option linter.unusedVariables false

theorem map_eraseQ {α β : Type} (f : α → β) (l : List α) (k : Nat) : (l.eraseIdx k).map f = (l.map f).eraseIdx k := by
  rw [List.eraseIdx_eq_take_drop_succ, List.eraseIdx_eq_take_drop_succ, List.map_append, List.map_take, List.map_drop]
structure OnT (W : World) (D n : Nat) (i : Nat) (l : List (Nat × OpS)) (inn : List Int) (vl vi : Value) (wr : World) : Prop where
  on : ∃ s ow, OnL wr D s ow l i ∧ DQ s (l.map Prod.snd) inn i
  few : l.length ≤ 6
  cnt : inn.length ≤ i
  rl : wr.ownsRow (D + 1) 54 2 vl l.length (cellsU l)
  ri : wr.ownsRow (D + 1) 3 1 vi inn.length (intsQ inn)
  al : ∀ g, vl.ownBlock = some g → ∀ x ∈ l, x.1 ≠ g
  ai : ∀ g, vi.ownBlock = some g → ∀ x ∈ l, x.1 ≠ g
  ali : ∀ g, vl.ownBlock = some g → vi.ownBlock ≠ some g
  il : i ≤ n ∨ i + restL (l.map Prod.snd) ≤ n + 30
  bel : Below W.heap.size W wr
  wd : W.heap.size ≤ D
  plo : ∀ x ∈ l, W.heap.size ≤ x.1
section
variable {W wr w' : World} {D n i : Nat} {l : List (Nat × OpS)} {inn : List Int} {vl vi : Value}
theorem OnT.dlt (h : OnT W D n i l inn vl vi wr) : D < wr.heap.size := by obtain ⟨s, ow, h1, -⟩ := h.on; exact h1.deq.lt
theorem OnT.rest (h : OnT W D n i l inn vl vi wr) : restL (l.map Prod.snd) ≤ 30 := by
  have h1 := rest_le (l.map Prod.snd)
  rw [List.length_map] at h1
  have := h.few
  omega
theorem OnT.ile (h : OnT W D n i l inn vl vi wr) : i ≤ n + 30 := by have := h.il; omega
theorem OnT.bw (h : OnT W D n i l inn vl vi wr) (hb : Below wr.heap.size wr w') : OnT W D n i l inn vl vi w' := by
  obtain ⟨s, ow, h1, h2⟩ := h.on
  exact ⟨⟨s, ow, h1.below hb, h2⟩, h.few, h.cnt, ownsRow_block h.rl fun g hg => hb.block g (h.rl.lt g hg).2, ownsRow_block h.ri fun g hg => hb.block g (h.ri.lt g hg).2, h.al, h.ai, h.ali, h.il, h.bel.trans (hb.mono h.bel.size), h.wd, h.plo⟩
theorem OnT.start (hD : DeqB wr D zeroQ (ovV none)) (hb : Below W.heap.size W wr) (hw : W.heap.size ≤ D) : OnT W D n 0 [] [] (.slice none 0 0) (.slice none 0 0) wr :=
  ⟨⟨_, _, OnL.start hD, DQ.start _ _⟩, by simp, by simp, World.ownsRow_nil _ _ _ _, World.ownsRow_nil _ _ _ _, fun g h => (by cases h), fun g h => (by cases h), fun g h => (by cases h), .inl (Nat.zero_le _), hb, hw, fun x hx => (by cases hx)⟩
/-- The end: nothing is under way. -/
theorem OnT.rst (h : OnT W D n i [] inn vl vi wr) : ∃ s, Rst wr D s inn i := by
  obtain ⟨s, ow, h1, h2⟩ := h.on
  obtain ⟨B, SB, h3, -⟩ := h2.free_idle (fun o ho => by cases ho)
  have ho : ow = none := h1.ow.free rfl
  subst ho
  exact ⟨s, h1.deq, ⟨B, SB, h3⟩, h1.bd⟩
theorem il_step {i n R R' : Nat} (h : i ≤ n ∨ i + R ≤ n + 30) (hR : R' + 1 ≤ R) (h30 : R ≤ 30) : i + 1 ≤ n ∨ i + 1 + R' ≤ n + 30 := by omega
/-- One more is begun. -/
theorem OnT.more {s' : DqS} {ow' : Option Nat} {p : Nat} {o : OpS} {w2 : World} {vl' : Value} (h : OnT W D n i l inn vl vi wr) (hin : i < n) (hl : l.length < 6) (h1 : OnL w' D s' ow' (l ++ [(p, o)]) i) (h2 : DQ s' (l.map Prod.snd ++ [o]) inn (i + 1))
    (hf : FrX (fun y => y = D) wr w') (hp : wr.heap.size ≤ p) (hg : w'.grownBy w2 vl.ownBlock) (hr : w2.ownsRow (D + 1) 54 2 vl' (l.length + 1) (cellsU (l ++ [(p, o)]))) (hv : ∀ g, vl'.ownBlock = some g → vl.ownBlock = some g ∨ w'.heap.size ≤ g) : OnT W D n (i + 1) (l ++ [(p, o)]) inn vl' vi w2 := by
  have hpl : p < w'.heap.size := h1.lt (p, o) (by simp)
  have hvl : ∀ g, vl.ownBlock = some g → D + 1 ≤ g ∧ g < wr.heap.size := fun g hg => h.rl.lt g hg
  have hblk : ∀ y, y < w'.heap.size → vl.ownBlock ≠ some y → w2.heap[y]? = w'.heap[y]? := fun y hy hne => hg.block y hy (fun e => hne e.symm)
  refine ⟨⟨s', ow', (h1.go (hblk D h1.deq.lt (fun e => by have := (hvl D e).1; omega)) (fun x hx => hblk _ (h1.lt x hx) (fun e => ?_))).more (by omega), by rw [List.map_append]; exact h2⟩, by rw [List.length_append]; simp; omega, by have := h.cnt; omega,
    by rw [List.length_append]; exact hr, ?_, ?_, ?_, ?_, .inl hin, ?_, h.wd, fun x hx => by
      rcases List.mem_append.1 hx with hx | hx
      · exact h.plo x hx
      · rw [List.mem_singleton.1 hx]; have := h.bel.size; show W.heap.size ≤ p; omega⟩
  · rcases List.mem_append.1 hx with hx | hx
    · exact h.al _ e x hx rfl
    · rw [List.mem_singleton.1 hx] at e
      have := (hvl _ e).2
      omega
  · refine ownsRow_block h.ri fun g hgi => ?_
    have h3 := h.ri.lt g hgi
    rw [hblk g (by have := hf.size; omega) (fun e => h.ali g e hgi)]
    exact hf.block g h3.2 (by omega)
  · intro g hgv x hx e
    rcases hv g hgv with h3 | h3
    · rcases List.mem_append.1 hx with hx | hx
      · exact h.al g h3 x hx e
      · rw [List.mem_singleton.1 hx] at e
        have := (hvl _ h3).2
        have e : p = g := e
        omega
    · have := h1.lt x hx
      omega
  · intro g hgv x hx e
    rcases List.mem_append.1 hx with hx | hx
    · exact h.ai g hgv x hx e
    · rw [List.mem_singleton.1 hx] at e
      have := (h.ri.lt g hgv).2
      have e : p = g := e
      omega
  · intro g hgv e
    rcases hv g hgv with h3 | h3
    · exact h.ali g h3 e
    · have := (h.ri.lt g e).2
      have := hf.size
      omega
  · have b1 : Below W.heap.size W w' := h.bel.trans (hf.below (B := W.heap.size) h.bel.size (fun k hk => by have := h.wd; omega))
    exact b1.grown hg b1.size (fun k hk => by have := (hvl k hk).1; have := h.wd; omega)
/-- One goes on. -/
theorem OnT.on_ {s : DqS} {ow : Option Nat} {k p : Nat} {o : OpS} (h : OnT W D n i l inn vl vi wr) (h1 : OnL wr D s ow l i) (h2 : DQ s (l.map Prod.snd) inn i) (hn : l[k]? = some (p, o)) (hR : StepR p D s o ow wr w') (hg : (stepD s o).2.got = 0) :
    OnT W D n (i + 1) (l.set k (p, (stepD s o).2)) inn vl vi w' := by
  have hmem := List.mem_of_getElem? hn
  have hn2 : (l.map Prod.snd)[k]? = some o := by rw [List.getElem?_map, hn]; rfl
  have hal := h2.al (List.mem_of_getElem? hn2)
  have hnx := step_next s hal.in_
  have hne : ∀ g, g ≠ D → g ≠ p → g < wr.heap.size → w'.heap[g]? = wr.heap[g]? := fun g a b c => hR.fr.block g c (fun q => by rcases q with q | q; exact a q; exact b q)
  have hfst : ∀ x ∈ l.set k (p, (stepD s o).2), ∃ y ∈ l, y.1 = x.1 := fun x hx => by
    rcases List.mem_or_eq_of_mem_set hx with hx | hx
    · exact ⟨x, hx, rfl⟩
    · exact ⟨_, hmem, by rw [hx]⟩
  refine ⟨⟨_, _, (h1.step hn hal.safe hR).1 hg, by rw [List.map_set]; exact ((h2.step hn2).1 hg).more (by omega)⟩, by rw [List.length_set]; exact h.few, by have := h.cnt; omega, ?_, ?_, ?_, ?_, h.ali, ?_, ?_, h.wd, fun x hx => by
      obtain ⟨y, hy, hyx⟩ := hfst x hx
      rw [← hyx]; exact h.plo y hy⟩
  · rw [List.length_set, cellsU_set (x := (p, o)) (y := (p, (stepD s o).2)) hn rfl hnx.2]
    exact ownsRow_block h.rl fun g hgv => hne g (by have := (h.rl.lt g hgv).1; omega) (fun e => h.al g hgv _ hmem e.symm) (h.rl.lt g hgv).2
  · exact ownsRow_block h.ri fun g hgv => hne g (by have := (h.ri.lt g hgv).1; omega) (fun e => h.ai g hgv _ hmem e.symm) (h.ri.lt g hgv).2
  · intro g hgv x hx e
    obtain ⟨y, hy, hyx⟩ := hfst x hx
    exact h.al g hgv y hy (hyx.trans e)
  · intro g hgv x hx e
    obtain ⟨y, hy, hyx⟩ := hfst x hx
    exact h.ai g hgv y hy (hyx.trans e)
  · rw [List.map_set]
    refine il_step h.il (rest_set hn2 ?_) h.rest
    unfold restO
    rw [hnx.1]
    rcases hal.in_.2 with q | q | q <;> omega
  · exact h.bel.trans (hR.fr.below (B := W.heap.size) h.bel.size (fun y hy => by
      rcases hy with rfl | rfl
      · exact h.wd
      · exact h.plo _ hmem))
/-- One is done: the rows, behind its last step and what becomes of what is left. -/
theorem OnT.rows {s : DqS} {ow : Option Nat} {k p : Nat} {o : OpS} {w3 : World} (h : OnT W D n i l inn vl vi wr) (hn : l[k]? = some (p, o)) (hR : StepR p D s o ow wr w') (hg3 : w'.grownBy w3 vi.ownBlock) : w3.ownsRow (D + 1) 54 2 vl l.length (cellsU l) := by
  have hmem := List.mem_of_getElem? hn
  refine ownsRow_block h.rl fun g hgv => ?_
  have h3 := h.rl.lt g hgv
  rw [hg3.block g (by have := hR.fr.size; omega) (fun e => h.ali g hgv e.symm)]
  exact hR.fr.block g h3.2 (fun q => by
    rcases q with q | q
    · omega
    · exact h.al g hgv _ hmem q.symm)
theorem OnT.inRow {s : DqS} {ow : Option Nat} {k p : Nat} {o : OpS} (h : OnT W D n i l inn vl vi wr) (hn : l[k]? = some (p, o)) (hR : StepR p D s o ow wr w') : w'.ownsRow (D + 1) 3 1 vi inn.length (intsQ inn) := by
  have hmem := List.mem_of_getElem? hn
  refine ownsRow_block h.ri fun g hgv => ?_
  have h3 := h.ri.lt g hgv
  exact hR.fr.block g h3.2 (fun q => by
    rcases q with q | q
    · omega
    · exact h.ai g hgv _ hmem q.symm)
theorem OnT.off {s : DqS} {ow : Option Nat} {k p : Nat} {o : OpS} {w3 w4 : World} {vi' vl' : Value} {inn' : List Int} (h : OnT W D n i l inn vl vi wr) (h1 : OnL wr D s ow l i) (h2 : DQ s (l.map Prod.snd) inn i) (hn : l[k]? = some (p, o)) (hR : StepR p D s o ow wr w') (hg : (stepD s o).2.got ≠ 0)
    (hin : inn' = innE (stepD s o).2 inn) (hil : inn'.length ≤ i + 1) (hg3 : w'.grownBy w3 vi.ownBlock) (hri : w3.ownsRow (D + 1) 3 1 vi' inn'.length (intsQ inn')) (hvi : ∀ g, vi'.ownBlock = some g → vi.ownBlock = some g ∨ w'.heap.size ≤ g)
    (hb4 : Below w3.heap.size w3 w4) (hrl : w4.ownsRow w3.heap.size 54 2 vl' (l.length - 1) (cellsU (l.eraseIdx k))) : OnT W D n (i + 1) (l.eraseIdx k) inn' vl' vi' w4 := by
  have hkl := (List.getElem?_eq_some_iff.1 hn).1
  have hmem := List.mem_of_getElem? hn
  have hn2 : (l.map Prod.snd)[k]? = some o := by rw [List.getElem?_map, hn]; rfl
  have hal := h2.al (List.mem_of_getElem? hn2)
  have hnx := step_next s hal.in_
  have hel : (l.eraseIdx k).length = l.length - 1 := by rw [List.length_eraseIdx, if_pos hkl]
  have hme : ∀ x ∈ l.eraseIdx k, x ∈ l := fun x hx => List.mem_of_mem_eraseIdx hx
  have hs3 := hg3.size
  have hsR := hR.fr.size
  have hOn := (h1.step hn hal.safe hR).2 hg
  have hvlo : ∀ g, vi.ownBlock = some g → D + 1 ≤ g ∧ g < wr.heap.size := fun g hgv => h.ri.lt g hgv
  have hD' := hOn.deq.lt
  have hOn3 : OnL w3 D (stepD s o).1 (ovE p (stepD s o).2 ow) (l.eraseIdx k) (i + 1) := hOn.go (hg3.block D hD' (fun e => by have := (hvlo D e.symm).1; omega)) (fun x hx => hg3.block _ (hOn.lt x hx) (fun e => h.ai _ e.symm x (hme x hx) rfl))
  have hlo : ∀ x ∈ l.eraseIdx k, x.1 < w3.heap.size := fun x hx => hOn3.lt x hx
  refine ⟨⟨_, _, (hOn3.below hb4).more (by omega), ?_⟩, by rw [hel]; have := h.few; omega, hil, ?_, ?_, ?_, ?_, ?_, ?_, ?_, h.wd, fun x hx => h.plo x (hme x hx)⟩
  · rw [map_eraseQ, hin]
    exact ((h2.step hn2).2 hg).1.more (by omega)
  · rw [hel]
    exact owns_mono_ hrl (by omega)
  · exact ownsRow_block hri fun g hgv => hb4.block g (hri.lt g hgv).2
  · intro g hgv x hx e
    have := (hrl.lt g hgv).1
    have := hlo x hx
    omega
  · intro g hgv x hx e
    rcases hvi g hgv with h3 | h3
    · exact h.ai g h3 x (hme x hx) e
    · have := hOn.lt x hx
      omega
  · intro g hgv e
    have h3 := (hrl.lt g hgv).1
    have := (hri.lt g e).2
    omega
  · rw [map_eraseQ]
    refine il_step h.il (rest_erase hn2 ?_) h.rest
    unfold restO
    rcases hal.in_.2 with q | q | q <;> omega
  · have b1 : Below W.heap.size W w' := h.bel.trans (hR.fr.below (B := W.heap.size) h.bel.size (fun y hy => by
      rcases hy with rfl | rfl
      · exact h.wd
      · exact h.plo _ hmem))
    have b3 : Below W.heap.size W w3 := b1.grown hg3 b1.size (fun y hy => by have := (hvlo y hy).1; have := h.wd; omega)
    exact b3.trans (hb4.mono b3.size)
theorem OnT.skip (h : OnT W D n i l inn vl vi wr) (hin : i < n) : OnT W D n (i + 1) l inn vl vi wr := by
  obtain ⟨s, ow, h1, h2⟩ := h.on
  exact ⟨⟨s, ow, h1.more (by omega), h2.more (by omega)⟩, h.few, by have := h.cnt; omega, h.rl, h.ri, h.al, h.ai, h.ali, .inl hin, h.bel, h.wd, h.plo⟩
theorem StepR.below {p : Nat} {s : DqS} {o : OpS} {ow : Option Nat} {w2 : World} (h : StepR p D s o ow wr w') (hb : Below w'.heap.size w' w2) : StepR p D s o ow wr w2 :=
  ⟨h.deq.go (hb.block D h.deq.lt), h.op.go (hb.block p h.op.lt), h.fr.trans (.of_below hb)⟩
theorem grown_of_below {w w' : World} (hb : Below w.heap.size w w') (row : Option Nat) : w.grownBy w' row := ⟨hb.os, hb.tape, hb.output, hb.size, fun k hk _ => hb.block k hk⟩
end
end Go.Proofs.Ytacadgocoleaoaa
