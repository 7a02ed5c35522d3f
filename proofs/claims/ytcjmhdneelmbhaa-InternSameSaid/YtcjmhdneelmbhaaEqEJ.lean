/- A region that draws its order, whose last operation waits for all others: the others first, in whatever order, with a condition on the world that need not hold behind the last one. Over any program. -/
import Derived.OrdersHeld
import Derived.RegionTactic
import Derived.Lib.Hide
import Derived.Test.YtcjmhdneelmbhaaTbLJ
import Derived.Deep.AppendLies
import Derived.LaidEql
import Derived.Test.YtcjmhdneelmbhaaTbTJ
namespace Go.Proofs.Ytcjmhdneelmbhaa
open Go
set_option linter.unusedVariables false

section
variable {P : Program} {ops : Array Oper} {Q : Exit → Act → World → Prop} {md : Region.Mode} {S : World → Prop}

/-- Edges lead to what stands ahead in the text. -/
def downB (md : Region.Mode) (ops : Array Oper) : Bool :=
  (List.range ops.size).all fun i => ((ops[i]?).map fun o => o.after.all fun e => !Region.binds md e || decide (e.on < i)).getD true
/-- Each but number L is waited for by one behind it. -/
def feedsB (md : Region.Mode) (ops : Array Oper) (L : Nat) : Bool :=
  (List.range L).all fun i => (List.range (L + 1)).any fun j => decide (i < j) && ((ops[j]?).map fun o => o.after.any fun e => Region.binds md e && decide (e.on = i)).getD false

theorem downB_spec (h : downB md ops = true) {i : Nat} {o : Oper} (ho : ops[i]? = some o) : ∀ e ∈ o.after, Region.binds md e = true → e.on < i := by
  intro e he hb
  unfold downB at h
  have hi : i < ops.size := (Array.getElem?_eq_some_iff.1 ho).1
  have h1 := List.all_eq_true.1 h i (List.mem_range.2 hi)
  rw [ho] at h1
  simp only [Option.map_some, Option.getD_some, Array.all_eq_true_iff_forall_mem] at h1
  have h2 := h1 e he
  simpa [hb] using h2
theorem feedsB_spec {L : Nat} (h : feedsB md ops L = true) {i : Nat} (hi : i < L) : ∃ j o e, i < j ∧ j ≤ L ∧ ops[j]? = some o ∧ e ∈ o.after ∧ Region.binds md e = true ∧ e.on = i := by
  unfold feedsB at h
  have h1 := List.all_eq_true.1 h i (List.mem_range.2 hi)
  obtain ⟨j, hj, h2⟩ := List.any_eq_true.1 h1
  rw [Bool.and_eq_true] at h2
  obtain ⟨h3, h4⟩ := h2
  cases ho : ops[j]? with
  | none => rw [ho] at h4; simp at h4
  | some o =>
    rw [ho] at h4
    simp only [Option.map_some, Option.getD_some, Array.any_eq_true'] at h4
    obtain ⟨e, he, hb⟩ := h4
    rw [Bool.and_eq_true] at hb
    exact ⟨j, o, e, of_decide_eq_true h3, by have := List.mem_range.1 hj; omega, ho, he, hb.1, of_decide_eq_true hb.2⟩

/-- What has come up had all that it waits for. -/
def Closed (md : Region.Mode) (ops : Array Oper) (listed : Array Bool) : Prop :=
  ∀ i o, ops[i]? = some o → listed.getD i true = true → ∀ e ∈ o.after, Region.binds md e = true → listed.getD e.on false = true

theorem getD_two {l : Array Bool} {i : Nat} (h : i < l.size) (a b : Bool) : l.getD i a = l.getD i b := by
  simp [Array.getD, h]
theorem getD_set_self {l : Array Bool} {i : Nat} (h : i < l.size) (d : Bool) : (l.setIfInBounds i true).getD i d = true := by
  simp [Array.getD, h]

theorem Closed.set {listed : Array Bool} (hc : Closed md ops listed) (hs : listed.size = ops.size) {i : Nat} (hi : i ∈ Region.ready md ops listed) : Closed md ops (listed.setIfInBounds i true) := by
  intro j o ho hj e he hb
  by_cases hji : j = i
  · subst hji
    obtain ⟨_, o', ho', hall⟩ := mem_ready.1 hi
    rw [ho] at ho'
    cases ho'
    exact getD_set_true (hall e he hb)
  · rw [getD_set_ne true (Ne.symm hji)] at hj
    exact getD_set_true (hc j o ho hj e he hb)

/-- When the last one may come up, all others have. -/
theorem all_of_last {L : Nat} {listed : Array Bool} (hsz : ops.size = L + 1) (hs : listed.size = ops.size) (hf : feedsB md ops L = true) (hc : Closed md ops listed) (hL : L ∈ Region.ready md ops listed) : ∀ i, i < L → listed.getD i true = true := by
  have key : ∀ n i, L - i ≤ n → i < L → listed.getD i true = true := by
    intro n
    induction n with
    | zero => intro i h1 h2; omega
    | succ n ih =>
      intro i h1 h2
      obtain ⟨j, o, e, hij, hjL, ho, he, hb, hei⟩ := feedsB_spec hf h2
      have h3 : listed.getD e.on false = true := by
        by_cases hj : j = L
        · subst hj
          obtain ⟨_, o', ho', hall⟩ := mem_ready.1 hL
          rw [ho] at ho'
          cases ho'
          exact hall e he hb
        · exact hc j o ho (ih j (by omega) (by omega)) e he hb
      rw [hei] at h3
      rw [getD_two (by omega) true false]
      exact h3
  exact fun i hi => key (L - i) i (Nat.le_refl _) hi
/-- While the last one has not come up, one may. -/
theorem ready_some {L : Nat} {listed : Array Bool} (hsz : ops.size = L + 1) (hs : listed.size = ops.size) (hd : downB md ops = true) (hL : listed.getD L true = false) : Region.ready md ops listed ≠ [] := by
  have key : ∀ n i, i ≤ n → i ≤ L → listed.getD i true = false → ∃ k, k ∈ Region.ready md ops listed := by
    intro n
    induction n with
    | zero =>
      intro i h1 h2 h3
      obtain rfl : i = 0 := by omega
      have ho : ops[0]? = some ops[0] := Array.getElem?_eq_getElem (by omega)
      exact ⟨0, mem_ready.2 ⟨h3, _, ho, fun e he hb => absurd (downB_spec hd ho e he hb) (by omega)⟩⟩
    | succ n ih =>
      intro i h1 h2 h3
      have ho : ops[i]? = some ops[i] := Array.getElem?_eq_getElem (by omega)
      by_cases hall : ∀ e ∈ ops[i].after, Region.binds md e = true → listed.getD e.on false = true
      · exact ⟨i, mem_ready.2 ⟨h3, _, ho, hall⟩⟩
      · simp only [Classical.not_forall] at hall
        obtain ⟨e, he, hb, hno⟩ := hall
        have hlt := downB_spec hd ho e he hb
        refine ih e.on (by omega) (by omega) ?_
        rw [getD_two (by omega) true false]
        simpa using hno
  obtain ⟨k, hk⟩ := key L L (Nat.le_refl _) (Nat.le_refl _) hL
  intro h0
  rw [h0] at hk
  cases hk

/-- The post behind all but the last: the last one's turn. -/
def LastQ (P : Program) (ops : Array Oper) (Q : Exit → Act → World → Prop) (L : Nat) : Exit → Act → World → Prop
  | .normal, a, w => wpOp P ops Q L (Q .normal) a w
  | e, a, w => Q e a w

theorem upon_last {L : Nat} {o : Oper} {a : Act} {K : Act → World → Prop} {r : Result Next} (h : o.upon P a K (LastQ P ops Q L) r) : o.upon P a K Q r := by
  cases r with
  | ok n w' =>
    cases n <;> simp only [Oper.upon] at h ⊢ <;> exact h
  | halt x w' => cases x <;> simp only [Oper.upon] at h ⊢ <;> exact h
theorem wpOp_last {L i : Nat} {K : Act → World → Prop} {a : Act} {w : World} (h : wpOp P ops (LastQ P ops Q L) i K a w) : wpOp P ops Q i K a w := by
  unfold wpOp at *
  split
  · rename_i ho; simp only [ho] at h; exact h
  · rename_i o ho
    simp only [ho] at h
    split
    · rename_i hw; simp only [hw, if_true] at h; exact h.imp (fun h => by unfold Oper.wp at *; exact upon_last h) (fun h => ⟨h.1, h.2⟩)
    · rename_i hw; simp only [hw] at h; exact h

theorem wpAny_last {L : Nat} (hsz : ops.size = L + 1) (hd : downB md ops = true) (hf : feedsB md ops L = true) :
    ∀ (fuel : Nat) (listed : Array Bool) (a : Act) (w : World), listed.size = ops.size → Closed md ops listed → listed.getD L true = false →
      wpAnyH P md ops (LastQ P ops Q L) S fuel (listed.setIfInBounds L true) a w → wpAny P md ops Q (fuel + 1) listed a w := by
  intro fuel
  induction fuel with
  | zero =>
    intro listed a w hs hc hL H
    refine ⟨fun h0 => absurd h0 (ready_some hsz hs hd hL), fun i hi => ?_⟩
    by_cases hiL : i = L
    · subst hiL
      exact wpOp_mono (fun a' w' h' => ⟨H.1, h'⟩) (show wpOp P ops Q i (Q .normal) a w from H.2)
    · have := ready_mono hi hiL
      rw [H.1] at this
      cases this
  | succ fuel ih =>
    intro listed a w hs hc hL H
    refine ⟨fun h0 => absurd h0 (ready_some hsz hs hd hL), fun i hi => ?_⟩
    by_cases hiL : i = L
    · subst hiL
      have hall := all_of_last hsz hs hf hc hi
      have hr : Region.ready md ops (listed.setIfInBounds i true) = [] := by
        rw [List.eq_nil_iff_forall_not_mem]
        intro k hk
        obtain ⟨h0, o, ho, _⟩ := mem_ready.1 hk
        have hkl : k < ops.size := (Array.getElem?_eq_some_iff.1 ho).1
        by_cases hki : k = i
        · subst hki
          rw [getD_set_self (by omega)] at h0
          cases h0
        · rw [getD_set_ne true (Ne.symm hki), hall k (by omega)] at h0
          cases h0
      exact wpOp_mono (fun a' w' h' => wpAny_done hr h' _) (show wpOp P ops Q i (Q .normal) a w from H.1 hr)
    · have h1 := wpOp_last (H.2 i (ready_mono hi hiL))
      refine wpOp_mono (fun a' w' h' => ih (listed.setIfInBounds i true) a' w' (by simpa using hs) (hc.set hs hi) ?_ ?_) h1
      · rw [getD_set_ne true hiL]; exact hL
      · rw [Array.setIfInBounds_comm _ _ hiL]; exact h'.2

/-- THE LAW. -/
theorem wp_region_last {id L : Nat} {a : Act} {w : World} (hm : P.follows .mixedOrders = true) (hsz : ops.size = L + 1) (hd : downB .any ops = true) (hf : feedsB .any ops L = true)
    (h : wpAnyH P .any ops (LastQ P ops Q L) S L ((Array.replicate ops.size false).setIfInBounds L true) a { w with drawn := w.drawn + 1 }) : (Code.region id ops true).wp P Q a w := by
  refine wp_region_any hm ?_
  have h2 := wpAny_last (md := .any) (Q := Q) (S := S) hsz hd hf L (Array.replicate ops.size false) a { w with drawn := w.drawn + 1 } (by simp) (fun i o ho hi => ?_) (by simp [Array.getD, hsz]) h
  · rwa [← hsz] at h2
  · have hlt := (Array.getElem?_eq_some_iff.1 ho).1
    simp [Array.getD, hlt] at hi

/-- Take number i first: what it writes to is said by the caller. -/
theorem takeH {i : Nat} (d : Option Tmp) {v : Value} {fuel : Nat} {listed : Array Bool} {a : Act} {w : World} (hd : (ops[i]?).map (·.dst) = some d)
    (hs : Region.noSelect ops = true) (hf : Region.free md ops listed i = true) (hr : (Region.ready md ops listed).contains i = true)
    (hQ : ∀ c a w, Q (.panic c) (a.put d v) w → Q (.panic c) a w) (hS : S w) (hy : ∀ o, ops[i]? = some o → YieldsIf P ops S o v a)
    (h : wpAnyH P md ops Q S fuel (listed.setIfInBounds i true) (a.put d v) w) : wpAnyH P md ops Q S (fuel + 1) listed a w := by
  cases ho : ops[i]? with
  | none => rw [ho] at hd; cases hd
  | some o =>
    rw [ho] at hd
    obtain rfl := Option.some.inj hd
    exact wpAnyH_take ho hs hf hr hQ (hy o ho) hS h
/-- Number i alone may come up. -/
theorem oneH {i : Nat} {fuel : Nat} {listed : Array Bool} {a : Act} {w : World} (hr : Region.ready md ops listed = [i])
    (h : ∀ o, ops[i]? = some o → ∀ K : Act → World → Prop, RowKit.Hid (∀ a' w', S w' → wpAnyH P md ops Q S fuel (listed.setIfInBounds i true) a' w' → K a' w') → if Region.wanted o (yielded ops a.tmps) = true then Oper.wp P o a w K Q else K (a.put o.dst undef) w) :
    wpAnyH P md ops Q S (fuel + 1) listed a w := by
  refine wpAnyH_all hr (by simp) fun k hk => ?_
  obtain rfl := List.mem_singleton.1 hk
  unfold wpOp
  split
  · rename_i ho
    have : k ∈ Region.ready md ops listed := by rw [hr]; simp
    obtain ⟨_, o, ho', _⟩ := mem_ready.1 this
    rw [ho] at ho'; cases ho'
  · rename_i o ho
    have := h o ho (fun a' w' => S w' ∧ wpAnyH P md ops Q S fuel (listed.setIfInBounds k true) a' w') (Lib.hid (fun a' w' h1 h2 => ⟨h1, h2⟩))
    split
    · rename_i hw; rw [if_pos hw] at this; exact .inl this
    · rename_i hw; rw [if_neg hw] at this; exact this
/-- The last one. -/
theorem lastH {L : Nat} {a : Act} {w : World} (hL : L < ops.size)
    (h : ∀ o, ops[L]? = some o → ∀ K : Act → World → Prop, RowKit.Hid (∀ a' w', Q .normal a' w' → K a' w') → if Region.wanted o (yielded ops a.tmps) = true then Oper.wp P o a w K Q else K (a.put o.dst undef) w) : LastQ P ops Q L .normal a w := by
  show wpOp P ops Q L (Q .normal) a w
  have ho : ops[L]? = some ops[L] := Array.getElem?_eq_getElem hL
  have := h _ ho (Q .normal) (Lib.hid (fun a' w' h1 => h1))
  unfold wpOp
  simp only [ho]
  split
  · rename_i hw; rw [if_pos hw] at this; exact .inl this
  · rename_i hw; rw [if_neg hw] at this; exact this
end
end Go.Proofs.Ytcjmhdneelmbhaa

/- Put. -/
namespace Go.Proofs.Ytcjmhdneelmbhaa
open Go.ChangeShapes Go.WideShapes Go.RowKit Go.Deep
set_option linter.unusedVariables false

section
variable {w : World} {K b g bm n : Nat} {U : Nat → Value} {ds : List (List VD)}
theorem drV_snoc (l : List VD) (x : VD) : cellsV (l ++ [x]) = cellsV l ++ [.int .i64 x.1, .int .i64 x.2] := cellsV_append l [x]
/-- A drawer has grown, and the map. -/
theorem tab_add {w7 w9 : World} {x : VD} {v' : Value} {d : Nat} {l : List VD} (h : TabM w K b g bm n U ds) (hd : d = drwV n x) (hl : l = ds.getD d []) (hx : IV x) (hm : mayV x = true) (hi : inV n ds x = false) (ht : totV ds < 4096)
    (hg : GroD w w7 (U d) v') (ho : w7.ownsRow K 69 2 v' (l.length + 1) (cellsV l ++ [.int .i64 x.1, .int .i64 x.2])) {u : World} (hu : u = (w7.setCell ⟨g, d, none⟩ v').drew) (hw9 : u.grownBy w9 (some bm)) (hz9 : w9.heap.size = u.heap.size)
    (hm9 : MpV w9 bm (totV ds + 1) n (addV n ds x)) :
    TabM w9 K b g bm n (updF U d v') (addV n ds x) ∧ FrX (TabX b g bm n U) w w9 ∧ ∀ y, TabX b g bm n (updF U d v') y → TabX b g bm n U y ∨ w.heap.size ≤ y := by
  have hdn : d < n := by rw [hd]; exact drwV_lt h.ok.n1
  have T2 := h.ok.add hm hi ht
  have hlt := fun y (hy : TabX b g bm n U y) => h.lt hy
  have hb : b < w.heap.size := (hlt b (.inl rfl)).2
  have hgl : g < w.heap.size := (hlt g (.inr (.inl rfl))).2
  have hbm : bm < w.heap.size := (hlt bm (.inr (.inr (.inl rfl)))).2
  have hne := h.ne
  have hown : ∀ y, (U d).ownBlock = some y → y ≠ b ∧ y ≠ g ∧ y ≠ bm := fun y => h.ap d y hdn
  have hov : ∀ y, v'.ownBlock = some y → y ≠ b ∧ y ≠ g ∧ y ≠ bm := fun y hy => by
    rcases hg.own y hy with e | e
    · exact hown y e
    · omega
  have hu1 : ∀ y, y ≠ g → u.heap[y]? = w7.heap[y]? := fun y hy => by rw [hu]; exact Below.heap_setCell _ _ _ _ hy
  have hus : u.heap.size = w7.heap.size := by rw [hu]; simp
  have h9 : ∀ y, y < w7.heap.size → y ≠ g → y ≠ bm → w9.heap[y]? = w7.heap[y]? := fun y hy h1 h2 => (hw9.block y (by omega) (fun e => h2 (by simpa using e))).trans (hu1 y h1)
  have hsz := hg.size
  have key : ∀ y, y < w.heap.size → y ≠ g → y ≠ bm → (U d).ownBlock ≠ some y → w9.heap[y]? = w.heap[y]? := fun y hy h1 h2 h3 => (h9 y (by omega) h1 h2).trans (hg.block y hy h3)
  refine ⟨⟨T2, fun e a y ha hy => ?_, (key b hb hne.1 hne.2.1 (fun e => (hown b e).1 rfl)).trans h.box, ?_, ?_, ?_, h.lo, hne, fun e y he hy => ?_⟩, ⟨?_, ?_, ?_, by omega, fun y hy hx => ?_⟩, fun y hy => ?_⟩
  · rw [addV_get h.ok] at ha
    by_cases e1 : e = drwV n x
    · rw [if_pos e1] at ha
      rw [← Option.some.inj ha] at hy
      rcases List.mem_append.1 hy with hy | hy
      · exact h.iv _ _ y (h.ok.here x) hy
      · rw [List.mem_singleton.1 hy]; exact hx
    · rw [if_neg e1] at ha
      exact h.iv e a y ha hy
  · have r1 : w7.rowIs g 59 n U := h.row.of_block (hg.block g hgl (fun e => (hown g e).2.1 rfl))
    have r2 := (r1.set d v').drew
    rw [← hu] at r2
    exact (r2.of_block (hw9.block g (by omega) (fun e => hne.2.2 (by simpa using e)))).congr fun i _ => rfl
  · have q1 := PoolD.gro (r := drV (l ++ [x])) h.pool hdn hg (by show w7.ownsRow K _ 2 v' (l ++ [x]).length (cellsV (l ++ [x])); rw [drV_snoc, List.length_append]; exact ho)
    have q2 : PoolD w9 K n (updF U d v') (updF (fun d => drV (ds.getD d [])) d (drV (l ++ [x]))) := ⟨fun i hi => by
      refine ownsRow_block (q1.own i hi) fun y hy => ?_
      have hyl := ((q1.own i hi).lt y hy).2
      have hyn : y ≠ b ∧ y ≠ g ∧ y ≠ bm := by
        by_cases e : i = d
        · rw [e, updF_here] at hy; exact hov y hy
        · rw [updF_else _ _ e] at hy; exact h.ap i y hi hy
      exact h9 y hyl hyn.2.1 hyn.2.2, q1.ap⟩
    refine q2.congr (fun _ _ => rfl) fun i hi => ?_
    rw [addV_getD h.ok]
    by_cases e : i = d
    · rw [e, updF_here, if_pos hd, ← hd, ← hl]
    · rw [updF_else _ _ e, if_neg (by rw [← hd]; exact e)]
  · rw [h.ok.tot_add]; exact hm9
  · by_cases e1 : e = d
    · rw [e1, updF_here] at hy; exact hov y hy
    · rw [updF_else _ _ e1] at hy; exact h.ap e y he hy
  · exact hw9.os.trans (by rw [hu]; exact hg.os)
  · exact hw9.tape.trans (by rw [hu]; exact hg.tape)
  · exact hw9.output.trans (by rw [hu]; exact hg.output)
  · exact key y hy (fun e => hx (.inr (.inl e))) (fun e => hx (.inr (.inr (.inl e)))) (fun e => hx (.inr (.inr (.inr ⟨d, hdn, e⟩))))
  · rcases hy with e | e | e | ⟨i, hi, e⟩
    · exact .inl (.inl e)
    · exact .inl (.inr (.inl e))
    · exact .inl (.inr (.inr (.inl e)))
    · by_cases e1 : i = d
      · rw [e1, updF_here] at e
        rcases hg.own y e with e2 | e2
        · exact .inl (.inr (.inr (.inr ⟨d, hdn, e2⟩)))
        · exact .inr e2
      · rw [updF_else _ _ e1] at e
        exact .inl (.inr (.inr (.inr ⟨i, hi, e⟩)))
theorem put_no (h : TabM w K b g bm n U ds) (k v : Int) (hm : mayV (k, v) = false) :
    Calls Try.prog 20 #[.pointer (some ⟨b, 0, none⟩), .int .i64 k, .int .i64 v] w fun e w' => e = .returned (.tuple #[.int .i64 0, .iface 57 (.int .i64 1)]) ∧ Below w.heap.size w w' := by
  have HM := Lib.hid hm
  clear h hm
  go_enter Try.func20, Try.ntmps20
  go_upto_region 2 with fail
  obtain ⟨w1, hw1, hs1, hk1, hb1, hc1, -⟩ := named w #[.int .i64 k, .int .i64 v] 69
  rw [← hw1]
  have c0 : w1.cell? ⟨w.heap.size, 0, none⟩ = some (.int .i64 k) := hc1 0 _ rfl
  have c1 : w1.cell? ⟨w.heap.size, 1, none⟩ = some (.int .i64 v) := hc1 1 _ rfl
  have HB1 := Lib.hid hb1
  clear hw1 hs1 hk1 hb1 hc1
  go_wp2_with fail
  refine (mayBe_any k v w1).mono ?_
  rintro e w2 ⟨rfl, hb2⟩
  have HB2 : Hid (Below w.heap.size w w2) := Lib.hid (HB1.out.trans (hb2.mono HB1.out.size))
  rw [HM.out]
  clear hb2 c0 c1
  go_wp2_with fail
  go_ret2
  exact ⟨rfl, HB2.out⟩
theorem put_old (h : TabM w K b g bm n U ds) (k v : Int) (hm : mayV (k, v) = true) (hi : inV n ds (k, v) = true) :
    Calls Try.prog 20 #[.pointer (some ⟨b, 0, none⟩), .int .i64 k, .int .i64 v] w fun e w' => e = .returned (.tuple #[.int .i64 (hV n ds (k, v) : Int), .nilIface]) ∧ Below w.heap.size w w' := by
  have HM := Lib.hid hm
  have HT := Lib.hid h
  have HIV := Lib.hid (h.in_iv hi)
  have hc := h.cells.2
  have HI := Lib.hid hi
  obtain ⟨x, hx⟩ : ∃ x : Int, x = hV n ds (k, v) := ⟨_, rfl⟩
  rw [← hx]
  have HX := Lib.hid hx
  clear h hm hi hx
  go_enter Try.func20, Try.ntmps20
  go_upto_region 2 with fail
  obtain ⟨w1, hw1, hs1, hk1, hb1, hc1, -⟩ := named w #[.int .i64 k, .int .i64 v] 69
  rw [← hw1]
  have c0 : w1.cell? ⟨w.heap.size, 0, none⟩ = some (.int .i64 k) := hc1 0 _ rfl
  have c1 : w1.cell? ⟨w.heap.size, 1, none⟩ = some (.int .i64 v) := hc1 1 _ rfl
  have hc := hk1 _ _ hc
  have HB1 := Lib.hid hb1
  clear hw1 hs1 hk1 hb1 hc1
  go_wp2_with fail
  refine (mayBe_any k v w1).mono ?_
  rintro e w2 ⟨rfl, hb2⟩
  have HB2 : Hid (Below w.heap.size w w2) := Lib.hid (HB1.out.trans (hb2.mono HB1.out.size))
  have c0 := kept_of_below hb2 _ _ c0
  have c1 := kept_of_below hb2 _ _ c1
  have hc := kept_of_below hb2 _ _ hc
  have hlk : ∀ j, (Instr.lookup 90 (.map (some bm)) (.agg #[.int .i64 k, .int .i64 v]) true).run Try.prog (w2.drewN j) = .ok (.tuple #[.int .i64 x, .bool true]) (w2.drewN j) := fun j => by
    have := ((HT.out.below HB2.out).map.kept (w' := w2.drewN j) (by simp)).look (x := (k, v)) HIV.out
    rw [if_pos HI.out, HI.out, ← HX.out] at this
    exact this
  rw [HM.out]
  clear hb2
  go_upto_region 4 with fail
  go_quiet (fail)
  go_wp2_with fail
  go_ret2
  exact ⟨rfl, (below_drewN HB2.out _)⟩
theorem put_full (h : TabM w K b g bm n U ds) (k v : Int) (hv : I64 v) (hm : mayV (k, v) = true) (hi : inV n ds (k, v) = false) (ht : 4096 ≤ totV ds) :
    Calls Try.prog 20 #[.pointer (some ⟨b, 0, none⟩), .int .i64 k, .int .i64 v] w fun e w' => e = .returned (.tuple #[.int .i64 0, .iface 57 (.int .i64 8)]) ∧ Below w.heap.size w w' := by
  have HM := Lib.hid hm
  have HT := Lib.hid h
  have hk : k = 1 ∨ k = 2 := by have := mayV_iff.1 hm; dsimp only at this; omega
  have HIV : Hid (IV (k, v)) := Lib.hid ⟨by show I64 k; unfold I64; omega, hv⟩
  have hc := h.cells.2
  have HI := Lib.hid hi
  have d1 : decide ((4096 : Int) ≤ (totV ds : Int)) = true := decide_eq_true (by omega)
  have d2 : (4096 : Int) ≤ (totV ds : Int) := by omega
  clear h hm hi hk
  go_enter Try.func20, Try.ntmps20
  go_upto_region 2 with fail
  obtain ⟨w1, hw1, hs1, hk1, hb1, hc1, -⟩ := named w #[.int .i64 k, .int .i64 v] 69
  rw [← hw1]
  have c0 : w1.cell? ⟨w.heap.size, 0, none⟩ = some (.int .i64 k) := hc1 0 _ rfl
  have c1 : w1.cell? ⟨w.heap.size, 1, none⟩ = some (.int .i64 v) := hc1 1 _ rfl
  have hc := hk1 _ _ hc
  have HB1 := Lib.hid hb1
  clear hw1 hs1 hk1 hb1 hc1
  go_wp2_with fail
  refine (mayBe_any k v w1).mono ?_
  rintro e w2 ⟨rfl, hb2⟩
  have HB2 : Hid (Below w.heap.size w w2) := Lib.hid (HB1.out.trans (hb2.mono HB1.out.size))
  have c0 := kept_of_below hb2 _ _ c0
  have c1 := kept_of_below hb2 _ _ c1
  have hc := kept_of_below hb2 _ _ hc
  have hlk : ∀ j, (Instr.lookup 90 (.map (some bm)) (.agg #[.int .i64 k, .int .i64 v]) true).run Try.prog (w2.drewN j) = .ok (.tuple #[.int .i64 0, .bool false]) (w2.drewN j) := fun j => by
    have := ((HT.out.below HB2.out).map.kept (w' := w2.drewN j) (by simp)).look (x := (k, v)) HIV.out
    rw [if_neg (by rw [HI.out]; decide), HI.out] at this
    exact this
  rw [HM.out]
  clear hb2
  go_upto_region 4 with fail
  go_quiet (fail)
  go_wp2_with fail
  refine (len_any (HT.out.below (below_drewN HB2.out nq))).mono ?_
  rintro e w3 ⟨rfl, rfl⟩
  go_wp2_with fail
  go_ret2
  exact ⟨rfl, (below_drewN HB2.out _)⟩
set_option maxRecDepth 100000 in
set_option maxHeartbeats 4000000 in
theorem put_new (h : TabM w K b g bm n U ds) (k v : Int) (hv : I64 v) (hm : mayV (k, v) = true) (hi : inV n ds (k, v) = false) (ht : totV ds < 4096) :
    Calls Try.prog 20 #[.pointer (some ⟨b, 0, none⟩), .int .i64 k, .int .i64 v] w fun e w' => e = .returned (.tuple #[.int .i64 (((ds.getD (drwV n (k, v)) []).length * n + drwV n (k, v) : Nat) : Int), .nilIface]) ∧
      ∃ U', TabM w' K b g bm n U' (addV n ds (k, v)) ∧ FrX (TabX b g bm n U) w w' ∧ ∀ y, TabX b g bm n U' y → TabX b g bm n U y ∨ w.heap.size ≤ y := by
  have HM := Lib.hid hm
  have HT := Lib.hid h
  have hk : k = 1 ∨ k = 2 := by have := mayV_iff.1 hm; dsimp only at this; omega
  have HIV : Hid (IV (k, v)) := Lib.hid ⟨by show I64 k; unfold I64; omega, hv⟩
  have HKK := Lib.hid hk
  obtain ⟨hc0, hc⟩ := h.cells
  have HI := Lib.hid hi
  have d1 : decide ((4096 : Int) ≤ (totV ds : Int)) = false := decide_eq_false (by omega)
  have d2 : ¬ (4096 : Int) ≤ (totV ds : Int) := by omega
  obtain ⟨d, hd⟩ : ∃ d, d = drwV n (k, v) := ⟨_, rfl⟩
  have hdn : d < n := by rw [hd]; exact drwV_lt h.ok.n1
  have hn1 := h.ok.n1
  have hn16 := h.ok.n16
  obtain ⟨l, hl⟩ : ∃ l, l = ds.getD d [] := ⟨_, rfl⟩
  have hll : l.length ≤ 4096 := by
    have h1 := len_flat (List.mem_of_getElem? (h.ok.here (k, v)))
    rw [← hd, ← hl] at h1
    unfold totV at ht; omega
  have hown := h.pool.own d hdn
  rw [← hl] at hown
  obtain ⟨A, c, hUd⟩ : ∃ A c, U d = .slice A l.length c := own_sliceL hown
  have hcd := h.row.cell hdn
  rw [hUd] at hcd
  rw [← hd, ← hl]
  have HD := Lib.hid hd
  have HL := Lib.hid hl
  have HOW := Lib.hid hown
  have HUD := Lib.hid hUd
  have hm1 : 0 ≤ (l.length : Int) * (n : Int) := Int.mul_nonneg (by omega) (by omega)
  have hm2 : (l.length : Int) * (n : Int) ≤ 65536 := by
    have := Nat.mul_le_mul hll hn16
    rw [← Int.natCast_mul]
    omega
  clear h hm hi hk ht hd hl hown hUd
  go_enter Try.func20, Try.ntmps20
  go_upto_region 2 with fail
  obtain ⟨w1, hw1, hs1, hk1, hb1, hc1, -⟩ := named w #[.int .i64 k, .int .i64 v] 69
  rw [← hw1]
  have c0 : w1.cell? ⟨w.heap.size, 0, none⟩ = some (.int .i64 k) := hc1 0 _ rfl
  have c1 : w1.cell? ⟨w.heap.size, 1, none⟩ = some (.int .i64 v) := hc1 1 _ rfl
  have hc0 := hk1 _ _ hc0
  have hc := hk1 _ _ hc
  have hcd := hk1 _ _ hcd
  have HB1 := Lib.hid hb1
  have HZ1 := Lib.hid hs1
  clear hw1 hs1 hk1 hb1 hc1
  go_wp2_with fail
  refine (mayBe_any k v w1).mono ?_
  rintro e w2 ⟨rfl, hb2⟩
  have HB2 : Hid (Below w.heap.size w w2) := Lib.hid (HB1.out.trans (hb2.mono HB1.out.size))
  have c0 := kept_of_below hb2 _ _ c0
  have c1 := kept_of_below hb2 _ _ c1
  have hc0 := kept_of_below hb2 _ _ hc0
  have hc := kept_of_below hb2 _ _ hc
  have hcd := kept_of_below hb2 _ _ hcd
  have hlk : ∀ j, (Instr.lookup 90 (.map (some bm)) (.agg #[.int .i64 k, .int .i64 v]) true).run Try.prog (w2.drewN j) = .ok (.tuple #[.int .i64 0, .bool false]) (w2.drewN j) := fun j => by
    have := ((HT.out.below HB2.out).map.kept (w' := w2.drewN j) (by simp)).look (x := (k, v)) HIV.out
    rw [if_neg (by rw [HI.out]; decide), HI.out] at this
    exact this
  rw [HM.out]
  have HZ2 : Hid (w1.heap.size ≤ w2.heap.size) := Lib.hid hb2.size
  clear hb2
  go_upto_region 4 with fail
  go_quiet (fail)
  go_wp2_with fail
  refine (len_any (HT.out.below (below_drewN HB2.out nq))).mono ?_
  rintro e w3 ⟨rfl, rfl⟩
  clear hlk
  obtain ⟨w3, hw3⟩ : ∃ w3, w3 = w2.drewN nq := ⟨_, rfl⟩
  have hb3 : Below w2.heap.size w2 w3 := by rw [hw3]; exact below_drewN (Below.refl _ _) _
  rw [← hw3]
  have HB3 : Hid (Below w.heap.size w w3) := Lib.hid (HB2.out.trans (hb3.mono HB2.out.size))
  have c0 := kept_of_below hb3 _ _ c0
  have c1 := kept_of_below hb3 _ _ c1
  have hc0 := kept_of_below hb3 _ _ hc0
  have hc := kept_of_below hb3 _ _ hc
  have hcd := kept_of_below hb3 _ _ hcd
  have HZ3 : Hid (w2.heap.size ≤ w3.heap.size) := Lib.hid hb3.size
  clear hb3 hw3
  go_wp2_with fail
  refine (drawerOf_any (HT.out.below HB3.out) k v HKK.out HIV.out.2).mono ?_
  rintro e w4 ⟨rfl, hb4⟩
  rw [← HD.out]
  have HB4 : Hid (Below w.heap.size w w4) := Lib.hid (HB3.out.trans (hb4.mono HB3.out.size))
  have c0 := kept_of_below hb4 _ _ c0
  have c1 := kept_of_below hb4 _ _ c1
  have hc0 := kept_of_below hb4 _ _ hc0
  have hc := kept_of_below hb4 _ _ hc
  have hcd := kept_of_below hb4 _ _ hcd
  have HZ4 : Hid (w3.heap.size ≤ w4.heap.size) := Lib.hid hb4.size
  clear hb4
  have hd0 : (0 : Int) ≤ d := by omega
  have hd1 : (d : Int) < n := by omega
  have hwr1 : IntKind.i64.wrap ((l.length : Int) * (n : Int)) = (l.length : Int) * (n : Int) := IntWalk.i64_in _ (by omega)
  have hwr2 : IntKind.i64.wrap ((l.length : Int) * (n : Int) + (d : Int)) = (l.length : Int) * (n : Int) + (d : Int) := IntWalk.i64_in _ (by omega)
  go_upto_region 10 with fail
  go_quiet (fail)
  go_upto_region 11 with fail
  obtain ⟨wC, hwC⟩ : ∃ wC, wC = w4.drewN nq := ⟨_, rfl⟩
  have hb5 : Below w4.heap.size w4 wC := by rw [hwC]; exact below_drewN (Below.refl _ _) _
  have HBC : Hid (Below w.heap.size w wC) := Lib.hid (HB4.out.trans (hb5.mono HB4.out.size))
  have hzV : w.heap.size < wC.heap.size := by have := HZ1.out; have := HZ2.out; have := HZ3.out; have := HZ4.out; have := hb5.size; omega
  have c0 := kept_of_below hb5 _ _ c0
  have c1 := kept_of_below hb5 _ _ c1
  have hc0 := kept_of_below hb5 _ _ hc0
  have hc := kept_of_below hb5 _ _ hc
  have hcd := kept_of_below hb5 _ _ hcd
  rw [← hwC]
  have HTC : Hid (TabM wC K b g bm n U ds) := Lib.hid (HT.out.below HBC.out)
  have how : wC.ownsRow K 69 2 (.slice A l.length c) l.length (cellsV l) := by
    have := HTC.out.pool.own d hdn
    rw [← HL.out, HUD.out] at this
    exact this
  have HOW := Lib.hid how
  obtain ⟨V, hV⟩ : ∃ V, V = w.heap.size := ⟨_, rfl⟩
  have HVV := Lib.hid hV
  rw [← hV] at c0 c1 hzV ⊢
  have hbl : b < wC.heap.size := (HTC.out.lt (.inl rfl)).2
  have hgl : g < wC.heap.size := (HTC.out.lt (.inr (.inl rfl))).2
  have hKw : K ≤ wC.heap.size := by have := (HTC.out.lt (.inl rfl)).1; omega
  clear hwC hb5 how hV hwr1 hwr2 HB4 HB3 HB2 HB1
  obtain ⟨i0, hi0, hz0, hz1, hz2⟩ := info_parts Try.infoVal69
  have HI0 := Lib.hid (And.intro hi0 (And.intro hz0 (And.intro hz1 hz2)))
  clear hi0 hz0 hz1 hz2
  have hS : ∀ w' : World, (∀ y, y = b ∨ y = g ∨ y = V → w'.heap[y]? = wC.heap[y]?) → w'.cell? ⟨b, 0, none⟩ = some (.slice (some ⟨g, 0, none⟩) n n) ∧ w'.cell? ⟨g, d, none⟩ = some (.slice A l.length c) ∧ w'.cell? ⟨V, 0, none⟩ = some (.int .i64 k) ∧ w'.cell? ⟨V, 1, none⟩ = some (.int .i64 v) := fun w' hb =>
    ⟨(World.cell?_of_block (a := ⟨b, 0, none⟩) (hb b (.inl rfl))).trans hc0, (World.cell?_of_block (a := ⟨g, d, none⟩) (hb g (.inr (.inl rfl)))).trans hcd, (World.cell?_of_block (a := ⟨V, 0, none⟩) (hb V (.inr (.inr rfl)))).trans c0, (World.cell?_of_block (a := ⟨V, 1, none⟩) (hb V (.inr (.inr rfl)))).trans c1⟩
  have hS0 := hS wC.drew (fun _ _ => rfl)
  refine wp_region_last (L := 16) (S := fun w' : World => w'.cell? ⟨b, 0, none⟩ = some (.slice (some ⟨g, 0, none⟩) n n) ∧ w'.cell? ⟨g, d, none⟩ = some (.slice A l.length c) ∧ w'.cell? ⟨V, 0, none⟩ = some (.int .i64 k) ∧ w'.cell? ⟨V, 1, none⟩ = some (.int .i64 v)) (by kernel_rfl) (by rfl) (by kernel_rfl) (by kernel_rfl) ?_
  change wpAnyH _ _ _ _ _ _ _ _ (World.drew _)
  refine takeH (i := 0) (some 54) (v := ?_) rfl (by kernel_rfl) (by kernel_rfl) (by kernel_rfl) (fun _ _ _ h => h) hS0 (fun o ho => ?_) ?_
  rotate_left
  · simp only [List.getElem?_toArray, List.getElem?_cons_zero, Option.some.injEq] at ho; subst ho; refine Or.inl ⟨by rfl, fun w' hSw => ?_⟩; (try dsimp only at hSw); go_simp; try with_reducible rfl
  simp only [Act.put, List.setIfInBounds_toArray, List.set_cons_zero, List.set_cons_succ]
  refine takeH (i := 1) (some 55) (v := ?_) rfl (by kernel_rfl) (by kernel_rfl) (by kernel_rfl) (fun _ _ _ h => h) hS0 (fun o ho => ?_) ?_
  rotate_left
  · simp only [List.getElem?_toArray, List.getElem?_cons_zero, List.getElem?_cons_succ, Option.some.injEq] at ho; subst ho; refine Or.inl ⟨by rfl, fun w' hSw => ?_⟩; (try dsimp only at hSw); go_simp; try with_reducible rfl
  simp only [Act.put, List.setIfInBounds_toArray, List.set_cons_zero, List.set_cons_succ]
  refine takeH (i := 2) (some 56) (v := ?_) rfl (by kernel_rfl) (by kernel_rfl) (by kernel_rfl) (fun _ _ _ h => h) hS0 (fun o ho => ?_) ?_
  rotate_left
  · simp only [List.getElem?_toArray, List.getElem?_cons_zero, List.getElem?_cons_succ, Option.some.injEq] at ho; subst ho; refine Or.inl ⟨by rfl, fun w' hSw => ?_⟩; (try dsimp only at hSw); go_simp; try with_reducible rfl
  simp only [Act.put, List.setIfInBounds_toArray, List.set_cons_zero, List.set_cons_succ]
  refine takeH (i := 3) (some 57) (v := ?_) rfl (by kernel_rfl) (by kernel_rfl) (by kernel_rfl) (fun _ _ _ h => h) hS0 (fun o ho => ?_) ?_
  rotate_left
  · simp only [List.getElem?_toArray, List.getElem?_cons_zero, List.getElem?_cons_succ, Option.some.injEq] at ho; subst ho; refine Or.inl ⟨by rfl, fun w' hSw => ?_⟩; (try dsimp only at hSw); go_simp; try with_reducible rfl
  simp only [Act.put, List.setIfInBounds_toArray, List.set_cons_zero, List.set_cons_succ]
  refine takeH (i := 4) (some 58) (v := ?_) rfl (by kernel_rfl) (by kernel_rfl) (by kernel_rfl) (fun _ _ _ h => h) hS0 (fun o ho => ?_) ?_
  rotate_left
  · simp only [List.getElem?_toArray, List.getElem?_cons_zero, List.getElem?_cons_succ, Option.some.injEq] at ho; subst ho; refine Or.inl ⟨by rfl, fun w' hSw => ?_⟩; (try dsimp only at hSw); go_simp; try with_reducible rfl
  simp only [Act.put, List.setIfInBounds_toArray, List.set_cons_zero, List.set_cons_succ]
  refine takeH (i := 5) (some 59) (v := ?_) rfl (by kernel_rfl) (by kernel_rfl) (by kernel_rfl) (fun _ _ _ h => h) hS0 (fun o ho => ?_) ?_
  rotate_left
  · simp only [List.getElem?_toArray, List.getElem?_cons_zero, List.getElem?_cons_succ, Option.some.injEq] at ho; subst ho; refine Or.inl ⟨by rfl, fun w' hSw => ?_⟩; (try dsimp only at hSw); go_simp; try with_reducible rfl
  simp only [Act.put, List.setIfInBounds_toArray, List.set_cons_zero, List.set_cons_succ]
  refine takeH (i := 6) (some 60) (v := ?_) rfl (by kernel_rfl) (by kernel_rfl) (by kernel_rfl) (fun _ _ _ h => h) hS0 (fun o ho => ?_) ?_
  rotate_left
  · simp only [List.getElem?_toArray, List.getElem?_cons_zero, List.getElem?_cons_succ, Option.some.injEq] at ho; subst ho; refine Or.inl ⟨by rfl, fun w' hSw => ?_⟩; (try dsimp only at hSw); go_simp; try with_reducible rfl
  simp only [Act.put, List.setIfInBounds_toArray, List.set_cons_zero, List.set_cons_succ]
  refine takeH (i := 7) (some 61) (v := ?_) rfl (by kernel_rfl) (by kernel_rfl) (by kernel_rfl) (fun _ _ _ h => h) hS0 (fun o ho => ?_) ?_
  rotate_left
  · simp only [List.getElem?_toArray, List.getElem?_cons_zero, List.getElem?_cons_succ, Option.some.injEq] at ho; subst ho; refine Or.inl ⟨by rfl, fun w' hSw => ?_⟩; (try dsimp only at hSw); go_simp; try with_reducible rfl
  simp only [Act.put, List.setIfInBounds_toArray, List.set_cons_zero, List.set_cons_succ]
  refine takeH (i := 8) (some 62) (v := ?_) rfl (by kernel_rfl) (by kernel_rfl) (by kernel_rfl) (fun _ _ _ h => h) hS0 (fun o ho => ?_) ?_
  rotate_left
  · simp only [List.getElem?_toArray, List.getElem?_cons_zero, List.getElem?_cons_succ, Option.some.injEq] at ho; subst ho; refine Or.inl ⟨by rfl, fun w' hSw => ?_⟩; (try dsimp only at hSw); go_simp; try with_reducible rfl
  simp only [Act.put, List.setIfInBounds_toArray, List.set_cons_zero, List.set_cons_succ]
  refine takeH (i := 9) (some 63) (v := ?_) rfl (by kernel_rfl) (by kernel_rfl) (by kernel_rfl) (fun _ _ _ h => h) hS0 (fun o ho => ?_) ?_
  rotate_left
  · simp only [List.getElem?_toArray, List.getElem?_cons_zero, List.getElem?_cons_succ, Option.some.injEq] at ho; subst ho; refine Or.inl ⟨by rfl, fun w' hSw => ?_⟩; (try dsimp only at hSw); go_simp; try with_reducible rfl
  simp only [Act.put, List.setIfInBounds_toArray, List.set_cons_zero, List.set_cons_succ]
  refine takeH (i := 10) (some 64) (v := ?_) rfl (by kernel_rfl) (by kernel_rfl) (by kernel_rfl) (fun _ _ _ h => h) hS0 (fun o ho => ?_) ?_
  rotate_left
  · simp only [List.getElem?_toArray, List.getElem?_cons_zero, List.getElem?_cons_succ, Option.some.injEq] at ho; subst ho; refine Or.inl ⟨by rfl, fun w' hSw => ?_⟩; (try dsimp only at hSw); go_simp; try with_reducible rfl
  simp only [Act.put, List.setIfInBounds_toArray, List.set_cons_zero, List.set_cons_succ]
  refine takeH (i := 11) (some 65) (v := ?_) rfl (by kernel_rfl) (by kernel_rfl) (by kernel_rfl) (fun _ _ _ h => h) hS0 (fun o ho => ?_) ?_
  rotate_left
  · simp only [List.getElem?_toArray, List.getElem?_cons_zero, List.getElem?_cons_succ, Option.some.injEq] at ho; subst ho; refine Or.inl ⟨by rfl, fun w' hSw => ?_⟩; (try dsimp only at hSw); go_simp; try with_reducible rfl
  simp only [Act.put, List.setIfInBounds_toArray, List.set_cons_zero, List.set_cons_succ]
  refine takeH (i := 12) (some 66) (v := ?_) rfl (by kernel_rfl) (by kernel_rfl) (by kernel_rfl) (fun _ _ _ h => h) hS0 (fun o ho => ?_) ?_
  rotate_left
  · simp only [List.getElem?_toArray, List.getElem?_cons_zero, List.getElem?_cons_succ, Option.some.injEq] at ho; subst ho; refine Or.inl ⟨by rfl, fun w' hSw => ?_⟩; (try dsimp only at hSw); go_simp; try with_reducible rfl
  simp only [Act.put, List.setIfInBounds_toArray, List.set_cons_zero, List.set_cons_succ]
  refine oneH (i := 13) (by kernel_rfl) (fun o ho K' hK => ?_)
  simp only [List.getElem?_toArray, List.getElem?_cons_zero, List.getElem?_cons_succ, Option.some.injEq] at ho; subst ho
  go_simp
  have hb8 : Below wC.heap.size wC (wC.alloc (.cells #[.int .i64 k, .int .i64 v] 69)).drew := ((Below.refl _ wC).alloc (Nat.le_refl _) _).drew
  refine hK.out _ _ (hS _ fun y hy => hb8.block y (by rcases hy with h | h | h <;> omega)) ?_
  clear hK K'
  refine oneH (i := 14) (by kernel_rfl) (fun o ho K' hK => ?_)
  simp only [List.getElem?_toArray, List.getElem?_cons_zero, List.getElem?_cons_succ, Option.some.injEq] at ho; subst ho
  refine step_append_lies _ (by rfl) _ _ _ (by rfl) K 69 i0 (.agg #[.int .i64 0, .int .i64 0]) 2 16 Try.underlying59 HI0.out.1 HI0.out.2.1 HI0.out.2.2.1 HI0.out.2.2.2 rfl (by decide) (.slice A l.length c) _ _ (by rfl) (HOW.out.alloc _)
    ⟨wC.heap.size, 0, none⟩ 1 1 [.int .i64 k, .int .i64 v] (by rfl) (by rfl) (news_cells _ #[.int .i64 k, .int .i64 v] _ (by simp)) (by simp [Value.oneCell']) (by decide) (by unfold maxLen; omega) (by omega) (by simp; omega) (wC.heap.size + 1) (by simp) ?_
  intro g' cap w7 hown7 hgrow7 hloc7 hlt7
  have hgd : GroD wC w7 (.slice A l.length c) (.slice (some ⟨g', 0, none⟩) (l.length + 1) cap) := groD_drew (groD_append hgrow7 hloc7)
  have hno : ∀ y, y = b ∨ y = g ∨ y = V → (Value.slice A l.length c).ownBlock ≠ some y := fun y hy e => by
    rw [← HUD.out] at e
    rcases hy with rfl | rfl | rfl
    · exact (HTC.out.ap d _ hdn e).1 rfl
    · exact (HTC.out.ap d _ hdn e).2.1 rfl
    · have := (HT.out.lt (.inr (.inr (.inr ⟨d, hdn, e⟩)))).2
      have := HVV.out; omega
  have hb7 : ∀ y, y = b ∨ y = g ∨ y = V → w7.heap[y]? = wC.heap[y]? := fun y hy => hgd.block y (by rcases hy with h | h | h <;> omega) (hno y hy)
  have hS7 := hS w7 hb7
  have hfz7 : w7.frozen? ⟨g, d, none⟩ = false := (World.frozen?_of_block (a := ⟨g, d, none⟩) (hb7 g (.inr (.inl rfl)))).trans (HTC.out.row.frozen d)
  have HGD := Lib.hid hgd
  have HO7 := Lib.hid hown7
  refine hK.out _ _ hS7 ?_
  clear hK K' hgd hown7 hgrow7 hloc7 hlt7 hno
  try simp only [Act.put, List.setIfInBounds_toArray, List.set_cons_zero, List.set_cons_succ]
  refine takeH (i := 15) (some 69) (v := ?_) rfl (by kernel_rfl) (by kernel_rfl) (by kernel_rfl) (fun _ _ _ h => h) hS7 (fun o ho => ?_) ?_
  rotate_left
  · simp only [List.getElem?_toArray, List.getElem?_cons_zero, List.getElem?_cons_succ, Option.some.injEq] at ho; subst ho; refine Or.inl ⟨by rfl, fun w' hSw => ?_⟩; (try dsimp only at hSw); go_simp; try with_reducible rfl
  simp only [Act.put, List.setIfInBounds_toArray, List.set_cons_zero, List.set_cons_succ]
  refine wpAnyH_done (by kernel_rfl) ?_ _
  refine lastH (by decide) (fun o ho K' hK => ?_)
  simp only [List.getElem?_toArray, List.getElem?_cons_zero, List.getElem?_cons_succ, Option.some.injEq] at ho; subst ho
  have hcg7 := hS7.2.1
  go_simp
  refine hK.out _ _ ?_
  clear hK K' hcg7 hcd hc0
  obtain ⟨w8, hw8⟩ : ∃ w8, w8 = w7.setCell ⟨g, d, none⟩ (.slice (some ⟨g', 0, none⟩) (l.length + 1) cap) := ⟨_, rfl⟩
  rw [← hw8]
  have h8 : ∀ y, y ≠ g → w8.heap[y]? = w7.heap[y]? := fun y hy => by rw [hw8]; exact Below.heap_setCell _ _ _ _ hy
  have hVg : V ≠ g := fun e => by have := (HT.out.lt (.inr (.inl rfl))).2; have := HVV.out; omega
  have c0 := (World.cell?_of_block (a := ⟨V, 0, none⟩) (h8 V hVg)).trans hS7.2.2.1
  have c1 := (World.cell?_of_block (a := ⟨V, 1, none⟩) (h8 V hVg)).trans hS7.2.2.2
  have hc : w8.cell? ⟨b, 1, none⟩ = some (.map (some bm)) := (World.cell?_of_block (a := ⟨b, 1, none⟩) ((h8 b HTC.out.ne.1).trans (hb7 b (.inl rfl)))).trans hc
  have HW8 := Lib.hid hw8
  have hmp : MpV w8.drew bm (totV ds) n ds := HTC.out.map.kept (((h8 bm (Ne.symm HTC.out.ne.2.2)).trans (HGD.out.block bm (HTC.out.lt (.inr (.inr (.inl rfl)))).2 (fun e => by rw [← HUD.out] at e; exact (HTC.out.ap d _ hdn e).2.2 rfl))))
  obtain ⟨w9, hrun9, hm9, hg9, hz9⟩ := hmp.store HTC.out.ok (by unfold maxLen; have := HTC.out.tot; omega) (x := (k, v)) HIV.out HI.out
  rw [← HD.out, ← HL.out] at hrun9
  rw [Int.natCast_add, Int.natCast_mul] at hrun9
  have HM9 := Lib.hid (And.intro hm9 (And.intro hg9 hz9))
  clear hw8 h8 hVg hS7 hb7 hfz7 hmp hm9 hg9 hz9 hS0 hS
  go_wp2_with fail
  go_still_tail 6, (by kernel_rfl)
  change wpList _ _ _ _ _ w8.drew
  go_wp2_with fail
  obtain ⟨t1, t2, t3⟩ := tab_add (x := (k, v)) HTC.out HD.out HL.out HIV.out HM.out HI.out (by omega) (by rw [HUD.out]; exact HGD.out) HO7.out (u := w8.drew) (by rw [HW8.out]) HM9.out.2.1 HM9.out.2.2 HM9.out.1
  go_ret2
  exact ⟨rfl, _, t1, (FrX.of_below HBC.out).trans t2, fun y hy => (t3 y hy).imp id fun h => Nat.le_trans HBC.out.size h⟩
/-- What Put tells: the handle, the error's number. -/
def resV (n : Nat) (ds : List (List VD)) (x : VD) : Int × Int :=
  if mayV x = false then (0, 1) else if inV n ds x = true then ((hV n ds x : Nat), 0) else if 4096 ≤ totV ds then (0, 8) else (((ds.getD (drwV n x) []).length * n + drwV n x : Nat), 0)
def errV (c : Int) : Value := if c = 0 then .nilIface else .iface 57 (.int .i64 c)
/-- What becomes of a table by Put. -/
def PutsTo (w : World) (K b g bm n : Nat) (U : Nat → Value) (ds : List (List VD)) (x : VD) (e : Ending) (w' : World) : Prop :=
  e = .returned (.tuple #[.int .i64 (resV n ds x).1, errV (resV n ds x).2]) ∧ ∃ U', TabM w' K b g bm n U' (putV n ds x) ∧ FrX (TabX b g bm n U) w w' ∧ ∀ y, TabX b g bm n U' y → TabX b g bm n U y ∨ w.heap.size ≤ y
theorem put_any (h : TabM w K b g bm n U ds) (k v : Int) (hv : I64 v) :
    Calls Try.prog 20 #[.pointer (some ⟨b, 0, none⟩), .int .i64 k, .int .i64 v] w (PutsTo w K b g bm n U ds (k, v)) := by
  have stay : ∀ {w' : World}, Below w.heap.size w w' → putV n ds (k, v) = ds → ∃ U', TabM w' K b g bm n U' (putV n ds (k, v)) ∧ FrX (TabX b g bm n U) w w' ∧ ∀ y, TabX b g bm n U' y → TabX b g bm n U y ∨ w.heap.size ≤ y := fun hb e =>
    ⟨U, by rw [e]; exact h.below hb, FrX.of_below hb, fun y hy => .inl hy⟩
  cases hm : mayV (k, v) with
  | false =>
    refine (put_no h k v hm).mono ?_
    rintro e w' ⟨rfl, hb⟩
    exact ⟨by unfold resV; rw [if_pos hm]; rfl, stay hb (by unfold putV; rw [if_neg (fun q => by rw [hm] at q; cases q.1)])⟩
  | true =>
    cases hi : inV n ds (k, v) with
    | true =>
      refine (put_old h k v hm hi).mono ?_
      rintro e w' ⟨rfl, hb⟩
      exact ⟨by unfold resV; rw [if_neg (by rw [hm]; decide), if_pos hi]; rfl, stay hb (by unfold putV; rw [if_neg (fun q => by rw [hi] at q; cases q.2.1)])⟩
    | false =>
      by_cases ht : 4096 ≤ totV ds
      · refine (put_full h k v hv hm hi ht).mono ?_
        rintro e w' ⟨rfl, hb⟩
        exact ⟨by unfold resV; rw [if_neg (by rw [hm]; decide), if_neg (by rw [hi]; decide), if_pos ht]; rfl, stay hb (by unfold putV; rw [if_neg (fun q => by omega)])⟩
      · refine (put_new h k v hv hm hi (by omega)).mono ?_
        rintro e w' ⟨rfl, U', t1, t2, t3⟩
        exact ⟨by unfold resV; rw [if_neg (by rw [hm]; decide), if_neg (by rw [hi]; decide), if_neg ht]; rfl, U', by unfold putV; rw [if_pos ⟨hm, hi, by omega⟩]; exact t1, t2, t3⟩
end
end Go.Proofs.Ytcjmhdneelmbhaa

/- Two interface values of one integer type are equal as their numbers are; one of them against nil is not. Over any program. -/
namespace Go.Proofs.Ytcjmhdneelmbhaa
section
variable {P : Program} (w : World)

theorem run_equalIn_iface_int (d : Nat) {ti tn : TypeId} {ms : Array (String × TypeId)} {i : TypeInfo} {k : IntKind} (a b : Int)
    (hi : P.underlying ti = some (.interface ms)) (hn : P.underlying tn = some (.int k)) (hinfo : P.info? tn = some i) (hcomp : i.comparable = true) :
    (Op.equalIn (d + 2) ti (.iface tn (.int k a)) (.iface tn (.int k b))).run P w = .ok (a == b) w := by
  simp [Op.equalIn, run_underlying hi, run_underlying hn, typeInfo, hinfo, hcomp]

theorem run_eql_iface_int {ti tn : TypeId} {ms : Array (String × TypeId)} {i : TypeInfo} {k : IntKind} (a b : Int)
    (hi : P.underlying ti = some (.interface ms)) (hn : P.underlying tn = some (.int k)) (hinfo : P.info? tn = some i) (hcomp : i.comparable = true) :
    (binOp .eql ti (.iface tn (.int k a)) (.iface tn (.int k b))).run P w = .ok (.bool (a == b)) w := by
  simp only [binOp]
  simp [Op.equal, Op.maxDepth, run_equalIn_iface_int w 9998 a b hi hn hinfo hcomp]
end
end Go.Proofs.Ytcjmhdneelmbhaa

/- Two errors that are Codes are equal as their numbers are. -/
namespace Go.Proofs.Ytcjmhdneelmbhaa
open Go.ChangeShapes Go.WideShapes Go.RowKit Go.Deep
set_option linter.unusedVariables false

theorem codeInfo : Try.prog.info? 57 = some ((Try.prog.info? 57).get!) := by kernel_rfl
theorem codeComp : ((Try.prog.info? 57).get!).comparable = true := by kernel_rfl
theorem eqlErr (x y : Int) (w : World) : (binOp .eql 30 (.iface 57 (.int .i64 x)) (.iface 57 (.int .i64 y))).run Try.prog w = .ok (.bool (x == y)) w :=
  run_eql_iface_int w x y Try.underlying30 Try.underlying57 codeInfo codeComp

end Go.Proofs.Ytcjmhdneelmbhaa
