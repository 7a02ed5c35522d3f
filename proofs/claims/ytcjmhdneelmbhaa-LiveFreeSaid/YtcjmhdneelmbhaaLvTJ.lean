/- A region that draws its order, whose last operation waits for all others: the others first, in whatever order, with a condition on the world that need not hold behind the last one. Over any program. -/
import Derived.OrdersHeld
import Derived.RegionTactic
import Derived.Lib.Hide
import Derived.Test.YtcjmhdneelmbhaaLvGJ
import Derived.Test.YtcjmhdneelmbhaaSpecJ
namespace Go.Proofs.Ytcjmhdneelmbhaa
open Go
set_option linter.unusedVariables false

section
variable {P : Program} {ops : Array Oper} {Q : Exit → Act → World → Prop} {md : Region.Mode} {S : World → Prop}

/-- Edges lead to what stands ahead in the text. -/
def downB (md : Region.Mode) (ops : Array Oper) : Bool :=
  (List.range ops.size).all fun i => ((ops[i]?).map fun o => o.after.all fun e => !Region.binds md e || decide (e.on < i)).getD true
/-- Each but number L is waited for by one behind it. -/
def feedsB (md : Region.Mode) (ops : Array Oper) (L : Nat) : Bool :=
  (List.range L).all fun i => (List.range (L + 1)).any fun j => decide (i < j) && ((ops[j]?).map fun o => o.after.any fun e => Region.binds md e && decide (e.on = i)).getD false

theorem downB_spec (h : downB md ops = true) {i : Nat} {o : Oper} (ho : ops[i]? = some o) : ∀ e ∈ o.after, Region.binds md e = true → e.on < i := by
  intro e he hb
  unfold downB at h
  have hi : i < ops.size := (Array.getElem?_eq_some_iff.1 ho).1
  have h1 := List.all_eq_true.1 h i (List.mem_range.2 hi)
  rw [ho] at h1
  simp only [Option.map_some, Option.getD_some, Array.all_eq_true_iff_forall_mem] at h1
  have h2 := h1 e he
  simpa [hb] using h2
theorem feedsB_spec {L : Nat} (h : feedsB md ops L = true) {i : Nat} (hi : i < L) : ∃ j o e, i < j ∧ j ≤ L ∧ ops[j]? = some o ∧ e ∈ o.after ∧ Region.binds md e = true ∧ e.on = i := by
  unfold feedsB at h
  have h1 := List.all_eq_true.1 h i (List.mem_range.2 hi)
  obtain ⟨j, hj, h2⟩ := List.any_eq_true.1 h1
  rw [Bool.and_eq_true] at h2
  obtain ⟨h3, h4⟩ := h2
  cases ho : ops[j]? with
  | none => rw [ho] at h4; simp at h4
  | some o =>
    rw [ho] at h4
    simp only [Option.map_some, Option.getD_some, Array.any_eq_true'] at h4
    obtain ⟨e, he, hb⟩ := h4
    rw [Bool.and_eq_true] at hb
    exact ⟨j, o, e, of_decide_eq_true h3, by have := List.mem_range.1 hj; omega, ho, he, hb.1, of_decide_eq_true hb.2⟩

/-- What has come up had all that it waits for. -/
def Closed (md : Region.Mode) (ops : Array Oper) (listed : Array Bool) : Prop :=
  ∀ i o, ops[i]? = some o → listed.getD i true = true → ∀ e ∈ o.after, Region.binds md e = true → listed.getD e.on false = true

theorem getD_two {l : Array Bool} {i : Nat} (h : i < l.size) (a b : Bool) : l.getD i a = l.getD i b := by
  simp [Array.getD, h]
theorem getD_set_self {l : Array Bool} {i : Nat} (h : i < l.size) (d : Bool) : (l.setIfInBounds i true).getD i d = true := by
  simp [Array.getD, h]

theorem Closed.set {listed : Array Bool} (hc : Closed md ops listed) (hs : listed.size = ops.size) {i : Nat} (hi : i ∈ Region.ready md ops listed) : Closed md ops (listed.setIfInBounds i true) := by
  intro j o ho hj e he hb
  by_cases hji : j = i
  · subst hji
    obtain ⟨_, o', ho', hall⟩ := mem_ready.1 hi
    rw [ho] at ho'
    cases ho'
    exact getD_set_true (hall e he hb)
  · rw [getD_set_ne true (Ne.symm hji)] at hj
    exact getD_set_true (hc j o ho hj e he hb)

/-- When the last one may come up, all others have. -/
theorem all_of_last {L : Nat} {listed : Array Bool} (hsz : ops.size = L + 1) (hs : listed.size = ops.size) (hf : feedsB md ops L = true) (hc : Closed md ops listed) (hL : L ∈ Region.ready md ops listed) : ∀ i, i < L → listed.getD i true = true := by
  have key : ∀ n i, L - i ≤ n → i < L → listed.getD i true = true := by
    intro n
    induction n with
    | zero => intro i h1 h2; omega
    | succ n ih =>
      intro i h1 h2
      obtain ⟨j, o, e, hij, hjL, ho, he, hb, hei⟩ := feedsB_spec hf h2
      have h3 : listed.getD e.on false = true := by
        by_cases hj : j = L
        · subst hj
          obtain ⟨_, o', ho', hall⟩ := mem_ready.1 hL
          rw [ho] at ho'
          cases ho'
          exact hall e he hb
        · exact hc j o ho (ih j (by omega) (by omega)) e he hb
      rw [hei] at h3
      rw [getD_two (by omega) true false]
      exact h3
  exact fun i hi => key (L - i) i (Nat.le_refl _) hi
/-- While the last one has not come up, one may. -/
theorem ready_some {L : Nat} {listed : Array Bool} (hsz : ops.size = L + 1) (hs : listed.size = ops.size) (hd : downB md ops = true) (hL : listed.getD L true = false) : Region.ready md ops listed ≠ [] := by
  have key : ∀ n i, i ≤ n → i ≤ L → listed.getD i true = false → ∃ k, k ∈ Region.ready md ops listed := by
    intro n
    induction n with
    | zero =>
      intro i h1 h2 h3
      obtain rfl : i = 0 := by omega
      have ho : ops[0]? = some ops[0] := Array.getElem?_eq_getElem (by omega)
      exact ⟨0, mem_ready.2 ⟨h3, _, ho, fun e he hb => absurd (downB_spec hd ho e he hb) (by omega)⟩⟩
    | succ n ih =>
      intro i h1 h2 h3
      have ho : ops[i]? = some ops[i] := Array.getElem?_eq_getElem (by omega)
      by_cases hall : ∀ e ∈ ops[i].after, Region.binds md e = true → listed.getD e.on false = true
      · exact ⟨i, mem_ready.2 ⟨h3, _, ho, hall⟩⟩
      · simp only [Classical.not_forall] at hall
        obtain ⟨e, he, hb, hno⟩ := hall
        have hlt := downB_spec hd ho e he hb
        refine ih e.on (by omega) (by omega) ?_
        rw [getD_two (by omega) true false]
        simpa using hno
  obtain ⟨k, hk⟩ := key L L (Nat.le_refl _) (Nat.le_refl _) hL
  intro h0
  rw [h0] at hk
  cases hk

/-- The post behind all but the last: the last one's turn. -/
def LastQ (P : Program) (ops : Array Oper) (Q : Exit → Act → World → Prop) (L : Nat) : Exit → Act → World → Prop
  | .normal, a, w => wpOp P ops Q L (Q .normal) a w
  | e, a, w => Q e a w

theorem upon_last {L : Nat} {o : Oper} {a : Act} {K : Act → World → Prop} {r : Result Next} (h : o.upon P a K (LastQ P ops Q L) r) : o.upon P a K Q r := by
  cases r with
  | ok n w' =>
    cases n <;> simp only [Oper.upon] at h ⊢ <;> exact h
  | halt x w' => cases x <;> simp only [Oper.upon] at h ⊢ <;> exact h
theorem wpOp_last {L i : Nat} {K : Act → World → Prop} {a : Act} {w : World} (h : wpOp P ops (LastQ P ops Q L) i K a w) : wpOp P ops Q i K a w := by
  unfold wpOp at *
  split
  · rename_i ho; simp only [ho] at h; exact h
  · rename_i o ho
    simp only [ho] at h
    split
    · rename_i hw; simp only [hw, if_true] at h; exact h.imp (fun h => by unfold Oper.wp at *; exact upon_last h) (fun h => ⟨h.1, h.2⟩)
    · rename_i hw; simp only [hw] at h; exact h

theorem wpAny_last {L : Nat} (hsz : ops.size = L + 1) (hd : downB md ops = true) (hf : feedsB md ops L = true) :
    ∀ (fuel : Nat) (listed : Array Bool) (a : Act) (w : World), listed.size = ops.size → Closed md ops listed → listed.getD L true = false →
      wpAnyH P md ops (LastQ P ops Q L) S fuel (listed.setIfInBounds L true) a w → wpAny P md ops Q (fuel + 1) listed a w := by
  intro fuel
  induction fuel with
  | zero =>
    intro listed a w hs hc hL H
    refine ⟨fun h0 => absurd h0 (ready_some hsz hs hd hL), fun i hi => ?_⟩
    by_cases hiL : i = L
    · subst hiL
      exact wpOp_mono (fun a' w' h' => ⟨H.1, h'⟩) (show wpOp P ops Q i (Q .normal) a w from H.2)
    · have := ready_mono hi hiL
      rw [H.1] at this
      cases this
  | succ fuel ih =>
    intro listed a w hs hc hL H
    refine ⟨fun h0 => absurd h0 (ready_some hsz hs hd hL), fun i hi => ?_⟩
    by_cases hiL : i = L
    · subst hiL
      have hall := all_of_last hsz hs hf hc hi
      have hr : Region.ready md ops (listed.setIfInBounds i true) = [] := by
        rw [List.eq_nil_iff_forall_not_mem]
        intro k hk
        obtain ⟨h0, o, ho, _⟩ := mem_ready.1 hk
        have hkl : k < ops.size := (Array.getElem?_eq_some_iff.1 ho).1
        by_cases hki : k = i
        · subst hki
          rw [getD_set_self (by omega)] at h0
          cases h0
        · rw [getD_set_ne true (Ne.symm hki), hall k (by omega)] at h0
          cases h0
      exact wpOp_mono (fun a' w' h' => wpAny_done hr h' _) (show wpOp P ops Q i (Q .normal) a w from H.1 hr)
    · have h1 := wpOp_last (H.2 i (ready_mono hi hiL))
      refine wpOp_mono (fun a' w' h' => ih (listed.setIfInBounds i true) a' w' (by simpa using hs) (hc.set hs hi) ?_ ?_) h1
      · rw [getD_set_ne true hiL]; exact hL
      · rw [Array.setIfInBounds_comm _ _ hiL]; exact h'.2

/-- THE LAW. -/
theorem wp_region_last {id L : Nat} {a : Act} {w : World} (hm : P.follows .mixedOrders = true) (hsz : ops.size = L + 1) (hd : downB .any ops = true) (hf : feedsB .any ops L = true)
    (h : wpAnyH P .any ops (LastQ P ops Q L) S L ((Array.replicate ops.size false).setIfInBounds L true) a { w with drawn := w.drawn + 1 }) : (Code.region id ops true).wp P Q a w := by
  refine wp_region_any hm ?_
  have h2 := wpAny_last (md := .any) (Q := Q) (S := S) hsz hd hf L (Array.replicate ops.size false) a { w with drawn := w.drawn + 1 } (by simp) (fun i o ho hi => ?_) (by simp [Array.getD, hsz]) h
  · rwa [← hsz] at h2
  · have hlt := (Array.getElem?_eq_some_iff.1 ho).1
    simp [Array.getD, hlt] at hi

/-- Take number i first: what it writes to is said by the caller. -/
theorem takeH {i : Nat} (d : Option Tmp) {v : Value} {fuel : Nat} {listed : Array Bool} {a : Act} {w : World} (hd : (ops[i]?).map (·.dst) = some d)
    (hs : Region.noSelect ops = true) (hf : Region.free md ops listed i = true) (hr : (Region.ready md ops listed).contains i = true)
    (hQ : ∀ c a w, Q (.panic c) (a.put d v) w → Q (.panic c) a w) (hS : S w) (hy : ∀ o, ops[i]? = some o → YieldsIf P ops S o v a)
    (h : wpAnyH P md ops Q S fuel (listed.setIfInBounds i true) (a.put d v) w) : wpAnyH P md ops Q S (fuel + 1) listed a w := by
  cases ho : ops[i]? with
  | none => rw [ho] at hd; cases hd
  | some o =>
    rw [ho] at hd
    obtain rfl := Option.some.inj hd
    exact wpAnyH_take ho hs hf hr hQ (hy o ho) hS h
/-- Number i alone may come up. -/
theorem oneH {i : Nat} {fuel : Nat} {listed : Array Bool} {a : Act} {w : World} (hr : Region.ready md ops listed = [i])
    (h : ∀ o, ops[i]? = some o → ∀ K : Act → World → Prop, RowKit.Hid (∀ a' w', S w' → wpAnyH P md ops Q S fuel (listed.setIfInBounds i true) a' w' → K a' w') → if Region.wanted o (yielded ops a.tmps) = true then Oper.wp P o a w K Q else K (a.put o.dst undef) w) :
    wpAnyH P md ops Q S (fuel + 1) listed a w := by
  refine wpAnyH_all hr (by simp) fun k hk => ?_
  obtain rfl := List.mem_singleton.1 hk
  unfold wpOp
  split
  · rename_i ho
    have : k ∈ Region.ready md ops listed := by rw [hr]; simp
    obtain ⟨_, o, ho', _⟩ := mem_ready.1 this
    rw [ho] at ho'; cases ho'
  · rename_i o ho
    have := h o ho (fun a' w' => S w' ∧ wpAnyH P md ops Q S fuel (listed.setIfInBounds k true) a' w') (Lib.hid (fun a' w' h1 h2 => ⟨h1, h2⟩))
    split
    · rename_i hw; rw [if_pos hw] at this; exact .inl this
    · rename_i hw; rw [if_neg hw] at this; exact this
/-- The last one. -/
theorem lastH {L : Nat} {a : Act} {w : World} (hL : L < ops.size)
    (h : ∀ o, ops[L]? = some o → ∀ K : Act → World → Prop, RowKit.Hid (∀ a' w', Q .normal a' w' → K a' w') → if Region.wanted o (yielded ops a.tmps) = true then Oper.wp P o a w K Q else K (a.put o.dst undef) w) : LastQ P ops Q L .normal a w := by
  show wpOp P ops Q L (Q .normal) a w
  have ho : ops[L]? = some ops[L] := Array.getElem?_eq_getElem hL
  have := h _ ho (Q .normal) (Lib.hid (fun a' w' h1 => h1))
  unfold wpOp
  simp only [ho]
  split
  · rename_i hw; rw [if_pos hw] at this; exact .inl this
  · rename_i hw; rw [if_neg hw] at this; exact this
end
end Go.Proofs.Ytcjmhdneelmbhaa

/- The program's atBeginning, atEnd. -/
namespace Go.Proofs.Ytcjmhdneelmbhaa
open Go.ChangeShapes Go.WideShapes Go.RowKit Go.Deep
set_option linter.unusedVariables false

theorem Try.info128 : (Try.prog.info? 128).map (fun i => (i.zero, i.size, i.bytes)) = some (some (.agg #[.int .i64 0, .int .i64 0]), 2, 16) := by kernel_rfl
theorem Try.underlying81 : Try.prog.underlying 81 = some (.slice 128) := by kernel_rfl
def ToldW (Wa : World) (H Ga n R K : Nat) (W : World) (vo : Value) (mk ph : Nat → Nat → Bool) (s' : LvS) (e : Ending) (W' : World) : Prop :=
  e = .returned (.tuple #[]) ∧ ∃ vo', WsM Wa H Ga n R K W' vo' mk ph s' ∧ GroS H (H + 4 * (n + 1)) W W' vo vo'
set_option maxRecDepth 100000 in
set_option maxHeartbeats 8000000 in
theorem atBeginning_any (Wa : World) (H Ga n R K : Nat) (W : World) (vo : Value) (mk ph : Nat → Nat → Bool) (s : LvS) (h : WsM Wa H Ga n R K W vo mk ph s) (hf : FewS n R s) (hn : n ≤ 64) (hR : R ≤ 256) (b r : Nat) (hb : b < n) (hr : r < R) :
    Calls Try.prog 39 #[.pointer (some ⟨H + 4 * (n + 1), 0, none⟩), .int .i64 (b : Int), .int .i64 (r : Int)] W (ToldW Wa H Ga n R K W vo mk ph (atB ph s b r)) := by
  obtain ⟨i1, hi, hz0, hz1, hz2⟩ := info_parts Try.info128
  have HI1 := Lib.hid (And.intro hi (And.intro hz0 (And.intro hz1 hz2)))
  clear hi hz0 hz1 hz2
  have hnR : n * R ≤ 16384 := by have := Nat.mul_le_mul hn hR; omega
  have hol : s.op.length ≤ 16384 := Nat.le_trans hf.le hnR
  obtain ⟨P, hP⟩ : ∃ P, H + 4 * (n + 1) = P := ⟨_, rfl⟩
  obtain ⟨G2, hG2⟩ : ∃ G2, H + (n + 1) = G2 := ⟨_, rfl⟩
  obtain ⟨G3, hG3⟩ : ∃ G3, H + 2 * (n + 1) = G3 := ⟨_, rfl⟩
  obtain ⟨p0, p1, p2, p3, p4, p5, p6⟩ := h.cells hP
  obtain ⟨a1, a2, a3⟩ := h.g3.at_ hb hr
  obtain ⟨q1, q2, -⟩ := h.g2.at_ hb hr
  rw [hG2] at q1 q2 p2
  rw [hG3] at a1 a2 a3 p3
  have HM := Lib.hid h
  have HH := Lib.hid (And.intro hP (And.intro hG2 hG3))
  have hPG : G3 < P ∧ G2 < G3 ∧ G3 + 1 + b < P := by omega
  obtain ⟨hPG1, hPG2, hPG3⟩ := hPG
  have hb0 : (0 : Int) ≤ b := by omega
  have hb1 : (b : Int) < n := by omega
  have hr0 : (0 : Int) ≤ r := by omega
  have hr1 : (r : Int) < R := by omega
  rw [hP]
  clear h hf hP hG2 hG3 hnR p0 p1 p4
  go_enter Try.func39, Try.ntmps39
  cases hA : s.A b r
  · cases hph : ph b r
    · rw [hA] at a2
      rw [hph] at q2
      have HS : Hid (atB ph s b r = ⟨setB s.A b r, s.E, s.op ++ [(b, r)]⟩) := Lib.hid (by unfold atB; rw [hA, hph]; rfl)
      clear hA hph
      obtain ⟨W1, hW1⟩ : ∃ W1, W.setCell ⟨G3 + 1 + b, r, none⟩ (.bool true) = W1 := ⟨_, rfl⟩
      have hM1 : WsM Wa H Ga n R K W1 vo mk ph ⟨setB s.A b r, s.E, s.op⟩ := by rw [← hW1, ← HH.out.2.2]; exact HM.out.setA r hb
      obtain ⟨-, -, -, -, -, t5, t6⟩ := hM1.cells HH.out.1
      have HM1 := Lib.hid hM1
      have HO : Hid (W1.ownsRow K 128 2 vo s.op.length (opF s.op)) := Lib.hid hM1.op
      have hz1 : W.heap.size = W1.heap.size := by rw [← hW1]; simp
      obtain ⟨Av, cv, hvo⟩ := own_sliceL hM1.op
      have HW1 := Lib.hid hW1
      obtain ⟨lo, hlo⟩ : ∃ lo, s.op.length = lo := ⟨_, rfl⟩
      have HLO := Lib.hid hlo
      rw [hlo] at hol hvo
      have HOV : Hid (W1.ownsRow K 128 2 (.slice Av lo cv) lo (opF s.op)) := Lib.hid (by have h1 := HO.out; rw [hlo, hvo] at h1; exact h1)
      have HVO := Lib.hid hvo
      rw [hvo] at t5
      clear hM1 hlo hvo HO
      go_wp2_with (first | rw [hW1] |
        (at_builtin; refine wpList_append_lies _ rfl (.tmp 41) (.tmp 45) 81 rfl K 128 i1 (.agg #[.int .i64 0, .int .i64 0]) 2 16 Try.underlying81 HI1.out.1 HI1.out.2.1 HI1.out.2.2.1 HI1.out.2.2.2 rfl (by decide) _ lo (opF s.op) rfl (HOV.out.alloc _) ⟨W1.heap.size, 0, none⟩ 1 1 [.int .i64 (b : Int), .int .i64 (r : Int)] rfl rfl (news_cells W1 #[.int .i64 (b : Int), .int .i64 (r : Int)] _ rfl) (by simp [Value.oneCell']) (by decide) ?e3 ?e4 ?e5 (W1.heap.size + 1) ?e6 ?_))
      case e3 => unfold maxLen; omega
      case e4 => omega
      case e5 => have := HM1.out.kw; simp; omega
      case e6 => simp
      intro g cap w6 hown6 hgrow6 hloc6 hlt6
      have hgr : GroD W1 w6 vo (.slice (some ⟨g, 0, none⟩) (lo + 1) cap) := by rw [HVO.out]; exact groD_append hgrow6 hloc6
      have hbxC : w6.heap[P]? = W1.heap[P]? := hgr.block P (by have h1 := HM1.out.box; rw [HH.out.1] at h1; exact (Array.getElem?_eq_some_iff.1 h1).1) (fun e => by have := (HM1.out.op.lt P e).1; have := HM1.out.hk; have := HH.out.1; omega)
      have hMN := WsM.setOp HM1.out hgr (l := s.op ++ [(b, r)]) (by rw [List.length_append, HLO.out, opF_snoc]; simpa using hown6)
      rw [HH.out.1] at hMN
      have hGR : GroS H (H + 4 * (n + 1)) W (w6.setCell ⟨P, 5, none⟩ (.slice (some ⟨g, 0, none⟩) (lo + 1) cap)) vo (.slice (some ⟨g, 0, none⟩) (lo + 1) cap) := by
        refine GroS.trans (b := W1) (v := vo) ?_ (GroS.trans (b := w6) (v := .slice (some ⟨g, 0, none⟩) (lo + 1) cap) (.of_groD hgr) (GroS.store _ _ (by have := HH.out; show H ≤ P ∧ P ≤ _; omega) _))
        rw [← HW1.out]
        exact GroS.store _ _ (by have := HH.out; show H ≤ G3 + 1 + b ∧ G3 + 1 + b ≤ _; omega) _
      have HMN := Lib.hid hMN
      have HGR := Lib.hid hGR
      have r5 := (World.cell?_of_block (a := ⟨P, 5, none⟩) hbxC).trans t5
      have r6 := (World.frozen?_of_block (a := ⟨P, 5, none⟩) hbxC).trans t6
      clear hown6 hgrow6 hloc6 hlt6 hgr hbxC hMN hGR t5 t6
      go_wp2_with fail
      go_end0
      exact ⟨rfl, _, by rw [HS.out]; exact HMN.out, HGR.out⟩
    · rw [hA] at a2
      rw [hph] at q2
      have HS : Hid (atB ph s b r = s) := Lib.hid (by unfold atB; rw [hA, hph]; rfl)
      clear hA hph
      go_wp2_with fail
      go_end0
      exact ⟨rfl, vo, by rw [HS.out]; exact HM.out, GroS.refl _ _ _ _⟩
  · rw [hA] at a2
    have HS : Hid (atB ph s b r = s) := Lib.hid (by unfold atB; rw [hA]; rfl)
    clear hA
    go_wp2_with fail
    go_end0
    exact ⟨rfl, vo, by rw [HS.out]; exact HM.out, GroS.refl _ _ _ _⟩
set_option maxRecDepth 100000 in
set_option maxHeartbeats 8000000 in
theorem atEnd_any (Wa : World) (H Ga n R K : Nat) (W : World) (vo : Value) (mk ph : Nat → Nat → Bool) (s : LvS) (h : WsM Wa H Ga n R K W vo mk ph s) (hf : FewS n R s) (hn : n ≤ 64) (hR : R ≤ 256) (b r : Nat) (hb : b < n) (hr : r < R) :
    Calls Try.prog 54 #[.pointer (some ⟨H + 4 * (n + 1), 0, none⟩), .int .i64 (b : Int), .int .i64 (r : Int)] W (ToldW Wa H Ga n R K W vo mk ph (atE mk ph s b r)) := by
  obtain ⟨P, hP⟩ : ∃ P, H + 4 * (n + 1) = P := ⟨_, rfl⟩
  obtain ⟨G4, hG4⟩ : ∃ G4, H + 3 * (n + 1) = G4 := ⟨_, rfl⟩
  obtain ⟨p0, p1, p2, p3, p4, p5, p6⟩ := h.cells hP
  obtain ⟨a1, a2, a3⟩ := h.g4.at_ hb hr
  rw [hG4] at a1 a2 a3 p4
  have HM := Lib.hid h
  have HF := Lib.hid hf
  have HH := Lib.hid (And.intro hP hG4)
  have hPG : G4 < P ∧ G4 + 1 + b < P := by omega
  obtain ⟨hPG1, hPG2⟩ := hPG
  have hb0 : (0 : Int) ≤ b := by omega
  have hb1 : (b : Int) < n := by omega
  have hr0 : (0 : Int) ≤ r := by omega
  have hr1 : (r : Int) < R := by omega
  rw [hP]
  cases hE : s.E b r
  · rw [hE] at a2
    obtain ⟨W1, hW1⟩ : ∃ W1, W.setCell ⟨G4 + 1 + b, r, none⟩ (.bool true) = W1 := ⟨_, rfl⟩
    have hM1 : WsM Wa H Ga n R K W1 vo mk ph ⟨s.A, setB s.E b r, s.op⟩ := by rw [← hW1, ← hG4]; exact h.setE r hb
    have hF1 : FewS n R ⟨s.A, setB s.E b r, s.op⟩ := hf
    obtain ⟨-, t1, -⟩ := hM1.cells hP
    obtain ⟨q1, q2, -⟩ := hM1.g1.at_ hb hr
    have HM1 := Lib.hid hM1
    have HG1 : Hid (GroS H (H + 4 * (n + 1)) W W1 vo vo) := Lib.hid (by rw [← hW1]; exact GroS.store _ _ (by show H ≤ G4 + 1 + b ∧ G4 + 1 + b ≤ _; omega) _)
    cases hmk : mk b r
    · rw [hmk] at q2
      have hcl := atBeginning_any Wa H Ga n R K W1 vo mk ph ⟨s.A, setB s.E b r, s.op⟩ hM1 hF1 hn hR b r hb hr
      rw [hP] at hcl
      have HCL := Lib.hid hcl
      have HS : Hid (atE mk ph s b r = atB ph ⟨s.A, setB s.E b r, s.op⟩ b r) := Lib.hid (by unfold atE; rw [if_neg (by rw [hE]; simp), if_neg (by rw [hmk]; simp)])
      clear h hf hP hG4 hE hmk hM1 hF1 hcl p0 p1 p2 p3 p5 p6
      go_enter Try.func54, Try.ntmps54
      go_wp2_with (first | rw [hW1] | (go_at_call 39; refine HCL.out.mono ?_; rintro e w2 ⟨rfl, vo', hM2, hG2⟩))
      go_end0
      exact ⟨rfl, vo', by rw [HS.out]; exact hM2, HG1.out.trans hG2⟩
    · rw [hmk] at q2
      have HS : Hid (atE mk ph s b r = ⟨s.A, setB s.E b r, s.op⟩) := Lib.hid (by unfold atE; rw [if_neg (by rw [hE]; simp), if_pos hmk])
      clear h hf hP hG4 hE hmk hM1 hF1 p0 p1 p2 p3 p5 p6
      go_enter Try.func54, Try.ntmps54
      go_wp2_with (rw [hW1])
      go_end0
      exact ⟨rfl, vo, by rw [HS.out]; exact HM1.out, HG1.out⟩
  · rw [hE] at a2
    have HS : Hid (atE mk ph s b r = s) := Lib.hid (by unfold atE; rw [if_pos hE])
    clear h hf hP hG4 hE p0 p1 p2 p3 p5 p6
    go_enter Try.func54, Try.ntmps54
    go_wp2_with fail
    go_end0
    exact ⟨rfl, vo, by rw [HS.out]; exact HM.out, GroS.refl _ _ _ _⟩
end Go.Proofs.Ytcjmhdneelmbhaa

/- What a truth is in memory. -/
namespace Go.Proofs.Ytcjmhdneelmbhaa
theorem Try.info4 : (Try.prog.info? 4).map (fun i => (i.zero, i.size, i.bytes)) = some (some (.bool false), 1, 1) := by kernel_rfl
end Go.Proofs.Ytcjmhdneelmbhaa

/- The program's truths, usesOf. -/
namespace Go.Proofs.Ytcjmhdneelmbhaa
open Go.ChangeShapes Go.WideShapes Go.RowKit Go.Deep
set_option linter.unusedVariables false

theorem Try.infoL33 : (Try.prog.info? 33).map (fun i => (i.zero, i.size, i.bytes)) = some (some (.slice none 0 0), 1, 24) := by kernel_rfl
theorem Try.underlyingL28 : Try.prog.underlying 28 = some (.slice 33) := by kernel_rfl
/-- How many rows are made. -/
def LayR (w4 : World) (G n R j : Nat) (wq : World) : Prop :=
  wq.heap.size = G + 1 + j ∧ wq.rowIs G 33 n (fun a => if a < j then .slice (some ⟨G + 1 + a, 0, none⟩) R R else .slice none 0 0) ∧ (∀ a, a < j → wq.rowIs (G + 1 + a) 4 R (fun _ => .bool false)) ∧ FrX (fun b => b = G) w4 wq
theorem LayR.step {w4 wq : World} {G n R j : Nat} (h : LayR w4 G n R j wq) : LayR w4 G n R (j + 1) ((wq.setCell ⟨G, j, none⟩ (.slice (some ⟨wq.heap.size, 0, none⟩) R R)).alloc (.cells (madeCells #[.bool false] R) 4)) := by
  obtain ⟨h1, h2, h3, h4⟩ := h
  have hs : ∀ y, y ≠ G → (wq.setCell ⟨G, j, none⟩ (.slice (some ⟨wq.heap.size, 0, none⟩) R R)).heap[y]? = wq.heap[y]? := fun y hy => Below.heap_setCell _ _ _ _ hy
  have hz : (wq.setCell ⟨G, j, none⟩ (.slice (some ⟨wq.heap.size, 0, none⟩) R R)).heap.size = wq.heap.size := by simp
  have hnew := heap_alloc_new (wq.setCell ⟨G, j, none⟩ (.slice (some ⟨wq.heap.size, 0, none⟩) R R)) (.cells (madeCells #[.bool false] R) 4)
  refine ⟨by simp; omega, ?_, fun a ha => ?_, (h4.setCell (.inl rfl) _).alloc _⟩
  · refine ((h2.set j _).of_block (Below.heap_alloc _ _ _ (by have := h2.lt; omega))).congr fun a _ => ?_
    by_cases e : a = j
    · subst e; simp only [if_true]; rw [if_pos (by omega), h1]
    · simp only [if_neg e]
      by_cases e2 : a < j
      · rw [if_pos e2, if_pos (by omega)]
      · rw [if_neg e2, if_neg (by omega)]
  · by_cases e : a = j
    · subst e
      have e : G + 1 + a = (wq.setCell ⟨G, a, none⟩ (.slice (some ⟨wq.heap.size, 0, none⟩) R R)).heap.size := by omega
      rw [← e] at hnew
      exact ⟨_, hnew, size_madeCells _ _, fun i hi => by simp [madeCells, hi, Nat.mod_one]⟩
    · exact (h3 a (by omega)).of_block ((Below.heap_alloc _ _ _ (by omega)).trans (hs _ (by omega)))
theorem LayR.all {w4 wq : World} {G n R : Nat} (h : LayR w4 G n R n wq) : BG1 wq G n R (fun _ _ => false) :=
  ⟨h.2.1.congr fun a ha => by rw [if_pos ha], h.2.2.1⟩

set_option maxRecDepth 100000 in
set_option maxHeartbeats 8000000 in
theorem truths_any (n R : Nat) (hn : n ≤ 64) (hR : R ≤ 256) (w : World) :
    Calls Try.prog 37 #[.int .i64 (n : Int), .int .i64 (R : Int)] w fun e w' => e = .returned (.slice (some ⟨w.heap.size, 0, none⟩) n n) ∧ BG1 w' w.heap.size n R (fun _ _ => false) ∧ w'.heap.size = w.heap.size + (n + 1) ∧ Below w.heap.size w w' := by
  have hmk := run_make_row' (P := Try.prog) 28 33 (.slice none 0 0) 24 Try.underlyingL28 Try.infoL33 rfl .i64 .i64 n (by omega) (by omega)
  have hmk3 := run_make_row' (P := Try.prog) 33 4 (.bool false) 1 Try.underlying33 Try.info4 rfl .i64 .i64 R (by omega) (by omega)
  have HMK := Lib.hid hmk3
  clear hmk3
  go_enter Try.func37, Try.ntmps37
  go_upto_region 2 with fail
  clear hmk
  obtain ⟨G, hG⟩ : ∃ G, G = w.heap.size := ⟨_, rfl⟩
  obtain ⟨w4, hw4⟩ : ∃ w4, w4 = w.alloc (.cells (madeCells #[.slice none 0 0] n) 33) := ⟨_, rfl⟩
  have hlay : LayR w4 G n R 0 w4 := by
    subst hw4 hG
    exact ⟨by simp, (World.rowIs_made w _ _ _).congr fun a _ => by simp, fun a ha => by omega, FrX.refl _ _⟩
  have HB4 : Hid (Below w.heap.size w w4) := Lib.hid (by rw [hw4]; exact (Below.refl _ _).alloc (Nat.le_refl _) _)
  have HGG := Lib.hid hG
  have HLAY := Lib.hid hlay
  rw [← hw4, ← hG]
  clear hw4 hG hlay
  go_wp2_with fail
  go_loopw [11] (fun s11 wq => ∃ j : Nat, j ≤ n ∧ s11 = .int .i64 (j : Int) ∧ LayR w4 G n R j wq) (fun s11 _ => n - (intOf s11).toNat)
  case atStart => exact ⟨0, Nat.zero_le _, rfl, HLAY.out⟩
  case round =>
    obtain ⟨j, hj, rfl, hl⟩ := hrel
    have HL := Lib.hid hl
    by_cases hjn : j < n
    · have hmk := HMK.out
      have xc : wr.cell? ⟨G, j, none⟩ = some (.slice none 0 0) := by have := hl.2.1.cell hjn; rwa [if_neg (by omega)] at this
      have xf := hl.2.1.frozen j
      have hG := hl.2.1.lt
      have hj0 : (0 : Int) ≤ j := by omega
      have hj1 : (j : Int) < n := by omega
      have HST := Lib.hid (LayR.step hl)
      clear hl
      go_wp2_with fail
      go_roundw
      case rel => exact ⟨j + 1, by omega, by go_num, HST.out⟩
      case measure => simp [intOf]; omega
    · obtain rfl : j = n := by omega
      clear hl
      go_wp2_with fail
      go_ret
      refine ⟨by rw [← HGG.out]; rfl, by rw [← HGG.out]; exact HL.out.all, by have := HL.out.1; have := HGG.out; omega, HB4.out.trans (HL.out.2.2.2.below ?_ (fun b hb => ?_))⟩
      · exact HB4.out.size
      · have := HGG.out; have hb : b = G := hb; omega
/-! ### What a block uses -/
set_option maxRecDepth 100000 in
set_option maxHeartbeats 8000000 in
theorem use_any (W : World) (B1 B2 GM R K r : Nat) (vu : Value) (l : List Nat) (m : Bool) (b1 : W.heap[B1]? = some (.cells #[.slice (some ⟨GM, 0, none⟩) R R] 33)) (b2 : W.heap[B2]? = some (.cells #[vu] 34)) (hm : W.cell? ⟨GM, r, none⟩ = some (.bool m))
    (ho : W.ownsRow K 3 1 vu l.length (l.map fun y : Nat => Value.int .i64 (y : Int))) (hr : r < R) (hR : R ≤ 256) (hl : l.length ≤ 200000) (hK : B2 < K) (hKW : K ≤ W.heap.size) :
    Calls Try.prog 53 #[.int .i64 (r : Int), .pointer (some ⟨B1, 0, none⟩), .pointer (some ⟨B2, 0, none⟩)] W fun e W' => e = .returned (.tuple #[]) ∧ ∃ vu', W'.heap[B2]? = some (.cells #[vu'] 34) ∧ W'.ownsRow K 3 1 vu' (if m = true then l else l ++ [r]).length ((if m = true then l else l ++ [r]).map fun y : Nat => Value.int .i64 (y : Int)) ∧ GroS B2 B2 W W' vu vu' := by
  obtain ⟨i0, hi, hz0, hz1, hz2⟩ := info_parts Try.info3
  have HI := Lib.hid (And.intro hi (And.intro hz0 (And.intro hz1 hz2)))
  clear hi hz0 hz1 hz2
  have c1 := cell_of_block b1 0
  have c2 := cell_of_block b2 0
  have f2 : W.frozen? ⟨B2, 0, none⟩ = false := by simp [World.frozen?, b2]
  have HB2 := Lib.hid b2
  have HO := Lib.hid ho
  have hlt : B2 < W.heap.size := (Array.getElem?_eq_some_iff.1 b2).1
  have hr0 : (0 : Int) ≤ r := by omega
  have hr1 : (r : Int) < R := by omega
  obtain ⟨Av, cv, hv⟩ := own_sliceL ho
  obtain ⟨lz, hlz⟩ : ∃ lz, l.length = lz := ⟨_, rfl⟩
  rw [hlz] at hv hl
  have HLZ := Lib.hid hlz
  have HV := Lib.hid hv
  have HOV : Hid (W.ownsRow K 3 1 (.slice Av lz cv) lz (l.map fun y : Nat => Value.int .i64 (y : Int))) := Lib.hid (by rw [hv, hlz] at ho; exact ho)
  rw [hv] at c2
  clear b1 b2 ho hlz hv
  go_enter Try.func53, Try.ntmps53
  cases m
  · go_wp2_with (at_builtin; refine wpList_append_lies _ rfl (.tmp 9) (.tmp 11) 34 rfl K 3 i0 (.int .i64 0) 1 8 Try.underlying34 HI.out.1 HI.out.2.1 HI.out.2.2.1 HI.out.2.2.2 rfl (by decide) _ lz _ rfl (HOV.out.alloc _) ⟨W.heap.size, 0, none⟩ 1 1 [.int .i64 (r : Int)] rfl rfl ?e1 ?e2 (by decide) ?e3 ?e4 ?e5 (W.heap.size + 1) ?e6 ?_)
    case e1 => exact news_one_add W _ _ rfl
    case e2 => exact ints_oneCell .i64 [(r : Int)]
    case e3 => unfold maxLen; omega
    case e4 => omega
    case e5 => simp; omega
    case e6 => simp
    intro g cap w6 hown6 hgrow6 hloc6 hlt6
    have hgr : GroD W w6 vu (.slice (some ⟨g, 0, none⟩) (lz + 1) cap) := by rw [HV.out]; exact groD_append hgrow6 hloc6
    have hbC : w6.heap[B2]? = some (.cells #[vu] 34) := (hgr.block B2 hlt (fun e => by have := (HO.out.lt B2 e).1; omega)).trans HB2.out
    have q0 : w6.cell? ⟨B2, 0, none⟩ = some (.slice Av lz cv) := by rw [← HV.out]; exact cell_of_block hbC 0
    have q1 : w6.frozen? ⟨B2, 0, none⟩ = false := by simp [World.frozen?, hbC]
    have HBC := Lib.hid hbC
    have HGR := Lib.hid hgr
    have HON := Lib.hid hown6
    clear hgr hbC hown6 hgrow6 hloc6 hlt6 c2 f2 c1 hm
    go_wp2_with fail
    go_end0
    refine ⟨rfl, _, ?_, ?_, (GroS.of_groD HGR.out).trans (GroS.store _ _ (p := ⟨B2, 0, none⟩) ⟨Nat.le_refl _, Nat.le_refl _⟩ _)⟩
    · simp [World.setCell, Array.getElem?_modify, HBC.out]
    · rw [HLZ.out]
      exact ownsRow_block (by simpa using HON.out) (fun g' hg' => Below.heap_setCell _ _ _ _ (fun e => by have := (HON.out.lt g' hg').1; have e : g' = B2 := e; omega))
  · go_wp2_with fail
    go_end0
    exact ⟨rfl, vu, HB2.out, HO.out, GroS.refl _ _ _ _⟩
end Go.Proofs.Ytcjmhdneelmbhaa
