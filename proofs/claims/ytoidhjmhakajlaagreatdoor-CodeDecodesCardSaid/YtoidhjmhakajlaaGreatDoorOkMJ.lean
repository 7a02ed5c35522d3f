/- A region that draws its order, whose last operation waits for all others: the others first, in whatever order, with a condition on the world that need not hold behind the last one. Over any program. -/
import Derived.OrdersHeld
import Derived.RegionTactic
import Derived.Lib.Hide
import Derived.Test.YtoidhjmhakajlaaGreatDoorSpecJ
import Derived.Test.YtoidhjmhakajlaaGreatDoorBytJ
namespace Go.Proofs.YtoidhjmhakajlaaGreatDoor
open Go
set_option linter.unusedVariables false

section
variable {P : Program} {ops : Array Oper} {Q : Exit → Act → World → Prop} {md : Region.Mode} {S : World → Prop}

/-- Edges lead to what stands ahead in the text. -/
def downB (md : Region.Mode) (ops : Array Oper) : Bool :=
  (List.range ops.size).all fun i => ((ops[i]?).map fun o => o.after.all fun e => !Region.binds md e || decide (e.on < i)).getD true
/-- Each but number L is waited for by one behind it. -/
def feedsB (md : Region.Mode) (ops : Array Oper) (L : Nat) : Bool :=
  (List.range L).all fun i => (List.range (L + 1)).any fun j => decide (i < j) && ((ops[j]?).map fun o => o.after.any fun e => Region.binds md e && decide (e.on = i)).getD false

theorem downB_spec (h : downB md ops = true) {i : Nat} {o : Oper} (ho : ops[i]? = some o) : ∀ e ∈ o.after, Region.binds md e = true → e.on < i := by
  intro e he hb
  unfold downB at h
  have hi : i < ops.size := (Array.getElem?_eq_some_iff.1 ho).1
  have h1 := List.all_eq_true.1 h i (List.mem_range.2 hi)
  rw [ho] at h1
  simp only [Option.map_some, Option.getD_some, Array.all_eq_true_iff_forall_mem] at h1
  have h2 := h1 e he
  simpa [hb] using h2
theorem feedsB_spec {L : Nat} (h : feedsB md ops L = true) {i : Nat} (hi : i < L) : ∃ j o e, i < j ∧ j ≤ L ∧ ops[j]? = some o ∧ e ∈ o.after ∧ Region.binds md e = true ∧ e.on = i := by
  unfold feedsB at h
  have h1 := List.all_eq_true.1 h i (List.mem_range.2 hi)
  obtain ⟨j, hj, h2⟩ := List.any_eq_true.1 h1
  rw [Bool.and_eq_true] at h2
  obtain ⟨h3, h4⟩ := h2
  cases ho : ops[j]? with
  | none => rw [ho] at h4; simp at h4
  | some o =>
    rw [ho] at h4
    simp only [Option.map_some, Option.getD_some, Array.any_eq_true'] at h4
    obtain ⟨e, he, hb⟩ := h4
    rw [Bool.and_eq_true] at hb
    exact ⟨j, o, e, of_decide_eq_true h3, by have := List.mem_range.1 hj; omega, ho, he, hb.1, of_decide_eq_true hb.2⟩

/-- What has come up had all that it waits for. -/
def Closed (md : Region.Mode) (ops : Array Oper) (listed : Array Bool) : Prop :=
  ∀ i o, ops[i]? = some o → listed.getD i true = true → ∀ e ∈ o.after, Region.binds md e = true → listed.getD e.on false = true

theorem getD_two {l : Array Bool} {i : Nat} (h : i < l.size) (a b : Bool) : l.getD i a = l.getD i b := by
  simp [Array.getD, h]
theorem getD_set_self {l : Array Bool} {i : Nat} (h : i < l.size) (d : Bool) : (l.setIfInBounds i true).getD i d = true := by
  simp [Array.getD, h]

theorem Closed.set {listed : Array Bool} (hc : Closed md ops listed) (hs : listed.size = ops.size) {i : Nat} (hi : i ∈ Region.ready md ops listed) : Closed md ops (listed.setIfInBounds i true) := by
  intro j o ho hj e he hb
  by_cases hji : j = i
  · subst hji
    obtain ⟨_, o', ho', hall⟩ := mem_ready.1 hi
    rw [ho] at ho'
    cases ho'
    exact getD_set_true (hall e he hb)
  · rw [getD_set_ne true (Ne.symm hji)] at hj
    exact getD_set_true (hc j o ho hj e he hb)

/-- When the last one may come up, all others have. -/
theorem all_of_last {L : Nat} {listed : Array Bool} (hsz : ops.size = L + 1) (hs : listed.size = ops.size) (hf : feedsB md ops L = true) (hc : Closed md ops listed) (hL : L ∈ Region.ready md ops listed) : ∀ i, i < L → listed.getD i true = true := by
  have key : ∀ n i, L - i ≤ n → i < L → listed.getD i true = true := by
    intro n
    induction n with
    | zero => intro i h1 h2; omega
    | succ n ih =>
      intro i h1 h2
      obtain ⟨j, o, e, hij, hjL, ho, he, hb, hei⟩ := feedsB_spec hf h2
      have h3 : listed.getD e.on false = true := by
        by_cases hj : j = L
        · subst hj
          obtain ⟨_, o', ho', hall⟩ := mem_ready.1 hL
          rw [ho] at ho'
          cases ho'
          exact hall e he hb
        · exact hc j o ho (ih j (by omega) (by omega)) e he hb
      rw [hei] at h3
      rw [getD_two (by omega) true false]
      exact h3
  exact fun i hi => key (L - i) i (Nat.le_refl _) hi
/-- While the last one has not come up, one may. -/
theorem ready_some {L : Nat} {listed : Array Bool} (hsz : ops.size = L + 1) (hs : listed.size = ops.size) (hd : downB md ops = true) (hL : listed.getD L true = false) : Region.ready md ops listed ≠ [] := by
  have key : ∀ n i, i ≤ n → i ≤ L → listed.getD i true = false → ∃ k, k ∈ Region.ready md ops listed := by
    intro n
    induction n with
    | zero =>
      intro i h1 h2 h3
      obtain rfl : i = 0 := by omega
      have ho : ops[0]? = some ops[0] := Array.getElem?_eq_getElem (by omega)
      exact ⟨0, mem_ready.2 ⟨h3, _, ho, fun e he hb => absurd (downB_spec hd ho e he hb) (by omega)⟩⟩
    | succ n ih =>
      intro i h1 h2 h3
      have ho : ops[i]? = some ops[i] := Array.getElem?_eq_getElem (by omega)
      by_cases hall : ∀ e ∈ ops[i].after, Region.binds md e = true → listed.getD e.on false = true
      · exact ⟨i, mem_ready.2 ⟨h3, _, ho, hall⟩⟩
      · simp only [Classical.not_forall] at hall
        obtain ⟨e, he, hb, hno⟩ := hall
        have hlt := downB_spec hd ho e he hb
        refine ih e.on (by omega) (by omega) ?_
        rw [getD_two (by omega) true false]
        simpa using hno
  obtain ⟨k, hk⟩ := key L L (Nat.le_refl _) (Nat.le_refl _) hL
  intro h0
  rw [h0] at hk
  cases hk

/-- The post behind all but the last: the last one's turn. -/
def LastQ (P : Program) (ops : Array Oper) (Q : Exit → Act → World → Prop) (L : Nat) : Exit → Act → World → Prop
  | .normal, a, w => wpOp P ops Q L (Q .normal) a w
  | e, a, w => Q e a w

theorem upon_last {L : Nat} {o : Oper} {a : Act} {K : Act → World → Prop} {r : Result Next} (h : o.upon P a K (LastQ P ops Q L) r) : o.upon P a K Q r := by
  cases r with
  | ok n w' =>
    cases n <;> simp only [Oper.upon] at h ⊢ <;> exact h
  | halt x w' => cases x <;> simp only [Oper.upon] at h ⊢ <;> exact h
theorem wpOp_last {L i : Nat} {K : Act → World → Prop} {a : Act} {w : World} (h : wpOp P ops (LastQ P ops Q L) i K a w) : wpOp P ops Q i K a w := by
  unfold wpOp at *
  split
  · rename_i ho; simp only [ho] at h; exact h
  · rename_i o ho
    simp only [ho] at h
    split
    · rename_i hw; simp only [hw, if_true] at h; exact h.imp (fun h => by unfold Oper.wp at *; exact upon_last h) (fun h => ⟨h.1, h.2⟩)
    · rename_i hw; simp only [hw] at h; exact h

theorem wpAny_last {L : Nat} (hsz : ops.size = L + 1) (hd : downB md ops = true) (hf : feedsB md ops L = true) :
    ∀ (fuel : Nat) (listed : Array Bool) (a : Act) (w : World), listed.size = ops.size → Closed md ops listed → listed.getD L true = false →
      wpAnyH P md ops (LastQ P ops Q L) S fuel (listed.setIfInBounds L true) a w → wpAny P md ops Q (fuel + 1) listed a w := by
  intro fuel
  induction fuel with
  | zero =>
    intro listed a w hs hc hL H
    refine ⟨fun h0 => absurd h0 (ready_some hsz hs hd hL), fun i hi => ?_⟩
    by_cases hiL : i = L
    · subst hiL
      exact wpOp_mono (fun a' w' h' => ⟨H.1, h'⟩) (show wpOp P ops Q i (Q .normal) a w from H.2)
    · have := ready_mono hi hiL
      rw [H.1] at this
      cases this
  | succ fuel ih =>
    intro listed a w hs hc hL H
    refine ⟨fun h0 => absurd h0 (ready_some hsz hs hd hL), fun i hi => ?_⟩
    by_cases hiL : i = L
    · subst hiL
      have hall := all_of_last hsz hs hf hc hi
      have hr : Region.ready md ops (listed.setIfInBounds i true) = [] := by
        rw [List.eq_nil_iff_forall_not_mem]
        intro k hk
        obtain ⟨h0, o, ho, _⟩ := mem_ready.1 hk
        have hkl : k < ops.size := (Array.getElem?_eq_some_iff.1 ho).1
        by_cases hki : k = i
        · subst hki
          rw [getD_set_self (by omega)] at h0
          cases h0
        · rw [getD_set_ne true (Ne.symm hki), hall k (by omega)] at h0
          cases h0
      exact wpOp_mono (fun a' w' h' => wpAny_done hr h' _) (show wpOp P ops Q i (Q .normal) a w from H.1 hr)
    · have h1 := wpOp_last (H.2 i (ready_mono hi hiL))
      refine wpOp_mono (fun a' w' h' => ih (listed.setIfInBounds i true) a' w' (by simpa using hs) (hc.set hs hi) ?_ ?_) h1
      · rw [getD_set_ne true hiL]; exact hL
      · rw [Array.setIfInBounds_comm _ _ hiL]; exact h'.2

/-- THE LAW. -/
theorem wp_region_last {id L : Nat} {a : Act} {w : World} (hm : P.follows .mixedOrders = true) (hsz : ops.size = L + 1) (hd : downB .any ops = true) (hf : feedsB .any ops L = true)
    (h : wpAnyH P .any ops (LastQ P ops Q L) S L ((Array.replicate ops.size false).setIfInBounds L true) a { w with drawn := w.drawn + 1 }) : (Code.region id ops true).wp P Q a w := by
  refine wp_region_any hm ?_
  have h2 := wpAny_last (md := .any) (Q := Q) (S := S) hsz hd hf L (Array.replicate ops.size false) a { w with drawn := w.drawn + 1 } (by simp) (fun i o ho hi => ?_) (by simp [Array.getD, hsz]) h
  · rwa [← hsz] at h2
  · have hlt := (Array.getElem?_eq_some_iff.1 ho).1
    simp [Array.getD, hlt] at hi

/-- Take number i first: what it writes to is said by the caller. -/
theorem takeH {i : Nat} (d : Option Tmp) {v : Value} {fuel : Nat} {listed : Array Bool} {a : Act} {w : World} (hd : (ops[i]?).map (·.dst) = some d)
    (hs : Region.noSelect ops = true) (hf : Region.free md ops listed i = true) (hr : (Region.ready md ops listed).contains i = true)
    (hQ : ∀ c a w, Q (.panic c) (a.put d v) w → Q (.panic c) a w) (hS : S w) (hy : ∀ o, ops[i]? = some o → YieldsIf P ops S o v a)
    (h : wpAnyH P md ops Q S fuel (listed.setIfInBounds i true) (a.put d v) w) : wpAnyH P md ops Q S (fuel + 1) listed a w := by
  cases ho : ops[i]? with
  | none => rw [ho] at hd; cases hd
  | some o =>
    rw [ho] at hd
    obtain rfl := Option.some.inj hd
    exact wpAnyH_take ho hs hf hr hQ (hy o ho) hS h
/-- Number i alone may come up. -/
theorem oneH {i : Nat} {fuel : Nat} {listed : Array Bool} {a : Act} {w : World} (hr : Region.ready md ops listed = [i])
    (h : ∀ o, ops[i]? = some o → ∀ K : Act → World → Prop, RowKit.Hid (∀ a' w', S w' → wpAnyH P md ops Q S fuel (listed.setIfInBounds i true) a' w' → K a' w') → if Region.wanted o (yielded ops a.tmps) = true then Oper.wp P o a w K Q else K (a.put o.dst undef) w) :
    wpAnyH P md ops Q S (fuel + 1) listed a w := by
  refine wpAnyH_all hr (by simp) fun k hk => ?_
  obtain rfl := List.mem_singleton.1 hk
  unfold wpOp
  split
  · rename_i ho
    have : k ∈ Region.ready md ops listed := by rw [hr]; simp
    obtain ⟨_, o, ho', _⟩ := mem_ready.1 this
    rw [ho] at ho'; cases ho'
  · rename_i o ho
    have := h o ho (fun a' w' => S w' ∧ wpAnyH P md ops Q S fuel (listed.setIfInBounds k true) a' w') (Lib.hid (fun a' w' h1 h2 => ⟨h1, h2⟩))
    split
    · rename_i hw; rw [if_pos hw] at this; exact .inl this
    · rename_i hw; rw [if_neg hw] at this; exact this
/-- The last one. -/
theorem lastH {L : Nat} {a : Act} {w : World} (hL : L < ops.size)
    (h : ∀ o, ops[L]? = some o → ∀ K : Act → World → Prop, RowKit.Hid (∀ a' w', Q .normal a' w' → K a' w') → if Region.wanted o (yielded ops a.tmps) = true then Oper.wp P o a w K Q else K (a.put o.dst undef) w) : LastQ P ops Q L .normal a w := by
  show wpOp P ops Q L (Q .normal) a w
  have ho : ops[L]? = some ops[L] := Array.getElem?_eq_getElem hL
  have := h _ ho (Q .normal) (Lib.hid (fun a' w' h1 => h1))
  unfold wpOp
  simp only [ho]
  split
  · rename_i hw; rw [if_pos hw] at this; exact .inl this
  · rename_i hw; rw [if_neg hw] at this; exact this
end
end Go.Proofs.YtoidhjmhakajlaaGreatDoor

/- The rules 1 and 2: isWithin, isTyped; hasPhi. -/
namespace Go.Proofs.YtoidhjmhakajlaaGreatDoor
open Go.ChangeShapes Go.WideShapes Go.RowKit Go.Deep
set_option linter.unusedVariables false

/-- Phis and instructions of each block are few. -/
def Lim (f : FunD) : Prop := ∀ b ∈ f.blocks, b.phis.length ≤ 1000000 ∧ b.ins.length ≤ 1000000
theorem Lim.at_ {f : FunD} (h : Lim f) {k : Nat} {b : BlkD} (hb : f.blocks[k]? = some b) : b.phis.length ≤ 1000000 ∧ b.ins.length ≤ 1000000 := h b (List.mem_of_getElem? hb)

set_option maxRecDepth 100000 in
set_option maxHeartbeats 4000000 in
theorem isWithin_any (f : FunD) (v : Value) (w : World) (hv : VFun w v f) (hlim : Lim f) :
    Calls Tryz.prog 72 #[v] w fun e w' => e = .returned (.bool (withinB f)) ∧ Below w.heap.size w w' := by
  obtain ⟨Ar, cr, A, c, rfl, hr, hb, -, -⟩ := hv
  have hbl := hb.len
  have hrl := hr.len
  by_cases hok : 1 ≤ f.blocks.length ∧ f.blocks.length ≤ 64 ∧ f.regs.length ≤ 256
  · obtain ⟨h1, h2, h3⟩ := hok
    go_enter Tryz.func72, Tryz.ntmps72
    go_wp2_with fail
    obtain ⟨w1, hw1, hs1, hk1, hbel1, hc1, -⟩ := named w #[.int .i64 f.params, .int .i64 f.result, .slice Ar f.regs.length cr, .slice A f.blocks.length c] 57
    rw [← hw1]
    clear hw1 hc1
    have hs1 : w.heap.size < w1.heap.size := by omega
    go_loopw [3, 28] (fun q i wr => ∃ k : Nat, k ≤ f.blocks.length ∧ i = .int .i64 k ∧ q = .int .i64 ((f.blocks.length + itemsK (f.blocks.take k) : Nat) : Int) ∧ itemsK (f.blocks.take k) ≤ k * 2000000 ∧ Below w1.heap.size w1 wr) (fun _ i _ => f.blocks.length - (intOf i).toNat)
    case atStart => exact ⟨0, Nat.zero_le _, rfl, rfl, Nat.zero_le _, Below.refl _ _⟩
    case round =>
      obtain ⟨k, hk, rfl, rfl, hi, hbel⟩ := hrel
      have hs := hbel.size
      have hkw : Kept w1 wr := kept_of_below hbel
      have hB : Below w.heap.size w wr := hbel1.trans (hbel.mono (by omega))
      by_cases hlt : k < f.blocks.length
      · obtain ⟨b, o, kb, rfl, hkb, ⟨Ap, cp, hphi, hphis⟩, ⟨Ai, ci, hins, hinss⟩, ⟨hkd, -⟩, ⟨har, -⟩, ⟨At, ct, hto, htos⟩⟩ := (SBlks.keep (hk1.trans hkw) hb).at_ hlt
        obtain ⟨hl1, hl2⟩ := hlim.at_ hkb.out
        have hst := itemsK_step hkb.out
        have HST := Lib.hid hst
        clear hst
        have hn : ((f.blocks.length + itemsK (f.blocks.take k) : Nat) : Int) = (f.blocks.length : Int) + (itemsK (f.blocks.take k) : Int) := by simp
        generalize itemsK (f.blocks.take k) = q at *
        clear hn
        go_wp2_with fail
        go_roundw
        case rel => exact ⟨k + 1, by omega, by go_num, by rw [HST.out]; congr 1; omega, by rw [HST.out]; omega, hbel.alloc (by omega) _⟩
        case measure => simp [intOf]; omega
      · have hkk : f.blocks.take k = f.blocks := List.take_of_length_le (by omega)
        rw [hkk]
        have hd : withinB f = decide (((f.blocks.length + itemsK f.blocks : Nat) : Int) ≤ 256) := by
          unfold withinB; congr 1; rw [eq_iff_iff]; omega
        have HD := Lib.hid hd
        clear hd hkk hi
        generalize itemsK f.blocks = q at *
        go_wp2_with fail
        go_ret
        exact ⟨by rw [HD.out]; simp, hB⟩
  · have hd : withinB f = false := by
      unfold withinB; exact decide_eq_false (by omega)
    rw [hd]
    clear hd
    by_cases q1 : f.blocks.length < 1
    · clear hok
      go_enter Tryz.func72, Tryz.ntmps72
      go_wp2_with fail
      all_goals (go_ret; exact ⟨rfl, (Below.refl _ _).alloc (Nat.le_refl _) _⟩)
    · by_cases q2 : 64 < f.blocks.length
      · clear hok
        go_enter Tryz.func72, Tryz.ntmps72
        go_wp2_with fail
        all_goals (go_ret; exact ⟨rfl, (Below.refl _ _).alloc (Nat.le_refl _) _⟩)
      · have q3 : 256 < f.regs.length := by omega
        clear hok
        go_enter Tryz.func72, Tryz.ntmps72
        go_wp2_with fail
        all_goals (go_ret; exact ⟨rfl, (Below.refl _ _).alloc (Nat.le_refl _) _⟩)

end Go.Proofs.YtoidhjmhakajlaaGreatDoor

/- What is small enough to be gone through is within the code's reach. -/
namespace Go.Proofs.YtoidhjmhakajlaaGreatDoor
open Go.ChangeShapes Go.WideShapes Go.RowKit Go.Deep
set_option linter.unusedVariables false

theorem lim_of_small {m : List FunD} (h : SmallM m) : ∀ f ∈ m, Lim f := fun f hf b hb => by
  have := (h.2 f hf).2.2.2 b hb
  exact ⟨by have := this.2.1; omega, by have := this.1; omega⟩
end Go.Proofs.YtoidhjmhakajlaaGreatDoor

/- A proper module's numbers can be written, in no more than so many bytes; what was read is small: plain mathematics. -/
namespace Go.Proofs.YtoidhjmhakajlaaGreatDoor
open Go.RowKit
set_option linter.unusedVariables false

theorem modE_ok {m : List FunD} (h : (modE m).1 = 0) : m.length ≤ 32 ∧ ∀ f ∈ m, funE m f = 0 := by
  unfold modE at h
  split at h
  · exact absurd h (by decide)
  · exact ⟨by omega, modK_zero.1 h⟩
theorem outer_ok {f : FunD} (h : outerE f = 0) : withinB f = true ∧ typedB f = true ∧ endsWellB f = true ∧ meetB f = true := by
  unfold outerE at h
  split at h
  · split at h
    · split at h
      · rename_i h1 h2 h3
        rw [Bool.and_eq_true] at h3
        exact ⟨h1, h2, h3.1, h3.2⟩
      · exact absurd h (by decide)
    · exact absurd h (by decide)
  · exact absurd h (by decide)
theorem items_at {bs : List BlkD} {b : BlkD} (h : b ∈ bs) : b.phis.length + b.ins.length ≤ itemsK bs := by
  unfold itemsK
  induction bs with
  | nil => cases h
  | cons x r ih =>
    simp only [List.map_cons, List.sum_cons]
    rcases List.mem_cons.1 h with rfl | h
    · omega
    · have := ih h; omega
theorem of_ite {c : Prop} [Decidable c] {a b : Int} (hb : b ≠ 0) (h : (if c then a else b) = 0) : c ∧ a = 0 := by
  split at h
  · exact ⟨‹c›, h⟩
  · exact absurd h hb
theorem meetK_at {bs l : List BlkD} {i : Nat} (h : meetK bs l i = true) : ∀ b ∈ l, ∀ p ∈ b.phis, p.args.length ≤ bs.length := by
  induction l generalizing i with
  | nil => simp
  | cons x r ih =>
    simp only [meetK, Bool.and_eq_true] at h
    intro b hb p hp
    rcases List.mem_cons.1 hb with rfl | hb
    · have := of_decide_eq_true (List.all_eq_true.1 h.1 p hp)
      rw [this]
      exact aheadK_len _ _ _
    · exact ih h.2 b hb p hp
theorem are_ok {l : List Int} {n : Nat} (h : areAtB l n = true) (hn : n ≤ 256) : ∀ x ∈ l, okN x := fun x hx => by
  have := of_decide_eq_true (List.all_eq_true.1 h x hx)
  unfold okN; omega
theorem phi_ok {f : FunD} {p : PhiD} (h : phiE f p = 0) (hr : f.regs.length ≤ 256) (hl : p.args.length ≤ 256) : okPhi p := by
  unfold phiE at h
  split at h
  · rename_i h1
    rw [Bool.and_eq_true] at h1
    have := of_decide_eq_true h1.1
    exact ⟨by unfold okN; omega, hl, are_ok h1.2 hr⟩
  · exact absurd h (by decide)
theorem rest_ok {f : FunD} {x : InsD} {ts : List Int} {d : Int} {bad : Bool} (h : restE f x ts d bad = 0) (hr : f.regs.length ≤ 256) : (∀ a ∈ x.args, okN a) ∧ okN (x.dst + 1) ∧ (x.op = 17 ∨ x.fn = 0) := by
  unfold restE at h
  obtain ⟨h1, h⟩ := of_ite (by decide) h
  obtain ⟨h2, -⟩ := of_ite (by decide) h
  simp only [Bool.and_eq_true, Bool.or_eq_true, decide_eq_true_eq] at h1 h2
  refine ⟨are_ok h1.1 hr, ?_, h2.1.2⟩
  rcases h1.2 with h3 | h3
  · have h4 := h2.1.1.1.2
    rw [if_pos h3] at h4
    have := of_decide_eq_true h4
    unfold okN; omega
  · have := of_decide_eq_true h3
    unfold okN; omega
theorem funAt_mem {m : List FunD} {i : Int} (h : isIn m.length i = true) : funAt m i ∈ m := by
  have := of_decide_eq_true h
  unfold funAt
  rw [List.getD_eq_getElem?_getD, List.getElem?_eq_getElem (by omega)]
  exact List.getElem_mem _
theorem sig_ok {f : FunD} {x : InsD} {ts : List Int} {d : Int} (h : sigOf f x = some (ts, d)) : 1 ≤ x.op ∧ x.op ≤ 18 ∧ ts.length ≤ 2 := by
  unfold sigOf at h
  repeat' split at h
  all_goals first | (cases h; done) | (simp only [Option.some.injEq, Prod.mk.injEq] at h; obtain ⟨rfl, rfl⟩ := h; simp; omega)
theorem ins_ok {m : List FunD} {f : FunD} {x : InsD} (h : insE m f x = 0) (hr : f.regs.length ≤ 256) (hm : m.length ≤ 32) (hp : ∀ g ∈ m, g.params ≤ 8) (hi : I64 x.imm) : okIns x := by
  unfold insE at h
  split at h
  · rename_i h17
    split at h
    · rename_i hin
      split at h
      · rename_i hl
        obtain ⟨g1, g2, g3⟩ := rest_ok h hr
        have h8 := hp _ (funAt_mem hin)
        have := of_decide_eq_true hin
        exact ⟨by unfold okN; omega, g2, ⟨by omega, g1⟩, hi, by unfold okN; omega⟩
      · exact absurd h (by decide)
    · exact absurd h (by decide)
  · rename_i h17
    split at h
    · exact absurd h (by decide)
    · rename_i ts d hs
      split at h
      · rename_i hl
        obtain ⟨g1, g2, g3⟩ := rest_ok h hr
        obtain ⟨s1, s2, s3⟩ := sig_ok hs
        exact ⟨by unfold okN; omega, g2, ⟨by omega, g1⟩, hi, by unfold okN; omega⟩
      · exact absurd h (by decide)
theorem term_ok {f : FunD} {t : TermD} (h : termE f t = 0) (hs : shapeB f.blocks.length t = true) (hr : f.regs.length ≤ 256) (hb : f.blocks.length ≤ 64) : okTerm t := by
  unfold shapeB at hs
  rw [Bool.and_eq_true] at hs
  obtain ⟨h1, h2⟩ := hs
  have hk : okN t.kind ∧ t.to.length ≤ 2 := by
    unfold tosB at h1
    split at h1
    · have := of_decide_eq_true h1; exact ⟨by unfold okN; omega, by omega⟩
    · split at h1
      · rw [Bool.and_eq_true] at h1
        have := of_decide_eq_true h1.1; exact ⟨by unfold okN; omega, by omega⟩
      · split at h1
        · have := of_decide_eq_true h1; exact ⟨by unfold okN; omega, by omega⟩
        · cases h1
  refine ⟨hk.1, ?_, by omega, fun x hx => ?_⟩
  · unfold termE at h
    split at h
    · split at h
      · unfold okN; omega
      · exact absurd h (by decide)
    · split at h
      · unfold okN; omega
      · exact absurd h (by decide)
  · have := of_decide_eq_true (List.all_eq_true.1 h2 x hx)
    unfold okN; omega
/-- All numbers of instructions have 64 bits. -/
def Imms (m : List FunD) : Prop := ∀ f ∈ m, ∀ b ∈ f.blocks, ∀ x ∈ b.ins, I64 x.imm
theorem typed_ok {f : FunD} (h : typedB f = true) : (∀ t ∈ f.regs, okN t) ∧ (0 ≤ f.params ∧ f.params ≤ 8) ∧ okN f.result := by
  unfold typedB at h
  rw [Bool.and_eq_true, Bool.and_eq_true] at h
  obtain ⟨⟨h1, h2⟩, h3⟩ := h
  have h2 := of_decide_eq_true h2
  have h3 := of_decide_eq_true h3
  refine ⟨fun t ht => ?_, ⟨h2.1, h2.2.1⟩, by unfold okN; omega⟩
  have := of_decide_eq_true (List.all_eq_true.1 h1 t ht)
  unfold okN; omega
/-- A proper module can be written. -/
theorem ok_of_proper {m : List FunD} (h : (modE m).1 = 0) (hi : Imms m) : okMod m := by
  obtain ⟨h32, hf⟩ := modE_ok h
  have hp : ∀ g ∈ m, g.params ≤ 8 := fun g hg => (typed_ok (outer_ok (funE_zero.1 (hf g hg)).1).2.1).2.1.2
  refine ⟨h32, fun f hfm => ?_⟩
  obtain ⟨ho, hb⟩ := funE_zero.1 (hf f hfm)
  obtain ⟨o1, o2, o3, o4⟩ := outer_ok ho
  have w1 := of_decide_eq_true o1
  obtain ⟨t1, t2, t3⟩ := typed_ok o2
  refine ⟨by unfold okN; omega, t3, ⟨by omega, t1⟩, by omega, fun b hbm => ?_⟩
  obtain ⟨b1, b2, b3⟩ := blockE_zero.1 (hb b hbm)
  have hit := items_at hbm
  refine ⟨⟨by omega, fun p hpm => phi_ok (b1 p hpm) (by omega) ?_⟩, ⟨by omega, fun x hx => ins_ok (b2 x hx) (by omega) h32 hp (hi f hfm b hbm x hx)⟩, term_ok b3 (List.all_eq_true.1 o3 b hbm) (by omega) (by omega)⟩
  have := meetK_at o4 b hbm p hpm
  omega

/-! ### How long -/
theorem flat_len {α : Type} {b : α → List UInt8} {n : Nat} {l : List α} (h : ∀ x ∈ l, (b x).length ≤ n) : (l.flatMap b).length ≤ l.length * n := by
  induction l with
  | nil => simp
  | cons x r ih =>
    rw [List.flatMap_cons, List.length_append, List.length_cons, Nat.succ_mul]
    have := h x (by simp)
    have := ih (fun y hy => h y (by simp [hy]))
    omega
theorem intB_len {x : Int} (h : okN x) : (intB x).length ≤ 10 := numB_len10 (by have := h.1; have := h.2; omega)
theorem ints_len {l : List Int} (h : okInts l) : (intsB l).length ≤ 2570 := by
  unfold intsB
  rw [List.length_append]
  have h1 := h.1
  have := flat_len (b := intB) (n := 10) (l := l) (fun x hx => intB_len (h.2 x hx))
  have := numB_len10 (n := l.length) (by omega)
  omega
theorem phi_len {p : PhiD} (h : okPhi p) : (phiB p).length ≤ 2580 := by
  unfold phiB
  rw [List.length_append]
  have := intB_len h.1
  have := ints_len h.2
  omega
theorem ins_len {x : InsD} (h : okIns x) : (insB x).length ≤ 2610 := by
  unfold insB
  simp only [List.length_append]
  have := intB_len h.1
  have := intB_len h.2.1
  have := ints_len h.2.2.1
  have := numB_len10 (zig_lt h.2.2.2.1)
  have := intB_len h.2.2.2.2
  omega
theorem term_len {t : TermD} (h : okTerm t) : (termB t).length ≤ 2590 := by
  unfold termB
  simp only [List.length_append]
  have := intB_len h.1
  have := intB_len h.2.1
  have := ints_len h.2.2
  omega
theorem blk_len {b : BlkD} (h : okBlk b) : (blkB b).length ≤ 1400000 := by
  unfold blkB phisB inssB
  simp only [List.length_append]
  obtain ⟨h1, h2, h3⟩ := h
  have := flat_len (b := phiB) (n := 2580) (l := b.phis) (fun x hx => phi_len (h1.2 x hx))
  have := flat_len (b := insB) (n := 2610) (l := b.ins) (fun x hx => ins_len (h2.2 x hx))
  have := numB_len10 (n := b.phis.length) (by omega)
  have := numB_len10 (n := b.ins.length) (by omega)
  have := term_len h3
  have h1 := h1.1
  have h2 := h2.1
  omega
theorem fun_len {f : FunD} (h : okFun f) : (funB f).length ≤ 90000000 := by
  unfold funB blksB
  simp only [List.length_append]
  obtain ⟨h1, h2, h3, h4, h5⟩ := h
  have := flat_len (b := blkB) (n := 1400000) (l := f.blocks) (fun x hx => blk_len (h5 x hx))
  have := numB_len10 (n := f.blocks.length) (by omega)
  have := intB_len h1
  have := intB_len h2
  have := ints_len h3
  omega
theorem mod_len {m : List FunD} (h : okMod m) : (modB m).length ≤ 3000000000 := by
  unfold modB funsB markB
  simp only [List.length_append]
  have := flat_len (b := funB) (n := 90000000) (l := m) (fun x hx => fun_len (h.2 x hx))
  have := numB_len10 (n := m.length) (by have := h.1; omega)
  have := h.1
  simp only [List.length_cons, List.length_nil]
  omega
theorem lim_of_ok {m : List FunD} (h : okMod m) : ∀ f ∈ m, Lim f := fun f hf b hb => by
  have := (h.2 f hf).2.2.2.2 b hb
  exact ⟨by have := this.1.1; omega, by have := this.2.1.1; omega⟩
end Go.Proofs.YtoidhjmhakajlaaGreatDoor
