/- The reference of layer 5: Next; and small, Ints of the statements. -/
import Derived.Test.YtbhndfknjkeilaaSmallJ
import Derived.Deep.QuietTactic
import Derived.BigQuiet
import Derived.OrdersHeld
import Derived.RegionTactic
import Derived.Lib.Hide
import Derived.StillTailTactics
import Derived.Deep.RegionHeld3
namespace Go.Proofs.Ytbhndfknjkeilaa
open Go.ChangeShapes Go.WideShapes Go.RowKit Go.Deep
set_option linter.unusedVariables false

theorem sameInts_any (a b : List Int) (v u : Value) (w : World) (hv : VS w 1 RInt v a) (hu : VS w 1 RInt u b) :
    Calls Try.prog 13 #[v, u] w fun e w' => e = .returned (.bool (decide (a = b))) ∧ ∃ n, w' = w.drewN n := by
  obtain ⟨A, c, rfl, ha⟩ := hv
  obtain ⟨B, d, rfl, hb⟩ := hu
  have hal := ha.len
  have hbl := hb.len
  by_cases hl : a.length = b.length
  · have hne : ((a.length : Int) != b.length) = false := by simp [hl]
    have HL := Lib.hid hl
    clear hl
    go_enter Try.func13, Try.ntmps13
    go_wp2_with fail
    go_loopw [5] (fun i wr => ∃ k q : Nat, k ≤ a.length ∧ i = .int .i64 k ∧ wr = w.drewN q ∧ a.take k = b.take k) (fun i _ => a.length - (intOf i).toNat)
    case atStart => exact ⟨0, 0, Nat.zero_le _, rfl, rfl, by simp⟩
    case round =>
      obtain ⟨k, q, hk, rfl, rfl, hsame⟩ := hrel
      have HS := Lib.hid hsame
      clear hsame
      by_cases hlt : k < a.length
      · obtain ⟨b1, o1, x, rfl, hx, hxc, -⟩ := ha.int hlt
        have hkb : k < b.length := by have := HL.out; omega
        obtain ⟨b2, o2, y, rfl, hy, hyc, -⟩ := hb.int hkb
        have hk0 : (0 : Int) ≤ k := by omega
        have hk1 : (k : Int) < a.length := by omega
        have hk2 : (k : Int) < b.length := by omega
        by_cases hxy : x = y
        · have hb1 : (x != y) = false := by simp [hxy]
          have hsn : Hid (a.take (k + 1) = b.take (k + 1)) := Lib.hid (by rw [take_succ_of hx.out, take_succ_of hy.out, HS.out, hxy])
          clear hxy
          go_wp2_with fail
          go_quiet (fail)
          go_wp2_with fail
          go_roundw
          case rel => exact ⟨k + 1, _, by omega, by go_num, rfl, hsn.out⟩
          case measure => simp [intOf]; omega
        · have hb1 : (x != y) = true := by simpa using hxy
          have hne2 : Hid (decide (a = b) = false) := Lib.hid (decide_eq_false (fun e => hxy (by have h1 := hx.out; rw [e, hy.out] at h1; exact (Option.some.inj h1).symm)))
          clear hxy
          go_wp2_with fail
          go_quiet (fail)
          go_wp2_with fail
          go_ret
          exact ⟨(show Ending.returned (.bool false) = .returned (.bool (decide (a = b))) by rw [hne2.out]), _, World.drewN_drewN _ _ _⟩
      · have hyes : Hid (decide (a = b) = true) := Lib.hid (decide_eq_true (by
          have h1 := HS.out
          rwa [List.take_of_length_le (by omega), List.take_of_length_le (by have := HL.out; omega)] at h1))
        go_wp2_with fail
        go_ret
        exact ⟨(show Ending.returned (.bool true) = .returned (.bool (decide (a = b))) by rw [hyes.out]), _, rfl⟩
  · have hne : ((a.length : Int) != b.length) = true := by simp; omega
    have hno : decide (a = b) = false := decide_eq_false (fun e => hl (by rw [e]))
    rw [hno]
    clear hl hno
    go_enter Try.func13, Try.ntmps13
    go_wp2_with fail
    go_ret
    exact ⟨rfl, 0, rfl⟩

/-! ### Next -/
def outB (n : Nat) (x : Int) : Bool := decide (x < 0) || decide ((n : Int) ≤ x)
def hasB (n : Nat) (acc : List Nat) (x : Int) (i : Nat) : Bool := outB n x || decide (∃ q ∈ acc.take i, (q : Int) = x)
theorem hasB_step {n : Nat} {acc : List Nat} {x : Int} {i q : Nat} (h : acc[i]? = some q) : hasB n acc x (i + 1) = (hasB n acc x i || ((q : Int) == x)) := by
  unfold hasB
  rw [take_succ_of h, Bool.or_assoc]
  congr 1
  rw [Bool.eq_iff_iff, Bool.or_eq_true, decide_eq_true_iff, decide_eq_true_iff, beq_iff_eq]
  constructor
  · rintro ⟨p, hp, e⟩
    rcases List.mem_append.1 hp with hp | hp
    · exact .inl ⟨p, hp, e⟩
    · rw [List.mem_singleton.1 hp] at e; exact .inr e
  · rintro (⟨p, hp, e⟩ | e)
    · exact ⟨p, List.mem_append.2 (.inl hp), e⟩
    · exact ⟨q, by simp, e⟩
theorem addT_has {n : Nat} {acc : List Nat} {x : Int} (h : hasB n acc x acc.length = true) : addT n acc x = acc := by
  apply addT_old
  rintro ⟨h1, h2, h3⟩
  unfold hasB outB at h
  rw [List.take_length] at h
  simp only [Bool.or_eq_true, decide_eq_true_iff] at h
  rcases h with (h | h) | ⟨q, hq, e⟩
  · omega
  · omega
  · exact h3 (by rw [← e]; simpa using hq)
theorem addT_has_not {n : Nat} {acc : List Nat} {x : Int} (h : hasB n acc x acc.length = false) : 0 ≤ x ∧ x < n ∧ addT n acc x = acc ++ [x.toNat] := by
  unfold hasB outB at h
  rw [List.take_length] at h
  simp only [Bool.or_eq_false_iff, decide_eq_false_iff_not] at h
  obtain ⟨⟨h1, h2⟩, h3⟩ := h
  refine ⟨by omega, by omega, ?_⟩
  unfold addT
  rw [if_pos ⟨by omega, by omega, fun hm => h3 ⟨_, hm, by omega⟩⟩]

def ToldN_ (bs : List BlkD) (a : Nat) (w : World) (e : Ending) (w' : World) : Prop :=
  (∃ v, e = .returned v ∧ w'.ownsRow w.heap.size 3 1 v (nxF bs a).length ((zs (nxF bs a)).map (Value.int .i64))) ∧ Below w.heap.size w w'

set_option maxRecDepth 100000 in
set_option maxHeartbeats 4000000 in
theorem refNext_any (f : FunD) (a : Nat) (v : Value) (w : World) (hv : VFun w v f) (hn : f.blocks.length ≤ 1000000) (ha : a < f.blocks.length) :
    Calls Try.prog 19 #[v, .int .i64 a] w (ToldN_ f.blocks a w) := by
  obtain ⟨Ar, cr, A, c, rfl, -, hb, -, -⟩ := hv
  have hbl := hb.len
  obtain ⟨i0, hi, hz0, hz1, hz2⟩ := info_parts Try.info3
  have HI := Lib.hid (And.intro hi (And.intro hz0 (And.intro hz1 hz2)))
  clear hi hz0 hz1 hz2
  have ha0 : (0 : Int) ≤ a := by omega
  have ha1 : (a : Int) < f.blocks.length := by omega
  go_enter Try.func19, Try.ntmps19
  go_wp2_with fail
  obtain ⟨w1, hw1, hs1, hk1, hbel1, hc1, -⟩ := named w #[.int .i64 f.params, .int .i64 f.result, .slice Ar f.regs.length cr, .slice A f.blocks.length c] 25
  have c3 := hc1 3 _ rfl
  rw [← hw1]
  have HB1 := Lib.hid hbel1
  have HS1 : Hid (w.heap.size ≤ w1.heap.size) := Lib.hid (by omega)
  obtain ⟨b, o, kb, rfl, hkb, -, -, -, -, A', c', hto, htos⟩ := (SBlks.keep hk1 hb).at_ ha
  have htl := htos.len
  have HT := Lib.hid (nxF_at hkb.out)
  clear hw1 hs1 hk1 hbel1 hc1 hb
  go_loopw [5, 6] (fun out i wr => ∃ k : Nat, k ≤ kb.term.to.length ∧ i = .int .i64 k ∧ Below w1.heap.size w1 wr ∧
    wr.ownsRow w1.heap.size 3 1 out (nextN f.blocks.length (kb.term.to.take k)).length ((zs (nextN f.blocks.length (kb.term.to.take k))).map (Value.int .i64))) (fun _ i _ => kb.term.to.length - (intOf i).toNat)
  case atStart => exact ⟨0, Nat.zero_le _, rfl, Below.refl _ _, rfl, .inl ⟨rfl, rfl⟩⟩
  case round =>
    obtain ⟨k, hk, rfl, hbel, hown⟩ := hrel
    have hs := hbel.size
    have hkw : Kept w1 wr := kept_of_below hbel
    have hbox := hkw _ _ c3
    have htoc := hkw _ _ hto
    by_cases hlt : k < kb.term.to.length
    · obtain ⟨b', o', x, rfl, hx, hxc, -⟩ := (SInts.keep hkw htos).int hlt
      have HST := Lib.hid (nextN_step (n := f.blocks.length) hx.out)
      have hfew := nextN_few f.blocks.length (kb.term.to.take k)
      have HBEL := Lib.hid hbel
      have HKW := Lib.hid hkw
      clear hbel hkw
      have hmem : ∀ q ∈ nextN f.blocks.length (kb.term.to.take k), q < f.blocks.length := fun q hq => (nextN_mem.1 hq).1
      generalize nextN f.blocks.length (kb.term.to.take k) = acc at *
      obtain ⟨Ao, co, rfl, hso⟩ := slB_of_own (B := fun _ => True) (xs := zs acc) (by rw [zs_len]; exact hown) (fun y hy => by obtain ⟨q, hq, rfl⟩ := zs_mem hy; have := hmem q hq; unfold I64; omega) (fun _ _ _ => trivial)
      rw [zs_len] at hown ⊢
      have HOWN := Lib.hid hown
      have HM := Lib.hid hmem
      clear hown hmem
      go_upto_region 6 with fail
      go_cut [8] (fun s8 wx => s8 = .bool (outB f.blocks.length x) ∧ wx = wr)
      case first =>
        by_cases h0 : x < 0
        · have e : outB f.blocks.length x = true := by unfold outB; simp [h0]
          go_wp2_with fail
          go_meet
          exact ⟨by rw [e], rfl⟩
        · by_cases h1 : (f.blocks.length : Int) ≤ x
          · have e : outB f.blocks.length x = true := by unfold outB; simp [h1]
            go_wp2_with fail
            go_meet
            exact ⟨by rw [e], rfl⟩
          · have e : outB f.blocks.length x = false := by unfold outB; simp; omega
            have h1' : decide ((f.blocks.length : Int) ≤ x) = false := decide_eq_false h1
            go_wp2_with fail
            go_meet
            exact ⟨by rw [e], rfl⟩
      case rest =>
        obtain ⟨rfl, rfl⟩ := hcut
        have hal : acc.length ≤ 1000000 := by omega
        go_wp2_with fail
        go_loop [8, 9] (fun h i => ∃ j : Nat, j ≤ acc.length ∧ i = .int .i64 j ∧ h = .bool (hasB f.blocks.length acc x j)) (fun _ i => acc.length - (intOf i).toNat)
        case atStart => exact ⟨0, Nat.zero_le _, rfl, by unfold hasB; simp⟩
        case round =>
          obtain ⟨j, hj, rfl, rfl⟩ := hrel
          by_cases hjt : j < acc.length
          · obtain ⟨bo, oo, y, rfl, hy, -, hyc, -⟩ := hso.at_ (k := j) (by rw [zs_len]; exact hjt)
            obtain ⟨q, hq, rfl⟩ := zs_at hy.out
            have hyc : wc.cell? ⟨bo, oo + j, none⟩ = some (.int .i64 (q : Int)) := by rw [Nat.mul_one] at hyc; exact hyc
            have HSTEP := Lib.hid (hasB_step (n := f.blocks.length) (x := x) hq)
            have hj0 : (0 : Int) ≤ j := by omega
            have hj1 : (j : Int) < acc.length := by omega
            clear hq hso
            generalize hasB f.blocks.length acc x j = h0 at *
            cases h0
            · cases hqx : ((q : Int) == x)
              · have HQ := Lib.hid hqx
                go_wp2_with fail
                go_round
                case rel => exact ⟨j + 1, by omega, by go_num, by rw [HSTEP.out, HQ.out]; rfl⟩
                case measure => simp [intOf]; omega
              · have HQ := Lib.hid hqx
                go_wp2_with fail
                go_round
                case rel => exact ⟨j + 1, by omega, by go_num, by rw [HSTEP.out, HQ.out]; rfl⟩
                case measure => simp [intOf]; omega
            · go_wp2_with fail
              go_round
              case rel => exact ⟨j + 1, by omega, by go_num, by rw [HSTEP.out]; rfl⟩
              case measure => simp [intOf]; omega
          · obtain rfl : j = acc.length := by omega
            cases hh : hasB f.blocks.length acc x acc.length
            · have HH := Lib.hid (addT_has_not hh)
              clear hh hjt hj
              go_wp2_with (at_builtin; refine wpList_append_lies _ rfl (.tmp 58) (.tmp 60) 22 rfl w1.heap.size 3 i0 (.int .i64 0) 1 8 Try.underlying22 HI.out.1 HI.out.2.1 HI.out.2.2.1 HI.out.2.2.2 rfl (by decide) _ _ _ rfl (HOWN.out.alloc _) ⟨wc.heap.size, 0, none⟩ 1 1 [.int .i64 x] rfl rfl ?d1 ?d2 ?d0 ?d3 ?d4 ?d5 (wc.heap.size + 1) ?d6 ?_)
              case d2 => rfl
              case d3 => unfold maxLen; omega
              case d4 => omega
              case d5 => omega
              intro g cap w3 hown3 hgrow3 hloc3 hlt3
              have hb3 : Below w1.heap.size w1 w3 := (HBEL.out.alloc hs _).grown hgrow3 (by simp; omega) (fun g hg => (HOWN.out.lt g hg).1)
              obtain ⟨q, hq⟩ : ∃ q : Nat, x = q := ⟨x.toNat, by have := HH.out; omega⟩
              have hnew : w3.ownsRow w1.heap.size 3 1 (.slice (some ⟨g, 0, none⟩) (acc.length + 1) cap) (nextN f.blocks.length (kb.term.to.take (k + 1))).length ((zs (nextN f.blocks.length (kb.term.to.take (k + 1)))).map (Value.int .i64)) := by
                rw [HST.out, HH.out.2.2, hq]
                simpa [zs, hq] using hown3
              have HNEW := Lib.hid hnew
              have HB3 := Lib.hid hb3
              clear hown3 hgrow3 hloc3 hnew hb3 hq
              go_wp2_with fail
              go_roundw
              case rel => exact ⟨k + 1, by omega, by go_num, HB3.out, HNEW.out⟩
              case measure => simp [intOf]; omega
            · have HH := Lib.hid (addT_has hh)
              have HOWN2 : Hid (wc.ownsRow w1.heap.size 3 1 (.slice Ao acc.length co) (nextN f.blocks.length (kb.term.to.take (k + 1))).length ((zs (nextN f.blocks.length (kb.term.to.take (k + 1)))).map (Value.int .i64))) := Lib.hid (by rw [HST.out, HH.out]; exact HOWN.out)
              clear hh hjt hj
              go_wp2_with fail
              go_roundw
              case rel => exact ⟨k + 1, by omega, by go_num, HBEL.out, HOWN2.out⟩
              case measure => simp [intOf]; omega
    · have hjj : kb.term.to.take k = kb.term.to := List.take_of_length_le (by omega)
      rw [hjj, ← HT.out] at hown
      have HO := Lib.hid (own_base hown (base' := w.heap.size) HS1.out)
      have HBF : Hid (Below w.heap.size w wr) := Lib.hid (HB1.out.trans (hbel.mono HB1.out.size))
      clear hjj hown hbel hkw
      go_wp2_with fail
      go_ret
      exact ⟨⟨_, rfl, HO.out⟩, HBF.out⟩
end Go.Proofs.Ytbhndfknjkeilaa

/- A region that draws its order, whose last operation waits for all others: the others first, in whatever order, with a condition on the world that need not hold behind the last one. Over any program. -/
namespace Go.Proofs.Ytbhndfknjkeilaa
open Go
set_option linter.unusedVariables false

section
variable {P : Program} {ops : Array Oper} {Q : Exit → Act → World → Prop} {md : Region.Mode} {S : World → Prop}

/-- Edges lead to what stands ahead in the text. -/
def downB (md : Region.Mode) (ops : Array Oper) : Bool :=
  (List.range ops.size).all fun i => ((ops[i]?).map fun o => o.after.all fun e => !Region.binds md e || decide (e.on < i)).getD true
/-- Each but number L is waited for by one behind it. -/
def feedsB (md : Region.Mode) (ops : Array Oper) (L : Nat) : Bool :=
  (List.range L).all fun i => (List.range (L + 1)).any fun j => decide (i < j) && ((ops[j]?).map fun o => o.after.any fun e => Region.binds md e && decide (e.on = i)).getD false

theorem downB_spec (h : downB md ops = true) {i : Nat} {o : Oper} (ho : ops[i]? = some o) : ∀ e ∈ o.after, Region.binds md e = true → e.on < i := by
  intro e he hb
  unfold downB at h
  have hi : i < ops.size := (Array.getElem?_eq_some_iff.1 ho).1
  have h1 := List.all_eq_true.1 h i (List.mem_range.2 hi)
  rw [ho] at h1
  simp only [Option.map_some, Option.getD_some, Array.all_eq_true_iff_forall_mem] at h1
  have h2 := h1 e he
  simpa [hb] using h2
theorem feedsB_spec {L : Nat} (h : feedsB md ops L = true) {i : Nat} (hi : i < L) : ∃ j o e, i < j ∧ j ≤ L ∧ ops[j]? = some o ∧ e ∈ o.after ∧ Region.binds md e = true ∧ e.on = i := by
  unfold feedsB at h
  have h1 := List.all_eq_true.1 h i (List.mem_range.2 hi)
  obtain ⟨j, hj, h2⟩ := List.any_eq_true.1 h1
  rw [Bool.and_eq_true] at h2
  obtain ⟨h3, h4⟩ := h2
  cases ho : ops[j]? with
  | none => rw [ho] at h4; simp at h4
  | some o =>
    rw [ho] at h4
    simp only [Option.map_some, Option.getD_some, Array.any_eq_true'] at h4
    obtain ⟨e, he, hb⟩ := h4
    rw [Bool.and_eq_true] at hb
    exact ⟨j, o, e, of_decide_eq_true h3, by have := List.mem_range.1 hj; omega, ho, he, hb.1, of_decide_eq_true hb.2⟩

/-- What has come up had all that it waits for. -/
def Closed (md : Region.Mode) (ops : Array Oper) (listed : Array Bool) : Prop :=
  ∀ i o, ops[i]? = some o → listed.getD i true = true → ∀ e ∈ o.after, Region.binds md e = true → listed.getD e.on false = true

theorem getD_two {l : Array Bool} {i : Nat} (h : i < l.size) (a b : Bool) : l.getD i a = l.getD i b := by
  simp [Array.getD, h]
theorem getD_set_self {l : Array Bool} {i : Nat} (h : i < l.size) (d : Bool) : (l.setIfInBounds i true).getD i d = true := by
  simp [Array.getD, h]

theorem Closed.set {listed : Array Bool} (hc : Closed md ops listed) (hs : listed.size = ops.size) {i : Nat} (hi : i ∈ Region.ready md ops listed) : Closed md ops (listed.setIfInBounds i true) := by
  intro j o ho hj e he hb
  by_cases hji : j = i
  · subst hji
    obtain ⟨_, o', ho', hall⟩ := mem_ready.1 hi
    rw [ho] at ho'
    cases ho'
    exact getD_set_true (hall e he hb)
  · rw [getD_set_ne true (Ne.symm hji)] at hj
    exact getD_set_true (hc j o ho hj e he hb)

/-- When the last one may come up, all others have. -/
theorem all_of_last {L : Nat} {listed : Array Bool} (hsz : ops.size = L + 1) (hs : listed.size = ops.size) (hf : feedsB md ops L = true) (hc : Closed md ops listed) (hL : L ∈ Region.ready md ops listed) : ∀ i, i < L → listed.getD i true = true := by
  have key : ∀ n i, L - i ≤ n → i < L → listed.getD i true = true := by
    intro n
    induction n with
    | zero => intro i h1 h2; omega
    | succ n ih =>
      intro i h1 h2
      obtain ⟨j, o, e, hij, hjL, ho, he, hb, hei⟩ := feedsB_spec hf h2
      have h3 : listed.getD e.on false = true := by
        by_cases hj : j = L
        · subst hj
          obtain ⟨_, o', ho', hall⟩ := mem_ready.1 hL
          rw [ho] at ho'
          cases ho'
          exact hall e he hb
        · exact hc j o ho (ih j (by omega) (by omega)) e he hb
      rw [hei] at h3
      rw [getD_two (by omega) true false]
      exact h3
  exact fun i hi => key (L - i) i (Nat.le_refl _) hi
/-- While the last one has not come up, one may. -/
theorem ready_some {L : Nat} {listed : Array Bool} (hsz : ops.size = L + 1) (hs : listed.size = ops.size) (hd : downB md ops = true) (hL : listed.getD L true = false) : Region.ready md ops listed ≠ [] := by
  have key : ∀ n i, i ≤ n → i ≤ L → listed.getD i true = false → ∃ k, k ∈ Region.ready md ops listed := by
    intro n
    induction n with
    | zero =>
      intro i h1 h2 h3
      obtain rfl : i = 0 := by omega
      have ho : ops[0]? = some ops[0] := Array.getElem?_eq_getElem (by omega)
      exact ⟨0, mem_ready.2 ⟨h3, _, ho, fun e he hb => absurd (downB_spec hd ho e he hb) (by omega)⟩⟩
    | succ n ih =>
      intro i h1 h2 h3
      have ho : ops[i]? = some ops[i] := Array.getElem?_eq_getElem (by omega)
      by_cases hall : ∀ e ∈ ops[i].after, Region.binds md e = true → listed.getD e.on false = true
      · exact ⟨i, mem_ready.2 ⟨h3, _, ho, hall⟩⟩
      · simp only [Classical.not_forall] at hall
        obtain ⟨e, he, hb, hno⟩ := hall
        have hlt := downB_spec hd ho e he hb
        refine ih e.on (by omega) (by omega) ?_
        rw [getD_two (by omega) true false]
        simpa using hno
  obtain ⟨k, hk⟩ := key L L (Nat.le_refl _) (Nat.le_refl _) hL
  intro h0
  rw [h0] at hk
  cases hk

/-- The post behind all but the last: the last one's turn. -/
def LastQ (P : Program) (ops : Array Oper) (Q : Exit → Act → World → Prop) (L : Nat) : Exit → Act → World → Prop
  | .normal, a, w => wpOp P ops Q L (Q .normal) a w
  | e, a, w => Q e a w

theorem upon_last {L : Nat} {o : Oper} {a : Act} {K : Act → World → Prop} {r : Result Next} (h : o.upon P a K (LastQ P ops Q L) r) : o.upon P a K Q r := by
  cases r with
  | ok n w' =>
    cases n <;> simp only [Oper.upon] at h ⊢ <;> exact h
  | halt x w' => cases x <;> simp only [Oper.upon] at h ⊢ <;> exact h
theorem wpOp_last {L i : Nat} {K : Act → World → Prop} {a : Act} {w : World} (h : wpOp P ops (LastQ P ops Q L) i K a w) : wpOp P ops Q i K a w := by
  unfold wpOp at *
  split
  · rename_i ho; simp only [ho] at h; exact h
  · rename_i o ho
    simp only [ho] at h
    split
    · rename_i hw; simp only [hw, if_true] at h; exact h.imp (fun h => by unfold Oper.wp at *; exact upon_last h) (fun h => ⟨h.1, h.2⟩)
    · rename_i hw; simp only [hw] at h; exact h

theorem wpAny_last {L : Nat} (hsz : ops.size = L + 1) (hd : downB md ops = true) (hf : feedsB md ops L = true) :
    ∀ (fuel : Nat) (listed : Array Bool) (a : Act) (w : World), listed.size = ops.size → Closed md ops listed → listed.getD L true = false →
      wpAnyH P md ops (LastQ P ops Q L) S fuel (listed.setIfInBounds L true) a w → wpAny P md ops Q (fuel + 1) listed a w := by
  intro fuel
  induction fuel with
  | zero =>
    intro listed a w hs hc hL H
    refine ⟨fun h0 => absurd h0 (ready_some hsz hs hd hL), fun i hi => ?_⟩
    by_cases hiL : i = L
    · subst hiL
      exact wpOp_mono (fun a' w' h' => ⟨H.1, h'⟩) (show wpOp P ops Q i (Q .normal) a w from H.2)
    · have := ready_mono hi hiL
      rw [H.1] at this
      cases this
  | succ fuel ih =>
    intro listed a w hs hc hL H
    refine ⟨fun h0 => absurd h0 (ready_some hsz hs hd hL), fun i hi => ?_⟩
    by_cases hiL : i = L
    · subst hiL
      have hall := all_of_last hsz hs hf hc hi
      have hr : Region.ready md ops (listed.setIfInBounds i true) = [] := by
        rw [List.eq_nil_iff_forall_not_mem]
        intro k hk
        obtain ⟨h0, o, ho, _⟩ := mem_ready.1 hk
        have hkl : k < ops.size := (Array.getElem?_eq_some_iff.1 ho).1
        by_cases hki : k = i
        · subst hki
          rw [getD_set_self (by omega)] at h0
          cases h0
        · rw [getD_set_ne true (Ne.symm hki), hall k (by omega)] at h0
          cases h0
      exact wpOp_mono (fun a' w' h' => wpAny_done hr h' _) (show wpOp P ops Q i (Q .normal) a w from H.1 hr)
    · have h1 := wpOp_last (H.2 i (ready_mono hi hiL))
      refine wpOp_mono (fun a' w' h' => ih (listed.setIfInBounds i true) a' w' (by simpa using hs) (hc.set hs hi) ?_ ?_) h1
      · rw [getD_set_ne true hiL]; exact hL
      · rw [Array.setIfInBounds_comm _ _ hiL]; exact h'.2

/-- THE LAW. -/
theorem wp_region_last {id L : Nat} {a : Act} {w : World} (hm : P.follows .mixedOrders = true) (hsz : ops.size = L + 1) (hd : downB .any ops = true) (hf : feedsB .any ops L = true)
    (h : wpAnyH P .any ops (LastQ P ops Q L) S L ((Array.replicate ops.size false).setIfInBounds L true) a { w with drawn := w.drawn + 1 }) : (Code.region id ops true).wp P Q a w := by
  refine wp_region_any hm ?_
  have h2 := wpAny_last (md := .any) (Q := Q) (S := S) hsz hd hf L (Array.replicate ops.size false) a { w with drawn := w.drawn + 1 } (by simp) (fun i o ho hi => ?_) (by simp [Array.getD, hsz]) h
  · rwa [← hsz] at h2
  · have hlt := (Array.getElem?_eq_some_iff.1 ho).1
    simp [Array.getD, hlt] at hi

/-- Take number i first: what it writes to is said by the caller. -/
theorem takeH {i : Nat} (d : Option Tmp) {v : Value} {fuel : Nat} {listed : Array Bool} {a : Act} {w : World} (hd : (ops[i]?).map (·.dst) = some d)
    (hs : Region.noSelect ops = true) (hf : Region.free md ops listed i = true) (hr : (Region.ready md ops listed).contains i = true)
    (hQ : ∀ c a w, Q (.panic c) (a.put d v) w → Q (.panic c) a w) (hS : S w) (hy : ∀ o, ops[i]? = some o → YieldsIf P ops S o v a)
    (h : wpAnyH P md ops Q S fuel (listed.setIfInBounds i true) (a.put d v) w) : wpAnyH P md ops Q S (fuel + 1) listed a w := by
  cases ho : ops[i]? with
  | none => rw [ho] at hd; cases hd
  | some o =>
    rw [ho] at hd
    obtain rfl := Option.some.inj hd
    exact wpAnyH_take ho hs hf hr hQ (hy o ho) hS h
/-- Number i alone may come up. -/
theorem oneH {i : Nat} {fuel : Nat} {listed : Array Bool} {a : Act} {w : World} (hr : Region.ready md ops listed = [i])
    (h : ∀ o, ops[i]? = some o → ∀ K : Act → World → Prop, RowKit.Hid (∀ a' w', S w' → wpAnyH P md ops Q S fuel (listed.setIfInBounds i true) a' w' → K a' w') → if Region.wanted o (yielded ops a.tmps) = true then Oper.wp P o a w K Q else K (a.put o.dst undef) w) :
    wpAnyH P md ops Q S (fuel + 1) listed a w := by
  refine wpAnyH_all hr (by simp) fun k hk => ?_
  obtain rfl := List.mem_singleton.1 hk
  unfold wpOp
  split
  · rename_i ho
    have : k ∈ Region.ready md ops listed := by rw [hr]; simp
    obtain ⟨_, o, ho', _⟩ := mem_ready.1 this
    rw [ho] at ho'; cases ho'
  · rename_i o ho
    have := h o ho (fun a' w' => S w' ∧ wpAnyH P md ops Q S fuel (listed.setIfInBounds k true) a' w') (Lib.hid (fun a' w' h1 h2 => ⟨h1, h2⟩))
    split
    · rename_i hw; rw [if_pos hw] at this; exact .inl this
    · rename_i hw; rw [if_neg hw] at this; exact this
/-- The last one. -/
theorem lastH {L : Nat} {a : Act} {w : World} (hL : L < ops.size)
    (h : ∀ o, ops[L]? = some o → ∀ K : Act → World → Prop, RowKit.Hid (∀ a' w', Q .normal a' w' → K a' w') → if Region.wanted o (yielded ops a.tmps) = true then Oper.wp P o a w K Q else K (a.put o.dst undef) w) : LastQ P ops Q L .normal a w := by
  show wpOp P ops Q L (Q .normal) a w
  have ho : ops[L]? = some ops[L] := Array.getElem?_eq_getElem hL
  have := h _ ho (Q .normal) (Lib.hid (fun a' w' h1 => h1))
  unfold wpOp
  simp only [ho]
  split
  · rename_i hw; rw [if_pos hw] at this; exact .inl this
  · rename_i hw; rw [if_neg hw] at this; exact this
end
end Go.Proofs.Ytbhndfknjkeilaa

/- The reference of layer 5: From. -/
namespace Go.Proofs.Ytbhndfknjkeilaa
open Go.ChangeShapes Go.WideShapes Go.RowKit Go.Deep
set_option linter.unusedVariables false

/-- What can be come to from a block without going by another one. -/
def fromB (bs : List BlkD) (b w : Int) (x : Nat) : Bool := if 0 ≤ b ∧ b < bs.length ∧ b ≠ w then fromN (nxF bs) w bs.length b.toNat bs.length x else false
theorem range_fold {nx : Nat → List Nat} {w : Int} {S : Nat → Bool} (a : Nat) : (List.range (a + 1)).foldl (fromA nx w) S = fromA nx w ((List.range a).foldl (fromA nx w) S) a := by
  rw [List.range_succ, List.foldl_append]; rfl
theorem mk_fold {w : Int} {S : Nat → Bool} {l : List Nat} {k q : Nat} (h : l[k]? = some q) : (l.take (k + 1)).foldl (mkW w) S = mkW w ((l.take k).foldl (mkW w) S) q := by
  rw [take_succ_of h, List.foldl_append]; rfl
def ToldF_ (bs : List BlkD) (b w : Int) (W : World) (e : Ending) (W' : World) : Prop :=
  (∃ H, e = .returned (.slice (some ⟨H, 0, none⟩) bs.length bs.length) ∧ W.heap.size ≤ H ∧ W'.rowIs H 4 bs.length (fun x => .bool (fromB bs b w x))) ∧ Below W.heap.size W W'

set_option maxRecDepth 100000 in
set_option maxHeartbeats 8000000 in
theorem from_any (f : FunD) (b z : Int) (v : Value) (w : World) (hv : VFun w v f) (hn : f.blocks.length ≤ 1000) :
    Calls Try.prog 26 #[v, .int .i64 b, .int .i64 z] w (ToldF_ f.blocks b z w) := by
  have hv0 := hv
  obtain ⟨Ar, cr, A, c, rfl, -, -, -, -⟩ := hv
  have hmk := run_make_row' (P := Try.prog) 36 4 (.bool false) 1 Try.underlying36 Try.info4 rfl .i64 .i64 f.blocks.length (by omega) (by omega)
  have HV := Lib.hid hv0
  clear hv0
  go_enter Try.func26, Try.ntmps26
  go_upto_region 2 with fail
  clear hmk
  obtain ⟨w1, hw1, hs1, hk1, hbel1, hc1, -⟩ := named w #[.int .i64 f.params, .int .i64 f.result, .slice Ar f.regs.length cr, .slice A f.blocks.length c] 25
  rw [← hw1]
  obtain ⟨H, hH⟩ : ∃ H, H = w.heap.size + 1 := ⟨_, rfl⟩
  have hrow := World.rowIs_made w1 (.bool false) f.blocks.length 4
  have hb2 : Below w1.heap.size w1 (w1.alloc (.cells (madeCells #[.bool false] f.blocks.length) 4)) := (Below.refl _ _).alloc (Nat.le_refl _) _
  have hz2 : (w1.alloc (.cells (madeCells #[.bool false] f.blocks.length) 4)).heap.size = w1.heap.size + 1 := by simp
  rw [hs1, ← hH] at hrow hb2 hz2
  rw [← hH]
  generalize w1.alloc (.cells (madeCells #[.bool false] f.blocks.length) 4) = w2 at *
  have hk2 := kept_below hb2 (by omega)
  have c0 := hk2 _ _ (hc1 0 _ rfl)
  have c1 := hk2 _ _ (hc1 1 _ rfl)
  have c2 := hk2 _ _ (hc1 2 _ rfl)
  have c3 := hk2 _ _ (hc1 3 _ rfl)
  have HHW : Hid (w.heap.size + 1 = H) := Lib.hid (by omega)
  have hhw : w.heap.size < H := by omega
  have hh2 : H < w2.heap.size := by omega
  have HB2 : Hid (Below w.heap.size w w2) := Lib.hid (hbel1.trans (hb2.mono (by omega)))
  have HV2 : Hid (VFun w2 (.agg #[.int .i64 f.params, .int .i64 f.result, .slice Ar f.regs.length cr, .slice A f.blocks.length c]) f) := Lib.hid (VFun.keep (hk1.trans hk2) HV.out)
  have HROW := Lib.hid hrow
  have HV0 := HV
  clear hw1 hs1 hk1 hbel1 hc1 hb2 hz2 hk2 hH hrow HV
  by_cases hok : 0 ≤ b ∧ b < f.blocks.length ∧ b ≠ z
  · obtain ⟨h1, h2, h3⟩ := hok
    obtain ⟨q, rfl⟩ : ∃ q : Nat, b = q := ⟨b.toNat, by omega⟩
    have hq : q < f.blocks.length := by omega
    have hne : ((q : Int) == z) = false := by rw [beq_eq_false_iff_ne]; exact h3
    have hge : ¬ ((f.blocks.length : Int) ≤ q) := by omega
    have hge' : decide ((f.blocks.length : Int) ≤ q) = false := decide_eq_false hge
    have HRES : Hid (∀ x, fromB f.blocks q z x = fromN (nxF f.blocks) z f.blocks.length q f.blocks.length x) := Lib.hid (fun x => by unfold fromB; rw [if_pos ⟨h1, h2, h3⟩]; simp)
    have hcell := HROW.out.cell hq
    have hfr := HROW.out.frozen q
    have hset := (HROW.out.set q (.bool true)).congr (g := fun x => .bool (mark noneSeen q x)) fun x _ => by unfold mark noneSeen; by_cases e : x = q <;> simp [e]
    have hbs : BB w2.heap.size H w2 (w2.setCell ⟨H, q, none⟩ (.bool true)) := (BB.refl w2.heap.size H w2).setCell (p := ⟨H, q, none⟩) (.inl rfl) _
    clear h3
    go_upto_region 5 with fail
    clear hcell hfr
    generalize hW3 : w2.setCell ⟨H, q, none⟩ (.bool true) = w3 at *
    clear hW3
    have HSET := Lib.hid hset
    have HBS := Lib.hid hbs
    clear hset hbs
    go_wp2_with fail
    go_loopw [8] (fun s8 wr => ∃ i : Nat, i ≤ f.blocks.length ∧ s8 = .int .i64 i ∧ wr.rowIs H 4 f.blocks.length (fun x => .bool (fromN (nxF f.blocks) z f.blocks.length q i x)) ∧ BB w2.heap.size H w2 wr) (fun s8 _ => f.blocks.length - (intOf s8).toNat)
    case atStart => exact ⟨0, Nat.zero_le _, rfl, HSET.out, HBS.out⟩
    case round =>
      obtain ⟨i, hi, rfl, hrw, hbb⟩ := hrel
      have HRW := Lib.hid hrw
      have HBB := Lib.hid hbb
      clear hrw hbb
      obtain ⟨wo, rfl⟩ : ∃ wo, wo = wr := ⟨wr, rfl⟩
      by_cases hlt : i < f.blocks.length
      · go_wp2_with fail
        go_loopw [9] (fun s9 wr => ∃ a : Nat, a ≤ f.blocks.length ∧ s9 = .int .i64 a ∧ wr.rowIs H 4 f.blocks.length (fun x => .bool ((List.range a).foldl (fromA (nxF f.blocks) z) (fromN (nxF f.blocks) z f.blocks.length q i) x)) ∧ BB w2.heap.size H w2 wr) (fun s9 _ => f.blocks.length - (intOf s9).toNat)
        case atStart => exact ⟨0, Nat.zero_le _, rfl, HRW.out, HBB.out⟩
        case round =>
          obtain ⟨a, ha, rfl, hrw, hbb⟩ := hrel
          obtain ⟨wm, rfl⟩ : ∃ wm, wm = wr := ⟨wr, rfl⟩
          have HSUC := Lib.hid (range_fold (nx := nxF f.blocks) (w := z) (S := fromN (nxF f.blocks) z f.blocks.length q i) a)
          obtain ⟨S, hS⟩ : ∃ S, S = (List.range a).foldl (fromA (nxF f.blocks) z) (fromN (nxF f.blocks) z f.blocks.length q i) := ⟨_, rfl⟩
          rw [← hS] at hrw HSUC
          have HS := Lib.hid hS
          clear hS HRW HBB
          have HRA := Lib.hid hrw
          have HBA := Lib.hid hbb
          by_cases hlta : a < f.blocks.length
          · have hsc := hrw.cell hlta
            have ha0 : (0 : Int) ≤ a := by omega
            have ha1 : (a : Int) < f.blocks.length := by omega
            cases hsa : S a
            · rw [hsa] at hsc
              have HSU : Hid ((List.range (a + 1)).foldl (fromA (nxF f.blocks) z) (fromN (nxF f.blocks) z f.blocks.length q i) = S) := Lib.hid (by rw [HSUC.out]; unfold fromA; rw [hsa]; rfl)
              clear hsa hrw hbb
              go_wp2_with fail
              go_roundw
              case rel => exact ⟨a + 1, by omega, by go_num, by rw [HSU.out]; exact HRA.out, HBA.out⟩
              case measure => simp [intOf]; omega
            · rw [hsa] at hsc
              have HSU : Hid ((List.range (a + 1)).foldl (fromA (nxF f.blocks) z) (fromN (nxF f.blocks) z f.blocks.length q i) = (nxF f.blocks a).foldl (mkW z) S) := Lib.hid (by rw [HSUC.out]; unfold fromA; rw [hsa]; rfl)
              have hkb : ∀ y o u, y < w2.heap.size → y ≠ H → w2.cell? ⟨y, o, none⟩ = some u → wm.cell? ⟨y, o, none⟩ = some u := fun y o u h1 h2 hu => (World.cell?_of_block (a := ⟨y, o, none⟩) (hbb.block y h1 h2)).trans hu
              have d0 := hkb _ _ _ (by omega) (by omega) c0
              have d1 := hkb _ _ _ (by omega) (by omega) c1
              have d2 := hkb _ _ _ (by omega) (by omega) c2
              have d3 := hkb _ _ _ (by omega) (by omega) c3
              have hzr := hbb.size
              have hbw : Below w2.heap.size w2 w2 := Below.refl _ _
              have HVR : Hid (VFun wm (.agg #[.int .i64 f.params, .int .i64 f.result, .slice Ar f.regs.length cr, .slice A f.blocks.length c]) f) := Lib.hid (VFun.keep (kept_of_below (HB2.out.trans (hbb.below (by omega) (by omega)))) HV0.out)
              have HN := Lib.hid (refNext_any f a _ wm HVR.out (by omega) hlta)
              clear hsa hrw hbb hkb
              go_wp2_with fail
              refine HN.out.mono ?_
              rintro e w5 ⟨⟨vl, rfl, hl⟩, hb5⟩
              have hk5 := kept_of_below hb5
              have d0 := hk5 _ _ d0
              have d1 := hk5 _ _ d1
              have d2 := hk5 _ _ d2
              have d3 := hk5 _ _ d3
              have HR5 := Lib.hid (HRA.out.of_block (hb5.block H HRA.out.lt))
              have HB5 : Hid (BB w2.heap.size H w2 w5) := Lib.hid (HBA.out.trans (BB.of_below hb5 hzr))
              have hll : (nxF f.blocks a).length ≤ f.blocks.length := by
                unfold nxF; split
                · exact nextN_few _ _
                · simp
              have HLT := Lib.hid (nxF_lt f.blocks a)
              have hz5 := hb5.size
              generalize nxF f.blocks a = l at *
              obtain ⟨Al, cl, rfl, hsl⟩ := slB_of_own (B := fun g => wm.heap.size ≤ g ∧ g < w5.heap.size) (xs := zs l) (by rw [zs_len]; exact hl) (fun y hy => by obtain ⟨t, ht, rfl⟩ := zs_mem hy; have := HLT.out t ht; unfold I64; omega) (fun _ h1 h2 => ⟨h1, h2⟩)
              rw [zs_len]
              have HSL := Lib.hid hsl
              have hHr : H < wm.heap.size := HRA.out.lt
              clear hl hb5 hk5 hsl HN hsc
              go_wp2_with fail
              go_loopw [11] (fun s11 wi => ∃ k : Nat, k ≤ l.length ∧ s11 = .int .i64 k ∧ wi.rowIs H 4 f.blocks.length (fun x => .bool ((l.take k).foldl (mkW z) S x)) ∧ BB w5.heap.size H w5 wi) (fun s11 _ => l.length - (intOf s11).toNat)
              case atStart => exact ⟨0, Nat.zero_le _, rfl, by simpa using HR5.out, BB.refl _ _ _⟩
              case round =>
                obtain ⟨k, hk, rfl, hri, hbi⟩ := hrel
                obtain ⟨wi, rfl⟩ : ∃ wi, wi = wr := ⟨wr, rfl⟩
                have hsi := SIntsB.go (B := fun g => wm.heap.size ≤ g ∧ g < w5.heap.size) (B' := fun _ => True) (w := w5) (w' := wi) (fun a v hb ha => (World.cell?_of_block (hbi.block a.block hb.2 (by have := hb.1; omega))).trans ha) (fun _ _ => trivial) HSL.out
                have HRI := Lib.hid hri
                have HBI := Lib.hid hbi
                by_cases hkl : k < l.length
                · obtain ⟨bl, ol, y, rfl, hy, -, hyc, -⟩ := hsi.at_ (k := k) (by rw [zs_len]; exact hkl)
                  obtain ⟨t, ht, rfl⟩ := zs_at hy.out
                  have htn : t < f.blocks.length := HLT.out t (List.mem_of_getElem? ht)
                  have hyc : wi.cell? ⟨bl, ol + k, none⟩ = some (.int .i64 (t : Int)) := by rw [Nat.mul_one] at hyc; exact hyc
                  have ht0 : (0 : Int) ≤ t := by omega
                  have ht1 : (t : Int) < f.blocks.length := by omega
                  have hk0 : (0 : Int) ≤ k := by omega
                  have hk1 : (k : Int) < l.length := by omega
                  have HMK := Lib.hid (mk_fold (w := z) (S := S) ht)
                  by_cases htz : (t : Int) = z
                  · have hbz : ((t : Int) != z) = false := by simp [htz]
                    have HS2 : Hid ((l.take (k + 1)).foldl (mkW z) S = (l.take k).foldl (mkW z) S) := Lib.hid (by rw [HMK.out]; unfold mkW; rw [if_pos htz])
                    clear htz ht hsi hri hbi
                    go_wp2_with fail
                    go_roundw
                    case rel => exact ⟨k + 1, by omega, by go_num, by rw [HS2.out]; exact HRI.out, HBI.out⟩
                    case measure => simp [intOf]; omega
                  · have hbz : ((t : Int) != z) = true := by simpa using htz
                    have HS2 : Hid ((l.take (k + 1)).foldl (mkW z) S = mark ((l.take k).foldl (mkW z) S) t) := Lib.hid (by rw [HMK.out]; unfold mkW; rw [if_neg htz])
                    have hcc := hri.cell htn
                    have hcf := hri.frozen t
                    have HR2 := Lib.hid ((hri.set t (.bool true)).congr (g := fun x => .bool ((l.take (k + 1)).foldl (mkW z) S x)) fun x _ => by rw [HS2.out]; unfold mark; by_cases e : x = t <;> simp [e])
                    clear htz ht hsi hri hbi
                    go_wp2_with fail
                    go_roundw
                    case rel => exact ⟨k + 1, by omega, by go_num, HR2.out, HBI.out.setCell (.inl rfl) _⟩
                    case measure => simp [intOf]; omega
                · have hfin : Hid ((List.range (a + 1)).foldl (fromA (nxF f.blocks) z) (fromN (nxF f.blocks) z f.blocks.length q i) = (l.take k).foldl (mkW z) S) := Lib.hid (by rw [HSU.out, List.take_of_length_le (by omega)])
                  have HBF : Hid (BB w2.heap.size H w2 wi) := Lib.hid (HB5.out.trans (HBI.out.mono (by omega)))
                  clear hsi hri hbi
                  go_wp2_with fail
                  go_roundw
                  case rel => exact ⟨a + 1, by omega, by go_num, by rw [hfin.out]; exact HRI.out, HBF.out⟩
                  case measure => simp [intOf]; omega
          · obtain rfl : a = f.blocks.length := by omega
            have hfin : Hid (fromN (nxF f.blocks) z f.blocks.length q (i + 1) = S) := Lib.hid HS.out.symm
            clear hrw hbb
            go_wp2_with fail
            go_roundw
            case rel => exact ⟨i + 1, by omega, by go_num, by rw [hfin.out]; exact HRA.out, HBA.out⟩
            case measure => simp [intOf]; omega
      · obtain rfl : i = f.blocks.length := by omega
        have HFIN := Lib.hid (HRW.out.congr (g := fun x => .bool (fromB f.blocks q z x)) fun x _ => by rw [HRES.out])
        go_wp2_with fail
        go_ret
        exact ⟨⟨H, rfl, by omega, HFIN.out⟩, HB2.out.trans (HBB.out.below (by omega) (by omega))⟩
  · have HRES : Hid (∀ x, fromB f.blocks b z x = false) := Lib.hid (fun x => by unfold fromB; rw [if_neg hok])
    have HFIN := Lib.hid (HROW.out.congr (g := fun x => .bool (fromB f.blocks b z x)) fun x _ => by rw [HRES.out])
    by_cases h0 : b < 0
    · clear hok
      go_wp2_with fail
      go_ret
      exact ⟨⟨H, rfl, by omega, HFIN.out⟩, HB2.out⟩
    · by_cases h1 : (f.blocks.length : Int) ≤ b
      · clear hok
        go_wp2_with fail
        go_ret
        exact ⟨⟨H, rfl, by omega, HFIN.out⟩, HB2.out⟩
      · have hbz : (b == z) = true := by rw [beq_iff_eq]; omega
        have h1' : decide ((f.blocks.length : Int) ≤ b) = false := decide_eq_false h1
        clear hok
        go_wp2_with fail
        go_ret
        exact ⟨⟨H, rfl, by omega, HFIN.out⟩, HB2.out⟩
end Go.Proofs.Ytbhndfknjkeilaa
