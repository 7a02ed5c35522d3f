/- What can be come to, and waves, as the document reckons them round by round. -/
import Derived.Test.YtdfiflbkamhchaaCaQJ
import Derived.Test.YtdfiflbkamhchaaCaFJ
import Derived.BigQuiet
import Derived.Test.YtdfiflbkamhchaaCdAJ
namespace Go.Proofs.Ytdfiflbkamhchaa
set_option linter.unusedVariables false

/-! ### What can be come to, by one call at least -/
inductive Thr (c : Nat → List Nat) (k : Nat) : Nat → Nat → Prop
  | one {a b} : b ∈ c a → Thr c k a b
  | step {a b d} : b ∈ c a → b < k → Thr c k b d → Thr c k a d
def TcC (c : Nat → List Nat) (a b : Nat) : Prop := ∃ x ∈ c a, CR c x b
theorem CR.mem {c : Nat → List Nat} {a b d : Nat} (h : CR c a b) (k : d ∈ c b) : CR c a d := h.trans (.one k)
theorem TcC.trans {c : Nat → List Nat} {a b d : Nat} (h : TcC c a b) (k : TcC c b d) : TcC c a d := by
  obtain ⟨x, h1, h2⟩ := h
  obtain ⟨y, h3, h4⟩ := k
  exact ⟨x, h1, h2.trans (.step h3 h4)⟩
theorem TcC.cr {c : Nat → List Nat} {a b : Nat} (h : TcC c a b) : CR c a b := by
  obtain ⟨x, h1, h2⟩ := h
  exact .step h1 h2
theorem Thr.split {c : Nat → List Nat} {k a b : Nat} (h : Thr c (k + 1) a b) : Thr c k a b ∨ (Thr c k a k ∧ Thr c k k b) := by
  induction h with
  | one e => exact .inl (.one e)
  | @step a x d e hx _ ih =>
    by_cases q : x = k
    · subst q
      rcases ih with h | ⟨_, h⟩
      · exact .inr ⟨.one e, h⟩
      · exact .inr ⟨.one e, h⟩
    · have hk : x < k := by omega
      rcases ih with h | ⟨h, h'⟩
      · exact .inl (.step e hk h)
      · exact .inr ⟨.step e hk h, h'⟩
theorem Thr.of {c : Nat → List Nat} {n : Nat} (hc : ∀ f g, g ∈ c f → g < n) {x b : Nat} (h : CR c x b) : ∀ {a : Nat}, x ∈ c a → Thr c n a b := by
  induction h with
  | refl a => exact fun e => .one e
  | step e _ ih => exact fun e' => .step e' (hc _ _ e') (ih e)
theorem TcC.thr {c : Nat → List Nat} {n : Nat} (hc : ∀ f g, g ∈ c f → g < n) {a b : Nat} (h : TcC c a b) : Thr c n a b := by
  obtain ⟨x, h1, h2⟩ := h
  exact Thr.of hc h2 h1

def setT (M : Nat → Nat → Bool) (a b : Nat) (v : Bool) : Nat → Nat → Bool := fun x y => if x = a ∧ y = b then v else M x y
theorem setT_here (M : Nat → Nat → Bool) (a b : Nat) (v : Bool) : setT M a b v a b = v := if_pos ⟨rfl, rfl⟩
theorem setT_else (M : Nat → Nat → Bool) {a b x y : Nat} (v : Bool) (h : ¬ (x = a ∧ y = b)) : setT M a b v x y = M x y := if_neg h

/-- In round k of them, at (a, b). -/
structure ToI (n : Nat) (c : Nat → List Nat) (k a b : Nat) (M : Nat → Nat → Bool) : Prop where
  s : ∀ x y, x < n → y < n → M x y = true → TcC c x y
  o : ∀ x y, x < n → y < n → Thr c k x y → M x y = true
  w : ∀ x y, x < n → y < n → (x < a ∨ x = a ∧ y < b) → Thr c (k + 1) x y → M x y = true
theorem ToI.start {n : Nat} {c : Nat → List Nat} {M : Nat → Nat → Bool} (hM : ∀ x y, x < n → y < n → (M x y = true ↔ y ∈ c x)) : ToI n c 0 0 0 M := by
  refine ⟨fun x y hx hy h => ⟨y, (hM x y hx hy).1 h, .refl _⟩, fun x y hx hy h => ?_, fun x y hx hy h => by omega⟩
  cases h with
  | one e => exact (hM x y hx hy).2 e
  | step _ h _ => omega
theorem ToI.next {n : Nat} {c : Nat → List Nat} {k a b : Nat} {M : Nat → Nat → Bool} (H : ToI n c k a b M) (hk : k < n) (ha : a < n) (hb : b < n) :
    ToI n c k a (b + 1) (setT M a b (M a b || (M a k && M k b))) := by
  have mono : ∀ x y, M x y = true → setT M a b (M a b || (M a k && M k b)) x y = true := by
    intro x y h
    by_cases e : x = a ∧ y = b
    · obtain ⟨rfl, rfl⟩ := e
      rw [setT_here, h]; rfl
    · rw [setT_else _ _ e]; exact h
  refine ⟨fun x y hx hy h => ?_, fun x y hx hy h => mono x y (H.o x y hx hy h), fun x y hx hy h h' => ?_⟩
  · by_cases e : x = a ∧ y = b
    · obtain ⟨rfl, rfl⟩ := e
      rw [setT_here] at h
      rcases Bool.or_eq_true_iff.1 h with h | h
      · exact H.s x y hx hy h
      · obtain ⟨h1, h2⟩ := Bool.and_eq_true_iff.1 h
        exact (H.s x k hx hk h1).trans (H.s k y hk hy h2)
    · rw [setT_else _ _ e] at h; exact H.s x y hx hy h
  · by_cases e : x = a ∧ y = b
    · obtain ⟨rfl, rfl⟩ := e
      rw [setT_here]
      rcases h'.split with h1 | ⟨h1, h2⟩
      · rw [H.o x y hx hy h1]; rfl
      · rw [H.o x k hx hk h1, H.o k y hk hy h2]; simp
    · exact mono x y (H.w x y hx hy (by omega) h')
theorem ToI.row {n : Nat} {c : Nat → List Nat} {k a : Nat} {M : Nat → Nat → Bool} (H : ToI n c k a n M) : ToI n c k (a + 1) 0 M :=
  ⟨H.s, H.o, fun x y hx hy h h' => H.w x y hx hy (by omega) h'⟩
theorem ToI.round {n : Nat} {c : Nat → List Nat} {k : Nat} {M : Nat → Nat → Bool} (H : ToI n c k n 0 M) : ToI n c (k + 1) 0 0 M :=
  ⟨H.s, fun x y hx hy h => H.w x y hx hy (by omega) h, fun x y hx hy h => by omega⟩
/-- What is reckoned, once all are through. -/
def ToOk (n : Nat) (c : Nat → List Nat) (M : Nat → Nat → Bool) : Prop := ∀ x y, x < n → y < n → (M x y = true ↔ TcC c x y)
theorem ToI.done {n : Nat} {c : Nat → List Nat} {M : Nat → Nat → Bool} (hc : ∀ f g, g ∈ c f → g < n) (H : ToI n c n 0 0 M) : ToOk n c M :=
  fun x y hx hy => ⟨H.s x y hx hy, fun h => H.o x y hx hy (h.thr hc)⟩
/-- Of one ring: as the document tells it. -/
def mtF (M : Nat → Nat → Bool) : Nat → Nat → Bool := fun a b => (a == b) || (M a b && M b a)
theorem ToOk.mt {n : Nat} {c : Nat → List Nat} {M : Nat → Nat → Bool} (H : ToOk n c M) : MtOk n c (mtF M) := by
  intro a b ha hb
  unfold mtF
  rw [Bool.or_eq_true_iff, Bool.and_eq_true_iff, H a b ha hb, H b a hb ha, beq_iff_eq]
  constructor
  · rintro (rfl | ⟨h1, h2⟩)
    · exact ⟨.refl _, .refl _⟩
    · exact ⟨h1.cr, h2.cr⟩
  · rintro ⟨h1, h2⟩
    by_cases e : a = b
    · exact .inl e
    · refine .inr ⟨?_, ?_⟩
      · cases h1 with
        | refl => exact absurd rfl e
        | step q r => exact ⟨_, q, r⟩
      · cases h2 with
        | refl => exact absurd rfl e
        | step q r => exact ⟨_, q, r⟩

/-! ### Waves -/
/-- Each one's wave, from 0 on. -/
structure WvV (n : Nat) (c : Nat → List Nat) (V : Nat → Nat) : Prop where
  le : ∀ a b, a < n → CR c a b → V b ≤ V a ∧ (V b < V a ∨ CR c b a)
  ex : ∀ a, a < n → V a = 0 ∨ ∃ b, b < n ∧ TcC c a b ∧ ¬ TcC c b a ∧ V b + 1 = V a
  few : ∀ a, a < n → V a < n
theorem WvO.v {n : Nat} {c : Nat → List Nat} {rs : List (List Nat)} {v : Nat → Nat} {ws : List (List (List Nat))} (H : WvO c rs v ws) (R : RgA n c rs) (hc : ∀ f g, g ∈ c f → g < n) : WvV n c (fun a => v a - 1) := by
  have one : ∀ a, a < n → 1 ≤ v a ∧ v a ≤ ws.length := fun a ha => by
    obtain ⟨r, h1, h2⟩ := (R.all a).1 ha
    exact H.pos r h1 a h2
  refine ⟨fun a b ha h => ?_, fun a ha => ?_, fun a ha => ?_⟩
  · show v b - 1 ≤ v a - 1 ∧ (v b - 1 < v a - 1 ∨ _)
    induction h with
    | refl a => exact ⟨Nat.le_refl _, .inr (.refl _)⟩
    | @step a x b e hxb ih =>
      have hx : x < n := hc a x e
      obtain ⟨h1, h2⟩ := ih hx
      obtain ⟨r, h3, h4⟩ := (R.all a).1 ha
      have o1 := one a ha
      have o2 := one x hx
      by_cases k : x ∈ r
      · have hv : v x = v a := H.eq r h3 x k a h4
        refine ⟨by omega, ?_⟩
        rcases h2 with h2 | h2
        · left; omega
        · exact .inr (h2.trans (R.o.cr r h3 x k a h4))
      · have hv := H.lt r h3 a h4 x e k
        exact ⟨by omega, .inl (by omega)⟩
  · obtain ⟨r, h1, h2⟩ := (R.all a).1 ha
    rcases H.ex r h1 a h2 with h | ⟨f, h3, x, h4, h5, h6⟩
    · left; show v a - 1 = 0; omega
    · right
      have hx : x < n := hc f x h4
      have o2 := one x hx
      have hfa := R.o.cr r h1 a h2 f h3
      have htc : TcC c a x := by
        cases hfa with
        | refl => exact ⟨x, h4, .refl _⟩
        | step q k => exact ⟨_, q, k.mem h4⟩
      refine ⟨x, hx, htc, fun k => h5 ?_, by show v x - 1 + 1 = v a - 1; omega⟩
      exact (R.mem_iff h1 h2).2 ⟨hx, htc.cr, k.cr⟩
  · have := one a ha
    have := H.few
    have := R.few
    show v a - 1 < n
    omega
/-- After so many rounds, at (a, b). -/
structure WvI (n : Nat) (V : Nat → Nat) (M : Nat → Nat → Bool) (k a b : Nat) (w : Nat → Nat) : Prop where
  u : ∀ x, x < n → w x ≤ V x
  l : ∀ x, x < n → min (V x) k ≤ w x
  d : ∀ x, x < n → x < a → min (V x) (k + 1) ≤ w x
  e : a < n → ∀ y, y < n → y < b → M a y = true → M y a = false → V y + 1 = V a → min (V a) (k + 1) ≤ w a
theorem WvI.start (n : Nat) (V : Nat → Nat) (M : Nat → Nat → Bool) : WvI n V M 0 0 0 (fun _ => 0) := ⟨fun _ _ => Nat.zero_le _, fun _ _ => by omega, fun _ _ h => by omega, fun _ _ _ h => by omega⟩
def wvU (M : Nat → Nat → Bool) (w : Nat → Nat) (a b : Nat) : Nat → Nat := if (M a b && (!M b a && decide (w a ≤ w b))) = true then updN w a (w b + 1) else w
theorem WvI.next {n : Nat} {c : Nat → List Nat} {V : Nat → Nat} {M : Nat → Nat → Bool} {k a b : Nat} {w : Nat → Nat} (H : WvI n V M k a b w) (hV : WvV n c V) (hM : ToOk n c M) (ha : a < n) (hb : b < n) :
    WvI n V M k a (b + 1) (wvU M w a b) := by
  have up : ∀ x, w x ≤ wvU M w a b x := by
    intro x
    unfold wvU
    split
    · rename_i h
      simp at h
      by_cases e : x = a
      · subst e; rw [updN_here]; omega
      · rw [updN_else _ _ e]; omega
    · omega
  refine ⟨fun x hx => ?_, fun x hx => Nat.le_trans (H.l x hx) (up x), fun x hx h => Nat.le_trans (H.d x hx h) (up x), fun _ y hy hyb h1 h2 h3 => ?_⟩
  · unfold wvU
    split
    · rename_i h
      simp at h
      by_cases e : x = a
      · subst e; rw [updN_here]
        have h1 := (hM x b ha hb).1 h.1
        have h2 : ¬ TcC c b x := fun k => by have := (hM b x hb ha).2 k; rw [h.2.1] at this; cases this
        have h3 := hV.le x b ha h1.cr
        have h4 : V b < V x := by
          rcases h3.2 with k | k
          · exact k
          · exfalso
            refine h2 ?_
            cases k with
            | refl => exact h1
            | step q r => exact ⟨_, q, r⟩
        have := H.u b hb
        omega
      · rw [updN_else _ _ e]; exact H.u x hx
    · exact H.u x hx
  · by_cases e : y = b
    · subst e
      have hl := H.l y hb
      unfold wvU
      by_cases q : w a ≤ w y
      · rw [if_pos (by rw [h1, h2]; simp [q]), updN_here]; omega
      · rw [if_neg (by rw [h1, h2]; simp; omega)]; omega
    · exact Nat.le_trans (H.e ha y hy (by omega) h1 h2 h3) (up a)
theorem WvI.row {n : Nat} {c : Nat → List Nat} {V : Nat → Nat} {M : Nat → Nat → Bool} {k a : Nat} {w : Nat → Nat} (H : WvI n V M k a n w) (hV : WvV n c V) (hM : ToOk n c M) (ha : a < n) : WvI n V M k (a + 1) 0 w := by
  refine ⟨H.u, H.l, fun x hx h => ?_, fun _ _ _ h => by omega⟩
  by_cases e : x = a
  · subst e
    rcases hV.ex x ha with h | ⟨b, h1, h2, h3, h4⟩
    · omega
    · refine H.e ha b h1 h1 ((hM x b ha h1).2 h2) ?_ h4
      cases q : M b x
      · rfl
      · exact absurd ((hM b x h1 ha).1 q) h3
  · exact H.d x hx (by omega)
theorem WvI.round {n : Nat} {V : Nat → Nat} {M : Nat → Nat → Bool} {k : Nat} {w : Nat → Nat} (H : WvI n V M k n 0 w) : WvI n V M (k + 1) 0 0 w :=
  ⟨H.u, fun x hx => H.d x hx hx, fun _ _ h => by omega, fun _ _ _ h => by omega⟩
theorem WvI.done {n : Nat} {c : Nat → List Nat} {V : Nat → Nat} {M : Nat → Nat → Bool} {w : Nat → Nat} (H : WvI n V M n 0 0 w) (hV : WvV n c V) : ∀ x, x < n → w x = V x := by
  intro x hx
  have h1 := H.u x hx
  have h2 := H.l x hx
  have h3 := hV.few x hx
  omega
theorem WvI.bound {n : Nat} {c : Nat → List Nat} {V : Nat → Nat} {M : Nat → Nat → Bool} {k a b : Nat} {w : Nat → Nat} (H : WvI n V M k a b w) (hV : WvV n c V) {x : Nat} (hx : x < n) : w x < n := by
  have h1 := H.u x hx
  have h3 := hV.few x hx
  omega
end Go.Proofs.Ytdfiflbkamhchaa

/- The program's sortByFirst: rings by their first functions. -/
namespace Go.Proofs.Ytdfiflbkamhchaa
open Go.ChangeShapes Go.WideShapes Go.RowKit Go.Deep
set_option linter.unusedVariables false

theorem insSortC_nil (cb : Value) (p : Option Addr) (cap : Nat) (w : World) :
    Calls Try.prog 99 #[.slice p 0 cap, .int .i64 0, .int .i64 0, cb] w fun e w' => e = .returned (.tuple #[]) ∧ w' = w := by
  go_enter Try.func99, Try.ntmps99
  go_wp2
  refine wp_loop_rounds 1 ?_
  rw [rounds_succ]
  go_wp2
  go_end0
  exact ⟨rfl, rfl⟩
set_option maxRecDepth 100000 in
theorem pdqSortC_nil (cb : Value) (p : Option Addr) (cap : Nat) (w : World) :
    Calls Try.prog 81 #[.slice p 0 cap, .int .i64 0, .int .i64 0, .int .i64 0, cb] w fun e w' => e = .returned (.tuple #[]) ∧ w' = w := by
  go_enter Try.func81, Try.ntmps81
  go_wp2
  refine wp_loop_rounds 1 ?_
  rw [rounds_succ]
  go_wp2_with (first | (go_at_call 99; refine (insSortC_nil _ p cap _).mono ?_; rintro e w' ⟨rfl, rfl⟩))
  refine bodyPost_ret (results_none rfl _ _ _) rfl ?_
  exact ⟨rfl, rfl⟩
set_option maxRecDepth 100000 in
theorem sortC_nil (p : Option Addr) (cap : Nat) (w : World) :
    Calls Try.prog 35 #[.slice p 0 cap] w fun e w' => e = .returned (.tuple #[]) ∧ w' = w := by
  have hLen : ∀ w, Calls Try.prog 48 #[.int .u64 0] w fun e w' => e = .returned (.int .i64 0) ∧ w' = w := fun w => bitsLen_any 0 w (by omega) (by omega)
  have h1 : ∀ cb w, Calls Try.prog 52 #[.slice p 0 cap, cb] w fun e w' => e = .returned (.tuple #[]) ∧ w' = w := by
    intro cb w
    go_enter Try.func52, Try.ntmps52
    go_wp2_with (first
      | (go_at_call 48; refine (hLen _).mono ?_; rintro e w' ⟨rfl, rfl⟩)
      | (go_at_call 81; refine (pdqSortC_nil _ p cap _).mono ?_; rintro e w' ⟨rfl, rfl⟩))
    go_end0
    exact ⟨rfl, rfl⟩
  go_enter Try.func35, Try.ntmps35
  go_wp2_with (first | (go_at_call 52; refine (h1 _ _).mono ?_; rintro e w' ⟨rfl, rfl⟩))
  go_end0
  exact ⟨rfl, rfl⟩

theorem cmp_any (x y : Int) (w : World) : Calls Try.prog 54 #[.int .i64 x, .int .i64 y] w fun e w' => e = .returned (.int .i64 (Lib.compareInt x y)) ∧ w' = w := by
  have hx : (x != x) = false := by simp
  have hy : (y != y) = false := by simp
  by_cases h1 : x < y
  · have e : Lib.compareInt x y = -1 := by unfold Lib.compareInt; rw [if_pos h1]
    rw [e]
    clear e
    go_enter Try.func54, Try.ntmps54
    go_wp2
    all_goals (go_ret; exact ⟨rfl, rfl⟩)
  · by_cases h2 : y < x
    · have e : Lib.compareInt x y = 1 := by unfold Lib.compareInt; rw [if_neg h1, if_pos h2]
      rw [e]
      clear e
      go_enter Try.func54, Try.ntmps54
      go_wp2
      all_goals (go_ret; exact ⟨rfl, rfl⟩)
    · have e : Lib.compareInt x y = 0 := by unfold Lib.compareInt; rw [if_neg h1, if_neg h2]
      rw [e]
      clear e
      go_enter Try.func54, Try.ntmps54
      go_wp2
      all_goals (go_ret; exact ⟨rfl, rfl⟩)

/-- Two rings' first functions compared, in a world that reads them. -/
theorem first_any {b1 l1 c1 b2 l2 c2 : Nat} {x y : Int} {w : World} (h1 : w.cell? ⟨b1, 0, none⟩ = some (.int .i64 x)) (h2 : w.cell? ⟨b2, 0, none⟩ = some (.int .i64 y)) (hl1 : 0 < l1) (hl2 : 0 < l2) (hm1 : l1 ≤ maxLen) (hm2 : l2 ≤ maxLen) :
    Calls Try.prog 53 #[.slice (some ⟨b1, 0, none⟩) l1 c1, .slice (some ⟨b2, 0, none⟩) l2 c2] w fun e w' => e = .returned (.int .i64 (Lib.compareInt x y)) ∧ ∃ q, w' = w.drewN q := by
  have g1 : (0 : Int) < l1 := by omega
  have g2 : (0 : Int) < l2 := by omega
  go_enter Try.func53, Try.ntmps53
  go_wp2_with (go_quiet ((go_at_call 54; exact Calls.quiet_of_same (cmp_any _ _ _))))
  go_ret
  exact ⟨rfl, nq, rfl⟩

theorem ltK {ky : Nat → Int} (x y : Nat) : ltOf (fun a b => Lib.compareInt (ky a) (ky b)) x y = decide (ky x < ky y) := by
  unfold ltOf Lib.compareInt
  by_cases h1 : ky x < ky y
  · simp [h1]
  · by_cases h2 : ky y < ky x <;> simp [h1, h2]
theorem swoK (ky : Nat → Int) : Sort.SWO (ltOf fun a b : Nat => Lib.compareInt (ky a) (ky b)) where
  irrefl x := by rw [ltK]; simp
  trans x y z h1 h2 := by rw [ltK] at *; simp at *; omega
  ntrans x y z h1 h2 := by rw [ltK] at *; simp at *; omega

/-- What a row of rings shows to the comparison. -/
def RingsAt (w : World) (v : Value) (k : Nat) (V : Nat → Value) (ky : Nat → Int) : Prop :=
  ∀ i, i < k → ∃ b l c, V i = .slice (some ⟨b, 0, none⟩) l c ∧ 0 < l ∧ l ≤ maxLen ∧ b < w.heap.size ∧ v.ownBlock ≠ some b ∧ w.cell? ⟨b, 0, none⟩ = some (.int .i64 (ky i))

set_option maxRecDepth 100000 in
set_option maxHeartbeats 4000000 in
theorem sortRings_any {w : World} {K : Nat} {v : Value} {k : Nat} {V : Nat → Value} {ky : Nat → Int} (h : w.ownsRow K 34 1 v k ((List.range k).map V)) (hk : k ≤ 1000) (hR : RingsAt w v k V ky) :
    Calls Try.prog 35 #[v] w fun e w' => e = .returned (.tuple #[]) ∧ GroD w w' v v ∧ ∃ l : List Nat, l.Perm (List.range k) ∧ l.Pairwise (fun a b => ky a ≤ ky b) ∧ w'.ownsRow K 34 1 v k (l.map V) := by
  have h0 := h
  rcases Nat.eq_zero_or_pos k with hk0 | hk0
  · subst hk0
    have hnil : ∃ p c, v = .slice p 0 c := own_sliceL h
    obtain ⟨p, c, rfl⟩ := hnil
    refine (sortC_nil p c w).mono ?_
    rintro e w' ⟨rfl, rfl⟩
    exact ⟨rfl, ⟨rfl, rfl, rfl, Nat.le_refl _, fun _ _ _ => rfl, fun _ h => .inl h⟩, [], List.Perm.refl _, List.Pairwise.nil, h0⟩
  rcases h.2 with ⟨_, hz⟩ | ⟨g, cap, cur, rfl, -⟩
  · omega
  obtain ⟨enc, henc⟩ : ∃ enc : Nat → Value, enc = fun i => if i < k then V i else V 0 := ⟨_, rfl⟩
  obtain ⟨kk, hkk⟩ : ∃ kk : Nat → Int, kk = fun i => if i < k then ky i else ky 0 := ⟨_, rfl⟩
  have hall : ∀ i, ∃ b l c, enc i = .slice (some ⟨b, 0, none⟩) l c ∧ 0 < l ∧ l ≤ maxLen ∧ b < w.heap.size ∧ b ≠ g ∧ w.cell? ⟨b, 0, none⟩ = some (.int .i64 (kk i)) := by
    intro i
    rw [henc, hkk]
    by_cases hi : i < k
    · obtain ⟨b, l, c, e1, e2, e3, e4, e5, e6⟩ := hR i hi
      exact ⟨b, l, c, by simp only [if_pos hi]; exact e1, e2, e3, e4, fun q => e5 (by rw [q]; rfl), by simp only [if_pos hi]; exact e6⟩
    · obtain ⟨b, l, c, e1, e2, e3, e4, e5, e6⟩ := hR 0 hk0
      exact ⟨b, l, c, by simp only [if_neg hi]; exact e1, e2, e3, e4, fun q => e5 (by rw [q]; rfl), by simp only [if_neg hi]; exact e6⟩
  have henc1 : OneCell enc := fun x => by obtain ⟨b, l, c, e, -⟩ := hall x; rw [e]; rfl
  have hmap : (List.range k).map V = (List.range k).toArray.toList.map enc := by
    rw [List.toList_toArray]
    refine List.map_congr_left fun i hi => ?_
    rw [henc]; simp only [if_pos (List.mem_range.1 hi)]
  have hown : w.ownsRow K 34 1 (.slice (some ⟨g, 0, none⟩) k cap) k ((List.range k).toArray.toList.map enc) := by rw [← hmap]; exact h0
  have hlt := (h0.lt g rfl).2
  have hcmp : CmpLays1 Try.prog 53 #[] enc (fun a b => Lib.compareInt (kk a) (kk b)) g 0 (List.range k).toArray.size w := by
    intro m os dk hs x y
    obtain ⟨b1, l1, c1, e1, e2, e3, e4, e5, e6⟩ := hall x
    obtain ⟨b2, l2, c2, d1, d2, d3, d4, d5, d6⟩ := hall y
    have hcell : ∀ b, b < w.heap.size → b ≠ g → (sortWorld enc w g 0 m dk os).cell? ⟨b, 0, none⟩ = w.cell? ⟨b, 0, none⟩ := fun b hb hbg => by
      unfold sortWorld
      rw [Sort.cell?_grow _ _ _ (by simpa using hb), Sort.cell?_putRow_other _ _ _ _ _ _ (.inl hbg)]
      rfl
    have hf := first_any (c1 := c1) (c2 := c2) ((hcell b1 e4 e5).trans e6) ((hcell b2 d4 d5).trans d6) e2 d2 e3 d3
    rw [e1, d1]
    refine Calls.mono (show Calls Try.prog _ (#[_, _] ++ #[]) _ _ from hf) ?_
    rintro e w' ⟨rfl, q, rfl⟩
    exact ⟨rfl, q, #[], by rw [Sort.grow_empty]⟩
  have eg : ∀ args w, (callFunc 53 args).run Try.prog w = .ok (.enter 53 args) w := enters_of Try.func53 (by kernel_rfl) rfl
  have hcon := Any.slices_SortFunc sfn enc henc1 (fun a b => Lib.compareInt (kk a) (kk b)) (swoK kk) 53 #[] g 0 cap (List.range k).toArray w eg hcmp (own_holds hown) hlt (by simp; omega)
  change Calls Try.prog 52 _ _ _ at hcon
  have hsz : (List.range k).toArray.size = k := by simp
  rw [hsz] at hcon
  have HCON := Lib.hid hcon
  have HOWN := Lib.hid hown
  have HENC := Lib.hid (And.intro henc hkk)
  clear hcon hown hcmp hall henc1 hmap h h0 hR henc hkk eg hsz
  go_enter Try.func35, Try.ntmps35
  go_wp2_with (go_at_call 52; refine HCON.out.mono ?_; rintro e w' ⟨rfl, d', m, os, hp, hs, rfl⟩)
  go_end0
  have hds : d'.size = k := by rw [hp.1]; simp
  have hperm : d'.toList.Perm (List.range k) := by
    have h1 := hp.2.2
    have e1 : d'.extract 0 k = d' := by rw [← hds]; simp
    have e2 : (List.range k).toArray.extract 0 k = (List.range k).toArray := by
      have : k = (List.range k).toArray.size := by simp
      rw [show (List.range k).toArray.extract 0 k = (List.range k).toArray.extract 0 (List.range k).toArray.size from by rw [← this]]
      simp
    rw [e1, e2] at h1
    simpa using h1
  have hlk : ∀ x ∈ d'.toList, x < k := fun x hx => List.mem_range.1 (hperm.mem_iff.1 hx)
  have hpt := own_put (enc := enc) (d := d') (m := m) (os := os) HOWN.out hds
  refine ⟨rfl, hpt.2, d'.toList, hperm, ?_, ?_⟩
  · rw [List.pairwise_iff_getElem]
    intro i j hi hj hij
    have hi' : i < d'.size := by simpa using hi
    have hj' : j < d'.size := by simpa using hj
    have h3 := hs i j (Nat.zero_le _) hij (by omega)
    rw [ltK, getElem!_pos d' i hi', getElem!_pos d' j hj'] at h3
    have hki := hlk d'[i] (by simp)
    have hkj := hlk d'[j] (by simp)
    rw [HENC.out.2] at h3
    simp only [if_pos hki, if_pos hkj] at h3
    have h4 := of_decide_eq_false h3
    simp only [Array.getElem_toList]
    omega
  · have h3 := hpt.1
    have e3 : d'.toList.map enc = d'.toList.map V := List.map_congr_left fun x hx => by rw [HENC.out.1]; simp only [if_pos (hlk x hx)]
    rw [e3] at h3
    exact h3
end Go.Proofs.Ytdfiflbkamhchaa

/- The program's Rings. -/
namespace Go.Proofs.Ytdfiflbkamhchaa
open Go.ChangeShapes Go.WideShapes Go.RowKit Go.Deep
set_option linter.unusedVariables false

theorem RgO.take {c : Nat → List Nat} {rs : List (List Nat)} (H : RgO c rs) (i : Nat) : RgO c (rs.take i) := by
  have hl : ∀ (j : Nat) (q : List Nat), (rs.take i)[j]? = some q → rs[j]? = some q ∧ j < i := fun j q h => by
    rw [List.getElem?_take] at h
    by_cases e : j < i
    · rw [if_pos e] at h; exact ⟨h, e⟩
    · rw [if_neg e] at h; cases h
  refine ⟨fun r hr => H.ne r (List.mem_of_mem_take hr), fun r hr => H.st r (List.mem_of_mem_take hr), fun r hr => H.cr r (List.mem_of_mem_take hr), fun j r hj f hf g hg => ?_, fun a b r q f ha hb => H.dj a b r q f (hl a r ha).1 (hl b q hb).1⟩
  obtain ⟨h1, h2⟩ := hl j r hj
  obtain ⟨k, q, h3, h4, h5⟩ := H.cl j r h1 f hf g hg
  exact ⟨k, q, h3, by rw [List.getElem?_take, if_pos (by omega)]; exact h4, h5⟩
theorem RgA.len {n : Nat} {c : Nat → List Nat} {rs : List (List Nat)} (H : RgA n c rs) {r : List Nat} (hr : r ∈ rs) : r.length ≤ n :=
  nodup_lt ((H.o.st r hr).imp (fun {a b} h e => by rw [e] at h; omega)) fun x hx => H.lt hr hx
/-- Indices of rings, put in order by their first functions: the rings are. -/
theorem byKey_of {c : Nat → List Nat} {rs : List (List Nat)} (H : RgO c rs) {ix lx : List Nat} (hix : ∀ i ∈ ix, i < rs.length) (hnd : ix.Nodup) (hp : lx.Perm ix) (hs : lx.Pairwise fun a b => ((kyR (rs.getD a []) : Nat) : Int) ≤ ((kyR (rs.getD b []) : Nat) : Int)) :
    ByKey (ix.map fun i => rs.getD i []) (lx.map fun i => rs.getD i []) := by
  have hm : ∀ i, i ∈ lx ↔ i ∈ ix := fun i => hp.mem_iff
  refine ⟨fun r => ?_, by rw [List.length_map, List.length_map, hp.length_eq], ?_⟩
  · rw [List.mem_map, List.mem_map]
    constructor
    · rintro ⟨i, h1, h2⟩; exact ⟨i, (hm i).1 h1, h2⟩
    · rintro ⟨i, h1, h2⟩; exact ⟨i, (hm i).2 h1, h2⟩
  · rw [List.pairwise_map]
    have hnl : lx.Nodup := hp.nodup_iff.2 hnd
    refine (hs.and hnl).imp_of_mem fun {a b} ha hb h => ?_
    obtain ⟨h1, h2⟩ := h
    have la := hix a ((hm a).1 ha)
    have lb := hix b ((hm b).1 hb)
    have ea : rs[a]? = some (rs.getD a []) := by rw [List.getD_eq_getElem?_getD, List.getElem?_eq_getElem la]; rfl
    have eb : rs[b]? = some (rs.getD b []) := by rw [List.getD_eq_getElem?_getD, List.getElem?_eq_getElem lb]; rfl
    have ma := List.mem_of_getElem? ea
    have mb := List.mem_of_getElem? eb
    have hne : kyR (rs.getD a []) ≠ kyR (rs.getD b []) := fun e => by
      have hk := H.keys ma mb e
      have ka := kyR_mem (H.ne _ ma)
      exact h2 (H.dj a b _ _ _ ea eb ka (by rw [← hk]; exact ka))
    omega
/-- What a row of rings shows to the comparison. -/
theorem RowsM.at_ {w : World} {K : Nat} {v : Value} {V : Nat → Value} {rs : List (List Nat)} (h : RowsM w K v V rs) (hne : ∀ r ∈ rs, r ≠ []) (hl : ∀ r ∈ rs, r.length ≤ 1000) : RingsAt w v rs.length V (fun i => (kyR (rs.getD i []) : Nat)) := by
  intro i hi
  have hr : rs[i]? = some rs[i] := List.getElem?_eq_getElem hi
  have hm := List.mem_of_getElem? hr
  have ho := h.own i _ hr
  have h0 : 0 < rs[i].length := by cases hq : rs[i] with | nil => exact absurd hq (hne _ hm) | cons a l => simp
  obtain ⟨g, cap, hv⟩ : ∃ g cap, V i = .slice (some ⟨g, 0, none⟩) rs[i].length cap := by
    rcases ho.2 with ⟨_, hz⟩ | ⟨g, c, cur, e, -⟩
    · omega
    · exact ⟨g, c, e⟩
  rw [hv] at ho
  refine ⟨g, rs[i].length, cap, hv, h0, by have := hl _ hm; unfold maxLen; omega, (ho.lt g rfl).2, ?_, ?_⟩
  · have := h.ap i hi
    rw [hv] at this
    rcases this with h1 | h1
    · cases h1
    · exact fun e => h1 e.symm
  · rw [ho.cellAt 0 (by omega)]
    refine natV_at ?_
    have : (rs.getD i []) = rs[i] := by rw [List.getD_eq_getElem?_getD, hr]; rfl
    rw [this]
    cases hq : rs[i] with
    | nil => exact absurd hq (hne _ hm)
    | cons a l => rfl
theorem range_map_getD {α : Type} (l : List α) (d : α) : (List.range l.length).map (fun i => l.getD i d) = l := by
  apply List.ext_getElem?
  intro i
  by_cases h : i < l.length
  · simp [h]
  · simp [h]
/-- A row of rings that was put in order. -/
theorem RowsM.sorted {w w' : World} {K : Nat} {v : Value} {V : Nat → Value} {rs : List (List Nat)} {c : Nat → List Nat} (h : RowsM w K v V rs) (H : RgO c rs) (hg : GroD w w' v v) {lx : List Nat} (hp : lx.Perm (List.range rs.length))
    (hs : lx.Pairwise fun a b => ((kyR (rs.getD a []) : Nat) : Int) ≤ ((kyR (rs.getD b []) : Nat) : Int)) (ho : w'.ownsRow K 34 1 v rs.length (lx.map V)) :
    RowsM w' K v (fun j => V (lx.getD j 0)) (lx.map fun i => rs.getD i []) ∧ ByKey rs (lx.map fun i => rs.getD i []) := by
  have hll : lx.length = rs.length := by rw [hp.length_eq, List.length_range]
  have hlt : ∀ i ∈ lx, i < rs.length := fun i hi => List.mem_range.1 (hp.mem_iff.1 hi)
  have hmap : (List.range lx.length).map (fun j => V (lx.getD j 0)) = lx.map V := by
    have := range_map_getD lx 0
    calc (List.range lx.length).map (fun j => V (lx.getD j 0)) = ((List.range lx.length).map (fun j => lx.getD j 0)).map V := by rw [List.map_map]; rfl
      _ = lx.map V := by rw [this]
  refine ⟨⟨?_, fun i r hi => ?_, fun i hi => ?_⟩, ?_⟩
  · rw [List.length_map, hmap, hll]; exact ho
  · rw [List.getElem?_map] at hi
    obtain ⟨j, hj, rfl⟩ := Option.map_eq_some_iff.1 hi
    have hjl := hlt j (List.mem_of_getElem? hj)
    have ej : lx.getD i 0 = j := by rw [List.getD_eq_getElem?_getD, hj]; rfl
    have er : rs[j]? = some (rs.getD j []) := by rw [List.getD_eq_getElem?_getD, List.getElem?_eq_getElem hjl]; rfl
    show w'.ownsRow K _ 1 (V (lx.getD i 0)) _ _
    rw [ej]
    have h1 := h.own j _ er
    refine ownsRow_block h1 fun g hg1 => hg.block g (h1.lt g hg1).2 fun e => ?_
    rcases h.ap j hjl with h2 | h2
    · rw [h2] at hg1; cases hg1
    · exact h2 (hg1.trans e.symm)
  · rw [List.length_map] at hi
    have hj := List.getElem?_eq_getElem hi
    have hjl := hlt _ (List.mem_of_getElem? hj)
    have ej : lx.getD i 0 = lx[i] := by rw [List.getD_eq_getElem?_getD, hj]; rfl
    show (V (lx.getD i 0)).ownBlock = none ∨ _
    rw [ej]; exact h.ap _ hjl
  · have := byKey_of H (ix := List.range rs.length) (fun i hi => List.mem_range.1 hi) List.nodup_range hp hs
    rw [range_map_getD] at this
    exact this

def ToldRs (m : List FunD) (w : World) (e : Ending) (w' : World) : Prop :=
  ∃ v V rs l, e = .returned v ∧ RgA m.length (cF m) rs ∧ ByKey rs l ∧ RowsM w' w.heap.size v V l ∧ Below w.heap.size w w'
set_option maxRecDepth 100000 in
set_option maxHeartbeats 8000000 in
theorem rings_any (m : List FunD) (v : Value) (w : World) (hv : VMod w v m) (hsm : SmallM m) : Calls Try.prog 16 #[v] w (ToldRs m w) := by
  have hv0 := hv
  obtain ⟨Am, cm, rfl, hm⟩ := hv
  have hnl := hsm.1
  have HSM := Lib.hid hsm
  obtain ⟨n, hn⟩ : ∃ n, n = m.length := ⟨_, rfl⟩
  have HN := Lib.hid hn
  obtain ⟨w1, hw1, hs1, hk1, hbel1, hc1, -⟩ := named w #[.slice Am m.length cm] 24
  have c0 : w1.cell? ⟨w.heap.size, 0, none⟩ = some (.slice Am m.length cm) := hc1 0 _ rfl
  have HV1 := Lib.hid (VMod.keep hk1 hv0)
  have HB1 := Lib.hid hbel1
  obtain ⟨N, hN⟩ : ∃ N, N = w.heap.size := ⟨_, rfl⟩
  have HNN := Lib.hid hN
  clear hm hsm hs1 hk1 hc1 hbel1 hv0
  go_enter Try.func16, Try.ntmps16
  go_upto_region 1 with fail
  rw [← hw1, ← hN]
  rw [← hN] at c0
  clear hw1 hN hn
  go_upto_region 2 with (first
    | (go_at_call 15; refine (callsOf_any m _ _ HV1.out HSM.out).mono ?_; rintro e w2 ⟨G, V, rfl, hG, hCM, hB2⟩)
    | (go_at_call 34; refine (ringsOf_any hCM (fun f g h => cF_lt f g h) (by omega)).mono ?_; rintro e w3 ⟨v3, V3, rs, rfl, hRA, hB3, hRM⟩))
  have hK : w.heap.size ≤ w2.heap.size := by have := HB1.out.size; have := hB2.size; omega
  have hB4 : Below w.heap.size w w3 := (HB1.out.trans (hB2.mono HB1.out.size)).trans (hB3.mono hK)
  have hat := hRM.at_ hRA.o.ne (fun r hr => by have := hRA.len hr; omega)
  have hso := sortRings_any hRM.row (by have := hRA.few; omega) hat
  have HRA := Lib.hid hRA
  have HRM := Lib.hid hRM
  have HB4 := Lib.hid hB4
  have HSO := Lib.hid hso
  have HK := Lib.hid hK
  clear hRA hRM hB4 hso hat hB3 hB2 hCM hK hG c0
  go_wp2_with (go_at_call 35; refine HSO.out.mono ?_; rintro e w4 ⟨rfl, hgd, lx, hp, hs, ho⟩)
  go_ret
  have hfin := HRM.out.sorted HRA.out.o hgd hp hs ho
  have hbw : Below w.heap.size w3 w4 := ⟨hgd.os, hgd.tape, hgd.output, hgd.size, fun k hk => hgd.block k (by have := HB4.out.size; omega) (fun e => by have := (HRM.out.row.lt k e).1; have := HK.out; omega)⟩
  refine ⟨_, _, rs, _, rfl, HRA.out, hfin.2, ⟨owns_mono_ hfin.1.row HK.out, fun i r hi => owns_mono_ (hfin.1.own i r hi) HK.out, hfin.1.ap⟩, HB4.out.trans hbw⟩
end Go.Proofs.Ytdfiflbkamhchaa

/- Waves in memory, while they are made. -/
namespace Go.Proofs.Ytdfiflbkamhchaa
open Go.ChangeShapes Go.WideShapes Go.RowKit Go.Deep
set_option linter.unusedVariables false

def ixS (ix : List (List Nat)) (W i : Nat) : List (List Nat) := if W = ix.length then ix ++ [[i]] else ix.set W ((ix[W]?).getD [] ++ [i])
def ofIx (rs : List (List Nat)) (ix : List (List Nat)) : List (List (List Nat)) := ix.map fun l => l.map fun i => rs.getD i []
theorem ofIx_len (rs : List (List Nat)) (ix : List (List Nat)) : (ofIx rs ix).length = ix.length := List.length_map _
theorem ofIx_step {rs : List (List Nat)} {ix : List (List Nat)} {W i : Nat} {r : List Nat} (h : rs[i]? = some r) : ofIx rs (ixS ix W i) = wsS (ofIx rs ix) W r := by
  have hr : rs.getD i [] = r := by rw [List.getD_eq_getElem?_getD, h]; rfl
  unfold ixS wsS
  rw [ofIx_len]
  by_cases e : W = ix.length
  · rw [if_pos e, if_pos e]
    unfold ofIx
    rw [List.map_append]
    simp only [List.map_cons, List.map_nil, hr]
  · rw [if_neg e, if_neg e]
    unfold ofIx
    rw [List.map_set, List.map_append]
    simp only [List.map_cons, List.map_nil, hr]
    congr 2
    rw [List.getElem?_map]
    cases ix[W]? <;> rfl
/-- What the indices are. -/
structure IxOk (ix : List (List Nat)) (i : Nat) : Prop where
  lt : ∀ l ∈ ix, ∀ j ∈ l, j < i
  nd : ∀ l ∈ ix, l.Nodup
theorem IxOk.step {ix : List (List Nat)} {i : Nat} (h : IxOk ix i) (W : Nat) : IxOk (ixS ix W i) (i + 1) := by
  have key : ∀ l, l ∈ ix ∨ l = [] → (∀ j ∈ l ++ [i], j < i + 1) ∧ (l ++ [i]).Nodup := by
    intro l hl
    have h1 : ∀ j ∈ l, j < i := by
      rcases hl with hl | hl
      · exact h.lt l hl
      · rw [hl]; simp
    have h2 : l.Nodup := by
      rcases hl with hl | hl
      · exact h.nd l hl
      · rw [hl]; simp
    refine ⟨fun j hj => ?_, ?_⟩
    · rcases List.mem_append.1 hj with k | k
      · have := h1 j k; omega
      · have := List.mem_singleton.1 k; omega
    · rw [List.nodup_append]
      exact ⟨h2, by simp, fun a ha b hb e => by have := h1 a ha; have := List.mem_singleton.1 hb; omega⟩
  have old : ∀ l ∈ ix, ∀ j ∈ l, j < i + 1 := fun l hl j hj => by have := h.lt l hl j hj; omega
  unfold ixS
  by_cases e : W = ix.length
  · rw [if_pos e]
    have k0 := key [] (.inr rfl)
    refine ⟨fun l hl => ?_, fun l hl => ?_⟩
    · rcases List.mem_append.1 hl with k | k
      · exact old l k
      · rw [List.mem_singleton.1 k]; exact k0.1
    · rcases List.mem_append.1 hl with k | k
      · exact h.nd l k
      · rw [List.mem_singleton.1 k]; exact k0.2
  · rw [if_neg e]
    have hg : (ix[W]?).getD [] ∈ ix ∨ (ix[W]?).getD [] = [] := by
      cases hq : ix[W]? with
      | none => exact .inr rfl
      | some l => exact .inl (List.mem_of_getElem? hq)
    have k0 := key _ hg
    refine ⟨fun l hl => ?_, fun l hl => ?_⟩
    · rcases List.mem_or_eq_of_mem_set hl with k | k
      · exact old l k
      · rw [k]; exact k0.1
    · rcases List.mem_or_eq_of_mem_set hl with k | k
      · exact h.nd l k
      · rw [k]; exact k0.2

def wvT (Vr : Nat → Value) (ix : List (List Nat)) (U : Nat → Value) : Nat → RowD := fun i =>
  if i = 0 then ⟨54, 1, ix.length, (List.range ix.length).map fun j => U (1 + j)⟩ else ⟨34, 1, (ix.getD (i - 1) []).length, (ix.getD (i - 1) []).map Vr⟩
structure WvM (wA : World) (Q n : Nat) (Vr : Nat → Value) (wv : Nat → Nat) (U : Nat → Value) (ix : List (List Nat)) (wq : World) : Prop where
  fr : FrX (fun b => b = Q) wA wq
  hq : Q < wA.heap.size
  wv : wq.rowIs Q 3 n (fun x => .int .i64 (wv x : Int))
  pool : PoolD wq wA.heap.size (1 + ix.length) U (wvT Vr ix U)
section
variable {wA wq : World} {Q n : Nat} {Vr : Nat → Value} {wv : Nat → Nat} {U : Nat → Value} {ix : List (List Nat)}
theorem WvM.row0 (h : WvM wA Q n Vr wv U ix wq) : wq.ownsRow wA.heap.size 54 1 (U 0) ix.length ((List.range ix.length).map fun j => U (1 + j)) := h.pool.own 0 (by omega)
theorem WvM.row1 (h : WvM wA Q n Vr wv U ix wq) {W : Nat} {l : List Nat} (hW : ix[W]? = some l) : wq.ownsRow wA.heap.size 34 1 (U (1 + W)) l.length (l.map Vr) := by
  have hl := (List.getElem?_eq_some_iff.1 hW).1
  have h1 := h.pool.own (1 + W) (by omega)
  have e : wvT Vr ix U (1 + W) = ⟨34, 1, l.length, l.map Vr⟩ := by
    unfold wvT
    rw [if_neg (by omega), show 1 + W - 1 = W by omega, List.getD_eq_getElem?_getD, hW]; rfl
  rw [e] at h1
  exact h1
theorem WvM.setWave (h : WvM wA Q n Vr wv U ix wq) (f v : Nat) : WvM wA Q n Vr (updN wv f v) U ix (wq.setCell ⟨Q, f, none⟩ (.int .i64 (v : Int))) := by
  refine ⟨h.fr.setCell (p := ⟨Q, f, none⟩) (.inl rfl) _, h.hq, (h.wv.set f _).congr fun x _ => ?_, h.pool.go fun k hk _ => Below.heap_setCell _ _ _ _ (by have := h.hq; show k ≠ Q; omega)⟩
  by_cases e : x = f
  · subst e; simp [updN]
  · simp [updN, e]
/-- What a step of one row does to what is below. -/
theorem WvM.frame {w7 : World} {t : Nat} {v' : Value} (h : WvM wA Q n Vr wv U ix wq) (ht : t < 1 + ix.length) (hg : GroD wq w7 (U t) v') : FrX (fun b => b = Q) wA w7 ∧ w7.rowIs Q 3 n (fun x => .int .i64 (wv x : Int)) := by
  refine ⟨hg.fr h.fr fun g hg1 => .inr ((h.pool.own t ht).lt g hg1).1, h.wv.of_block (hg.block Q h.wv.lt fun e => ?_)⟩
  have := ((h.pool.own t ht).lt Q e).1
  have := h.hq
  omega
/-- One wave more, with nothing in it. -/
theorem WvM.more {w7 : World} {v' : Value} (h : WvM wA Q n Vr wv U ix wq) (hg : GroD wq w7 (U 0) v') (ho : w7.ownsRow wA.heap.size 54 1 v' (ix.length + 1) ((List.range ix.length).map (fun j => U (1 + j)) ++ [.slice none 0 0])) :
    WvM wA Q n Vr wv (updF (updF U 0 v') (1 + ix.length) (.slice none 0 0)) (ix ++ [[]]) w7 := by
  obtain ⟨h1, h2⟩ := h.frame (by omega) hg
  have hp := (h.pool.gro (t := 0) (by omega) hg (r := ⟨54, 1, ix.length + 1, (List.range ix.length).map (fun j => U (1 + j)) ++ [Value.slice none 0 0]⟩) ho).more 34 1
  refine ⟨h1, h.hq, h2, ?_⟩
  have hl : (ix ++ [[]]).length = ix.length + 1 := by simp
  rw [hl, ← Nat.add_assoc]
  refine hp.congr (fun _ _ => rfl) fun i hi => ?_
  unfold wvT
  by_cases e0 : i = 0
  · subst e0
    rw [updF_else _ _ (by omega), updF_here, if_pos rfl, hl]
    congr 1
    rw [List.range_succ, List.map_append]
    congr 1
    · refine List.map_congr_left fun j hj => ?_
      have := List.mem_range.1 hj
      rw [updF_else _ _ (by omega), updF_else _ _ (by omega)]
    · simp [updF_here]
  · rw [if_neg e0]
    by_cases e1 : i = 1 + ix.length
    · subst e1
      rw [updF_here, show 1 + ix.length - 1 = ix.length by omega, List.getD_eq_getElem?_getD, List.getElem?_append_right (Nat.le_refl _)]
      simp
    · rw [updF_else _ _ e1, updF_else _ _ e0, if_neg e0]
      have : (ix ++ [[]]).getD (i - 1) [] = ix.getD (i - 1) [] := by
        rw [List.getD_eq_getElem?_getD, List.getD_eq_getElem?_getD, List.getElem?_append_left (by omega)]
      rw [this]
/-- A wave's row has turned; its place in the row of waves, too. -/
theorem WvM.turn {w7 : World} {v' : Value} {W gw capw : Nat} {l : List Nat} (h : WvM wA Q n Vr wv U ix wq) (hW : W < ix.length) (hg : GroD wq w7 (U (1 + W)) v') (ho : w7.ownsRow wA.heap.size 34 1 v' l.length (l.map Vr)) (h0 : U 0 = .slice (some ⟨gw, 0, none⟩) ix.length capw) :
    WvM wA Q n Vr wv (updF U (1 + W) v') (ix.set W l) (w7.setCell ⟨gw, W, none⟩ v') := by
  obtain ⟨h1, h2⟩ := h.frame (by omega) hg
  have hp := h.pool.gro (t := 1 + W) (by omega) hg (r := ⟨34, 1, l.length, l.map Vr⟩) ho
  have e0 : updF U (1 + W) v' 0 = U 0 := updF_else _ _ (by omega)
  have et : updF (wvT Vr ix U) (1 + W) (⟨34, 1, l.length, l.map Vr⟩ : RowD) 0 = ⟨54, 1, ix.length, (List.range ix.length).map fun j => U (1 + j)⟩ := by rw [updF_else _ _ (by omega)]; rfl
  have hr0 : w7.ownsRow wA.heap.size 54 1 (U 0) ix.length ((List.range ix.length).map fun j => U (1 + j)) := by
    have h3 := hp.own 0 (by omega)
    rw [e0, et] at h3
    exact h3
  rw [h0] at hr0
  have hgw := (hr0.lt gw rfl).1
  have hst := (hr0.stored W v').1
  have hgs : GroD w7 (w7.setCell ⟨gw, W, none⟩ v') (updF U (1 + W) v' 0) (U 0) := by rw [e0, h0]; exact groD_store w7 v'
  have hp2 := hp.gro (t := 0) (by omega) hgs (r := ⟨54, 1, ix.length, ((List.range ix.length).map fun j => U (1 + j)).set W v'⟩) (by rw [h0]; exact hst)
  have hQ := h.hq
  refine ⟨h1.setCell (p := ⟨gw, W, none⟩) (.inr hgw) _, h.hq, h2.of_block (Below.heap_setCell _ _ _ _ (by show Q ≠ gw; omega)), ?_⟩
  rw [List.length_set]
  refine hp2.congr (fun i _ => ?_) fun i hi => ?_
  · by_cases e : i = 0
    · rw [e, updF_here, e0]
    · rw [updF_else _ _ e]
  · unfold wvT
    by_cases ei : i = 0
    · subst ei
      rw [updF_here, if_pos rfl, List.length_set]
      congr 1
      apply List.ext_getElem?
      intro j
      by_cases hj : j < ix.length
      · by_cases e : j = W
        · subst e; simp [hj, updF]
        · rw [List.getElem?_set_ne (Ne.symm e)]
          simp only [List.getElem?_map, List.getElem?_range hj, Option.map_some]
          rw [updF_else _ _ (by omega)]
      · rw [List.getElem?_eq_none (by simp; omega), List.getElem?_eq_none (by simp; omega)]
    · rw [if_neg ei, updF_else _ _ ei]
      by_cases e : i = 1 + W
      · subst e
        rw [updF_here, show 1 + W - 1 = W by omega, List.getD_eq_getElem?_getD, List.getElem?_set_self hW]
        rfl
      · rw [updF_else _ _ e, if_neg ei]
        have : (ix.set W l).getD (i - 1) [] = ix.getD (i - 1) [] := by
          rw [List.getD_eq_getElem?_getD, List.getD_eq_getElem?_getD, List.getElem?_set_ne (by omega)]
        rw [this]
/-- A wave's row was put in order. -/
theorem WvM.sorted {w7 : World} {W : Nat} {l : List Nat} (h : WvM wA Q n Vr wv U ix wq) (hW : W < ix.length) (hg : GroD wq w7 (U (1 + W)) (U (1 + W))) (ho : w7.ownsRow wA.heap.size 34 1 (U (1 + W)) l.length (l.map Vr)) :
    WvM wA Q n Vr wv U (ix.set W l) w7 := by
  obtain ⟨h1, h2⟩ := h.frame (by omega) hg
  have hp := h.pool.gro (t := 1 + W) (by omega) hg (r := ⟨34, 1, l.length, l.map Vr⟩) ho
  refine ⟨h1, h.hq, h2, ?_⟩
  rw [List.length_set]
  refine hp.congr (fun i _ => ?_) fun i hi => ?_
  · by_cases e : i = 1 + W
    · rw [e, updF_here]
    · rw [updF_else _ _ e]
  · unfold wvT
    by_cases e : i = 1 + W
    · subst e
      rw [updF_here, if_neg (by omega), show 1 + W - 1 = W by omega, List.getD_eq_getElem?_getD, List.getElem?_set_self hW]
      rfl
    · rw [updF_else _ _ e, List.length_set]
      by_cases ei : i = 0
      · rw [if_pos ei, if_pos ei]
      · rw [if_neg ei, if_neg ei]
        have : (ix.set W l).getD (i - 1) [] = ix.getD (i - 1) [] := by
          rw [List.getD_eq_getElem?_getD, List.getD_eq_getElem?_getD, List.getElem?_set_ne (by omega)]
        rw [this]
end
end Go.Proofs.Ytdfiflbkamhchaa
