/- Mathematics of a deque: an operation that is done to its end, with nothing done in between. -/
import Derived.Test.YtacadgocoleaoaaDqLJ
import Derived.Test.YtacadgocoleaoaaOpenDJ
namespace Go.Proofs.Ytacadgocoleaoaa
set_option linter.unusedVariables false

/-- It is done with just the k-th step. -/
def Ends : Nat → DqS → OpS → DqS → OpS → Prop
  | 0, _, _, _, _ => False
  | k + 1, s, o, s', o' => (k = 0 ∧ (stepD s o).2.got ≠ 0 ∧ stepD s o = (s', o')) ∨ ((stepD s o).2.got = 0 ∧ Ends k (stepD s o).1 (stepD s o).2 s' o')
/-- How the owner's operation ends. -/
inductive OwnFin (inn : List Int) (o : OpS) (s' : DqS) (o' : OpS) : Prop
  | put {B SB : Int} (hk : o.kind = 1) (hg : o'.got = 1) (hx : o'.x = o.x) (hl : inn.length < 64) (h : Own s' none (inn ++ [o.x]) B SB)
  | full {B SB : Int} (hk : o.kind = 1) (hg : o'.got = 3) (hl : inn.length = 64) (h : Own s' none inn B SB)
  | take {B SB : Int} {r : List Int} (hk : o.kind = 2) (hg : o'.got = 1) (e : inn = r ++ [o'.x]) (h : Own s' none r B SB)
  | none_ {B SB : Int} (hk : o.kind = 2) (hg : o'.got = 2) (e : inn = []) (h : Own s' none inn B SB)
theorem push_x {s : DqS} {o : OpS} (hk : o.kind = 1) : (stepD s o).2.x = o.x := by
  unfold stepD
  rw [if_pos hk]
  unfold stepPush
  repeat (first | rfl | split)
theorem own_run : ∀ (m : Nat) {s : DqS} {inn : List Int} {B SB : Int} {o : OpS}, Own s (some o) inn B SB → 5 - o.next ≤ m → ∃ k s' o', 1 ≤ k ∧ k ≤ m ∧ Ends k s o s' o' ∧ OwnFin inn o s' o' ∧ o'.kind = o.kind := by
  intro m
  induction m with
  | zero =>
    intro s inn B SB o h hm
    rcases h.kind with q | q <;> omega
  | succ m ih =>
    intro s inn B SB o h hm
    have hin : OpIn o := ⟨h.got, by rcases h.kind with q | q; exact .inl q; exact .inr (.inl q)⟩
    obtain ⟨hnx, hkd⟩ := step_next s hin
    have hst := own_step h
    cases hst with
    | on hg hO hT =>
      obtain ⟨k, s', o', k1, k2, hE, hF, hk⟩ := ih hO (by rw [hnx]; omega)
      refine ⟨k + 1, s', o', by omega, by omega, .inr ⟨hg, hE⟩, ?_, hk.trans hkd⟩
      cases hF with
      | put a b c d e => exact .put (hkd ▸ a) b (by rw [c, push_x (hkd ▸ a)]) d (by rw [push_x (hkd ▸ a)] at e; exact e)
      | full a b c d => exact .full (hkd ▸ a) b c d
      | take a b c d => exact .take (hkd ▸ a) b c d
      | none_ a b c d => exact .none_ (hkd ▸ a) b c d
    | put hk hg hx hl hO hT => exact ⟨1, _, _, by omega, by omega, .inl ⟨rfl, by rw [hg]; decide, rfl⟩, .put hk hg hx hl (by rw [hx] at hO; exact hO), hkd⟩
    | full hk hg hl hO hT => exact ⟨1, _, _, by omega, by omega, .inl ⟨rfl, by rw [hg]; decide, rfl⟩, .full hk hg hl hO, hkd⟩
    | take hk hg e hO hT => exact ⟨1, _, _, by omega, by omega, .inl ⟨rfl, by rw [hg]; decide, rfl⟩, .take hk hg e hO, hkd⟩
    | none_ hk hg e hO hT => exact ⟨1, _, _, by omega, by omega, .inl ⟨rfl, by rw [hg]; decide, rfl⟩, .none_ hk hg e hO, hkd⟩
/-- A Push alone. -/
theorem push_alone {s : DqS} {inn : List Int} {B SB : Int} (h : Own s none inn B SB) (v : Int) : ∃ k s' o', 1 ≤ k ∧ k ≤ 5 ∧ Ends k s (opB 1 v) s' o' ∧
    ((inn.length < 64 ∧ o'.got = 1 ∧ o'.x = v ∧ ∃ B' SB', Own s' none (inn ++ [v]) B' SB') ∨ (inn.length = 64 ∧ o'.got = 3 ∧ ∃ B' SB', Own s' none inn B' SB')) := by
  obtain ⟨k, s', o', k1, k2, hE, hF, -⟩ := own_run 5 (own_begin h 1 (.inl rfl) v) (by show 5 - 0 ≤ 5; omega)
  refine ⟨k, s', o', k1, k2, hE, ?_⟩
  cases hF with
  | put a b c d e => exact .inl ⟨d, b, c, _, _, e⟩
  | full a b c d => exact .inr ⟨c, b, _, _, d⟩
  | take a => exact absurd a (by show ¬ (1 : Nat) = 2; decide)
  | none_ a => exact absurd a (by show ¬ (1 : Nat) = 2; decide)
/-- A Pop alone. -/
theorem pop_alone {s : DqS} {inn : List Int} {B SB : Int} (h : Own s none inn B SB) : ∃ k s' o', 1 ≤ k ∧ k ≤ 5 ∧ Ends k s (opB 2 0) s' o' ∧
    ((∃ r, inn = r ++ [o'.x] ∧ o'.got = 1 ∧ ∃ B' SB', Own s' none r B' SB') ∨ (inn = [] ∧ o'.got = 2 ∧ ∃ B' SB', Own s' none inn B' SB')) := by
  obtain ⟨k, s', o', k1, k2, hE, hF, -⟩ := own_run 5 (own_begin h 2 (.inr rfl) 0) (by show 5 - 0 ≤ 5; omega)
  refine ⟨k, s', o', k1, k2, hE, ?_⟩
  cases hF with
  | put a => exact absurd a (by show ¬ (2 : Nat) = 1; decide)
  | full a => exact absurd a (by show ¬ (2 : Nat) = 1; decide)
  | take a b c d => exact .inl ⟨_, c, b, _, _, d⟩
  | none_ a b c d => exact .inr ⟨c, b, _, _, d⟩
/-- A Steal alone. -/
theorem steal_alone {s : DqS} {inn : List Int} {B SB : Int} (h : Own s none inn B SB) : ∃ k s' o', 1 ≤ k ∧ k ≤ 5 ∧ Ends k s (opB 3 0) s' o' ∧
    ((∃ r, inn = o'.x :: r ∧ o'.got = 1 ∧ ∃ B' SB', Own s' none r B' SB') ∨ (inn = [] ∧ o'.got = 2 ∧ ∃ B' SB', Own s' none inn B' SB')) := by
  obtain ⟨rfl, rfl, h0, h1, h2, hn⟩ := own_idle h
  have hl := hn.len
  have e1 : stepD s (opB 3 0) = (s, ⟨3, 1, 0, s.top, 0, 0, false⟩) := rfl
  by_cases hlt : s.top < s.bot
  · have e2 : stepD s ⟨3, 1, 0, s.top, 0, 0, false⟩ = (s, ⟨3, 2, s.bot, s.top, 0, 0, false⟩) := by
      show (s, (⟨3, 2, s.bot, s.top, 0, if s.bot ≤ s.top then 2 else 0, false⟩ : OpS)) = _
      rw [if_neg (by omega)]
    have e3 : stepD s ⟨3, 2, s.bot, s.top, 0, 0, false⟩ = (s, ⟨3, 3, s.bot, s.top, s.cells (cellI s.top), 0, false⟩) := rfl
    have e4 : stepD s ⟨3, 3, s.bot, s.top, s.cells (cellI s.top), 0, false⟩ = ({ s with top := s.top + 1 }, ⟨3, 4, s.bot, s.top, s.cells (cellI s.top), 1, false⟩) := by
      show (if s.top = s.top then _ else _) = _
      rw [if_pos rfl]
    obtain ⟨r, e, hO⟩ := h.taken hlt
    refine ⟨4, { s with top := s.top + 1 }, ⟨3, 4, s.bot, s.top, s.cells (cellI s.top), 1, false⟩, by omega, by omega, .inr ⟨by rw [e1], ?_⟩, .inl ⟨r, e, rfl, _, _, hO⟩⟩
    rw [e1]
    refine .inr ⟨by rw [e2], ?_⟩
    rw [e2]
    refine .inr ⟨by rw [e3], ?_⟩
    rw [e3]
    exact .inl ⟨rfl, by rw [e4]; exact Nat.one_ne_zero, e4⟩
  · have hi : inn = [] := List.eq_nil_of_length_eq_zero (by omega)
    have e2 : stepD s ⟨3, 1, 0, s.top, 0, 0, false⟩ = (s, ⟨3, 2, s.bot, s.top, 0, 2, false⟩) := by
      show (s, (⟨3, 2, s.bot, s.top, 0, if s.bot ≤ s.top then 2 else 0, false⟩ : OpS)) = _
      rw [if_pos (by omega)]
    refine ⟨2, s, ⟨3, 2, s.bot, s.top, 0, 2, false⟩, by omega, by omega, .inr ⟨by rw [e1], ?_⟩, .inr ⟨hi, rfl, _, _, h⟩⟩
    rw [e1]
    exact .inl ⟨rfl, by rw [e2]; exact (by decide : (2 : Nat) ≠ 0), e2⟩
/-- How many steps there are left, at most. -/
def restO (o : OpS) : Nat := 5 - o.next
def restL (l : List OpS) : Nat := (l.map restO).sum
theorem rest_set {l : List OpS} {n : Nat} {o o' : OpS} (h : l[n]? = some o) (hr : restO o' + 1 ≤ restO o) : restL (l.set n o') + 1 ≤ restL l := by
  obtain ⟨hn, rfl⟩ := List.getElem?_eq_some_iff.1 h
  have e1 : l.set n o' = l.take n ++ o' :: l.drop (n + 1) := List.set_eq_take_append_cons_drop.trans (if_pos hn)
  have e2 : l = l.take n ++ l[n] :: l.drop (n + 1) := by rw [List.getElem_cons_drop, List.take_append_drop]
  unfold restL
  rw [e1]
  conv => rhs; rw [e2]
  simp only [List.map_append, List.map_cons, List.sum_append, List.sum_cons]
  omega
theorem rest_erase {l : List OpS} {n : Nat} {o : OpS} (h : l[n]? = some o) (hr : 1 ≤ restO o) : restL (l.eraseIdx n) + 1 ≤ restL l := by
  obtain ⟨hn, rfl⟩ := List.getElem?_eq_some_iff.1 h
  have e1 : l.eraseIdx n = l.take n ++ l.drop (n + 1) := List.eraseIdx_eq_take_drop_succ l n
  have e2 : l = l.take n ++ l[n] :: l.drop (n + 1) := by rw [List.getElem_cons_drop, List.take_append_drop]
  unfold restL
  rw [e1]
  conv => rhs; rw [e2]
  simp only [List.map_append, List.map_cons, List.sum_append, List.sum_cons]
  omega
theorem rest_le (l : List OpS) : restL l ≤ 5 * l.length := by
  unfold restL
  induction l with
  | nil => simp
  | cons a r ih =>
    simp only [List.map_cons, List.sum_cons, List.length_cons]
    have : restO a ≤ 5 := by unfold restO; omega
    omega
end Go.Proofs.Ytacadgocoleaoaa

/- Mathematics of a deque: operations under way of whatever numbers; what one of them may rely on at its next step; how far all of it may have come. -/
namespace Go.Proofs.Ytacadgocoleaoaa
set_option linter.unusedVariables false

/-- The operations that are under way: at most one of them is the owner's. -/
def DP (s : DqS) (l : List OpS) : Prop := ∃ (w : Option Nat) (inn : List Int) (B SB : Int), Own s (w.bind (l[·]?)) inn B SB ∧ (∀ k, w = some k → k < l.length) ∧ ∀ n o, l[n]? = some o → w ≠ some n → Th s SB o
/-- One that may go its next step. -/
inductive Al (s : DqS) (o : OpS) : Prop
  | own {inn : List Int} {B SB : Int} (h : Own s (some o) inn B SB) : Al s o
  | th {ow : Option OpS} {inn : List Int} {B SB : Int} (h : Own s ow inn B SB) (ht : Th s SB o) : Al s o
theorem Al.in_ {s : DqS} {o : OpS} (h : Al s o) : OpIn o := by
  cases h with
  | own h =>
    refine ⟨h.got, ?_⟩
    rcases h.kind with q | q
    · exact .inl q
    · exact .inr (.inl q)
  | th h ht => exact ⟨ht.got, .inr (.inr ⟨ht.kind, ht.nx⟩)⟩
theorem DP.al {s : DqS} {l : List OpS} (h : DP s l) {n : Nat} {o : OpS} (hn : l[n]? = some o) : Al s o := by
  obtain ⟨w, inn, B, SB, h1, h2, h3⟩ := h
  by_cases c : w = some n
  · subst c
    have e : (some n).bind (l[·]?) = some o := hn
    rw [e] at h1
    exact .own h1
  · exact .th h1 (h3 n o hn c)
/-- How far all may have come. -/
structure BdS (s : DqS) (i : Int) : Prop where
  b0 : -1 ≤ s.bot
  b1 : s.bot ≤ i
  t0 : 0 ≤ s.top
  t1 : s.top ≤ i
structure BdO (o : OpS) (i : Int) : Prop where
  b0 : -1 ≤ o.b
  b1 : o.b ≤ i
  t0 : 0 ≤ o.t
  t1 : o.t ≤ i
theorem BdS.more {s : DqS} {i j : Int} (h : BdS s i) (hij : i ≤ j) : BdS s j := by
  obtain ⟨a, b, c, d⟩ := h
  exact ⟨a, by omega, c, by omega⟩
theorem BdO.more {o : OpS} {i j : Int} (h : BdO o i) (hij : i ≤ j) : BdO o j := by
  obtain ⟨a, b, c, d⟩ := h
  exact ⟨a, by omega, c, by omega⟩
theorem bdO_new (k : Nat) (x i : Int) (h : 0 ≤ i) : BdO (opB k x) i := ⟨by show (-1 : Int) ≤ 0; omega, h, Int.le_refl _, h⟩
/-- What the next step leans on. -/
structure Safe (s : DqS) (o : OpS) : Prop where
  in_ : OpIn o
  full : o.kind = 1 → o.next = 1 → o.b - s.top ≤ 64
  cell : o.kind = 1 → o.next = 2 → 0 ≤ o.b
  low : o.kind = 2 → o.next = 0 → 0 ≤ s.bot
theorem Al.safe {s : DqS} {o : OpS} (h : Al s o) : Safe s o := by
  refine ⟨h.in_, ?_, ?_, ?_⟩
  all_goals
    cases h with
    | own h => intro hk hx; cases h <;> first | omega | (rename_i h1 h2 hn hb ht hc; have := hb (by omega); omega)
    | th h ht => intro hk hx; have := ht.kind; omega
theorem bd_step {s : DqS} {o : OpS} {i : Int} (h : BdS s i) (ho : BdO o i) (hs : Safe s o) : BdS (stepD s o).1 (i + 1) ∧ BdO (stepD s o).2 (i + 1) := by
  obtain ⟨a, b, c, d⟩ := h
  obtain ⟨e, f, g, j⟩ := ho
  obtain ⟨hin, -, -, hl⟩ := hs
  unfold stepD
  by_cases k1 : o.kind = 1
  · rw [if_pos k1]
    unfold stepPush
    repeat' split
    all_goals exact ⟨⟨by dsimp only; omega, by dsimp only; omega, by dsimp only; omega, by dsimp only; omega⟩, ⟨by dsimp only; omega, by dsimp only; omega, by dsimp only; omega, by dsimp only; omega⟩⟩
  · rw [if_neg k1]
    by_cases k2 : o.kind = 2
    · rw [if_pos k2]
      have hl := hl k2
      unfold stepPop
      repeat' split
      all_goals exact ⟨⟨by dsimp only; omega, by dsimp only; omega, by dsimp only; omega, by dsimp only; omega⟩, ⟨by dsimp only; omega, by dsimp only; omega, by dsimp only; omega, by dsimp only; omega⟩⟩
    · rw [if_neg k2]
      unfold stepSteal
      repeat' split
      all_goals exact ⟨⟨by dsimp only; omega, by dsimp only; omega, by dsimp only; omega, by dsimp only; omega⟩, ⟨by dsimp only; omega, by dsimp only; omega, by dsimp only; omega, by dsimp only; omega⟩⟩
theorem Al.step {s : DqS} {o : OpS} (h : Al s o) (hg : (stepD s o).2.got = 0) : Al (stepD s o).1 (stepD s o).2 := by
  cases h with
  | own h =>
    have hst := own_step h
    cases hst with
    | on hg hO hT => exact .own hO
    | put hk hg' => omega
    | full hk hg' => omega
    | take hk hg' => omega
    | none_ hk hg' => omega
  | th h ht =>
    rcases steal_step h ht with ⟨hg', -⟩ | ⟨-, e, hT⟩
    · omega
    · rw [e]; exact .th h (hT hg)
theorem DP.start (c : Nat → Int) : DP ⟨c, 0, 0⟩ [] :=
  ⟨none, [], _, _, Own.idle (Int.le_refl _) (Int.le_refl _) (by show (0 : Int) - 0 ≤ 64; omega) ⟨rfl, fun k x h => (by cases h)⟩, fun k h => (by cases h), fun n o h => (by cases h)⟩
theorem DP.steal {s : DqS} {l : List OpS} (h : DP s l) : DP s (l ++ [opB 3 0]) := by
  obtain ⟨w, inn, B, SB, h1, h2, h3⟩ := h
  refine ⟨w, inn, B, SB, ?_, fun k e => by have := h2 k e; rw [List.length_append]; omega, fun n o hn hw => ?_⟩
  · cases w with
    | none => exact h1
    | some k =>
      show Own s (l ++ [opB 3 0])[k]? inn B SB
      rw [List.getElem?_append_left (h2 k rfl)]
      exact h1
  · by_cases c : n < l.length
    · rw [List.getElem?_append_left c] at hn
      exact h3 n o hn hw
    · rw [List.getElem?_append_right (by omega)] at hn
      have := List.mem_of_getElem? hn
      rw [List.mem_singleton.1 this]
      exact th_new
theorem DP.begin_ {s : DqS} {l : List OpS} (h : DP s l) (hf : FreeL l) (k : Nat) (hk : k = 1 ∨ k = 2) (x : Int) : DP s (l ++ [opB k x]) := by
  obtain ⟨w, inn, B, SB, h1, h2, h3⟩ := h
  have hw : w = none := by
    cases w with
    | none => rfl
    | some k =>
      have hk2 := h2 k rfl
      have e : (some k).bind (l[·]?) = some l[k] := List.getElem?_eq_getElem hk2
      rw [e] at h1
      have := hf _ (List.getElem_mem hk2)
      rcases h1.kind with q | q <;> omega
  subst hw
  refine ⟨some l.length, inn, B, SB, ?_, fun k e => by injection e with e; rw [List.length_append, ← e]; simp, fun n o hn hw => ?_⟩
  · show Own s (l ++ [opB k x])[l.length]? inn B SB
    rw [List.getElem?_append_right (Nat.le_refl _), Nat.sub_self]
    exact own_begin h1 k hk x
  · by_cases c : n < l.length
    · rw [List.getElem?_append_left c] at hn
      exact h3 n o hn (by simp)
    · obtain ⟨c2, -⟩ := List.getElem?_eq_some_iff.1 hn
      rw [List.length_append] at c2
      exact absurd (by rw [show l.length = n by simp at c2; omega]) hw
/-- A step of the n-th one. -/
theorem DP.step {s : DqS} {l : List OpS} {n : Nat} {o : OpS} (h : DP s l) (hn : l[n]? = some o) :
    ((stepD s o).2.got = 0 → DP (stepD s o).1 (l.set n (stepD s o).2)) ∧ ((stepD s o).2.got ≠ 0 → DP (stepD s o).1 (l.eraseIdx n)) := by
  obtain ⟨w, inn, B, SB, h1, h2, h3⟩ := h
  obtain ⟨hnl, hno⟩ := List.getElem?_eq_some_iff.1 hn
  generalize hq : stepD s o = q at *
  obtain ⟨s', o'⟩ := q
  dsimp only
  by_cases c : w = some n
  · subst c
    have e : (some n).bind (l[·]?) = some o := hn
    rw [e] at h1
    have hst := own_step h1
    rw [hq] at hst
    have hend : ∀ {inn' : List Int} {B' SB' : Int}, Own s' none inn' B' SB' → (∀ p, Th s SB p → Th s' SB' p) → DP s' (l.eraseIdx n) := fun {inn' B' SB'} hO hT => by
      refine ⟨none, inn', B', SB', hO, fun k q => (by cases q), fun m p hm _ => ?_⟩
      rw [List.getElem?_eraseIdx] at hm
      split at hm
      · exact hT p (h3 m p hm (by simp; omega))
      · exact hT p (h3 (m + 1) p hm (by simp; omega))
    cases hst with
    | @on B' SB' hg hO hT =>
      refine ⟨fun _ => ⟨some n, inn, B', SB', ?_, fun k q => by rw [List.length_set]; exact h2 k q, fun m p hm hw => ?_⟩, fun q => absurd hg q⟩
      · show Own s' (l.set n o')[n]? inn B' SB'
        rw [List.getElem?_set_self hnl]
        exact hO
      · have hne : n ≠ m := fun q => hw (by rw [q])
        rw [List.getElem?_set_ne hne] at hm
        exact hT p (h3 m p hm hw)
    | put hk hg hx hl hO hT => exact ⟨fun q => by have hg : o'.got = 1 := hg; omega, fun _ => hend hO hT⟩
    | full hk hg hl hO hT => exact ⟨fun q => by have hg : o'.got = 3 := hg; omega, fun _ => hend hO hT⟩
    | take hk hg e hO hT => exact ⟨fun q => by have hg : o'.got = 1 := hg; omega, fun _ => hend hO hT⟩
    | none_ hk hg e hO hT => exact ⟨fun q => by have hg : o'.got = 2 := hg; omega, fun _ => hend hO hT⟩
  · have hth := h3 n o hn c
    have hst := steal_step h1 hth
    rw [hq] at hst
    have hkd : o'.kind = 3 := by
      have := (step_next s (o := o) ⟨hth.got, .inr (.inr ⟨hth.kind, hth.nx⟩)⟩).2
      rw [hq] at this
      exact this.trans hth.kind
    -- whose the owner's is, behind it
    have hback : ∀ {inn' : List Int}, Own s' (w.bind (l[·]?)) inn' B SB → (∀ p, Th s SB p → Th s' SB p) → DP s' (l.eraseIdx n) := fun {inn'} hO hT => by
      cases w with
      | none =>
        refine ⟨none, inn', B, SB, hO, fun k q => (by cases q), fun m p hm _ => ?_⟩
        rw [List.getElem?_eraseIdx] at hm
        split at hm
        · exact hT p (h3 m p hm (by simp))
        · exact hT p (h3 (m + 1) p hm (by simp))
      | some k =>
        have hk := h2 k rfl
        have hkn : k ≠ n := fun q => c (by rw [q])
        refine ⟨some (if k < n then k else k - 1), inn', B, SB, ?_, fun j q => ?_, fun m p hm hw => ?_⟩
        · show Own s' (l.eraseIdx n)[if k < n then k else k - 1]? inn' B SB
          have hO : Own s' l[k]? inn' B SB := hO
          rw [List.getElem?_eraseIdx]
          by_cases d : k < n
          · rw [if_pos d, if_pos d]; exact hO
          · rw [if_neg d, if_neg (by omega), show k - 1 + 1 = k by omega]; exact hO
        · injection q with q
          rw [List.length_eraseIdx, if_pos hnl, ← q]
          split <;> omega
        · rw [List.getElem?_eraseIdx] at hm
          have hw : (if k < n then k else k - 1) ≠ m := fun q => hw (by rw [q])
          split at hm
          · exact hT p (h3 m p hm (fun q => by injection q with q; apply hw; rw [if_pos (by omega)]; exact q))
          · exact hT p (h3 (m + 1) p hm (fun q => by injection q with q; apply hw; rw [if_neg (by omega)]; omega))
    rcases hst with ⟨hg, r, e, hO, hT⟩ | ⟨hg, e, hT⟩
    · dsimp only at hg e hO hT
      exact ⟨fun q => by omega, fun _ => hback hO hT⟩
    · dsimp only at hg e hT
      subst e
      refine ⟨fun q => ⟨w, inn, B, SB, ?_, fun k e => by rw [List.length_set]; exact h2 k e, fun m p hm hw => ?_⟩, fun _ => hback h1 (fun p q => q)⟩
      · cases w with
        | none => exact h1
        | some k =>
          have hkn : n ≠ k := fun q => c (by rw [q])
          show Own s' (l.set n o')[k]? inn B SB
          rw [List.getElem?_set_ne hkn]
          exact h1
      · by_cases d : n = m
        · subst d
          rw [List.getElem?_set_self hnl] at hm
          rw [← Option.some.inj hm]
          exact hT q
        · rw [List.getElem?_set_ne d] at hm
          exact h3 m p hm hw
/-- A Pop is begun: its number doesn't matter. -/
theorem DQ.begin_pop {s : DqS} {l : List OpS} {inn : List Int} {i : Nat} (h : DQ s l inn i) (hf : FreeL l) : DQ s (l ++ [opB 2 0]) inn i := by
  obtain ⟨B, SB, h1, h2⟩ := h.free_idle hf
  exact ⟨.inr ⟨l, opB 2 0, [], B, SB, rfl, own_begin h1 2 (.inr rfl) _, h2, (fun p hp => by cases hp), fun q => by have q : (2 : Nat) = 1 := q; omega⟩, h.inc, h.lt⟩
theorem DQ.al {s : DqS} {l : List OpS} {inn : List Int} {i : Nat} (h : DQ s l inn i) {o : OpS} (ho : o ∈ l) : Al s o := by
  rcases h.ex with ⟨B, SB, h1, h2⟩ | ⟨l1, p, l2, B, SB, rfl, h1, h2, h3, -⟩
  · exact .th h1 (h2 o ho)
  · rcases List.mem_append.1 ho with ho | ho
    · exact .th h1 (h2 o ho)
    · rcases List.mem_cons.1 ho with rfl | ho
      · exact .own h1
      · exact .th h1 (h3 o ho)
end Go.Proofs.Ytacadgocoleaoaa

/- The blocks ahead of one, as a list: plain mathematics. -/
namespace Go.Proofs.Ytacadgocoleaoaa
open Go.ChangeShapes Go.WideShapes Go.RowKit Go.Deep
set_option linter.unusedVariables false

theorem Try.info3 : (Try.prog.info? 3).map (fun i => (i.zero, i.size, i.bytes)) = some (some (.int .i64 0), 1, 8) := by kernel_rfl

def hasTo (block : Int) (to : List Int) : Bool := to.any (· == block)
def aheadK : List BlkD → Nat → Int → List Int
  | [], _, _ => []
  | b :: r, i, block => (if hasTo block b.term.to then [(i : Int)] else []) ++ aheadK r (i + 1) block
/-- The blocks ahead of one. -/
def aheadL (bs : List BlkD) (block : Int) : List Int := aheadK bs 0 block

theorem aheadK_snoc (bs : List BlkD) (i : Nat) (block : Int) (x : BlkD) : aheadK (bs ++ [x]) i block = aheadK bs i block ++ (if hasTo block x.term.to then [((i + bs.length : Nat) : Int)] else []) := by
  induction bs generalizing i with
  | nil => simp [aheadK]
  | cons b r ih => simp only [List.cons_append, aheadK, ih, List.append_assoc, List.length_cons]; congr 3; simp; omega
theorem aheadL_step {bs : List BlkD} {k : Nat} {x : BlkD} (block : Int) (h : bs[k]? = some x) : aheadL (bs.take (k + 1)) block = aheadL (bs.take k) block ++ (if hasTo block x.term.to then [(k : Int)] else []) := by
  have hk : k < bs.length := (List.getElem?_eq_some_iff.1 h).1
  rw [aheadL, take_succ_of h, aheadK_snoc, List.length_take, Nat.min_eq_left (by omega), Nat.zero_add]; rfl
theorem aheadK_len (bs : List BlkD) (i : Nat) (block : Int) : (aheadK bs i block).length ≤ bs.length := by
  induction bs generalizing i with
  | nil => simp [aheadK]
  | cons b r ih => simp only [aheadK, List.length_append, List.length_cons]; have := ih (i + 1); split <;> simp <;> omega
theorem aheadK_mem (bs : List BlkD) (i : Nat) (block : Int) : ∀ x ∈ aheadK bs i block, (i : Int) ≤ x ∧ x < ((i + bs.length : Nat) : Int) := by
  induction bs generalizing i with
  | nil => simp [aheadK]
  | cons b r ih =>
    intro x hx
    simp only [aheadK, List.mem_append] at hx
    rcases hx with hx | hx
    · split at hx <;> simp at hx; subst hx; simp; omega
    · have := ih (i + 1) x hx; simp at this ⊢; omega
theorem aheadL_i64 (bs : List BlkD) (block : Int) (h : bs.length ≤ 9223372036854775807) : ∀ x ∈ aheadL bs block, I64 x := by
  intro x hx
  have := aheadK_mem bs 0 block x hx
  simp at this
  unfold I64; omega
theorem hasTo_step (block : Int) {t : List Int} {j : Nat} {x : Int} (h : t[j]? = some x) : hasTo block (t.take (j + 1)) = (hasTo block (t.take j) || (x == block)) := by
  rw [take_succ_of h]; simp [hasTo]
end Go.Proofs.Ytacadgocoleaoaa
