/- Mathematics of a deque: the document's steps; what holds between any two of them. -/
import Derived.Test.YtacadgocoleaoaaOpenDJ
namespace Go.Proofs.Ytacadgocoleaoaa
set_option linter.unusedVariables false

structure DqS where
  cells : Nat → Int
  top : Int
  bot : Int
/-- An operation: kind 1 is Push, 2 Pop, 3 Steal; how many steps it has done; how it ended. -/
structure OpS where
  kind : Nat
  next : Nat
  b : Int
  t : Int
  x : Int
  got : Nat
  won : Bool
def cellI (n : Int) : Nat := (n % 64).toNat
theorem cellI_lt (n : Int) : cellI n < 64 := by
  unfold cellI
  have := Int.emod_lt_of_pos n (b := 64) (by omega)
  omega
theorem cellI_ne {a b : Int} (h1 : a < b) (h2 : b < a + 64) : cellI a ≠ cellI b := by
  unfold cellI
  have := Int.emod_nonneg a (b := 64) (by omega)
  have := Int.emod_nonneg b (b := 64) (by omega)
  omega
def setC (f : Nat → Int) (i : Nat) (v : Int) : Nat → Int := fun j => if j = i then v else f j
theorem setC_same (f : Nat → Int) (i : Nat) (v : Int) : setC f i v i = v := by unfold setC; rw [if_pos rfl]
theorem setC_ne (f : Nat → Int) {i j : Nat} (v : Int) (h : j ≠ i) : setC f i v j = f j := by unfold setC; rw [if_neg h]
def stepPush (s : DqS) (o : OpS) : DqS × OpS :=
  if o.next = 0 then (s, { o with next := 1, b := s.bot })
  else if o.next = 1 then (s, { o with next := 2, t := s.top, got := if 64 ≤ o.b - s.top then 3 else 0 })
  else if o.next = 2 then ({ s with cells := setC s.cells (cellI o.b) o.x }, { o with next := 3 })
  else ({ s with bot := o.b + 1 }, { o with next := 4, got := 1 })
def stepPop (s : DqS) (o : OpS) : DqS × OpS :=
  if o.next = 0 then ({ s with bot := s.bot - 1 }, { o with next := 1, b := s.bot })
  else if o.next = 1 then (s, { o with next := 2, t := s.top })
  else if o.next = 2 then (if o.b - 1 < o.t then ({ s with bot := o.b }, { o with next := 3, got := 2 }) else (s, { o with next := 3, x := s.cells (cellI (o.b - 1)), got := if o.t < o.b - 1 then 1 else 0 }))
  else if o.next = 3 then (if s.top = o.t then ({ s with top := o.t + 1 }, { o with next := 4, won := true }) else (s, { o with next := 4, won := false }))
  else ({ s with bot := o.b }, { o with next := 5, got := if o.won = true then 1 else 2 })
def stepSteal (s : DqS) (o : OpS) : DqS × OpS :=
  if o.next = 0 then (s, { o with next := 1, t := s.top })
  else if o.next = 1 then (s, { o with next := 2, b := s.bot, got := if s.bot ≤ o.t then 2 else 0 })
  else if o.next = 2 then (s, { o with next := 3, x := s.cells (cellI o.t) })
  else (if s.top = o.t then ({ s with top := o.t + 1 }, { o with next := 4, got := 1 }) else (s, { o with next := 4, got := 4 }))
def stepD (s : DqS) (o : OpS) : DqS × OpS := if o.kind = 1 then stepPush s o else if o.kind = 2 then stepPop s o else stepSteal s o

/-- What lies between Top and B is what was pushed and not taken. -/
structure Norm (s : DqS) (inn : List Int) (B : Int) : Prop where
  len : (inn.length : Int) = B - s.top
  at_ : ∀ (k : Nat) x, inn[k]? = some x → s.cells (cellI (s.top + k)) = x
/-- The owner's operation, and what is left: B is where the row ends, SB how far others may take. -/
inductive Own (s : DqS) : Option OpS → List Int → Int → Int → Prop
  | idle {inn : List Int} (h0 : 0 ≤ s.top) (h1 : s.top ≤ s.bot) (h2 : s.bot - s.top ≤ 64) (hn : Norm s inn s.bot) : Own s none inn s.bot s.bot
  | push {inn : List Int} {o : OpS} (hk : o.kind = 1) (hg : o.got = 0) (hx : o.next ≤ 3) (h0 : 0 ≤ s.top) (h1 : s.top ≤ s.bot) (h2 : s.bot - s.top ≤ 64) (hn : Norm s inn s.bot)
      (hb : 1 ≤ o.next → o.b = s.bot) (ht : 2 ≤ o.next → s.bot - s.top < 64) (hc : o.next = 3 → s.cells (cellI s.bot) = o.x) : Own s (some o) inn s.bot s.bot
  | pop0 {inn : List Int} {o : OpS} (hk : o.kind = 2) (hg : o.got = 0) (hx : o.next = 0) (h0 : 0 ≤ s.top) (h1 : s.top ≤ s.bot) (h2 : s.bot - s.top ≤ 64) (hn : Norm s inn s.bot) : Own s (some o) inn s.bot s.bot
  | pop1 {inn : List Int} {o : OpS} (hk : o.kind = 2) (hg : o.got = 0) (hx : o.next = 1) (hb : s.bot = o.b - 1) (h0 : 0 ≤ s.top) (h1 : s.top ≤ o.b) (h2 : o.b - s.top ≤ 64) (hn : Norm s inn o.b) : Own s (some o) inn o.b o.b
  | pop2 {inn : List Int} {o : OpS} {SB : Int} (hk : o.kind = 2) (hg : o.got = 0) (hx : o.next = 2) (hb : s.bot = o.b - 1) (ht : o.t ≤ s.top) (h0 : 0 ≤ s.top) (h1 : s.top ≤ SB) (h2 : o.b - s.top ≤ 64) (hs : SB = if o.t < o.b - 1 then o.b - 1 else o.b) (hn : Norm s inn o.b) : Own s (some o) inn o.b SB
  | pop3 {inn : List Int} {o : OpS} (hk : o.kind = 2) (hg : o.got = 0) (hx : o.next = 3) (hb : s.bot = o.b - 1) (ht : o.t = o.b - 1) (hts : o.t ≤ s.top) (h0 : 0 ≤ s.top) (h1 : s.top ≤ o.b) (h2 : o.b - s.top ≤ 64) (hn : Norm s inn o.b) (hv : s.top = o.t → s.cells (cellI s.top) = o.x) : Own s (some o) inn o.b o.b
  | pop4 {inn : List Int} {o : OpS} (hk : o.kind = 2) (hg : o.got = 0) (hx : o.next = 4) (hb : s.bot = o.b - 1) (h0 : 0 ≤ s.top) (h1 : s.top = o.b) (hw : o.won = true → inn = [o.x]) (hl : o.won = false → inn = []) : Own s (some o) inn o.b o.b
/-- One who steals. -/
structure Th (s : DqS) (SB : Int) (o : OpS) : Prop where
  kind : o.kind = 3
  got : o.got = 0
  nx : o.next ≤ 3
  t : 1 ≤ o.next → o.t ≤ s.top
  lt : 2 ≤ o.next → o.t = s.top → o.t < SB
  x : o.next = 3 → o.t = s.top → s.cells (cellI s.top) = o.x

theorem Own.base {s : DqS} {ow : Option OpS} {inn : List Int} {B SB : Int} (h : Own s ow inn B SB) : 0 ≤ s.top ∧ s.top ≤ SB ∧ SB ≤ B ∧ B - s.top ≤ 64 ∧ s.bot ≤ SB := by
  cases h with
  | idle h0 h1 h2 hn => omega
  | push hk hg hx h0 h1 h2 hn hb ht hc => omega
  | pop0 hk hg hx h0 h1 h2 hn => omega
  | pop1 hk hg hx hb h0 h1 h2 hn => omega
  | pop2 hk hg hx hb ht h0 h1 h2 hs hn => split at hs <;> omega
  | pop3 hk hg hx hb ht hts h0 h1 h2 hn hv => omega
  | pop4 hk hg hx hb h0 h1 hw hl => omega
theorem Norm.head {s : DqS} {inn : List Int} {B : Int} (h : Norm s inn B) (hlt : s.top < B) : ∃ r, inn = s.cells (cellI s.top) :: r ∧ Norm { s with top := s.top + 1 } r B := by
  have hl := h.len
  cases inn with
  | nil => simp at hl; omega
  | cons x r =>
    have h0 := h.at_ 0 x rfl
    simp only [Int.natCast_zero, Int.add_zero] at h0
    refine ⟨r, by rw [h0], ⟨by simp at hl ⊢; omega, fun k y hy => ?_⟩⟩
    have := h.at_ (k + 1) y (by simpa using hy)
    show s.cells (cellI (s.top + 1 + k)) = y
    rw [show s.top + 1 + (k : Int) = s.top + ((k + 1 : Nat) : Int) by omega]
    exact this
/-- Something is taken from the top, by another. -/
theorem Own.taken {s : DqS} {ow : Option OpS} {inn : List Int} {B SB : Int} (h : Own s ow inn B SB) (hlt : s.top < SB) : ∃ r, inn = s.cells (cellI s.top) :: r ∧ Own { s with top := s.top + 1 } ow r B SB := by
  have hbase := h.base
  cases h with
  | idle h0 h1 h2 hn =>
    obtain ⟨r, e, hn'⟩ := hn.head hlt
    exact ⟨r, e, @Own.idle { s with top := s.top + 1 } r (by show 0 ≤ s.top + 1; omega) (by show s.top + 1 ≤ s.bot; omega) (by show s.bot - (s.top + 1) ≤ 64; omega) hn'⟩
  | push hk hg hx h0 h1 h2 hn hb ht hc =>
    obtain ⟨r, e, hn'⟩ := hn.head hlt
    exact ⟨r, e, @Own.push { s with top := s.top + 1 } r _ hk hg hx (by show 0 ≤ s.top + 1; omega) (by show s.top + 1 ≤ s.bot; omega) (by show s.bot - (s.top + 1) ≤ 64; omega) hn' hb (fun q => by have := ht q; show s.bot - (s.top + 1) < 64; omega) hc⟩
  | pop0 hk hg hx h0 h1 h2 hn =>
    obtain ⟨r, e, hn'⟩ := hn.head hlt
    exact ⟨r, e, @Own.pop0 { s with top := s.top + 1 } r _ hk hg hx (by show 0 ≤ s.top + 1; omega) (by show s.top + 1 ≤ s.bot; omega) (by show s.bot - (s.top + 1) ≤ 64; omega) hn'⟩
  | @pop1 _ o hk hg hx hb h0 h1 h2 hn =>
    obtain ⟨r, e, hn'⟩ := hn.head hlt
    exact ⟨r, e, @Own.pop1 { s with top := s.top + 1 } r o hk hg hx hb (by show 0 ≤ s.top + 1; omega) (by show s.top + 1 ≤ o.b; omega) (by show o.b - (s.top + 1) ≤ 64; omega) hn'⟩
  | @pop2 _ o _ hk hg hx hb ht h0 h1 h2 hs hn =>
    obtain ⟨r, e, hn'⟩ := hn.head (by omega)
    exact ⟨r, e, @Own.pop2 { s with top := s.top + 1 } r o SB hk hg hx hb (by show o.t ≤ s.top + 1; omega) (by show 0 ≤ s.top + 1; omega) (by show s.top + 1 ≤ SB; omega) (by show o.b - (s.top + 1) ≤ 64; omega) hs hn'⟩
  | @pop3 _ o hk hg hx hb ht hts h0 h1 h2 hn hv =>
    obtain ⟨r, e, hn'⟩ := hn.head hlt
    exact ⟨r, e, @Own.pop3 { s with top := s.top + 1 } r o hk hg hx hb ht (by show o.t ≤ s.top + 1; omega) (by show 0 ≤ s.top + 1; omega) (by show s.top + 1 ≤ o.b; omega) (by show o.b - (s.top + 1) ≤ 64; omega) hn' (fun q => by have q : s.top + 1 = o.t := q; omega)⟩
  | pop4 hk hg hx hb h0 h1 hw hl => omega
/-- Those who steal go on when Top has gone on. -/
theorem Th.taken {s : DqS} {SB : Int} {o : OpS} (h : Th s SB o) : Th { s with top := s.top + 1 } SB o :=
  ⟨h.kind, h.got, h.nx, fun q => by have := h.t q; show o.t ≤ s.top + 1; omega, fun q e => by have e : o.t = s.top + 1 := e; have := h.t (by omega); omega, fun q e => by have e : o.t = s.top + 1 := e; have := h.t (by omega); omega⟩
/-- A step of a Steal. -/
theorem steal_step {s : DqS} {ow : Option OpS} {inn : List Int} {B SB : Int} {o : OpS} (h : Own s ow inn B SB) (ho : Th s SB o) :
    ((stepD s o).2.got = 1 ∧ ∃ r, inn = (stepD s o).2.x :: r ∧ Own (stepD s o).1 ow r B SB ∧ ∀ p, Th s SB p → Th (stepD s o).1 SB p) ∨
    ((stepD s o).2.got ≠ 1 ∧ (stepD s o).1 = s ∧ ((stepD s o).2.got = 0 → Th s SB (stepD s o).2)) := by
  have hb := h.base
  have hk := ho.kind
  have hs : stepD s o = stepSteal s o := by unfold stepD; rw [if_neg (by omega), if_neg (by omega)]
  rw [hs]
  unfold stepSteal
  have hnx := ho.nx
  rcases (show o.next = 0 ∨ o.next = 1 ∨ o.next = 2 ∨ o.next = 3 by omega) with e | e | e | e
  · rw [if_pos e]
    exact .inr ⟨by show o.got ≠ 1; rw [ho.got]; decide, rfl, fun _ => ⟨hk, ho.got, by show 1 ≤ 3; omega, fun _ => Int.le_refl _, fun q => by have q : 2 ≤ 1 := q; omega, fun q => by have q : (1 : Nat) = 3 := q; omega⟩⟩
  · rw [if_neg (by omega), if_pos e]
    refine .inr ⟨by show (if s.bot ≤ o.t then 2 else 0) ≠ 1; split <;> omega, rfl, fun q => ?_⟩
    have q : (if s.bot ≤ o.t then 2 else 0) = 0 := q
    have hlt : o.t < s.bot := by
      by_cases hc : s.bot ≤ o.t
      · rw [if_pos hc] at q; omega
      · omega
    exact ⟨hk, q, by show 2 ≤ 3; omega, fun _ => ho.t (by omega), fun _ _ => by show o.t < SB; omega, fun q => by have q : (2 : Nat) = 3 := q; omega⟩
  · rw [if_neg (by omega), if_neg (by omega), if_pos e]
    refine .inr ⟨by show o.got ≠ 1; rw [ho.got]; decide, rfl, fun _ => ⟨hk, ho.got, by show 3 ≤ 3; omega, fun _ => ho.t (by omega), fun _ q => ho.lt (by omega) q, fun _ q => ?_⟩⟩
    have q : o.t = s.top := q
    show s.cells (cellI s.top) = s.cells (cellI o.t)
    rw [q]
  · rw [if_neg (by omega), if_neg (by omega), if_neg (by omega)]
    by_cases hc : s.top = o.t
    · rw [if_pos hc]
      obtain ⟨r, e1, e2⟩ := h.taken (by have := ho.lt (by omega) hc.symm; omega)
      have hx := ho.x e hc.symm
      refine .inl ⟨rfl, r, ?_, ?_, fun p hp => ?_⟩
      · show inn = o.x :: r
        rw [← hx]; exact e1
      · show Own { s with top := o.t + 1 } ow r B SB
        rw [← hc]; exact e2
      · show Th { s with top := o.t + 1 } SB p
        rw [← hc]; exact hp.taken
    · rw [if_neg hc]
      exact .inr ⟨by show (4 : Nat) ≠ 1; decide, rfl, fun q => by have q : (4 : Nat) = 0 := q; omega⟩
/-- Those who steal, when Top stays. -/
theorem Th.go {s s' : DqS} {SB SB' : Int} {o : OpS} (h : Th s SB o) (ht : s'.top = s.top) (hS : s.top < SB → s.top < SB') (hc : s.top < SB → s'.cells (cellI s.top) = s.cells (cellI s.top)) : Th s' SB' o :=
  ⟨h.kind, h.got, h.nx, fun q => by rw [ht]; exact h.t q, fun q e => by
    rw [ht] at e
    have := h.lt q e
    have := hS (by omega)
    omega, fun q e => by
    rw [ht] at e ⊢
    rw [hc (by have := h.lt (by omega) e; omega)]
    exact h.x q e⟩
theorem Norm.last {s : DqS} {inn : List Int} {B : Int} (h : Norm s inn B) (hlt : s.top < B) : ∃ r, inn = r ++ [s.cells (cellI (B - 1))] ∧ Norm s r (B - 1) := by
  have hl := h.len
  rcases List.eq_nil_or_concat inn with rfl | ⟨r, x, rfl⟩
  · simp at hl; omega
  · rw [List.concat_eq_append] at *
    have hl2 : (r.length : Int) + 1 = B - s.top := by simpa using hl
    have h0 := h.at_ r.length x (by simp)
    rw [show s.top + (r.length : Int) = B - 1 by omega] at h0
    refine ⟨r, by rw [h0], by omega, fun k y hy => h.at_ k y ?_⟩
    rw [List.getElem?_append_left (List.getElem?_eq_some_iff.1 hy).1]; exact hy
/-- How an owner's step ends. -/
inductive OwnEnd (s : DqS) (SB : Int) (inn : List Int) (o : OpS) (s' : DqS) (o' : OpS) : Prop
  | on {B' SB' : Int} (hg : o'.got = 0) (h : Own s' (some o') inn B' SB') (ht : ∀ p, Th s SB p → Th s' SB' p)
  | put {B' SB' : Int} (hk : o.kind = 1) (hg : o'.got = 1) (hx : o'.x = o.x) (hl : inn.length < 64) (h : Own s' none (inn ++ [o'.x]) B' SB') (ht : ∀ p, Th s SB p → Th s' SB' p)
  | full {B' SB' : Int} (hk : o.kind = 1) (hg : o'.got = 3) (hl : inn.length = 64) (h : Own s' none inn B' SB') (ht : ∀ p, Th s SB p → Th s' SB' p)
  | take {B' SB' : Int} {r : List Int} (hk : o.kind = 2) (hg : o'.got = 1) (e : inn = r ++ [o'.x]) (h : Own s' none r B' SB') (ht : ∀ p, Th s SB p → Th s' SB' p)
  | none_ {B' SB' : Int} (hk : o.kind = 2) (hg : o'.got = 2) (e : inn = []) (h : Own s' none inn B' SB') (ht : ∀ p, Th s SB p → Th s' SB' p)
theorem own_step {s : DqS} {inn : List Int} {B SB : Int} {o : OpS} (h : Own s (some o) inn B SB) : OwnEnd s SB inn o (stepD s o).1 (stepD s o).2 := by
  cases h with
  | push hk hg hx h0 h1 h2 hn hb ht hc =>
    have hs : stepD s o = stepPush s o := by unfold stepD; rw [if_pos hk]
    rw [hs]
    unfold stepPush
    rcases (show o.next = 0 ∨ o.next = 1 ∨ o.next = 2 ∨ o.next = 3 by omega) with e | e | e | e
    · rw [if_pos e]
      exact .on hg (Own.push hk hg (by show 1 ≤ 3; omega) h0 h1 h2 hn (fun _ => rfl) (fun q => by have q : 2 ≤ 1 := q; omega) (fun q => by have q : (1 : Nat) = 3 := q; omega)) (fun p hp => hp)
    · rw [if_neg (by omega), if_pos e]
      have hbb := hb (by omega)
      by_cases hf : 64 ≤ o.b - s.top
      · exact .full hk (by show (if 64 ≤ o.b - s.top then 3 else 0) = 3; rw [if_pos hf]) (by have := hn.len; omega) (Own.idle h0 h1 h2 hn) (fun p hp => hp)
      · have hg' : (if 64 ≤ o.b - s.top then 3 else 0) = 0 := if_neg hf
        exact .on hg' (Own.push hk hg' (by show 2 ≤ 3; omega) h0 h1 h2 hn (fun _ => hbb) (fun _ => by show s.bot - s.top < 64; omega) (fun q => by have q : (2 : Nat) = 3 := q; omega)) (fun p hp => hp)
    · rw [if_neg (by omega), if_neg (by omega), if_pos e]
      have hbb := hb (by omega)
      have htt := ht (by omega)
      have hn' : Norm { s with cells := setC s.cells (cellI o.b) o.x } inn s.bot := ⟨hn.len, fun k y hy => by
        have hk2 := (List.getElem?_eq_some_iff.1 hy).1
        have hl := hn.len
        show setC s.cells (cellI o.b) o.x (cellI (s.top + k)) = y
        rw [setC_ne _ _ (by rw [hbb]; exact cellI_ne (by omega) (by omega))]
        exact hn.at_ k y hy⟩
      exact .on hg (@Own.push { s with cells := setC s.cells (cellI o.b) o.x } inn { o with next := 3 } hk hg (by show 3 ≤ 3; omega) h0 h1 h2 hn' (fun _ => hbb) (fun _ => htt) (fun _ => by show setC s.cells (cellI o.b) o.x (cellI s.bot) = o.x; rw [hbb]; exact setC_same _ _ _))
        (fun p hp => hp.go rfl (fun q => q) (fun q => by show setC s.cells (cellI o.b) o.x (cellI s.top) = _; rw [setC_ne _ _ (by rw [hbb]; exact cellI_ne (by omega) (by omega))]))
    · rw [if_neg (by omega), if_neg (by omega), if_neg (by omega)]
      have hbb := hb (by omega)
      have htt := ht (by omega)
      have hl := hn.len
      have hn' : Norm { s with bot := o.b + 1 } (inn ++ [o.x]) (o.b + 1) := ⟨by rw [List.length_append]; simp; omega, fun k y hy => by
        show s.cells (cellI (s.top + k)) = y
        rcases Nat.lt_trichotomy k inn.length with q | q | q
        · rw [List.getElem?_append_left q] at hy
          exact hn.at_ k y hy
        · rw [q, List.getElem?_append_right (Nat.le_refl _), Nat.sub_self] at hy
          obtain rfl : o.x = y := Option.some.inj hy
          rw [show s.top + (k : Int) = s.bot by omega]
          exact hc e
        · rw [List.getElem?_eq_none (by simp; omega)] at hy
          cases hy⟩
      exact .put hk rfl rfl (by omega) (@Own.idle { s with bot := o.b + 1 } (inn ++ [o.x]) h0 (by show s.top ≤ o.b + 1; omega) (by show o.b + 1 - s.top ≤ 64; omega) hn') (fun p hp => hp.go rfl (fun q => by show s.top < o.b + 1; omega) (fun _ => rfl))
  | pop0 hk hg hx h0 h1 h2 hn =>
    have hs : stepD s o = stepPop s o := by unfold stepD; rw [if_neg (by omega), if_pos hk]
    rw [hs]
    unfold stepPop
    rw [if_pos hx]
    exact .on hg (@Own.pop1 { s with bot := s.bot - 1 } inn { o with next := 1, b := s.bot } hk hg rfl rfl h0 h1 h2 ⟨hn.len, hn.at_⟩) (fun p hp => hp.go rfl (fun q => q) (fun _ => rfl))
  | pop1 hk hg hx hb h0 h1 h2 hn =>
    have hs : stepD s o = stepPop s o := by unfold stepD; rw [if_neg (by omega), if_pos hk]
    rw [hs]
    unfold stepPop
    rw [if_neg (by omega), if_pos hx]
    refine .on hg (Own.pop2 (SB := if s.top < o.b - 1 then o.b - 1 else o.b) hk hg rfl hb (Int.le_refl _) h0 (by show s.top ≤ (if s.top < o.b - 1 then o.b - 1 else o.b); split <;> omega) h2 rfl hn) (fun p hp => hp.go rfl (fun q => by show s.top < (if s.top < o.b - 1 then o.b - 1 else o.b); split <;> omega) (fun _ => rfl))
  | pop2 hk hg hx hb ht h0 h1 h2 hs2 hn =>
    have hs : stepD s o = stepPop s o := by unfold stepD; rw [if_neg (by omega), if_pos hk]
    rw [hs]
    unfold stepPop
    rw [if_neg (by omega), if_neg (by omega), if_pos hx]
    by_cases hc : o.b - 1 < o.t
    · rw [if_pos hc]
      rw [if_neg (by omega)] at hs2
      exact .none_ hk rfl (List.eq_nil_of_length_eq_zero (by have := hn.len; omega)) (@Own.idle { s with bot := o.b } inn h0 (by show s.top ≤ o.b; omega) h2 ⟨hn.len, hn.at_⟩) (fun p hp => hp.go rfl (fun q => by show s.top < o.b; omega) (fun _ => rfl))
    · rw [if_neg hc]
      by_cases hd : o.t < o.b - 1
      · rw [if_pos hd] at hs2
        obtain ⟨r, e, hn'⟩ := hn.last (by omega)
        have hI : Own s none r s.bot s.bot := Own.idle h0 (by omega) (by omega) (by rw [hb]; exact hn')
        exact .take hk (by show (if o.t < o.b - 1 then 1 else 0) = 1; rw [if_pos hd]) e hI (fun p hp => hp.go rfl (fun q => by omega) (fun _ => rfl))
      · rw [if_neg hd] at hs2
        have hg' : (if o.t < o.b - 1 then 1 else 0) = 0 := if_neg hd
        refine .on hg' (Own.pop3 hk hg' rfl hb (by show o.t = o.b - 1; omega) ht h0 (by show s.top ≤ o.b; omega) h2 hn (fun q => ?_)) (fun p hp => hp.go rfl (fun q => by show s.top < o.b; omega) (fun _ => rfl))
        have q : s.top = o.t := q
        show s.cells (cellI s.top) = s.cells (cellI (o.b - 1))
        rw [show s.top = o.b - 1 by omega]
  | pop3 hk hg hx hb ht hts h0 h1 h2 hn hv =>
    have hs : stepD s o = stepPop s o := by unfold stepD; rw [if_neg (by omega), if_pos hk]
    rw [hs]
    unfold stepPop
    rw [if_neg (by omega), if_neg (by omega), if_neg (by omega), if_pos hx]
    have hl := hn.len
    by_cases hc : s.top = o.t
    · rw [if_pos hc]
      obtain ⟨r, e, hn'⟩ := hn.head (by omega)
      have hr : r = [] := List.eq_nil_of_length_eq_zero (by have := hn'.len; simp at this; omega)
      subst hr
      refine .on hg (@Own.pop4 { s with top := o.t + 1 } inn { o with next := 4, won := true } hk hg rfl hb (by show 0 ≤ o.t + 1; omega) (by show o.t + 1 = o.b; omega) (fun _ => by show inn = [o.x]; rw [e, hv hc]) (fun q => by cases q)) (fun p hp => ?_)
      have := hp.taken
      rw [hc] at this
      exact this
    · rw [if_neg hc]
      exact .on hg (Own.pop4 hk hg rfl hb h0 (by show s.top = o.b; omega) (fun q => by cases q) (fun _ => List.eq_nil_of_length_eq_zero (by omega))) (fun p hp => hp)
  | pop4 hk hg hx hb h0 h1 hw hl =>
    have hs : stepD s o = stepPop s o := by unfold stepD; rw [if_neg (by omega), if_pos hk]
    rw [hs]
    unfold stepPop
    rw [if_neg (by omega), if_neg (by omega), if_neg (by omega), if_neg (by omega)]
    have hE : ∀ r : List Int, r = [] → Own { s with bot := o.b } none r o.b o.b := fun r e => by
      subst e
      exact @Own.idle { s with bot := o.b } [] h0 (by show s.top ≤ o.b; omega) (by show o.b - s.top ≤ 64; omega) ⟨by show ((0 : Nat) : Int) = o.b - s.top; omega, fun k x hx => by cases hx⟩
    cases hwn : o.won with
    | true =>
      exact .take (r := []) hk rfl (hw hwn) (hE [] rfl) (fun p hp => hp.go rfl (fun q => q) (fun _ => rfl))
    | false =>
      exact .none_ hk rfl (hl hwn) (hE inn (hl hwn)) (fun p hp => hp.go rfl (fun q => q) (fun _ => rfl))
end Go.Proofs.Ytacadgocoleaoaa

/- Mathematics of a deque: operations under way, one more that is begun, one that goes a step; one alone, to its end. -/
namespace Go.Proofs.Ytacadgocoleaoaa
set_option linter.unusedVariables false

/-- An operation that is begun. -/
def opB (kind : Nat) (x : Int) : OpS := ⟨kind, 0, 0, 0, x, 0, false⟩
/-- The operations that are under way, what is left, and a bound on it. -/
structure DQ (s : DqS) (l : List OpS) (inn : List Int) (i : Nat) : Prop where
  ex : (∃ B SB, Own s none inn B SB ∧ ∀ p ∈ l, Th s SB p) ∨
    (∃ l1 o l2 B SB, l = l1 ++ o :: l2 ∧ Own s (some o) inn B SB ∧ (∀ p ∈ l1, Th s SB p) ∧ (∀ p ∈ l2, Th s SB p) ∧ (o.kind = 1 → o.x < i ∧ ∀ y ∈ inn, y < o.x))
  inc : inn.Pairwise (· < ·)
  lt : ∀ y ∈ inn, y < (i : Int)
theorem Own.kind {s : DqS} {o : OpS} {inn : List Int} {B SB : Int} (h : Own s (some o) inn B SB) : (o.kind = 1 ∧ o.next ≤ 3) ∨ (o.kind = 2 ∧ o.next ≤ 4) := by
  cases h with
  | push hk hg hx => exact .inl ⟨hk, hx⟩
  | pop0 hk hg hx => exact .inr ⟨hk, by omega⟩
  | pop1 hk hg hx => exact .inr ⟨hk, by omega⟩
  | pop2 hk hg hx => exact .inr ⟨hk, by omega⟩
  | pop3 hk hg hx => exact .inr ⟨hk, by omega⟩
  | pop4 hk hg hx => exact .inr ⟨hk, by omega⟩
theorem Own.got {s : DqS} {o : OpS} {inn : List Int} {B SB : Int} (h : Own s (some o) inn B SB) : o.got = 0 := by
  cases h <;> assumption
/-- Every one that is under way is at a step that there is. -/
def OpIn (o : OpS) : Prop := o.got = 0 ∧ ((o.kind = 1 ∧ o.next ≤ 3) ∨ (o.kind = 2 ∧ o.next ≤ 4) ∨ (o.kind = 3 ∧ o.next ≤ 3))
theorem DQ.in_ {s : DqS} {l : List OpS} {inn : List Int} {i : Nat} (h : DQ s l inn i) : ∀ o ∈ l, OpIn o := by
  have ht : ∀ {SB : Int} {p : OpS}, Th s SB p → OpIn p := fun q => ⟨q.got, .inr (.inr ⟨q.kind, q.nx⟩)⟩
  intro o ho
  rcases h.ex with ⟨B, SB, h1, h2⟩ | ⟨l1, p, l2, B, SB, rfl, h1, h2, h3, -⟩
  · exact ht (h2 o ho)
  · rcases List.mem_append.1 ho with ho | ho
    · exact ht (h2 o ho)
    · rcases List.mem_cons.1 ho with rfl | ho
      · refine ⟨h1.got, ?_⟩
        rcases h1.kind with q | q
        · exact .inl q
        · exact .inr (.inl q)
      · exact ht (h3 o ho)
theorem step_next (s : DqS) {o : OpS} (h : OpIn o) : (stepD s o).2.next = o.next + 1 ∧ (stepD s o).2.kind = o.kind := by
  obtain ⟨-, h⟩ := h
  unfold stepD
  rcases h with ⟨hk, hx⟩ | ⟨hk, hx⟩ | ⟨hk, hx⟩
  · rw [if_pos hk]
    unfold stepPush
    rcases (show o.next = 0 ∨ o.next = 1 ∨ o.next = 2 ∨ o.next = 3 by omega) with e | e | e | e <;> simp [e]
  · rw [if_neg (by omega), if_pos hk]
    unfold stepPop
    rcases (show o.next = 0 ∨ o.next = 1 ∨ o.next = 2 ∨ o.next = 3 ∨ o.next = 4 by omega) with e | e | e | e | e
    · simp [e]
    · simp [e]
    · simp only [e]
      split <;> simp_all
      split <;> simp_all
    · simp only [e]
      repeat (first | omega | (split <;> simp_all))
    · simp [e]
  · rw [if_neg (by omega), if_neg (by omega)]
    unfold stepSteal
    rcases (show o.next = 0 ∨ o.next = 1 ∨ o.next = 2 ∨ o.next = 3 by omega) with e | e | e | e
    · simp [e]
    · simp [e]
    · simp [e]
    · simp only [e]
      repeat (first | omega | (split <;> simp_all))
theorem th_new {s : DqS} {SB : Int} : Th s SB (opB 3 0) := ⟨rfl, rfl, Nat.zero_le _, fun q => by have q : 1 ≤ 0 := q; omega, fun q => by have q : 2 ≤ 0 := q; omega, fun q => by have q : (0 : Nat) = 3 := q; omega⟩
theorem DQ.more {s : DqS} {l : List OpS} {inn : List Int} {i j : Nat} (h : DQ s l inn i) (hij : i ≤ j) : DQ s l inn j := by
  refine ⟨?_, h.inc, fun y hy => by have := h.lt y hy; omega⟩
  rcases h.ex with h1 | ⟨l1, o, l2, B, SB, e, h1, h2, h3, h4⟩
  · exact .inl h1
  · exact .inr ⟨l1, o, l2, B, SB, e, h1, h2, h3, fun q => ⟨by have := (h4 q).1; omega, (h4 q).2⟩⟩
theorem DQ.start (c : Nat → Int) (i : Nat) : DQ ⟨c, 0, 0⟩ [] [] i :=
  ⟨.inl ⟨_, _, Own.idle (Int.le_refl _) (Int.le_refl _) (by show (0 : Int) - 0 ≤ 64; omega) ⟨rfl, fun k x h => by cases h⟩, fun p hp => by cases hp⟩, List.Pairwise.nil, fun y hy => by cases hy⟩
/-- A Steal is begun. -/
theorem DQ.steal {s : DqS} {l : List OpS} {inn : List Int} {i : Nat} (h : DQ s l inn i) : DQ s (l ++ [opB 3 0]) inn i := by
  refine ⟨?_, h.inc, h.lt⟩
  rcases h.ex with ⟨B, SB, h1, h2⟩ | ⟨l1, o, l2, B, SB, rfl, h1, h2, h3, h4⟩
  · exact .inl ⟨B, SB, h1, fun p hp => by
      rcases List.mem_append.1 hp with hp | hp
      · exact h2 p hp
      · rw [List.mem_singleton.1 hp]; exact th_new⟩
  · refine .inr ⟨l1, o, l2 ++ [opB 3 0], B, SB, by simp, h1, h2, fun p hp => ?_, h4⟩
    rcases List.mem_append.1 hp with hp | hp
    · exact h3 p hp
    · rw [List.mem_singleton.1 hp]; exact th_new
/-- Is no operation of the owner's under way? -/
def FreeL (l : List OpS) : Prop := ∀ o ∈ l, o.kind = 3
theorem DQ.free_idle {s : DqS} {l : List OpS} {inn : List Int} {i : Nat} (h : DQ s l inn i) (hf : FreeL l) : ∃ B SB, Own s none inn B SB ∧ ∀ p ∈ l, Th s SB p := by
  rcases h.ex with h1 | ⟨l1, o, l2, B, SB, rfl, h1, -⟩
  · exact h1
  · have := hf o (by simp)
    rcases h1.kind with q | q <;> omega
theorem own_idle {s : DqS} {inn : List Int} {B SB : Int} (h : Own s none inn B SB) : B = s.bot ∧ SB = s.bot ∧ 0 ≤ s.top ∧ s.top ≤ s.bot ∧ s.bot - s.top ≤ 64 ∧ Norm s inn s.bot := by
  cases h with
  | idle h0 h1 h2 hn => exact ⟨rfl, rfl, h0, h1, h2, hn⟩
theorem own_begin {s : DqS} {inn : List Int} {B SB : Int} (h : Own s none inn B SB) (k : Nat) (hk : k = 1 ∨ k = 2) (x : Int) : Own s (some (opB k x)) inn B SB := by
  obtain ⟨rfl, rfl, h0, h1, h2, hn⟩ := own_idle h
  rcases hk with rfl | rfl
  · exact Own.push rfl rfl (Nat.zero_le _) h0 h1 h2 hn (fun q => by have q : 1 ≤ 0 := q; omega) (fun q => by have q : 2 ≤ 0 := q; omega) (fun q => by have q : (0 : Nat) = 3 := q; omega)
  · exact Own.pop0 rfl rfl rfl h0 h1 h2 hn
/-- The owner begins. -/
theorem DQ.begin_ {s : DqS} {l : List OpS} {inn : List Int} {i : Nat} (h : DQ s l inn i) (hf : FreeL l) (k : Nat) (hk : k = 1 ∨ k = 2) : DQ s (l ++ [opB k (i : Int)]) inn (i + 1) := by
  obtain ⟨B, SB, h1, h2⟩ := h.free_idle hf
  exact ⟨.inr ⟨l, opB k (i : Int), [], B, SB, rfl, own_begin h1 k hk _, h2, (fun p hp => by cases hp), fun _ => ⟨by show (i : Int) < ((i + 1 : Nat) : Int); omega, h.lt⟩⟩, h.inc, fun y hy => by have := h.lt y hy; omega⟩
/-- What is left when an operation has ended: what was pushed is behind it; what was taken isn't there any more. -/
def innE (o : OpS) (inn : List Int) : List Int := if o.got = 1 then (if o.kind = 1 then inn ++ [o.x] else inn.erase o.x) else inn
theorem erase_last {r : List Int} {x : Int} (h : x ∉ r) : (r ++ [x]).erase x = r := by
  rw [List.erase_append, if_neg h]
  simp
theorem inc_last {r : List Int} {x : Int} (h : (r ++ [x]).Pairwise (· < ·)) : x ∉ r := fun hm => by
  have := (List.pairwise_append.1 h).2.2 x hm x (by simp)
  omega
/-- A step of the n-th one. -/
theorem DQ.step {s : DqS} {l : List OpS} {inn : List Int} {i n : Nat} {o : OpS} (h : DQ s l inn i) (hn : l[n]? = some o) :
    ((stepD s o).2.got = 0 → DQ (stepD s o).1 (l.set n (stepD s o).2) inn i) ∧
    ((stepD s o).2.got ≠ 0 → DQ (stepD s o).1 (l.eraseIdx n) (innE (stepD s o).2 inn) i ∧ ((stepD s o).2.got = 1 → (stepD s o).2.kind ≠ 1 → (stepD s o).2.x ∈ inn)) := by
  have hin := h.in_ o (List.mem_of_getElem? hn)
  obtain ⟨-, hkd⟩ := step_next s hin
  generalize hq : stepD s o = q at *
  obtain ⟨s', o'⟩ := q
  dsimp only at hkd ⊢
  obtain ⟨hnl, hno⟩ := List.getElem?_eq_some_iff.1 hn
  -- the lists
  have hset : l.set n o' = l.take n ++ o' :: l.drop (n + 1) := List.set_eq_take_append_cons_drop.trans (if_pos hnl)
  have hera : l.eraseIdx n = l.take n ++ l.drop (n + 1) := List.eraseIdx_eq_take_drop_succ l n
  rcases h.ex with ⟨B, SB, h1, h2⟩ | ⟨l1, p, l2, B, SB, hl, h1, h2, h3, h4⟩
  · -- nobody's but those who steal
    have hth := h2 o (List.mem_of_getElem? hn)
    have hmem : ∀ z, z ∈ l.take n ∨ z ∈ l.drop (n + 1) → z ∈ l := fun z hz => hz.elim (fun q => List.mem_of_mem_take q) (fun q => List.mem_of_mem_drop q)
    have hst := steal_step h1 hth
    rw [hq] at hst
    rcases hst with ⟨hg, r, e, hO, hT⟩ | ⟨hg, e, hT⟩
    · dsimp only at hg e hO hT
      refine ⟨fun c => by omega, fun _ => ?_⟩
      have hi : innE o' inn = r := by unfold innE; rw [if_pos hg, if_neg (by rw [hkd, hth.kind]; decide), e]; simp
      rw [hi]
      have hinc := h.inc
      rw [e] at hinc
      refine ⟨⟨.inl ⟨B, SB, hO, fun z hz => ?_⟩, (List.pairwise_cons.1 hinc).2, fun y hy => h.lt y (by rw [e]; exact List.mem_cons_of_mem _ hy)⟩, fun _ _ => by rw [e]; exact List.mem_cons_self⟩
      rw [hera] at hz
      exact hT z (h2 z (hmem z (List.mem_append.1 hz)))
    · dsimp only at hg e hT
      subst e
      refine ⟨fun c => ⟨.inl ⟨B, SB, h1, fun z hz => ?_⟩, h.inc, h.lt⟩, fun c => ⟨⟨.inl ⟨B, SB, by unfold innE; rw [if_neg hg]; exact h1, fun z hz => ?_⟩, by unfold innE; rw [if_neg hg]; exact h.inc, by unfold innE; rw [if_neg hg]; exact h.lt⟩, fun q => absurd q hg⟩⟩
      · rw [hset] at hz
        rcases List.mem_append.1 hz with hz | hz
        · exact h2 z (hmem z (.inl hz))
        · rcases List.mem_cons.1 hz with rfl | hz
          · exact hT c
          · exact h2 z (hmem z (.inr hz))
      · rw [hera] at hz
        exact h2 z (hmem z (List.mem_append.1 hz))
  · have hpk := h1.kind
    rcases Nat.lt_trichotomy n l1.length with c | c | c
    · -- one who steals, ahead of the owner's
      have hn1 : l1[n]? = some o := by rw [hl, List.getElem?_append_left c] at hn; exact hn
      have hth := h2 o (List.mem_of_getElem? hn1)
      have hmem : ∀ z, z ∈ l1.take n ∨ z ∈ l1.drop (n + 1) → z ∈ l1 := fun z hz => hz.elim (fun q => List.mem_of_mem_take q) (fun q => List.mem_of_mem_drop q)
      have hset1 : l.set n o' = l1.set n o' ++ p :: l2 := by rw [hl, List.set_append_left _ _ c]
      have hera1 : l.eraseIdx n = l1.eraseIdx n ++ p :: l2 := by rw [hl, List.eraseIdx_append_of_lt_length c]
      have hs1 : l1.set n o' = l1.take n ++ o' :: l1.drop (n + 1) := List.set_eq_take_append_cons_drop.trans (if_pos c)
      have he1 : l1.eraseIdx n = l1.take n ++ l1.drop (n + 1) := List.eraseIdx_eq_take_drop_succ l1 n
      have hst := steal_step h1 hth
      rw [hq] at hst
      rcases hst with ⟨hg, r, e, hO, hT⟩ | ⟨hg, e, hT⟩
      · dsimp only at hg e hO hT
        refine ⟨fun c => by omega, fun _ => ?_⟩
        have hi : innE o' inn = r := by unfold innE; rw [if_pos hg, if_neg (by rw [hkd, hth.kind]; decide), e]; simp
        rw [hi, hera1]
        have hinc := h.inc
        rw [e] at hinc
        refine ⟨⟨.inr ⟨l1.eraseIdx n, p, l2, B, SB, rfl, hO, fun z hz => ?_, fun z hz => hT z (h3 z hz), fun q => ⟨(h4 q).1, fun y hy => (h4 q).2 y (by rw [e]; exact List.mem_cons_of_mem _ hy)⟩⟩, (List.pairwise_cons.1 hinc).2, fun y hy => h.lt y (by rw [e]; exact List.mem_cons_of_mem _ hy)⟩, fun _ _ => by rw [e]; exact List.mem_cons_self⟩
        rw [he1] at hz
        exact hT z (h2 z (hmem z (List.mem_append.1 hz)))
      · dsimp only at hg e hT
        subst e
        have hi : innE o' inn = inn := by unfold innE; rw [if_neg hg]
        rw [hi, hset1, hera1]
        refine ⟨fun c => ⟨.inr ⟨_, p, l2, B, SB, rfl, h1, fun z hz => ?_, h3, h4⟩, h.inc, h.lt⟩, fun c => ⟨⟨.inr ⟨_, p, l2, B, SB, rfl, h1, fun z hz => ?_, h3, h4⟩, h.inc, h.lt⟩, fun q => absurd q hg⟩⟩
        · rw [hs1] at hz
          rcases List.mem_append.1 hz with hz | hz
          · exact h2 z (hmem z (.inl hz))
          · rcases List.mem_cons.1 hz with rfl | hz
            · exact hT c
            · exact h2 z (hmem z (.inr hz))
        · rw [he1] at hz
          exact h2 z (hmem z (List.mem_append.1 hz))
    · -- the owner's
      have hpo : p = o := by
        rw [hl, c, List.getElem?_append_right (Nat.le_refl _), Nat.sub_self] at hn
        exact Option.some.inj hn
      subst hpo
      have hset1 : l.set n o' = l1 ++ o' :: l2 := by rw [hl, c, List.set_append_right _ _ (Nat.le_refl _), Nat.sub_self]; rfl
      have hera1 : l.eraseIdx n = l1 ++ l2 := by rw [hl, c, List.eraseIdx_append_of_length_le (Nat.le_refl _), Nat.sub_self]; rfl
      rw [hset1, hera1]
      have hall : ∀ {SB' : Int}, (∀ z, Th s SB z → Th s' SB' z) → ∀ z ∈ l1 ++ l2, Th s' SB' z := fun hT z hz => hT z ((List.mem_append.1 hz).elim (h2 z) (h3 z))
      have hst := own_step h1
      rw [hq] at hst
      have hxx : p.kind = 1 → o'.x = p.x := fun e => by
        have : (stepD s p).2.x = p.x := by
          unfold stepD; rw [if_pos e]; unfold stepPush
          repeat (first | rfl | split)
        rw [hq] at this
        exact this
      cases hst with
      | on hg hO hT =>
        exact ⟨fun _ => ⟨.inr ⟨l1, o', l2, _, _, rfl, hO, fun z hz => hT z (h2 z hz), fun z hz => hT z (h3 z hz), fun q => by
          have q : o'.kind = 1 := q
          rw [hkd] at q
          rw [hxx q]; exact h4 q⟩, h.inc, h.lt⟩, fun q => absurd hg q⟩
      | put hk hg hx hl hO hT =>
        refine ⟨fun q => by have hg : o'.got = 1 := hg; omega, fun _ => ?_⟩
        have hg : o'.got = 1 := hg
        have hi : innE o' inn = inn ++ [o'.x] := by unfold innE; rw [if_pos hg, if_pos (by rw [hkd]; exact hk)]
        rw [hi]
        obtain ⟨b1, b2⟩ := h4 hk
        have hx : o'.x = p.x := hx
        refine ⟨⟨.inl ⟨_, _, hO, hall hT⟩, List.pairwise_append.2 ⟨h.inc, by simp, fun y hy z hz => by rw [List.mem_singleton.1 hz, hx]; exact b2 y hy⟩, fun y hy => ?_⟩, fun _ q => absurd (hkd.trans hk) q⟩
        rcases List.mem_append.1 hy with hy | hy
        · exact h.lt y hy
        · rw [List.mem_singleton.1 hy, hx]; exact b1
      | full hk hg hl hO hT =>
        refine ⟨fun q => by have hg : o'.got = 3 := hg; omega, fun _ => ?_⟩
        have hg : o'.got = 3 := hg
        have hi : innE o' inn = inn := by unfold innE; rw [if_neg (by omega)]
        rw [hi]
        exact ⟨⟨.inl ⟨_, _, hO, hall hT⟩, h.inc, h.lt⟩, fun q => by omega⟩
      | @take _ _ r hk hg e hO hT =>
        refine ⟨fun q => by have hg : o'.got = 1 := hg; omega, fun _ => ?_⟩
        have hg : o'.got = 1 := hg
        have e : inn = r ++ [o'.x] := e
        have hinc := h.inc
        rw [e] at hinc
        have hi : innE o' inn = r := by unfold innE; rw [if_pos hg, if_neg (by rw [hkd, hk]; decide), e]; exact erase_last (inc_last hinc)
        rw [hi]
        exact ⟨⟨.inl ⟨_, _, hO, hall hT⟩, (List.pairwise_append.1 hinc).1, fun y hy => h.lt y (by rw [e]; exact List.mem_append_left _ hy)⟩, fun _ _ => by rw [e]; simp⟩
      | none_ hk hg e hO hT =>
        refine ⟨fun q => by have hg : o'.got = 2 := hg; omega, fun _ => ?_⟩
        have hg : o'.got = 2 := hg
        have hi : innE o' inn = inn := by unfold innE; rw [if_neg (by omega)]
        rw [hi]
        exact ⟨⟨.inl ⟨_, _, hO, hall hT⟩, h.inc, h.lt⟩, fun q => by omega⟩
    · -- one who steals, behind the owner's
      obtain ⟨k, hk⟩ : ∃ k, n = l1.length + 1 + k := ⟨n - (l1.length + 1), by omega⟩
      have hcat : l = (l1 ++ [p]) ++ l2 := by rw [hl]; simp
      have hlen : (l1 ++ [p]).length = l1.length + 1 := by simp
      have hn2 : l2[k]? = some o := by
        rw [hcat, List.getElem?_append_right (by rw [hlen]; omega), hlen, show n - (l1.length + 1) = k by omega] at hn
        exact hn
      obtain ⟨hkl, -⟩ := List.getElem?_eq_some_iff.1 hn2
      have hth := h3 o (List.mem_of_getElem? hn2)
      have hmem : ∀ z, z ∈ l2.take k ∨ z ∈ l2.drop (k + 1) → z ∈ l2 := fun z hz => hz.elim (fun q => List.mem_of_mem_take q) (fun q => List.mem_of_mem_drop q)
      have hset1 : l.set n o' = l1 ++ p :: l2.set k o' := by rw [hcat, List.set_append_right _ _ (by rw [hlen]; omega), hlen, show n - (l1.length + 1) = k by omega]; simp
      have hera1 : l.eraseIdx n = l1 ++ p :: l2.eraseIdx k := by rw [hcat, List.eraseIdx_append_of_length_le (by rw [hlen]; omega), hlen, show n - (l1.length + 1) = k by omega]; simp
      have hs1 : l2.set k o' = l2.take k ++ o' :: l2.drop (k + 1) := List.set_eq_take_append_cons_drop.trans (if_pos hkl)
      have he1 : l2.eraseIdx k = l2.take k ++ l2.drop (k + 1) := List.eraseIdx_eq_take_drop_succ l2 k
      have hst := steal_step h1 hth
      rw [hq] at hst
      rcases hst with ⟨hg, r, e, hO, hT⟩ | ⟨hg, e, hT⟩
      · dsimp only at hg e hO hT
        refine ⟨fun c => by omega, fun _ => ?_⟩
        have hi : innE o' inn = r := by unfold innE; rw [if_pos hg, if_neg (by rw [hkd, hth.kind]; decide), e]; simp
        rw [hi, hera1]
        have hinc := h.inc
        rw [e] at hinc
        refine ⟨⟨.inr ⟨l1, p, l2.eraseIdx k, B, SB, rfl, hO, fun z hz => hT z (h2 z hz), fun z hz => ?_, fun q => ⟨(h4 q).1, fun y hy => (h4 q).2 y (by rw [e]; exact List.mem_cons_of_mem _ hy)⟩⟩, (List.pairwise_cons.1 hinc).2, fun y hy => h.lt y (by rw [e]; exact List.mem_cons_of_mem _ hy)⟩, fun _ _ => by rw [e]; exact List.mem_cons_self⟩
        rw [he1] at hz
        exact hT z (h3 z (hmem z (List.mem_append.1 hz)))
      · dsimp only at hg e hT
        subst e
        have hi : innE o' inn = inn := by unfold innE; rw [if_neg hg]
        rw [hi, hset1, hera1]
        refine ⟨fun c => ⟨.inr ⟨l1, p, _, B, SB, rfl, h1, h2, fun z hz => ?_, h4⟩, h.inc, h.lt⟩, fun c => ⟨⟨.inr ⟨l1, p, _, B, SB, rfl, h1, h2, fun z hz => ?_, h4⟩, h.inc, h.lt⟩, fun q => absurd q hg⟩⟩
        · rw [hs1] at hz
          rcases List.mem_append.1 hz with hz | hz
          · exact h3 z (hmem z (.inl hz))
          · rcases List.mem_cons.1 hz with rfl | hz
            · exact hT c
            · exact h3 z (hmem z (.inr hz))
        · rw [he1] at hz
          exact h3 z (hmem z (List.mem_append.1 hz))
end Go.Proofs.Ytacadgocoleaoaa
