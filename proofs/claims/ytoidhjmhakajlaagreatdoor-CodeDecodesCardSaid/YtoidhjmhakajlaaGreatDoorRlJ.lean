/- The reader: what memory holds of it, and its small functions. -/
import Derived.Test.YtoidhjmhakajlaaGreatDoorLeadJ
import Derived.Deep.QuietTactic
import Derived.BigQuiet
namespace Go.Proofs.YtoidhjmhakajlaaGreatDoor
open Go.ChangeShapes Go.WideShapes Go.RowKit Go.Deep
set_option linter.unusedVariables false

/-- What is left to be read; or what is amiss, and how many bytes were left there. -/
inductive St
  | ok (rest : List UInt8)
  | bad (code : Int) (left : Nat)
def RByteB (B : Nat → Prop) (w : World) (b o : Nat) (x : UInt8) : Prop := B b ∧ RByte w b o x
/-- The reader's error. -/
def ErrR (bs : List UInt8) (R : Nat) (w : World) (s : St) (pos : Nat) (ev : Value) : Prop :=
  match s with
  | .ok r => ev = .nilIface ∧ bs.drop pos = r
  | .bad c n => ∃ g pl : Nat, ev = .iface 70 (.pointer (some ⟨g, 0, none⟩)) ∧ R < g ∧ w.heap[g]? = some (.cells #[.int .i64 pl, .iface 51 (.int .i64 c)] 75 (0, 0)) ∧ pl ≤ bs.length ∧ n = bs.length - pl ∧ (c = 2 ∨ c = 5)
/-- The reader in block R is in state s. -/
def Rd (bs : List UInt8) (R : Nat) (w : World) (s : St) : Prop :=
  ∃ A c pos ev, w.heap[R]? = some (.cells #[.slice A bs.length c, .int .i64 (pos : Nat), ev] 123 (0, 0)) ∧ SL w 1 (RByteB (· < R)) A c bs ∧ pos ≤ bs.length ∧ ErrR bs R w s pos ev
theorem Rd.lt {bs : List UInt8} {R : Nat} {w : World} {s : St} (h : Rd bs R w s) : R < w.heap.size := by
  obtain ⟨_, _, _, _, h1, _⟩ := h
  exact block_lt h1
theorem bytes_keep {w w' : World} {R : Nat} {A : Option Addr} {c : Nat} {bs : List UInt8} (h : SL w 1 (RByteB (· < R)) A c bs) (hk : ∀ k, k < w.heap.size → k < R → w'.heap[k]? = w.heap[k]?) : SL w' 1 (RByteB (· < R)) A c bs :=
  SL.imp (fun b o x hx => ⟨hx.1, (World.cell?_of_block (a := ⟨b, o, none⟩) (hk b (block_lt_of_cell hx.2) hx.1)).trans hx.2⟩) h
theorem ErrR.keep {bs : List UInt8} {R : Nat} {w w' : World} {s : St} {pos : Nat} {ev : Value} (h : ErrR bs R w s pos ev) (hk : ∀ (k : Nat) (cs : Array Value), w.heap[k]? = some (.cells cs 75 (0, 0)) → w'.heap[k]? = w.heap[k]?) : ErrR bs R w' s pos ev := by
  cases s with
  | ok r => exact h
  | bad c n =>
    obtain ⟨g, pl, e, h1, h2, h3⟩ := h
    exact ⟨g, pl, e, h1, (hk g _ h2).trans h2, h3⟩
/-- The reader is as it was where its block, what lies below, and errors are. -/
theorem Rd.keep {bs : List UInt8} {R : Nat} {w w' : World} {s : St} (h : Rd bs R w s) (hk : ∀ k, k < w.heap.size → k ≤ R → w'.heap[k]? = w.heap[k]?) (hs : ∀ (k : Nat) (cs : Array Value), w.heap[k]? = some (.cells cs 75 (0, 0)) → w'.heap[k]? = w.heap[k]?) : Rd bs R w' s := by
  have hl := h.lt
  obtain ⟨A, c, pos, ev, h1, h2, h3, h4⟩ := h
  exact ⟨A, c, pos, ev, (hk R hl (Nat.le_refl _)).trans h1, bytes_keep h2 (fun k hk1 hk2 => hk k hk1 (by omega)), h3, h4.keep hs⟩
theorem Rd.below {bs : List UInt8} {R : Nat} {w w' : World} {s : St} (h : Rd bs R w s) (hb : Below w.heap.size w w') : Rd bs R w' s :=
  h.keep (fun k hk _ => hb.block k hk) (fun k cs hc => hb.block k (block_lt hc))
/-- A block of another type is changed. -/
theorem Rd.other {bs : List UInt8} {R G : Nat} {w w' : World} {s : St} (h : Rd bs R w s) (hG : R < G) {cs : Array Value} {t : TypeId} (hc : w.heap[G]? = some (.cells cs t (0, 0))) (ht : t ≠ 75) (hb : ∀ k, k < w.heap.size → k ≠ G → w'.heap[k]? = w.heap[k]?) : Rd bs R w' s :=
  h.keep (fun k hk h1 => hb k hk (by omega)) (fun k ds hd => hb k (block_lt hd) (fun e => by
    subst e
    have := hd.symm.trans hc
    simp at this
    exact ht this.2.symm))

/-- What a parser makes of a state. -/
def ToldS {α : Type} (p : Pr α) (s : St) (x : α) (s' : St) : Prop :=
  match s with
  | .bad c n => s' = .bad c n
  | .ok l => match p l with
    | .ok (y, r) => x = y ∧ s' = .ok r
    | .error (c, n) => s' = .bad c n
theorem ToldS.bad {α : Type} (p : Pr α) (c : Int) (n : Nat) (x : α) : ToldS p (.bad c n) x (.bad c n) := rfl
theorem ToldS.ok {α : Type} {p : Pr α} {l r : List UInt8} {x : α} (h : p l = .ok (x, r)) : ToldS p (.ok l) x (.ok r) := by
  unfold ToldS; simp only [h]; exact ⟨trivial, trivial⟩
theorem ToldS.err {α : Type} {p : Pr α} {l : List UInt8} {c : Int} {n : Nat} (x : α) (h : p l = .error (c, n)) : ToldS p (.ok l) x (.bad c n) := by
  unfold ToldS; simp only [h]
theorem ToldS.and {α β : Type} {p : Pr α} {q : α → Pr β} {s s1 s2 : St} {x : α} {y : β} (h : ToldS p s x s1) (k : ToldS (q x) s1 y s2) : ToldS (andP p q) s y s2 := by
  cases s with
  | bad c n => obtain rfl : s1 = .bad c n := h; exact k
  | ok l =>
    unfold ToldS at h
    cases hp : p l with
    | error e =>
      obtain ⟨c, n⟩ := e
      simp only [hp] at h
      subst h
      obtain rfl : s2 = .bad c n := k
      exact ToldS.err y (by unfold andP; rw [hp])
    | ok z =>
      obtain ⟨z, r⟩ := z
      simp only [hp] at h
      obtain ⟨rfl, rfl⟩ := h
      unfold ToldS at k ⊢
      simp only [andP_ok hp]
      exact k
theorem ToldS.ret {α : Type} (x : α) (s : St) : ToldS (retP x) s x s := by
  cases s with
  | bad c n => rfl
  | ok l => exact ToldS.ok rfl
/-- Behind an error any value will do. -/
theorem ToldS.any {α : Type} {p : Pr α} {s : St} {x y : α} {c : Int} {n : Nat} (h : ToldS p s x (.bad c n)) : ToldS p s y (.bad c n) := by
  cases s with
  | bad c' n' => exact h
  | ok l =>
    unfold ToldS at h ⊢
    cases hp : p l with
    | error e => simp only [hp] at h ⊢; exact h
    | ok z => simp only [hp] at h; cases h.2

/-- What a reader's function tells. -/
def ToldR {α : Type} (bs : List UInt8) (R : Nat) (p : Pr α) (V : (Nat → Prop) → World → Value → α → Prop) (w : World) (s : St) (e : Ending) (w' : World) : Prop :=
  ∃ v x s', e = .returned v ∧ V (fun b => w.heap.size ≤ b) w' v x ∧ ToldS p s x s' ∧ Rd bs R w' s' ∧ BB w.heap.size R w w'
def VN (B : Nat → Prop) (w : World) (v : Value) (x : Int) : Prop := v = .int .i64 x ∧ okN x
def VM (lim : Nat) (B : Nat → Prop) (w : World) (v : Value) (x : Int) : Prop := v = .int .i64 x ∧ 0 ≤ x ∧ x ≤ lim
def VU (B : Nat → Prop) (w : World) (v : Value) (n : Nat) : Prop := v = .int .u64 n ∧ okU n
/-- The state behind fail. -/
def failS (bs : List UInt8) (s : St) (c : Int) (pl : Nat) : St := match s with
  | .ok _ => .bad c (bs.length - pl)
  | b => b
def ToldF (bs : List UInt8) (R : Nat) (w : World) (s : St) (e : Ending) (w' : World) : Prop := e = .returned (.tuple #[]) ∧ Rd bs R w' s ∧ BB w.heap.size R w w'

set_option maxRecDepth 100000 in
set_option maxHeartbeats 1000000 in
theorem fail_any (bs : List UInt8) (R : Nat) (w : World) (s : St) (pl : Nat) (cd : Int) (hr : Rd bs R w s) (hpl : pl ≤ bs.length) (hcd : cd = 2 ∨ cd = 5) :
    Calls Tryz.prog 85 #[.pointer (some ⟨R, 0, none⟩), .int .i64 pl, .int .i64 cd] w (ToldF bs R w (failS bs s cd pl)) := by
  have hr0 := hr
  have hlt := hr.lt
  obtain ⟨A, c, pos, ev, h1, h2, h3, h4⟩ := hr
  have HC := Lib.hid h1
  have HCD := Lib.hid hcd
  clear hcd
  have c2 := cell_of_block h1 2
  have f2 := free_of_block h1 2
  clear h1
  cases s with
  | ok r =>
    obtain ⟨rfl, h5⟩ := h4
    have H5 := Lib.hid h5
    clear h5 hr0
    go_enter Tryz.func85, Tryz.ntmps85
    go_wp2_with fail
    go_end0
    have e := set_of_block (i := 2) (.iface 70 (.pointer (some ⟨w.heap.size, 0, none⟩))) HC.out
    have hsz : (w.setCell ⟨R, 2, none⟩ (.iface 70 (.pointer (some ⟨w.heap.size, 0, none⟩)))).heap.size = w.heap.size := by simp [World.setCell]
    generalize hW : w.setCell ⟨R, 2, none⟩ (.iface 70 (.pointer (some ⟨w.heap.size, 0, none⟩))) = W at *
    have hbb : BB w.heap.size R w W := by rw [← hW]; exact (BB.refl w.heap.size R w).setCell (p := ⟨R, 2, none⟩) (.inl rfl) _
    refine ⟨rfl, ⟨A, c, pos, _, (Below.heap_alloc _ _ _ (by omega)).trans e, bytes_keep h2 (fun k hk hk2 => (Below.heap_alloc _ _ _ (by omega)).trans (hbb.block k hk (by omega))), h3, w.heap.size, pl, rfl, hlt, ?_, hpl, rfl, HCD.out⟩, hbb.alloc (by omega) _⟩
    rw [← hsz]; exact heap_alloc_new _ _
  | bad c' n' =>
    obtain ⟨g, p, rfl, -⟩ := h4
    go_enter Tryz.func85, Tryz.ntmps85
    go_wp2_with fail
    go_end0
    exact ⟨rfl, hr0, BB.refl _ _ _⟩

/-- Bytes from a place on. -/
theorem bytes_from {w : World} {R b o c pos : Nat} {bs : List UInt8} (h : SL w 1 (RByteB (· < R)) (some ⟨b, o, none⟩) c bs) (hp : pos ≤ bs.length) : SL w 1 RByte (some ⟨b, o + pos, none⟩) (c - pos) (bs.drop pos) := by
  obtain ⟨h1, ⟨h2, _⟩, h3⟩ := h
  refine ⟨by rw [List.length_drop]; omega, ⟨by omega, fun e => by cases e⟩, fun hl => ?_⟩
  rw [List.length_drop] at hl
  obtain ⟨b', o', e, hx⟩ := h3 (by omega)
  simp only [Option.some.injEq, Addr.mk.injEq] at e
  obtain ⟨rfl, rfl, -⟩ := e
  refine ⟨b, o + pos, rfl, fun i x hi => ?_⟩
  rw [List.getElem?_drop] at hi
  have := (hx (pos + i) x hi).2
  rwa [show o + (pos + i) * 1 = o + pos + i * 1 by omega] at this
theorem bytes_none {w : World} {A : Option Addr} (c : Nat) (hc : c ≤ maxLen) (ha : A = none → c = 0) : SL w 1 RByte A c [] := ⟨Nat.zero_le _, ⟨hc, ha⟩, fun h => absurd h (by simp)⟩
theorem leading_len (l : List UInt8) (n : Nat) (hn : n = l.length) (A : Option Addr) (c : Nat) (w : World) (hl : SL w 1 RByte A c l) :
    Calls Tryz.prog 129 #[.slice A n c] w fun e w' => e = .returned (.tuple #[.int .u64 (leadV l).1, .int .i64 (leadV l).2]) ∧ w = w' := by
  subst hn; exact leading_any l A c w hl

theorem size_byte (w : World) : (sizeOf (Tryz.prog.elem 27)).run Tryz.prog w = .ok 1 w := by kernel_rfl
theorem elem_bytes : Tryz.prog.underlying 27 = some (.slice (Tryz.prog.elem 27)) := by kernel_rfl
/-- Bytes are cut at a place. -/
theorem cut_at {w : World} {R : Nat} {A : Option Addr} {c pos : Nat} {bs : List UInt8} (h : SL w 1 (RByteB (· < R)) A c bs) (hp : pos ≤ bs.length) :
    ∃ A' c', (∀ W, (Instr.slice 27 (.slice A bs.length c) (some (.int .i64 pos)) none none).run Tryz.prog W = .ok (.slice A' (bs.length - pos) c') W) ∧ SL w 1 RByte A' c' (bs.drop pos) := by
  have hbc := h.1
  have hm := h.2.1
  have hrun : ∀ W, (Instr.slice 27 (.slice A bs.length c) (some (.int .i64 pos)) none none).run Tryz.prog W = .ok (sliced A pos bs.length c 1) W := fun W => by
    rw [run_slice_l W 27 A bs.length c elem_bytes .i64 pos (by omega) (by omega), size_byte]
    simp [Result.andThen]
  cases A with
  | none =>
    obtain rfl : c = 0 := hm.2 rfl
    obtain rfl : bs = [] := List.length_eq_zero_iff.1 (by omega)
    obtain rfl : pos = 0 := by simpa using hp
    exact ⟨none, 0, fun W => (hrun W).trans (by rfl), bytes_none 0 (by unfold maxLen; omega) (fun _ => rfl)⟩
  | some ad =>
    by_cases hpc : c = pos
    · have hd : bs.drop pos = [] := List.drop_eq_nil_of_le (by omega)
      refine ⟨some ad, c - pos, fun W => (hrun W).trans (by unfold sliced; rw [if_pos hpc]), ?_⟩
      rw [hd]
      exact bytes_none _ (by omega) (fun e => by cases e)
    · have hf := h
      rcases Nat.eq_zero_or_pos bs.length with h0 | h0
      · obtain rfl : bs = [] := List.length_eq_zero_iff.1 h0
        refine ⟨some (ad.add (pos * 1)), c - pos, fun W => (hrun W).trans (by unfold sliced; rw [if_neg hpc]; rfl), ?_⟩
        rw [List.drop_nil]
        exact bytes_none _ (by omega) (fun e => by cases e)
      · obtain ⟨b, o, e, _⟩ := h.2.2 h0
        obtain rfl := Option.some.inj e
        refine ⟨some ⟨b, o + pos, none⟩, c - pos, fun W => (hrun W).trans (by unfold sliced; rw [if_neg hpc, Option.map_some, add_plain', Nat.mul_one]), bytes_from h hp⟩
theorem Rd.set_pos {bs : List UInt8} {R : Nat} {w : World} {s : St} {A : Option Addr} {c pos pos' : Nat} {ev : Value} (h1 : w.heap[R]? = some (.cells #[.slice A bs.length c, .int .i64 (pos : Nat), ev] 123 (0, 0)))
    (h2 : SL w 1 (RByteB (· < R)) A c bs) (h3 : pos' ≤ bs.length) (h4 : ErrR bs R w s pos' ev) : Rd bs R (w.setCell ⟨R, 1, none⟩ (.int .i64 (pos' : Nat))) s :=
  ⟨A, c, pos', ev, set_of_block (i := 1) (.int .i64 (pos' : Nat)) h1, bytes_keep h2 (fun k hk hkR => Below.heap_setCell _ _ _ _ (by show k ≠ R; omega)), h3, h4.keep (fun k cs hk => Below.heap_setCell _ _ _ _ (by
    show k ≠ R
    intro e; subst e
    have := hk.symm.trans h1
    simp at this))⟩
set_option maxRecDepth 100000 in
set_option maxHeartbeats 1000000 in
theorem anyNumber_any (bs : List UInt8) (R : Nat) (w : World) (s : St) (hr : Rd bs R w s) :
    Calls Tryz.prog 109 #[.pointer (some ⟨R, 0, none⟩)] w (ToldR bs R anyP VU w s) := by
  have hr0 := hr
  have hlt := hr.lt
  obtain ⟨A, c, pos, ev, h1, h2, h3, h4⟩ := hr
  have HC := Lib.hid h1
  have c0 := cell_of_block h1 0
  have c1 := cell_of_block h1 1
  have f1 := free_of_block h1 1
  have c2 := cell_of_block h1 2
  clear h1
  cases s with
  | bad c' n' =>
    obtain ⟨g, p, rfl, -⟩ := h4
    go_enter Tryz.func109, Tryz.ntmps109
    go_wp2_with fail
    go_ret
    exact ⟨_, 0, _, rfl, ⟨rfl, by unfold okU; omega⟩, rfl, hr0, BB.refl _ _ _⟩
  | ok r =>
    obtain ⟨rfl, h5⟩ := h4
    have hbl : bs.length ≤ 9223372036854775807 := by have := h2.1; have := h2.2.1.1; unfold maxLen at this; omega
    have hbc := h2.1
    have hcl : c ≤ 9223372036854775807 := by have := h2.2.1.1; unfold maxLen at this; omega
    have hp0 : (0 : Int) ≤ pos := by omega
    have hp1 : (pos : Int) ≤ bs.length := by omega
    obtain ⟨A', c', hA', hSL⟩ := cut_at h2 h3
    rw [h5] at hSL
    have HL : Hid (∀ j, Calls Tryz.prog 129 #[.slice A' (bs.length - pos) c'] (w.drewN j) fun e w' => e = .returned (.tuple #[.int .u64 (leadV r).1, .int .i64 (leadV r).2]) ∧ ∃ m, w' = (w.drewN j).drewN m) :=
      Lib.hid (fun j => (leading_len r _ (by rw [← h5, List.length_drop]) A' c' (w.drewN j) hSL).mono (fun e w' h => ⟨h.1, 0, h.2.symm⟩))
    obtain ⟨n, hn⟩ : ∃ n : Nat, n = (leadV r).1 := ⟨_, rfl⟩
    obtain ⟨k, hk⟩ : ∃ k : Nat, k = (leadV r).2 := ⟨_, rfl⟩
    rw [← hn, ← hk] at HL
    have H5 := Lib.hid h5
    clear h5
    cases hle : leadK 0 r with
    | none =>
      obtain ⟨rfl, rfl⟩ : n = 0 ∧ k = 0 := by unfold leadV at hn hk; rw [hle] at hn hk; exact ⟨hn, hk⟩
      have HLE := Lib.hid hle
      clear hle hn hk
      go_enter Tryz.func109, Tryz.ntmps109
      go_wp2_with fail
      go_quiet ((go_at_call 129; exact Calls.quiet_of (HL.out _)))
      go_wp2_with fail
      refine (fail_any bs R _ (.ok r) pos 2 (hr0.below (below_drewN (Below.refl _ _) _)) h3 (.inl rfl)).mono ?_
      rintro e w2 ⟨rfl, hr2, hb2⟩
      have hlt2 := hr2.lt
      obtain ⟨A2, c2', pos2, ev2, k1, k2, k3, k4⟩ := hr2
      have HC2 := Lib.hid k1
      have d1 := cell_of_block k1 1
      have g1 := free_of_block k1 1
      clear k1 c0 c1 c2 f1
      have hp2 : pos2 ≤ 9223372036854775807 := by omega
      go_wp2_with fail
      go_ret
      refine ⟨_, 0, .bad 2 (bs.length - pos), rfl, ⟨rfl, by unfold okU; omega⟩, ToldS.err 0 (by unfold anyP; rw [HLE.out]; dsimp only; rw [← H5.out, List.length_drop]), Rd.set_pos HC2.out k2 k3 k4, ?_⟩
      exact ((BB.of_below (below_drewN (Below.refl _ _) _) (Nat.le_refl _)).trans hb2).setCell (.inl rfl) _
    | some z =>
      obtain ⟨a, b⟩ := z
      obtain ⟨rfl, rfl⟩ : n = a ∧ k = b := by unfold leadV at hn hk; rw [hle] at hn hk; exact ⟨hn, hk⟩
      obtain ⟨l1, l2, l3⟩ := lead0_back hle
      have hk1 : 1 ≤ k := by
        have h := congrArg List.length l1
        rw [List.length_take, Nat.min_eq_left l3] at h
        have := numB_pos n
        omega
      have hrl : r.length = bs.length - pos := by rw [← H5.out, List.length_drop]
      have hkb : pos + k ≤ bs.length := by omega
      have hkz : ((k : Int) == 0) = false := by simp; omega
      have HLE := Lib.hid hle
      have HL2 := Lib.hid l2
      clear hle hn hk l1 l2 hrl l3
      go_enter Tryz.func109, Tryz.ntmps109
      go_wp2_with fail
      go_quiet ((go_at_call 129; exact Calls.quiet_of (HL.out _)))
      go_wp2_with fail
      go_ret
      refine ⟨_, n, .ok (r.drop k), rfl, ⟨rfl, HL2.out⟩, ToldS.ok (by unfold anyP; rw [HLE.out]), ?_, ?_⟩
      · rw [show (pos : Int) + (k : Int) = ((pos + k : Nat) : Int) by omega]
        exact Rd.set_pos (w := w.drewN nq) HC.out h2 hkb ⟨rfl, by rw [← H5.out, List.drop_drop]⟩
      · exact BB.setCell (p := ⟨R, 1, none⟩) (BB.of_below (n := w.heap.size) (g := R) (below_drewN (Below.refl w.heap.size w) nq) (Nat.le_refl _)) (.inl rfl) _

theorem ToldS.fail {α : Type} {p q : Pr α} {s s1 : St} {x y : α} {bs : List UInt8} {c : Int} {pos : Nat} (h : ToldS p s x s1) (hs : ∀ l, s = .ok l → l.length = bs.length - pos) (hq : ∀ l, (∀ e, p l = .error e → q l = .error e) ∧ (∀ r, p l = .ok (x, r) → q l = .error (c, l.length))) : ToldS q s y (failS bs s1 c pos) := by
  cases s with
  | bad c' n' => obtain rfl : s1 = .bad c' n' := h; rfl
  | ok l =>
    unfold ToldS at h
    cases hp : p l with
    | error e =>
      obtain ⟨c', n'⟩ := e
      simp only [hp] at h
      subst h
      exact ToldS.err y ((hq l).1 _ hp)
    | ok z =>
      obtain ⟨z, r⟩ := z
      simp only [hp] at h
      obtain ⟨rfl, rfl⟩ := h
      have := (hq l).2 _ hp
      show ToldS q (.ok l) y (.bad c (bs.length - pos))
      rw [← hs l rfl]
      exact ToldS.err y this
theorem ToldS.pass {α : Type} {p : Pr α} {β : Type} {q : Pr β} {s s1 : St} {x : α} {y : β} (h : ToldS p s x s1) (hq : ∀ l, (∀ e, p l = .error e → q l = .error e) ∧ (∀ r, p l = .ok (x, r) → q l = .ok (y, r))) : ToldS q s y s1 := by
  cases s with
  | bad c' n' => exact h
  | ok l =>
    unfold ToldS at h
    cases hp : p l with
    | error e =>
      obtain ⟨c', n'⟩ := e
      simp only [hp] at h
      subst h
      exact ToldS.err y ((hq l).1 _ hp)
    | ok z =>
      obtain ⟨z, r⟩ := z
      simp only [hp] at h
      obtain ⟨rfl, rfl⟩ := h
      exact ToldS.ok ((hq l).2 _ hp)

set_option maxRecDepth 100000 in
set_option maxHeartbeats 1000000 in
theorem rnumber_any (bs : List UInt8) (R : Nat) (w : World) (s : St) (hr : Rd bs R w s) :
    Calls Tryz.prog 87 #[.pointer (some ⟨R, 0, none⟩)] w (ToldR bs R numP VN w s) := by
  have hr0 := hr
  obtain ⟨A, c, pos, ev, h1, h2, h3, h4⟩ := hr
  have c1 := cell_of_block h1 1
  have hs : ∀ l, s = .ok l → l.length = bs.length - pos := fun l e => by subst e; rw [← h4.2, List.length_drop]
  have HS := Lib.hid hs
  clear h1 h4 hs
  go_enter Tryz.func87, Tryz.ntmps87
  go_wp2_with fail
  refine (anyNumber_any bs R w s hr0).mono ?_
  rintro e w1 ⟨v, n, s1, rfl, ⟨rfl, hn⟩, ht, hr1, hb1⟩
  have HN := Lib.hid hn
  clear hn c1
  by_cases hgt : 2147483648 < n
  · have HG := Lib.hid hgt
    go_wp2_with fail
    refine (fail_any bs R w1 s1 pos 2 hr1 h3 (.inl rfl)).mono ?_
    rintro e w2 ⟨rfl, hr2, hb2⟩
    go_wp2_with fail
    go_ret
    exact ⟨_, 0, _, rfl, ⟨rfl, by unfold okN; omega⟩, by
      cases s with
      | bad c' n' => obtain rfl : s1 = .bad c' n' := ht; rfl
      | ok l =>
        unfold ToldS at ht
        cases hp : anyP l with
        | error e =>
          obtain ⟨c', n'⟩ := e
          simp only [hp] at ht
          subst ht
          exact ToldS.err 0 (by unfold numP; rw [hp])
        | ok z =>
          obtain ⟨z, r⟩ := z
          simp only [hp] at ht
          obtain ⟨rfl, rfl⟩ := ht
          show ToldS numP (.ok l) 0 (.bad 2 (bs.length - pos))
          rw [← HS.out l rfl]
          exact ToldS.err 0 (by unfold numP; rw [hp]; dsimp only; rw [if_pos HG.out]), hr2, hb1.trans (hb2.mono hb1.size)⟩
  · have HG := Lib.hid hgt
    have hn2 : n ≤ 2147483648 := by omega
    go_wp2_with fail
    go_ret
    refine ⟨_, (n : Int), s1, rfl, ⟨rfl, by unfold okN; omega⟩, ht.pass (fun l => ⟨fun e he => by unfold numP; rw [he], fun r hr => by unfold numP; rw [hr]; dsimp only; rw [if_neg HG.out]⟩), hr1, hb1⟩

set_option maxRecDepth 100000 in
set_option maxHeartbeats 1000000 in
theorem many_any (bs : List UInt8) (R lim : Nat) (w : World) (s : St) (hr : Rd bs R w s) (hlim : lim ≤ 256) :
    Calls Tryz.prog 86 #[.pointer (some ⟨R, 0, none⟩), .int .i64 lim] w (ToldR bs R (manyP lim) (VM lim) w s) := by
  have hr0 := hr
  obtain ⟨A, c, pos, ev, h1, h2, h3, h4⟩ := hr
  have c1 := cell_of_block h1 1
  have hs : ∀ l, s = .ok l → l.length = bs.length - pos := fun l e => by subst e; rw [← h4.2, List.length_drop]
  have HS := Lib.hid hs
  clear h1 h4 hs
  go_enter Tryz.func86, Tryz.ntmps86
  go_wp2_with fail
  refine (rnumber_any bs R w s hr0).mono ?_
  rintro e w1 ⟨v, n, s1, rfl, ⟨rfl, hn⟩, ht, hr1, hb1⟩
  have hn1 := hn.1
  have hn2 := hn.2
  clear hn c1
  by_cases hgt : (lim : Int) < n
  · have HG := Lib.hid hgt
    go_wp2_with fail
    refine (fail_any bs R w1 s1 pos 5 hr1 h3 (.inr rfl)).mono ?_
    rintro e w2 ⟨rfl, hr2, hb2⟩
    go_wp2_with fail
    go_ret
    exact ⟨_, 0, _, rfl, ⟨rfl, by omega, by omega⟩, ht.fail HS.out (fun l => ⟨fun e he => by unfold manyP; rw [he], fun r hr => by unfold manyP; rw [hr]; dsimp only; rw [if_pos HG.out]⟩), hr2, hb1.trans (hb2.mono hb1.size)⟩
  · have HG := Lib.hid hgt
    go_wp2_with fail
    go_ret
    exact ⟨_, n, s1, rfl, ⟨rfl, hn1, by have := HG.out; omega⟩, ht.pass (fun l => ⟨fun e he => by unfold manyP; rw [he], fun r hr => by unfold manyP; rw [hr]; dsimp only; rw [if_neg (by have := HG.out; omega)]⟩), hr1, hb1⟩
end Go.Proofs.YtoidhjmhakajlaaGreatDoor

/- The reader's lists: what memory holds of them from round to round. -/
namespace Go.Proofs.YtoidhjmhakajlaaGreatDoor
open Go.ChangeShapes Go.WideShapes Go.RowKit Go.Deep
set_option linter.unusedVariables false

theorem own_type {w : World} {base n : Nat} {e : TypeId} {size : Nat} {v : Value} {xs : List Value} (h : w.ownsRow base e size v n xs) {g : Nat} (hg : v.ownBlock = some g) : ∃ cur, w.heap[g]? = some (.cells cur e (0, 0)) := by
  rcases h.2 with ⟨rfl, _⟩ | ⟨g', c, cur, rfl, _, hh, _⟩
  · cases hg
  · obtain rfl : g' = g := Option.some.inj hg
    exact ⟨cur, hh⟩
theorem KeptB.below {B : Nat → Prop} {w w' : World} (h : Below w.heap.size w w') : KeptB B w w' := KeptB.of (kept_of_below h)

theorem rl_step {α : Type} {sz N R : Nat} {T : TypeId} {F : (Nat → Prop) → World → α → List Value → Prop} (Fgo : ∀ (B B' : Nat → Prop) (w w' : World) (x : α) (cs : List Value), KeptB B w w' → (∀ b, B b → B' b) → F B w x cs → F B' w' x cs)
    (Flt : ∀ (B : Nat → Prop) (w : World) (x : α) (cs : List Value), F B w x cs → F (fun b => B b ∧ b < w.heap.size) w x cs) {bs : List UInt8} {wr w2 w3 : World} {u : Value} {l : List α} {cs c : List Value} {x : α} {s2 : St} {o : Obj} {g k n cap : Nat}
    (hT : T ≠ 75) (hN : R < N) (hNw : N ≤ wr.heap.size) (hown : wr.ownsRow N T sz u k cs) (hrows : Rows sz (F (fun b => N ≤ b ∧ some b ≠ u.ownBlock) wr) l cs)
    (hb2 : BB wr.heap.size R wr w2) (hr2 : Rd bs R w2 s2) (hx : F (fun b => wr.heap.size ≤ b) w2 x c) (hc : c.length = sz) (hgr : (w2.alloc o).grownBy w3 u.ownBlock) (hloc : u.ownBlock = some g ∨ g = w2.heap.size + 1) :
    Rd bs R w3 s2 ∧ BB N R wr w3 ∧ Rows sz (F (fun b => N ≤ b ∧ some b ≠ (Value.slice (some ⟨g, 0, none⟩) n cap).ownBlock) w3) (l ++ [x]) (cs ++ c) := by
  have hsz := hb2.size
  have hu : ∀ y, u.ownBlock = some y → N ≤ y ∧ y < wr.heap.size := fun y hy => hown.lt y hy
  have hown2 : (w2.alloc o).ownsRow N T sz u k cs := World.ownsRow.alloc (own_block hown (fun y hy => hb2.block y (hu y hy).2 (by have := (hu y hy).1; omega))) o
  have hr2' : Rd bs R (w2.alloc o) s2 := hr2.below ((Below.refl _ _).alloc (Nat.le_refl _) o)
  refine ⟨?_, ?_, ?_⟩
  · cases ho : u.ownBlock with
    | none => exact hr2'.keep (fun y hy _ => hgr.block y hy (by rw [ho]; simp)) (fun y ds hd => hgr.block y (block_lt hd) (by rw [ho]; simp))
    | some G =>
      obtain ⟨cur, hcur⟩ := own_type hown2 ho
      exact hr2'.other (by have := (hu G ho).1; omega) hcur hT (fun y hy hyG => hgr.block y hy (by rw [ho]; simpa using hyG))
  · exact (hb2.mono hNw).trans (((BB.refl N R w2).alloc (by omega) o).grown hgr (by simp; omega) (fun y hy => .inr (hu y hy).1))
  · have hk1 : KeptB (fun b => (N ≤ b ∧ some b ≠ u.ownBlock) ∧ b < wr.heap.size) wr w3 :=
      ((hb2.kept.mono (fun b hb => ⟨hb.2, by omega⟩)).trans (KeptB.of (kept_alloc w2 o))).trans ((keptB_grown hgr).mono (fun b hb => hb.1.2))
    have hk2 : KeptB (fun b => wr.heap.size ≤ b ∧ b < w2.heap.size) w2 w3 :=
      (KeptB.of (kept_alloc w2 o)).trans ((keptB_grown hgr).mono (fun b hb e => by have := (hu b e.symm).2; omega))
    refine Rows.push Fgo Flt hrows hk1 (fun b h1 h2 h3 e => ?_) hc (Fgo _ _ _ _ _ _ hk2 (fun b hb => ⟨by omega, fun e => ?_⟩) (Flt _ _ _ _ hx))
    · have hbg : b = g := Option.some.inj e
      rcases hloc with h | h
      · exact h2 (by rw [h, hbg])
      · omega
    · have hbg : b = g := Option.some.inj e
      rcases hloc with h | h
      · have := (hu g h).2; omega
      · omega

/-! ### What is told, by value -/
def CInt (B : Nat → Prop) (w : World) (x : Int) (cs : List Value) : Prop := cs = [.int .i64 x] ∧ I64 x
theorem CInt.go {B B' : Nat → Prop} {w w' : World} {x : Int} {cs : List Value} (hv : CInt B w x cs) : CInt B' w' x cs := hv
theorem CInt.reads {B : Nat → Prop} {w : World} {g o : Nat} {x : Int} {c : List Value} (hg : B g) (h : CInt B w x c) (hc : ∀ j v, c[j]? = some v → w.cell? ⟨g, o + j, none⟩ = some v) : RIntB B w g o x := by
  obtain ⟨rfl, h1⟩ := h
  exact ⟨hg, hc 0 _ rfl, h1⟩
def VL {α : Type} (sz : Nat) (RB : (Nat → Prop) → World → Nat → Nat → α → Prop) (B : Nat → Prop) (w : World) (v : Value) (l : List α) : Prop := ∃ A c, v = .slice A l.length c ∧ SL w sz (RB B) A c l
theorem VL.nil {α : Type} (sz : Nat) (RB : (Nat → Prop) → World → Nat → Nat → α → Prop) (B : Nat → Prop) (w : World) : VL sz RB B w (.slice none 0 0) ([] : List α) :=
  ⟨none, 0, rfl, Nat.le_refl _, ⟨by unfold maxLen; omega, fun _ => rfl⟩, fun h => absurd h (by simp)⟩
def VPhiB (B : Nat → Prop) (w : World) (v : Value) (p : PhiD) : Prop := ∃ A c, v = .agg #[.int .i64 p.dst, .slice A p.args.length c] ∧ SL w 1 (RIntB B) A c p.args ∧ I64 p.dst
def VTermB (B : Nat → Prop) (w : World) (v : Value) (t : TermD) : Prop := ∃ A c, v = .agg #[.int .i64 t.kind, .int .i64 t.arg, .slice A t.to.length c] ∧ SL w 1 (RIntB B) A c t.to ∧ I64 t.kind ∧ I64 t.arg
def VInsB (B : Nat → Prop) (w : World) (v : Value) (x : InsD) : Prop :=
  ∃ A c, v = .agg #[.int .i64 x.op, .int .i64 x.dst, .slice A x.args.length c, .int .i64 x.imm, .int .i64 x.fn] ∧ SL w 1 (RIntB B) A c x.args ∧ I64 x.op ∧ I64 x.dst ∧ I64 x.imm ∧ I64 x.fn
def VBlkB (B : Nat → Prop) (w : World) (v : Value) (k : BlkD) : Prop :=
  ∃ Ap cp Ai ci At ct, v = .agg #[.slice Ap k.phis.length cp, .slice Ai k.ins.length ci, .int .i64 k.term.kind, .int .i64 k.term.arg, .slice At k.term.to.length ct] ∧
    SL w 2 (RPhiB B) Ap cp k.phis ∧ SL w 5 (RInsB B) Ai ci k.ins ∧ SL w 1 (RIntB B) At ct k.term.to ∧ I64 k.term.kind ∧ I64 k.term.arg
def VFunB (B : Nat → Prop) (w : World) (v : Value) (f : FunD) : Prop :=
  ∃ Ar cr Ab cb, v = .agg #[.int .i64 f.params, .int .i64 f.result, .slice Ar f.regs.length cr, .slice Ab f.blocks.length cb] ∧ SL w 1 (RIntB B) Ar cr f.regs ∧ SL w 5 (RBlkB B) Ab cb f.blocks ∧ I64 f.params ∧ I64 f.result
theorem i64_of_ok {x : Int} (h : okN x) : I64 x := by unfold okN at h; unfold I64; omega
theorem i64_of_ok1 {x : Int} (h : okN x) : I64 (x - 1) := by unfold okN at h; unfold I64; omega

/-! ### Told lists -/
theorem told_list {α : Type} {p : Pr α} {lim n : Nat} {s s1 : St} (h : ToldS (manyP lim) s (n : Int) s1) {l : List α} {s' : St} (k : ToldS (repP p n) s1 l s') : ToldS (listP p lim) s l s' :=
  ToldS.and h (by rwa [Int.toNat_natCast])
theorem told_next {α : Type} {p : Pr α} {m : Nat} {s s1 s' : St} {x : α} {ys : List α} (h : ToldS p s x s1) (k : ToldS (repP p m) s1 ys s') : ToldS (repP p (m + 1)) s (x :: ys) s' := by
  rw [repP]
  exact ToldS.and h (ToldS.and k (ToldS.ret _ _))
/-- k elements are read, l; n are to be read. -/
def Inv {α : Type} (p : Pr α) (n k : Nat) (s1 sk : St) (l : List α) : Prop := ∀ ys s', ToldS (repP p (n - k)) sk ys s' → ToldS (repP p n) s1 (l ++ ys) s'
theorem Inv.zero {α : Type} (p : Pr α) (n : Nat) (s1 : St) : Inv p n 0 s1 s1 [] := fun ys s' h => h
theorem Inv.next {α : Type} {p : Pr α} {n k : Nat} {s1 sk s2 : St} {l : List α} {x : α} (h : Inv p n k s1 sk l) (hk : k < n) (ht : ToldS p sk x s2) : Inv p n (k + 1) s1 s2 (l ++ [x]) := fun ys s' hy => by
  rw [List.append_assoc]
  exact h _ _ (by rw [show n - k = n - (k + 1) + 1 by omega]; exact told_next ht hy)
theorem Inv.done {α : Type} {p : Pr α} {n : Nat} {s1 sk : St} {l : List α} (h : Inv p n n s1 sk l) : ToldS (repP p n) s1 l sk := by
  have := h [] sk (by rw [Nat.sub_self]; exact ToldS.ret _ _)
  rwa [List.append_nil] at this
theorem Inv.stop {α : Type} {p : Pr α} {n k : Nat} {s1 sk : St} {l : List α} {x : α} {c : Int} {m : Nat} (h : Inv p n k s1 sk l) (hk : k < n) (ht : ToldS p sk x (.bad c m)) (y : List α) : ToldS (repP p n) s1 y (.bad c m) := by
  have := h [x] (.bad c m) (by rw [show n - k = n - (k + 1) + 1 by omega]; exact told_next ht rfl)
  exact this.any
end Go.Proofs.YtoidhjmhakajlaaGreatDoor
