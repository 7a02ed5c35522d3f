/- A module's bytes, and how bytes are read, as functions over lists: plain mathematics. -/
import Derived.Test.YtoidhjmhakajlaaGreatDoorInsJ
namespace Go.Proofs.YtoidhjmhakajlaaGreatDoor
open Go.RowKit
set_option linter.unusedVariables false

/-! ### Bytes that are written -/
/-- A number's bytes. -/
def numB (n : Nat) : List UInt8 := if n < 128 then [UInt8.ofNat n] else UInt8.ofNat (n % 128 + 128) :: numB (n / 128)
termination_by n
decreasing_by omega
def intB (x : Int) : List UInt8 := numB x.toNat
def intsB (l : List Int) : List UInt8 := numB l.length ++ l.flatMap intB
/-- What is written for a number with a sign. -/
def zig (x : Int) : Nat := if 0 ≤ x then (2 * x).toNat else (-2 * x - 1).toNat
def phiB (p : PhiD) : List UInt8 := intB p.dst ++ intsB p.args
def insB (x : InsD) : List UInt8 := intB x.op ++ (intB (x.dst + 1) ++ (intsB x.args ++ (numB (zig x.imm) ++ intB x.fn)))
def termB (t : TermD) : List UInt8 := intB t.kind ++ (intB (t.arg + 1) ++ intsB t.to)
def phisB (l : List PhiD) : List UInt8 := numB l.length ++ l.flatMap phiB
def inssB (l : List InsD) : List UInt8 := numB l.length ++ l.flatMap insB
def blkB (b : BlkD) : List UInt8 := phisB b.phis ++ (inssB b.ins ++ termB b.term)
def blksB (l : List BlkD) : List UInt8 := numB l.length ++ l.flatMap blkB
def funB (f : FunD) : List UInt8 := intB f.params ++ (intB f.result ++ (intsB f.regs ++ blksB f.blocks))
def funsB (m : List FunD) : List UInt8 := numB m.length ++ m.flatMap funB
def markB : List UInt8 := [102, 116, 108, 49]
def modB (m : List FunD) : List UInt8 := markB ++ funsB m

/-! ### Bytes that are read -/
/-- The number that bytes begin with, and in how many of them it is written; i others were ahead. -/
def leadK : Nat → List UInt8 → Option (Nat × Nat)
  | _, [] => none
  | i, c :: r => if 9 < i then none else if 128 ≤ c.toNat then (leadK (i + 1) r).map fun p => (c.toNat - 128 + 128 * p.1, p.2 + 1)
    else if (c.toNat = 0 ∧ 0 < i) ∨ (i = 9 ∧ 1 < c.toNat) then none else some (c.toNat, 1)
/-- What is amiss (an error's number, and how many bytes are left where it is), or what was read, and what is left. -/
abbrev Pr (α : Type) := List UInt8 → Except (Int × Nat) (α × List UInt8)
section
variable {α β : Type}
def retP (x : α) : Pr α := fun l => .ok (x, l)
def andP (p : Pr α) (q : α → Pr β) : Pr β := fun l => match p l with
  | .error e => .error e
  | .ok (x, r) => q x r
def anyP : Pr Nat := fun l => match leadK 0 l with
  | none => .error (2, l.length)
  | some (n, k) => .ok (n, l.drop k)
def numP : Pr Int := fun l => match anyP l with
  | .error e => .error e
  | .ok (n, r) => if 2147483648 < n then .error (2, l.length) else .ok ((n : Int), r)
def manyP (lim : Nat) : Pr Int := fun l => match numP l with
  | .error e => .error e
  | .ok (n, r) => if (lim : Int) < n then .error (5, l.length) else .ok (n, r)
def repP (p : Pr α) : Nat → Pr (List α)
  | 0 => retP []
  | k + 1 => andP p fun x => andP (repP p k) fun xs => retP (x :: xs)
def listP (p : Pr α) (lim : Nat) : Pr (List α) := andP (manyP lim) fun n => repP p n.toNat
end
/-- The number with a sign for which n is written. -/
def zag (n : Nat) : Int := if n % 2 = 0 then ((n / 2 : Nat) : Int) else -((n / 2 : Nat) : Int) - 1
def intsP : Pr (List Int) := listP numP 256
def phiP : Pr PhiD := andP numP fun d => andP intsP fun a => retP ⟨d, a⟩
def insP : Pr InsD := andP numP fun o => andP numP fun d => andP intsP fun a => andP anyP fun i => andP numP fun g => retP ⟨o, d - 1, a, zag i, g⟩
def termP : Pr TermD := andP numP fun k => andP numP fun a => andP intsP fun t => retP ⟨k, a - 1, t⟩
def blkP : Pr BlkD := andP (listP phiP 256) fun p => andP (listP insP 256) fun i => andP termP fun t => retP ⟨p, i, t⟩
def funP : Pr FunD := andP numP fun p => andP numP fun r => andP intsP fun g => andP (listP blkP 64) fun b => retP ⟨p, r, g, b⟩
def funsP : Pr (List FunD) := listP funP 32
/-- All of it: the module, or what is amiss with the bytes. -/
def readP (l : List UInt8) : Except (Int × Nat) (List FunD) :=
  if l.take 4 = markB then (match funsP (l.drop 4) with
    | .error e => .error e
    | .ok (m, r) => if r = [] then .ok m else .error (2, r.length))
  else .error (2, l.length)
/-- What Decode answers. -/
def decE (l : List UInt8) : Int × Int := match readP l with
  | .error e => (e.1, ((l.length - e.2 : Nat) : Int))
  | .ok m => modE m
def decM (l : List UInt8) : List FunD := match readP l with
  | .error _ => []
  | .ok m => if (modE m).1 = 0 then m else []

/-! ### Numbers -/
theorem numB_lt {n : Nat} (h : n < 128) : numB n = [UInt8.ofNat n] := by rw [numB, if_pos h]
theorem numB_ge {n : Nat} (h : ¬ n < 128) : numB n = UInt8.ofNat (n % 128 + 128) :: numB (n / 128) := by rw [numB, if_neg h]
theorem byte_of {n : Nat} (h : n < 256) : (UInt8.ofNat n).toNat = n := by simp; omega
theorem byte_eq {c : UInt8} {n : Nat} (h : c.toNat = n) : c = UInt8.ofNat n := by subst h; simp
theorem numB_len (n : Nat) : ∀ k, n < 128 ^ (k + 1) → (numB n).length ≤ k + 1 := by
  intro k
  induction k generalizing n with
  | zero => intro h; rw [numB_lt (by simpa using h)]; simp
  | succ k ih =>
    intro h
    by_cases h0 : n < 128
    · rw [numB_lt h0]; simp
    · rw [numB_ge h0, List.length_cons]
      have := ih (n / 128) (by rw [Nat.div_lt_iff_lt_mul (by decide)]; rwa [Nat.pow_succ] at h)
      omega
theorem numB_len10 {n : Nat} (h : n < 18446744073709551616) : (numB n).length ≤ 10 := numB_len n 9 (by omega)

/-- A number that is written is read. -/
theorem lead_num : ∀ (j : Nat) (n : Nat), j ≤ 9 → n < 2 * 128 ^ j → (j < 9 → 0 < n) → ∀ r, leadK (9 - j) (numB n ++ r) = some (n, (numB n).length) := by
  intro j
  induction j with
  | zero =>
    intro n _ h h1 r
    rw [numB_lt (by omega)]
    have hb := byte_of (n := n) (by omega)
    simp only [List.cons_append, List.nil_append, leadK, hb]
    rw [if_neg (by omega), if_neg (by omega), if_neg (by have := h1 (by omega); omega)]
    rfl
  | succ j ih =>
    intro n hj h h1 r
    by_cases h0 : n < 128
    · rw [numB_lt h0]
      have hb := byte_of (n := n) (by omega)
      simp only [List.cons_append, List.nil_append, leadK, hb]
      rw [if_neg (by omega), if_neg (by omega), if_neg (by omega)]
      rfl
    · have hb := byte_of (n := n % 128 + 128) (by omega)
      rw [numB_ge h0]
      simp only [List.cons_append, leadK, hb]
      rw [if_neg (by omega), if_pos (by omega), show 9 - (j + 1) + 1 = 9 - j by omega, ih (n / 128) (by omega) (by rw [Nat.div_lt_iff_lt_mul (by decide)]; rw [Nat.pow_succ] at h; omega) (fun _ => by omega) r]
      simp only [Option.map_some, List.length_cons, Option.some.injEq, Prod.mk.injEq, and_true]
      omega
theorem lead0 {n : Nat} (h : n < 18446744073709551616) (r : List UInt8) : leadK 0 (numB n ++ r) = some (n, (numB n).length) := lead_num 9 n (Nat.le_refl _) (by omega) (fun h => absurd h (by omega)) r
/-- What is read was written. -/
theorem lead_back : ∀ (l : List UInt8) (j : Nat) (n k : Nat), j ≤ 9 → leadK (9 - j) l = some (n, k) → l.take k = numB n ∧ n < 2 * 128 ^ j ∧ (j < 9 → 0 < n) ∧ k ≤ l.length := by
  intro l
  induction l with
  | nil => intro j n k _ h; simp [leadK] at h
  | cons c r ih =>
    intro j n k hj h
    have hc := c.toNat_lt
    simp only [leadK] at h
    rw [if_neg (by omega)] at h
    by_cases h0 : 128 ≤ c.toNat
    · rw [if_pos h0] at h
      obtain ⟨⟨a, b⟩, h2, h3⟩ := Option.map_eq_some_iff.1 h
      simp only [Prod.mk.injEq] at h3
      obtain ⟨rfl, rfl⟩ := h3
      cases j with
      | zero => 
        cases r with
        | nil => simp [leadK] at h2
        | cons d r => simp [leadK] at h2
      | succ j =>
        rw [show 9 - (j + 1) + 1 = 9 - j by omega] at h2
        obtain ⟨g1, g2, g3, g4⟩ := ih j a b (by omega) h2
        have ha : 0 < a := by
          rcases Nat.lt_or_ge j 9 with h | h
          · exact g3 h
          · omega
        refine ⟨?_, by rw [Nat.pow_succ]; omega, fun _ => by omega, by simp; omega⟩
        rw [numB_ge (by omega), List.take_succ_cons, g1]
        congr 1
        · apply byte_eq; omega
        · congr 1; omega
    · rw [if_neg h0] at h
      split at h
      · cases h
      · rename_i h4
        simp only [Option.some.injEq, Prod.mk.injEq] at h
        obtain ⟨rfl, rfl⟩ := h
        refine ⟨by rw [numB_lt (by omega)]; simp, ?_, fun _ => by omega, by simp⟩
        cases j with
        | zero => omega
        | succ j => have : 0 < 128 ^ j := Nat.pow_pos (by decide); rw [Nat.pow_succ]; omega
theorem lead0_back {l : List UInt8} {n k : Nat} (h : leadK 0 l = some (n, k)) : l.take k = numB n ∧ n < 18446744073709551616 ∧ k ≤ l.length := by
  obtain ⟨h1, h2, _, h4⟩ := lead_back l 9 n k (Nat.le_refl _) h
  exact ⟨h1, by omega, h4⟩

/-! ### What is printed is read, and the other way round -/
/-- x's bytes, with r behind them, are read as x. -/
def Prints {α : Type} (p : Pr α) (b : α → List UInt8) (ok : α → Prop) : Prop := ∀ x r, ok x → p (b x ++ r) = .ok (x, r)
def Parses {α : Type} (p : Pr α) (b : α → List UInt8) (ok : α → Prop) : Prop := ∀ l x r, p l = .ok (x, r) → l = b x ++ r ∧ ok x

def okN (x : Int) : Prop := 0 ≤ x ∧ x ≤ 2147483648
def okU (n : Nat) : Prop := n < 18446744073709551616
def okInts (l : List Int) : Prop := l.length ≤ 256 ∧ ∀ x ∈ l, okN x
def okPhi (p : PhiD) : Prop := okN p.dst ∧ okInts p.args
def okIns (x : InsD) : Prop := okN x.op ∧ okN (x.dst + 1) ∧ okInts x.args ∧ I64 x.imm ∧ okN x.fn
def okTerm (t : TermD) : Prop := okN t.kind ∧ okN (t.arg + 1) ∧ okInts t.to
def okBlk (b : BlkD) : Prop := (b.phis.length ≤ 256 ∧ ∀ p ∈ b.phis, okPhi p) ∧ (b.ins.length ≤ 256 ∧ ∀ x ∈ b.ins, okIns x) ∧ okTerm b.term
def okFun (f : FunD) : Prop := okN f.params ∧ okN f.result ∧ okInts f.regs ∧ f.blocks.length ≤ 64 ∧ ∀ b ∈ f.blocks, okBlk b
def okMod (m : List FunD) : Prop := m.length ≤ 32 ∧ ∀ f ∈ m, okFun f

theorem any_prints : Prints anyP numB okU := fun n r h => by
  unfold anyP; rw [lead0 h]; simp
theorem any_parses : Parses anyP numB okU := fun l n r h => by
  unfold anyP at h
  split at h
  · cases h
  · rename_i a k h2
    simp only [Except.ok.injEq, Prod.mk.injEq] at h
    obtain ⟨rfl, rfl⟩ := h
    obtain ⟨h3, h4, h5⟩ := lead0_back h2
    exact ⟨by rw [← h3, List.take_append_drop], h4⟩
theorem num_prints : Prints numP intB okN := fun x r h => by
  unfold numP intB
  have h1 := h.1
  have h2 := h.2
  rw [any_prints x.toNat r (by unfold okU; omega)]
  dsimp only
  rw [if_neg (by omega), Int.toNat_of_nonneg h.1]
theorem num_parses : Parses numP intB okN := fun l x r h => by
  unfold numP at h
  split at h
  · cases h
  · rename_i n r2 h2
    split at h
    · cases h
    · rename_i h3
      simp only [Except.ok.injEq, Prod.mk.injEq] at h
      obtain ⟨rfl, rfl⟩ := h
      exact ⟨(any_parses _ _ _ h2).1, by unfold okN; omega⟩
theorem many_prints {lim : Nat} (hl : lim ≤ 256) : Prints (manyP lim) intB (fun x => 0 ≤ x ∧ x ≤ lim) := fun x r h => by
  unfold manyP
  rw [num_prints x r ⟨h.1, by omega⟩]
  dsimp only
  rw [if_neg (by omega)]
theorem many_parses {lim : Nat} : Parses (manyP lim) intB (fun x => 0 ≤ x ∧ x ≤ lim) := fun l x r h => by
  unfold manyP at h
  split at h
  · cases h
  · rename_i n r2 h2
    split at h
    · cases h
    · rename_i h3
      simp only [Except.ok.injEq, Prod.mk.injEq] at h
      obtain ⟨rfl, rfl⟩ := h
      obtain ⟨g1, g2⟩ := num_parses _ _ _ h2
      exact ⟨g1, g2.1, by omega⟩
section
variable {α β : Type}
theorem andP_ok {p : Pr α} {q : α → Pr β} {l : List UInt8} {x : α} {r : List UInt8} (h : p l = .ok (x, r)) : andP p q l = q x r := by unfold andP; rw [h]
theorem andP_back {p : Pr α} {q : α → Pr β} {l : List UInt8} {y : β × List UInt8} (h : andP p q l = .ok y) : ∃ x r, p l = .ok (x, r) ∧ q x r = .ok y := by
  unfold andP at h
  split at h
  · cases h
  · rename_i x r h2; exact ⟨x, r, h2, h⟩
theorem rep_prints {p : Pr α} {b : α → List UInt8} {ok : α → Prop} (hp : Prints p b ok) : ∀ (xs : List α) r, (∀ x ∈ xs, ok x) → repP p xs.length (xs.flatMap b ++ r) = .ok (xs, r) := by
  intro xs
  induction xs with
  | nil => intro r _; rfl
  | cons x xs ih =>
    intro r h
    rw [List.length_cons, repP, List.flatMap_cons, List.append_assoc, andP_ok (hp x _ (h x (by simp))), andP_ok (ih r (fun y hy => h y (by simp [hy])))]
    rfl
theorem rep_parses {p : Pr α} {b : α → List UInt8} {ok : α → Prop} (hp : Parses p b ok) : ∀ (n : Nat) l xs r, repP p n l = .ok (xs, r) → l = xs.flatMap b ++ r ∧ xs.length = n ∧ ∀ x ∈ xs, ok x := by
  intro n
  induction n with
  | zero =>
    intro l xs r h
    simp only [repP, retP, Except.ok.injEq, Prod.mk.injEq] at h
    obtain ⟨rfl, rfl⟩ := h
    exact ⟨rfl, rfl, by simp⟩
  | succ n ih =>
    intro l xs r h
    rw [repP] at h
    obtain ⟨x, r1, h1, h2⟩ := andP_back h
    obtain ⟨ys, r2, h3, h4⟩ := andP_back h2
    simp only [retP, Except.ok.injEq, Prod.mk.injEq] at h4
    obtain ⟨rfl, rfl⟩ := h4
    obtain ⟨e1, o1⟩ := hp _ _ _ h1
    obtain ⟨e2, o2, o3⟩ := ih _ _ _ h3
    refine ⟨by rw [e1, e2, List.flatMap_cons, List.append_assoc], by simp [o2], ?_⟩
    intro y hy
    rcases List.mem_cons.1 hy with rfl | hy
    · exact o1
    · exact o3 y hy
theorem intB_nat (n : Nat) : intB (n : Int) = numB n := by unfold intB; rw [Int.toNat_natCast]
theorem list_prints {p : Pr α} {b : α → List UInt8} {ok : α → Prop} (hp : Prints p b ok) {lim : Nat} (hl : lim ≤ 256) : Prints (listP p lim) (fun xs => numB xs.length ++ xs.flatMap b) (fun xs => xs.length ≤ lim ∧ ∀ x ∈ xs, ok x) := fun xs r h => by
  unfold listP
  have h1 := h.1
  have := many_prints hl xs.length (xs.flatMap b ++ r) ⟨by omega, by omega⟩
  rw [intB_nat] at this
  dsimp only
  rw [List.append_assoc, andP_ok this, Int.toNat_natCast]
  exact rep_prints hp xs r h.2
theorem list_parses {p : Pr α} {b : α → List UInt8} {ok : α → Prop} (hp : Parses p b ok) {lim : Nat} : Parses (listP p lim) (fun xs => numB xs.length ++ xs.flatMap b) (fun xs => xs.length ≤ lim ∧ ∀ x ∈ xs, ok x) := fun l xs r h => by
  unfold listP at h
  obtain ⟨n, r1, h1, h2⟩ := andP_back h
  obtain ⟨e1, o1, o2⟩ := many_parses _ _ _ h1
  obtain ⟨e2, o3, o4⟩ := rep_parses hp _ _ _ _ h2
  refine ⟨?_, by omega, o4⟩
  dsimp only
  rw [e1, e2, List.append_assoc, o3]
  rfl
end
theorem ints_prints : Prints intsP intsB okInts := list_prints num_prints (by omega)
theorem ints_parses : Parses intsP intsB okInts := list_parses num_parses
theorem phi_prints : Prints phiP phiB okPhi := fun x r h => by
  unfold phiP phiB
  rw [List.append_assoc, andP_ok (num_prints _ _ h.1), andP_ok (ints_prints _ _ h.2)]
  rfl
theorem phi_parses : Parses phiP phiB okPhi := fun l x r h => by
  unfold phiP at h
  obtain ⟨d, r1, h1, h⟩ := andP_back h
  obtain ⟨a, r2, h2, h⟩ := andP_back h
  simp only [retP, Except.ok.injEq, Prod.mk.injEq] at h
  obtain ⟨rfl, rfl⟩ := h
  obtain ⟨e1, o1⟩ := num_parses _ _ _ h1
  obtain ⟨e2, o2⟩ := ints_parses _ _ _ h2
  exact ⟨by unfold phiB; rw [e1, e2, List.append_assoc], o1, o2⟩
theorem zag_zig {x : Int} : zag (zig x) = x := by
  unfold zag zig
  split <;> split <;> omega
theorem zig_zag {n : Nat} : zig (zag n) = n := by
  unfold zag zig
  split <;> split <;> omega
theorem zig_lt {x : Int} (h : I64 x) : okU (zig x) := by
  unfold I64 at h; unfold okU zig; split <;> omega
theorem zag_in {n : Nat} (h : okU n) : I64 (zag n) := by
  unfold okU at h; unfold I64 zag; split <;> omega
theorem ins_prints : Prints insP insB okIns := fun x r h => by
  obtain ⟨h1, h2, h3, h4, h5⟩ := h
  unfold insP insB
  simp only [List.append_assoc]
  rw [andP_ok (num_prints _ _ h1), andP_ok (num_prints _ _ h2), andP_ok (ints_prints _ _ h3), andP_ok (any_prints _ _ (zig_lt h4)), andP_ok (num_prints _ _ h5)]
  simp only [retP, zag_zig, Int.add_sub_cancel]
theorem ins_parses : Parses insP insB okIns := fun l x r h => by
  unfold insP at h
  obtain ⟨d, r1, h1, h⟩ := andP_back h
  obtain ⟨a, r2, h2, h⟩ := andP_back h
  obtain ⟨a3, r3, h3, h⟩ := andP_back h
  obtain ⟨a4, r4, h4, h⟩ := andP_back h
  obtain ⟨a5, r5, h5, h⟩ := andP_back h
  simp only [retP, Except.ok.injEq, Prod.mk.injEq] at h
  obtain ⟨rfl, rfl⟩ := h
  obtain ⟨e1, o1⟩ := num_parses _ _ _ h1
  obtain ⟨e2, o2⟩ := num_parses _ _ _ h2
  obtain ⟨e3, o3⟩ := ints_parses _ _ _ h3
  obtain ⟨e4, o4⟩ := any_parses _ _ _ h4
  obtain ⟨e5, o5⟩ := num_parses _ _ _ h5
  refine ⟨?_, o1, by show okN (a - 1 + 1); rwa [Int.sub_add_cancel], o3, zag_in o4, o5⟩
  unfold insB
  dsimp only
  rw [e1, e2, e3, e4, e5, zig_zag, Int.sub_add_cancel]
  simp only [List.append_assoc]
theorem term_prints : Prints termP termB okTerm := fun x r h => by
  obtain ⟨h1, h2, h3⟩ := h
  unfold termP termB
  simp only [List.append_assoc]
  rw [andP_ok (num_prints _ _ h1), andP_ok (num_prints _ _ h2), andP_ok (ints_prints _ _ h3)]
  simp only [retP, Int.add_sub_cancel]
theorem term_parses : Parses termP termB okTerm := fun l x r h => by
  unfold termP at h
  obtain ⟨d, r1, h1, h⟩ := andP_back h
  obtain ⟨a, r2, h2, h⟩ := andP_back h
  obtain ⟨a3, r3, h3, h⟩ := andP_back h
  simp only [retP, Except.ok.injEq, Prod.mk.injEq] at h
  obtain ⟨rfl, rfl⟩ := h
  obtain ⟨e1, o1⟩ := num_parses _ _ _ h1
  obtain ⟨e2, o2⟩ := num_parses _ _ _ h2
  obtain ⟨e3, o3⟩ := ints_parses _ _ _ h3
  refine ⟨?_, o1, by show okN (a - 1 + 1); rwa [Int.sub_add_cancel], o3⟩
  unfold termB
  dsimp only
  rw [e1, e2, e3, Int.sub_add_cancel]
  simp only [List.append_assoc]
theorem phis_prints : Prints (listP phiP 256) phisB (fun l => l.length ≤ 256 ∧ ∀ p ∈ l, okPhi p) := list_prints phi_prints (by omega)
theorem inss_prints : Prints (listP insP 256) inssB (fun l => l.length ≤ 256 ∧ ∀ p ∈ l, okIns p) := list_prints ins_prints (by omega)
theorem blk_prints : Prints blkP blkB okBlk := fun x r h => by
  obtain ⟨h1, h2, h3⟩ := h
  unfold blkP blkB
  simp only [List.append_assoc]
  rw [andP_ok (phis_prints _ _ h1), andP_ok (inss_prints _ _ h2), andP_ok (term_prints _ _ h3)]
  rfl
theorem blk_parses : Parses blkP blkB okBlk := fun l x r h => by
  unfold blkP at h
  obtain ⟨d, r1, h1, h⟩ := andP_back h
  obtain ⟨a, r2, h2, h⟩ := andP_back h
  obtain ⟨a3, r3, h3, h⟩ := andP_back h
  simp only [retP, Except.ok.injEq, Prod.mk.injEq] at h
  obtain ⟨rfl, rfl⟩ := h
  obtain ⟨e1, o1⟩ := list_parses phi_parses _ _ _ h1
  obtain ⟨e2, o2⟩ := list_parses ins_parses _ _ _ h2
  obtain ⟨e3, o3⟩ := term_parses _ _ _ h3
  refine ⟨?_, o1, o2, o3⟩
  unfold blkB phisB inssB
  dsimp only
  rw [e1, e2, e3]
  simp only [List.append_assoc]
theorem blks_prints : Prints (listP blkP 64) blksB (fun l => l.length ≤ 64 ∧ ∀ p ∈ l, okBlk p) := list_prints blk_prints (by omega)
theorem fun_prints : Prints funP funB okFun := fun x r h => by
  obtain ⟨h1, h2, h3, h4⟩ := h
  unfold funP funB
  simp only [List.append_assoc]
  rw [andP_ok (num_prints _ _ h1), andP_ok (num_prints _ _ h2), andP_ok (ints_prints _ _ h3), andP_ok (blks_prints _ _ h4)]
  rfl
theorem fun_parses : Parses funP funB okFun := fun l x r h => by
  unfold funP at h
  obtain ⟨d, r1, h1, h⟩ := andP_back h
  obtain ⟨a, r2, h2, h⟩ := andP_back h
  obtain ⟨a3, r3, h3, h⟩ := andP_back h
  obtain ⟨a4, r4, h4, h⟩ := andP_back h
  simp only [retP, Except.ok.injEq, Prod.mk.injEq] at h
  obtain ⟨rfl, rfl⟩ := h
  obtain ⟨e1, o1⟩ := num_parses _ _ _ h1
  obtain ⟨e2, o2⟩ := num_parses _ _ _ h2
  obtain ⟨e3, o3⟩ := ints_parses _ _ _ h3
  obtain ⟨e4, o4⟩ := list_parses blk_parses _ _ _ h4
  refine ⟨?_, o1, o2, o3, o4⟩
  unfold funB blksB
  dsimp only
  rw [e1, e2, e3, e4]
  simp only [List.append_assoc]
theorem funs_prints : Prints funsP funsB okMod := list_prints fun_prints (by omega)
theorem funs_parses : Parses funsP funsB okMod := list_parses fun_parses

theorem read_mod {m : List FunD} (h : okMod m) : readP (modB m) = .ok m := by
  have e := funs_prints m [] h
  rw [List.append_nil] at e
  unfold readP modB
  rw [if_pos (by rfl), show (markB ++ funsB m).drop 4 = funsB m from rfl, e]
  rfl
theorem read_back {l : List UInt8} {m : List FunD} (h : readP l = .ok m) : l = modB m ∧ okMod m := by
  unfold readP at h
  split at h
  · rename_i h4
    split at h
    · cases h
    · rename_i m' r h2
      split at h
      · rename_i h3
        simp only [Except.ok.injEq] at h
        subst h h3
        obtain ⟨e, o⟩ := funs_parses _ _ _ h2
        rw [List.append_nil] at e
        exact ⟨by unfold modB; rw [← e, ← h4, List.take_append_drop], o⟩
      · cases h
  · cases h
/-- Unlike modules have unlike bytes. -/
theorem modB_inj {m n : List FunD} (hm : okMod m) (hn : okMod n) (h : modB m = modB n) : m = n := by
  have h1 := read_mod hm
  rw [h, read_mod hn] at h1
  simpa using h1.symm
/-- Bytes of a module with more behind them are none's. -/
theorem modB_more {m n : List FunD} {r : List UInt8} (hm : okMod m) (hn : okMod n) (h : modB m = modB n ++ r) : r = [] := by
  unfold modB at h
  rw [List.append_assoc] at h
  have h := List.append_cancel_left h
  have h1 := funs_prints m [] hm
  rw [List.append_nil, h, funs_prints n r hn] at h1
  simp only [Except.ok.injEq, Prod.mk.injEq] at h1
  exact h1.2
end Go.Proofs.YtoidhjmhakajlaaGreatDoor
