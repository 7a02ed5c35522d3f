/- Modules as lists, and what memory holds of them. No condition. -/
import Derived.Test.YtacadgocoleaoaaProg
import Derived.WalkKit
import Derived.WalkSmall
import Derived.Below
import Derived.Deep.Slices
import Derived.Lib.Hide
import Derived.OpenShut
import Derived.ProofKit
namespace Go.Proofs.Ytacadgocoleaoaa
open Go.ChangeShapes Go.WideShapes Go.RowKit Go.Deep
set_option linter.unusedVariables false

/-! ### Data -/
structure PhiD where
  dst : Int
  args : List Int
structure InsD where
  op : Int
  dst : Int
  args : List Int
  imm : Int
  fn : Int
structure TermD where
  kind : Int
  arg : Int
  to : List Int
structure BlkD where
  phis : List PhiD
  ins : List InsD
  term : TermD
structure FunD where
  params : Int
  result : Int
  regs : List Int
  blocks : List BlkD

instance : Inhabited PhiD := ⟨⟨0, []⟩⟩
instance : Inhabited InsD := ⟨⟨0, 0, [], 0, 0⟩⟩
instance : Inhabited TermD := ⟨⟨0, 0, []⟩⟩
instance : Inhabited BlkD := ⟨⟨[], [], default⟩⟩
instance : Inhabited FunD := ⟨⟨0, 0, [], []⟩⟩

/-- It fits 64 bits, with a sign. -/
def I64 (x : Int) : Prop := -9223372036854775808 ≤ x ∧ x ≤ 9223372036854775807

/-! ### Readings -/
/-- All that could be read reads as it did. -/
def Kept (w w' : World) : Prop := ∀ a v, w.cell? a = some v → w'.cell? a = some v

theorem Kept.refl (w : World) : Kept w w := fun _ _ h => h
theorem Kept.trans {a b c : World} (h : Kept a b) (k : Kept b c) : Kept a c := fun x v hx => k x v (h x v hx)
theorem kept_of_below {w w' : World} (h : Below w.heap.size w w') : Kept w w' := fun a v ha => (h.cell (p := a) (block_lt_of_cell ha)).trans ha
theorem kept_below {B : Nat} {w w' : World} (h : Below B w w') (hB : w.heap.size ≤ B) : Kept w w' := kept_of_below (h.mono hB)
theorem kept_alloc (w : World) (o : Obj) : Kept w (w.alloc o) := fun a v ha => (World.cell?_alloc_lt _ _ _ (block_lt_of_cell ha)).trans ha

/-- A slice's elements read as a list: element i lies at i times sz cells from where it begins, and reads as R says. -/
def SL {α : Type} (w : World) (sz : Nat) (R : World → Nat → Nat → α → Prop) (A : Option Addr) (c : Nat) (xs : List α) : Prop :=
  xs.length ≤ c ∧ (c ≤ maxLen ∧ (A = none → c = 0)) ∧ (0 < xs.length → ∃ b o, A = some ⟨b, o, none⟩ ∧ ∀ i x, xs[i]? = some x → R w b (o + i * sz) x)
/-- A slice value reads as a list. -/
def VS {α : Type} (w : World) (sz : Nat) (R : World → Nat → Nat → α → Prop) (v : Value) (xs : List α) : Prop := ∃ A c, v = .slice A xs.length c ∧ SL w sz R A c xs
/-- A cell holds a slice that reads as a list. -/
def CS {α : Type} (w : World) (b o : Nat) (sz : Nat) (R : World → Nat → Nat → α → Prop) (xs : List α) : Prop := ∃ A c, w.cell? ⟨b, o, none⟩ = some (.slice A xs.length c) ∧ SL w sz R A c xs

def RInt (w : World) (b o : Nat) (x : Int) : Prop := w.cell? ⟨b, o, none⟩ = some (.int .i64 x) ∧ I64 x
def RPhi (w : World) (b o : Nat) (p : PhiD) : Prop := RInt w b o p.dst ∧ CS w b (o + 1) 1 RInt p.args
def RIns (w : World) (b o : Nat) (x : InsD) : Prop := RInt w b o x.op ∧ RInt w b (o + 1) x.dst ∧ CS w b (o + 2) 1 RInt x.args ∧ RInt w b (o + 3) x.imm ∧ RInt w b (o + 4) x.fn
def RBlk (w : World) (b o : Nat) (k : BlkD) : Prop := CS w b o 2 RPhi k.phis ∧ CS w b (o + 1) 5 RIns k.ins ∧ RInt w b (o + 2) k.term.kind ∧ RInt w b (o + 3) k.term.arg ∧ CS w b (o + 4) 1 RInt k.term.to
def RFun (w : World) (b o : Nat) (f : FunD) : Prop := RInt w b o f.params ∧ RInt w b (o + 1) f.result ∧ CS w b (o + 2) 1 RInt f.regs ∧ CS w b (o + 3) 5 RBlk f.blocks

/-- By value. -/
def VTerm (w : World) (v : Value) (t : TermD) : Prop := ∃ A c, v = .agg #[.int .i64 t.kind, .int .i64 t.arg, .slice A t.to.length c] ∧ SL w 1 RInt A c t.to ∧ I64 t.kind ∧ I64 t.arg
def VPhi (w : World) (v : Value) (p : PhiD) : Prop := ∃ A c, v = .agg #[.int .i64 p.dst, .slice A p.args.length c] ∧ SL w 1 RInt A c p.args ∧ I64 p.dst
def VIns (w : World) (v : Value) (x : InsD) : Prop :=
  ∃ A c, v = .agg #[.int .i64 x.op, .int .i64 x.dst, .slice A x.args.length c, .int .i64 x.imm, .int .i64 x.fn] ∧ SL w 1 RInt A c x.args ∧ I64 x.op ∧ I64 x.dst ∧ I64 x.imm ∧ I64 x.fn
def VBlk (w : World) (v : Value) (k : BlkD) : Prop :=
  ∃ Ap cp Ai ci At ct, v = .agg #[.slice Ap k.phis.length cp, .slice Ai k.ins.length ci, .int .i64 k.term.kind, .int .i64 k.term.arg, .slice At k.term.to.length ct] ∧
    SL w 2 RPhi Ap cp k.phis ∧ SL w 5 RIns Ai ci k.ins ∧ SL w 1 RInt At ct k.term.to ∧ I64 k.term.kind ∧ I64 k.term.arg
def VFun (w : World) (v : Value) (f : FunD) : Prop :=
  ∃ Ar cr Ab cb, v = .agg #[.int .i64 f.params, .int .i64 f.result, .slice Ar f.regs.length cr, .slice Ab f.blocks.length cb] ∧ SL w 1 RInt Ar cr f.regs ∧ SL w 5 RBlk Ab cb f.blocks ∧ I64 f.params ∧ I64 f.result
def VMod (w : World) (v : Value) (m : List FunD) : Prop := ∃ A c, v = .agg #[.slice A m.length c] ∧ SL w 4 RFun A c m

/-! ### Small enough to be gone through -/
def SmallB (b : BlkD) : Prop := b.ins.length ≤ 300 ∧ b.phis.length ≤ 300 ∧ b.term.to.length ≤ 70 ∧ (∀ x ∈ b.ins, x.args.length ≤ 300) ∧ (∀ x ∈ b.phis, x.args.length ≤ 300)
def SmallF (f : FunD) : Prop := f.blocks.length ≤ 70 ∧ f.regs.length ≤ 300 ∧ f.params ≤ 1000 ∧ ∀ b ∈ f.blocks, SmallB b
def SmallM (m : List FunD) : Prop := m.length ≤ 40 ∧ ∀ f ∈ m, SmallF f
/-- The first k are so. -/
def Upto {α : Type} (p : α → Prop) (l : List α) (k : Nat) : Prop := ∀ x ∈ l.take k, p x
theorem Upto.zero {α : Type} {p : α → Prop} {l : List α} : Upto p l 0 := fun x hx => absurd hx (by simp)
theorem Upto.all {α : Type} {p : α → Prop} {l : List α} {k : Nat} (h : Upto p l k) (hk : l.length ≤ k) : ∀ x ∈ l, p x := fun x hx => h x (by rwa [List.take_of_length_le hk])

/-! ### They are kept -/
section
variable {w w' : World} (h : Kept w w')
include h
theorem SL.keep {α : Type} {sz : Nat} {R : World → Nat → Nat → α → Prop} (hR : ∀ b o x, R w b o x → R w' b o x) {A : Option Addr} {c : Nat} {xs : List α} (hv : SL w sz R A c xs) : SL w' sz R A c xs := by
  have _ := h
  obtain ⟨h1, h2, h3⟩ := hv
  exact ⟨h1, h2, fun hp => by obtain ⟨b, o, e, hx⟩ := h3 hp; exact ⟨b, o, e, fun i x hi => hR _ _ _ (hx i x hi)⟩⟩
theorem VS.keep {α : Type} {sz : Nat} {R : World → Nat → Nat → α → Prop} (hR : ∀ b o x, R w b o x → R w' b o x) {v : Value} {xs : List α} (hv : VS w sz R v xs) : VS w' sz R v xs := by
  obtain ⟨A, c, e, h1⟩ := hv
  exact ⟨A, c, e, SL.keep h hR h1⟩
theorem CS.keep {α : Type} {sz : Nat} {R : World → Nat → Nat → α → Prop} (hR : ∀ b o x, R w b o x → R w' b o x) {b o : Nat} {xs : List α} (hv : CS w b o sz R xs) : CS w' b o sz R xs := by
  obtain ⟨A, c, e, h1⟩ := hv
  exact ⟨A, c, h _ _ e, SL.keep h hR h1⟩
theorem RInt.keep (b o : Nat) (x : Int) (hv : RInt w b o x) : RInt w' b o x := ⟨h _ _ hv.1, hv.2⟩
theorem RPhi.keep (b o : Nat) (x : PhiD) (hv : RPhi w b o x) : RPhi w' b o x := ⟨RInt.keep h _ _ _ hv.1, CS.keep h (RInt.keep h) hv.2⟩
theorem RIns.keep (b o : Nat) (x : InsD) (hv : RIns w b o x) : RIns w' b o x := by
  obtain ⟨h1, h2, h3, h5, h6⟩ := hv
  exact ⟨RInt.keep h _ _ _ h1, RInt.keep h _ _ _ h2, CS.keep h (RInt.keep h) h3, RInt.keep h _ _ _ h5, RInt.keep h _ _ _ h6⟩
theorem RBlk.keep (b o : Nat) (x : BlkD) (hv : RBlk w b o x) : RBlk w' b o x := by
  obtain ⟨h1, h2, h3, h4, h5⟩ := hv
  exact ⟨CS.keep h (RPhi.keep h) h1, CS.keep h (RIns.keep h) h2, RInt.keep h _ _ _ h3, RInt.keep h _ _ _ h4, CS.keep h (RInt.keep h) h5⟩
theorem RFun.keep (b o : Nat) (x : FunD) (hv : RFun w b o x) : RFun w' b o x := by
  obtain ⟨h1, h2, h3, h4⟩ := hv
  exact ⟨RInt.keep h _ _ _ h1, RInt.keep h _ _ _ h2, CS.keep h (RInt.keep h) h3, CS.keep h (RBlk.keep h) h4⟩
theorem SInts.keep {A : Option Addr} {c : Nat} {xs : List Int} (hv : SL w 1 RInt A c xs) : SL w' 1 RInt A c xs := SL.keep h (RInt.keep h) hv
theorem SPhis.keep {A : Option Addr} {c : Nat} {xs : List PhiD} (hv : SL w 2 RPhi A c xs) : SL w' 2 RPhi A c xs := SL.keep h (RPhi.keep h) hv
theorem SInss.keep {A : Option Addr} {c : Nat} {xs : List InsD} (hv : SL w 5 RIns A c xs) : SL w' 5 RIns A c xs := SL.keep h (RIns.keep h) hv
theorem SBlks.keep {A : Option Addr} {c : Nat} {xs : List BlkD} (hv : SL w 5 RBlk A c xs) : SL w' 5 RBlk A c xs := SL.keep h (RBlk.keep h) hv
theorem SFuns.keep {A : Option Addr} {c : Nat} {xs : List FunD} (hv : SL w 4 RFun A c xs) : SL w' 4 RFun A c xs := SL.keep h (RFun.keep h) hv
theorem VInts.keep {v : Value} {xs : List Int} (hv : VS w 1 RInt v xs) : VS w' 1 RInt v xs := VS.keep h (RInt.keep h) hv
theorem VTerm.keep {v : Value} {t : TermD} (hv : VTerm w v t) : VTerm w' v t := by
  obtain ⟨A, c, rfl, g1, g2⟩ := hv
  exact ⟨A, c, rfl, SInts.keep h g1, g2⟩
theorem VPhi.keep {v : Value} {t : PhiD} (hv : VPhi w v t) : VPhi w' v t := by
  obtain ⟨A, c, rfl, g1, g2⟩ := hv
  exact ⟨A, c, rfl, SInts.keep h g1, g2⟩
theorem VIns.keep {v : Value} {t : InsD} (hv : VIns w v t) : VIns w' v t := by
  obtain ⟨A, c, rfl, g1, g2⟩ := hv
  exact ⟨A, c, rfl, SInts.keep h g1, g2⟩
theorem VBlk.keep {v : Value} {t : BlkD} (hv : VBlk w v t) : VBlk w' v t := by
  obtain ⟨_, _, _, _, _, _, rfl, g1, g2, g3, g4⟩ := hv
  exact ⟨_, _, _, _, _, _, rfl, SPhis.keep h g1, SInss.keep h g2, SInts.keep h g3, g4⟩
theorem VFun.keep {v : Value} {t : FunD} (hv : VFun w v t) : VFun w' v t := by
  obtain ⟨_, _, _, _, rfl, g1, g2, g3⟩ := hv
  exact ⟨_, _, _, _, rfl, SInts.keep h g1, SBlks.keep h g2, g3⟩
theorem VMod.keep {v : Value} {t : List FunD} (hv : VMod w v t) : VMod w' v t := by
  obtain ⟨_, _, rfl, g1⟩ := hv
  exact ⟨_, _, rfl, SFuns.keep h g1⟩
end

/-! ### Elements -/
section
variable {α : Type} {w : World} {sz c : Nat} {R : World → Nat → Nat → α → Prop} {A : Option Addr} {xs : List α}
theorem SL.len (h : SL w sz R A c xs) : xs.length ≤ 9223372036854775807 := by
  obtain ⟨h1, ⟨h2, _⟩, _⟩ := h
  unfold maxLen at h2; omega
/-- Element k of a slice that is read. -/
theorem SL.at_ (h : SL w sz R A c xs) {k : Nat} (hk : k < xs.length) : ∃ b o x, A = some ⟨b, o, none⟩ ∧ Hid (xs[k]? = some x) ∧ R w b (o + k * sz) x := by
  obtain ⟨h1, h2, h3⟩ := h
  obtain ⟨b, o, e, hx⟩ := h3 (by omega)
  exact ⟨b, o, xs[k], e, Lib.hid (List.getElem?_eq_getElem hk), hx k _ (List.getElem?_eq_getElem hk)⟩
end
theorem SL.int {w : World} {c : Nat} {A : Option Addr} {xs : List Int} (h : SL w 1 RInt A c xs) {k : Nat} (hk : k < xs.length) :
    ∃ b o x, A = some ⟨b, o, none⟩ ∧ Hid (xs[k]? = some x) ∧ w.cell? ⟨b, o + k, none⟩ = some (.int .i64 x) ∧ I64 x := by
  obtain ⟨b, o, x, e, hx, h1, h2⟩ := h.at_ hk
  rw [Nat.mul_one] at h1
  exact ⟨b, o, x, e, hx, h1, h2⟩
theorem take_succ_of {α : Type} {l : List α} {j : Nat} {x : α} (h : l[j]? = some x) : l.take (j + 1) = l.take j ++ [x] := by
  obtain ⟨hj, rfl⟩ := List.getElem?_eq_some_iff.1 h
  exact List.take_succ_eq_append_getElem hj

theorem Upto.succ {α : Type} {p : α → Prop} {l : List α} {k : Nat} {y : α} (h : Upto p l k) (hy : l[k]? = some y) (hp : p y) : Upto p l (k + 1) := by
  intro x hx
  rw [take_succ_of hy] at hx
  rcases List.mem_append.1 hx with hx | hx
  · exact h x hx
  · rw [List.mem_singleton.1 hx]; exact hp

/-- A new block, and the world behind it by a name. -/
theorem named (w : World) (cs : Array Value) (t : TypeId) : ∃ w1, w1 = w.alloc (.cells cs t) ∧ w1.heap.size = w.heap.size + 1 ∧ Kept w w1 ∧ Below w.heap.size w w1 ∧
    (∀ i u, cs[i]? = some u → w1.cell? ⟨w.heap.size, i, none⟩ = some u) ∧ (∀ i, w1.frozen? ⟨w.heap.size, i, none⟩ = false) := by
  refine ⟨_, rfl, by simp, kept_alloc _ _, (Below.refl _ _).alloc (Nat.le_refl _) _, fun i u hu => (World.cell?_alloc_at (w := w) cs t w.heap.size i rfl).trans hu, fun i => by simp⟩

/-- A function's value laid in a block reads as that function. -/
theorem RFun.of_cells {w : World} {g : Nat} {f : FunD} {Ar Ab : Option Addr} {cr cb : Nat} (h : ∀ i u, #[Value.int .i64 f.params, .int .i64 f.result, .slice Ar f.regs.length cr, .slice Ab f.blocks.length cb][i]? = some u → w.cell? ⟨g, i, none⟩ = some u)
    (hr : SL w 1 RInt Ar cr f.regs) (hb : SL w 5 RBlk Ab cb f.blocks) (hp : I64 f.params) (hs : I64 f.result) : RFun w g 0 f :=
  ⟨⟨h 0 _ rfl, hp⟩, ⟨h 1 _ rfl, hs⟩, ⟨Ar, cr, h 2 _ rfl, hr⟩, ⟨Ab, cb, h 3 _ rfl, hb⟩⟩
/-- One element alone. -/
theorem SL.one {α : Type} {w : World} {sz b o : Nat} {R : World → Nat → Nat → α → Prop} {x : α} (h : R w b o x) : SL w sz R (some ⟨b, o, none⟩) 1 [x] := by
  refine ⟨Nat.le_refl _, ⟨by unfold maxLen; omega, fun e => by cases e⟩, fun _ => ⟨b, o, rfl, fun i y hi => ?_⟩⟩
  match i, hi with
  | 0, hi => obtain rfl := Option.some.inj hi; simpa using h
  | i + 1, hi => simp at hi

/-! ### Rows of the call's own -/
theorem news_one (w : World) (v : Value) (t : TypeId) {g : Nat} (hg : g = w.heap.size) : ∀ j u, [v][j]? = some u → (w.alloc (.cells #[v] t)).cell? ⟨g, j, none⟩ = some u := by
  intro j u hu
  subst hg
  rcases j with _ | j
  · obtain rfl := Option.some.inj hu
    exact (World.cell?_alloc_at (w := w) #[v] t w.heap.size 0 rfl).trans rfl
  · exact absurd hu (by simp)
theorem news_one_add (w : World) (v : Value) (t : TypeId) {g : Nat} (hg : g = w.heap.size) : ∀ j u, [v][j]? = some u → (w.alloc (.cells #[v] t)).cell? ((⟨g, 0, none⟩ : Addr).add j) = some u := fun j u hu => by
  have h := news_one w v t hg j u hu
  rwa [show (⟨g, 0, none⟩ : Addr).add j = ⟨g, j, none⟩ by unfold Addr.add; split <;> simp_all]
/-- A row of integers that the call owns reads as a list. -/
theorem vs_of_own {w : World} {base : Nat} {e : TypeId} {v : Value} {xs : List Int} (h : w.ownsRow base e 1 v xs.length (xs.map (Value.int .i64))) (hx : ∀ x ∈ xs, I64 x) : VS w 1 RInt v xs := by
  rcases h.2 with ⟨rfl, h0⟩ | ⟨g, c, cur, rfl, hb, hh, hn, hc, hsz, ht⟩
  · have : xs = [] := List.length_eq_zero_iff.1 h0
    subst this
    exact ⟨none, 0, rfl, Nat.le_refl _, ⟨by unfold maxLen; omega, fun _ => rfl⟩, fun hp => absurd hp (by simp)⟩
  · refine ⟨some ⟨g, 0, none⟩, c, rfl, hn, ⟨hc, fun e => by cases e⟩, fun _ => ⟨g, 0, rfl, fun i x hi => ⟨?_, hx x (List.mem_of_getElem? hi)⟩⟩⟩
    have := h.cells (g := g) rfl i (.int .i64 x) (by rw [List.getElem?_map, hi]; rfl)
    rw [Nat.mul_one]
    rwa [show (⟨g, 0, none⟩ : Addr).add i = ⟨g, 0 + i, none⟩ by unfold Addr.add; split <;> simp_all] at this

/-! ### A module that came in -/
section
variable {H : Type} {enc : TypeId × Value → H} {P : Program} {w : World} {base : Nat} {spare : Nat → Bool} {held : Bool}

/-- An element is read: its cells, from a place on. -/
def Opens {α : Type} (enc : TypeId × Value → H) (P : Program) (w : World) (base : Nat) (spare : Nat → Bool) (held : Bool) (e : TypeId) (sz : Nat) (R : World → Nat → Nat → α → Prop) : Prop :=
  ∀ n b o cs y, cs.length = sz → (∀ i, i < sz → w.cell? ⟨b, o + i, none⟩ = cs[i]?) → DataW.trod enc P w base spare held n e cs = some y → ∃ x, R w b o x

theorem add_plain' (b o i : Nat) : (⟨b, o, none⟩ : Addr).add i = ⟨b, o + i, none⟩ := by unfold Addr.add; split <;> simp_all

theorem open_vs {α : Type} [Inhabited α] {t e : TypeId} {fuel : Nat} {v : Value} {y : DataW H × List MemPlace} {sz : Nat} {R : World → Nat → Nat → α → Prop}
    (ht : P.underlying t = some (.slice e)) (hsz : P.cellsOf e = sz) (hpos : 0 < sz) (hR : Opens enc P w base spare held e sz R)
    (h : DataW.trod enc P w base spare held fuel t [v] = some y) : ∃ xs, VS w sz R v xs := by
  rcases open_slice ht h with ⟨hv, _⟩ | ⟨a, len, cap, m, n, D, Pl, hv, _, hl, hm, hmm, _, hx⟩
  · obtain rfl : v = .slice none 0 0 := by simpa using hv
    exact ⟨[], none, 0, rfl, Nat.le_refl _, ⟨by unfold maxLen; omega, fun _ => rfl⟩, fun hp => absurd hp (by simp)⟩
  · obtain rfl : v = .slice (some a) len cap := by simpa using hv
    rw [hsz] at hx
    by_cases h0 : len = 0
    · subst h0
      exact ⟨[], some a, cap, rfl, hl, ⟨hm, fun e => by cases e⟩, fun hp => absurd hp (by simp)⟩
    · have hml : len ≤ m := by rw [hmm]; split <;> omega
      obtain ⟨b, o, spot⟩ := a
      have hspot : spot = none := by
        obtain ⟨cs, hc, _⟩ := hx 0 (by omega)
        obtain ⟨_, hlen, hat⟩ := World.cells?_some hc
        have h1 := hat 0 hpos
        rw [List.getElem?_eq_getElem (by omega)] at h1
        have h2 := World.cell?_spot h1
        simpa [Addr.add] using h2
      subst hspot
      obtain ⟨f, hf⟩ := choose_lt (α := α) (n := len) (p := fun i x => R w b (o + i * sz) x) (fun i hi => by
        obtain ⟨cs, hc, hd⟩ := hx i (by omega)
        obtain ⟨_, hlen, hat⟩ := World.cells?_some hc
        exact hR n b (o + i * sz) cs _ hlen (fun j hj => by have := hat j hj; rwa [add_plain', add_plain'] at this) hd)
      refine ⟨(List.range len).map f, some ⟨b, o, none⟩, cap, by simp, by simpa using hl, ⟨hm, fun e => by cases e⟩, fun _ => ⟨b, o, rfl, fun i x hi => ?_⟩⟩
      obtain ⟨hi', rfl⟩ := List.getElem?_eq_some_iff.1 hi
      simp only [List.getElem_map, List.getElem_range]
      exact hf i (by simpa using hi')

theorem wf_i64 {x : Int} (h : (Lit.int .i64 x).wf = true) : I64 x := by
  unfold I64
  have h' := bounds_i64 h
  exact h'
end
end Go.Proofs.Ytacadgocoleaoaa

/- Structs and integers that came in as arguments: what they read as. -/
namespace Go.Proofs.Ytacadgocoleaoaa
open Go.ChangeShapes Go.WideShapes Go.RowKit Go.Deep
set_option linter.unusedVariables false

section
variable {H : Type} {enc : TypeId × Value → H} {P : Program} {w : World} {base : Nat} {spare : Nat → Bool} {held : Bool}

theorem struct_field {t : TypeId} {fs : Array Field} {fuel : Nat} {cs : List Value} {y : DataW H × List MemPlace} (ht : P.underlying t = some (.struct fs)) (h : DataW.trod enc P w base spare held fuel t cs = some y)
    (i : Nat) (f : Field) (hf : fs[i]? = some f) : ∃ n z, DataW.trod enc P w base spare held n f.type ((cs.drop f.offset).take (P.cellsOf f.type)) = some z := by
  obtain ⟨xs, n, _, _, _, hlen, hx⟩ := DataW.trod_struct ht h
  have hi : i < xs.length := by rw [hlen]; exact (Array.getElem?_eq_some_iff.1 hf).1
  exact ⟨n, xs[i], (hx i f hf).trans (List.getElem?_eq_getElem hi)⟩
theorem field_of {t : TypeId} {fs : Array Field} {fuel : Nat} {cs : List Value} {y : DataW H × List MemPlace} (ht : P.underlying t = some (.struct fs)) (h : DataW.trod enc P w base spare held fuel t cs = some y)
    (i : Nat) {f : Field} (hf : fs[i]? = some f) {t' : TypeId} {c k : Nat} (hft : f.type = t') (hk : f.offset = k) (hc : P.cellsOf t' = c) : ∃ n z, DataW.trod enc P w base spare held n t' ((cs.drop k).take c) = some z := by
  subst hft hk hc
  exact struct_field ht h i f hf
theorem drop_take_one {cs : List Value} {k : Nat} (hk : k < cs.length) : (cs.drop k).take 1 = [cs[k]] := by
  rw [List.drop_eq_getElem_cons hk]; rfl
theorem int_field {t : TypeId} {n k : Nat} {cs : List Value} {z : DataW H × List MemPlace} (ht : P.underlying t = some (.int .i64)) (hk : k < cs.length) (h : DataW.trod enc P w base spare held n t ((cs.drop k).take 1) = some z) :
    ∃ x, cs[k]? = some (.int .i64 x) ∧ I64 x := by
  rw [drop_take_one hk] at h
  obtain ⟨x, hx, _, hw⟩ := DataW.trod_int ht h
  exact ⟨x, by rw [List.getElem?_eq_getElem hk]; exact congrArg some (List.cons.inj hx).1, wf_i64 hw⟩
theorem slice_field {α : Type} [Inhabited α] {t e : TypeId} {sz : Nat} {R : World → Nat → Nat → α → Prop} {n k : Nat} {cs : List Value} {z : DataW H × List MemPlace} (ht : P.underlying t = some (.slice e)) (hsz : P.cellsOf e = sz) (hpos : 0 < sz)
    (hR : Opens enc P w base spare held e sz R) (hk : k < cs.length) (h : DataW.trod enc P w base spare held n t ((cs.drop k).take 1) = some z) : ∃ A c xs, cs[k]? = some (.slice A xs.length c) ∧ SL w sz R A c xs := by
  rw [drop_take_one hk] at h
  obtain ⟨xs, A, c, e, hs⟩ := open_vs ht hsz hpos hR h
  exact ⟨A, c, xs, by rw [List.getElem?_eq_getElem hk, e], hs⟩
end

theorem Try.cells3 : Try.prog.cellsOf 3 = 1 := by kernel_rfl
theorem Try.cells2 : Try.prog.cellsOf 2 = 1 := by kernel_rfl
theorem Try.cells46 : Try.prog.cellsOf 46 = 1 := by kernel_rfl

section
variable {H : Type} {enc : TypeId × Value → H} {w : World} {base : Nat} {spare : Nat → Bool} {held : Bool}

theorem opens_int : Opens enc Try.prog w base spare held 3 1 RInt := fun n b o cs y hlen hat h => by
  obtain ⟨x, rfl, _, hw⟩ := DataW.trod_int Try.underlying3 h
  exact ⟨x, (hat 0 (by omega)).trans rfl, wf_i64 hw⟩
theorem field_int {fs : Array Field} {t : TypeId} {fuel : Nat} {cs : List Value} {y : DataW H × List MemPlace} (ht : Try.prog.underlying t = some (.struct fs)) (h : DataW.trod enc Try.prog w base spare held fuel t cs = some y)
    (i : Nat) (f : Field) (hf : fs[i]? = some f) (hft : f.type = 3) (hk : f.offset < cs.length) : ∃ x, cs[f.offset]? = some (.int .i64 x) ∧ I64 x := by
  obtain ⟨n, z, hz⟩ := struct_field ht h i f hf
  rw [hft, Try.cells3] at hz
  exact int_field Try.underlying3 hk hz
theorem field_int64 {fs : Array Field} {t : TypeId} {fuel : Nat} {cs : List Value} {y : DataW H × List MemPlace} (ht : Try.prog.underlying t = some (.struct fs)) (h : DataW.trod enc Try.prog w base spare held fuel t cs = some y)
    (i : Nat) (f : Field) (hf : fs[i]? = some f) (hft : f.type = 2) (hk : f.offset < cs.length) : ∃ x, cs[f.offset]? = some (.int .i64 x) ∧ I64 x := by
  obtain ⟨n, z, hz⟩ := struct_field ht h i f hf
  rw [hft, Try.cells2] at hz
  exact int_field Try.underlying2 hk hz
theorem field_ints {fs : Array Field} {t : TypeId} {fuel : Nat} {cs : List Value} {y : DataW H × List MemPlace} (ht : Try.prog.underlying t = some (.struct fs)) (h : DataW.trod enc Try.prog w base spare held fuel t cs = some y)
    (i : Nat) (f : Field) (hf : fs[i]? = some f) (hft : f.type = 46) (hk : f.offset < cs.length) : ∃ A c, ∃ xs : List Int, cs[f.offset]? = some (.slice A xs.length c) ∧ SL w 1 RInt A c xs := by
  obtain ⟨n, z, hz⟩ := struct_field ht h i f hf
  rw [hft, Try.cells46] at hz
  exact slice_field Try.underlying46 Try.cells3 (by omega) opens_int hk hz
end
end Go.Proofs.Ytacadgocoleaoaa

/- Rows of deeds that came in as arguments. -/
namespace Go.Proofs.Ytacadgocoleaoaa
open Go.ChangeShapes Go.WideShapes Go.RowKit Go.Deep
set_option linter.unusedVariables false

/-- A deed: what, with which number, of which operation. -/
structure DeedD where
  what : Int
  v : Int
  n : Int
instance : Inhabited DeedD := ⟨⟨0, 0, 0⟩⟩
def RDeed (w : World) (b o : Nat) (x : DeedD) : Prop := RInt w b o x.what ∧ RInt w b (o + 1) x.v ∧ RInt w b (o + 2) x.n
theorem RDeed.keep {w w' : World} (h : Kept w w') (b o : Nat) (x : DeedD) (hv : RDeed w b o x) : RDeed w' b o x := ⟨RInt.keep h _ _ _ hv.1, RInt.keep h _ _ _ hv.2.1, RInt.keep h _ _ _ hv.2.2⟩
theorem SL.takeD {w : World} {A : Option Addr} {c : Nat} {xs : List DeedD} (h : SL w 3 RDeed A c xs) (n : Nat) : SL w 3 RDeed A c (xs.take n) := by
  obtain ⟨h1, h2, h3⟩ := h
  refine ⟨by rw [List.length_take]; omega, h2, fun hp => ?_⟩
  rw [List.length_take] at hp
  obtain ⟨b, o, e, hx⟩ := h3 (by omega)
  refine ⟨b, o, e, fun i x hi => hx i x ?_⟩
  rw [List.getElem?_take] at hi
  split at hi
  · exact hi
  · cases hi
theorem deedCells : Try.prog.cellsOf 30 = 3 := by kernel_rfl
section
variable {H : Type} {enc : TypeId × Value → H} {w : World} {base : Nat} {spare : Nat → Bool} {held : Bool}
set_option maxRecDepth 100000 in
theorem opens_deed : Opens enc Try.prog w base spare held 30 3 RDeed := fun n b o cs y hlen hat h => by
  obtain ⟨x, h0, w0⟩ := field_int Try.underlying30 h 0 _ rfl rfl (by simp; omega)
  obtain ⟨z, h1, w1⟩ := field_int Try.underlying30 h 1 _ rfl rfl (by simp; omega)
  obtain ⟨u, h2, w2⟩ := field_int Try.underlying30 h 2 _ rfl rfl (by simp; omega)
  exact ⟨⟨x, z, u⟩, ⟨(hat 0 (by omega)).trans h0, w0⟩, ⟨(hat 1 (by omega)).trans h1, w1⟩, ⟨(hat 2 (by omega)).trans h2, w2⟩⟩
set_option maxRecDepth 100000 in
theorem open_deedsV {r : Go.Reach} {b0 : Nat} {v : Value} {d : DataW H} {p : List MemPlace} (hv : Value.okWide Try.prog w r b0 22 v) (h : DataW.Trod enc Try.prog w base spare held 22 v d p) : ∃ l : List DeedD, VS w 3 RDeed v l := by
  obtain ⟨a, len, cap, rfl⟩ := okWide_slice Try.underlying22 hv
  obtain ⟨fuel, hf⟩ := h
  exact open_vs Try.underlying22 deedCells (by omega) opens_deed hf
end
end Go.Proofs.Ytacadgocoleaoaa
