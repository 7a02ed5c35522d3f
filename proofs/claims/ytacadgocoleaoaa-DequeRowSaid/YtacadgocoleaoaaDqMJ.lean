/- Modules as lists, and what memory holds of them. No condition. -/
import Derived.Test.YtacadgocoleaoaaProg
import Derived.WalkKit
import Derived.WalkSmall
import Derived.Below
import Derived.Deep.Slices
import Derived.Lib.Hide
import Derived.OpenShut
namespace Go.Proofs.Ytacadgocoleaoaa
open Go.ChangeShapes Go.WideShapes Go.RowKit Go.Deep
set_option linter.unusedVariables false

/-! ### Data -/
structure PhiD where
  dst : Int
  args : List Int
structure InsD where
  op : Int
  dst : Int
  args : List Int
  imm : Int
  fn : Int
structure TermD where
  kind : Int
  arg : Int
  to : List Int
structure BlkD where
  phis : List PhiD
  ins : List InsD
  term : TermD
structure FunD where
  params : Int
  result : Int
  regs : List Int
  blocks : List BlkD

instance : Inhabited PhiD := ⟨⟨0, []⟩⟩
instance : Inhabited InsD := ⟨⟨0, 0, [], 0, 0⟩⟩
instance : Inhabited TermD := ⟨⟨0, 0, []⟩⟩
instance : Inhabited BlkD := ⟨⟨[], [], default⟩⟩
instance : Inhabited FunD := ⟨⟨0, 0, [], []⟩⟩

/-- It fits 64 bits, with a sign. -/
def I64 (x : Int) : Prop := -9223372036854775808 ≤ x ∧ x ≤ 9223372036854775807

/-! ### Readings -/
/-- All that could be read reads as it did. -/
def Kept (w w' : World) : Prop := ∀ a v, w.cell? a = some v → w'.cell? a = some v

theorem Kept.refl (w : World) : Kept w w := fun _ _ h => h
theorem Kept.trans {a b c : World} (h : Kept a b) (k : Kept b c) : Kept a c := fun x v hx => k x v (h x v hx)
theorem kept_of_below {w w' : World} (h : Below w.heap.size w w') : Kept w w' := fun a v ha => (h.cell (p := a) (block_lt_of_cell ha)).trans ha
theorem kept_below {B : Nat} {w w' : World} (h : Below B w w') (hB : w.heap.size ≤ B) : Kept w w' := kept_of_below (h.mono hB)
theorem kept_alloc (w : World) (o : Obj) : Kept w (w.alloc o) := fun a v ha => (World.cell?_alloc_lt _ _ _ (block_lt_of_cell ha)).trans ha

/-- A slice's elements read as a list: element i lies at i times sz cells from where it begins, and reads as R says. -/
def SL {α : Type} (w : World) (sz : Nat) (R : World → Nat → Nat → α → Prop) (A : Option Addr) (c : Nat) (xs : List α) : Prop :=
  xs.length ≤ c ∧ (c ≤ maxLen ∧ (A = none → c = 0)) ∧ (0 < xs.length → ∃ b o, A = some ⟨b, o, none⟩ ∧ ∀ i x, xs[i]? = some x → R w b (o + i * sz) x)
/-- A slice value reads as a list. -/
def VS {α : Type} (w : World) (sz : Nat) (R : World → Nat → Nat → α → Prop) (v : Value) (xs : List α) : Prop := ∃ A c, v = .slice A xs.length c ∧ SL w sz R A c xs
/-- A cell holds a slice that reads as a list. -/
def CS {α : Type} (w : World) (b o : Nat) (sz : Nat) (R : World → Nat → Nat → α → Prop) (xs : List α) : Prop := ∃ A c, w.cell? ⟨b, o, none⟩ = some (.slice A xs.length c) ∧ SL w sz R A c xs

def RInt (w : World) (b o : Nat) (x : Int) : Prop := w.cell? ⟨b, o, none⟩ = some (.int .i64 x) ∧ I64 x
def RPhi (w : World) (b o : Nat) (p : PhiD) : Prop := RInt w b o p.dst ∧ CS w b (o + 1) 1 RInt p.args
def RIns (w : World) (b o : Nat) (x : InsD) : Prop := RInt w b o x.op ∧ RInt w b (o + 1) x.dst ∧ CS w b (o + 2) 1 RInt x.args ∧ RInt w b (o + 3) x.imm ∧ RInt w b (o + 4) x.fn
def RBlk (w : World) (b o : Nat) (k : BlkD) : Prop := CS w b o 2 RPhi k.phis ∧ CS w b (o + 1) 5 RIns k.ins ∧ RInt w b (o + 2) k.term.kind ∧ RInt w b (o + 3) k.term.arg ∧ CS w b (o + 4) 1 RInt k.term.to
def RFun (w : World) (b o : Nat) (f : FunD) : Prop := RInt w b o f.params ∧ RInt w b (o + 1) f.result ∧ CS w b (o + 2) 1 RInt f.regs ∧ CS w b (o + 3) 5 RBlk f.blocks

/-- By value. -/
def VTerm (w : World) (v : Value) (t : TermD) : Prop := ∃ A c, v = .agg #[.int .i64 t.kind, .int .i64 t.arg, .slice A t.to.length c] ∧ SL w 1 RInt A c t.to ∧ I64 t.kind ∧ I64 t.arg
def VPhi (w : World) (v : Value) (p : PhiD) : Prop := ∃ A c, v = .agg #[.int .i64 p.dst, .slice A p.args.length c] ∧ SL w 1 RInt A c p.args ∧ I64 p.dst
def VIns (w : World) (v : Value) (x : InsD) : Prop :=
  ∃ A c, v = .agg #[.int .i64 x.op, .int .i64 x.dst, .slice A x.args.length c, .int .i64 x.imm, .int .i64 x.fn] ∧ SL w 1 RInt A c x.args ∧ I64 x.op ∧ I64 x.dst ∧ I64 x.imm ∧ I64 x.fn
def VBlk (w : World) (v : Value) (k : BlkD) : Prop :=
  ∃ Ap cp Ai ci At ct, v = .agg #[.slice Ap k.phis.length cp, .slice Ai k.ins.length ci, .int .i64 k.term.kind, .int .i64 k.term.arg, .slice At k.term.to.length ct] ∧
    SL w 2 RPhi Ap cp k.phis ∧ SL w 5 RIns Ai ci k.ins ∧ SL w 1 RInt At ct k.term.to ∧ I64 k.term.kind ∧ I64 k.term.arg
def VFun (w : World) (v : Value) (f : FunD) : Prop :=
  ∃ Ar cr Ab cb, v = .agg #[.int .i64 f.params, .int .i64 f.result, .slice Ar f.regs.length cr, .slice Ab f.blocks.length cb] ∧ SL w 1 RInt Ar cr f.regs ∧ SL w 5 RBlk Ab cb f.blocks ∧ I64 f.params ∧ I64 f.result
def VMod (w : World) (v : Value) (m : List FunD) : Prop := ∃ A c, v = .agg #[.slice A m.length c] ∧ SL w 4 RFun A c m

/-! ### Small enough to be gone through -/
def SmallB (b : BlkD) : Prop := b.ins.length ≤ 300 ∧ b.phis.length ≤ 300 ∧ b.term.to.length ≤ 70 ∧ (∀ x ∈ b.ins, x.args.length ≤ 300) ∧ (∀ x ∈ b.phis, x.args.length ≤ 300)
def SmallF (f : FunD) : Prop := f.blocks.length ≤ 70 ∧ f.regs.length ≤ 300 ∧ f.params ≤ 1000 ∧ ∀ b ∈ f.blocks, SmallB b
def SmallM (m : List FunD) : Prop := m.length ≤ 40 ∧ ∀ f ∈ m, SmallF f
/-- The first k are so. -/
def Upto {α : Type} (p : α → Prop) (l : List α) (k : Nat) : Prop := ∀ x ∈ l.take k, p x
theorem Upto.zero {α : Type} {p : α → Prop} {l : List α} : Upto p l 0 := fun x hx => absurd hx (by simp)
theorem Upto.all {α : Type} {p : α → Prop} {l : List α} {k : Nat} (h : Upto p l k) (hk : l.length ≤ k) : ∀ x ∈ l, p x := fun x hx => h x (by rwa [List.take_of_length_le hk])

/-! ### They are kept -/
section
variable {w w' : World} (h : Kept w w')
include h
theorem SL.keep {α : Type} {sz : Nat} {R : World → Nat → Nat → α → Prop} (hR : ∀ b o x, R w b o x → R w' b o x) {A : Option Addr} {c : Nat} {xs : List α} (hv : SL w sz R A c xs) : SL w' sz R A c xs := by
  have _ := h
  obtain ⟨h1, h2, h3⟩ := hv
  exact ⟨h1, h2, fun hp => by obtain ⟨b, o, e, hx⟩ := h3 hp; exact ⟨b, o, e, fun i x hi => hR _ _ _ (hx i x hi)⟩⟩
theorem VS.keep {α : Type} {sz : Nat} {R : World → Nat → Nat → α → Prop} (hR : ∀ b o x, R w b o x → R w' b o x) {v : Value} {xs : List α} (hv : VS w sz R v xs) : VS w' sz R v xs := by
  obtain ⟨A, c, e, h1⟩ := hv
  exact ⟨A, c, e, SL.keep h hR h1⟩
theorem CS.keep {α : Type} {sz : Nat} {R : World → Nat → Nat → α → Prop} (hR : ∀ b o x, R w b o x → R w' b o x) {b o : Nat} {xs : List α} (hv : CS w b o sz R xs) : CS w' b o sz R xs := by
  obtain ⟨A, c, e, h1⟩ := hv
  exact ⟨A, c, h _ _ e, SL.keep h hR h1⟩
theorem RInt.keep (b o : Nat) (x : Int) (hv : RInt w b o x) : RInt w' b o x := ⟨h _ _ hv.1, hv.2⟩
theorem RPhi.keep (b o : Nat) (x : PhiD) (hv : RPhi w b o x) : RPhi w' b o x := ⟨RInt.keep h _ _ _ hv.1, CS.keep h (RInt.keep h) hv.2⟩
theorem RIns.keep (b o : Nat) (x : InsD) (hv : RIns w b o x) : RIns w' b o x := by
  obtain ⟨h1, h2, h3, h5, h6⟩ := hv
  exact ⟨RInt.keep h _ _ _ h1, RInt.keep h _ _ _ h2, CS.keep h (RInt.keep h) h3, RInt.keep h _ _ _ h5, RInt.keep h _ _ _ h6⟩
theorem RBlk.keep (b o : Nat) (x : BlkD) (hv : RBlk w b o x) : RBlk w' b o x := by
  obtain ⟨h1, h2, h3, h4, h5⟩ := hv
  exact ⟨CS.keep h (RPhi.keep h) h1, CS.keep h (RIns.keep h) h2, RInt.keep h _ _ _ h3, RInt.keep h _ _ _ h4, CS.keep h (RInt.keep h) h5⟩
theorem RFun.keep (b o : Nat) (x : FunD) (hv : RFun w b o x) : RFun w' b o x := by
  obtain ⟨h1, h2, h3, h4⟩ := hv
  exact ⟨RInt.keep h _ _ _ h1, RInt.keep h _ _ _ h2, CS.keep h (RInt.keep h) h3, CS.keep h (RBlk.keep h) h4⟩
theorem SInts.keep {A : Option Addr} {c : Nat} {xs : List Int} (hv : SL w 1 RInt A c xs) : SL w' 1 RInt A c xs := SL.keep h (RInt.keep h) hv
theorem SPhis.keep {A : Option Addr} {c : Nat} {xs : List PhiD} (hv : SL w 2 RPhi A c xs) : SL w' 2 RPhi A c xs := SL.keep h (RPhi.keep h) hv
theorem SInss.keep {A : Option Addr} {c : Nat} {xs : List InsD} (hv : SL w 5 RIns A c xs) : SL w' 5 RIns A c xs := SL.keep h (RIns.keep h) hv
theorem SBlks.keep {A : Option Addr} {c : Nat} {xs : List BlkD} (hv : SL w 5 RBlk A c xs) : SL w' 5 RBlk A c xs := SL.keep h (RBlk.keep h) hv
theorem SFuns.keep {A : Option Addr} {c : Nat} {xs : List FunD} (hv : SL w 4 RFun A c xs) : SL w' 4 RFun A c xs := SL.keep h (RFun.keep h) hv
theorem VInts.keep {v : Value} {xs : List Int} (hv : VS w 1 RInt v xs) : VS w' 1 RInt v xs := VS.keep h (RInt.keep h) hv
theorem VTerm.keep {v : Value} {t : TermD} (hv : VTerm w v t) : VTerm w' v t := by
  obtain ⟨A, c, rfl, g1, g2⟩ := hv
  exact ⟨A, c, rfl, SInts.keep h g1, g2⟩
theorem VPhi.keep {v : Value} {t : PhiD} (hv : VPhi w v t) : VPhi w' v t := by
  obtain ⟨A, c, rfl, g1, g2⟩ := hv
  exact ⟨A, c, rfl, SInts.keep h g1, g2⟩
theorem VIns.keep {v : Value} {t : InsD} (hv : VIns w v t) : VIns w' v t := by
  obtain ⟨A, c, rfl, g1, g2⟩ := hv
  exact ⟨A, c, rfl, SInts.keep h g1, g2⟩
theorem VBlk.keep {v : Value} {t : BlkD} (hv : VBlk w v t) : VBlk w' v t := by
  obtain ⟨_, _, _, _, _, _, rfl, g1, g2, g3, g4⟩ := hv
  exact ⟨_, _, _, _, _, _, rfl, SPhis.keep h g1, SInss.keep h g2, SInts.keep h g3, g4⟩
theorem VFun.keep {v : Value} {t : FunD} (hv : VFun w v t) : VFun w' v t := by
  obtain ⟨_, _, _, _, rfl, g1, g2, g3⟩ := hv
  exact ⟨_, _, _, _, rfl, SInts.keep h g1, SBlks.keep h g2, g3⟩
theorem VMod.keep {v : Value} {t : List FunD} (hv : VMod w v t) : VMod w' v t := by
  obtain ⟨_, _, rfl, g1⟩ := hv
  exact ⟨_, _, rfl, SFuns.keep h g1⟩
end

/-! ### Elements -/
section
variable {α : Type} {w : World} {sz c : Nat} {R : World → Nat → Nat → α → Prop} {A : Option Addr} {xs : List α}
theorem SL.len (h : SL w sz R A c xs) : xs.length ≤ 9223372036854775807 := by
  obtain ⟨h1, ⟨h2, _⟩, _⟩ := h
  unfold maxLen at h2; omega
/-- Element k of a slice that is read. -/
theorem SL.at_ (h : SL w sz R A c xs) {k : Nat} (hk : k < xs.length) : ∃ b o x, A = some ⟨b, o, none⟩ ∧ Hid (xs[k]? = some x) ∧ R w b (o + k * sz) x := by
  obtain ⟨h1, h2, h3⟩ := h
  obtain ⟨b, o, e, hx⟩ := h3 (by omega)
  exact ⟨b, o, xs[k], e, Lib.hid (List.getElem?_eq_getElem hk), hx k _ (List.getElem?_eq_getElem hk)⟩
end
theorem SL.int {w : World} {c : Nat} {A : Option Addr} {xs : List Int} (h : SL w 1 RInt A c xs) {k : Nat} (hk : k < xs.length) :
    ∃ b o x, A = some ⟨b, o, none⟩ ∧ Hid (xs[k]? = some x) ∧ w.cell? ⟨b, o + k, none⟩ = some (.int .i64 x) ∧ I64 x := by
  obtain ⟨b, o, x, e, hx, h1, h2⟩ := h.at_ hk
  rw [Nat.mul_one] at h1
  exact ⟨b, o, x, e, hx, h1, h2⟩
theorem take_succ_of {α : Type} {l : List α} {j : Nat} {x : α} (h : l[j]? = some x) : l.take (j + 1) = l.take j ++ [x] := by
  obtain ⟨hj, rfl⟩ := List.getElem?_eq_some_iff.1 h
  exact List.take_succ_eq_append_getElem hj

theorem Upto.succ {α : Type} {p : α → Prop} {l : List α} {k : Nat} {y : α} (h : Upto p l k) (hy : l[k]? = some y) (hp : p y) : Upto p l (k + 1) := by
  intro x hx
  rw [take_succ_of hy] at hx
  rcases List.mem_append.1 hx with hx | hx
  · exact h x hx
  · rw [List.mem_singleton.1 hx]; exact hp

/-- A new block, and the world behind it by a name. -/
theorem named (w : World) (cs : Array Value) (t : TypeId) : ∃ w1, w1 = w.alloc (.cells cs t) ∧ w1.heap.size = w.heap.size + 1 ∧ Kept w w1 ∧ Below w.heap.size w w1 ∧
    (∀ i u, cs[i]? = some u → w1.cell? ⟨w.heap.size, i, none⟩ = some u) ∧ (∀ i, w1.frozen? ⟨w.heap.size, i, none⟩ = false) := by
  refine ⟨_, rfl, by simp, kept_alloc _ _, (Below.refl _ _).alloc (Nat.le_refl _) _, fun i u hu => (World.cell?_alloc_at (w := w) cs t w.heap.size i rfl).trans hu, fun i => by simp⟩

/-- A function's value laid in a block reads as that function. -/
theorem RFun.of_cells {w : World} {g : Nat} {f : FunD} {Ar Ab : Option Addr} {cr cb : Nat} (h : ∀ i u, #[Value.int .i64 f.params, .int .i64 f.result, .slice Ar f.regs.length cr, .slice Ab f.blocks.length cb][i]? = some u → w.cell? ⟨g, i, none⟩ = some u)
    (hr : SL w 1 RInt Ar cr f.regs) (hb : SL w 5 RBlk Ab cb f.blocks) (hp : I64 f.params) (hs : I64 f.result) : RFun w g 0 f :=
  ⟨⟨h 0 _ rfl, hp⟩, ⟨h 1 _ rfl, hs⟩, ⟨Ar, cr, h 2 _ rfl, hr⟩, ⟨Ab, cb, h 3 _ rfl, hb⟩⟩
/-- One element alone. -/
theorem SL.one {α : Type} {w : World} {sz b o : Nat} {R : World → Nat → Nat → α → Prop} {x : α} (h : R w b o x) : SL w sz R (some ⟨b, o, none⟩) 1 [x] := by
  refine ⟨Nat.le_refl _, ⟨by unfold maxLen; omega, fun e => by cases e⟩, fun _ => ⟨b, o, rfl, fun i y hi => ?_⟩⟩
  match i, hi with
  | 0, hi => obtain rfl := Option.some.inj hi; simpa using h
  | i + 1, hi => simp at hi

/-! ### Rows of the call's own -/
theorem news_one (w : World) (v : Value) (t : TypeId) {g : Nat} (hg : g = w.heap.size) : ∀ j u, [v][j]? = some u → (w.alloc (.cells #[v] t)).cell? ⟨g, j, none⟩ = some u := by
  intro j u hu
  subst hg
  rcases j with _ | j
  · obtain rfl := Option.some.inj hu
    exact (World.cell?_alloc_at (w := w) #[v] t w.heap.size 0 rfl).trans rfl
  · exact absurd hu (by simp)
theorem news_one_add (w : World) (v : Value) (t : TypeId) {g : Nat} (hg : g = w.heap.size) : ∀ j u, [v][j]? = some u → (w.alloc (.cells #[v] t)).cell? ((⟨g, 0, none⟩ : Addr).add j) = some u := fun j u hu => by
  have h := news_one w v t hg j u hu
  rwa [show (⟨g, 0, none⟩ : Addr).add j = ⟨g, j, none⟩ by unfold Addr.add; split <;> simp_all]
/-- A row of integers that the call owns reads as a list. -/
theorem vs_of_own {w : World} {base : Nat} {e : TypeId} {v : Value} {xs : List Int} (h : w.ownsRow base e 1 v xs.length (xs.map (Value.int .i64))) (hx : ∀ x ∈ xs, I64 x) : VS w 1 RInt v xs := by
  rcases h.2 with ⟨rfl, h0⟩ | ⟨g, c, cur, rfl, hb, hh, hn, hc, hsz, ht⟩
  · have : xs = [] := List.length_eq_zero_iff.1 h0
    subst this
    exact ⟨none, 0, rfl, Nat.le_refl _, ⟨by unfold maxLen; omega, fun _ => rfl⟩, fun hp => absurd hp (by simp)⟩
  · refine ⟨some ⟨g, 0, none⟩, c, rfl, hn, ⟨hc, fun e => by cases e⟩, fun _ => ⟨g, 0, rfl, fun i x hi => ⟨?_, hx x (List.mem_of_getElem? hi)⟩⟩⟩
    have := h.cells (g := g) rfl i (.int .i64 x) (by rw [List.getElem?_map, hi]; rfl)
    rw [Nat.mul_one]
    rwa [show (⟨g, 0, none⟩ : Addr).add i = ⟨g, 0 + i, none⟩ by unfold Addr.add; split <;> simp_all] at this

/-! ### A module that came in -/
section
variable {H : Type} {enc : TypeId × Value → H} {P : Program} {w : World} {base : Nat} {spare : Nat → Bool} {held : Bool}

/-- An element is read: its cells, from a place on. -/
def Opens {α : Type} (enc : TypeId × Value → H) (P : Program) (w : World) (base : Nat) (spare : Nat → Bool) (held : Bool) (e : TypeId) (sz : Nat) (R : World → Nat → Nat → α → Prop) : Prop :=
  ∀ n b o cs y, cs.length = sz → (∀ i, i < sz → w.cell? ⟨b, o + i, none⟩ = cs[i]?) → DataW.trod enc P w base spare held n e cs = some y → ∃ x, R w b o x

theorem add_plain' (b o i : Nat) : (⟨b, o, none⟩ : Addr).add i = ⟨b, o + i, none⟩ := by unfold Addr.add; split <;> simp_all

theorem open_vs {α : Type} [Inhabited α] {t e : TypeId} {fuel : Nat} {v : Value} {y : DataW H × List MemPlace} {sz : Nat} {R : World → Nat → Nat → α → Prop}
    (ht : P.underlying t = some (.slice e)) (hsz : P.cellsOf e = sz) (hpos : 0 < sz) (hR : Opens enc P w base spare held e sz R)
    (h : DataW.trod enc P w base spare held fuel t [v] = some y) : ∃ xs, VS w sz R v xs := by
  rcases open_slice ht h with ⟨hv, _⟩ | ⟨a, len, cap, m, n, D, Pl, hv, _, hl, hm, hmm, _, hx⟩
  · obtain rfl : v = .slice none 0 0 := by simpa using hv
    exact ⟨[], none, 0, rfl, Nat.le_refl _, ⟨by unfold maxLen; omega, fun _ => rfl⟩, fun hp => absurd hp (by simp)⟩
  · obtain rfl : v = .slice (some a) len cap := by simpa using hv
    rw [hsz] at hx
    by_cases h0 : len = 0
    · subst h0
      exact ⟨[], some a, cap, rfl, hl, ⟨hm, fun e => by cases e⟩, fun hp => absurd hp (by simp)⟩
    · have hml : len ≤ m := by rw [hmm]; split <;> omega
      obtain ⟨b, o, spot⟩ := a
      have hspot : spot = none := by
        obtain ⟨cs, hc, _⟩ := hx 0 (by omega)
        obtain ⟨_, hlen, hat⟩ := World.cells?_some hc
        have h1 := hat 0 hpos
        rw [List.getElem?_eq_getElem (by omega)] at h1
        have h2 := World.cell?_spot h1
        simpa [Addr.add] using h2
      subst hspot
      obtain ⟨f, hf⟩ := choose_lt (α := α) (n := len) (p := fun i x => R w b (o + i * sz) x) (fun i hi => by
        obtain ⟨cs, hc, hd⟩ := hx i (by omega)
        obtain ⟨_, hlen, hat⟩ := World.cells?_some hc
        exact hR n b (o + i * sz) cs _ hlen (fun j hj => by have := hat j hj; rwa [add_plain', add_plain'] at this) hd)
      refine ⟨(List.range len).map f, some ⟨b, o, none⟩, cap, by simp, by simpa using hl, ⟨hm, fun e => by cases e⟩, fun _ => ⟨b, o, rfl, fun i x hi => ?_⟩⟩
      obtain ⟨hi', rfl⟩ := List.getElem?_eq_some_iff.1 hi
      simp only [List.getElem_map, List.getElem_range]
      exact hf i (by simpa using hi')

theorem wf_i64 {x : Int} (h : (Lit.int .i64 x).wf = true) : I64 x := by
  unfold I64
  have h' := bounds_i64 h
  exact h'
end
end Go.Proofs.Ytacadgocoleaoaa

/- Mathematics of a deque: the document's steps; what holds between any two of them. -/
namespace Go.Proofs.Ytacadgocoleaoaa
set_option linter.unusedVariables false

structure DqS where
  cells : Nat → Int
  top : Int
  bot : Int
/-- An operation: kind 1 is Push, 2 Pop, 3 Steal; how many steps it has done; how it ended. -/
structure OpS where
  kind : Nat
  next : Nat
  b : Int
  t : Int
  x : Int
  got : Nat
  won : Bool
def cellI (n : Int) : Nat := (n % 64).toNat
theorem cellI_lt (n : Int) : cellI n < 64 := by
  unfold cellI
  have := Int.emod_lt_of_pos n (b := 64) (by omega)
  omega
theorem cellI_ne {a b : Int} (h1 : a < b) (h2 : b < a + 64) : cellI a ≠ cellI b := by
  unfold cellI
  have := Int.emod_nonneg a (b := 64) (by omega)
  have := Int.emod_nonneg b (b := 64) (by omega)
  omega
def setC (f : Nat → Int) (i : Nat) (v : Int) : Nat → Int := fun j => if j = i then v else f j
theorem setC_same (f : Nat → Int) (i : Nat) (v : Int) : setC f i v i = v := by unfold setC; rw [if_pos rfl]
theorem setC_ne (f : Nat → Int) {i j : Nat} (v : Int) (h : j ≠ i) : setC f i v j = f j := by unfold setC; rw [if_neg h]
def stepPush (s : DqS) (o : OpS) : DqS × OpS :=
  if o.next = 0 then (s, { o with next := 1, b := s.bot })
  else if o.next = 1 then (s, { o with next := 2, t := s.top, got := if 64 ≤ o.b - s.top then 3 else 0 })
  else if o.next = 2 then ({ s with cells := setC s.cells (cellI o.b) o.x }, { o with next := 3 })
  else ({ s with bot := o.b + 1 }, { o with next := 4, got := 1 })
def stepPop (s : DqS) (o : OpS) : DqS × OpS :=
  if o.next = 0 then ({ s with bot := s.bot - 1 }, { o with next := 1, b := s.bot })
  else if o.next = 1 then (s, { o with next := 2, t := s.top })
  else if o.next = 2 then (if o.b - 1 < o.t then ({ s with bot := o.b }, { o with next := 3, got := 2 }) else (s, { o with next := 3, x := s.cells (cellI (o.b - 1)), got := if o.t < o.b - 1 then 1 else 0 }))
  else if o.next = 3 then (if s.top = o.t then ({ s with top := o.t + 1 }, { o with next := 4, won := true }) else (s, { o with next := 4, won := false }))
  else ({ s with bot := o.b }, { o with next := 5, got := if o.won = true then 1 else 2 })
def stepSteal (s : DqS) (o : OpS) : DqS × OpS :=
  if o.next = 0 then (s, { o with next := 1, t := s.top })
  else if o.next = 1 then (s, { o with next := 2, b := s.bot, got := if s.bot ≤ o.t then 2 else 0 })
  else if o.next = 2 then (s, { o with next := 3, x := s.cells (cellI o.t) })
  else (if s.top = o.t then ({ s with top := o.t + 1 }, { o with next := 4, got := 1 }) else (s, { o with next := 4, got := 4 }))
def stepD (s : DqS) (o : OpS) : DqS × OpS := if o.kind = 1 then stepPush s o else if o.kind = 2 then stepPop s o else stepSteal s o

/-- What lies between Top and B is what was pushed and not taken. -/
structure Norm (s : DqS) (inn : List Int) (B : Int) : Prop where
  len : (inn.length : Int) = B - s.top
  at_ : ∀ (k : Nat) x, inn[k]? = some x → s.cells (cellI (s.top + k)) = x
/-- The owner's operation, and what is left: B is where the row ends, SB how far others may take. -/
inductive Own (s : DqS) : Option OpS → List Int → Int → Int → Prop
  | idle {inn : List Int} (h0 : 0 ≤ s.top) (h1 : s.top ≤ s.bot) (h2 : s.bot - s.top ≤ 64) (hn : Norm s inn s.bot) : Own s none inn s.bot s.bot
  | push {inn : List Int} {o : OpS} (hk : o.kind = 1) (hg : o.got = 0) (hx : o.next ≤ 3) (h0 : 0 ≤ s.top) (h1 : s.top ≤ s.bot) (h2 : s.bot - s.top ≤ 64) (hn : Norm s inn s.bot)
      (hb : 1 ≤ o.next → o.b = s.bot) (ht : 2 ≤ o.next → s.bot - s.top < 64) (hc : o.next = 3 → s.cells (cellI s.bot) = o.x) : Own s (some o) inn s.bot s.bot
  | pop0 {inn : List Int} {o : OpS} (hk : o.kind = 2) (hg : o.got = 0) (hx : o.next = 0) (h0 : 0 ≤ s.top) (h1 : s.top ≤ s.bot) (h2 : s.bot - s.top ≤ 64) (hn : Norm s inn s.bot) : Own s (some o) inn s.bot s.bot
  | pop1 {inn : List Int} {o : OpS} (hk : o.kind = 2) (hg : o.got = 0) (hx : o.next = 1) (hb : s.bot = o.b - 1) (h0 : 0 ≤ s.top) (h1 : s.top ≤ o.b) (h2 : o.b - s.top ≤ 64) (hn : Norm s inn o.b) : Own s (some o) inn o.b o.b
  | pop2 {inn : List Int} {o : OpS} {SB : Int} (hk : o.kind = 2) (hg : o.got = 0) (hx : o.next = 2) (hb : s.bot = o.b - 1) (ht : o.t ≤ s.top) (h0 : 0 ≤ s.top) (h1 : s.top ≤ SB) (h2 : o.b - s.top ≤ 64) (hs : SB = if o.t < o.b - 1 then o.b - 1 else o.b) (hn : Norm s inn o.b) : Own s (some o) inn o.b SB
  | pop3 {inn : List Int} {o : OpS} (hk : o.kind = 2) (hg : o.got = 0) (hx : o.next = 3) (hb : s.bot = o.b - 1) (ht : o.t = o.b - 1) (hts : o.t ≤ s.top) (h0 : 0 ≤ s.top) (h1 : s.top ≤ o.b) (h2 : o.b - s.top ≤ 64) (hn : Norm s inn o.b) (hv : s.top = o.t → s.cells (cellI s.top) = o.x) : Own s (some o) inn o.b o.b
  | pop4 {inn : List Int} {o : OpS} (hk : o.kind = 2) (hg : o.got = 0) (hx : o.next = 4) (hb : s.bot = o.b - 1) (h0 : 0 ≤ s.top) (h1 : s.top = o.b) (hw : o.won = true → inn = [o.x]) (hl : o.won = false → inn = []) : Own s (some o) inn o.b o.b
/-- One who steals. -/
structure Th (s : DqS) (SB : Int) (o : OpS) : Prop where
  kind : o.kind = 3
  got : o.got = 0
  nx : o.next ≤ 3
  t : 1 ≤ o.next → o.t ≤ s.top
  lt : 2 ≤ o.next → o.t = s.top → o.t < SB
  x : o.next = 3 → o.t = s.top → s.cells (cellI s.top) = o.x

theorem Own.base {s : DqS} {ow : Option OpS} {inn : List Int} {B SB : Int} (h : Own s ow inn B SB) : 0 ≤ s.top ∧ s.top ≤ SB ∧ SB ≤ B ∧ B - s.top ≤ 64 ∧ s.bot ≤ SB := by
  cases h with
  | idle h0 h1 h2 hn => omega
  | push hk hg hx h0 h1 h2 hn hb ht hc => omega
  | pop0 hk hg hx h0 h1 h2 hn => omega
  | pop1 hk hg hx hb h0 h1 h2 hn => omega
  | pop2 hk hg hx hb ht h0 h1 h2 hs hn => split at hs <;> omega
  | pop3 hk hg hx hb ht hts h0 h1 h2 hn hv => omega
  | pop4 hk hg hx hb h0 h1 hw hl => omega
theorem Norm.head {s : DqS} {inn : List Int} {B : Int} (h : Norm s inn B) (hlt : s.top < B) : ∃ r, inn = s.cells (cellI s.top) :: r ∧ Norm { s with top := s.top + 1 } r B := by
  have hl := h.len
  cases inn with
  | nil => simp at hl; omega
  | cons x r =>
    have h0 := h.at_ 0 x rfl
    simp only [Int.natCast_zero, Int.add_zero] at h0
    refine ⟨r, by rw [h0], ⟨by simp at hl ⊢; omega, fun k y hy => ?_⟩⟩
    have := h.at_ (k + 1) y (by simpa using hy)
    show s.cells (cellI (s.top + 1 + k)) = y
    rw [show s.top + 1 + (k : Int) = s.top + ((k + 1 : Nat) : Int) by omega]
    exact this
/-- Something is taken from the top, by another. -/
theorem Own.taken {s : DqS} {ow : Option OpS} {inn : List Int} {B SB : Int} (h : Own s ow inn B SB) (hlt : s.top < SB) : ∃ r, inn = s.cells (cellI s.top) :: r ∧ Own { s with top := s.top + 1 } ow r B SB := by
  have hbase := h.base
  cases h with
  | idle h0 h1 h2 hn =>
    obtain ⟨r, e, hn'⟩ := hn.head hlt
    exact ⟨r, e, @Own.idle { s with top := s.top + 1 } r (by show 0 ≤ s.top + 1; omega) (by show s.top + 1 ≤ s.bot; omega) (by show s.bot - (s.top + 1) ≤ 64; omega) hn'⟩
  | push hk hg hx h0 h1 h2 hn hb ht hc =>
    obtain ⟨r, e, hn'⟩ := hn.head hlt
    exact ⟨r, e, @Own.push { s with top := s.top + 1 } r _ hk hg hx (by show 0 ≤ s.top + 1; omega) (by show s.top + 1 ≤ s.bot; omega) (by show s.bot - (s.top + 1) ≤ 64; omega) hn' hb (fun q => by have := ht q; show s.bot - (s.top + 1) < 64; omega) hc⟩
  | pop0 hk hg hx h0 h1 h2 hn =>
    obtain ⟨r, e, hn'⟩ := hn.head hlt
    exact ⟨r, e, @Own.pop0 { s with top := s.top + 1 } r _ hk hg hx (by show 0 ≤ s.top + 1; omega) (by show s.top + 1 ≤ s.bot; omega) (by show s.bot - (s.top + 1) ≤ 64; omega) hn'⟩
  | @pop1 _ o hk hg hx hb h0 h1 h2 hn =>
    obtain ⟨r, e, hn'⟩ := hn.head hlt
    exact ⟨r, e, @Own.pop1 { s with top := s.top + 1 } r o hk hg hx hb (by show 0 ≤ s.top + 1; omega) (by show s.top + 1 ≤ o.b; omega) (by show o.b - (s.top + 1) ≤ 64; omega) hn'⟩
  | @pop2 _ o _ hk hg hx hb ht h0 h1 h2 hs hn =>
    obtain ⟨r, e, hn'⟩ := hn.head (by omega)
    exact ⟨r, e, @Own.pop2 { s with top := s.top + 1 } r o SB hk hg hx hb (by show o.t ≤ s.top + 1; omega) (by show 0 ≤ s.top + 1; omega) (by show s.top + 1 ≤ SB; omega) (by show o.b - (s.top + 1) ≤ 64; omega) hs hn'⟩
  | @pop3 _ o hk hg hx hb ht hts h0 h1 h2 hn hv =>
    obtain ⟨r, e, hn'⟩ := hn.head hlt
    exact ⟨r, e, @Own.pop3 { s with top := s.top + 1 } r o hk hg hx hb ht (by show o.t ≤ s.top + 1; omega) (by show 0 ≤ s.top + 1; omega) (by show s.top + 1 ≤ o.b; omega) (by show o.b - (s.top + 1) ≤ 64; omega) hn' (fun q => by have q : s.top + 1 = o.t := q; omega)⟩
  | pop4 hk hg hx hb h0 h1 hw hl => omega
/-- Those who steal go on when Top has gone on. -/
theorem Th.taken {s : DqS} {SB : Int} {o : OpS} (h : Th s SB o) : Th { s with top := s.top + 1 } SB o :=
  ⟨h.kind, h.got, h.nx, fun q => by have := h.t q; show o.t ≤ s.top + 1; omega, fun q e => by have e : o.t = s.top + 1 := e; have := h.t (by omega); omega, fun q e => by have e : o.t = s.top + 1 := e; have := h.t (by omega); omega⟩
/-- A step of a Steal. -/
theorem steal_step {s : DqS} {ow : Option OpS} {inn : List Int} {B SB : Int} {o : OpS} (h : Own s ow inn B SB) (ho : Th s SB o) :
    ((stepD s o).2.got = 1 ∧ ∃ r, inn = (stepD s o).2.x :: r ∧ Own (stepD s o).1 ow r B SB ∧ ∀ p, Th s SB p → Th (stepD s o).1 SB p) ∨
    ((stepD s o).2.got ≠ 1 ∧ (stepD s o).1 = s ∧ ((stepD s o).2.got = 0 → Th s SB (stepD s o).2)) := by
  have hb := h.base
  have hk := ho.kind
  have hs : stepD s o = stepSteal s o := by unfold stepD; rw [if_neg (by omega), if_neg (by omega)]
  rw [hs]
  unfold stepSteal
  have hnx := ho.nx
  rcases (show o.next = 0 ∨ o.next = 1 ∨ o.next = 2 ∨ o.next = 3 by omega) with e | e | e | e
  · rw [if_pos e]
    exact .inr ⟨by show o.got ≠ 1; rw [ho.got]; decide, rfl, fun _ => ⟨hk, ho.got, by show 1 ≤ 3; omega, fun _ => Int.le_refl _, fun q => by have q : 2 ≤ 1 := q; omega, fun q => by have q : (1 : Nat) = 3 := q; omega⟩⟩
  · rw [if_neg (by omega), if_pos e]
    refine .inr ⟨by show (if s.bot ≤ o.t then 2 else 0) ≠ 1; split <;> omega, rfl, fun q => ?_⟩
    have q : (if s.bot ≤ o.t then 2 else 0) = 0 := q
    have hlt : o.t < s.bot := by
      by_cases hc : s.bot ≤ o.t
      · rw [if_pos hc] at q; omega
      · omega
    exact ⟨hk, q, by show 2 ≤ 3; omega, fun _ => ho.t (by omega), fun _ _ => by show o.t < SB; omega, fun q => by have q : (2 : Nat) = 3 := q; omega⟩
  · rw [if_neg (by omega), if_neg (by omega), if_pos e]
    refine .inr ⟨by show o.got ≠ 1; rw [ho.got]; decide, rfl, fun _ => ⟨hk, ho.got, by show 3 ≤ 3; omega, fun _ => ho.t (by omega), fun _ q => ho.lt (by omega) q, fun _ q => ?_⟩⟩
    have q : o.t = s.top := q
    show s.cells (cellI s.top) = s.cells (cellI o.t)
    rw [q]
  · rw [if_neg (by omega), if_neg (by omega), if_neg (by omega)]
    by_cases hc : s.top = o.t
    · rw [if_pos hc]
      obtain ⟨r, e1, e2⟩ := h.taken (by have := ho.lt (by omega) hc.symm; omega)
      have hx := ho.x e hc.symm
      refine .inl ⟨rfl, r, ?_, ?_, fun p hp => ?_⟩
      · show inn = o.x :: r
        rw [← hx]; exact e1
      · show Own { s with top := o.t + 1 } ow r B SB
        rw [← hc]; exact e2
      · show Th { s with top := o.t + 1 } SB p
        rw [← hc]; exact hp.taken
    · rw [if_neg hc]
      exact .inr ⟨by show (4 : Nat) ≠ 1; decide, rfl, fun q => by have q : (4 : Nat) = 0 := q; omega⟩
/-- Those who steal, when Top stays. -/
theorem Th.go {s s' : DqS} {SB SB' : Int} {o : OpS} (h : Th s SB o) (ht : s'.top = s.top) (hS : s.top < SB → s.top < SB') (hc : s.top < SB → s'.cells (cellI s.top) = s.cells (cellI s.top)) : Th s' SB' o :=
  ⟨h.kind, h.got, h.nx, fun q => by rw [ht]; exact h.t q, fun q e => by
    rw [ht] at e
    have := h.lt q e
    have := hS (by omega)
    omega, fun q e => by
    rw [ht] at e ⊢
    rw [hc (by have := h.lt (by omega) e; omega)]
    exact h.x q e⟩
theorem Norm.last {s : DqS} {inn : List Int} {B : Int} (h : Norm s inn B) (hlt : s.top < B) : ∃ r, inn = r ++ [s.cells (cellI (B - 1))] ∧ Norm s r (B - 1) := by
  have hl := h.len
  rcases List.eq_nil_or_concat inn with rfl | ⟨r, x, rfl⟩
  · simp at hl; omega
  · rw [List.concat_eq_append] at *
    have hl2 : (r.length : Int) + 1 = B - s.top := by simpa using hl
    have h0 := h.at_ r.length x (by simp)
    rw [show s.top + (r.length : Int) = B - 1 by omega] at h0
    refine ⟨r, by rw [h0], by omega, fun k y hy => h.at_ k y ?_⟩
    rw [List.getElem?_append_left (List.getElem?_eq_some_iff.1 hy).1]; exact hy
/-- How an owner's step ends. -/
inductive OwnEnd (s : DqS) (SB : Int) (inn : List Int) (o : OpS) (s' : DqS) (o' : OpS) : Prop
  | on {B' SB' : Int} (hg : o'.got = 0) (h : Own s' (some o') inn B' SB') (ht : ∀ p, Th s SB p → Th s' SB' p)
  | put {B' SB' : Int} (hk : o.kind = 1) (hg : o'.got = 1) (hx : o'.x = o.x) (hl : inn.length < 64) (h : Own s' none (inn ++ [o'.x]) B' SB') (ht : ∀ p, Th s SB p → Th s' SB' p)
  | full {B' SB' : Int} (hk : o.kind = 1) (hg : o'.got = 3) (hl : inn.length = 64) (h : Own s' none inn B' SB') (ht : ∀ p, Th s SB p → Th s' SB' p)
  | take {B' SB' : Int} {r : List Int} (hk : o.kind = 2) (hg : o'.got = 1) (e : inn = r ++ [o'.x]) (h : Own s' none r B' SB') (ht : ∀ p, Th s SB p → Th s' SB' p)
  | none_ {B' SB' : Int} (hk : o.kind = 2) (hg : o'.got = 2) (e : inn = []) (h : Own s' none inn B' SB') (ht : ∀ p, Th s SB p → Th s' SB' p)
theorem own_step {s : DqS} {inn : List Int} {B SB : Int} {o : OpS} (h : Own s (some o) inn B SB) : OwnEnd s SB inn o (stepD s o).1 (stepD s o).2 := by
  cases h with
  | push hk hg hx h0 h1 h2 hn hb ht hc =>
    have hs : stepD s o = stepPush s o := by unfold stepD; rw [if_pos hk]
    rw [hs]
    unfold stepPush
    rcases (show o.next = 0 ∨ o.next = 1 ∨ o.next = 2 ∨ o.next = 3 by omega) with e | e | e | e
    · rw [if_pos e]
      exact .on hg (Own.push hk hg (by show 1 ≤ 3; omega) h0 h1 h2 hn (fun _ => rfl) (fun q => by have q : 2 ≤ 1 := q; omega) (fun q => by have q : (1 : Nat) = 3 := q; omega)) (fun p hp => hp)
    · rw [if_neg (by omega), if_pos e]
      have hbb := hb (by omega)
      by_cases hf : 64 ≤ o.b - s.top
      · exact .full hk (by show (if 64 ≤ o.b - s.top then 3 else 0) = 3; rw [if_pos hf]) (by have := hn.len; omega) (Own.idle h0 h1 h2 hn) (fun p hp => hp)
      · have hg' : (if 64 ≤ o.b - s.top then 3 else 0) = 0 := if_neg hf
        exact .on hg' (Own.push hk hg' (by show 2 ≤ 3; omega) h0 h1 h2 hn (fun _ => hbb) (fun _ => by show s.bot - s.top < 64; omega) (fun q => by have q : (2 : Nat) = 3 := q; omega)) (fun p hp => hp)
    · rw [if_neg (by omega), if_neg (by omega), if_pos e]
      have hbb := hb (by omega)
      have htt := ht (by omega)
      have hn' : Norm { s with cells := setC s.cells (cellI o.b) o.x } inn s.bot := ⟨hn.len, fun k y hy => by
        have hk2 := (List.getElem?_eq_some_iff.1 hy).1
        have hl := hn.len
        show setC s.cells (cellI o.b) o.x (cellI (s.top + k)) = y
        rw [setC_ne _ _ (by rw [hbb]; exact cellI_ne (by omega) (by omega))]
        exact hn.at_ k y hy⟩
      exact .on hg (@Own.push { s with cells := setC s.cells (cellI o.b) o.x } inn { o with next := 3 } hk hg (by show 3 ≤ 3; omega) h0 h1 h2 hn' (fun _ => hbb) (fun _ => htt) (fun _ => by show setC s.cells (cellI o.b) o.x (cellI s.bot) = o.x; rw [hbb]; exact setC_same _ _ _))
        (fun p hp => hp.go rfl (fun q => q) (fun q => by show setC s.cells (cellI o.b) o.x (cellI s.top) = _; rw [setC_ne _ _ (by rw [hbb]; exact cellI_ne (by omega) (by omega))]))
    · rw [if_neg (by omega), if_neg (by omega), if_neg (by omega)]
      have hbb := hb (by omega)
      have htt := ht (by omega)
      have hl := hn.len
      have hn' : Norm { s with bot := o.b + 1 } (inn ++ [o.x]) (o.b + 1) := ⟨by rw [List.length_append]; simp; omega, fun k y hy => by
        show s.cells (cellI (s.top + k)) = y
        rcases Nat.lt_trichotomy k inn.length with q | q | q
        · rw [List.getElem?_append_left q] at hy
          exact hn.at_ k y hy
        · rw [q, List.getElem?_append_right (Nat.le_refl _), Nat.sub_self] at hy
          obtain rfl : o.x = y := Option.some.inj hy
          rw [show s.top + (k : Int) = s.bot by omega]
          exact hc e
        · rw [List.getElem?_eq_none (by simp; omega)] at hy
          cases hy⟩
      exact .put hk rfl rfl (by omega) (@Own.idle { s with bot := o.b + 1 } (inn ++ [o.x]) h0 (by show s.top ≤ o.b + 1; omega) (by show o.b + 1 - s.top ≤ 64; omega) hn') (fun p hp => hp.go rfl (fun q => by show s.top < o.b + 1; omega) (fun _ => rfl))
  | pop0 hk hg hx h0 h1 h2 hn =>
    have hs : stepD s o = stepPop s o := by unfold stepD; rw [if_neg (by omega), if_pos hk]
    rw [hs]
    unfold stepPop
    rw [if_pos hx]
    exact .on hg (@Own.pop1 { s with bot := s.bot - 1 } inn { o with next := 1, b := s.bot } hk hg rfl rfl h0 h1 h2 ⟨hn.len, hn.at_⟩) (fun p hp => hp.go rfl (fun q => q) (fun _ => rfl))
  | pop1 hk hg hx hb h0 h1 h2 hn =>
    have hs : stepD s o = stepPop s o := by unfold stepD; rw [if_neg (by omega), if_pos hk]
    rw [hs]
    unfold stepPop
    rw [if_neg (by omega), if_pos hx]
    refine .on hg (Own.pop2 (SB := if s.top < o.b - 1 then o.b - 1 else o.b) hk hg rfl hb (Int.le_refl _) h0 (by show s.top ≤ (if s.top < o.b - 1 then o.b - 1 else o.b); split <;> omega) h2 rfl hn) (fun p hp => hp.go rfl (fun q => by show s.top < (if s.top < o.b - 1 then o.b - 1 else o.b); split <;> omega) (fun _ => rfl))
  | pop2 hk hg hx hb ht h0 h1 h2 hs2 hn =>
    have hs : stepD s o = stepPop s o := by unfold stepD; rw [if_neg (by omega), if_pos hk]
    rw [hs]
    unfold stepPop
    rw [if_neg (by omega), if_neg (by omega), if_pos hx]
    by_cases hc : o.b - 1 < o.t
    · rw [if_pos hc]
      rw [if_neg (by omega)] at hs2
      exact .none_ hk rfl (List.eq_nil_of_length_eq_zero (by have := hn.len; omega)) (@Own.idle { s with bot := o.b } inn h0 (by show s.top ≤ o.b; omega) h2 ⟨hn.len, hn.at_⟩) (fun p hp => hp.go rfl (fun q => by show s.top < o.b; omega) (fun _ => rfl))
    · rw [if_neg hc]
      by_cases hd : o.t < o.b - 1
      · rw [if_pos hd] at hs2
        obtain ⟨r, e, hn'⟩ := hn.last (by omega)
        have hI : Own s none r s.bot s.bot := Own.idle h0 (by omega) (by omega) (by rw [hb]; exact hn')
        exact .take hk (by show (if o.t < o.b - 1 then 1 else 0) = 1; rw [if_pos hd]) e hI (fun p hp => hp.go rfl (fun q => by omega) (fun _ => rfl))
      · rw [if_neg hd] at hs2
        have hg' : (if o.t < o.b - 1 then 1 else 0) = 0 := if_neg hd
        refine .on hg' (Own.pop3 hk hg' rfl hb (by show o.t = o.b - 1; omega) ht h0 (by show s.top ≤ o.b; omega) h2 hn (fun q => ?_)) (fun p hp => hp.go rfl (fun q => by show s.top < o.b; omega) (fun _ => rfl))
        have q : s.top = o.t := q
        show s.cells (cellI s.top) = s.cells (cellI (o.b - 1))
        rw [show s.top = o.b - 1 by omega]
  | pop3 hk hg hx hb ht hts h0 h1 h2 hn hv =>
    have hs : stepD s o = stepPop s o := by unfold stepD; rw [if_neg (by omega), if_pos hk]
    rw [hs]
    unfold stepPop
    rw [if_neg (by omega), if_neg (by omega), if_neg (by omega), if_pos hx]
    have hl := hn.len
    by_cases hc : s.top = o.t
    · rw [if_pos hc]
      obtain ⟨r, e, hn'⟩ := hn.head (by omega)
      have hr : r = [] := List.eq_nil_of_length_eq_zero (by have := hn'.len; simp at this; omega)
      subst hr
      refine .on hg (@Own.pop4 { s with top := o.t + 1 } inn { o with next := 4, won := true } hk hg rfl hb (by show 0 ≤ o.t + 1; omega) (by show o.t + 1 = o.b; omega) (fun _ => by show inn = [o.x]; rw [e, hv hc]) (fun q => by cases q)) (fun p hp => ?_)
      have := hp.taken
      rw [hc] at this
      exact this
    · rw [if_neg hc]
      exact .on hg (Own.pop4 hk hg rfl hb h0 (by show s.top = o.b; omega) (fun q => by cases q) (fun _ => List.eq_nil_of_length_eq_zero (by omega))) (fun p hp => hp)
  | pop4 hk hg hx hb h0 h1 hw hl =>
    have hs : stepD s o = stepPop s o := by unfold stepD; rw [if_neg (by omega), if_pos hk]
    rw [hs]
    unfold stepPop
    rw [if_neg (by omega), if_neg (by omega), if_neg (by omega), if_neg (by omega)]
    have hE : ∀ r : List Int, r = [] → Own { s with bot := o.b } none r o.b o.b := fun r e => by
      subst e
      exact @Own.idle { s with bot := o.b } [] h0 (by show s.top ≤ o.b; omega) (by show o.b - s.top ≤ 64; omega) ⟨by show ((0 : Nat) : Int) = o.b - s.top; omega, fun k x hx => by cases hx⟩
    cases hwn : o.won with
    | true =>
      exact .take (r := []) hk rfl (hw hwn) (hE [] rfl) (fun p hp => hp.go rfl (fun q => q) (fun _ => rfl))
    | false =>
      exact .none_ hk rfl (hl hwn) (hE inn (hl hwn)) (fun p hp => hp.go rfl (fun q => q) (fun _ => rfl))
end Go.Proofs.Ytacadgocoleaoaa
