/- Modules as lists, and what memory holds of them. No condition. -/
import Derived.Test.YtcjmhdneelmbhaaProg
import Derived.WalkKit
import Derived.WalkSmall
import Derived.Below
import Derived.Deep.Slices
import Derived.Lib.Hide
import Derived.OpenShut
import Derived.ProofKit
namespace Go.Proofs.Ytcjmhdneelmbhaa
open Go.ChangeShapes Go.WideShapes Go.RowKit Go.Deep
set_option linter.unusedVariables false

/-! ### Data -/
structure PhiD where
  dst : Int
  args : List Int
structure InsD where
  op : Int
  dst : Int
  args : List Int
  imm : Int
  fn : Int
structure TermD where
  kind : Int
  arg : Int
  to : List Int
structure BlkD where
  phis : List PhiD
  ins : List InsD
  term : TermD
structure FunD where
  params : Int
  result : Int
  regs : List Int
  blocks : List BlkD

instance : Inhabited PhiD := ⟨⟨0, []⟩⟩
instance : Inhabited InsD := ⟨⟨0, 0, [], 0, 0⟩⟩
instance : Inhabited TermD := ⟨⟨0, 0, []⟩⟩
instance : Inhabited BlkD := ⟨⟨[], [], default⟩⟩
instance : Inhabited FunD := ⟨⟨0, 0, [], []⟩⟩

/-- It fits 64 bits, with a sign. -/
def I64 (x : Int) : Prop := -9223372036854775808 ≤ x ∧ x ≤ 9223372036854775807

/-! ### Readings -/
/-- All that could be read reads as it did. -/
def Kept (w w' : World) : Prop := ∀ a v, w.cell? a = some v → w'.cell? a = some v

theorem Kept.refl (w : World) : Kept w w := fun _ _ h => h
theorem Kept.trans {a b c : World} (h : Kept a b) (k : Kept b c) : Kept a c := fun x v hx => k x v (h x v hx)
theorem kept_of_below {w w' : World} (h : Below w.heap.size w w') : Kept w w' := fun a v ha => (h.cell (p := a) (block_lt_of_cell ha)).trans ha
theorem kept_below {B : Nat} {w w' : World} (h : Below B w w') (hB : w.heap.size ≤ B) : Kept w w' := kept_of_below (h.mono hB)
theorem kept_alloc (w : World) (o : Obj) : Kept w (w.alloc o) := fun a v ha => (World.cell?_alloc_lt _ _ _ (block_lt_of_cell ha)).trans ha

/-- A slice's elements read as a list: element i lies at i times sz cells from where it begins, and reads as R says. -/
def SL {α : Type} (w : World) (sz : Nat) (R : World → Nat → Nat → α → Prop) (A : Option Addr) (c : Nat) (xs : List α) : Prop :=
  xs.length ≤ c ∧ (c ≤ maxLen ∧ (A = none → c = 0)) ∧ (0 < xs.length → ∃ b o, A = some ⟨b, o, none⟩ ∧ ∀ i x, xs[i]? = some x → R w b (o + i * sz) x)
/-- A slice value reads as a list. -/
def VS {α : Type} (w : World) (sz : Nat) (R : World → Nat → Nat → α → Prop) (v : Value) (xs : List α) : Prop := ∃ A c, v = .slice A xs.length c ∧ SL w sz R A c xs
/-- A cell holds a slice that reads as a list. -/
def CS {α : Type} (w : World) (b o : Nat) (sz : Nat) (R : World → Nat → Nat → α → Prop) (xs : List α) : Prop := ∃ A c, w.cell? ⟨b, o, none⟩ = some (.slice A xs.length c) ∧ SL w sz R A c xs

def RInt (w : World) (b o : Nat) (x : Int) : Prop := w.cell? ⟨b, o, none⟩ = some (.int .i64 x) ∧ I64 x
def RPhi (w : World) (b o : Nat) (p : PhiD) : Prop := RInt w b o p.dst ∧ CS w b (o + 1) 1 RInt p.args
def RIns (w : World) (b o : Nat) (x : InsD) : Prop := RInt w b o x.op ∧ RInt w b (o + 1) x.dst ∧ CS w b (o + 2) 1 RInt x.args ∧ RInt w b (o + 3) x.imm ∧ RInt w b (o + 4) x.fn
def RBlk (w : World) (b o : Nat) (k : BlkD) : Prop := CS w b o 2 RPhi k.phis ∧ CS w b (o + 1) 5 RIns k.ins ∧ RInt w b (o + 2) k.term.kind ∧ RInt w b (o + 3) k.term.arg ∧ CS w b (o + 4) 1 RInt k.term.to
def RFun (w : World) (b o : Nat) (f : FunD) : Prop := RInt w b o f.params ∧ RInt w b (o + 1) f.result ∧ CS w b (o + 2) 1 RInt f.regs ∧ CS w b (o + 3) 5 RBlk f.blocks

/-- By value. -/
def VTerm (w : World) (v : Value) (t : TermD) : Prop := ∃ A c, v = .agg #[.int .i64 t.kind, .int .i64 t.arg, .slice A t.to.length c] ∧ SL w 1 RInt A c t.to ∧ I64 t.kind ∧ I64 t.arg
def VPhi (w : World) (v : Value) (p : PhiD) : Prop := ∃ A c, v = .agg #[.int .i64 p.dst, .slice A p.args.length c] ∧ SL w 1 RInt A c p.args ∧ I64 p.dst
def VIns (w : World) (v : Value) (x : InsD) : Prop :=
  ∃ A c, v = .agg #[.int .i64 x.op, .int .i64 x.dst, .slice A x.args.length c, .int .i64 x.imm, .int .i64 x.fn] ∧ SL w 1 RInt A c x.args ∧ I64 x.op ∧ I64 x.dst ∧ I64 x.imm ∧ I64 x.fn
def VBlk (w : World) (v : Value) (k : BlkD) : Prop :=
  ∃ Ap cp Ai ci At ct, v = .agg #[.slice Ap k.phis.length cp, .slice Ai k.ins.length ci, .int .i64 k.term.kind, .int .i64 k.term.arg, .slice At k.term.to.length ct] ∧
    SL w 2 RPhi Ap cp k.phis ∧ SL w 5 RIns Ai ci k.ins ∧ SL w 1 RInt At ct k.term.to ∧ I64 k.term.kind ∧ I64 k.term.arg
def VFun (w : World) (v : Value) (f : FunD) : Prop :=
  ∃ Ar cr Ab cb, v = .agg #[.int .i64 f.params, .int .i64 f.result, .slice Ar f.regs.length cr, .slice Ab f.blocks.length cb] ∧ SL w 1 RInt Ar cr f.regs ∧ SL w 5 RBlk Ab cb f.blocks ∧ I64 f.params ∧ I64 f.result
def VMod (w : World) (v : Value) (m : List FunD) : Prop := ∃ A c, v = .agg #[.slice A m.length c] ∧ SL w 4 RFun A c m

/-! ### Small enough to be gone through -/
def SmallB (b : BlkD) : Prop := b.ins.length ≤ 300 ∧ b.phis.length ≤ 300 ∧ b.term.to.length ≤ 70 ∧ (∀ x ∈ b.ins, x.args.length ≤ 300) ∧ (∀ x ∈ b.phis, x.args.length ≤ 300)
def SmallF (f : FunD) : Prop := f.blocks.length ≤ 70 ∧ f.regs.length ≤ 300 ∧ f.params ≤ 1000 ∧ ∀ b ∈ f.blocks, SmallB b
def SmallM (m : List FunD) : Prop := m.length ≤ 40 ∧ ∀ f ∈ m, SmallF f
/-- The first k are so. -/
def Upto {α : Type} (p : α → Prop) (l : List α) (k : Nat) : Prop := ∀ x ∈ l.take k, p x
theorem Upto.zero {α : Type} {p : α → Prop} {l : List α} : Upto p l 0 := fun x hx => absurd hx (by simp)
theorem Upto.all {α : Type} {p : α → Prop} {l : List α} {k : Nat} (h : Upto p l k) (hk : l.length ≤ k) : ∀ x ∈ l, p x := fun x hx => h x (by rwa [List.take_of_length_le hk])

/-! ### They are kept -/
section
variable {w w' : World} (h : Kept w w')
include h
theorem SL.keep {α : Type} {sz : Nat} {R : World → Nat → Nat → α → Prop} (hR : ∀ b o x, R w b o x → R w' b o x) {A : Option Addr} {c : Nat} {xs : List α} (hv : SL w sz R A c xs) : SL w' sz R A c xs := by
  have _ := h
  obtain ⟨h1, h2, h3⟩ := hv
  exact ⟨h1, h2, fun hp => by obtain ⟨b, o, e, hx⟩ := h3 hp; exact ⟨b, o, e, fun i x hi => hR _ _ _ (hx i x hi)⟩⟩
theorem VS.keep {α : Type} {sz : Nat} {R : World → Nat → Nat → α → Prop} (hR : ∀ b o x, R w b o x → R w' b o x) {v : Value} {xs : List α} (hv : VS w sz R v xs) : VS w' sz R v xs := by
  obtain ⟨A, c, e, h1⟩ := hv
  exact ⟨A, c, e, SL.keep h hR h1⟩
theorem CS.keep {α : Type} {sz : Nat} {R : World → Nat → Nat → α → Prop} (hR : ∀ b o x, R w b o x → R w' b o x) {b o : Nat} {xs : List α} (hv : CS w b o sz R xs) : CS w' b o sz R xs := by
  obtain ⟨A, c, e, h1⟩ := hv
  exact ⟨A, c, h _ _ e, SL.keep h hR h1⟩
theorem RInt.keep (b o : Nat) (x : Int) (hv : RInt w b o x) : RInt w' b o x := ⟨h _ _ hv.1, hv.2⟩
theorem RPhi.keep (b o : Nat) (x : PhiD) (hv : RPhi w b o x) : RPhi w' b o x := ⟨RInt.keep h _ _ _ hv.1, CS.keep h (RInt.keep h) hv.2⟩
theorem RIns.keep (b o : Nat) (x : InsD) (hv : RIns w b o x) : RIns w' b o x := by
  obtain ⟨h1, h2, h3, h5, h6⟩ := hv
  exact ⟨RInt.keep h _ _ _ h1, RInt.keep h _ _ _ h2, CS.keep h (RInt.keep h) h3, RInt.keep h _ _ _ h5, RInt.keep h _ _ _ h6⟩
theorem RBlk.keep (b o : Nat) (x : BlkD) (hv : RBlk w b o x) : RBlk w' b o x := by
  obtain ⟨h1, h2, h3, h4, h5⟩ := hv
  exact ⟨CS.keep h (RPhi.keep h) h1, CS.keep h (RIns.keep h) h2, RInt.keep h _ _ _ h3, RInt.keep h _ _ _ h4, CS.keep h (RInt.keep h) h5⟩
theorem RFun.keep (b o : Nat) (x : FunD) (hv : RFun w b o x) : RFun w' b o x := by
  obtain ⟨h1, h2, h3, h4⟩ := hv
  exact ⟨RInt.keep h _ _ _ h1, RInt.keep h _ _ _ h2, CS.keep h (RInt.keep h) h3, CS.keep h (RBlk.keep h) h4⟩
theorem SInts.keep {A : Option Addr} {c : Nat} {xs : List Int} (hv : SL w 1 RInt A c xs) : SL w' 1 RInt A c xs := SL.keep h (RInt.keep h) hv
theorem SPhis.keep {A : Option Addr} {c : Nat} {xs : List PhiD} (hv : SL w 2 RPhi A c xs) : SL w' 2 RPhi A c xs := SL.keep h (RPhi.keep h) hv
theorem SInss.keep {A : Option Addr} {c : Nat} {xs : List InsD} (hv : SL w 5 RIns A c xs) : SL w' 5 RIns A c xs := SL.keep h (RIns.keep h) hv
theorem SBlks.keep {A : Option Addr} {c : Nat} {xs : List BlkD} (hv : SL w 5 RBlk A c xs) : SL w' 5 RBlk A c xs := SL.keep h (RBlk.keep h) hv
theorem SFuns.keep {A : Option Addr} {c : Nat} {xs : List FunD} (hv : SL w 4 RFun A c xs) : SL w' 4 RFun A c xs := SL.keep h (RFun.keep h) hv
theorem VInts.keep {v : Value} {xs : List Int} (hv : VS w 1 RInt v xs) : VS w' 1 RInt v xs := VS.keep h (RInt.keep h) hv
theorem VTerm.keep {v : Value} {t : TermD} (hv : VTerm w v t) : VTerm w' v t := by
  obtain ⟨A, c, rfl, g1, g2⟩ := hv
  exact ⟨A, c, rfl, SInts.keep h g1, g2⟩
theorem VPhi.keep {v : Value} {t : PhiD} (hv : VPhi w v t) : VPhi w' v t := by
  obtain ⟨A, c, rfl, g1, g2⟩ := hv
  exact ⟨A, c, rfl, SInts.keep h g1, g2⟩
theorem VIns.keep {v : Value} {t : InsD} (hv : VIns w v t) : VIns w' v t := by
  obtain ⟨A, c, rfl, g1, g2⟩ := hv
  exact ⟨A, c, rfl, SInts.keep h g1, g2⟩
theorem VBlk.keep {v : Value} {t : BlkD} (hv : VBlk w v t) : VBlk w' v t := by
  obtain ⟨_, _, _, _, _, _, rfl, g1, g2, g3, g4⟩ := hv
  exact ⟨_, _, _, _, _, _, rfl, SPhis.keep h g1, SInss.keep h g2, SInts.keep h g3, g4⟩
theorem VFun.keep {v : Value} {t : FunD} (hv : VFun w v t) : VFun w' v t := by
  obtain ⟨_, _, _, _, rfl, g1, g2, g3⟩ := hv
  exact ⟨_, _, _, _, rfl, SInts.keep h g1, SBlks.keep h g2, g3⟩
theorem VMod.keep {v : Value} {t : List FunD} (hv : VMod w v t) : VMod w' v t := by
  obtain ⟨_, _, rfl, g1⟩ := hv
  exact ⟨_, _, rfl, SFuns.keep h g1⟩
end

/-! ### Elements -/
section
variable {α : Type} {w : World} {sz c : Nat} {R : World → Nat → Nat → α → Prop} {A : Option Addr} {xs : List α}
theorem SL.len (h : SL w sz R A c xs) : xs.length ≤ 9223372036854775807 := by
  obtain ⟨h1, ⟨h2, _⟩, _⟩ := h
  unfold maxLen at h2; omega
/-- Element k of a slice that is read. -/
theorem SL.at_ (h : SL w sz R A c xs) {k : Nat} (hk : k < xs.length) : ∃ b o x, A = some ⟨b, o, none⟩ ∧ Hid (xs[k]? = some x) ∧ R w b (o + k * sz) x := by
  obtain ⟨h1, h2, h3⟩ := h
  obtain ⟨b, o, e, hx⟩ := h3 (by omega)
  exact ⟨b, o, xs[k], e, Lib.hid (List.getElem?_eq_getElem hk), hx k _ (List.getElem?_eq_getElem hk)⟩
end
theorem SL.int {w : World} {c : Nat} {A : Option Addr} {xs : List Int} (h : SL w 1 RInt A c xs) {k : Nat} (hk : k < xs.length) :
    ∃ b o x, A = some ⟨b, o, none⟩ ∧ Hid (xs[k]? = some x) ∧ w.cell? ⟨b, o + k, none⟩ = some (.int .i64 x) ∧ I64 x := by
  obtain ⟨b, o, x, e, hx, h1, h2⟩ := h.at_ hk
  rw [Nat.mul_one] at h1
  exact ⟨b, o, x, e, hx, h1, h2⟩
theorem take_succ_of {α : Type} {l : List α} {j : Nat} {x : α} (h : l[j]? = some x) : l.take (j + 1) = l.take j ++ [x] := by
  obtain ⟨hj, rfl⟩ := List.getElem?_eq_some_iff.1 h
  exact List.take_succ_eq_append_getElem hj

theorem Upto.succ {α : Type} {p : α → Prop} {l : List α} {k : Nat} {y : α} (h : Upto p l k) (hy : l[k]? = some y) (hp : p y) : Upto p l (k + 1) := by
  intro x hx
  rw [take_succ_of hy] at hx
  rcases List.mem_append.1 hx with hx | hx
  · exact h x hx
  · rw [List.mem_singleton.1 hx]; exact hp

/-- A new block, and the world behind it by a name. -/
theorem named (w : World) (cs : Array Value) (t : TypeId) : ∃ w1, w1 = w.alloc (.cells cs t) ∧ w1.heap.size = w.heap.size + 1 ∧ Kept w w1 ∧ Below w.heap.size w w1 ∧
    (∀ i u, cs[i]? = some u → w1.cell? ⟨w.heap.size, i, none⟩ = some u) ∧ (∀ i, w1.frozen? ⟨w.heap.size, i, none⟩ = false) := by
  refine ⟨_, rfl, by simp, kept_alloc _ _, (Below.refl _ _).alloc (Nat.le_refl _) _, fun i u hu => (World.cell?_alloc_at (w := w) cs t w.heap.size i rfl).trans hu, fun i => by simp⟩

/-- A function's value laid in a block reads as that function. -/
theorem RFun.of_cells {w : World} {g : Nat} {f : FunD} {Ar Ab : Option Addr} {cr cb : Nat} (h : ∀ i u, #[Value.int .i64 f.params, .int .i64 f.result, .slice Ar f.regs.length cr, .slice Ab f.blocks.length cb][i]? = some u → w.cell? ⟨g, i, none⟩ = some u)
    (hr : SL w 1 RInt Ar cr f.regs) (hb : SL w 5 RBlk Ab cb f.blocks) (hp : I64 f.params) (hs : I64 f.result) : RFun w g 0 f :=
  ⟨⟨h 0 _ rfl, hp⟩, ⟨h 1 _ rfl, hs⟩, ⟨Ar, cr, h 2 _ rfl, hr⟩, ⟨Ab, cb, h 3 _ rfl, hb⟩⟩
/-- One element alone. -/
theorem SL.one {α : Type} {w : World} {sz b o : Nat} {R : World → Nat → Nat → α → Prop} {x : α} (h : R w b o x) : SL w sz R (some ⟨b, o, none⟩) 1 [x] := by
  refine ⟨Nat.le_refl _, ⟨by unfold maxLen; omega, fun e => by cases e⟩, fun _ => ⟨b, o, rfl, fun i y hi => ?_⟩⟩
  match i, hi with
  | 0, hi => obtain rfl := Option.some.inj hi; simpa using h
  | i + 1, hi => simp at hi

/-! ### Rows of the call's own -/
theorem news_one (w : World) (v : Value) (t : TypeId) {g : Nat} (hg : g = w.heap.size) : ∀ j u, [v][j]? = some u → (w.alloc (.cells #[v] t)).cell? ⟨g, j, none⟩ = some u := by
  intro j u hu
  subst hg
  rcases j with _ | j
  · obtain rfl := Option.some.inj hu
    exact (World.cell?_alloc_at (w := w) #[v] t w.heap.size 0 rfl).trans rfl
  · exact absurd hu (by simp)
theorem news_one_add (w : World) (v : Value) (t : TypeId) {g : Nat} (hg : g = w.heap.size) : ∀ j u, [v][j]? = some u → (w.alloc (.cells #[v] t)).cell? ((⟨g, 0, none⟩ : Addr).add j) = some u := fun j u hu => by
  have h := news_one w v t hg j u hu
  rwa [show (⟨g, 0, none⟩ : Addr).add j = ⟨g, j, none⟩ by unfold Addr.add; split <;> simp_all]
/-- A row of integers that the call owns reads as a list. -/
theorem vs_of_own {w : World} {base : Nat} {e : TypeId} {v : Value} {xs : List Int} (h : w.ownsRow base e 1 v xs.length (xs.map (Value.int .i64))) (hx : ∀ x ∈ xs, I64 x) : VS w 1 RInt v xs := by
  rcases h.2 with ⟨rfl, h0⟩ | ⟨g, c, cur, rfl, hb, hh, hn, hc, hsz, ht⟩
  · have : xs = [] := List.length_eq_zero_iff.1 h0
    subst this
    exact ⟨none, 0, rfl, Nat.le_refl _, ⟨by unfold maxLen; omega, fun _ => rfl⟩, fun hp => absurd hp (by simp)⟩
  · refine ⟨some ⟨g, 0, none⟩, c, rfl, hn, ⟨hc, fun e => by cases e⟩, fun _ => ⟨g, 0, rfl, fun i x hi => ⟨?_, hx x (List.mem_of_getElem? hi)⟩⟩⟩
    have := h.cells (g := g) rfl i (.int .i64 x) (by rw [List.getElem?_map, hi]; rfl)
    rw [Nat.mul_one]
    rwa [show (⟨g, 0, none⟩ : Addr).add i = ⟨g, 0 + i, none⟩ by unfold Addr.add; split <;> simp_all] at this

/-! ### A module that came in -/
section
variable {H : Type} {enc : TypeId × Value → H} {P : Program} {w : World} {base : Nat} {spare : Nat → Bool} {held : Bool}

/-- An element is read: its cells, from a place on. -/
def Opens {α : Type} (enc : TypeId × Value → H) (P : Program) (w : World) (base : Nat) (spare : Nat → Bool) (held : Bool) (e : TypeId) (sz : Nat) (R : World → Nat → Nat → α → Prop) : Prop :=
  ∀ n b o cs y, cs.length = sz → (∀ i, i < sz → w.cell? ⟨b, o + i, none⟩ = cs[i]?) → DataW.trod enc P w base spare held n e cs = some y → ∃ x, R w b o x

theorem add_plain' (b o i : Nat) : (⟨b, o, none⟩ : Addr).add i = ⟨b, o + i, none⟩ := by unfold Addr.add; split <;> simp_all

theorem open_vs {α : Type} [Inhabited α] {t e : TypeId} {fuel : Nat} {v : Value} {y : DataW H × List MemPlace} {sz : Nat} {R : World → Nat → Nat → α → Prop}
    (ht : P.underlying t = some (.slice e)) (hsz : P.cellsOf e = sz) (hpos : 0 < sz) (hR : Opens enc P w base spare held e sz R)
    (h : DataW.trod enc P w base spare held fuel t [v] = some y) : ∃ xs, VS w sz R v xs := by
  rcases open_slice ht h with ⟨hv, _⟩ | ⟨a, len, cap, m, n, D, Pl, hv, _, hl, hm, hmm, _, hx⟩
  · obtain rfl : v = .slice none 0 0 := by simpa using hv
    exact ⟨[], none, 0, rfl, Nat.le_refl _, ⟨by unfold maxLen; omega, fun _ => rfl⟩, fun hp => absurd hp (by simp)⟩
  · obtain rfl : v = .slice (some a) len cap := by simpa using hv
    rw [hsz] at hx
    by_cases h0 : len = 0
    · subst h0
      exact ⟨[], some a, cap, rfl, hl, ⟨hm, fun e => by cases e⟩, fun hp => absurd hp (by simp)⟩
    · have hml : len ≤ m := by rw [hmm]; split <;> omega
      obtain ⟨b, o, spot⟩ := a
      have hspot : spot = none := by
        obtain ⟨cs, hc, _⟩ := hx 0 (by omega)
        obtain ⟨_, hlen, hat⟩ := World.cells?_some hc
        have h1 := hat 0 hpos
        rw [List.getElem?_eq_getElem (by omega)] at h1
        have h2 := World.cell?_spot h1
        simpa [Addr.add] using h2
      subst hspot
      obtain ⟨f, hf⟩ := choose_lt (α := α) (n := len) (p := fun i x => R w b (o + i * sz) x) (fun i hi => by
        obtain ⟨cs, hc, hd⟩ := hx i (by omega)
        obtain ⟨_, hlen, hat⟩ := World.cells?_some hc
        exact hR n b (o + i * sz) cs _ hlen (fun j hj => by have := hat j hj; rwa [add_plain', add_plain'] at this) hd)
      refine ⟨(List.range len).map f, some ⟨b, o, none⟩, cap, by simp, by simpa using hl, ⟨hm, fun e => by cases e⟩, fun _ => ⟨b, o, rfl, fun i x hi => ?_⟩⟩
      obtain ⟨hi', rfl⟩ := List.getElem?_eq_some_iff.1 hi
      simp only [List.getElem_map, List.getElem_range]
      exact hf i (by simpa using hi')

theorem wf_i64 {x : Int} (h : (Lit.int .i64 x).wf = true) : I64 x := by
  unfold I64
  have h' := bounds_i64 h
  exact h'
end
end Go.Proofs.Ytcjmhdneelmbhaa

/- Functions and modules that came in as arguments: what they read as. -/
namespace Go.Proofs.Ytcjmhdneelmbhaa
open Go.ChangeShapes Go.WideShapes Go.RowKit Go.Deep
set_option linter.unusedVariables false

section
variable {H : Type} {enc : TypeId × Value → H} {P : Program} {w : World} {base : Nat} {spare : Nat → Bool} {held : Bool}

theorem struct_field {t : TypeId} {fs : Array Field} {fuel : Nat} {cs : List Value} {y : DataW H × List MemPlace} (ht : P.underlying t = some (.struct fs)) (h : DataW.trod enc P w base spare held fuel t cs = some y)
    (i : Nat) (f : Field) (hf : fs[i]? = some f) : ∃ n z, DataW.trod enc P w base spare held n f.type ((cs.drop f.offset).take (P.cellsOf f.type)) = some z := by
  obtain ⟨xs, n, _, _, _, hlen, hx⟩ := DataW.trod_struct ht h
  have hi : i < xs.length := by rw [hlen]; exact (Array.getElem?_eq_some_iff.1 hf).1
  exact ⟨n, xs[i], (hx i f hf).trans (List.getElem?_eq_getElem hi)⟩
theorem field_of {t : TypeId} {fs : Array Field} {fuel : Nat} {cs : List Value} {y : DataW H × List MemPlace} (ht : P.underlying t = some (.struct fs)) (h : DataW.trod enc P w base spare held fuel t cs = some y)
    (i : Nat) {f : Field} (hf : fs[i]? = some f) {t' : TypeId} {c k : Nat} (hft : f.type = t') (hk : f.offset = k) (hc : P.cellsOf t' = c) : ∃ n z, DataW.trod enc P w base spare held n t' ((cs.drop k).take c) = some z := by
  subst hft hk hc
  exact struct_field ht h i f hf
theorem drop_take_one {cs : List Value} {k : Nat} (hk : k < cs.length) : (cs.drop k).take 1 = [cs[k]] := by
  rw [List.drop_eq_getElem_cons hk]; rfl
theorem int_field {t : TypeId} {n k : Nat} {cs : List Value} {z : DataW H × List MemPlace} (ht : P.underlying t = some (.int .i64)) (hk : k < cs.length) (h : DataW.trod enc P w base spare held n t ((cs.drop k).take 1) = some z) :
    ∃ x, cs[k]? = some (.int .i64 x) ∧ I64 x := by
  rw [drop_take_one hk] at h
  obtain ⟨x, hx, _, hw⟩ := DataW.trod_int ht h
  exact ⟨x, by rw [List.getElem?_eq_getElem hk]; exact congrArg some (List.cons.inj hx).1, wf_i64 hw⟩
theorem slice_field {α : Type} [Inhabited α] {t e : TypeId} {sz : Nat} {R : World → Nat → Nat → α → Prop} {n k : Nat} {cs : List Value} {z : DataW H × List MemPlace} (ht : P.underlying t = some (.slice e)) (hsz : P.cellsOf e = sz) (hpos : 0 < sz)
    (hR : Opens enc P w base spare held e sz R) (hk : k < cs.length) (h : DataW.trod enc P w base spare held n t ((cs.drop k).take 1) = some z) : ∃ A c xs, cs[k]? = some (.slice A xs.length c) ∧ SL w sz R A c xs := by
  rw [drop_take_one hk] at h
  obtain ⟨xs, A, c, e, hs⟩ := open_vs ht hsz hpos hR h
  exact ⟨A, c, xs, by rw [List.getElem?_eq_getElem hk, e], hs⟩
end

theorem Try.cells3 : Try.prog.cellsOf 3 = 1 := by kernel_rfl
theorem Try.cells2 : Try.prog.cellsOf 2 = 1 := by kernel_rfl
theorem Try.cells34 : Try.prog.cellsOf 34 = 1 := by kernel_rfl
theorem Try.cells37 : Try.prog.cellsOf 37 = 1 := by kernel_rfl
theorem Try.cells38 : Try.prog.cellsOf 38 = 1 := by kernel_rfl
theorem Try.cells41 : Try.prog.cellsOf 41 = 1 := by kernel_rfl
theorem Try.cells22 : Try.prog.cellsOf 22 = 1 := by kernel_rfl
theorem Try.cells76 : Try.prog.cellsOf 76 = 2 := by kernel_rfl
theorem Try.cells46 : Try.prog.cellsOf 46 = 5 := by kernel_rfl
theorem Try.cells36 : Try.prog.cellsOf 36 = 3 := by kernel_rfl
theorem Try.cells40 : Try.prog.cellsOf 40 = 5 := by kernel_rfl
theorem Try.cells43 : Try.prog.cellsOf 43 = 4 := by kernel_rfl
theorem Try.cells24 : Try.prog.cellsOf 24 = 1 := by kernel_rfl

section
variable {H : Type} {enc : TypeId × Value → H} {w : World} {base : Nat} {spare : Nat → Bool} {held : Bool}

theorem opens_int : Opens enc Try.prog w base spare held 3 1 RInt := fun n b o cs y hlen hat h => by
  obtain ⟨x, rfl, _, hw⟩ := DataW.trod_int Try.underlying3 h
  exact ⟨x, (hat 0 (by omega)).trans rfl, wf_i64 hw⟩
theorem field_int {fs : Array Field} {t : TypeId} {fuel : Nat} {cs : List Value} {y : DataW H × List MemPlace} (ht : Try.prog.underlying t = some (.struct fs)) (h : DataW.trod enc Try.prog w base spare held fuel t cs = some y)
    (i : Nat) (f : Field) (hf : fs[i]? = some f) (hft : f.type = 3) (hk : f.offset < cs.length) : ∃ x, cs[f.offset]? = some (.int .i64 x) ∧ I64 x := by
  obtain ⟨n, z, hz⟩ := struct_field ht h i f hf
  rw [hft, Try.cells3] at hz
  exact int_field Try.underlying3 hk hz
theorem field_int64 {fs : Array Field} {t : TypeId} {fuel : Nat} {cs : List Value} {y : DataW H × List MemPlace} (ht : Try.prog.underlying t = some (.struct fs)) (h : DataW.trod enc Try.prog w base spare held fuel t cs = some y)
    (i : Nat) (f : Field) (hf : fs[i]? = some f) (hft : f.type = 2) (hk : f.offset < cs.length) : ∃ x, cs[f.offset]? = some (.int .i64 x) ∧ I64 x := by
  obtain ⟨n, z, hz⟩ := struct_field ht h i f hf
  rw [hft, Try.cells2] at hz
  exact int_field Try.underlying2 hk hz
theorem field_ints {fs : Array Field} {t : TypeId} {fuel : Nat} {cs : List Value} {y : DataW H × List MemPlace} (ht : Try.prog.underlying t = some (.struct fs)) (h : DataW.trod enc Try.prog w base spare held fuel t cs = some y)
    (i : Nat) (f : Field) (hf : fs[i]? = some f) (hft : f.type = 34) (hk : f.offset < cs.length) : ∃ A c, ∃ xs : List Int, cs[f.offset]? = some (.slice A xs.length c) ∧ SL w 1 RInt A c xs := by
  obtain ⟨n, z, hz⟩ := struct_field ht h i f hf
  rw [hft, Try.cells34] at hz
  exact slice_field Try.underlying34 Try.cells3 (by omega) opens_int hk hz
theorem opens_phi : Opens enc Try.prog w base spare held 76 2 RPhi := fun n b o cs y hlen hat h => by
  obtain ⟨x, h0, w0⟩ := field_int Try.underlying76 h 0 _ rfl rfl (by simp; omega)
  obtain ⟨A, c, xs, h1, w1⟩ := field_ints Try.underlying76 h 1 _ rfl rfl (by simp; omega)
  exact ⟨⟨x, xs⟩, ⟨(hat 0 (by omega)).trans h0, w0⟩, A, c, (hat 1 (by omega)).trans h1, w1⟩
theorem opens_ins : Opens enc Try.prog w base spare held 46 5 RIns := fun n b o cs y hlen hat h => by
  obtain ⟨x0, h0, w0⟩ := field_int Try.underlying46 h 0 _ rfl rfl (by simp; omega)
  obtain ⟨x1, h1, w1⟩ := field_int Try.underlying46 h 1 _ rfl rfl (by simp; omega)
  obtain ⟨A, c, xs, h2, w2⟩ := field_ints Try.underlying46 h 2 _ rfl rfl (by simp; omega)
  obtain ⟨x3, h3, w3⟩ := field_int64 Try.underlying46 h 3 _ rfl rfl (by simp; omega)
  obtain ⟨x4, h4, w4⟩ := field_int Try.underlying46 h 4 _ rfl rfl (by simp; omega)
  exact ⟨⟨x0, x1, xs, x3, x4⟩, ⟨(hat 0 (by omega)).trans h0, w0⟩, ⟨(hat 1 (by omega)).trans h1, w1⟩, ⟨A, c, (hat 2 (by omega)).trans h2, w2⟩, ⟨(hat 3 (by omega)).trans h3, w3⟩, ⟨(hat 4 (by omega)).trans h4, w4⟩⟩
theorem opens_blk : Opens enc Try.prog w base spare held 40 5 RBlk := fun n b o cs y hlen hat h => by
  obtain ⟨n0, z0, hz0⟩ := field_of Try.underlying40 h 0 rfl rfl rfl Try.cells37
  obtain ⟨A0, c0, ps, h0, w0⟩ := slice_field Try.underlying37 Try.cells76 (by omega) opens_phi (by simp; omega) hz0
  obtain ⟨n1, z1, hz1⟩ := field_of Try.underlying40 h 1 rfl rfl rfl Try.cells38
  obtain ⟨A1, c1, is, h1, w1⟩ := slice_field Try.underlying38 Try.cells46 (by omega) opens_ins (by simp; omega) hz1
  obtain ⟨n2, z2, hz2⟩ := field_of Try.underlying40 h 2 rfl rfl rfl Try.cells36
  have hl2 : ((cs.drop 2).take 3).length = 3 := by simp; omega
  obtain ⟨x2, h2, w2⟩ := field_int Try.underlying36 hz2 0 _ rfl rfl (by simp; omega)
  obtain ⟨x3, h3, w3⟩ := field_int Try.underlying36 hz2 1 _ rfl rfl (by simp; omega)
  obtain ⟨A4, c4, xs, h4, w4⟩ := field_ints Try.underlying36 hz2 2 _ rfl rfl (by simp; omega)
  have g (i : Nat) (hi : i < 3) : ((cs.drop 2).take 3)[i]? = cs[2 + i]? := by rw [List.getElem?_take_of_lt hi, List.getElem?_drop]
  exact ⟨⟨ps, is, ⟨x2, x3, xs⟩⟩, ⟨A0, c0, (hat 0 (by omega)).trans h0, w0⟩, ⟨A1, c1, (hat 1 (by omega)).trans h1, w1⟩, ⟨(hat 2 (by omega)).trans ((g 0 (by omega)).symm.trans h2), w2⟩, ⟨(hat 3 (by omega)).trans ((g 1 (by omega)).symm.trans h3), w3⟩, ⟨A4, c4, (hat 4 (by omega)).trans ((g 2 (by omega)).symm.trans h4), w4⟩⟩
theorem opens_fun : Opens enc Try.prog w base spare held 43 4 RFun := fun n b o cs y hlen hat h => by
  obtain ⟨x0, h0, w0⟩ := field_int Try.underlying43 h 0 _ rfl rfl (by simp; omega)
  obtain ⟨x1, h1, w1⟩ := field_int Try.underlying43 h 1 _ rfl rfl (by simp; omega)
  obtain ⟨A2, c2, xs, h2, w2⟩ := field_ints Try.underlying43 h 2 _ rfl rfl (by simp; omega)
  obtain ⟨n3, z3, hz3⟩ := field_of Try.underlying43 h 3 rfl rfl rfl Try.cells41
  obtain ⟨A3, c3, bs, h3, w3⟩ := slice_field Try.underlying41 Try.cells40 (by omega) opens_blk (by simp; omega) hz3
  exact ⟨⟨x0, x1, xs, bs⟩, ⟨(hat 0 (by omega)).trans h0, w0⟩, ⟨(hat 1 (by omega)).trans h1, w1⟩, ⟨A2, c2, (hat 2 (by omega)).trans h2, w2⟩, ⟨A3, c3, (hat 3 (by omega)).trans h3, w3⟩⟩

set_option maxRecDepth 100000 in
/-- A function by value. -/
theorem open_fun {r : Go.Reach} {b0 : Nat} {v : Value} {d : DataW H} {p : List MemPlace} (hv : Value.okWide Try.prog w r b0 43 v) (h : DataW.Trod enc Try.prog w base spare held 43 v d p) : ∃ f, VFun w v f := by
  obtain ⟨cs, rfl, hsz⟩ := okWide_struct Try.underlying43 hv
  rw [Try.cells43] at hsz
  obtain ⟨l⟩ := cs
  match l, hsz with
  | [a, b, c, d], _ =>
    obtain ⟨fuel, hf⟩ := h
    have hf : DataW.trod enc Try.prog w base spare held fuel 43 [a, b, c, d] = some (_, p) := hf
    obtain ⟨x0, h0, w0⟩ := field_int Try.underlying43 hf 0 _ rfl rfl (by simp)
    obtain ⟨x1, h1, w1⟩ := field_int Try.underlying43 hf 1 _ rfl rfl (by simp)
    obtain ⟨A2, c2, xs, h2, w2⟩ := field_ints Try.underlying43 hf 2 _ rfl rfl (by simp)
    obtain ⟨n3, z3, hz3⟩ := field_of Try.underlying43 hf 3 rfl rfl rfl Try.cells41
    obtain ⟨A3, c3, bs, h3, w3⟩ := slice_field Try.underlying41 Try.cells40 (by omega) opens_blk (by simp) hz3
    obtain rfl := Option.some.inj h0
    obtain rfl := Option.some.inj h1
    obtain rfl := Option.some.inj h2
    obtain rfl := Option.some.inj h3
    exact ⟨⟨x0, x1, xs, bs⟩, A2, c2, A3, c3, rfl, w2, w3, w0, w1⟩
set_option maxRecDepth 100000 in
/-- A module by value. -/
theorem open_mod {r : Go.Reach} {b0 : Nat} {v : Value} {d : DataW H} {p : List MemPlace} (hv : Value.okWide Try.prog w r b0 24 v) (h : DataW.Trod enc Try.prog w base spare held 24 v d p) : ∃ m, VMod w v m := by
  obtain ⟨cs, rfl, hsz⟩ := okWide_struct Try.underlying24 hv
  rw [Try.cells24] at hsz
  obtain ⟨l⟩ := cs
  match l, hsz with
  | [a], _ =>
    obtain ⟨fuel, hf⟩ := h
    have hf : DataW.trod enc Try.prog w base spare held fuel 24 [a] = some (_, p) := hf
    obtain ⟨n3, z3, hz3⟩ := field_of Try.underlying24 hf 0 rfl rfl rfl Try.cells22
    obtain ⟨A3, c3, bs, h3, w3⟩ := slice_field Try.underlying22 Try.cells43 (by omega) opens_fun (by simp) hz3
    obtain rfl := Option.some.inj h3
    exact ⟨bs, A3, c3, rfl, w3⟩
end
end Go.Proofs.Ytcjmhdneelmbhaa

/- Mathematics of tables of values: drawers, handles, order by content. -/
namespace Go.Proofs.Ytcjmhdneelmbhaa
set_option linter.unusedVariables false

/-- A value: its type and its number. -/
abbrev VD := Int × Int
def mayV (x : VD) : Bool := decide (x.1 = 1) || (decide (x.1 = 2) && (decide (x.2 = 0) || decide (x.2 = 1)))
theorem mayV_iff {x : VD} : mayV x = true ↔ x.1 = 1 ∨ (x.1 = 2 ∧ (x.2 = 0 ∨ x.2 = 1)) := by
  unfold mayV; simp
def drwV (n : Nat) (x : VD) : Nat := ((x.2 % 4294967296 + x.1) % (n : Int)).toNat
theorem drwV_lt {n : Nat} {x : VD} (hn : 1 ≤ n) : drwV n x < n := by
  unfold drwV
  have h1 := Int.emod_nonneg (x.2 % 4294967296 + x.1) (b := (n : Int)) (by omega)
  have h2 := Int.emod_lt_of_pos (x.2 % 4294967296 + x.1) (b := (n : Int)) (by omega)
  omega
/-- How many values there are. -/
def totV (ds : List (List VD)) : Nat := ds.flatten.length
/-- Is the value there? -/
def inV (n : Nat) (ds : List (List VD)) (x : VD) : Bool := decide (x ∈ ds.getD (drwV n x) [])
/-- Its handle. -/
def hV (n : Nat) (ds : List (List VD)) (x : VD) : Nat := (ds.getD (drwV n x) []).idxOf x * n + drwV n x
structure TbOk (n : Nat) (ds : List (List VD)) : Prop where
  n1 : 1 ≤ n
  n16 : n ≤ 16
  len : ds.length = n
  at_ : ∀ (d : Nat) l x, ds[d]? = some l → x ∈ l → drwV n x = d ∧ mayV x = true
  nodup : ∀ (d : Nat) l, ds[d]? = some l → l.Nodup
  tot : totV ds ≤ 4096
theorem TbOk.here {n : Nat} {ds : List (List VD)} (T : TbOk n ds) (x : VD) : ds[drwV n x]? = some (ds.getD (drwV n x) []) := by
  have h := drwV_lt (n := n) (x := x) T.n1
  rw [List.getD_eq_getElem?_getD, List.getElem?_eq_getElem (by rw [T.len]; exact h)]; rfl
theorem TbOk.in_iff {n : Nat} {ds : List (List VD)} (T : TbOk n ds) {x : VD} : inV n ds x = true ↔ x ∈ ds.flatten := by
  unfold inV
  rw [decide_eq_true_iff, List.mem_flatten]
  constructor
  · intro h
    exact ⟨_, List.mem_of_getElem? (T.here x), h⟩
  · rintro ⟨l, hl, hx⟩
    obtain ⟨d, hd⟩ := List.getElem?_of_mem hl
    obtain ⟨rfl, -⟩ := T.at_ d l x hd hx
    have := T.here x
    rw [hd] at this
    rw [← Option.some.inj this]; exact hx
theorem TbOk.in_may {n : Nat} {ds : List (List VD)} (T : TbOk n ds) {x : VD} (h : inV n ds x = true) : mayV x = true := by
  unfold inV at h
  exact (T.at_ _ _ x (T.here x) (of_decide_eq_true h)).2
theorem TbOk.flat_nodup {n : Nat} {ds : List (List VD)} (T : TbOk n ds) : ds.flatten.Nodup := by
  unfold List.Nodup
  rw [List.pairwise_flatten]
  refine ⟨fun l hl => ?_, ?_⟩
  · obtain ⟨d, hd⟩ := List.getElem?_of_mem hl
    exact T.nodup d l hd
  · rw [List.pairwise_iff_getElem]
    intro i j hi hj hij x hx y hy e
    subst e
    have a := (T.at_ i _ x (List.getElem?_eq_getElem hi) hx).1
    have b := (T.at_ j _ x (List.getElem?_eq_getElem hj) hy).1
    omega
theorem totV_set {ds : List (List VD)} {d : Nat} {l : List VD} {x : VD} (h : ds[d]? = some l) : totV (ds.set d (l ++ [x])) = totV ds + 1 := by
  unfold totV
  induction ds generalizing d with
  | nil => cases h
  | cons a r ih =>
    cases d with
    | zero =>
      simp only [List.getElem?_cons_zero, Option.some.injEq] at h
      subst h
      simp; omega
    | succ d =>
      have := ih (d := d) (by simpa using h)
      simp at this ⊢; omega
/-- A value is put behind its drawer. -/
def addV (n : Nat) (ds : List (List VD)) (x : VD) : List (List VD) := ds.set (drwV n x) (ds.getD (drwV n x) [] ++ [x])
/-- What becomes of the drawers by Put. -/
def putV (n : Nat) (ds : List (List VD)) (x : VD) : List (List VD) := if mayV x = true ∧ inV n ds x = false ∧ totV ds < 4096 then addV n ds x else ds
theorem TbOk.tot_add {n : Nat} {ds : List (List VD)} (T : TbOk n ds) (x : VD) : totV (addV n ds x) = totV ds + 1 := totV_set (T.here x)
theorem addV_get {n : Nat} {ds : List (List VD)} {x : VD} (T : TbOk n ds) (d : Nat) : (addV n ds x)[d]? = if d = drwV n x then some (ds.getD (drwV n x) [] ++ [x]) else ds[d]? := by
  unfold addV
  have h := drwV_lt (n := n) (x := x) T.n1
  by_cases e : d = drwV n x
  · rw [if_pos e, e, List.getElem?_set_self (by rw [T.len]; exact h)]
  · rw [if_neg e, List.getElem?_set_ne (fun q => e q.symm)]
theorem TbOk.add {n : Nat} {ds : List (List VD)} (T : TbOk n ds) {x : VD} (hm : mayV x = true) (hi : inV n ds x = false) (ht : totV ds < 4096) : TbOk n (addV n ds x) := by
  refine ⟨T.n1, T.n16, by unfold addV; rw [List.length_set]; exact T.len, fun d l y hl hy => ?_, fun d l hl => ?_, by rw [T.tot_add]; omega⟩
  · rw [addV_get T] at hl
    by_cases e : d = drwV n x
    · rw [if_pos e] at hl
      rw [← Option.some.inj hl] at hy
      rcases List.mem_append.1 hy with hy | hy
      · rw [e]; exact T.at_ _ _ y (T.here x) hy
      · rw [List.mem_singleton.1 hy]; exact ⟨e.symm, hm⟩
    · rw [if_neg e] at hl
      exact T.at_ d l y hl hy
  · rw [addV_get T] at hl
    by_cases e : d = drwV n x
    · rw [if_pos e] at hl
      rw [← Option.some.inj hl, List.nodup_append]
      refine ⟨T.nodup _ _ (T.here x), by simp, fun a ha b hb => ?_⟩
      rw [List.mem_singleton.1 hb]
      intro e2
      rw [e2] at ha
      unfold inV at hi
      exact (of_decide_eq_false hi) ha
    · rw [if_neg e] at hl
      exact T.nodup d l hl
theorem addV_getD {n : Nat} {ds : List (List VD)} {x : VD} (T : TbOk n ds) (d : Nat) : (addV n ds x).getD d [] = if d = drwV n x then ds.getD (drwV n x) [] ++ [x] else ds.getD d [] := by
  rw [List.getD_eq_getElem?_getD, addV_get T]
  by_cases e : d = drwV n x
  · rw [if_pos e, if_pos e]; rfl
  · rw [if_neg e, if_neg e, List.getD_eq_getElem?_getD]
theorem TbOk.add_in {n : Nat} {ds : List (List VD)} (T : TbOk n ds) (x y : VD) : inV n (addV n ds x) y = (inV n ds y || decide (y = x)) := by
  unfold inV
  rw [addV_getD T]
  by_cases e : drwV n y = drwV n x
  · rw [if_pos e, e, Bool.eq_iff_iff]; simp
  · rw [if_neg e]
    have : y ≠ x := fun q => e (by rw [q])
    simp [this]
theorem TbOk.add_h {n : Nat} {ds : List (List VD)} (T : TbOk n ds) {x y : VD} (h : inV n ds y = true) : hV n (addV n ds x) y = hV n ds y := by
  unfold hV
  rw [addV_getD T]
  by_cases e : drwV n y = drwV n x
  · rw [if_pos e]
    unfold inV at h
    have hm := of_decide_eq_true h
    rw [e] at hm ⊢
    rw [List.idxOf_append, if_pos hm]
  · rw [if_neg e]
theorem TbOk.add_h_new {n : Nat} {ds : List (List VD)} (T : TbOk n ds) {x : VD} (h : inV n ds x = false) : hV n (addV n ds x) x = (ds.getD (drwV n x) []).length * n + drwV n x := by
  unfold hV
  rw [addV_getD T, if_pos rfl]
  unfold inV at h
  rw [List.idxOf_append, if_neg (of_decide_eq_false h)]
  simp
theorem TbOk.h_inj {n : Nat} {ds : List (List VD)} (T : TbOk n ds) {x y : VD} (hx : inV n ds x = true) (hy : inV n ds y = true) (h : hV n ds x = hV n ds y) : x = y := by
  unfold hV at h
  have a := drwV_lt (n := n) (x := x) T.n1
  have b := drwV_lt (n := n) (x := y) T.n1
  have h1 : drwV n x = drwV n y := by
    have := congrArg (· % n) h
    simpa only [Nat.mul_add_mod', Nat.mod_eq_of_lt a, Nat.mod_eq_of_lt b] using this
  rw [h1] at h
  have h2 : (ds.getD (drwV n y) []).idxOf x = (ds.getD (drwV n y) []).idxOf y := by
    have : (ds.getD (drwV n y) []).idxOf x * n = (ds.getD (drwV n y) []).idxOf y * n := by omega
    exact Nat.eq_of_mul_eq_mul_right (by have := T.n1; omega) this
  unfold inV at hx hy
  rw [h1] at hx
  have hx := of_decide_eq_true hx
  have hy := of_decide_eq_true hy
  have e1 := List.getElem_idxOf (List.idxOf_lt_length_iff.2 hx)
  have e2 := List.getElem_idxOf (List.idxOf_lt_length_iff.2 hy)
  have e3 := List.getElem?_eq_getElem (List.idxOf_lt_length_iff.2 hx)
  have e4 := List.getElem?_eq_getElem (List.idxOf_lt_length_iff.2 hy)
  rw [e1] at e3
  rw [e2, ← h2, e3] at e4
  exact Option.some.inj e4
theorem len_flat {α : Type} {l : List α} : ∀ {ds : List (List α)}, l ∈ ds → l.length ≤ ds.flatten.length
  | a :: r, h => by
    rcases List.mem_cons.1 h with rfl | h
    · simp
    · have := len_flat h
      simp at this ⊢; omega
theorem TbOk.h_lt {n : Nat} {ds : List (List VD)} (T : TbOk n ds) {x : VD} (hx : inV n ds x = true) : hV n ds x < 70000 := by
  unfold hV inV at *
  have a := drwV_lt (n := n) (x := x) T.n1
  have b := List.idxOf_lt_length_iff.2 (of_decide_eq_true hx)
  have c : (ds.getD (drwV n x) []).length ≤ totV ds := by
    unfold totV
    have := T.here x
    have h1 := List.mem_of_getElem? this
    exact len_flat h1
  have d := T.tot
  have e := T.n16
  have f : (ds.getD (drwV n x) []).idxOf x * n ≤ 4096 * 16 := Nat.mul_le_mul (by omega) e
  omega
theorem TbOk.new {n : Nat} (h1 : 1 ≤ n) (h2 : n ≤ 16) : TbOk n (List.replicate n []) := by
  refine ⟨h1, h2, by simp, fun d l x hl hx => ?_, fun d l hl => ?_, ?_⟩
  · have := List.eq_of_mem_replicate (List.mem_of_getElem? hl)
    subst this; cases hx
  · have := List.eq_of_mem_replicate (List.mem_of_getElem? hl)
    subst this; simp
  · unfold totV; simp
theorem TbOk.put {n : Nat} {ds : List (List VD)} (T : TbOk n ds) (x : VD) : TbOk n (putV n ds x) := by
  unfold putV
  split
  · rename_i h
    exact T.add h.1 h.2.1 h.2.2
  · exact T
/-! ### by content -/
def leV (x y : VD) : Bool := decide (x.1 < y.1 ∨ (x.1 = y.1 ∧ x.2 ≤ y.2))
def ltV (x y : VD) : Bool := decide (x.1 < y.1 ∨ (x.1 = y.1 ∧ x.2 < y.2))
theorem leV_trans (x y z : VD) (h1 : leV x y = true) (h2 : leV y z = true) : leV x z = true := by
  unfold leV at *
  rw [decide_eq_true_iff] at *; omega
theorem leV_total (x y : VD) : (leV x y || leV y x) = true := by
  unfold leV
  rw [Bool.or_eq_true, decide_eq_true_iff, decide_eq_true_iff]; omega
theorem leV_anti {x y : VD} (h1 : leV x y = true) (h2 : leV y x = true) : x = y := by
  unfold leV at *
  rw [decide_eq_true_iff] at *
  exact Prod.ext (by omega) (by omega)
/-- All values by content. -/
def valsV (ds : List (List VD)) : List VD := ds.flatten.mergeSort leV
theorem vals_perm (ds : List (List VD)) : (valsV ds).Perm ds.flatten := List.mergeSort_perm _ _
theorem vals_len (ds : List (List VD)) : (valsV ds).length = totV ds := (vals_perm ds).length_eq
theorem vals_sorted (ds : List (List VD)) : (valsV ds).Pairwise (fun a b => leV a b = true) := List.pairwise_mergeSort leV_trans leV_total _
theorem eq_of_sorted {a b : List VD} (hp : a.Perm b) (ha : a.Pairwise (fun a b => leV a b = true)) (hb : b.Pairwise (fun a b => leV a b = true)) : a = b :=
  hp.eq_of_pairwise (fun x y _ _ h1 h2 => leV_anti h1 h2) ha hb
theorem TbOk.vals_nodup {n : Nat} {ds : List (List VD)} (T : TbOk n ds) : (valsV ds).Nodup := (vals_perm ds).nodup_iff.2 T.flat_nodup
theorem TbOk.mem_vals {n : Nat} {ds : List (List VD)} (T : TbOk n ds) {x : VD} : x ∈ valsV ds ↔ inV n ds x = true := by
  rw [(vals_perm ds).mem_iff, T.in_iff]
/-- The same values in two tables: by content they are alike. -/
theorem vals_same {n k : Nat} {ds es : List (List VD)} (T : TbOk n ds) (U : TbOk k es) (h : ∀ x, inV n ds x = true ↔ inV k es x = true) : valsV ds = valsV es := by
  refine eq_of_sorted ?_ (vals_sorted ds) (vals_sorted es)
  rw [List.perm_ext_iff_of_nodup T.vals_nodup U.vals_nodup]
  intro x
  rw [T.mem_vals, U.mem_vals]
  exact h x
theorem TbOk.vals_lt {n : Nat} {ds : List (List VD)} (T : TbOk n ds) {i : Nat} {x y : VD} (h1 : (valsV ds)[i]? = some x) (h2 : (valsV ds)[i + 1]? = some y) : ltV x y = true := by
  obtain ⟨a, rfl⟩ := List.getElem?_eq_some_iff.1 h1
  obtain ⟨b, rfl⟩ := List.getElem?_eq_some_iff.1 h2
  have s := List.pairwise_iff_getElem.1 (vals_sorted ds) i (i + 1) a b (by omega)
  have d := List.pairwise_iff_getElem.1 T.vals_nodup i (i + 1) a b (by omega)
  unfold leV at s
  unfold ltV
  rw [decide_eq_true_iff] at *
  have : ¬ ((valsV ds)[i].1 = (valsV ds)[i+1].1 ∧ (valsV ds)[i].2 = (valsV ds)[i+1].2) := fun ⟨p, q⟩ => d (Prod.ext p q)
  omega
end Go.Proofs.Ytcjmhdneelmbhaa

/- What a row of values reads as; what a table holds when such a row was put. -/
namespace Go.Proofs.Ytcjmhdneelmbhaa
open Go.ChangeShapes Go.WideShapes Go.RowKit Go.Deep
set_option linter.unusedVariables false

def RVal (w : World) (b o : Nat) (x : VD) : Prop := RInt w b o x.1 ∧ RInt w b (o + 1) x.2
theorem RVal.keep {w w' : World} (h : Kept w w') (b o : Nat) (x : VD) (hv : RVal w b o x) : RVal w' b o x := ⟨RInt.keep h _ _ _ hv.1, RInt.keep h _ _ _ hv.2⟩
/-- The drawers hold what was put, of all that there may be; no more than so many. -/
structure PutsOk (n : Nat) (ds : List (List VD)) (P : VD → Prop) (k : Nat) : Prop where
  in_ : ∀ x, inV n ds x = true ↔ mayV x = true ∧ P x
  tot : totV ds ≤ k
theorem PutsOk.start {n : Nat} (h1 : 1 ≤ n) {P : VD → Prop} (hP : ∀ x, ¬ P x) : PutsOk n (List.replicate n []) P 0 := by
  refine ⟨fun x => ?_, by unfold totV; simp⟩
  have : inV n (List.replicate n []) x = false := by
    unfold inV
    rw [decide_eq_false_iff_not, List.getD_eq_getElem?_getD]
    have := drwV_lt (n := n) (x := x) h1
    simp [this]
  rw [this]
  constructor
  · intro h; cases h
  · rintro ⟨-, h⟩; exact absurd h (hP x)
theorem PutsOk.step {n : Nat} {ds : List (List VD)} {P Q : VD → Prop} {k : Nat} (h : PutsOk n ds P k) (T : TbOk n ds) (hk : k < 4096) {x : VD} (hQ : ∀ y, Q y ↔ P y ∨ y = x) : PutsOk n (putV n ds x) Q (k + 1) := by
  have ht := h.tot
  unfold putV
  by_cases hc : mayV x = true ∧ inV n ds x = false
  · rw [if_pos ⟨hc.1, hc.2, by omega⟩]
    refine ⟨fun y => ?_, by rw [T.tot_add]; omega⟩
    rw [T.add_in, Bool.or_eq_true, h.in_, decide_eq_true_iff, hQ]
    constructor
    · rintro (⟨a, b⟩ | rfl)
      · exact ⟨a, .inl b⟩
      · exact ⟨hc.1, .inr rfl⟩
    · rintro ⟨a, b | rfl⟩
      · exact .inl ⟨a, b⟩
      · exact .inr rfl
  · rw [if_neg (fun q => hc ⟨q.1, q.2.1⟩)]
    refine ⟨fun y => ?_, by omega⟩
    rw [h.in_, hQ]
    constructor
    · rintro ⟨a, b⟩; exact ⟨a, .inl b⟩
    · rintro ⟨a, b | rfl⟩
      · exact ⟨a, b⟩
      · refine ⟨a, ?_⟩
        cases hi : inV n ds y with
        | false => exact absurd ⟨a, hi⟩ hc
        | true => exact ((h.in_ y).1 hi).2
/-- The first j of a row. -/
theorem take_step {l : List VD} {j : Nat} {x : VD} (hx : l[j]? = some x) (y : VD) : y ∈ l.take (j + 1) ↔ y ∈ l.take j ∨ y = x := by
  obtain ⟨h1, rfl⟩ := List.getElem?_eq_some_iff.1 hx
  rw [List.take_succ_eq_append_getElem h1, List.mem_append, List.mem_singleton]
/-- j of them, from the r-th one on, coming round. -/
def rotP (l : List VD) (r j : Nat) (y : VD) : Prop := ∃ i, i < j ∧ l[(i + r) % l.length]? = some y
theorem rot_step {l : List VD} {r j : Nat} {x : VD} (hx : l[(j + r) % l.length]? = some x) (y : VD) : rotP l r (j + 1) y ↔ rotP l r j y ∨ y = x := by
  constructor
  · rintro ⟨i, hi, h⟩
    by_cases e : i = j
    · subst e
      rw [hx] at h
      exact .inr (Option.some.inj h).symm
    · exact .inl ⟨i, by omega, h⟩
  · rintro (⟨i, hi, h⟩ | rfl)
    · exact ⟨i, by omega, h⟩
    · exact ⟨j, by omega, hx⟩
theorem rot_all {l : List VD} {r : Nat} (hr : r < l.length) (y : VD) : rotP l r l.length y ↔ y ∈ l := by
  constructor
  · rintro ⟨i, hi, h⟩
    exact List.mem_of_getElem? h
  · intro h
    obtain ⟨p, hp⟩ := List.getElem?_of_mem h
    have hpl := (List.getElem?_eq_some_iff.1 hp).1
    by_cases hc : r ≤ p
    · refine ⟨p - r, by omega, ?_⟩
      rw [show p - r + r = p by omega, Nat.mod_eq_of_lt hpl]; exact hp
    · refine ⟨p + l.length - r, by omega, ?_⟩
      rw [show p + l.length - r + r = p + l.length by omega, Nat.add_mod_right, Nat.mod_eq_of_lt hpl]; exact hp
end Go.Proofs.Ytcjmhdneelmbhaa
