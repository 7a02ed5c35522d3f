/- The reader's lists: what memory holds of them from round to round. -/
import Derived.Test.YtmhodjbplohmiaaGreatDoorRd
namespace Go.Proofs.YtmhodjbplohmiaaGreatDoor
open Go.ChangeShapes Go.WideShapes Go.RowKit Go.Deep
set_option linter.unusedVariables false

theorem own_type {w : World} {base n : Nat} {e : TypeId} {size : Nat} {v : Value} {xs : List Value} (h : w.ownsRow base e size v n xs) {g : Nat} (hg : v.ownBlock = some g) : ∃ cur, w.heap[g]? = some (.cells cur e (0, 0)) := by
  rcases h.2 with ⟨rfl, _⟩ | ⟨g', c, cur, rfl, _, hh, _⟩
  · cases hg
  · obtain rfl : g' = g := Option.some.inj hg
    exact ⟨cur, hh⟩
theorem KeptB.below {B : Nat → Prop} {w w' : World} (h : Below w.heap.size w w') : KeptB B w w' := KeptB.of (kept_of_below h)

theorem rl_step {α : Type} {sz N R : Nat} {T : TypeId} {F : (Nat → Prop) → World → α → List Value → Prop} (Fgo : ∀ (B B' : Nat → Prop) (w w' : World) (x : α) (cs : List Value), KeptB B w w' → (∀ b, B b → B' b) → F B w x cs → F B' w' x cs)
    (Flt : ∀ (B : Nat → Prop) (w : World) (x : α) (cs : List Value), F B w x cs → F (fun b => B b ∧ b < w.heap.size) w x cs) {bs : List UInt8} {wr w2 w3 : World} {u : Value} {l : List α} {cs c : List Value} {x : α} {s2 : St} {o : Obj} {g k n cap : Nat}
    (hT : T ≠ 67) (hN : R < N) (hNw : N ≤ wr.heap.size) (hown : wr.ownsRow N T sz u k cs) (hrows : Rows sz (F (fun b => N ≤ b ∧ some b ≠ u.ownBlock) wr) l cs)
    (hb2 : BB wr.heap.size R wr w2) (hr2 : Rd bs R w2 s2) (hx : F (fun b => wr.heap.size ≤ b) w2 x c) (hc : c.length = sz) (hgr : (w2.alloc o).grownBy w3 u.ownBlock) (hloc : u.ownBlock = some g ∨ g = w2.heap.size + 1) :
    Rd bs R w3 s2 ∧ BB N R wr w3 ∧ Rows sz (F (fun b => N ≤ b ∧ some b ≠ (Value.slice (some ⟨g, 0, none⟩) n cap).ownBlock) w3) (l ++ [x]) (cs ++ c) := by
  have hsz := hb2.size
  have hu : ∀ y, u.ownBlock = some y → N ≤ y ∧ y < wr.heap.size := fun y hy => hown.lt y hy
  have hown2 : (w2.alloc o).ownsRow N T sz u k cs := World.ownsRow.alloc (own_block hown (fun y hy => hb2.block y (hu y hy).2 (by have := (hu y hy).1; omega))) o
  have hr2' : Rd bs R (w2.alloc o) s2 := hr2.below ((Below.refl _ _).alloc (Nat.le_refl _) o)
  refine ⟨?_, ?_, ?_⟩
  · cases ho : u.ownBlock with
    | none => exact hr2'.keep (fun y hy _ => hgr.block y hy (by rw [ho]; simp)) (fun y ds hd => hgr.block y (block_lt hd) (by rw [ho]; simp))
    | some G =>
      obtain ⟨cur, hcur⟩ := own_type hown2 ho
      exact hr2'.other (by have := (hu G ho).1; omega) hcur hT (fun y hy hyG => hgr.block y hy (by rw [ho]; simpa using hyG))
  · exact (hb2.mono hNw).trans (((BB.refl N R w2).alloc (by omega) o).grown hgr (by simp; omega) (fun y hy => .inr (hu y hy).1))
  · have hk1 : KeptB (fun b => (N ≤ b ∧ some b ≠ u.ownBlock) ∧ b < wr.heap.size) wr w3 :=
      ((hb2.kept.mono (fun b hb => ⟨hb.2, by omega⟩)).trans (KeptB.of (kept_alloc w2 o))).trans ((keptB_grown hgr).mono (fun b hb => hb.1.2))
    have hk2 : KeptB (fun b => wr.heap.size ≤ b ∧ b < w2.heap.size) w2 w3 :=
      (KeptB.of (kept_alloc w2 o)).trans ((keptB_grown hgr).mono (fun b hb e => by have := (hu b e.symm).2; omega))
    refine Rows.push Fgo Flt hrows hk1 (fun b h1 h2 h3 e => ?_) hc (Fgo _ _ _ _ _ _ hk2 (fun b hb => ⟨by omega, fun e => ?_⟩) (Flt _ _ _ _ hx))
    · have hbg : b = g := Option.some.inj e
      rcases hloc with h | h
      · exact h2 (by rw [h, hbg])
      · omega
    · have hbg : b = g := Option.some.inj e
      rcases hloc with h | h
      · have := (hu g h).2; omega
      · omega

/-! ### What is told, by value -/
def CInt (B : Nat → Prop) (w : World) (x : Int) (cs : List Value) : Prop := cs = [.int .i64 x] ∧ I64 x
theorem CInt.go {B B' : Nat → Prop} {w w' : World} {x : Int} {cs : List Value} (hv : CInt B w x cs) : CInt B' w' x cs := hv
theorem CInt.reads {B : Nat → Prop} {w : World} {g o : Nat} {x : Int} {c : List Value} (hg : B g) (h : CInt B w x c) (hc : ∀ j v, c[j]? = some v → w.cell? ⟨g, o + j, none⟩ = some v) : RIntB B w g o x := by
  obtain ⟨rfl, h1⟩ := h
  exact ⟨hg, hc 0 _ rfl, h1⟩
def VL {α : Type} (sz : Nat) (RB : (Nat → Prop) → World → Nat → Nat → α → Prop) (B : Nat → Prop) (w : World) (v : Value) (l : List α) : Prop := ∃ A c, v = .slice A l.length c ∧ SL w sz (RB B) A c l
theorem VL.nil {α : Type} (sz : Nat) (RB : (Nat → Prop) → World → Nat → Nat → α → Prop) (B : Nat → Prop) (w : World) : VL sz RB B w (.slice none 0 0) ([] : List α) :=
  ⟨none, 0, rfl, Nat.le_refl _, ⟨by unfold maxLen; omega, fun _ => rfl⟩, fun h => absurd h (by simp)⟩
def VPhiB (B : Nat → Prop) (w : World) (v : Value) (p : PhiD) : Prop := ∃ A c, v = .agg #[.int .i64 p.dst, .slice A p.args.length c] ∧ SL w 1 (RIntB B) A c p.args ∧ I64 p.dst
def VTermB (B : Nat → Prop) (w : World) (v : Value) (t : TermD) : Prop := ∃ A c, v = .agg #[.int .i64 t.kind, .int .i64 t.arg, .slice A t.to.length c] ∧ SL w 1 (RIntB B) A c t.to ∧ I64 t.kind ∧ I64 t.arg
def VInsB (B : Nat → Prop) (w : World) (v : Value) (x : InsD) : Prop :=
  ∃ A c, v = .agg #[.int .i64 x.op, .int .i64 x.dst, .slice A x.args.length c, .int .i64 x.imm, .int .i64 x.fn] ∧ SL w 1 (RIntB B) A c x.args ∧ I64 x.op ∧ I64 x.dst ∧ I64 x.imm ∧ I64 x.fn
def VBlkB (B : Nat → Prop) (w : World) (v : Value) (k : BlkD) : Prop :=
  ∃ Ap cp Ai ci At ct, v = .agg #[.slice Ap k.phis.length cp, .slice Ai k.ins.length ci, .int .i64 k.term.kind, .int .i64 k.term.arg, .slice At k.term.to.length ct] ∧
    SL w 2 (RPhiB B) Ap cp k.phis ∧ SL w 5 (RInsB B) Ai ci k.ins ∧ SL w 1 (RIntB B) At ct k.term.to ∧ I64 k.term.kind ∧ I64 k.term.arg
def VFunB (B : Nat → Prop) (w : World) (v : Value) (f : FunD) : Prop :=
  ∃ Ar cr Ab cb, v = .agg #[.int .i64 f.params, .int .i64 f.result, .slice Ar f.regs.length cr, .slice Ab f.blocks.length cb] ∧ SL w 1 (RIntB B) Ar cr f.regs ∧ SL w 5 (RBlkB B) Ab cb f.blocks ∧ I64 f.params ∧ I64 f.result
theorem i64_of_ok {x : Int} (h : okN x) : I64 x := by unfold okN at h; unfold I64; omega
theorem i64_of_ok1 {x : Int} (h : okN x) : I64 (x - 1) := by unfold okN at h; unfold I64; omega

/-! ### Told lists -/
theorem told_list {α : Type} {p : Pr α} {lim n : Nat} {s s1 : St} (h : ToldS (manyP lim) s (n : Int) s1) {l : List α} {s' : St} (k : ToldS (repP p n) s1 l s') : ToldS (listP p lim) s l s' :=
  ToldS.and h (by rwa [Int.toNat_natCast])
theorem told_next {α : Type} {p : Pr α} {m : Nat} {s s1 s' : St} {x : α} {ys : List α} (h : ToldS p s x s1) (k : ToldS (repP p m) s1 ys s') : ToldS (repP p (m + 1)) s (x :: ys) s' := by
  rw [repP]
  exact ToldS.and h (ToldS.and k (ToldS.ret _ _))
/-- k elements are read, l; n are to be read. -/
def Inv {α : Type} (p : Pr α) (n k : Nat) (s1 sk : St) (l : List α) : Prop := ∀ ys s', ToldS (repP p (n - k)) sk ys s' → ToldS (repP p n) s1 (l ++ ys) s'
theorem Inv.zero {α : Type} (p : Pr α) (n : Nat) (s1 : St) : Inv p n 0 s1 s1 [] := fun ys s' h => h
theorem Inv.next {α : Type} {p : Pr α} {n k : Nat} {s1 sk s2 : St} {l : List α} {x : α} (h : Inv p n k s1 sk l) (hk : k < n) (ht : ToldS p sk x s2) : Inv p n (k + 1) s1 s2 (l ++ [x]) := fun ys s' hy => by
  rw [List.append_assoc]
  exact h _ _ (by rw [show n - k = n - (k + 1) + 1 by omega]; exact told_next ht hy)
theorem Inv.done {α : Type} {p : Pr α} {n : Nat} {s1 sk : St} {l : List α} (h : Inv p n n s1 sk l) : ToldS (repP p n) s1 l sk := by
  have := h [] sk (by rw [Nat.sub_self]; exact ToldS.ret _ _)
  rwa [List.append_nil] at this
theorem Inv.stop {α : Type} {p : Pr α} {n k : Nat} {s1 sk : St} {l : List α} {x : α} {c : Int} {m : Nat} (h : Inv p n k s1 sk l) (hk : k < n) (ht : ToldS p sk x (.bad c m)) (y : List α) : ToldS (repP p n) s1 y (.bad c m) := by
  have := h [x] (.bad c m) (by rw [show n - k = n - (k + 1) + 1 by omega]; exact told_next ht rfl)
  exact this.any
end Go.Proofs.YtmhodjbplohmiaaGreatDoor
