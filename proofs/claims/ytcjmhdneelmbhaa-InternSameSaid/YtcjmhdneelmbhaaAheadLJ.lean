/- Rows of values that came in as arguments. -/
import Derived.Test.YtcjmhdneelmbhaaTbTJ
import Derived.Maps.OwnSet
import Derived.DeepKeys4
namespace Go.Proofs.Ytcjmhdneelmbhaa
open Go.ChangeShapes Go.WideShapes Go.RowKit Go.Deep
set_option linter.unusedVariables false

theorem valCellsO : Try.prog.cellsOf 69 = 2 := by kernel_rfl
section
variable {H : Type} {enc : TypeId × Value → H} {w : World} {base : Nat} {spare : Nat → Bool} {held : Bool}
set_option maxRecDepth 100000 in
theorem opens_val : Opens enc Try.prog w base spare held 69 2 RVal := fun n b o cs y hlen hat h => by
  obtain ⟨x, h0, w0⟩ := field_int Try.underlying69 h 0 _ rfl rfl (by simp; omega)
  obtain ⟨z, h1, w1⟩ := field_int64 Try.underlying69 h 1 _ rfl rfl (by simp; omega)
  exact ⟨(x, z), ⟨(hat 0 (by omega)).trans h0, w0⟩, ⟨(hat 1 (by omega)).trans h1, w1⟩⟩
set_option maxRecDepth 100000 in
theorem open_valsV {r : Go.Reach} {b0 : Nat} {v : Value} {d : DataW H} {p : List MemPlace} (hv : Value.okWide Try.prog w r b0 59 v) (h : DataW.Trod enc Try.prog w base spare held 59 v d p) : ∃ l : List VD, VS w 2 RVal v l := by
  obtain ⟨a, len, cap, rfl⟩ := okWide_slice Try.underlying59 hv
  obtain ⟨fuel, hf⟩ := h
  exact open_vs Try.underlying59 valCellsO (by omega) opens_val hf
end
end Go.Proofs.Ytcjmhdneelmbhaa

/- Maps keyed by values, and by numbers, in memory. -/
namespace Go.Proofs.Ytcjmhdneelmbhaa
open Go.ChangeShapes Go.WideShapes Go.RowKit Go.Deep Go.Maps
set_option linter.unusedVariables false

theorem valLaid : laidOutB Try.prog = true := by kernel_rfl
theorem valRow : (69 : TypeId) < Try.prog.types.size := of_decide_eq_true (by kernel_rfl)
theorem valWide : (match Try.prog.underlying 69 with | some (.array _ _) | some (.struct _) => true | _ => false) = true := by kernel_rfl
set_option maxRecDepth 100000 in
theorem valLaw : Keyed Try.prog 69 := Keyed.of_law (deep_law_laid valLaid (m := 2) (by omega) valRow (by kernel_rfl) valWide)
theorem intLaw : Keyed Try.prog 3 := int_keyed Try.underlying3
theorem zeroInt (w : World) : (zeroValue 3).run Try.prog w = .ok (.int .i64 0) w := by kernel_rfl
theorem valKT : Try.prog.keyType 69 = true := by kernel_rfl
/-- What a value reads as. -/
def valV (x : VD) : Value := .agg #[.int .i64 x.1, .int .i64 x.2]
def klV (x : VD) : Lit := .string (keyBytes [.int .i64 x.1, .int .i64 x.2])
def IV (x : VD) : Prop := I64 x.1 ∧ I64 x.2
theorem wf_of_i64 {a : Int} (h : I64 a) : (Lit.int .i64 a).wf = true := by
  unfold I64 at h
  exact WalkArith.wf_i64 (by omega)
theorem valCells : Try.prog.cellsOf 69 = 2 := by kernel_rfl
theorem intCells : Try.prog.cellsOf 3 = 1 := by kernel_rfl
theorem int64Cells : Try.prog.cellsOf 2 = 1 := by kernel_rfl
theorem val_key {x : VD} (h : IV x) : keyOf Try.prog 69 (valV x) = some (klV x) := by
  have h1 := wf_of_i64 h.1
  have h2 := wf_of_i64 h.2
  have hf : (valV x).formed Try.prog 69 = true := by
    simp [Value.formed, valV, Try.underlying69, valCells]
  have hl : ∀ d, Try.prog.keyLits (d + 2) 69 [.int .i64 x.1, .int .i64 x.2] = some [.int .i64 x.1, .int .i64 x.2] := by
    intro d
    simp [Program.keyLits, Try.underlying69, Try.underlying3, Try.underlying2, valCells, intCells, int64Cells, h1, h2]
  obtain ⟨d, hd⟩ : ∃ d, Try.prog.types.size + 1 = d + 2 := ⟨Try.prog.types.size - 1, by have h : (69 : Nat) < Try.prog.types.size := valRow; omega⟩
  have hc : (valV x).cells.toList = [.int .i64 x.1, .int .i64 x.2] := by simp [valV, Value.cells]
  unfold keyOf
  rw [Try.underlying69]
  simp only [valKT, hf, hc, hd, hl]
  rfl
theorem klV_inj {x y : VD} (hx : IV x) (hy : IV y) (h : klV x = klV y) : x = y := by
  have h1 := val_key hx
  have h2 := val_key hy
  rw [← h] at h2
  have := valLaw.inj h1 h2
  simp only [valV, Value.agg.injEq, Array.mk.injEq, List.cons.injEq, Value.int.injEq, true_and, and_true] at this
  exact Prod.ext this.1 this.2
theorem klV_key {x : VD} (hx : IV x) : WideAt.IsKeyLit (klV x) := valLaw.key (val_key hx)

/-- Block b is a map of handles: those of the values that are in the drawers. -/
def MpV (w : World) (b c n : Nat) (ds : List (List VD)) : Prop :=
  ∃ D : DataW Unit, w.ownsMap Try.prog 69 (plainElem Try.prog 3) b c D ∧ (∀ x, IV x → Maps.has D (klV x) = inV n ds x ∧ (inV n ds x = true → D.atKey (klV x) (.lit (.int .i64 0)) = .lit (.int .i64 (hV n ds x : Int)))) ∧ Maps.size D = totV ds
theorem MpV.lt {w : World} {b c n : Nat} {ds : List (List VD)} (h : MpV w b c n ds) : b < w.heap.size := by
  obtain ⟨D, h1, -⟩ := h
  exact h1.lt
theorem MpV.kept {w w' : World} {b c n : Nat} {ds : List (List VD)} (h : MpV w b c n ds) (hb : w'.heap[b]? = w.heap[b]?) : MpV w' b c n ds := by
  obtain ⟨D, ⟨es, clock, h1, h2⟩, h3⟩ := h
  exact ⟨D, ⟨es, clock, hb.trans h1, h2⟩, h3⟩
theorem MpV.made (w : World) {n : Nat} (hn : 1 ≤ n) : MpV (w.alloc (.map #[] 0)) w.heap.size 0 n (List.replicate n []) := by
  refine ⟨.map [], World.ownsMap_made _ _ _ _, fun x _ => ?_, ?_⟩
  · have : inV n (List.replicate n []) x = false := by
      unfold inV
      rw [decide_eq_false_iff_not, List.getD_eq_getElem?_getD]
      have := drwV_lt (n := n) (x := x) hn
      simp [this]
    rw [this]
    exact ⟨rfl, fun h => by cases h⟩
  · unfold totV; simp [Maps.size]
/-- 'v, ok := m[x]'. -/
theorem MpV.look {w : World} {b c n : Nat} {ds : List (List VD)} (h : MpV w b c n ds) {x : VD} (hx : IV x) :
    (Instr.lookup 90 (.map (some b)) (.agg #[.int .i64 x.1, .int .i64 x.2]) true).run Try.prog w = .ok (.tuple #[.int .i64 (if inV n ds x = true then (hV n ds x : Int) else 0), .bool (inV n ds x)]) w := by
  obtain ⟨D, h1, h2, -⟩ := h
  obtain ⟨h3, h4⟩ := h2 x hx
  obtain ⟨v, ps, hr, hv⟩ := h1.look_ok valLaw Try.underlying90 (zeroInt w) (zd := .lit (.int .i64 0)) (zp := []) (plainElem_int Try.underlying3 (by decide)) (val_key hx)
  obtain ⟨c', rfl, hc, -⟩ := plainElem_int_inv Try.underlying3 hv
  have hc := congrArg Prod.fst hc
  have e : c' = if inV n ds x = true then (hV n ds x : Int) else 0 := by
    split
    · rename_i hi
      rw [h4 hi] at hc
      simpa using hc.symm
    · rename_i hi
      rw [Maps.atKey_of_not_has (by rw [h3]; simpa using hi)] at hc
      simpa using hc.symm
  rw [← e, ← h3]
  exact hr
/-- 'm[x]'. -/
theorem MpV.look1 {w : World} {b c n : Nat} {ds : List (List VD)} (h : MpV w b c n ds) {x : VD} (hx : IV x) :
    (Instr.lookup 90 (.map (some b)) (.agg #[.int .i64 x.1, .int .i64 x.2]) false).run Try.prog w = .ok (.int .i64 (if inV n ds x = true then (hV n ds x : Int) else 0)) w := by
  obtain ⟨D, h1, h2, -⟩ := h
  obtain ⟨h3, h4⟩ := h2 x hx
  obtain ⟨c', hr, hc, -⟩ := h1.lookup_int valLaw Try.underlying90 Try.underlying3 (zeroInt w) (val_key hx)
  have e : c' = if inV n ds x = true then (hV n ds x : Int) else 0 := by
    split
    · rename_i hi
      rw [h4 hi] at hc
      simpa using hc.symm
    · rename_i hi
      rw [Maps.atKey_of_not_has (by rw [h3]; simpa using hi)] at hc
      simpa using hc.symm
  rw [← e]
  exact hr
theorem MpV.len {w : World} {b c n : Nat} {ds : List (List VD)} (h : MpV w b c n ds) (ty : TypeId) : (Builtin.len_ #[90] ty #[.map (some b)]).run Try.prog w = .ok (.int .i64 (totV ds : Int)) w := by
  obtain ⟨D, h1, -, h2⟩ := h
  rw [← h2]
  exact h1.len Try.underlying90 ty
/-- A value that isn't there is given its handle. -/
theorem MpV.store {w : World} {b c n : Nat} {ds : List (List VD)} (T : TbOk n ds) (h : MpV w b c n ds) (hc : c < maxLen) {x : VD} (hx : IV x) (hi : inV n ds x = false) :
    ∃ w', (Instr.mapUpdate 90 (.map (some b)) (.agg #[.int .i64 x.1, .int .i64 x.2]) (.int .i64 (((ds.getD (drwV n x) []).length * n + drwV n x : Nat) : Int))).run Try.prog w = .ok () w' ∧ MpV w' b (c + 1) n (addV n ds x) ∧ w.grownBy w' (some b) ∧ w'.heap.size = w.heap.size := by
  obtain ⟨D, h1, h2, h3⟩ := h
  have hlt : ((ds.getD (drwV n x) []).length * n + drwV n x : Nat) < 70000 := by
    have a := drwV_lt (n := n) (x := x) T.n1
    have c2 := len_flat (List.mem_of_getElem? (T.here x))
    have d : ds.flatten.length ≤ 4096 := T.tot
    have e := T.n16
    have f : (ds.getD (drwV n x) []).length * n ≤ 4096 * 16 := Nat.mul_le_mul (by omega) e
    omega
  obtain ⟨w', hr, h4, h5⟩ := h1.store valLaw Try.underlying90 hc (val_key hx) (plainElem_int Try.underlying3 (a := (((ds.getD (drwV n x) []).length * n + drwV n x : Nat) : Int)) (wf_of_i64 (by unfold I64; omega)))
  have hsz : w'.heap.size = w.heap.size := by
    obtain ⟨_, _, _, _, _, rfl⟩ := h5
    simp [ChangeMaps.setBlock]
  refine ⟨w', hr, ⟨_, h4, fun y hy => ?_, ?_⟩, h5.grown, hsz⟩
  · by_cases e : y = x
    · subst e
      rw [T.add_in, T.add_h_new hi, Maps.has_put_same h1.isMap (klV_key hx), Maps.atKey_put_same h1.isMap (klV_key hx)]
      exact ⟨by simp, fun _ => rfl⟩
    · have hne : klV y ≠ klV x := fun q => e (klV_inj hy hx q)
      obtain ⟨g1, g2⟩ := h2 y hy
      rw [Maps.has_put_other hne, Maps.atKey_put_other hne, T.add_in, g1]
      refine ⟨by simp [e], fun q => ?_⟩
      have q2 : inV n ds y = true := by simpa [e] using q
      rw [T.add_h q2]
      exact g2 q2
  · rw [Maps.size_put (h1.tidy valLaw), T.tot_add, (h2 x hx).1, hi, h3]; rfl

/-- Block b is a map from numbers to numbers. -/
def MpI (w : World) (b c : Nat) (f : Int → Option Int) (s : Nat) : Prop :=
  ∃ D : DataW Unit, w.ownsMap Try.prog 3 (plainElem Try.prog 3) b c D ∧ (∀ x, I64 x → Maps.has D (.int .i64 x) = (f x).isSome ∧ ∀ y, f x = some y → D.atKey (.int .i64 x) (.lit (.int .i64 0)) = .lit (.int .i64 y)) ∧ Maps.size D = s
theorem MpI.kept {w w' : World} {b c : Nat} {f : Int → Option Int} {s : Nat} (h : MpI w b c f s) (hb : w'.heap[b]? = w.heap[b]?) : MpI w' b c f s := by
  obtain ⟨D, ⟨es, clock, h1, h2⟩, h3⟩ := h
  exact ⟨D, ⟨es, clock, hb.trans h1, h2⟩, h3⟩
theorem MpI.lt {w : World} {b c : Nat} {f : Int → Option Int} {s : Nat} (h : MpI w b c f s) : b < w.heap.size := by
  obtain ⟨D, h1, -⟩ := h
  exact h1.lt
theorem MpI.made (w : World) : MpI (w.alloc (.map #[] 0)) w.heap.size 0 (fun _ => none) 0 :=
  ⟨.map [], World.ownsMap_made _ _ _ _, fun x _ => ⟨rfl, fun y h => by cases h⟩, rfl⟩
theorem MpI.look1 {w : World} {b c : Nat} {f : Int → Option Int} {s : Nat} (h : MpI w b c f s) {x : Int} (hx : I64 x) : (Instr.lookup 70 (.map (some b)) (.int .i64 x) false).run Try.prog w = .ok (.int .i64 ((f x).getD 0)) w := by
  obtain ⟨D, h1, h2, -⟩ := h
  obtain ⟨h3, h4⟩ := h2 x hx
  obtain ⟨c', hr, hc, -⟩ := h1.lookup_int intLaw Try.underlying70 Try.underlying3 (zeroInt w) (keyOf_int_mk Try.underlying3 (wf_of_i64 hx))
  have e : c' = (f x).getD 0 := by
    cases hf : f x with
    | none =>
      rw [hf] at h3
      rw [Maps.atKey_of_not_has h3] at hc
      simpa using hc.symm
    | some y =>
      rw [h4 y hf] at hc
      simpa using hc.symm
  rw [← e]
  exact hr
theorem MpI.len {w : World} {b c : Nat} {f : Int → Option Int} {s : Nat} (h : MpI w b c f s) (ty : TypeId) : (Builtin.len_ #[70] ty #[.map (some b)]).run Try.prog w = .ok (.int .i64 (s : Int)) w := by
  obtain ⟨D, h1, -, h2⟩ := h
  rw [← h2]
  exact h1.len Try.underlying70 ty
def putF (f : Int → Option Int) (x y : Int) : Int → Option Int := fun z => if z = x then some y else f z
theorem MpI.store {w : World} {b c : Nat} {f : Int → Option Int} {s : Nat} (h : MpI w b c f s) (hc : c < maxLen) {x y : Int} (hx : I64 x) (hy : I64 y) :
    ∃ w', (Instr.mapUpdate 70 (.map (some b)) (.int .i64 x) (.int .i64 y)).run Try.prog w = .ok () w' ∧ MpI w' b (c + 1) (putF f x y) (if (f x).isSome then s else s + 1) ∧ w.grownBy w' (some b) ∧ w'.heap.size = w.heap.size := by
  obtain ⟨D, h1, h2, h3⟩ := h
  obtain ⟨w', hr, h4, h5⟩ := h1.store intLaw Try.underlying70 hc (keyOf_int_mk Try.underlying3 (wf_of_i64 hx)) (plainElem_int Try.underlying3 (wf_of_i64 hy))
  have hsz : w'.heap.size = w.heap.size := by
    obtain ⟨_, _, _, _, _, rfl⟩ := h5
    simp [ChangeMaps.setBlock]
  have hk : ∀ z : Int, WideAt.IsKeyLit (.int .i64 z) := fun z => trivial
  refine ⟨w', hr, ⟨_, h4, fun z hz => ?_, ?_⟩, h5.grown, hsz⟩
  · by_cases e : z = x
    · subst e
      rw [Maps.has_put_same h1.isMap (hk _), Maps.atKey_put_same h1.isMap (hk _)]
      unfold putF
      rw [if_pos rfl]
      exact ⟨rfl, fun q hq => by rw [← Option.some.inj hq]⟩
    · have hne : Lit.int .i64 z ≠ Lit.int .i64 x := fun q => e (by simpa using q)
      rw [Maps.has_put_other hne, Maps.atKey_put_other hne]
      unfold putF
      rw [if_neg e]
      exact h2 z hz
  · rw [Maps.size_put (h1.tidy intLaw), (h2 x hx).1, h3]
end Go.Proofs.Ytcjmhdneelmbhaa

/- The blocks ahead of one, as a list: plain mathematics. -/
namespace Go.Proofs.Ytcjmhdneelmbhaa
open Go.ChangeShapes Go.WideShapes Go.RowKit Go.Deep
set_option linter.unusedVariables false

theorem Try.info3 : (Try.prog.info? 3).map (fun i => (i.zero, i.size, i.bytes)) = some (some (.int .i64 0), 1, 8) := by kernel_rfl

def hasTo (block : Int) (to : List Int) : Bool := to.any (· == block)
def aheadK : List BlkD → Nat → Int → List Int
  | [], _, _ => []
  | b :: r, i, block => (if hasTo block b.term.to then [(i : Int)] else []) ++ aheadK r (i + 1) block
/-- The blocks ahead of one. -/
def aheadL (bs : List BlkD) (block : Int) : List Int := aheadK bs 0 block

theorem aheadK_snoc (bs : List BlkD) (i : Nat) (block : Int) (x : BlkD) : aheadK (bs ++ [x]) i block = aheadK bs i block ++ (if hasTo block x.term.to then [((i + bs.length : Nat) : Int)] else []) := by
  induction bs generalizing i with
  | nil => simp [aheadK]
  | cons b r ih => simp only [List.cons_append, aheadK, ih, List.append_assoc, List.length_cons]; congr 3; simp; omega
theorem aheadL_step {bs : List BlkD} {k : Nat} {x : BlkD} (block : Int) (h : bs[k]? = some x) : aheadL (bs.take (k + 1)) block = aheadL (bs.take k) block ++ (if hasTo block x.term.to then [(k : Int)] else []) := by
  have hk : k < bs.length := (List.getElem?_eq_some_iff.1 h).1
  rw [aheadL, take_succ_of h, aheadK_snoc, List.length_take, Nat.min_eq_left (by omega), Nat.zero_add]; rfl
theorem aheadK_len (bs : List BlkD) (i : Nat) (block : Int) : (aheadK bs i block).length ≤ bs.length := by
  induction bs generalizing i with
  | nil => simp [aheadK]
  | cons b r ih => simp only [aheadK, List.length_append, List.length_cons]; have := ih (i + 1); split <;> simp <;> omega
theorem aheadK_mem (bs : List BlkD) (i : Nat) (block : Int) : ∀ x ∈ aheadK bs i block, (i : Int) ≤ x ∧ x < ((i + bs.length : Nat) : Int) := by
  induction bs generalizing i with
  | nil => simp [aheadK]
  | cons b r ih =>
    intro x hx
    simp only [aheadK, List.mem_append] at hx
    rcases hx with hx | hx
    · split at hx <;> simp at hx; subst hx; simp; omega
    · have := ih (i + 1) x hx; simp at this ⊢; omega
theorem aheadL_i64 (bs : List BlkD) (block : Int) (h : bs.length ≤ 9223372036854775807) : ∀ x ∈ aheadL bs block, I64 x := by
  intro x hx
  have := aheadK_mem bs 0 block x hx
  simp at this
  unfold I64; omega
theorem hasTo_step (block : Int) {t : List Int} {j : Nat} {x : Int} (h : t[j]? = some x) : hasTo block (t.take (j + 1)) = (hasTo block (t.take j) || (x == block)) := by
  rw [take_succ_of h]; simp [hasTo]
end Go.Proofs.Ytcjmhdneelmbhaa
