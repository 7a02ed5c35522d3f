/- askedOf: what an operation asks for. -/
import Derived.Test.YtcjmhdneelmbhaaInsBJ
namespace Go.Proofs.Ytcjmhdneelmbhaa
open Go.ChangeShapes Go.WideShapes Go.RowKit Go.Deep
set_option linter.unusedVariables false

/-- What an operation asks for, or what is amiss: how many arguments, their types, Dst's. -/
def askE (m : List FunD) (x : InsD) : Int := if x.op = 17 then (if isAtB x.fn m.length then 0 else 4) else if 1 ≤ x.op ∧ x.op ≤ 18 then 0 else 6
def askN (m : List FunD) (x : InsD) : Int := if x.op = 17 then (funAt m x.fn).params else if x.op = 1 then 0 else if x.op = 2 ∨ x.op = 14 ∨ x.op = 15 ∨ x.op = 18 then 1 else 2
def askT (m : List FunD) (f : FunD) (x : InsD) : List Int :=
  if x.op = 17 then (funAt m x.fn).regs.take (typedN (funAt m x.fn)) else if x.op = 1 then [] else if x.op = 2 then [copyT f x] else if x.op = 14 then [2] else if x.op = 15 ∨ x.op = 18 then [1] else [1, 1]
def askD (m : List FunD) (f : FunD) (x : InsD) : Int :=
  if x.op = 17 then (funAt m x.fn).result else if x.op = 1 then constT f x else if x.op = 2 then copyT f x else if 12 ≤ x.op ∧ x.op ≤ 14 then 2 else if x.op = 16 ∨ x.op = 18 then 0 else 1
/-- That is told. -/
def Asked (m : List FunD) (f : FunD) (x : InsD) (w : World) (e : Ending) (w' : World) : Prop :=
  (∃ a A n c d, e = .returned (.tuple #[.agg #[.int .i64 a, .slice A n c, .int .i64 d], errV (askE m x)]) ∧ (askE m x = 0 → VAsk w' (.agg #[.int .i64 a, .slice A n c, .int .i64 d]) (askN m x) (askT m f x) (askD m f x))) ∧ Below w.heap.size w w'

theorem cell_of_heap {w : World} {g : Nat} {cs : Array Value} {t : TypeId} (h : w.heap[g]? = some (.cells cs t (0, 0))) (i : Nat) : w.cell? ⟨g, i, none⟩ = cs[i]? := by
  unfold World.cell?; simp [h]
theorem boxes4 (w : World) (A B C D : Obj) : ∃ w4, w4 = (((w.alloc A).alloc B).alloc C).alloc D ∧ w.heap.size + 1 + 1 + 1 + 1 = w4.heap.size ∧ Below w.heap.size w w4 ∧
    w4.heap[w.heap.size]? = some A ∧ w4.heap[w.heap.size + 1]? = some B ∧ w4.heap[w.heap.size + 1 + 1]? = some C ∧ w4.heap[w.heap.size + 1 + 1 + 1]? = some D := by
  refine ⟨_, rfl, by simp, ((((Below.refl _ w).alloc (Nat.le_refl _) _).alloc (by simp) _).alloc (by simp; omega) _).alloc (by simp; omega) _, ?_, ?_, ?_, ?_⟩
  · show ((((w.heap.push A).push B).push C).push D)[w.heap.size]? = some A
    rw [Array.getElem?_push, if_neg (by simp; omega), Array.getElem?_push, if_neg (by simp; omega), Array.getElem?_push, if_neg (by simp), Array.getElem?_push, if_pos rfl]
  · show ((((w.heap.push A).push B).push C).push D)[w.heap.size + 1]? = some B
    rw [Array.getElem?_push, if_neg (by simp), Array.getElem?_push, if_neg (by simp), Array.getElem?_push, if_pos (by simp)]
  · show ((((w.heap.push A).push B).push C).push D)[w.heap.size + 1 + 1]? = some C
    rw [Array.getElem?_push, if_neg (by simp), Array.getElem?_push, if_pos (by simp)]
  · show ((((w.heap.push A).push B).push C).push D)[w.heap.size + 1 + 1 + 1]? = some D
    rw [Array.getElem?_push, if_pos (by simp)]
theorem SL.two {α : Type} {w : World} {sz b o : Nat} {R : World → Nat → Nat → α → Prop} {x y : α} (h : R w b o x) (h' : R w b (o + sz) y) : SL w sz R (some ⟨b, o, none⟩) 2 [x, y] := by
  refine ⟨Nat.le_refl _, ⟨by unfold maxLen; omega, fun e => by cases e⟩, fun _ => ⟨b, o, rfl, fun i z hi => ?_⟩⟩
  match i, hi with
  | 0, hi => obtain rfl := Option.some.inj hi; simpa using h
  | 1, hi => obtain rfl := Option.some.inj hi; simpa using h'
  | i + 2, hi => simp at hi
theorem SL.none' {α : Type} {w : World} {sz : Nat} {R : World → Nat → Nat → α → Prop} : SL w sz R none 0 [] := ⟨Nat.le_refl _, ⟨by unfold maxLen; omega, fun _ => rfl⟩, fun hp => absurd hp (by simp)⟩
/-- The end: the answer stands in its cell. -/
theorem sets3_other (w : World) {g k : Nat} (hk : k ≠ g) (v0 v1 v2 : Value) :
    (((w.setCell ⟨g, 0, none⟩ v0).setCell ⟨g, 1, none⟩ v1).setCell ⟨g, 2, none⟩ v2).heap[k]? = w.heap[k]? :=
  ((Below.heap_setCell _ _ _ _ hk).trans (Below.heap_setCell _ _ _ _ hk)).trans (Below.heap_setCell _ _ _ _ hk)
theorem sl_arr1 {w : World} {b : Nat} {x : Int} {t : TypeId} (h : w.heap[b]? = some (.cells #[.int .i64 x] t (0, 0))) (hx : I64 x) : SL w 1 RInt (some ⟨b, 0, none⟩) 1 [x] :=
  SL.one ⟨cell_of_heap h 0, hx⟩
theorem sl_arr2 {w : World} {b : Nat} {x y : Int} {t : TypeId} (h : w.heap[b]? = some (.cells #[.int .i64 x, .int .i64 y] t (0, 0))) (hx : I64 x) (hy : I64 y) : SL w 1 RInt (some ⟨b, 0, none⟩) 2 [x, y] :=
  SL.two ⟨cell_of_heap h 0, hx⟩ ⟨cell_of_heap h 1, hy⟩
theorem SL.block {w w' : World} {b c : Nat} {xs : List Int} (h : SL w 1 RInt (some ⟨b, 0, none⟩) c xs) (hb : w'.heap[b]? = w.heap[b]?) : SL w' 1 RInt (some ⟨b, 0, none⟩) c xs := by
  obtain ⟨h1, h2, h3⟩ := h
  refine ⟨h1, h2, fun hp => ?_⟩
  obtain ⟨b', o, e, hx⟩ := h3 hp
  obtain ⟨rfl, rfl, -⟩ := Addr.mk.inj (Option.some.inj e)
  refine ⟨_, _, rfl, fun i x hi => ⟨?_, (hx i x hi).2⟩⟩
  have := (hx i x hi).1
  unfold World.cell? at this ⊢
  dsimp only at this ⊢
  rw [hb]; exact this
theorem i64_1 : I64 1 := by unfold I64; omega
theorem i64_2 : I64 2 := by unfold I64; omega
theorem i64_0 : I64 0 := by unfold I64; omega
theorem asked_end {w4 w5 : World} {g : Nat} (h4 : w4.heap[g]? = some (.cells #[.int .i64 0, .slice none 0 0, .int .i64 0] 161 (0, 0))) (h45 : Below w4.heap.size w4 w5) :
    w5.heap[g]? = some (.cells #[.int .i64 0, .slice none 0 0, .int .i64 0] 161 (0, 0)) := (h45.block _ (block_lt h4)).trans h4

set_option maxRecDepth 100000 in
set_option maxHeartbeats 4000000 in
theorem askedOf_12 (m : List FunD) (f : FunD) (x : InsD) (vm vf vx : Value) (w : World) (hm : VMod w vm m) (hf : VFun w vf f) (hx : VIns w vx x) (h : x.op = 12) :
    Calls Try.prog 91 #[vm, vf, vx] w (Asked m f x w) := by
  obtain ⟨Am, cm, rfl, hms⟩ := hm
  obtain ⟨Ar, cr, Ab, cb, rfl, hr, hbs, hp64, hr64⟩ := hf
  obtain ⟨A, c, rfl, hxa, ho64, hd64, hi64, hf64⟩ := hx
  obtain ⟨op, dst, args, imm, fn⟩ := x
  dsimp only at *
  subst h
  go_enter Try.func91, Try.ntmps91
  go_wp2_with fail
  obtain ⟨w4, hw4, hs4, hb4, hm4, hf4, hx4, hr4⟩ := boxes4 w (.cells #[.slice Am m.length cm] 24) (.cells #[.int .i64 f.params, .int .i64 f.result, .slice Ar f.regs.length cr, .slice Ab f.blocks.length cb] 43) (.cells #[.int .i64 12, .int .i64 dst, .slice A args.length c, .int .i64 imm, .int .i64 fn] 46) (.cells #[.int .i64 0, .slice none 0 0, .int .i64 0] 161)
  rw [← hw4]
  clear hw4
  obtain ⟨wA, hwA, hsA, hkA, hbA, hcA, -⟩ := named w4 #[.int .i64 1, .int .i64 1] 3
  have hA : wA.heap[w4.heap.size]? = some (.cells #[.int .i64 1, .int .i64 1] 3 (0, 0)) := by rw [hwA]; exact heap_alloc_new _ _
  rw [← hwA]
  clear hwA
  refine (asks_any _ _ _ _ _).mono ?_
  rintro e w5 ⟨rfl, hb5⟩
  have h45 : Below w4.heap.size w4 w5 := hbA.trans (hb5.mono (by omega))
  have hr5 := asked_end hr4 h45
  have hA5 := (hb5.block _ (block_lt hA)).trans hA
  have hs5 := hs4
  clear hs4 hA
  have hB5 : Below w.heap.size w w5 := hb4.trans (h45.mono (by omega))
  have r0 := (cell_of_heap hr5 0).trans rfl
  have r1 := (cell_of_heap hr5 1).trans rfl
  have r2 := (cell_of_heap hr5 2).trans rfl
  have f0 := not_frozen_of hr5 0
  have f1 := not_frozen_of hr5 1
  have f2 := not_frozen_of hr5 2
  go_wp2_with fail
  have hwF : Below w.heap.size w (((w5.setCell ⟨w.heap.size + 1 + 1 + 1, 0, none⟩ (.int .i64 2)).setCell ⟨w.heap.size + 1 + 1 + 1, 1, none⟩ (.slice (some ⟨w4.heap.size, 0, none⟩) 2 2)).setCell ⟨w.heap.size + 1 + 1 + 1, 2, none⟩ (.int .i64 2)) :=
    ((hB5.setCell (by show _ ≤ w.heap.size + 1 + 1 + 1; omega) _).setCell (by show _ ≤ w.heap.size + 1 + 1 + 1; omega) _).setCell (by show _ ≤ w.heap.size + 1 + 1 + 1; omega) _
  have hbkF := sets3_block hr5 (.int .i64 2) (.slice (some ⟨w4.heap.size, 0, none⟩) 2 2) (.int .i64 2)
  have hoF : ∀ k, k ≠ w.heap.size + 1 + 1 + 1 → (((w5.setCell ⟨w.heap.size + 1 + 1 + 1, 0, none⟩ (.int .i64 2)).setCell ⟨w.heap.size + 1 + 1 + 1, 1, none⟩ (.slice (some ⟨w4.heap.size, 0, none⟩) 2 2)).setCell ⟨w.heap.size + 1 + 1 + 1, 2, none⟩ (.int .i64 2)).heap[k]? = w5.heap[k]? := fun k hk => sets3_other _ hk _ _ _
  generalize (((w5.setCell ⟨w.heap.size + 1 + 1 + 1, 0, none⟩ (.int .i64 2)).setCell ⟨w.heap.size + 1 + 1 + 1, 1, none⟩ (.slice (some ⟨w4.heap.size, 0, none⟩) 2 2)).setCell ⟨w.heap.size + 1 + 1 + 1, 2, none⟩ (.int .i64 2)) = wF at *
  refine bodyPost_ret (results_cell_row_tmp rfl _ _ (w.heap.size + 1 + 1 + 1) 161 #[.int .i64 2, .slice (some ⟨w4.heap.size, 0, none⟩) 2 2, .int .i64 2] (0, 0) _ (by rfl) hbkF Try.underlying161 (by rfl) (by kernel_rfl)) rfl ?_
  exact ⟨⟨_, _, _, _, _, rfl, fun _ => ⟨_, _, rfl, sl_arr2 ((hoF _ (by omega)).trans hA5) i64_1 i64_1, i64_2, i64_2⟩⟩, hwF⟩

set_option maxRecDepth 100000 in
set_option maxHeartbeats 4000000 in
theorem askedOf_13 (m : List FunD) (f : FunD) (x : InsD) (vm vf vx : Value) (w : World) (hm : VMod w vm m) (hf : VFun w vf f) (hx : VIns w vx x) (h : x.op = 13) :
    Calls Try.prog 91 #[vm, vf, vx] w (Asked m f x w) := by
  obtain ⟨Am, cm, rfl, hms⟩ := hm
  obtain ⟨Ar, cr, Ab, cb, rfl, hr, hbs, hp64, hr64⟩ := hf
  obtain ⟨A, c, rfl, hxa, ho64, hd64, hi64, hf64⟩ := hx
  obtain ⟨op, dst, args, imm, fn⟩ := x
  dsimp only at *
  subst h
  go_enter Try.func91, Try.ntmps91
  go_wp2_with fail
  obtain ⟨w4, hw4, hs4, hb4, hm4, hf4, hx4, hr4⟩ := boxes4 w (.cells #[.slice Am m.length cm] 24) (.cells #[.int .i64 f.params, .int .i64 f.result, .slice Ar f.regs.length cr, .slice Ab f.blocks.length cb] 43) (.cells #[.int .i64 13, .int .i64 dst, .slice A args.length c, .int .i64 imm, .int .i64 fn] 46) (.cells #[.int .i64 0, .slice none 0 0, .int .i64 0] 161)
  rw [← hw4]
  clear hw4
  obtain ⟨wA, hwA, hsA, hkA, hbA, hcA, -⟩ := named w4 #[.int .i64 1, .int .i64 1] 3
  have hA : wA.heap[w4.heap.size]? = some (.cells #[.int .i64 1, .int .i64 1] 3 (0, 0)) := by rw [hwA]; exact heap_alloc_new _ _
  rw [← hwA]
  clear hwA
  refine (asks_any _ _ _ _ _).mono ?_
  rintro e w5 ⟨rfl, hb5⟩
  have h45 : Below w4.heap.size w4 w5 := hbA.trans (hb5.mono (by omega))
  have hr5 := asked_end hr4 h45
  have hA5 := (hb5.block _ (block_lt hA)).trans hA
  have hs5 := hs4
  clear hs4 hA
  have hB5 : Below w.heap.size w w5 := hb4.trans (h45.mono (by omega))
  have r0 := (cell_of_heap hr5 0).trans rfl
  have r1 := (cell_of_heap hr5 1).trans rfl
  have r2 := (cell_of_heap hr5 2).trans rfl
  have f0 := not_frozen_of hr5 0
  have f1 := not_frozen_of hr5 1
  have f2 := not_frozen_of hr5 2
  go_wp2_with fail
  have hwF : Below w.heap.size w (((w5.setCell ⟨w.heap.size + 1 + 1 + 1, 0, none⟩ (.int .i64 2)).setCell ⟨w.heap.size + 1 + 1 + 1, 1, none⟩ (.slice (some ⟨w4.heap.size, 0, none⟩) 2 2)).setCell ⟨w.heap.size + 1 + 1 + 1, 2, none⟩ (.int .i64 2)) :=
    ((hB5.setCell (by show _ ≤ w.heap.size + 1 + 1 + 1; omega) _).setCell (by show _ ≤ w.heap.size + 1 + 1 + 1; omega) _).setCell (by show _ ≤ w.heap.size + 1 + 1 + 1; omega) _
  have hbkF := sets3_block hr5 (.int .i64 2) (.slice (some ⟨w4.heap.size, 0, none⟩) 2 2) (.int .i64 2)
  have hoF : ∀ k, k ≠ w.heap.size + 1 + 1 + 1 → (((w5.setCell ⟨w.heap.size + 1 + 1 + 1, 0, none⟩ (.int .i64 2)).setCell ⟨w.heap.size + 1 + 1 + 1, 1, none⟩ (.slice (some ⟨w4.heap.size, 0, none⟩) 2 2)).setCell ⟨w.heap.size + 1 + 1 + 1, 2, none⟩ (.int .i64 2)).heap[k]? = w5.heap[k]? := fun k hk => sets3_other _ hk _ _ _
  generalize (((w5.setCell ⟨w.heap.size + 1 + 1 + 1, 0, none⟩ (.int .i64 2)).setCell ⟨w.heap.size + 1 + 1 + 1, 1, none⟩ (.slice (some ⟨w4.heap.size, 0, none⟩) 2 2)).setCell ⟨w.heap.size + 1 + 1 + 1, 2, none⟩ (.int .i64 2)) = wF at *
  refine bodyPost_ret (results_cell_row_tmp rfl _ _ (w.heap.size + 1 + 1 + 1) 161 #[.int .i64 2, .slice (some ⟨w4.heap.size, 0, none⟩) 2 2, .int .i64 2] (0, 0) _ (by rfl) hbkF Try.underlying161 (by rfl) (by kernel_rfl)) rfl ?_
  exact ⟨⟨_, _, _, _, _, rfl, fun _ => ⟨_, _, rfl, sl_arr2 ((hoF _ (by omega)).trans hA5) i64_1 i64_1, i64_2, i64_2⟩⟩, hwF⟩

set_option maxRecDepth 100000 in
set_option maxHeartbeats 4000000 in
theorem askedOf_14 (m : List FunD) (f : FunD) (x : InsD) (vm vf vx : Value) (w : World) (hm : VMod w vm m) (hf : VFun w vf f) (hx : VIns w vx x) (h : x.op = 14) :
    Calls Try.prog 91 #[vm, vf, vx] w (Asked m f x w) := by
  obtain ⟨Am, cm, rfl, hms⟩ := hm
  obtain ⟨Ar, cr, Ab, cb, rfl, hr, hbs, hp64, hr64⟩ := hf
  obtain ⟨A, c, rfl, hxa, ho64, hd64, hi64, hf64⟩ := hx
  obtain ⟨op, dst, args, imm, fn⟩ := x
  dsimp only at *
  subst h
  go_enter Try.func91, Try.ntmps91
  go_wp2_with fail
  obtain ⟨w4, hw4, hs4, hb4, hm4, hf4, hx4, hr4⟩ := boxes4 w (.cells #[.slice Am m.length cm] 24) (.cells #[.int .i64 f.params, .int .i64 f.result, .slice Ar f.regs.length cr, .slice Ab f.blocks.length cb] 43) (.cells #[.int .i64 14, .int .i64 dst, .slice A args.length c, .int .i64 imm, .int .i64 fn] 46) (.cells #[.int .i64 0, .slice none 0 0, .int .i64 0] 161)
  rw [← hw4]
  clear hw4
  obtain ⟨wA, hwA, hsA, hkA, hbA, hcA, -⟩ := named w4 #[.int .i64 2] 3
  have hA : wA.heap[w4.heap.size]? = some (.cells #[.int .i64 2] 3 (0, 0)) := by rw [hwA]; exact heap_alloc_new _ _
  rw [← hwA]
  clear hwA
  refine (asks_any _ _ _ _ _).mono ?_
  rintro e w5 ⟨rfl, hb5⟩
  have h45 : Below w4.heap.size w4 w5 := hbA.trans (hb5.mono (by omega))
  have hr5 := asked_end hr4 h45
  have hA5 := (hb5.block _ (block_lt hA)).trans hA
  have hs5 := hs4
  clear hs4 hA
  have hB5 : Below w.heap.size w w5 := hb4.trans (h45.mono (by omega))
  have r0 := (cell_of_heap hr5 0).trans rfl
  have r1 := (cell_of_heap hr5 1).trans rfl
  have r2 := (cell_of_heap hr5 2).trans rfl
  have f0 := not_frozen_of hr5 0
  have f1 := not_frozen_of hr5 1
  have f2 := not_frozen_of hr5 2
  go_wp2_with fail
  have hwF : Below w.heap.size w (((w5.setCell ⟨w.heap.size + 1 + 1 + 1, 0, none⟩ (.int .i64 1)).setCell ⟨w.heap.size + 1 + 1 + 1, 1, none⟩ (.slice (some ⟨w4.heap.size, 0, none⟩) 1 1)).setCell ⟨w.heap.size + 1 + 1 + 1, 2, none⟩ (.int .i64 2)) :=
    ((hB5.setCell (by show _ ≤ w.heap.size + 1 + 1 + 1; omega) _).setCell (by show _ ≤ w.heap.size + 1 + 1 + 1; omega) _).setCell (by show _ ≤ w.heap.size + 1 + 1 + 1; omega) _
  have hbkF := sets3_block hr5 (.int .i64 1) (.slice (some ⟨w4.heap.size, 0, none⟩) 1 1) (.int .i64 2)
  have hoF : ∀ k, k ≠ w.heap.size + 1 + 1 + 1 → (((w5.setCell ⟨w.heap.size + 1 + 1 + 1, 0, none⟩ (.int .i64 1)).setCell ⟨w.heap.size + 1 + 1 + 1, 1, none⟩ (.slice (some ⟨w4.heap.size, 0, none⟩) 1 1)).setCell ⟨w.heap.size + 1 + 1 + 1, 2, none⟩ (.int .i64 2)).heap[k]? = w5.heap[k]? := fun k hk => sets3_other _ hk _ _ _
  generalize (((w5.setCell ⟨w.heap.size + 1 + 1 + 1, 0, none⟩ (.int .i64 1)).setCell ⟨w.heap.size + 1 + 1 + 1, 1, none⟩ (.slice (some ⟨w4.heap.size, 0, none⟩) 1 1)).setCell ⟨w.heap.size + 1 + 1 + 1, 2, none⟩ (.int .i64 2)) = wF at *
  refine bodyPost_ret (results_cell_row_tmp rfl _ _ (w.heap.size + 1 + 1 + 1) 161 #[.int .i64 1, .slice (some ⟨w4.heap.size, 0, none⟩) 1 1, .int .i64 2] (0, 0) _ (by rfl) hbkF Try.underlying161 (by rfl) (by kernel_rfl)) rfl ?_
  exact ⟨⟨_, _, _, _, _, rfl, fun _ => ⟨_, _, rfl, sl_arr1 ((hoF _ (by omega)).trans hA5) i64_2, i64_1, i64_2⟩⟩, hwF⟩

set_option maxRecDepth 100000 in
set_option maxHeartbeats 4000000 in
theorem askedOf_15 (m : List FunD) (f : FunD) (x : InsD) (vm vf vx : Value) (w : World) (hm : VMod w vm m) (hf : VFun w vf f) (hx : VIns w vx x) (h : x.op = 15) :
    Calls Try.prog 91 #[vm, vf, vx] w (Asked m f x w) := by
  obtain ⟨Am, cm, rfl, hms⟩ := hm
  obtain ⟨Ar, cr, Ab, cb, rfl, hr, hbs, hp64, hr64⟩ := hf
  obtain ⟨A, c, rfl, hxa, ho64, hd64, hi64, hf64⟩ := hx
  obtain ⟨op, dst, args, imm, fn⟩ := x
  dsimp only at *
  subst h
  go_enter Try.func91, Try.ntmps91
  go_wp2_with fail
  obtain ⟨w4, hw4, hs4, hb4, hm4, hf4, hx4, hr4⟩ := boxes4 w (.cells #[.slice Am m.length cm] 24) (.cells #[.int .i64 f.params, .int .i64 f.result, .slice Ar f.regs.length cr, .slice Ab f.blocks.length cb] 43) (.cells #[.int .i64 15, .int .i64 dst, .slice A args.length c, .int .i64 imm, .int .i64 fn] 46) (.cells #[.int .i64 0, .slice none 0 0, .int .i64 0] 161)
  rw [← hw4]
  clear hw4
  obtain ⟨wA, hwA, hsA, hkA, hbA, hcA, -⟩ := named w4 #[.int .i64 1] 3
  have hA : wA.heap[w4.heap.size]? = some (.cells #[.int .i64 1] 3 (0, 0)) := by rw [hwA]; exact heap_alloc_new _ _
  rw [← hwA]
  clear hwA
  refine (asks_any _ _ _ _ _).mono ?_
  rintro e w5 ⟨rfl, hb5⟩
  have h45 : Below w4.heap.size w4 w5 := hbA.trans (hb5.mono (by omega))
  have hr5 := asked_end hr4 h45
  have hA5 := (hb5.block _ (block_lt hA)).trans hA
  have hs5 := hs4
  clear hs4 hA
  have hB5 : Below w.heap.size w w5 := hb4.trans (h45.mono (by omega))
  have r0 := (cell_of_heap hr5 0).trans rfl
  have r1 := (cell_of_heap hr5 1).trans rfl
  have r2 := (cell_of_heap hr5 2).trans rfl
  have f0 := not_frozen_of hr5 0
  have f1 := not_frozen_of hr5 1
  have f2 := not_frozen_of hr5 2
  go_wp2_with fail
  have hwF : Below w.heap.size w (((w5.setCell ⟨w.heap.size + 1 + 1 + 1, 0, none⟩ (.int .i64 1)).setCell ⟨w.heap.size + 1 + 1 + 1, 1, none⟩ (.slice (some ⟨w4.heap.size, 0, none⟩) 1 1)).setCell ⟨w.heap.size + 1 + 1 + 1, 2, none⟩ (.int .i64 1)) :=
    ((hB5.setCell (by show _ ≤ w.heap.size + 1 + 1 + 1; omega) _).setCell (by show _ ≤ w.heap.size + 1 + 1 + 1; omega) _).setCell (by show _ ≤ w.heap.size + 1 + 1 + 1; omega) _
  have hbkF := sets3_block hr5 (.int .i64 1) (.slice (some ⟨w4.heap.size, 0, none⟩) 1 1) (.int .i64 1)
  have hoF : ∀ k, k ≠ w.heap.size + 1 + 1 + 1 → (((w5.setCell ⟨w.heap.size + 1 + 1 + 1, 0, none⟩ (.int .i64 1)).setCell ⟨w.heap.size + 1 + 1 + 1, 1, none⟩ (.slice (some ⟨w4.heap.size, 0, none⟩) 1 1)).setCell ⟨w.heap.size + 1 + 1 + 1, 2, none⟩ (.int .i64 1)).heap[k]? = w5.heap[k]? := fun k hk => sets3_other _ hk _ _ _
  generalize (((w5.setCell ⟨w.heap.size + 1 + 1 + 1, 0, none⟩ (.int .i64 1)).setCell ⟨w.heap.size + 1 + 1 + 1, 1, none⟩ (.slice (some ⟨w4.heap.size, 0, none⟩) 1 1)).setCell ⟨w.heap.size + 1 + 1 + 1, 2, none⟩ (.int .i64 1)) = wF at *
  refine bodyPost_ret (results_cell_row_tmp rfl _ _ (w.heap.size + 1 + 1 + 1) 161 #[.int .i64 1, .slice (some ⟨w4.heap.size, 0, none⟩) 1 1, .int .i64 1] (0, 0) _ (by rfl) hbkF Try.underlying161 (by rfl) (by kernel_rfl)) rfl ?_
  exact ⟨⟨_, _, _, _, _, rfl, fun _ => ⟨_, _, rfl, sl_arr1 ((hoF _ (by omega)).trans hA5) i64_1, i64_1, i64_1⟩⟩, hwF⟩

set_option maxRecDepth 100000 in
set_option maxHeartbeats 4000000 in
theorem askedOf_16 (m : List FunD) (f : FunD) (x : InsD) (vm vf vx : Value) (w : World) (hm : VMod w vm m) (hf : VFun w vf f) (hx : VIns w vx x) (h : x.op = 16) :
    Calls Try.prog 91 #[vm, vf, vx] w (Asked m f x w) := by
  obtain ⟨Am, cm, rfl, hms⟩ := hm
  obtain ⟨Ar, cr, Ab, cb, rfl, hr, hbs, hp64, hr64⟩ := hf
  obtain ⟨A, c, rfl, hxa, ho64, hd64, hi64, hf64⟩ := hx
  obtain ⟨op, dst, args, imm, fn⟩ := x
  dsimp only at *
  subst h
  go_enter Try.func91, Try.ntmps91
  go_wp2_with fail
  obtain ⟨w4, hw4, hs4, hb4, hm4, hf4, hx4, hr4⟩ := boxes4 w (.cells #[.slice Am m.length cm] 24) (.cells #[.int .i64 f.params, .int .i64 f.result, .slice Ar f.regs.length cr, .slice Ab f.blocks.length cb] 43) (.cells #[.int .i64 16, .int .i64 dst, .slice A args.length c, .int .i64 imm, .int .i64 fn] 46) (.cells #[.int .i64 0, .slice none 0 0, .int .i64 0] 161)
  rw [← hw4]
  clear hw4
  obtain ⟨wA, hwA, hsA, hkA, hbA, hcA, -⟩ := named w4 #[.int .i64 1, .int .i64 1] 3
  have hA : wA.heap[w4.heap.size]? = some (.cells #[.int .i64 1, .int .i64 1] 3 (0, 0)) := by rw [hwA]; exact heap_alloc_new _ _
  rw [← hwA]
  clear hwA
  refine (asks_any _ _ _ _ _).mono ?_
  rintro e w5 ⟨rfl, hb5⟩
  have h45 : Below w4.heap.size w4 w5 := hbA.trans (hb5.mono (by omega))
  have hr5 := asked_end hr4 h45
  have hA5 := (hb5.block _ (block_lt hA)).trans hA
  have hs5 := hs4
  clear hs4 hA
  have hB5 : Below w.heap.size w w5 := hb4.trans (h45.mono (by omega))
  have r0 := (cell_of_heap hr5 0).trans rfl
  have r1 := (cell_of_heap hr5 1).trans rfl
  have r2 := (cell_of_heap hr5 2).trans rfl
  have f0 := not_frozen_of hr5 0
  have f1 := not_frozen_of hr5 1
  have f2 := not_frozen_of hr5 2
  go_wp2_with fail
  have hwF : Below w.heap.size w (((w5.setCell ⟨w.heap.size + 1 + 1 + 1, 0, none⟩ (.int .i64 2)).setCell ⟨w.heap.size + 1 + 1 + 1, 1, none⟩ (.slice (some ⟨w4.heap.size, 0, none⟩) 2 2)).setCell ⟨w.heap.size + 1 + 1 + 1, 2, none⟩ (.int .i64 0)) :=
    ((hB5.setCell (by show _ ≤ w.heap.size + 1 + 1 + 1; omega) _).setCell (by show _ ≤ w.heap.size + 1 + 1 + 1; omega) _).setCell (by show _ ≤ w.heap.size + 1 + 1 + 1; omega) _
  have hbkF := sets3_block hr5 (.int .i64 2) (.slice (some ⟨w4.heap.size, 0, none⟩) 2 2) (.int .i64 0)
  have hoF : ∀ k, k ≠ w.heap.size + 1 + 1 + 1 → (((w5.setCell ⟨w.heap.size + 1 + 1 + 1, 0, none⟩ (.int .i64 2)).setCell ⟨w.heap.size + 1 + 1 + 1, 1, none⟩ (.slice (some ⟨w4.heap.size, 0, none⟩) 2 2)).setCell ⟨w.heap.size + 1 + 1 + 1, 2, none⟩ (.int .i64 0)).heap[k]? = w5.heap[k]? := fun k hk => sets3_other _ hk _ _ _
  generalize (((w5.setCell ⟨w.heap.size + 1 + 1 + 1, 0, none⟩ (.int .i64 2)).setCell ⟨w.heap.size + 1 + 1 + 1, 1, none⟩ (.slice (some ⟨w4.heap.size, 0, none⟩) 2 2)).setCell ⟨w.heap.size + 1 + 1 + 1, 2, none⟩ (.int .i64 0)) = wF at *
  refine bodyPost_ret (results_cell_row_tmp rfl _ _ (w.heap.size + 1 + 1 + 1) 161 #[.int .i64 2, .slice (some ⟨w4.heap.size, 0, none⟩) 2 2, .int .i64 0] (0, 0) _ (by rfl) hbkF Try.underlying161 (by rfl) (by kernel_rfl)) rfl ?_
  exact ⟨⟨_, _, _, _, _, rfl, fun _ => ⟨_, _, rfl, sl_arr2 ((hoF _ (by omega)).trans hA5) i64_1 i64_1, i64_2, i64_0⟩⟩, hwF⟩

set_option maxRecDepth 100000 in
set_option maxHeartbeats 4000000 in
theorem askedOf_18 (m : List FunD) (f : FunD) (x : InsD) (vm vf vx : Value) (w : World) (hm : VMod w vm m) (hf : VFun w vf f) (hx : VIns w vx x) (h : x.op = 18) :
    Calls Try.prog 91 #[vm, vf, vx] w (Asked m f x w) := by
  obtain ⟨Am, cm, rfl, hms⟩ := hm
  obtain ⟨Ar, cr, Ab, cb, rfl, hr, hbs, hp64, hr64⟩ := hf
  obtain ⟨A, c, rfl, hxa, ho64, hd64, hi64, hf64⟩ := hx
  obtain ⟨op, dst, args, imm, fn⟩ := x
  dsimp only at *
  subst h
  go_enter Try.func91, Try.ntmps91
  go_wp2_with fail
  obtain ⟨w4, hw4, hs4, hb4, hm4, hf4, hx4, hr4⟩ := boxes4 w (.cells #[.slice Am m.length cm] 24) (.cells #[.int .i64 f.params, .int .i64 f.result, .slice Ar f.regs.length cr, .slice Ab f.blocks.length cb] 43) (.cells #[.int .i64 18, .int .i64 dst, .slice A args.length c, .int .i64 imm, .int .i64 fn] 46) (.cells #[.int .i64 0, .slice none 0 0, .int .i64 0] 161)
  rw [← hw4]
  clear hw4
  obtain ⟨wA, hwA, hsA, hkA, hbA, hcA, -⟩ := named w4 #[.int .i64 1] 3
  have hA : wA.heap[w4.heap.size]? = some (.cells #[.int .i64 1] 3 (0, 0)) := by rw [hwA]; exact heap_alloc_new _ _
  rw [← hwA]
  clear hwA
  refine (asks_any _ _ _ _ _).mono ?_
  rintro e w5 ⟨rfl, hb5⟩
  have h45 : Below w4.heap.size w4 w5 := hbA.trans (hb5.mono (by omega))
  have hr5 := asked_end hr4 h45
  have hA5 := (hb5.block _ (block_lt hA)).trans hA
  have hs5 := hs4
  clear hs4 hA
  have hB5 : Below w.heap.size w w5 := hb4.trans (h45.mono (by omega))
  have r0 := (cell_of_heap hr5 0).trans rfl
  have r1 := (cell_of_heap hr5 1).trans rfl
  have r2 := (cell_of_heap hr5 2).trans rfl
  have f0 := not_frozen_of hr5 0
  have f1 := not_frozen_of hr5 1
  have f2 := not_frozen_of hr5 2
  go_wp2_with fail
  have hwF : Below w.heap.size w (((w5.setCell ⟨w.heap.size + 1 + 1 + 1, 0, none⟩ (.int .i64 1)).setCell ⟨w.heap.size + 1 + 1 + 1, 1, none⟩ (.slice (some ⟨w4.heap.size, 0, none⟩) 1 1)).setCell ⟨w.heap.size + 1 + 1 + 1, 2, none⟩ (.int .i64 0)) :=
    ((hB5.setCell (by show _ ≤ w.heap.size + 1 + 1 + 1; omega) _).setCell (by show _ ≤ w.heap.size + 1 + 1 + 1; omega) _).setCell (by show _ ≤ w.heap.size + 1 + 1 + 1; omega) _
  have hbkF := sets3_block hr5 (.int .i64 1) (.slice (some ⟨w4.heap.size, 0, none⟩) 1 1) (.int .i64 0)
  have hoF : ∀ k, k ≠ w.heap.size + 1 + 1 + 1 → (((w5.setCell ⟨w.heap.size + 1 + 1 + 1, 0, none⟩ (.int .i64 1)).setCell ⟨w.heap.size + 1 + 1 + 1, 1, none⟩ (.slice (some ⟨w4.heap.size, 0, none⟩) 1 1)).setCell ⟨w.heap.size + 1 + 1 + 1, 2, none⟩ (.int .i64 0)).heap[k]? = w5.heap[k]? := fun k hk => sets3_other _ hk _ _ _
  generalize (((w5.setCell ⟨w.heap.size + 1 + 1 + 1, 0, none⟩ (.int .i64 1)).setCell ⟨w.heap.size + 1 + 1 + 1, 1, none⟩ (.slice (some ⟨w4.heap.size, 0, none⟩) 1 1)).setCell ⟨w.heap.size + 1 + 1 + 1, 2, none⟩ (.int .i64 0)) = wF at *
  refine bodyPost_ret (results_cell_row_tmp rfl _ _ (w.heap.size + 1 + 1 + 1) 161 #[.int .i64 1, .slice (some ⟨w4.heap.size, 0, none⟩) 1 1, .int .i64 0] (0, 0) _ (by rfl) hbkF Try.underlying161 (by rfl) (by kernel_rfl)) rfl ?_
  exact ⟨⟨_, _, _, _, _, rfl, fun _ => ⟨_, _, rfl, sl_arr1 ((hoF _ (by omega)).trans hA5) i64_1, i64_1, i64_0⟩⟩, hwF⟩

set_option maxRecDepth 100000 in
set_option maxHeartbeats 4000000 in
theorem askedOf_1 (m : List FunD) (f : FunD) (x : InsD) (vm vf vx : Value) (w : World) (hm : VMod w vm m) (hf : VFun w vf f) (hx : VIns w vx x) (h : x.op = 1) :
    Calls Try.prog 91 #[vm, vf, vx] w (Asked m f x w) := by
  have hf0 := hf
  have hx0 := hx
  obtain ⟨Am, cm, rfl, hms⟩ := hm
  obtain ⟨Ar, cr, Ab, cb, rfl, hr, hbs, hp64, hr64⟩ := hf
  obtain ⟨A, c, rfl, hxa, ho64, hd64, hi64, hf64⟩ := hx
  obtain ⟨op, dst, args, imm, fn⟩ := x
  dsimp only at *
  subst h
  go_enter Try.func91, Try.ntmps91
  go_wp2_with fail
  obtain ⟨w4, hw4, hs4, hb4, hm4, hf4, hx4, hr4⟩ := boxes4 w (.cells #[.slice Am m.length cm] 24) (.cells #[.int .i64 f.params, .int .i64 f.result, .slice Ar f.regs.length cr, .slice Ab f.blocks.length cb] 43) (.cells #[.int .i64 1, .int .i64 dst, .slice A args.length c, .int .i64 imm, .int .i64 fn] 46) (.cells #[.int .i64 0, .slice none 0 0, .int .i64 0] 161)
  rw [← hw4]
  clear hw4
  have a2 := (cell_of_heap hx4 2).trans rfl
  refine (constType_any f ⟨1, dst, args, imm, fn⟩ _ _ _ (VFun.keep (kept_of_below hb4) hf0) (VIns.keep (kept_of_below hb4) hx0)).mono ?_
  rintro e w1 ⟨rfl, hb1⟩
  have HT : Hid (askD m f ⟨1, dst, args, imm, fn⟩ = constT f ⟨1, dst, args, imm, fn⟩) := Lib.hid rfl
  have hT64 : I64 (constT f ⟨1, dst, args, imm, fn⟩) := by unfold constT; split <;> (unfold I64; omega)
  generalize constT f ⟨1, dst, args, imm, fn⟩ = t at *
  have h41 : Below w4.heap.size w4 w1 := hb1
  go_wp2_with fail
  refine (asks_any _ _ _ _ _).mono ?_
  rintro e w5 ⟨rfl, hb5⟩
  have h45 : Below w4.heap.size w4 w5 := h41.trans (hb5.mono h41.size)
  have hr5 := asked_end hr4 h45
  have hsz := hb4.size
  clear hs4
  have hB5 : Below w.heap.size w w5 := hb4.trans (h45.mono (by omega))
  have r0 := (cell_of_heap hr5 0).trans rfl
  have r1 := (cell_of_heap hr5 1).trans rfl
  have r2 := (cell_of_heap hr5 2).trans rfl
  have f0 := not_frozen_of hr5 0
  have f1 := not_frozen_of hr5 1
  have f2 := not_frozen_of hr5 2
  go_wp2_with fail
  have hwF : Below w.heap.size w (((w5.setCell ⟨w.heap.size + 1 + 1 + 1, 0, none⟩ (.int .i64 0)).setCell ⟨w.heap.size + 1 + 1 + 1, 1, none⟩ (.slice none 0 0)).setCell ⟨w.heap.size + 1 + 1 + 1, 2, none⟩ (.int .i64 t)) :=
    ((hB5.setCell (by show _ ≤ w.heap.size + 1 + 1 + 1; omega) _).setCell (by show _ ≤ w.heap.size + 1 + 1 + 1; omega) _).setCell (by show _ ≤ w.heap.size + 1 + 1 + 1; omega) _
  have hbkF := sets3_block hr5 (.int .i64 0) (.slice none 0 0) (.int .i64 t)
  have hoF : ∀ k, k ≠ w.heap.size + 1 + 1 + 1 → (((w5.setCell ⟨w.heap.size + 1 + 1 + 1, 0, none⟩ (.int .i64 0)).setCell ⟨w.heap.size + 1 + 1 + 1, 1, none⟩ (.slice none 0 0)).setCell ⟨w.heap.size + 1 + 1 + 1, 2, none⟩ (.int .i64 t)).heap[k]? = w5.heap[k]? := fun k hk => sets3_other _ hk _ _ _
  generalize (((w5.setCell ⟨w.heap.size + 1 + 1 + 1, 0, none⟩ (.int .i64 0)).setCell ⟨w.heap.size + 1 + 1 + 1, 1, none⟩ (.slice none 0 0)).setCell ⟨w.heap.size + 1 + 1 + 1, 2, none⟩ (.int .i64 t)) = wF at *
  refine bodyPost_ret (results_cell_row_tmp rfl _ _ (w.heap.size + 1 + 1 + 1) 161 #[.int .i64 0, .slice none 0 0, .int .i64 t] (0, 0) _ (by rfl) hbkF Try.underlying161 (by rfl) (by kernel_rfl)) rfl ?_
  exact ⟨⟨_, _, _, _, _, rfl, fun _ => ⟨none, 0, by rw [HT.out]; rfl, SL.none', i64_0, by rw [HT.out]; exact hT64⟩⟩, hwF⟩

theorem copyT_64 {f : FunD} {x : InsD} (hr : ∀ t ∈ f.regs, I64 t) : I64 (copyT f x) := by
  unfold copyT
  split
  · exact i64_1
  · split
    · rename_i a l _ h
      have h := of_decide_eq_true h
      obtain ⟨k, rfl⟩ := Int.eq_ofNat_of_zero_le h.1
      have hk : k < f.regs.length := by omega
      rw [reg_of rfl (List.getElem?_eq_getElem hk)]
      exact hr _ (List.getElem_mem hk)
    · exact i64_1
theorem SL.i64 {w : World} {A : Option Addr} {c : Nat} {l : List Int} (h : SL w 1 RInt A c l) : ∀ t ∈ l, I64 t := fun t ht => by
  obtain ⟨k, hk, rfl⟩ := List.getElem_of_mem ht
  obtain ⟨b, o, x, _, hx, _, h64⟩ := h.int hk
  have := hx.out
  rw [List.getElem?_eq_getElem hk] at this
  rw [Option.some.inj this]; exact h64

set_option maxRecDepth 100000 in
set_option maxHeartbeats 4000000 in
theorem askedOf_2 (m : List FunD) (f : FunD) (x : InsD) (vm vf vx : Value) (w : World) (hm : VMod w vm m) (hf : VFun w vf f) (hx : VIns w vx x) (h : x.op = 2) :
    Calls Try.prog 91 #[vm, vf, vx] w (Asked m f x w) := by
  have hf0 := hf
  have hx0 := hx
  obtain ⟨Am, cm, rfl, hms⟩ := hm
  obtain ⟨Ar, cr, Ab, cb, rfl, hr, hbs, hp64, hr64⟩ := hf
  obtain ⟨A, c, rfl, hxa, ho64, hd64, hi64, hf64⟩ := hx
  obtain ⟨op, dst, args, imm, fn⟩ := x
  dsimp only at *
  subst h
  go_enter Try.func91, Try.ntmps91
  go_wp2_with fail
  obtain ⟨w4, hw4, hs4, hb4, hm4, hf4, hx4, hr4⟩ := boxes4 w (.cells #[.slice Am m.length cm] 24) (.cells #[.int .i64 f.params, .int .i64 f.result, .slice Ar f.regs.length cr, .slice Ab f.blocks.length cb] 43) (.cells #[.int .i64 2, .int .i64 dst, .slice A args.length c, .int .i64 imm, .int .i64 fn] 46) (.cells #[.int .i64 0, .slice none 0 0, .int .i64 0] 161)
  rw [← hw4]
  clear hw4
  have a2 := (cell_of_heap hx4 2).trans rfl
  refine (copyType_any f ⟨2, dst, args, imm, fn⟩ _ _ _ (VFun.keep (kept_of_below hb4) hf0) (VIns.keep (kept_of_below hb4) hx0)).mono ?_
  rintro e w1 ⟨rfl, hb1⟩
  have HT : Hid (askD m f ⟨2, dst, args, imm, fn⟩ = copyT f ⟨2, dst, args, imm, fn⟩) := Lib.hid rfl
  have HU : Hid (askT m f ⟨2, dst, args, imm, fn⟩ = [copyT f ⟨2, dst, args, imm, fn⟩]) := Lib.hid rfl
  have hT64 : I64 (copyT f ⟨2, dst, args, imm, fn⟩) := copyT_64 hr.i64
  generalize copyT f ⟨2, dst, args, imm, fn⟩ = t at *
  have h41 : Below w4.heap.size w4 w1 := hb1
  go_wp2_with fail
  obtain ⟨wA, hwA, hsA, hkA, hbA, hcA, -⟩ := named w1 #[.int .i64 t] 3
  have hA : wA.heap[w1.heap.size]? = some (.cells #[.int .i64 t] 3 (0, 0)) := by rw [hwA]; exact heap_alloc_new _ _
  rw [← hwA]
  clear hwA
  refine (asks_any _ _ _ _ _).mono ?_
  rintro e w5 ⟨rfl, hb5⟩
  have h1s := h41.size
  have h45 : Below w4.heap.size w4 w5 := (h41.trans (hbA.mono h1s)).trans (hb5.mono (by omega))
  have hr5 := asked_end hr4 h45
  have hA5 := (hb5.block _ (block_lt hA)).trans hA
  have hne : w.heap.size + 1 + 1 + 1 < w1.heap.size := by omega
  clear hs4 hA hsA h1s
  have h44 := hb4.size
  have hB5 : Below w.heap.size w w5 := hb4.trans (h45.mono h44)
  have r0 := (cell_of_heap hr5 0).trans rfl
  have r1 := (cell_of_heap hr5 1).trans rfl
  have r2 := (cell_of_heap hr5 2).trans rfl
  have f0 := not_frozen_of hr5 0
  have f1 := not_frozen_of hr5 1
  have f2 := not_frozen_of hr5 2
  go_wp2_with fail
  have hwF : Below w.heap.size w (((w5.setCell ⟨w.heap.size + 1 + 1 + 1, 0, none⟩ (.int .i64 1)).setCell ⟨w.heap.size + 1 + 1 + 1, 1, none⟩ (.slice (some ⟨w1.heap.size, 0, none⟩) 1 1)).setCell ⟨w.heap.size + 1 + 1 + 1, 2, none⟩ (.int .i64 t)) :=
    ((hB5.setCell (by show _ ≤ w.heap.size + 1 + 1 + 1; omega) _).setCell (by show _ ≤ w.heap.size + 1 + 1 + 1; omega) _).setCell (by show _ ≤ w.heap.size + 1 + 1 + 1; omega) _
  have hbkF := sets3_block hr5 (.int .i64 1) (.slice (some ⟨w1.heap.size, 0, none⟩) 1 1) (.int .i64 t)
  have hoF : ∀ k, k ≠ w.heap.size + 1 + 1 + 1 → (((w5.setCell ⟨w.heap.size + 1 + 1 + 1, 0, none⟩ (.int .i64 1)).setCell ⟨w.heap.size + 1 + 1 + 1, 1, none⟩ (.slice (some ⟨w1.heap.size, 0, none⟩) 1 1)).setCell ⟨w.heap.size + 1 + 1 + 1, 2, none⟩ (.int .i64 t)).heap[k]? = w5.heap[k]? := fun k hk => sets3_other _ hk _ _ _
  generalize (((w5.setCell ⟨w.heap.size + 1 + 1 + 1, 0, none⟩ (.int .i64 1)).setCell ⟨w.heap.size + 1 + 1 + 1, 1, none⟩ (.slice (some ⟨w1.heap.size, 0, none⟩) 1 1)).setCell ⟨w.heap.size + 1 + 1 + 1, 2, none⟩ (.int .i64 t)) = wF at *
  refine bodyPost_ret (results_cell_row_tmp rfl _ _ (w.heap.size + 1 + 1 + 1) 161 #[.int .i64 1, .slice (some ⟨w1.heap.size, 0, none⟩) 1 1, .int .i64 t] (0, 0) _ (by rfl) hbkF Try.underlying161 (by rfl) (by kernel_rfl)) rfl ?_
  exact ⟨⟨_, _, _, _, _, rfl, fun _ => ⟨_, 1, by rw [HT.out, HU.out]; rfl, by rw [HU.out]; exact sl_arr1 ((hoF _ (by omega)).trans hA5) hT64, i64_1, by rw [HT.out]; exact hT64⟩⟩, hwF⟩

set_option maxRecDepth 100000 in
set_option maxHeartbeats 4000000 in
theorem askedOf_3 (m : List FunD) (f : FunD) (x : InsD) (vm vf vx : Value) (w : World) (hm : VMod w vm m) (hf : VFun w vf f) (hx : VIns w vx x) (h : x.op = 3 ∨ x.op = 4 ∨ x.op = 5 ∨ x.op = 6 ∨ x.op = 7 ∨ x.op = 8 ∨ x.op = 9 ∨ x.op = 10 ∨ x.op = 11) :
    Calls Try.prog 91 #[vm, vf, vx] w (Asked m f x w) := by
  obtain ⟨Am, cm, rfl, hms⟩ := hm
  obtain ⟨Ar, cr, Ab, cb, rfl, hr, hbs, hp64, hr64⟩ := hf
  obtain ⟨A, c, rfl, hxa, ho64, hd64, hi64, hf64⟩ := hx
  obtain ⟨op, dst, args, imm, fn⟩ := x
  dsimp only at *
  have HE : Hid (askE m ⟨op, dst, args, imm, fn⟩ = 0) := Lib.hid (by unfold askE; dsimp only; rw [if_neg (by omega), if_pos (by omega)])
  have HN : Hid (askN m ⟨op, dst, args, imm, fn⟩ = 2) := Lib.hid (by unfold askN; dsimp only; rw [if_neg (by omega), if_neg (by omega), if_neg (by omega)])
  have HT : Hid (askT m f ⟨op, dst, args, imm, fn⟩ = [1, 1]) := Lib.hid (by unfold askT; dsimp only; rw [if_neg (by omega), if_neg (by omega), if_neg (by omega), if_neg (by omega), if_neg (by omega)])
  have HD : Hid (askD m f ⟨op, dst, args, imm, fn⟩ = 1) := Lib.hid (by unfold askD; dsimp only; rw [if_neg (by omega), if_neg (by omega), if_neg (by omega), if_neg (by omega), if_neg (by omega)])
  have HY : Hid (arity op = 2) := Lib.hid (by unfold arity; rw [if_neg (by omega), if_pos (by omega)])
  have HK : Hid (known op = true) := Lib.hid (decide_eq_true (by omega))
  have c1 : (op == 1) = false := by simp; omega
  have c2 : (op == 2) = false := by simp; omega
  have c12 : (op == 12) = false := by simp; omega
  have c13 : (op == 13) = false := by simp; omega
  have c14 : (op == 14) = false := by simp; omega
  have c15 : (op == 15) = false := by simp; omega
  have c16 : (op == 16) = false := by simp; omega
  have c17 : (op == 17) = false := by simp; omega
  have c18 : (op == 18) = false := by simp; omega
  clear h
  go_enter Try.func91, Try.ntmps91
  go_wp2_with fail
  obtain ⟨w4, hw4, hs4, hb4, hm4, hf4, hx4, hr4⟩ := boxes4 w (.cells #[.slice Am m.length cm] 24) (.cells #[.int .i64 f.params, .int .i64 f.result, .slice Ar f.regs.length cr, .slice Ab f.blocks.length cb] 43) (.cells #[.int .i64 op, .int .i64 dst, .slice A args.length c, .int .i64 imm, .int .i64 fn] 46) (.cells #[.int .i64 0, .slice none 0 0, .int .i64 0] 161)
  rw [← hw4]
  clear hw4
  refine (args_any _ _).mono ?_
  rintro e w' ⟨rfl, rfl⟩
  rw [HY.out, HK.out]
  go_wp2_with fail
  refine (mkInts_any 2 (by omega) w4).mono ?_
  rintro e w1 ⟨⟨c1, rfl, hrow⟩, hb1⟩
  have hrowl := hrow.1
  go_wp2_with fail
  refine (asks_any _ _ _ _ _).mono ?_
  rintro e w5 ⟨rfl, hb5⟩
  have h1s := hb1.size
  have h45 : Below w4.heap.size w4 w5 := hb1.trans (hb5.mono h1s)
  have hr5 := asked_end hr4 h45
  have hlt : w4.heap.size < w1.heap.size := by
    obtain ⟨b', o', e', hx⟩ := hrow.2.2 (by simp)
    obtain ⟨rfl, rfl, -⟩ := Addr.mk.inj (Option.some.inj e')
    exact block_lt_of_cell (hx 0 1 rfl).1
  have hA5 := hrow.block (hb5.block _ hlt)
  have hne : w.heap.size + 1 + 1 + 1 < w4.heap.size := by omega
  clear hs4 h1s hlt hrow
  have h44 := hb4.size
  have hB5 : Below w.heap.size w w5 := hb4.trans (h45.mono h44)
  have r0 := (cell_of_heap hr5 0).trans rfl
  have r1 := (cell_of_heap hr5 1).trans rfl
  have r2 := (cell_of_heap hr5 2).trans rfl
  have f0 := not_frozen_of hr5 0
  have f1 := not_frozen_of hr5 1
  have f2 := not_frozen_of hr5 2
  go_wp2_with fail
  have hwF : Below w.heap.size w (((w5.setCell ⟨w.heap.size + 1 + 1 + 1, 0, none⟩ (.int .i64 2)).setCell ⟨w.heap.size + 1 + 1 + 1, 1, none⟩ (.slice (some ⟨w4.heap.size, 0, none⟩) 2 c1)).setCell ⟨w.heap.size + 1 + 1 + 1, 2, none⟩ (.int .i64 1)) :=
    ((hB5.setCell (by show _ ≤ w.heap.size + 1 + 1 + 1; omega) _).setCell (by show _ ≤ w.heap.size + 1 + 1 + 1; omega) _).setCell (by show _ ≤ w.heap.size + 1 + 1 + 1; omega) _
  have hbkF := sets3_block hr5 (.int .i64 2) (.slice (some ⟨w4.heap.size, 0, none⟩) 2 c1) (.int .i64 1)
  have hoF : ∀ k, k ≠ w.heap.size + 1 + 1 + 1 → (((w5.setCell ⟨w.heap.size + 1 + 1 + 1, 0, none⟩ (.int .i64 2)).setCell ⟨w.heap.size + 1 + 1 + 1, 1, none⟩ (.slice (some ⟨w4.heap.size, 0, none⟩) 2 c1)).setCell ⟨w.heap.size + 1 + 1 + 1, 2, none⟩ (.int .i64 1)).heap[k]? = w5.heap[k]? := fun k hk => sets3_other _ hk _ _ _
  generalize (((w5.setCell ⟨w.heap.size + 1 + 1 + 1, 0, none⟩ (.int .i64 2)).setCell ⟨w.heap.size + 1 + 1 + 1, 1, none⟩ (.slice (some ⟨w4.heap.size, 0, none⟩) 2 c1)).setCell ⟨w.heap.size + 1 + 1 + 1, 2, none⟩ (.int .i64 1)) = wF at *
  refine bodyPost_ret (results_cell_row_tmp rfl _ _ (w.heap.size + 1 + 1 + 1) 161 #[.int .i64 2, .slice (some ⟨w4.heap.size, 0, none⟩) 2 c1, .int .i64 1] (0, 0) _ (by rfl) hbkF Try.underlying161 (by rfl) (by kernel_rfl)) rfl ?_
  exact ⟨⟨_, _, _, _, _, by rw [HE.out]; rfl, fun _ => ⟨_, c1, by rw [HN.out, HT.out, HD.out]; rfl, by rw [HT.out]; exact hA5.block (hoF _ (by omega)), by rw [HN.out]; exact i64_2, by rw [HD.out]; exact i64_1⟩⟩, hwF⟩

set_option maxRecDepth 100000 in
set_option maxHeartbeats 4000000 in
theorem askedOf_no (m : List FunD) (f : FunD) (x : InsD) (vm vf vx : Value) (w : World) (hm : VMod w vm m) (hf : VFun w vf f) (hx : VIns w vx x) (h : x.op < 1 ∨ 18 < x.op) :
    Calls Try.prog 91 #[vm, vf, vx] w (Asked m f x w) := by
  obtain ⟨Am, cm, rfl, hms⟩ := hm
  obtain ⟨Ar, cr, Ab, cb, rfl, hr, hbs, hp64, hr64⟩ := hf
  obtain ⟨A, c, rfl, hxa, ho64, hd64, hi64, hf64⟩ := hx
  obtain ⟨op, dst, args, imm, fn⟩ := x
  dsimp only at *
  have HE : Hid (askE m ⟨op, dst, args, imm, fn⟩ = 6) := Lib.hid (by unfold askE; dsimp only; rw [if_neg (by omega), if_neg (by omega)])
  have HY : Hid (arity op = 0) := Lib.hid (by unfold arity; rw [if_neg (by omega), if_neg (by omega)])
  have HK : Hid (known op = false) := Lib.hid (decide_eq_false (by omega))
  have c1 : (op == 1) = false := by simp; omega
  have c2 : (op == 2) = false := by simp; omega
  have c12 : (op == 12) = false := by simp; omega
  have c13 : (op == 13) = false := by simp; omega
  have c14 : (op == 14) = false := by simp; omega
  have c15 : (op == 15) = false := by simp; omega
  have c16 : (op == 16) = false := by simp; omega
  have c17 : (op == 17) = false := by simp; omega
  have c18 : (op == 18) = false := by simp; omega
  clear h
  go_enter Try.func91, Try.ntmps91
  go_wp2_with fail
  obtain ⟨w4, hw4, hs4, hb4, hm4, hf4, hx4, hr4⟩ := boxes4 w (.cells #[.slice Am m.length cm] 24) (.cells #[.int .i64 f.params, .int .i64 f.result, .slice Ar f.regs.length cr, .slice Ab f.blocks.length cb] 43) (.cells #[.int .i64 op, .int .i64 dst, .slice A args.length c, .int .i64 imm, .int .i64 fn] 46) (.cells #[.int .i64 0, .slice none 0 0, .int .i64 0] 161)
  rw [← hw4]
  clear hw4
  refine (args_any _ _).mono ?_
  rintro e w' ⟨rfl, rfl⟩
  rw [HY.out, HK.out]
  have hs5 := hb4.size
  have h45 : Below w4.heap.size w4 w4 := Below.refl _ _
  have hr5 := hr4
  clear hs4
  obtain ⟨w5, rfl⟩ : ∃ w5, w5 = w4 := ⟨_, rfl⟩
  have hB5 : Below w.heap.size w w5 := hb4
  have r0 := (cell_of_heap hr5 0).trans rfl
  have r1 := (cell_of_heap hr5 1).trans rfl
  have r2 := (cell_of_heap hr5 2).trans rfl
  have f0 := not_frozen_of hr5 0
  have f1 := not_frozen_of hr5 1
  have f2 := not_frozen_of hr5 2
  go_wp2_with fail
  have hwF : Below w.heap.size w (((w5.setCell ⟨w.heap.size + 1 + 1 + 1, 0, none⟩ (.int .i64 0)).setCell ⟨w.heap.size + 1 + 1 + 1, 1, none⟩ (.slice none 0 0)).setCell ⟨w.heap.size + 1 + 1 + 1, 2, none⟩ (.int .i64 0)) :=
    ((hB5.setCell (by show _ ≤ w.heap.size + 1 + 1 + 1; omega) _).setCell (by show _ ≤ w.heap.size + 1 + 1 + 1; omega) _).setCell (by show _ ≤ w.heap.size + 1 + 1 + 1; omega) _
  have hbkF := sets3_block hr5 (.int .i64 0) (.slice none 0 0) (.int .i64 0)
  have hoF : ∀ k, k ≠ w.heap.size + 1 + 1 + 1 → (((w5.setCell ⟨w.heap.size + 1 + 1 + 1, 0, none⟩ (.int .i64 0)).setCell ⟨w.heap.size + 1 + 1 + 1, 1, none⟩ (.slice none 0 0)).setCell ⟨w.heap.size + 1 + 1 + 1, 2, none⟩ (.int .i64 0)).heap[k]? = w5.heap[k]? := fun k hk => sets3_other _ hk _ _ _
  generalize (((w5.setCell ⟨w.heap.size + 1 + 1 + 1, 0, none⟩ (.int .i64 0)).setCell ⟨w.heap.size + 1 + 1 + 1, 1, none⟩ (.slice none 0 0)).setCell ⟨w.heap.size + 1 + 1 + 1, 2, none⟩ (.int .i64 0)) = wF at *
  refine bodyPost_ret (results_cell_row_tmp rfl _ _ (w.heap.size + 1 + 1 + 1) 161 #[.int .i64 0, .slice none 0 0, .int .i64 0] (0, 0) _ (by rfl) hbkF Try.underlying161 (by rfl) (by kernel_rfl)) rfl ?_
  exact ⟨⟨_, _, _, _, _, by rw [HE.out]; rfl, fun h => by rw [HE.out] at h; cases h⟩, hwF⟩

theorem funAt_of {m : List FunD} {k : Nat} {g : FunD} (h : m[k]? = some g) : funAt m k = g := by
  unfold funAt; rw [Int.toNat_natCast, List.getD_eq_getElem?_getD, h]; rfl

set_option maxRecDepth 100000 in
set_option maxHeartbeats 4000000 in
theorem askedOf_17 (m : List FunD) (f : FunD) (x : InsD) (vm vf vx : Value) (w : World) (hm : VMod w vm m) (hf : VFun w vf f) (hx : VIns w vx x) (h : x.op = 17) :
    Calls Try.prog 91 #[vm, vf, vx] w (Asked m f x w) := by
  have hm0 := hm
  obtain ⟨Am, cm, rfl, hms⟩ := hm
  obtain ⟨Ar, cr, Ab, cb, rfl, hr, hbs, hp64, hr64⟩ := hf
  obtain ⟨A, c, rfl, hxa, ho64, hd64, hi64, hf64⟩ := hx
  obtain ⟨op, dst, args, imm, fn⟩ := x
  dsimp only at *
  subst h
  go_enter Try.func91, Try.ntmps91
  go_wp2_with fail
  obtain ⟨w4, hw4, hs4, hb4, hm4, hf4, hx4, hr4⟩ := boxes4 w (.cells #[.slice Am m.length cm] 24) (.cells #[.int .i64 f.params, .int .i64 f.result, .slice Ar f.regs.length cr, .slice Ab f.blocks.length cb] 43) (.cells #[.int .i64 17, .int .i64 dst, .slice A args.length c, .int .i64 imm, .int .i64 fn] 46) (.cells #[.int .i64 0, .slice none 0 0, .int .i64 0] 161)
  rw [← hw4]
  clear hw4
  have a2 := (cell_of_heap hx4 4).trans rfl
  cases hat : isAtB fn m.length
  · have HE : Hid (askE m ⟨17, dst, args, imm, fn⟩ = 4) := Lib.hid (by unfold askE; dsimp only; rw [if_pos rfl, hat]; rfl)
    refine (askedOfCall_none m _ fn _ (VMod.keep (kept_of_below hb4) hm0) hf64 hat).mono ?_
    rintro e w5 ⟨rfl, hb5⟩
    have h45 := hb5
    have hr5 := asked_end hr4 h45
    have h44 := hb4.size
    clear hs4 hat
    have hB5 : Below w.heap.size w w5 := hb4.trans (h45.mono h44)
    have r0 := (cell_of_heap hr5 0).trans rfl
    have r1 := (cell_of_heap hr5 1).trans rfl
    have r2 := (cell_of_heap hr5 2).trans rfl
    have f0 := not_frozen_of hr5 0
    have f1 := not_frozen_of hr5 1
    have f2 := not_frozen_of hr5 2
    go_wp2_with fail
    have hwF : Below w.heap.size w (((w5.setCell ⟨w.heap.size + 1 + 1 + 1, 0, none⟩ (.int .i64 0)).setCell ⟨w.heap.size + 1 + 1 + 1, 1, none⟩ (.slice none 0 0)).setCell ⟨w.heap.size + 1 + 1 + 1, 2, none⟩ (.int .i64 0)) :=
      ((hB5.setCell (by show _ ≤ w.heap.size + 1 + 1 + 1; omega) _).setCell (by show _ ≤ w.heap.size + 1 + 1 + 1; omega) _).setCell (by show _ ≤ w.heap.size + 1 + 1 + 1; omega) _
    have hbkF := sets3_block hr5 (.int .i64 0) (.slice none 0 0) (.int .i64 0)
    have hoF : ∀ k, k ≠ w.heap.size + 1 + 1 + 1 → (((w5.setCell ⟨w.heap.size + 1 + 1 + 1, 0, none⟩ (.int .i64 0)).setCell ⟨w.heap.size + 1 + 1 + 1, 1, none⟩ (.slice none 0 0)).setCell ⟨w.heap.size + 1 + 1 + 1, 2, none⟩ (.int .i64 0)).heap[k]? = w5.heap[k]? := fun k hk => sets3_other _ hk _ _ _
    generalize (((w5.setCell ⟨w.heap.size + 1 + 1 + 1, 0, none⟩ (.int .i64 0)).setCell ⟨w.heap.size + 1 + 1 + 1, 1, none⟩ (.slice none 0 0)).setCell ⟨w.heap.size + 1 + 1 + 1, 2, none⟩ (.int .i64 0)) = wF at *
    refine bodyPost_ret (results_cell_row_tmp rfl _ _ (w.heap.size + 1 + 1 + 1) 161 #[.int .i64 0, .slice none 0 0, .int .i64 0] (0, 0) _ (by rfl) hbkF Try.underlying161 (by rfl) (by kernel_rfl)) rfl ?_
    exact ⟨⟨_, _, _, _, _, by rw [HE.out]; rfl, fun h => by rw [HE.out] at h; cases h⟩, hwF⟩
  · have hat' : 0 ≤ fn ∧ fn < m.length := of_decide_eq_true hat
    obtain ⟨k, rfl⟩ := Int.eq_ofNat_of_zero_le hat'.1
    have hk : k < m.length := by omega
    have HE : Hid (askE m ⟨17, dst, args, imm, k⟩ = 0) := Lib.hid (by unfold askE; dsimp only; rw [if_pos rfl, hat]; rfl)
    have HG : Hid (funAt m k = m[k]) := Lib.hid (funAt_of (List.getElem?_eq_getElem hk))
    have hN : askN m ⟨17, dst, args, imm, k⟩ = m[k].params := by rw [← HG.out]; rfl
    have hT : askT m f ⟨17, dst, args, imm, k⟩ = m[k].regs.take (typedN m[k]) := by rw [← HG.out]; rfl
    have hD : askD m f ⟨17, dst, args, imm, k⟩ = m[k].result := by rw [← HG.out]; rfl
    refine (askedOfCall_some m _ k _ w w4 hm0 (kept_of_below hb4) (List.getElem?_eq_getElem hk)).mono ?_
    rintro e w5 ⟨⟨v, rfl, A5, c5, rfl, hsl, hN64, hD64⟩, hb5⟩
    rw [← hT] at hsl
    rw [← hN] at hN64
    rw [← hD] at hD64
    rw [← hN, ← hT, ← hD]
    clear hN hT hD
    obtain ⟨nn, hnn⟩ : ∃ nn, askN m ⟨17, dst, args, imm, k⟩ = nn := ⟨_, rfl⟩
    obtain ⟨tt, htt⟩ : ∃ tt, askT m f ⟨17, dst, args, imm, k⟩ = tt := ⟨_, rfl⟩
    obtain ⟨dd, hdd⟩ : ∃ dd, askD m f ⟨17, dst, args, imm, k⟩ = dd := ⟨_, rfl⟩
    rw [hnn] at hN64 ⊢
    rw [htt] at hsl ⊢
    rw [hdd] at hD64 ⊢
    have HN := Lib.hid hnn
    have HT := Lib.hid htt
    have HD := Lib.hid hdd
    clear hnn htt hdd
    have h45 := hb5
    have hr5 := asked_end hr4 h45
    have h44 := hb4.size
    clear hs4 hat
    have hB5 : Below w.heap.size w w5 := hb4.trans (h45.mono h44)
    have r0 := (cell_of_heap hr5 0).trans rfl
    have r1 := (cell_of_heap hr5 1).trans rfl
    have r2 := (cell_of_heap hr5 2).trans rfl
    have f0 := not_frozen_of hr5 0
    have f1 := not_frozen_of hr5 1
    have f2 := not_frozen_of hr5 2
    go_wp2_with fail
    have hwF : Below w.heap.size w (((w5.setCell ⟨w.heap.size + 1 + 1 + 1, 0, none⟩ (.int .i64 nn)).setCell ⟨w.heap.size + 1 + 1 + 1, 1, none⟩ (.slice A5 tt.length c5)).setCell ⟨w.heap.size + 1 + 1 + 1, 2, none⟩ (.int .i64 dd)) :=
      ((hB5.setCell (by show _ ≤ w.heap.size + 1 + 1 + 1; omega) _).setCell (by show _ ≤ w.heap.size + 1 + 1 + 1; omega) _).setCell (by show _ ≤ w.heap.size + 1 + 1 + 1; omega) _
    have hbkF := sets3_block hr5 (.int .i64 nn) (.slice A5 tt.length c5) (.int .i64 dd)
    have hoF : ∀ k, k ≠ w.heap.size + 1 + 1 + 1 → (((w5.setCell ⟨w.heap.size + 1 + 1 + 1, 0, none⟩ (.int .i64 nn)).setCell ⟨w.heap.size + 1 + 1 + 1, 1, none⟩ (.slice A5 tt.length c5)).setCell ⟨w.heap.size + 1 + 1 + 1, 2, none⟩ (.int .i64 dd)).heap[k]? = w5.heap[k]? := fun k hk => sets3_other _ hk _ _ _
    generalize (((w5.setCell ⟨w.heap.size + 1 + 1 + 1, 0, none⟩ (.int .i64 nn)).setCell ⟨w.heap.size + 1 + 1 + 1, 1, none⟩ (.slice A5 tt.length c5)).setCell ⟨w.heap.size + 1 + 1 + 1, 2, none⟩ (.int .i64 dd)) = wF at *
    refine bodyPost_ret (results_cell_row_tmp rfl _ _ (w.heap.size + 1 + 1 + 1) 161 #[.int .i64 nn, .slice A5 tt.length c5, .int .i64 dd] (0, 0) _ (by rfl) hbkF Try.underlying161 (by rfl) (by kernel_rfl)) rfl ?_
    exact ⟨⟨_, _, _, _, _, by rw [HE.out]; rfl, fun _ => ⟨A5, c5, by rw [HN.out, HT.out, HD.out], by rw [HT.out]; exact SInts.keep (kept_of_below hwF) hsl, by rw [HN.out]; exact hN64, by rw [HD.out]; exact hD64⟩⟩, hwF⟩

/-- What an operation asks for. -/
theorem askedOf_any (m : List FunD) (f : FunD) (x : InsD) (vm vf vx : Value) (w : World) (hm : VMod w vm m) (hf : VFun w vf f) (hx : VIns w vx x) :
    Calls Try.prog 91 #[vm, vf, vx] w (Asked m f x w) := by
  by_cases h17 : x.op = 17
  · exact askedOf_17 m f x vm vf vx w hm hf hx h17
  · by_cases h0 : x.op < 1 ∨ 18 < x.op
    · exact askedOf_no m f x vm vf vx w hm hf hx h0
    · by_cases h3 : x.op = 3 ∨ x.op = 4 ∨ x.op = 5 ∨ x.op = 6 ∨ x.op = 7 ∨ x.op = 8 ∨ x.op = 9 ∨ x.op = 10 ∨ x.op = 11
      · exact askedOf_3 m f x vm vf vx w hm hf hx h3
      · have h : x.op = 1 ∨ x.op = 2 ∨ x.op = 12 ∨ x.op = 13 ∨ x.op = 14 ∨ x.op = 15 ∨ x.op = 16 ∨ x.op = 18 := by omega
        rcases h with h | h | h | h | h | h | h | h
        · exact askedOf_1 m f x vm vf vx w hm hf hx h
        · exact askedOf_2 m f x vm vf vx w hm hf hx h
        · exact askedOf_12 m f x vm vf vx w hm hf hx h
        · exact askedOf_13 m f x vm vf vx w hm hf hx h
        · exact askedOf_14 m f x vm vf vx w hm hf hx h
        · exact askedOf_15 m f x vm vf vx w hm hf hx h
        · exact askedOf_16 m f x vm vf vx w hm hf hx h
        · exact askedOf_18 m f x vm vf vx w hm hf hx h
end Go.Proofs.Ytcjmhdneelmbhaa
