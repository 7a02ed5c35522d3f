/- Tables in memory; New, Len, mayBe, drawerOf, Find. -/
import Derived.Test.YtcjmhdneelmbhaaAheadLJ
import Derived.Test.YtcjmhdneelmbhaaInsJ
import Derived.Test.YtcjmhdneelmbhaaMacBJ
import Derived.BigQuiet
import Derived.IntWalk
import Derived.StillTailTactics
import Derived.Shelf.SlSortCmp.WholeK
import Derived.Test.YtcjmhdneelmbhaaChecked
import Derived.Sort.Grow
import Derived.Shelf.Spec.SlicesGrow
namespace Go.Proofs.Ytcjmhdneelmbhaa
open Go.ChangeShapes Go.WideShapes Go.RowKit Go.Deep
set_option linter.unusedVariables false

def cellsV : List VD → List Value
  | [] => []
  | x :: r => .int .i64 x.1 :: .int .i64 x.2 :: cellsV r
theorem cellsV_len (l : List VD) : (cellsV l).length = l.length * 2 := by
  induction l with
  | nil => rfl
  | cons x r ih => simp [cellsV, ih]; omega
theorem cellsV_append (a b : List VD) : cellsV (a ++ b) = cellsV a ++ cellsV b := by
  induction a with
  | nil => rfl
  | cons x r ih => simp [cellsV, ih]
theorem cellsV_at {l : List VD} {i : Nat} {x : VD} (h : l[i]? = some x) : (cellsV l)[i * 2]? = some (.int .i64 x.1) ∧ (cellsV l)[i * 2 + 1]? = some (.int .i64 x.2) := by
  induction l generalizing i with
  | nil => cases h
  | cons a r ih =>
    cases i with
    | zero =>
      obtain rfl := Option.some.inj h
      exact ⟨rfl, rfl⟩
    | succ i =>
      have := ih (i := i) (by simpa using h)
      rw [show (i + 1) * 2 = i * 2 + 1 + 1 by omega]
      simpa [cellsV] using this
theorem cellsV_one {l : List VD} {v : Value} (h : v ∈ cellsV l) : v.oneCell' = true := by
  induction l with
  | nil => cases h
  | cons a r ih =>
    simp only [cellsV, List.mem_cons] at h
    rcases h with rfl | rfl | h
    · rfl
    · rfl
    · exact ih h
def drV (l : List VD) : RowD := ⟨69, 2, l.length, cellsV l⟩

/-- Block b is a table: its drawers' row in g, its map in bm; drawer d lies in U d. -/
structure TabM (w : World) (K b g bm n : Nat) (U : Nat → Value) (ds : List (List VD)) : Prop where
  ok : TbOk n ds
  iv : ∀ (d : Nat) l x, ds[d]? = some l → x ∈ l → IV x
  box : w.heap[b]? = some (.cells #[.slice (some ⟨g, 0, none⟩) n n, .map (some bm)] 92 (0, 0))
  row : w.rowIs g 59 n U
  pool : PoolD w K n U (fun d => drV (ds.getD d []))
  map : MpV w bm (totV ds) n ds
  lo : K ≤ b ∧ K ≤ g ∧ K ≤ bm
  ne : b ≠ g ∧ b ≠ bm ∧ g ≠ bm
  ap : ∀ d y, d < n → (U d).ownBlock = some y → y ≠ b ∧ y ≠ g ∧ y ≠ bm
/-- The blocks of a table. -/
def TabX (b g bm n : Nat) (U : Nat → Value) (y : Nat) : Prop := y = b ∨ y = g ∨ y = bm ∨ ∃ d, d < n ∧ (U d).ownBlock = some y
section
variable {w w' : World} {K b g bm n : Nat} {U : Nat → Value} {ds : List (List VD)}
theorem TabM.lt (h : TabM w K b g bm n U ds) {y : Nat} (hy : TabX b g bm n U y) : K ≤ y ∧ y < w.heap.size := by
  have := h.lo
  rcases hy with rfl | rfl | rfl | ⟨d, hd, e⟩
  · exact ⟨this.1, (Array.getElem?_eq_some_iff.1 h.box).1⟩
  · exact ⟨this.2.1, h.row.lt⟩
  · exact ⟨this.2.2, h.map.lt⟩
  · exact (h.pool.own d hd).lt y e
/-- Another world in which its blocks are as they were. -/
theorem TabM.go (h : TabM w K b g bm n U ds) (hb : ∀ y, TabX b g bm n U y → w'.heap[y]? = w.heap[y]?) : TabM w' K b g bm n U ds :=
  ⟨h.ok, h.iv, (hb b (.inl rfl)).trans h.box, h.row.of_block (hb g (.inr (.inl rfl))),
    ⟨fun d hd => ownsRow_block (h.pool.own d hd) fun y hy => hb y (.inr (.inr (.inr ⟨d, hd, hy⟩))), h.pool.ap⟩, h.map.kept (hb bm (.inr (.inr (.inl rfl)))), h.lo, h.ne, h.ap⟩
theorem TabM.below (h : TabM w K b g bm n U ds) (hb : Below w.heap.size w w') : TabM w' K b g bm n U ds := h.go fun y hy => hb.block y (h.lt hy).2
theorem TabM.cells (h : TabM w K b g bm n U ds) : w.cell? ⟨b, 0, none⟩ = some (.slice (some ⟨g, 0, none⟩) n n) ∧ w.cell? ⟨b, 1, none⟩ = some (.map (some bm)) := by
  have hb := h.box
  simp [World.cell?, hb]
theorem TabM.in_iv (h : TabM w K b g bm n U ds) {x : VD} (hx : inV n ds x = true) : IV x := by
  unfold inV at hx
  exact h.iv _ _ x (h.ok.here x) (of_decide_eq_true hx)
theorem TabM.tot (h : TabM w K b g bm n U ds) : totV ds ≤ 4096 := h.ok.tot
end

theorem Try.infoRow59 : (Try.prog.info? 59).map (fun i => (i.zero, i.size, i.bytes)) = some (some (.slice none 0 0), 1, 24) := by kernel_rfl
theorem Try.infoVal69 : (Try.prog.info? 69).map (fun i => (i.zero, i.size, i.bytes)) = some (some (.agg #[.int .i64 0, .int .i64 0]), 2, 16) := by kernel_rfl

theorem new_no (s : Int) (w : World) (h : s < 1 ∨ 16 < s) : Calls Try.prog 16 #[.int .i64 s] w fun e w' => e = .returned (.tuple #[.pointer none, .iface 57 (.int .i64 1)]) ∧ w' = w := by
  by_cases h1 : s < 1
  · have d1 : decide (s < 1) = true := decide_eq_true h1
    clear h
    go_enter Try.func16, Try.ntmps16
    go_wp2_with fail
    go_ret2
    exact ⟨rfl, rfl⟩
  · have d1 : decide (s < 1) = false := decide_eq_false h1
    have h2 : 16 < s := by omega
    have d2 : decide (16 < s) = true := decide_eq_true h2
    clear h
    go_enter Try.func16, Try.ntmps16
    go_wp2_with fail
    go_ret2
    exact ⟨rfl, rfl⟩
theorem new_yes (n : Nat) (w : World) (h1 : 1 ≤ n) (h2 : n ≤ 16) : Calls Try.prog 16 #[.int .i64 n] w fun e w' =>
    e = .returned (.tuple #[.pointer (some ⟨w.heap.size + 2, 0, none⟩), .nilIface]) ∧ Below w.heap.size w w' ∧ TabM w' w.heap.size (w.heap.size + 2) w.heap.size (w.heap.size + 1) n (fun _ => .slice none 0 0) (List.replicate n []) := by
  have d1 : decide ((n : Int) < 1) = false := decide_eq_false (by omega)
  have d2 : decide (16 < (n : Int)) = false := decide_eq_false (by omega)
  have e1 : ¬ ((n : Int) < 1) := by omega
  have e2 : ¬ (16 < (n : Int)) := by omega
  have hmk := run_make_row' (P := Try.prog) 89 59 (.slice none 0 0) 24 Try.underlying89 Try.infoRow59 rfl .i64 .i64 n (by omega) (by omega)
  have hmm := @run_makeMap Try.prog
  go_enter Try.func16, Try.ntmps16
  go_wp2_with fail
  go_ret2
  refine ⟨rfl, ((((Below.refl _ _).alloc (Nat.le_refl _) _).alloc (by simp) _).alloc (by simp; omega) _), ?_⟩
  obtain ⟨wA, hwA⟩ : ∃ wA, wA = w.alloc (.cells (madeCells #[Value.slice none 0 0] n) 59) := ⟨_, rfl⟩
  have hzA : wA.heap.size = w.heap.size + 1 := by rw [hwA]; simp
  have hrA : wA.rowIs w.heap.size 59 n (fun _ => .slice none 0 0) := by rw [hwA]; exact World.rowIs_made _ _ _ _
  rw [← hwA]
  obtain ⟨wB, hwB⟩ : ∃ wB, wB = wA.alloc (.map #[] 0) := ⟨_, rfl⟩
  have hzB : wB.heap.size = w.heap.size + 2 := by rw [hwB]; simp [hzA]
  have hmB : MpV wB (w.heap.size + 1) 0 n (List.replicate n []) := by
    have := MpV.made wA h1
    rw [hzA] at this
    rw [hwB]; exact this
  have hrB : wB.rowIs w.heap.size 59 n (fun _ => .slice none 0 0) := by rw [hwB]; exact hrA.alloc _
  rw [← hwB]
  have ht : totV (List.replicate n ([] : List VD)) = 0 := by unfold totV; simp
  have hd : ∀ d, d < n → (List.replicate n ([] : List VD)).getD d [] = [] := fun d hd => by
    rw [List.getD_eq_getElem?_getD, List.getElem?_replicate, if_pos hd]; rfl
  have hbox : (wB.alloc (.cells #[Value.slice (some { block := w.heap.size, off := 0 }) n n, Value.map (some (w.heap.size + 1))] 92)).heap[w.heap.size + 2]? = some (.cells #[Value.slice (some { block := w.heap.size, off := 0 }) n n, Value.map (some (w.heap.size + 1))] 92 (0, 0)) := by
    rw [← hzB]; exact heap_alloc_new wB _
  refine ⟨TbOk.new h1 h2, fun d l x hl hx => ?_, hbox, hrB.alloc _, ⟨fun d hd' => ?_, fun i j _ _ _ => .inl rfl⟩, ?_, ⟨by omega, by omega, by omega⟩, ⟨by omega, by omega, by omega⟩, fun d y _ e => by cases e⟩
  · have := List.eq_of_mem_replicate (List.mem_of_getElem? hl)
    subst this; cases hx
  · rw [hd d hd']
    exact World.ownsRow_nil _ _ _ _
  · rw [ht]
    exact hmB.kept (Below.heap_alloc _ _ _ (by omega))
/-- The walk at 'len(m)'. -/
theorem wpList_len_mp {w : World} {ops : Array Oper} {rest : List Oper} {o : Oper} {a : Act} {Q : Exit → Act → World → Prop} {b c n : Nat} {ds : List (List VD)} (h : MpV w b c n ds) (hg : o.guard = none) (m : Operand)
    (hop : o.op = Op.call { callee := Callee.builtin Builtin.len, args := #[m], argTypes := #[90] }) (hm : a.eval m = .map (some b))
    (hK : wpList Try.prog ops Q rest (a.put o.dst (.int .i64 (totV ds : Int))) w) : wpList Try.prog ops Q (o :: rest) a w := by
  obtain ⟨D, h1, -, h2⟩ := h
  rw [← h2] at hK
  exact wpList_len_own w hg m _ hop _ _ Try.underlying90 _ b c D hm h1 hK
theorem wpList_look_mp {w : World} {ops : Array Oper} {rest : List Oper} {o : Oper} {a : Act} {Q : Exit → Act → World → Prop} {b c n : Nat} {ds : List (List VD)} (h : MpV w b c n ds) {x : VD} (hx : IV x) (hg : o.guard = none) (m k : Operand)
    (hop : o.op = Op.lookup 90 m k true) (hm : a.eval m = .map (some b)) (hk : a.eval k = .agg #[.int .i64 x.1, .int .i64 x.2])
    {c' : Int} {i : Bool} (hc : c' = if inV n ds x = true then (hV n ds x : Int) else 0) (hi : i = inV n ds x) (hK : wpList Try.prog ops Q rest (a.put o.dst (.tuple #[.int .i64 c', .bool i])) w) : wpList Try.prog ops Q (o :: rest) a w := by
  subst hc hi
  refine wpList_plain hg fun K' hK' => ?_
  unfold Oper.wp
  simp [execOp, hop, hm, hk, h.look hx, Result.andThen]
  exact hK' _ _ (by simpa using hK)

theorem len_any {w : World} {K b g bm n : Nat} {U : Nat → Value} {ds : List (List VD)} (h : TabM w K b g bm n U ds) :
    Calls Try.prog 17 #[.pointer (some ⟨b, 0, none⟩)] w fun e w' => e = .returned (.int .i64 (totV ds : Int)) ∧ w' = w := by
  have c1 := h.cells.2
  have HM := Lib.hid h.map
  clear h
  go_enter Try.func17, Try.ntmps17
  go_wp2_with (at_len; refine wpList_len_mp HM.out rfl _ rfl rfl ?_)
  go_ret
  exact ⟨rfl, rfl⟩
theorem find_any {w : World} {K b g bm n : Nat} {U : Nat → Value} {ds : List (List VD)} (h : TabM w K b g bm n U ds) (k v : Int) (hk : I64 k) (hv : I64 v) :
    Calls Try.prog 21 #[.pointer (some ⟨b, 0, none⟩), .int .i64 k, .int .i64 v] w fun e w' => e = .returned (.tuple #[.int .i64 (if inV n ds (k, v) = true then (hV n ds (k, v) : Int) else 0), .bool (inV n ds (k, v))]) ∧ w' = w := by
  have c1 := h.cells.2
  have HM := Lib.hid h.map
  obtain ⟨c', hc⟩ : ∃ c' : Int, c' = if inV n ds (k, v) = true then (hV n ds (k, v) : Int) else 0 := ⟨_, rfl⟩
  obtain ⟨i, hi⟩ : ∃ i : Bool, i = inV n ds (k, v) := ⟨_, rfl⟩
  rw [← hc, ← hi]
  have HC := Lib.hid hc
  have HI := Lib.hid hi
  clear h hc hi
  go_enter Try.func21, Try.ntmps21
  go_wp2_with (at_lookup; refine wpList_look_mp HM.out (x := (k, v)) ⟨hk, hv⟩ rfl _ _ rfl rfl rfl HC.out HI.out ?_)
  go_ret2
  exact ⟨rfl, rfl⟩
theorem mayBe_any (k v : Int) (w : World) : Calls Try.prog 34 #[.agg #[.int .i64 k, .int .i64 v]] w fun e w' => e = .returned (.bool (mayV (k, v))) ∧ Below w.heap.size w w' := by
  by_cases h1 : k = 1
  · subst h1
    have HE : Hid (mayV (1, v) = true) := Lib.hid (by unfold mayV; simp)
    go_enter Try.func34, Try.ntmps34
    go_wp2_with fail
    go_ret
    exact ⟨by rw [HE.out]; rfl, (Below.refl _ _).alloc (Nat.le_refl _) _⟩
  · have d1 : (k == (1 : Int)) = false := by simpa using h1
    by_cases h2 : k = 2
    · subst h2
      by_cases h3 : v = 0
      · subst h3
        have HE : Hid (mayV (2, 0) = true) := Lib.hid (by decide)
        go_enter Try.func34, Try.ntmps34
        go_wp2_with fail
        go_ret
        exact ⟨by rw [HE.out]; rfl, (Below.refl _ _).alloc (Nat.le_refl _) _⟩
      · have d3 : (v == (0 : Int)) = false := by simpa using h3
        have HE : Hid (mayV (2, v) = (v == 1)) := Lib.hid (by unfold mayV; rw [Bool.eq_iff_iff]; simp [h3])
        go_enter Try.func34, Try.ntmps34
        go_wp2_with fail
        go_ret
        exact ⟨by rw [HE.out]; rfl, (Below.refl _ _).alloc (Nat.le_refl _) _⟩
    · have d2 : (k == (2 : Int)) = false := by simpa using h2
      have HE : Hid (mayV (k, v) = false) := Lib.hid (by unfold mayV; simp [h1, h2])
      go_enter Try.func34, Try.ntmps34
      go_wp2_with fail
      go_ret
      exact ⟨by rw [HE.out]; rfl, (Below.refl _ _).alloc (Nat.le_refl _) _⟩
theorem drawerOf_any {w : World} {K b g bm n : Nat} {U : Nat → Value} {ds : List (List VD)} (h : TabM w K b g bm n U ds) (k v : Int) (hk : k = 1 ∨ k = 2) (hv : I64 v) :
    Calls Try.prog 35 #[.pointer (some ⟨b, 0, none⟩), .agg #[.int .i64 k, .int .i64 v]] w fun e w' => e = .returned (.int .i64 (drwV n (k, v) : Int)) ∧ Below w.heap.size w w' := by
  have c0 := h.cells.1
  have hn1 := h.ok.n1
  have hn2 := h.ok.n16
  have hbl := (h.lt (.inl rfl)).2
  clear h
  have hk1 : 1 ≤ k := by omega
  have hk2 : k ≤ 2 := by omega
  have HE : Hid ((drwV n (k, v) : Int) = (v % 4294967296 + k) % (n : Int)) := Lib.hid (by
    unfold drwV
    exact Int.toNat_of_nonneg (Int.emod_nonneg _ (by omega)))
  have hl1 := Int.emod_nonneg (v % 4294967296 + k) (b := (n : Int)) (by omega)
  have hl2 := Int.emod_lt_of_pos (v % 4294967296 + k) (b := (n : Int)) (by omega)
  have HW : Hid (wrap64 ((v % 4294967296 + k) % (n : Int)) = (v % 4294967296 + k) % (n : Int)) := Lib.hid (IntWalk.wrap64_in _ (by omega))
  clear hk hl1 hl2
  go_enter Try.func35, Try.ntmps35
  go_wp2_with fail
  go_ret
  exact ⟨by rw [HE.out]; exact congrArg (fun z => Ending.returned (.int .i64 z)) HW.out, (Below.refl _ _).alloc (Nat.le_refl _) _⟩
end Go.Proofs.Ytcjmhdneelmbhaa

/- The library's sort of values at this program: its texts are those that the library's contracts speak of. -/
namespace Go.Proofs.Ytcjmhdneelmbhaa
open Go.Shelf
def sfv_ren : Go.Shelf.Ren := ⟨fun | 6 => 32 | 15 => 47 | 14 => 46 | 28 => 71 | 29 => 72 | 20 => 63 | 21 => 64 | 22 => 65 | 23 => 66 | 24 => 67 | 25 => 68 | 26 => 69 | 27 => 70 | 46 => 85 | 47 => 86 | 48 => 87 | 49 => 88 | 50 => 89 | 57 => 99 | n => n, fun | 22 => 59 | 24 => 69 | 25 => 95 | 3 => 3 | 39 => 119 | 0 => 0 | 53 => 124 | 55 => 123 | 4 => 4 | 46 => 136 | 45 => 135 | 50 => 65 | 5 => 5 | 9 => 9 | 66 => 154 | 70 => 158 | 76 => 171 | 77 => 172 | n => n, fun | n => n⟩
theorem sfv : Go.Proofs.SlLaysF0.n6 Try.prog sfv_ren := {
  mixed := by kernel_rfl,
  f6 := ⟨Try.f32.name, by decide, Try.func32.trans (congrArg some (by kernel_rfl))⟩,
  f14 := ⟨Try.f46.name, by decide, Try.func46.trans (congrArg some (by kernel_rfl))⟩,
  f15 := Try.func47.trans (congrArg some (by kernel_rfl)),
  f20 := ⟨Try.f63.name, by decide, Try.func63.trans (congrArg some (by kernel_rfl))⟩,
  f21 := ⟨Try.f64.name, by decide, Try.func64.trans (congrArg some (by kernel_rfl))⟩,
  f22 := ⟨Try.f65.name, by decide, Try.func65.trans (congrArg some (by kernel_rfl))⟩,
  f23 := ⟨Try.f66.name, by decide, Try.func66.trans (congrArg some (by kernel_rfl))⟩,
  f24 := ⟨Try.f67.name, by decide, Try.func67.trans (congrArg some (by kernel_rfl))⟩,
  f25 := ⟨Try.f68.name, by decide, Try.func68.trans (congrArg some (by kernel_rfl))⟩,
  f26 := ⟨Try.f69.name, by decide, Try.func69.trans (congrArg some (by kernel_rfl))⟩,
  f27 := ⟨Try.f70.name, by decide, Try.func70.trans (congrArg some (by kernel_rfl))⟩,
  f28 := Try.func71.trans (congrArg some (by kernel_rfl)),
  f29 := Try.func72.trans (congrArg some (by kernel_rfl)),
  f46 := ⟨Try.f85.name, by decide, Try.func85.trans (congrArg some (by kernel_rfl))⟩,
  f47 := Try.func86.trans (congrArg some (by kernel_rfl)),
  f48 := Try.func87.trans (congrArg some (by kernel_rfl)),
  f49 := ⟨Try.f88.name, by decide, Try.func88.trans (congrArg some (by kernel_rfl))⟩,
  f50 := ⟨Try.f89.name, by decide, Try.func89.trans (congrArg some (by kernel_rfl))⟩,
  f57 := ⟨Try.f99.name, by decide, Try.func99.trans (congrArg some (by kernel_rfl))⟩,
  t0 := Try.underlying0,
  a0 := Try.isAgg0,
  z0 := Try.sizeOf0,
  v0 := Try.zeroValue0,
  t3 := Try.underlying3,
  a3 := Try.isAgg3,
  z3 := Try.sizeOf3,
  v3 := Try.zeroValue3,
  t4 := Try.underlying4,
  a4 := Try.isAgg4,
  z4 := Try.sizeOf4,
  v4 := Try.zeroValue4,
  t5 := Try.underlying5,
  a5 := Try.isAgg5,
  z5 := Try.sizeOf5,
  v5 := Try.zeroValue5,
  t9 := Try.underlying9,
  a9 := Try.isAgg9,
  z9 := Try.sizeOf9,
  v9 := Try.zeroValue9,
  t22 := Try.underlying59,
  a22 := Try.isAgg59,
  z22 := Try.sizeOf59,
  v22 := Try.zeroValue59,
  t25 := Try.underlying95,
  a25 := Try.isAgg95,
  z25 := Try.sizeOf95,
  v25 := Try.zeroValue95,
  t39 := Try.underlying119,
  a39 := Try.isAgg119,
  z39 := Try.sizeOf119,
  v39 := Try.zeroValue119,
  t45 := Try.underlying135,
  a45 := Try.isAgg135,
  z45 := Try.sizeOf135,
  v45 := Try.zeroValue135,
  t46 := Try.underlying136,
  a46 := Try.isAgg136,
  z46 := Try.sizeOf136,
  v46 := Try.zeroValue136,
  t50 := Try.underlying65,
  a50 := Try.isAgg65,
  z50 := Try.sizeOf65,
  v50 := Try.zeroValue65,
  t53 := Try.underlying124,
  a53 := Try.isAgg124,
  z53 := Try.sizeOf124,
  v53 := Try.zeroValue124,
  t55 := Try.underlying123,
  a55 := Try.isAgg123,
  z55 := Try.sizeOf123,
  v55 := Try.zeroValue123,
  t66 := Try.underlying154,
  a66 := Try.isAgg154,
  z66 := Try.sizeOf154,
  v66 := Try.zeroValue154,
  t70 := Try.underlying158,
  a70 := Try.isAgg158,
  z70 := Try.sizeOf158,
  v70 := Try.zeroValue158,
  t76 := Try.underlying171,
  a76 := Try.isAgg171,
  z76 := Try.sizeOf171,
  v76 := Try.zeroValue171,
  t77 := Try.underlying172,
  a77 := Try.isAgg172,
  z77 := Try.sizeOf172,
  v77 := Try.zeroValue172 }
end Go.Proofs.Ytcjmhdneelmbhaa

/- byContent: values compared. -/
namespace Go.Proofs.Ytcjmhdneelmbhaa
open Go.ChangeShapes Go.WideShapes Go.RowKit Go.Deep
set_option linter.unusedVariables false

def orV (a c : Int) : Int := if a = 0 then c else a
def cmpV (x y : VD) : Int := orV (Lib.compareInt x.1 y.1) (Lib.compareInt x.2 y.2)
theorem cmpInt_zero {a b : Int} : Lib.compareInt a b = 0 ↔ a = b := by
  unfold Lib.compareInt
  by_cases h1 : a < b
  · rw [if_pos h1]; constructor <;> intro h <;> omega
  · rw [if_neg h1]
    by_cases h2 : b < a
    · rw [if_pos h2]; constructor <;> intro h <;> omega
    · rw [if_neg h2]; constructor <;> intro h <;> omega
theorem cmpInt_lt {a b : Int} : Lib.compareInt a b < 0 ↔ a < b := by
  unfold Lib.compareInt
  by_cases h1 : a < b
  · rw [if_pos h1]; constructor <;> intro h <;> omega
  · rw [if_neg h1]
    by_cases h2 : b < a
    · rw [if_pos h2]; constructor <;> intro h <;> omega
    · rw [if_neg h2]; constructor <;> intro h <;> omega
theorem cmpInt_in (a b : Int) : -1 ≤ Lib.compareInt a b ∧ Lib.compareInt a b ≤ 1 := by
  unfold Lib.compareInt
  split
  · omega
  · split <;> omega
theorem cmpV_lt {x y : VD} : cmpV x y < 0 ↔ ltV x y = true := by
  unfold cmpV orV ltV
  rw [decide_eq_true_iff]
  by_cases h : x.1 = y.1
  · rw [if_pos (cmpInt_zero.2 h), cmpInt_lt]; omega
  · rw [if_neg (fun e => h (cmpInt_zero.1 e)), cmpInt_lt]; omega

theorem compI_any (x y : Int) (w : World) : Calls Try.prog 49 #[.int .i64 x, .int .i64 y] w fun e w' => e = .returned (.int .i64 (Lib.compareInt x y)) ∧ w' = w := by
  have hx : (x != x) = false := by simp
  have hy : (y != y) = false := by simp
  by_cases h1 : x < y
  · have e : Lib.compareInt x y = -1 := by unfold Lib.compareInt; rw [if_pos h1]
    rw [e]
    clear e
    go_enter Try.func49, Try.ntmps49
    go_wp2
    all_goals (go_ret; exact ⟨rfl, rfl⟩)
  · by_cases h2 : y < x
    · have e : Lib.compareInt x y = 1 := by unfold Lib.compareInt; rw [if_neg h1, if_pos h2]
      rw [e]
      clear e
      go_enter Try.func49, Try.ntmps49
      go_wp2
      all_goals (go_ret; exact ⟨rfl, rfl⟩)
    · have e : Lib.compareInt x y = 0 := by unfold Lib.compareInt; rw [if_neg h1, if_neg h2]
      rw [e]
      clear e
      go_enter Try.func49, Try.ntmps49
      go_wp2
      all_goals (go_ret; exact ⟨rfl, rfl⟩)
theorem compL_any (x y : Int) (w : World) : Calls Try.prog 50 #[.int .i64 x, .int .i64 y] w fun e w' => e = .returned (.int .i64 (Lib.compareInt x y)) ∧ w' = w := by
  have hx : (x != x) = false := by simp
  have hy : (y != y) = false := by simp
  by_cases h1 : x < y
  · have e : Lib.compareInt x y = -1 := by unfold Lib.compareInt; rw [if_pos h1]
    rw [e]
    clear e
    go_enter Try.func50, Try.ntmps50
    go_wp2
    all_goals (go_ret; exact ⟨rfl, rfl⟩)
  · by_cases h2 : y < x
    · have e : Lib.compareInt x y = 1 := by unfold Lib.compareInt; rw [if_neg h1, if_pos h2]
      rw [e]
      clear e
      go_enter Try.func50, Try.ntmps50
      go_wp2
      all_goals (go_ret; exact ⟨rfl, rfl⟩)
    · have e : Lib.compareInt x y = 0 := by unfold Lib.compareInt; rw [if_neg h1, if_neg h2]
      rw [e]
      clear e
      go_enter Try.func50, Try.ntmps50
      go_wp2
      all_goals (go_ret; exact ⟨rfl, rfl⟩)
/-- The first that isn't 0. -/
theorem or_any {w : World} {b : Nat} (a c : Int) (h0 : w.cell? ⟨b, 0, none⟩ = some (.int .i64 a)) (h1 : w.cell? ⟨b, 1, none⟩ = some (.int .i64 c)) :
    Calls Try.prog 48 #[.slice (some ⟨b, 0, none⟩) 2 2] w fun e w' => e = .returned (.int .i64 (orV a c)) ∧ w' = w := by
  go_enter Try.func48, Try.ntmps48
  go_wp2
  by_cases ha : a = 0
  · have d0 : (a != 0) = false := by simp [ha]
    have HE : Hid (orV a c = c) := Lib.hid (if_pos ha)
    clear ha
    go_loop [8] (fun i => ∃ j : Nat, j ≤ 2 ∧ i = .int .i64 j ∧ Hid (2 ≤ j → c = 0)) (fun i => 2 - (intOf i).toNat)
    case atStart => exact ⟨0, by omega, rfl, Lib.hid (fun h => by omega)⟩
    case round =>
      obtain ⟨j, hj, rfl, hz⟩ := hrel
      rcases (show j = 0 ∨ j = 1 ∨ j = 2 by omega) with rfl | rfl | rfl
      · go_wp2
        go_round
        case rel => exact ⟨1, by omega, by go_num, Lib.hid (fun h => by omega)⟩
        case measure => simp [intOf]
      · by_cases hc : c = 0
        · have d1 : (c != 0) = false := by simp [hc]
          have HC := Lib.hid hc
          clear hc
          go_wp2
          go_round
          case rel => exact ⟨2, by omega, by go_num, Lib.hid (fun _ => HC.out)⟩
          case measure => simp [intOf]
        · have d1 : (c != 0) = true := by simp [hc]
          clear hc
          go_wp2
          go_ret
          exact ⟨by rw [HE.out]; rfl, rfl⟩
      · have HC := Lib.hid (hz.out (Nat.le_refl _))
        go_wp2
        go_ret
        exact ⟨by rw [HE.out, HC.out]; rfl, rfl⟩
  · have d0 : (a != 0) = true := by simp [ha]
    have HE : Hid (orV a c = a) := Lib.hid (if_neg ha)
    clear ha
    refine wp_loop_rounds 1 ?_
    rw [rounds_succ]
    go_wp2
    go_ret
    exact ⟨by rw [HE.out]; rfl, rfl⟩
set_option maxRecDepth 100000 in
theorem byContent_any (x y : VD) (w : World) :
    Calls Try.prog 33 #[.agg #[.int .i64 x.1, .int .i64 x.2], .agg #[.int .i64 y.1, .int .i64 y.2]] w fun e w' => e = .returned (.int .i64 (cmpV x y)) ∧ ∃ q os', w' = Sort.grow (w.drewN q) os' := by
  obtain ⟨x1, x2⟩ := x
  obtain ⟨y1, y2⟩ := y
  have HE : Hid (cmpV (x1, x2) (y1, y2) = orV (Lib.compareInt x1 y1) (Lib.compareInt x2 y2)) := Lib.hid rfl
  dsimp only
  go_enter Try.func33, Try.ntmps33
  go_upto_region 1 with fail
  obtain ⟨wA, hwA⟩ : ∃ wA, wA = (w.alloc (.cells #[.int .i64 x1, .int .i64 x2] 69)).alloc (.cells #[.int .i64 y1, .int .i64 y2] 69) := ⟨_, rfl⟩
  have g0 : wA.cell? ⟨w.heap.size, 0, none⟩ = some (.int .i64 x1) := by rw [hwA]; simp
  have g1 : wA.cell? ⟨w.heap.size, 1, none⟩ = some (.int .i64 x2) := by rw [hwA]; simp
  have g2 : wA.cell? ⟨w.heap.size + 1, 0, none⟩ = some (.int .i64 y1) := by rw [hwA]; simp
  have g3 : wA.cell? ⟨w.heap.size + 1, 1, none⟩ = some (.int .i64 y2) := by rw [hwA]; simp
  rw [← hwA]
  have HW := Lib.hid hwA
  clear hwA
  obtain ⟨a, ha⟩ : ∃ a, a = Lib.compareInt x1 y1 := ⟨_, rfl⟩
  obtain ⟨c, hc⟩ : ∃ c, c = Lib.compareInt x2 y2 := ⟨_, rfl⟩
  have HC1 : ∀ w, Calls Try.prog 49 #[.int .i64 x1, .int .i64 y1] w fun e w' => e = .returned (.int .i64 a) ∧ w' = w := by rw [ha]; exact compI_any x1 y1
  have HC2 : ∀ w, Calls Try.prog 50 #[.int .i64 x2, .int .i64 y2] w fun e w' => e = .returned (.int .i64 c) ∧ w' = w := by rw [hc]; exact compL_any x2 y2
  rw [← ha, ← hc] at HE
  have H1 := Lib.hid HC1
  have H2 := Lib.hid HC2
  clear ha hc HC1 HC2
  refine wp_region_still_tail 10 (by kernel_rfl) (by kernel_rfl) ?_
  simp only [List.take_succ_cons, List.take_zero, List.drop_succ_cons, List.drop_zero]
  iterate 4 still_step
  still_call (H1.out _)
  iterate 4 still_step
  still_call (H2.out _)
  refine wpStill_nil ?_
  change wpList _ _ _ _ _ wA.drew
  go_wp2_with fail
  refine (or_any a c ?_ ?_).mono ?_
  · simp
  · simp
  rintro e w' ⟨rfl, rfl⟩
  go_wp2_with fail
  go_ret
  refine ⟨by rw [HE.out]; rfl, 1, #[.cells #[.int .i64 x1, .int .i64 x2] 69, .cells #[.int .i64 y1, .int .i64 y2] 69, .cells #[.int .i64 a, .int .i64 c] 3], ?_⟩
  rw [HW.out, Sort.alloc_eq_grow w, Sort.alloc_eq_grow (Sort.grow w _), Sort.grow_grow, Sort.alloc_eq_grow (Sort.grow w _), Sort.grow_grow, Sort.drew_grow]
  rfl

/-! ### the sort -/
def encV (x : VD) : List Value := [.int .i64 x.1, .int .i64 x.2]
theorem ltC (x y : VD) : ltOf cmpV x y = ltV x y := by
  unfold ltOf
  rw [Bool.eq_iff_iff, decide_eq_true_iff, cmpV_lt]
theorem swoC : Sort.SWO (ltOf cmpV) where
  irrefl x := by rw [ltC]; unfold ltV; simp
  trans x y z h1 h2 := by rw [ltC] at *; unfold ltV at *; rw [decide_eq_true_iff] at *; omega
  ntrans x y z h1 h2 := by rw [ltC] at *; unfold ltV at *; rw [decide_eq_false_iff_not] at *; omega
theorem flat_len (d : Array VD) : (Sort.flatK encV 2 d).toList.length = (cellsV d.toList).length := by
  rw [cellsV_len, Array.length_toList, Sort.size_flatK, Array.length_toList]
theorem flat_cells (d : Array VD) : (Sort.flatK encV 2 d).toList = cellsV d.toList := by
  apply List.ext_getElem (flat_len d)
  intro t h1 h2
  have ht : t < d.size * 2 := by rw [Array.length_toList, Sort.size_flatK] at h1; exact h1
  have hi : t / 2 < d.size := by omega
  have e1 := Sort.get_flatK encV 2 d t ht
  have e2 : (Sort.flatK encV 2 d).toList[t] = (Sort.flatK encV 2 d)[t]! := by
    rw [getElem!_pos (Sort.flatK encV 2 d) t (by rw [Sort.size_flatK]; exact ht)]; simp
  rw [e2, e1, getElem!_pos d (t / 2) hi]
  have h3 := cellsV_at (l := d.toList) (i := t / 2) (x := d[t / 2]) (by rw [Array.getElem?_toList]; exact Array.getElem?_eq_getElem hi)
  rcases (show t % 2 = 0 ∨ t % 2 = 1 by omega) with hp | hp
  · have ht2 : t / 2 * 2 = t := by omega
    rw [ht2] at h3
    rw [hp]
    have := (List.getElem?_eq_some_iff.1 h3.1).2
    rw [this]; rfl
  · have ht2 : t / 2 * 2 + 1 = t := by omega
    rw [ht2] at h3
    rw [hp]
    have := (List.getElem?_eq_some_iff.1 h3.2).2
    rw [this]; rfl
/-- A row of the caller's own, all of whose cells were written over, in a world that has grown. -/
theorem own_putK {w : World} {K g n cap sz : Nat} {e : TypeId} {xs : List Value} {D : Array Value} {m : Nat} {os : Array Obj} (h : w.ownsRow K e sz (.slice (some ⟨g, 0, none⟩) n cap) n xs) (hd : D.size = n * sz) :
    (Sort.grow (Sort.putRow id (Sort.ahead w m) g 0 D) os).ownsRow K e sz (.slice (some ⟨g, 0, none⟩) n cap) n D.toList ∧ GroD w (Sort.grow (Sort.putRow id (Sort.ahead w m) g 0 D) os) (.slice (some ⟨g, 0, none⟩) n cap) (.slice (some ⟨g, 0, none⟩) n cap) := by
  obtain ⟨h1, h2⟩ := h
  rcases h2 with ⟨h0, _⟩ | ⟨g', cap', cur, hv, hg, hh, hn, hcap, hsz, ht⟩
  · cases h0
  cases hv
  have hlt : g < w.heap.size := (Array.getElem?_eq_some_iff.1 hh).1
  have hgr : ∀ y, y < w.heap.size → (Sort.grow (Sort.putRow id (Sort.ahead w m) g 0 D) os).heap[y]? = (Sort.putRow id (Sort.ahead w m) g 0 D).heap[y]? := fun y hy => Sort.heap_grow_old _ _ (by simpa using hy)
  have hold : ∀ y, y < w.heap.size → y ≠ g → (Sort.grow (Sort.putRow id (Sort.ahead w m) g 0 D) os).heap[y]? = w.heap[y]? := fun y hy hyg => by
    rw [hgr y hy]
    simp [Sort.putRow, Sort.mapBlock, Array.getElem?_modify, Ne.symm hyg]
  have hnew : (Sort.grow (Sort.putRow id (Sort.ahead w m) g 0 D) os).heap[g]? = some (.cells (Sort.putCells id 0 D cur) e (0, 0)) := by
    rw [hgr g hlt]
    simp [Sort.putRow, Sort.mapBlock, Array.getElem?_modify, hh, Sort.onCells]
  have hps : (Sort.putCells id 0 D cur).size = cur.size := by simp [Sort.putCells]
  have hns : n * sz ≤ cap * sz := Nat.mul_le_mul_right _ hn
  refine ⟨⟨by rw [Array.length_toList]; exact hd, .inr ⟨g, cap, _, rfl, hg, hnew, hn, hcap, by rw [hps, hsz], ?_⟩⟩, ⟨rfl, rfl, rfl, by simp, fun y hy hv => hold y hy (fun e => hv (by rw [e]; rfl)), fun y hy => .inl hy⟩⟩
  apply List.ext_getElem?
  intro i
  rw [List.getElem?_take]
  by_cases hi : i < n * sz
  · rw [if_pos hi]
    have hid : i < D.size := by omega
    have hic : i < cur.size := by rw [hsz]; omega
    have hic2 : i < (Sort.putCells id 0 D cur).size := by omega
    rw [Array.getElem?_toList, Array.getElem?_eq_getElem hic2, Array.getElem?_toList, Array.getElem?_eq_getElem hid]
    simp [Sort.putCells, hid]
  · rw [if_neg hi, List.getElem?_eq_none (by simp; omega)]
theorem valAgg (w : World) : (isAgg 69).run Try.prog w = .ok true w := by
  unfold isAgg
  rw [Sem.run_bind, run_underlying Try.underlying69 w]
  rfl
theorem valSize (w : World) : (Go.sizeOf 69).run Try.prog w = .ok 2 w := by
  have := Try.infoVal69
  cases hq : Try.prog.info? 69 with
  | none => simp [hq] at this
  | some i => simp [hq] at this; simp [Go.sizeOf, typeInfo, hq, this]
theorem sorted_is {l : List VD} {d : Array VD} (hp : d.toList.Perm l) (hs : Sort.SortedIn (ltOf cmpV) 0 d.size d) : d.toList = l.mergeSort leV := by
  refine eq_of_sorted (hp.trans (List.mergeSort_perm _ _).symm) ?_ (List.pairwise_mergeSort leV_trans leV_total _)
  rw [List.pairwise_iff_getElem]
  intro i j hi hj hij
  have hi' : i < d.size := by simpa using hi
  have hj' : j < d.size := by simpa using hj
  have h3 := hs i j (Nat.zero_le _) hij hj'
  rw [ltC, getElem!_pos d i hi', getElem!_pos d j hj'] at h3
  unfold ltV at h3
  unfold leV
  rw [decide_eq_false_iff_not] at h3
  rw [decide_eq_true_iff]
  simp only [Array.getElem_toList]
  omega
theorem sortVals_some {w : World} {K g cap : Nat} {l : List VD} (h : w.ownsRow K 69 2 (.slice (some ⟨g, 0, none⟩) l.length cap) l.length (cellsV l)) (hl : l.length ≤ 1000000) :
    Calls Try.prog 32 #[.slice (some ⟨g, 0, none⟩) l.length cap, .func (.func 33) #[] #[]] w fun e w' =>
      e = .returned (.tuple #[]) ∧ w'.ownsRow K 69 2 (.slice (some ⟨g, 0, none⟩) l.length cap) l.length (cellsV (l.mergeSort leV)) ∧ GroD w w' (.slice (some ⟨g, 0, none⟩) l.length cap) (.slice (some ⟨g, 0, none⟩) l.length cap) := by
  have hlt := (h.lt g rfl).2
  have hsz : l.toArray.size = l.length := by simp
  have hcmp : CmpLays Try.prog 33 #[] encV 2 cmpV g 0 l.toArray.size w := by
    intro m os dk hs x y
    exact byContent_any x y _
  have hH : Sort.HoldsK encV 2 w g 0 l.toArray := by
    intro j hj
    rw [Sort.size_flatK, hsz] at hj
    refine ⟨?_, by rw [Nat.zero_add]; exact h.frozenAt j⟩
    rw [Nat.zero_add, h.cellAt j hj]
    have hjl : j < (cellsV l).length := by rw [cellsV_len]; exact hj
    have e := flat_cells l.toArray
    rw [List.toList_toArray] at e
    rw [List.getElem?_eq_getElem hjl, getElem!_pos (Sort.flatK encV 2 l.toArray) j (by rw [Sort.size_flatK, hsz]; exact hj)]
    show some _ = some _
    congr 1
    have e2 : (Sort.flatK encV 2 l.toArray)[j]'(by rw [Sort.size_flatK, hsz]; exact hj) = (Sort.flatK encV 2 l.toArray).toList[j]'(by rw [Array.length_toList, Sort.size_flatK, hsz]; exact hj) := by simp
    rw [e2]
    simp only [e]
    rfl
  have eg : ∀ args w, (callFunc 33 args).run Try.prog w = .ok (.enter 33 args) w := enters_of Try.func33 (by kernel_rfl) rfl
  have hcon := AnyQ.slices_SortFunc sfv 2 valAgg valSize encV (fun _ => rfl) (fun x v hv => by
    simp only [encV, List.mem_cons, List.not_mem_nil, or_false] at hv
    rcases hv with rfl | rfl <;> rfl) cmpV swoC 33 #[] g 0 cap l.toArray w eg hcmp hH hlt (by rw [hsz]; omega)
  rw [hsz] at hcon
  refine Calls.mono (show Calls Try.prog _ _ _ _ from hcon) ?_
  rintro e w' ⟨rfl, d', m, os, hp, hs, rfl⟩
  have hds : d'.size = l.length := by rw [hp.1]; simp
  have hperm : d'.toList.Perm l := by
    have h1 := hp.2.2
    have e1 : d'.extract 0 l.length = d' := by rw [← hds]; simp
    have e2 : l.toArray.extract 0 l.length = l.toArray := by
      rw [show l.toArray.extract 0 l.length = l.toArray.extract 0 l.toArray.size from by rw [hsz]]
      simp
    rw [e1, e2] at h1
    simpa using h1
  have hso := sorted_is hperm (by rw [hds]; exact hs)
  have hpt := own_putK (D := Sort.flatK encV 2 d') (m := m) (os := os) h (by rw [Sort.size_flatK, hds])
  rw [flat_cells, hso] at hpt
  exact ⟨rfl, hpt⟩
end Go.Proofs.Ytcjmhdneelmbhaa

/- The library's Grow for values at this program. -/
namespace Go.Proofs.Ytcjmhdneelmbhaa
open Go.Shelf
def grw_ren : Go.Shelf.Ren := ⟨fun | 4 => 45 | n => n, fun | 25 => 69 | 22 => 59 | 0 => 0 | 3 => 3 | 4 => 4 | 9 => 9 | 20 => 20 | n => n, fun | n => n⟩
theorem grw : Go.Proofs.Lays8.n4 Try.prog grw_ren := {
  mixed := by kernel_rfl,
  f4 := ⟨Try.f45.name, by decide, Try.func45.trans (congrArg some (by kernel_rfl))⟩,
  t0 := Try.underlying0, a0 := Try.isAgg0, z0 := Try.sizeOf0, v0 := Try.zeroValue0,
  t3 := Try.underlying3, a3 := Try.isAgg3, z3 := Try.sizeOf3, v3 := Try.zeroValue3,
  t4 := Try.underlying4, a4 := Try.isAgg4, z4 := Try.sizeOf4, v4 := Try.zeroValue4,
  t9 := Try.underlying9, a9 := Try.isAgg9, z9 := Try.sizeOf9, v9 := Try.zeroValue9,
  t20 := Try.underlying20, a20 := Try.isAgg20, z20 := Try.sizeOf20, v20 := Try.zeroValue20,
  t22 := Try.underlying59, a22 := Try.isAgg59, z22 := Try.sizeOf59, v22 := Try.zeroValue59 }
end Go.Proofs.Ytcjmhdneelmbhaa
