/- Appends of nothing, and of runs of cells, to a row of the call's own; a row without one of its elements. -/
import Derived.Test.YtacadgocoleaoaaEqEJ
import Derived.Laws.AppendOwnNone
import Derived.Deep.AppendLies
import Derived.Laws.OwnMore
import Derived.WalkSpells
import Derived.Test.YtacadgocoleaoaaDqGJ
import Derived.Test.YtacadgocoleaoaaAheadLJ
import Derived.OrdersHeld
import Derived.RegionTactic
import Derived.Lib.Hide
namespace Go.Proofs.Ytacadgocoleaoaa
open Go.ChangeShapes Go.WideShapes Go.RowKit Go.Deep
set_option linter.unusedVariables false

/-- An append of nothing. -/
theorem append_empty {w : World} {base : Nat} {t ty e : TypeId} {i : TypeInfo} {size : Nat} (ht : Try.prog.underlying t = some (.slice e)) (hi : Try.prog.info? e = some i) {v : Value} {n : Nat} {xs : List Value} (hown : w.ownsRow base e size v n xs) (A : Option Addr) (c : Nat) :
    (Builtin.append_ #[t, t] ty #[v, .slice A 0 c]).run Try.prog w = .ok v w := by
  cases A with
  | none =>
    rcases hown.2 with ⟨rfl, rfl⟩ | ⟨g, cap, cur, rfl, _, _, hnc, _⟩
    · simp [Builtin.append_, run_underlying ht, sizeOf, typeInfo, hi, Builtin.lenOf, Builtin.firstCells]
    · simp [Builtin.append_, run_underlying ht, sizeOf, typeInfo, hi, Builtin.lenOf, Builtin.firstCells, hnc, storeCells]
  | some a =>
    rcases hown.2 with ⟨rfl, rfl⟩ | ⟨g, cap, cur, rfl, _, _, hnc, _⟩
    · simp [Builtin.append_, run_underlying ht, sizeOf, typeInfo, hi, Builtin.lenOf, Builtin.firstCells, loadCells, loadCellsFrom]
    · simp [Builtin.append_, run_underlying ht, sizeOf, typeInfo, hi, Builtin.lenOf, Builtin.firstCells, hnc, storeCells, loadCells, loadCellsFrom]
/-- An append of a run of cells. -/
theorem append_runQ {w : World} {base : Nat} {t ty e : TypeId} {i : TypeInfo} {z : Value} {size bytes : Nat} (ht : Try.prog.underlying t = some (.slice e)) (hi : Try.prog.info? e = some i) (hz : i.zero = some z) (hsize : i.size = size) (hby : i.bytes = bytes) (hzs : z.cells.size = size) (hsz : 0 < size)
    {v : Value} {n : Nat} {xs : List Value} (hown : w.ownsRow base e size v n xs) {A : Option Addr} {m c : Nat} {news : List Value} (hl : news.length = m * size)
    (hA : ∀ a, A = some a → ∀ j u, news[j]? = some u → w.cell? (a.add j) = some u) (hA0 : 0 < m → A ≠ none) (h1 : ∀ u ∈ news, u.oneCell' = true) (h63 : n + m ≤ maxLen) (hbytes : (n + m) * bytes ≤ 140737488355328) (hbase : base ≤ w.heap.size) :
    ∃ v' w', (Builtin.append_ #[t, t] ty #[v, .slice A m c]).run Try.prog w = .ok v' w' ∧ w'.ownsRow base e size v' (n + m) (xs ++ news) ∧ w.grownBy w' v.ownBlock ∧ (v'.ownBlock = v.ownBlock ∨ v'.ownBlock = some w.heap.size) := by
  by_cases hm : m = 0
  · subst hm
    have hn : news = [] := List.eq_nil_of_length_eq_zero (by omega)
    subst hn
    exact ⟨v, w, append_empty ht hi hown A c, by rw [List.append_nil]; exact hown, ⟨rfl, rfl, rfl, Nat.le_refl _, fun _ _ _ => rfl⟩, .inl rfl⟩
  · cases A with
    | none => exact absurd rfl (hA0 (by omega))
    | some a =>
      obtain ⟨g, cap, w', hr, h2, h3, h4, -⟩ := run_append_lies w t ty base e i z size bytes ht hi hz hsize hby hzs hsz v n xs hown a m c news hl (hA a rfl) h1 (by omega) h63 hbytes hbase _ rfl
      refine ⟨_, w', hr, h2, h3, ?_⟩
      rcases h4 with h4 | h4
      · exact .inl (by rw [h4]; rfl)
      · exact .inr (by rw [h4]; rfl)
theorem addr_add (g o k : Nat) : (⟨g, o, none⟩ : Addr).add k = ⟨g, o + k, none⟩ := by
  unfold Addr.add
  split
  · rename_i h; subst h; rfl
  · rfl
/-- append(append([]T{}, l[:j]...), l[j+1:]...). -/
theorem cut_runs {w : World} {K : Nat} {t ty1 ty2 e : TypeId} {i : TypeInfo} {z : Value} {size bytes : Nat} (ht : Try.prog.underlying t = some (.slice e)) (hi : Try.prog.info? e = some i) (hz : i.zero = some z) (hsize : i.size = size) (hby : i.bytes = bytes) (hzs : z.cells.size = size) (hsz : 0 < size)
    {g c len : Nat} {xs : List Value} (hown : w.ownsRow K e size (.slice (some ⟨g, 0, none⟩) len c) len xs) (hxl : xs.length = len * size) (h1 : ∀ u ∈ xs, u.oneCell' = true) {j : Nat} (hj : j < len) (hl : len ≤ 1000) (hb : bytes ≤ 1000) {A2 : Option Addr} (hA2 : j + 1 < len → A2 = some ⟨g, (j + 1) * size, none⟩) (c2 : Nat) :
    ∃ v2 w2 v3 w3, (Builtin.append_ #[t, t] ty1 #[.slice (some ⟨w.heap.size, 0, none⟩) 0 0, .slice (some ⟨g, 0, none⟩) j c]).run Try.prog (w.alloc (.cells #[] e)) = .ok v2 w2 ∧
      (Builtin.append_ #[t, t] ty2 #[v2, .slice A2 (len - (j + 1)) c2]).run Try.prog w2 = .ok v3 w3 ∧ w3.ownsRow w.heap.size e size v3 (len - 1) (xs.take (j * size) ++ xs.drop ((j + 1) * size)) ∧ Below w.heap.size w w3 := by
  have hlt : g < w.heap.size := (hown.lt g rfl).2
  have hown1 : (w.alloc (.cells #[] e)).ownsRow w.heap.size e size (.slice (some ⟨w.heap.size, 0, none⟩) 0 0) 0 [] := by
    have := World.ownsRow_made (base := w.heap.size) (e := e) (size := size) w #[] 0 (Nat.le_refl _) (Nat.zero_le _) (by simp)
    simpa using this
  have hj2 : j * size ≤ xs.length := by rw [hxl]; exact Nat.mul_le_mul_right _ (Nat.le_of_lt hj)
  have hce : ∀ k u, xs[k]? = some u → w.cell? ⟨g, k, none⟩ = some u := fun k u hk => by
    have := hown.cells (g := g) rfl k u hk
    rwa [addr_add, Nat.zero_add] at this
  have hbj : bytes * (0 + j) ≤ 1000 * 1000 := Nat.mul_le_mul hb (by omega)
  obtain ⟨v2, w2, hr2, ho2, hg2, hv2⟩ := append_runQ (ty := ty1) ht hi hz hsize hby hzs hsz hown1 (A := some ⟨g, 0, none⟩) (m := j) (c := c) (news := xs.take (j * size)) (by rw [List.length_take]; omega)
    (fun a ha k u hk => by
      injection ha with ha
      subst ha
      have hk2 := (List.getElem?_eq_some_iff.1 hk).1
      rw [List.getElem?_take] at hk
      split at hk
      · have := hce k u hk
        rw [addr_add, Nat.zero_add, World.cell?_of_block (w := w) (a := ⟨g, k, none⟩) (Below.heap_alloc w (.cells #[] e) g hlt)]; exact this
      · cases hk)
    (fun _ h => by cases h) (fun u hu => h1 u (List.mem_of_mem_take hu)) (by unfold maxLen; omega) (by rw [Nat.mul_comm]; omega) (by simp)
  have hgb : w2.heap[g]? = w.heap[g]? := (hg2.block g (by simp; omega) (fun e => by
    have e : some g = some w.heap.size := e
    injection e with e; omega)).trans (Below.heap_alloc w _ g hlt)
  have hsz2 : w.heap.size + 1 ≤ w2.heap.size := by have := hg2.size; simpa using this
  have hbl : bytes * (j + (len - (j + 1))) ≤ 1000 * 1000 := Nat.mul_le_mul hb (by omega)
  obtain ⟨v3, w3, hr3, ho3, hg3, hv3⟩ := append_runQ (ty := ty2) ht hi hz hsize hby hzs hsz ho2 (A := A2) (m := len - (j + 1)) (c := c2) (news := xs.drop ((j + 1) * size)) (by rw [List.length_drop, hxl, Nat.sub_mul])
    (fun a ha k u hk => by
      rw [List.getElem?_drop] at hk
      have hk2 := (List.getElem?_eq_some_iff.1 hk).1
      have hlt2 : j + 1 < len := by
        rcases Nat.lt_or_ge (j + 1) len with h | h
        · exact h
        · have := Nat.mul_le_mul_right size h
          omega
      rw [hA2 hlt2] at ha
      injection ha with ha
      subst ha
      have := hce _ u hk
      rw [addr_add, World.cell?_of_block (w := w) (w' := w2) (a := ⟨g, (j + 1) * size + k, none⟩) hgb]
      exact this)
    (fun h => by rw [hA2 (by omega)]; simp) (fun u hu => h1 u (List.mem_of_mem_drop hu)) (by unfold maxLen; omega) (by rw [Nat.zero_add, Nat.mul_comm]; omega) (by omega)
  refine ⟨v2, w2, v3, w3, hr2, hr3, ?_, ?_⟩
  · rw [show len - 1 = 0 + j + (len - (j + 1)) by omega]
    simpa using ho3
  · have b1 : Below w.heap.size w w2 := ((Below.refl _ _).alloc (Nat.le_refl _) _).grown hg2 (by simp) (fun k hk => by
      have hk : some w.heap.size = some k := hk
      injection hk with hk; omega)
    exact b1.grown hg3 (by omega) (fun k hk => (ho2.lt k hk).1)
/-- An append in a region that draws its order, where its run is known. -/
theorem step_append_runQ {P : Program} {ops : Array Oper} {o : Oper} {a : Act} {w : World} {K : Act → World → Prop} {Q : Exit → Act → World → Prop} {E : Prop} (hgd : o.guard = none) (d s : Operand) (t t' : TypeId)
    (ho : o.op = .call { callee := .builtin .append, args := #[d, s], argTypes := #[t, t'] }) (v u : Value) (hd : a.eval d = v) (hs : a.eval s = u) {v' : Value} {w' : World}
    (hr : (Builtin.append_ #[t, t'] o.type #[v, u]).run P w = .ok v' w') (h : K (a.put o.dst v') w') : if Region.wanted o (yielded ops a.tmps) = true then Oper.wp P o a w K Q else E := by
  have hw : Region.wanted o (yielded ops a.tmps) = true := by simp [Region.wanted, hgd]
  rw [if_pos hw]
  unfold Oper.wp execOp
  simp only [ho, resolve, invoke, builtin, Sem.run_bind, Sem.run_pure, Result.andThen_ok, List.map_toArray, List.map_cons, List.map_nil, hd, hs, hr]
  exact h
end Go.Proofs.Ytacadgocoleaoaa

/- Operations under way, in memory; the law's 'free'. -/
namespace Go.Proofs.Ytacadgocoleaoaa
open Go.ChangeShapes Go.WideShapes Go.RowKit Go.Deep
set_option linter.unusedVariables false

def cellsU : List (Nat × OpS) → List Value
  | [] => []
  | x :: r => .pointer (some ⟨x.1, 0, none⟩) :: .int .i64 ((x.2.kind : Int) - 1) :: cellsU r
theorem cellsU_len (l : List (Nat × OpS)) : (cellsU l).length = l.length * 2 := by
  induction l with
  | nil => rfl
  | cons x r ih => simp [cellsU, ih]; omega
theorem cellsU_append (a b : List (Nat × OpS)) : cellsU (a ++ b) = cellsU a ++ cellsU b := by
  induction a with
  | nil => rfl
  | cons x r ih => simp [cellsU, ih]
theorem cellsU_at {l : List (Nat × OpS)} {i : Nat} {x : Nat × OpS} (h : l[i]? = some x) : (cellsU l)[i * 2]? = some (.pointer (some ⟨x.1, 0, none⟩)) ∧ (cellsU l)[i * 2 + 1]? = some (.int .i64 ((x.2.kind : Int) - 1)) := by
  induction l generalizing i with
  | nil => cases h
  | cons a r ih =>
    cases i with
    | zero =>
      obtain rfl := Option.some.inj h
      exact ⟨rfl, rfl⟩
    | succ i =>
      have := ih (i := i) (by simpa using h)
      rw [show (i + 1) * 2 = i * 2 + 1 + 1 by omega]
      simpa [cellsU] using this
theorem cellsU_one {l : List (Nat × OpS)} {v : Value} (h : v ∈ cellsU l) : v.oneCell' = true := by
  induction l with
  | nil => cases h
  | cons a r ih =>
    simp only [cellsU, List.mem_cons] at h
    rcases h with rfl | rfl | h
    · rfl
    · rfl
    · exact ih h
theorem cellsU_take (l : List (Nat × OpS)) (n : Nat) : cellsU (l.take n) = (cellsU l).take (n * 2) := by
  induction l generalizing n with
  | nil => simp [cellsU]
  | cons a r ih =>
    cases n with
    | zero => simp [cellsU]
    | succ n => rw [List.take_succ_cons, show (n + 1) * 2 = n * 2 + 1 + 1 by omega]; simp [cellsU, ih]
theorem cellsU_drop (l : List (Nat × OpS)) (n : Nat) : cellsU (l.drop n) = (cellsU l).drop (n * 2) := by
  induction l generalizing n with
  | nil => simp [cellsU]
  | cons a r ih =>
    cases n with
    | zero => simp [cellsU]
    | succ n => rw [List.drop_succ_cons, show (n + 1) * 2 = n * 2 + 1 + 1 by omega]; simp [cellsU, ih]
theorem cellsU_erase (l : List (Nat × OpS)) (n : Nat) : cellsU (l.eraseIdx n) = (cellsU l).take (n * 2) ++ (cellsU l).drop ((n + 1) * 2) := by
  rw [List.eraseIdx_eq_take_drop_succ, cellsU_append, cellsU_take, cellsU_drop]
/-- Cells stay when an operation goes on. -/
theorem cellsU_set {l : List (Nat × OpS)} {n : Nat} {x y : Nat × OpS} (h : l[n]? = some x) (h1 : y.1 = x.1) (h2 : y.2.kind = x.2.kind) : cellsU (l.set n y) = cellsU l := by
  induction l generalizing n with
  | nil => cases h
  | cons a r ih =>
    cases n with
    | zero =>
      obtain rfl := Option.some.inj h
      simp [cellsU, h1, h2]
    | succ n => simp [cellsU, ih (n := n) (by simpa using h)]
/-- A row of structs of k cells, at one of them. -/
theorem own_elem {w : World} {K n k : Nat} {e : TypeId} {v : Value} {xs : List Value} (h : w.ownsRow K e k v n xs) (hk : 0 < k) {i : Nat} (hi : i < n) : ∃ g cap, v = .slice (some ⟨g, 0, none⟩) n cap ∧ ∀ j, j < k → w.cell? ⟨g, i * k + j, none⟩ = xs[i * k + j]? := by
  obtain ⟨g, cap, rfl, -, -⟩ := h.form (by omega)
  refine ⟨g, cap, rfl, fun j hj => h.cellAt (i * k + j) ?_⟩
  have : (i + 1) * k ≤ n * k := Nat.mul_le_mul_right k hi
  rw [Nat.add_mul] at this
  omega
def FreeB (l : List (Nat × OpS)) : Bool := l.all fun x => decide (x.2.kind = 3)
theorem freeB_iff (l : List (Nat × OpS)) : FreeB l = true ↔ FreeL (l.map Prod.snd) := by
  unfold FreeB FreeL
  rw [List.all_eq_true]
  simp
  exact ⟨fun h o x hm => h x o hm, fun h a b hm => h b a hm⟩
set_option maxHeartbeats 1000000 in
theorem free_any {w : World} {K : Nat} {v : Value} {l : List (Nat × OpS)} (hown : w.ownsRow K 54 2 v l.length (cellsU l)) (hl : l.length ≤ 1000) : Calls Try.prog 16 #[v] w fun e w' => e = .returned (.bool (FreeB l)) ∧ w' = w := by
  obtain ⟨A, c, rfl⟩ := own_sliceL hown
  have HOWN := Lib.hid hown
  have hln : (l.length : Int) ≤ 1000 := by omega
  obtain ⟨n, hn⟩ : ∃ n, l.length = n := ⟨_, rfl⟩
  rw [hn] at hln HOWN
  rw [hn]
  have HN := Lib.hid hn
  clear hown hl hn
  go_enter Try.func16, Try.ntmps16
  go_wp2_with fail
  go_loopw [3] (fun i wr => ∃ j : Nat, i = .int .i64 (j : Int) ∧ j ≤ n ∧ Hid (FreeB (l.take j) = true) ∧ wr = w) (fun i _ => n - (intOf i).toNat)
  case atStart => exact ⟨0, rfl, Nat.zero_le _, Lib.hid (by simp [FreeB]), rfl⟩
  case round =>
    obtain ⟨j, rfl, hjn, hF, rfl⟩ := hrel
    by_cases hj : j < n
    · obtain ⟨x, hx⟩ : ∃ x, l[j]? = some x := ⟨l[j]'(by have := HN.out; omega), List.getElem?_eq_getElem _⟩
      obtain ⟨g, cap, hA, hcs⟩ := own_elem HOWN.out (by omega) hj
      injection hA with hA1 hA2 hA3
      subst hA1 hA3
      have hc1 := hcs 1 (by omega)
      rw [(cellsU_at hx).2] at hc1
      have hji : (j : Int) < n := by omega
      clear hcs hA2
      by_cases hk : x.2.kind = 3
      · have d1 : (((x.2.kind : Int) - 1) != 2) = false := by rw [hk]; rfl
        have HS : Hid (FreeB (l.take (j + 1)) = true) := Lib.hid (by
          have := hF.out
          unfold FreeB at *
          rw [List.take_add_one, hx, List.all_append, this]
          simp [hk])
        clear hk hx
        go_wp2_with fail
        go_roundw
        case rel => exact ⟨j + 1, by go_num, hj, HS, trivial⟩
        case measure => simp [intOf]; omega
      · have d1 : (((x.2.kind : Int) - 1) != 2) = true := by simp; omega
        have HE : Hid (FreeB l = false) := Lib.hid (by
          unfold FreeB
          rw [List.all_eq_false]
          exact ⟨x, List.mem_of_getElem? hx, by simpa using hk⟩)
        clear hk hx
        go_wp2_with fail
        go_ret
        exact ⟨by rw [HE.out]; rfl, rfl⟩
    · have HE : Hid (FreeB l = true) := Lib.hid (by have := hF.out; rwa [List.take_of_length_le (by have := HN.out; omega)] at this)
      have hji : ¬ (j : Int) < n := by omega
      clear hj hjn
      go_wp2_with fail
      go_ret
      exact ⟨by rw [HE.out]; rfl, rfl⟩
end Go.Proofs.Ytacadgocoleaoaa

/- A region that draws its order, whose last operation waits for all others: the others first, in whatever order, with a condition on the world that need not hold behind the last one. Over any program. -/
namespace Go.Proofs.Ytacadgocoleaoaa
open Go
set_option linter.unusedVariables false

section
variable {P : Program} {ops : Array Oper} {Q : Exit → Act → World → Prop} {md : Region.Mode} {S : World → Prop}

/-- Edges lead to what stands ahead in the text. -/
def downB (md : Region.Mode) (ops : Array Oper) : Bool :=
  (List.range ops.size).all fun i => ((ops[i]?).map fun o => o.after.all fun e => !Region.binds md e || decide (e.on < i)).getD true
/-- Each but number L is waited for by one behind it. -/
def feedsB (md : Region.Mode) (ops : Array Oper) (L : Nat) : Bool :=
  (List.range L).all fun i => (List.range (L + 1)).any fun j => decide (i < j) && ((ops[j]?).map fun o => o.after.any fun e => Region.binds md e && decide (e.on = i)).getD false

theorem downB_spec (h : downB md ops = true) {i : Nat} {o : Oper} (ho : ops[i]? = some o) : ∀ e ∈ o.after, Region.binds md e = true → e.on < i := by
  intro e he hb
  unfold downB at h
  have hi : i < ops.size := (Array.getElem?_eq_some_iff.1 ho).1
  have h1 := List.all_eq_true.1 h i (List.mem_range.2 hi)
  rw [ho] at h1
  simp only [Option.map_some, Option.getD_some, Array.all_eq_true_iff_forall_mem] at h1
  have h2 := h1 e he
  simpa [hb] using h2
theorem feedsB_spec {L : Nat} (h : feedsB md ops L = true) {i : Nat} (hi : i < L) : ∃ j o e, i < j ∧ j ≤ L ∧ ops[j]? = some o ∧ e ∈ o.after ∧ Region.binds md e = true ∧ e.on = i := by
  unfold feedsB at h
  have h1 := List.all_eq_true.1 h i (List.mem_range.2 hi)
  obtain ⟨j, hj, h2⟩ := List.any_eq_true.1 h1
  rw [Bool.and_eq_true] at h2
  obtain ⟨h3, h4⟩ := h2
  cases ho : ops[j]? with
  | none => rw [ho] at h4; simp at h4
  | some o =>
    rw [ho] at h4
    simp only [Option.map_some, Option.getD_some, Array.any_eq_true'] at h4
    obtain ⟨e, he, hb⟩ := h4
    rw [Bool.and_eq_true] at hb
    exact ⟨j, o, e, of_decide_eq_true h3, by have := List.mem_range.1 hj; omega, ho, he, hb.1, of_decide_eq_true hb.2⟩

/-- What has come up had all that it waits for. -/
def Closed (md : Region.Mode) (ops : Array Oper) (listed : Array Bool) : Prop :=
  ∀ i o, ops[i]? = some o → listed.getD i true = true → ∀ e ∈ o.after, Region.binds md e = true → listed.getD e.on false = true

theorem getD_two {l : Array Bool} {i : Nat} (h : i < l.size) (a b : Bool) : l.getD i a = l.getD i b := by
  simp [Array.getD, h]
theorem getD_set_self {l : Array Bool} {i : Nat} (h : i < l.size) (d : Bool) : (l.setIfInBounds i true).getD i d = true := by
  simp [Array.getD, h]

theorem Closed.set {listed : Array Bool} (hc : Closed md ops listed) (hs : listed.size = ops.size) {i : Nat} (hi : i ∈ Region.ready md ops listed) : Closed md ops (listed.setIfInBounds i true) := by
  intro j o ho hj e he hb
  by_cases hji : j = i
  · subst hji
    obtain ⟨_, o', ho', hall⟩ := mem_ready.1 hi
    rw [ho] at ho'
    cases ho'
    exact getD_set_true (hall e he hb)
  · rw [getD_set_ne true (Ne.symm hji)] at hj
    exact getD_set_true (hc j o ho hj e he hb)

/-- When the last one may come up, all others have. -/
theorem all_of_last {L : Nat} {listed : Array Bool} (hsz : ops.size = L + 1) (hs : listed.size = ops.size) (hf : feedsB md ops L = true) (hc : Closed md ops listed) (hL : L ∈ Region.ready md ops listed) : ∀ i, i < L → listed.getD i true = true := by
  have key : ∀ n i, L - i ≤ n → i < L → listed.getD i true = true := by
    intro n
    induction n with
    | zero => intro i h1 h2; omega
    | succ n ih =>
      intro i h1 h2
      obtain ⟨j, o, e, hij, hjL, ho, he, hb, hei⟩ := feedsB_spec hf h2
      have h3 : listed.getD e.on false = true := by
        by_cases hj : j = L
        · subst hj
          obtain ⟨_, o', ho', hall⟩ := mem_ready.1 hL
          rw [ho] at ho'
          cases ho'
          exact hall e he hb
        · exact hc j o ho (ih j (by omega) (by omega)) e he hb
      rw [hei] at h3
      rw [getD_two (by omega) true false]
      exact h3
  exact fun i hi => key (L - i) i (Nat.le_refl _) hi
/-- While the last one has not come up, one may. -/
theorem ready_some {L : Nat} {listed : Array Bool} (hsz : ops.size = L + 1) (hs : listed.size = ops.size) (hd : downB md ops = true) (hL : listed.getD L true = false) : Region.ready md ops listed ≠ [] := by
  have key : ∀ n i, i ≤ n → i ≤ L → listed.getD i true = false → ∃ k, k ∈ Region.ready md ops listed := by
    intro n
    induction n with
    | zero =>
      intro i h1 h2 h3
      obtain rfl : i = 0 := by omega
      have ho : ops[0]? = some ops[0] := Array.getElem?_eq_getElem (by omega)
      exact ⟨0, mem_ready.2 ⟨h3, _, ho, fun e he hb => absurd (downB_spec hd ho e he hb) (by omega)⟩⟩
    | succ n ih =>
      intro i h1 h2 h3
      have ho : ops[i]? = some ops[i] := Array.getElem?_eq_getElem (by omega)
      by_cases hall : ∀ e ∈ ops[i].after, Region.binds md e = true → listed.getD e.on false = true
      · exact ⟨i, mem_ready.2 ⟨h3, _, ho, hall⟩⟩
      · simp only [Classical.not_forall] at hall
        obtain ⟨e, he, hb, hno⟩ := hall
        have hlt := downB_spec hd ho e he hb
        refine ih e.on (by omega) (by omega) ?_
        rw [getD_two (by omega) true false]
        simpa using hno
  obtain ⟨k, hk⟩ := key L L (Nat.le_refl _) (Nat.le_refl _) hL
  intro h0
  rw [h0] at hk
  cases hk

/-- The post behind all but the last: the last one's turn. -/
def LastQ (P : Program) (ops : Array Oper) (Q : Exit → Act → World → Prop) (L : Nat) : Exit → Act → World → Prop
  | .normal, a, w => wpOp P ops Q L (Q .normal) a w
  | e, a, w => Q e a w

theorem upon_last {L : Nat} {o : Oper} {a : Act} {K : Act → World → Prop} {r : Result Next} (h : o.upon P a K (LastQ P ops Q L) r) : o.upon P a K Q r := by
  cases r with
  | ok n w' =>
    cases n <;> simp only [Oper.upon] at h ⊢ <;> exact h
  | halt x w' => cases x <;> simp only [Oper.upon] at h ⊢ <;> exact h
theorem wpOp_last {L i : Nat} {K : Act → World → Prop} {a : Act} {w : World} (h : wpOp P ops (LastQ P ops Q L) i K a w) : wpOp P ops Q i K a w := by
  unfold wpOp at *
  split
  · rename_i ho; simp only [ho] at h; exact h
  · rename_i o ho
    simp only [ho] at h
    split
    · rename_i hw; simp only [hw, if_true] at h; exact h.imp (fun h => by unfold Oper.wp at *; exact upon_last h) (fun h => ⟨h.1, h.2⟩)
    · rename_i hw; simp only [hw] at h; exact h

theorem wpAny_last {L : Nat} (hsz : ops.size = L + 1) (hd : downB md ops = true) (hf : feedsB md ops L = true) :
    ∀ (fuel : Nat) (listed : Array Bool) (a : Act) (w : World), listed.size = ops.size → Closed md ops listed → listed.getD L true = false →
      wpAnyH P md ops (LastQ P ops Q L) S fuel (listed.setIfInBounds L true) a w → wpAny P md ops Q (fuel + 1) listed a w := by
  intro fuel
  induction fuel with
  | zero =>
    intro listed a w hs hc hL H
    refine ⟨fun h0 => absurd h0 (ready_some hsz hs hd hL), fun i hi => ?_⟩
    by_cases hiL : i = L
    · subst hiL
      exact wpOp_mono (fun a' w' h' => ⟨H.1, h'⟩) (show wpOp P ops Q i (Q .normal) a w from H.2)
    · have := ready_mono hi hiL
      rw [H.1] at this
      cases this
  | succ fuel ih =>
    intro listed a w hs hc hL H
    refine ⟨fun h0 => absurd h0 (ready_some hsz hs hd hL), fun i hi => ?_⟩
    by_cases hiL : i = L
    · subst hiL
      have hall := all_of_last hsz hs hf hc hi
      have hr : Region.ready md ops (listed.setIfInBounds i true) = [] := by
        rw [List.eq_nil_iff_forall_not_mem]
        intro k hk
        obtain ⟨h0, o, ho, _⟩ := mem_ready.1 hk
        have hkl : k < ops.size := (Array.getElem?_eq_some_iff.1 ho).1
        by_cases hki : k = i
        · subst hki
          rw [getD_set_self (by omega)] at h0
          cases h0
        · rw [getD_set_ne true (Ne.symm hki), hall k (by omega)] at h0
          cases h0
      exact wpOp_mono (fun a' w' h' => wpAny_done hr h' _) (show wpOp P ops Q i (Q .normal) a w from H.1 hr)
    · have h1 := wpOp_last (H.2 i (ready_mono hi hiL))
      refine wpOp_mono (fun a' w' h' => ih (listed.setIfInBounds i true) a' w' (by simpa using hs) (hc.set hs hi) ?_ ?_) h1
      · rw [getD_set_ne true hiL]; exact hL
      · rw [Array.setIfInBounds_comm _ _ hiL]; exact h'.2

/-- THE LAW. -/
theorem wp_region_last {id L : Nat} {a : Act} {w : World} (hm : P.follows .mixedOrders = true) (hsz : ops.size = L + 1) (hd : downB .any ops = true) (hf : feedsB .any ops L = true)
    (h : wpAnyH P .any ops (LastQ P ops Q L) S L ((Array.replicate ops.size false).setIfInBounds L true) a { w with drawn := w.drawn + 1 }) : (Code.region id ops true).wp P Q a w := by
  refine wp_region_any hm ?_
  have h2 := wpAny_last (md := .any) (Q := Q) (S := S) hsz hd hf L (Array.replicate ops.size false) a { w with drawn := w.drawn + 1 } (by simp) (fun i o ho hi => ?_) (by simp [Array.getD, hsz]) h
  · rwa [← hsz] at h2
  · have hlt := (Array.getElem?_eq_some_iff.1 ho).1
    simp [Array.getD, hlt] at hi

/-- Take number i first: what it writes to is said by the caller. -/
theorem takeH {i : Nat} (d : Option Tmp) {v : Value} {fuel : Nat} {listed : Array Bool} {a : Act} {w : World} (hd : (ops[i]?).map (·.dst) = some d)
    (hs : Region.noSelect ops = true) (hf : Region.free md ops listed i = true) (hr : (Region.ready md ops listed).contains i = true)
    (hQ : ∀ c a w, Q (.panic c) (a.put d v) w → Q (.panic c) a w) (hS : S w) (hy : ∀ o, ops[i]? = some o → YieldsIf P ops S o v a)
    (h : wpAnyH P md ops Q S fuel (listed.setIfInBounds i true) (a.put d v) w) : wpAnyH P md ops Q S (fuel + 1) listed a w := by
  cases ho : ops[i]? with
  | none => rw [ho] at hd; cases hd
  | some o =>
    rw [ho] at hd
    obtain rfl := Option.some.inj hd
    exact wpAnyH_take ho hs hf hr hQ (hy o ho) hS h
/-- Number i alone may come up. -/
theorem oneH {i : Nat} {fuel : Nat} {listed : Array Bool} {a : Act} {w : World} (hr : Region.ready md ops listed = [i])
    (h : ∀ o, ops[i]? = some o → ∀ K : Act → World → Prop, RowKit.Hid (∀ a' w', S w' → wpAnyH P md ops Q S fuel (listed.setIfInBounds i true) a' w' → K a' w') → if Region.wanted o (yielded ops a.tmps) = true then Oper.wp P o a w K Q else K (a.put o.dst undef) w) :
    wpAnyH P md ops Q S (fuel + 1) listed a w := by
  refine wpAnyH_all hr (by simp) fun k hk => ?_
  obtain rfl := List.mem_singleton.1 hk
  unfold wpOp
  split
  · rename_i ho
    have : k ∈ Region.ready md ops listed := by rw [hr]; simp
    obtain ⟨_, o, ho', _⟩ := mem_ready.1 this
    rw [ho] at ho'; cases ho'
  · rename_i o ho
    have := h o ho (fun a' w' => S w' ∧ wpAnyH P md ops Q S fuel (listed.setIfInBounds k true) a' w') (Lib.hid (fun a' w' h1 h2 => ⟨h1, h2⟩))
    split
    · rename_i hw; rw [if_pos hw] at this; exact .inl this
    · rename_i hw; rw [if_neg hw] at this; exact this
/-- The last one. -/
theorem lastH {L : Nat} {a : Act} {w : World} (hL : L < ops.size)
    (h : ∀ o, ops[L]? = some o → ∀ K : Act → World → Prop, RowKit.Hid (∀ a' w', Q .normal a' w' → K a' w') → if Region.wanted o (yielded ops a.tmps) = true then Oper.wp P o a w K Q else K (a.put o.dst undef) w) : LastQ P ops Q L .normal a w := by
  show wpOp P ops Q L (Q .normal) a w
  have ho : ops[L]? = some ops[L] := Array.getElem?_eq_getElem hL
  have := h _ ho (Q .normal) (Lib.hid (fun a' w' h1 => h1))
  unfold wpOp
  simp only [ho]
  split
  · rename_i hw; rw [if_pos hw] at this; exact .inl this
  · rename_i hw; rw [if_neg hw] at this; exact this
end
end Go.Proofs.Ytacadgocoleaoaa

/- The law's 'begin'; 'without' (under way). -/
namespace Go.Proofs.Ytacadgocoleaoaa
open Go.ChangeShapes Go.WideShapes Go.RowKit Go.Deep
set_option linter.unusedVariables false

section
variable {w : World} {D : Nat} {s : DqS}
theorem begin_steal (D : Nat) (v : Int) (w : World) : Calls Try.prog 17 #[.pointer (some ⟨D, 0, none⟩), .int .i64 2, .int .i64 v] w fun e w' => e = .returned (.pointer (some ⟨w.heap.size, 0, none⟩)) ∧
    OpB w' w.heap.size D (opB 3 0) ∧ Below w.heap.size w w' := by
  go_enter Try.func17, Try.ntmps17
  go_wp2_with fail
  refine (steal_any D w).mono ?_
  rintro e w1 ⟨rfl, h1, h2⟩
  have H1 := Lib.hid h1
  have H2 := Lib.hid h2
  clear h1 h2
  go_wp2_with fail
  go_ret
  exact ⟨rfl, H1.out, H2.out⟩
theorem begin_push (v : Int) (hd : DeqB w D s (ovV none)) : Calls Try.prog 17 #[.pointer (some ⟨D, 0, none⟩), .int .i64 0, .int .i64 v] w fun e w' => e = .returned (.pointer (some ⟨w.heap.size, 0, none⟩)) ∧
    DeqB w' D s (ovV (some w.heap.size)) ∧ OpB w' w.heap.size D (opB 1 v) ∧ FrX (fun y => y = D) w w' := by
  have HD := Lib.hid hd
  clear hd
  go_enter Try.func17, Try.ntmps17
  go_wp2_with fail
  refine (push_yes v HD.out).mono ?_
  rintro e w1 ⟨rfl, h1⟩
  have H1 := Lib.hid h1
  clear h1
  go_wp2_with fail
  go_ret
  exact ⟨rfl, H1.out⟩
theorem begin_pop (v : Int) (hd : DeqB w D s (ovV none)) : Calls Try.prog 17 #[.pointer (some ⟨D, 0, none⟩), .int .i64 1, .int .i64 v] w fun e w' => e = .returned (.pointer (some ⟨w.heap.size, 0, none⟩)) ∧
    DeqB w' D s (ovV (some w.heap.size)) ∧ OpB w' w.heap.size D (opB 2 0) ∧ FrX (fun y => y = D) w w' := by
  have HD := Lib.hid hd
  clear hd
  go_enter Try.func17, Try.ntmps17
  go_wp2_with fail
  refine (pop_yes HD.out).mono ?_
  rintro e w1 ⟨rfl, h1⟩
  have H1 := Lib.hid h1
  clear h1
  go_wp2_with fail
  go_ret
  exact ⟨rfl, H1.out⟩
end
theorem erase_at {l : List Int} {x : Int} {j : Nat} (hj : l[j]? = some x) (hn : x ∉ l.take j) : l.erase x = l.take j ++ l.drop (j + 1) := by
  obtain ⟨hlt, rfl⟩ := List.getElem?_eq_some_iff.1 hj
  have e : l = l.take j ++ l[j] :: l.drop (j + 1) := by rw [List.getElem_cons_drop, List.take_append_drop]
  generalize l[j] = x at *
  conv => lhs; rw [e, List.erase_append_right _ hn, List.erase_cons_head]
set_option maxRecDepth 100000 in
set_option maxHeartbeats 2000000 in
theorem without_any {w : World} {K : Nat} {v : Value} {l : List Int} {x : Int} (hown : w.ownsRow K 3 1 v l.length (intsQ l)) (hl : l.length ≤ 1000) (hx : x ∈ l) : Calls Try.prog 18 #[v, .int .i64 x] w fun e w' =>
    ∃ v', e = .returned (.tuple #[v', .bool true]) ∧ w'.ownsRow w.heap.size 3 1 v' (l.erase x).length (intsQ (l.erase x)) ∧ Below w.heap.size w w' := by
  obtain ⟨A, c, rfl⟩ := own_sliceL hown
  have HOWN := Lib.hid hown
  have hln : (l.length : Int) ≤ 1000 := by omega
  obtain ⟨i0, hi, hz0, hz1, hz2⟩ := info_parts Try.info3
  have HI := Lib.hid (And.intro hi (And.intro hz0 (And.intro hz1 hz2)))
  clear hi hz0 hz1 hz2
  obtain ⟨n, hn⟩ : ∃ n, l.length = n := ⟨_, rfl⟩
  rw [hn] at hln HOWN
  rw [hn]
  have HN := Lib.hid hn
  have HX := Lib.hid hx
  clear hown hl hn hx
  go_enter Try.func18, Try.ntmps18
  go_wp2_with fail
  go_loopw [6] (fun i wr => ∃ j : Nat, i = .int .i64 (j : Int) ∧ Hid (x ∉ l.take j) ∧ j ≤ n ∧ wr = w) (fun i _ => n - (intOf i).toNat)
  case atStart => exact ⟨0, rfl, Lib.hid (by simp), Nat.zero_le _, rfl⟩
  case round =>
    obtain ⟨j, rfl, hT, hjn, rfl⟩ := hrel
    have hj : j < n := by
      rcases Nat.lt_or_ge j n with h | h
      · exact h
      · have := hT.out
        rw [List.take_of_length_le (by have := HN.out; omega)] at this
        exact absurd HX.out this
    obtain ⟨y, hy⟩ : ∃ y, l[j]? = some y := ⟨l[j]'(by have := HN.out; omega), List.getElem?_eq_getElem _⟩
    obtain ⟨g, cap, hA, hcs⟩ := own_elem HOWN.out (by omega) hj
    injection hA with hA1 hA2 hA3
    subst hA1 hA3
    have hc1 := hcs 0 (by omega)
    rw [show (intsQ l)[j * 1 + 0]? = some (.int .i64 y) by unfold intsQ; rw [Nat.mul_one, Nat.add_zero, List.getElem?_map, hy]; rfl] at hc1
    rw [Nat.mul_one, Nat.add_zero] at hc1
    have hji : (j : Int) < n := by omega
    have HY := Lib.hid hy
    clear hcs hA2 hy
    by_cases hk : y = x
    · subst hk
      have d1 : (y == y) = true := by simp
      have hnc : n ≤ c := by
        rcases HOWN.out.2 with ⟨e, e2⟩ | ⟨g', cap', cur', e, -, -, h3, -⟩
        · omega
        · injection e with _ _ e3
          omega
      have hjc : j ≤ c := by omega
      have hwr : IntKind.i64.wrap ((j : Int) + 1) = (j : Int) + 1 := by rw [IntWalk.i64_left]; exact IntWalk.wrap64_in _ (by omega)
      have hwn : 0 ≤ (j : Int) + 1 ∧ (j : Int) + 1 ≤ (n : Int) := by omega
      have hwt : ((j : Int) + 1).toNat = j + 1 := by omega
      obtain ⟨v2, w2, v3, w3, HC1, HC2, HO3, HB3⟩ := cut_runs (w := wr.drew) (ty1 := 46) (ty2 := 46) Try.underlying46 HI.out.1 HI.out.2.1 HI.out.2.2.1 HI.out.2.2.2 rfl (by decide) HOWN.out (by unfold intsQ; rw [List.length_map, HN.out, Nat.mul_one]) (fun u hu => by
        unfold intsQ at hu
        obtain ⟨q, -, rfl⟩ := List.mem_map.1 hu
        rfl) hj (by omega) (by decide) (A2 := if c = j + 1 then some ⟨g, 0, none⟩ else some ⟨g, j + 1, none⟩) (fun h => by rw [if_neg (by omega), Nat.mul_one]) (c - (j + 1))
      have HC1 := Lib.hid HC1
      have HC2 := Lib.hid HC2
      have HEQ : l.erase y = l.take j ++ l.drop (j + 1) := erase_at HY.out hT.out
      have HO3 : w3.ownsRow wr.heap.size 3 1 v3 (l.erase y).length (intsQ (l.erase y)) := by
        have e1 : (l.erase y).length = n - 1 := by rw [List.length_erase_of_mem HX.out, HN.out]
        have e2 : intsQ (l.erase y) = (intsQ l).take (j * 1) ++ (intsQ l).drop ((j + 1) * 1) := by
          rw [HEQ]; unfold intsQ; rw [List.map_append, List.map_take, List.map_drop, Nat.mul_one, Nat.mul_one]
        rw [e1, e2]; exact HO3
      have HO3 := Lib.hid HO3
      have HB3 := Lib.hid HB3
      clear hnc
      clear HEQ
      go_upto_region 5 with fail
      refine wp_region_last (L := 11) (S := fun _ => True) (by kernel_rfl) (by kernel_rfl) (by kernel_rfl) (by kernel_rfl) ?_
      change wpAnyH _ _ _ _ _ _ _ _ (World.drew _)
      refine takeH (i := 1) (some 20) (v := ?_) rfl (by kernel_rfl) (by kernel_rfl) (by kernel_rfl) (fun _ _ _ h => h) trivial (fun o ho => ?_) ?_
      rotate_left
      · simp only [List.getElem?_toArray, List.getElem?_cons_zero, List.getElem?_cons_succ, Option.some.injEq] at ho; subst ho; refine Or.inl ⟨by rfl, fun w' hSw => ?_⟩; go_simp; try with_reducible rfl
      simp only [Act.put, List.setIfInBounds_toArray, List.set_cons_zero, List.set_cons_succ]
      refine takeH (i := 2) (some 21) (v := ?_) rfl (by kernel_rfl) (by kernel_rfl) (by kernel_rfl) (fun _ _ _ h => h) trivial (fun o ho => ?_) ?_
      rotate_left
      · simp only [List.getElem?_toArray, List.getElem?_cons_zero, List.getElem?_cons_succ, Option.some.injEq] at ho; subst ho; refine Or.inl ⟨by rfl, fun w' hSw => ?_⟩; go_simp; try with_reducible rfl
      simp only [Act.put, List.setIfInBounds_toArray, List.set_cons_zero, List.set_cons_succ]
      refine takeH (i := 3) (some 22) (v := ?_) rfl (by kernel_rfl) (by kernel_rfl) (by kernel_rfl) (fun _ _ _ h => h) trivial (fun o ho => ?_) ?_
      rotate_left
      · simp only [List.getElem?_toArray, List.getElem?_cons_zero, List.getElem?_cons_succ, Option.some.injEq] at ho; subst ho; refine Or.inl ⟨by rfl, fun w' hSw => ?_⟩; go_simp; try with_reducible rfl
      simp only [Act.put, List.setIfInBounds_toArray, List.set_cons_zero, List.set_cons_succ]
      refine takeH (i := 5) (some 24) (v := ?_) rfl (by kernel_rfl) (by kernel_rfl) (by kernel_rfl) (fun _ _ _ h => h) trivial (fun o ho => ?_) ?_
      rotate_left
      · simp only [List.getElem?_toArray, List.getElem?_cons_zero, List.getElem?_cons_succ, Option.some.injEq] at ho; subst ho; refine Or.inl ⟨by rfl, fun w' hSw => ?_⟩; go_simp; try with_reducible rfl
      simp only [Act.put, List.setIfInBounds_toArray, List.set_cons_zero, List.set_cons_succ]
      refine takeH (i := 6) (some 25) (v := ?_) rfl (by kernel_rfl) (by kernel_rfl) (by kernel_rfl) (fun _ _ _ h => h) trivial (fun o ho => ?_) ?_
      rotate_left
      · simp only [List.getElem?_toArray, List.getElem?_cons_zero, List.getElem?_cons_succ, Option.some.injEq] at ho; subst ho; refine Or.inl ⟨by rfl, fun w' hSw => ?_⟩; go_simp; try with_reducible rfl
      simp only [Act.put, List.setIfInBounds_toArray, List.set_cons_zero, List.set_cons_succ]
      refine takeH (i := 7) (some 26) (v := ?_) rfl (by kernel_rfl) (by kernel_rfl) (by kernel_rfl) (fun _ _ _ h => h) trivial (fun o ho => ?_) ?_
      rotate_left
      · simp only [List.getElem?_toArray, List.getElem?_cons_zero, List.getElem?_cons_succ, Option.some.injEq] at ho; subst ho; refine Or.inl ⟨by rfl, fun w' hSw => ?_⟩; go_simp; try with_reducible rfl
      simp only [Act.put, List.setIfInBounds_toArray, List.set_cons_zero, List.set_cons_succ]
      refine takeH (i := 8) (some 27) (v := ?_) rfl (by kernel_rfl) (by kernel_rfl) (by kernel_rfl) (fun _ _ _ h => h) trivial (fun o ho => ?_) ?_
      rotate_left
      · simp only [List.getElem?_toArray, List.getElem?_cons_zero, List.getElem?_cons_succ, Option.some.injEq] at ho; subst ho; refine Or.inl ⟨by rfl, fun w' hSw => ?_⟩; go_simp; try with_reducible rfl
      simp only [Act.put, List.setIfInBounds_toArray, List.set_cons_zero, List.set_cons_succ]
      refine oneH (i := 0) (by kernel_rfl) (fun o ho K hK => ?_)
      simp only [List.getElem?_toArray, List.getElem?_cons_zero, Option.some.injEq] at ho; subst ho
      go_simp
      refine hK.out _ _ trivial ?_
      clear hK K
      refine oneH (i := 4) (by kernel_rfl) (fun o ho K hK => ?_)
      simp only [List.getElem?_toArray, List.getElem?_cons_zero, List.getElem?_cons_succ, Option.some.injEq] at ho; subst ho
      refine step_append_runQ rfl _ _ _ _ rfl _ _ rfl rfl HC1.out ?_
      refine hK.out _ _ trivial ?_
      clear hK K
      simp only [Act.put, List.setIfInBounds_toArray, List.set_cons_zero, List.set_cons_succ]
      refine oneH (i := 9) (by kernel_rfl) (fun o ho K hK => ?_)
      simp only [List.getElem?_toArray, List.getElem?_cons_zero, List.getElem?_cons_succ, Option.some.injEq] at ho; subst ho
      refine step_append_runQ rfl _ _ _ _ rfl _ _ rfl rfl HC2.out ?_
      refine hK.out _ _ trivial ?_
      clear hK K
      simp only [Act.put, List.setIfInBounds_toArray, List.set_cons_zero, List.set_cons_succ]
      refine oneH (i := 10) (by kernel_rfl) (fun o ho K hK => ?_)
      simp only [List.getElem?_toArray, List.getElem?_cons_zero, List.getElem?_cons_succ, Option.some.injEq] at ho; subst ho
      go_simp
      refine hK.out _ _ trivial ?_
      clear hK K
      refine wpAnyH_done (by kernel_rfl) ?_ _
      refine lastH (by decide) (fun o ho K hK => ?_)
      simp only [List.getElem?_toArray, List.getElem?_cons_zero, List.getElem?_cons_succ, Option.some.injEq] at ho; subst ho
      go_simp
      refine hK.out _ _ ?_
      clear hK K
      go_wp2_with fail
      all_goals go_ret2
      all_goals exact ⟨_, rfl, HO3.out, (Below.refl _ wr).drew.trans HB3.out⟩
    · have d1 : (y == x) = false := by simpa using hk
      have HS : Hid (x ∉ l.take (j + 1)) := Lib.hid (by
        rw [List.take_add_one, HY.out]
        intro h
        rcases List.mem_append.1 h with h | h
        · exact hT.out h
        · exact hk (List.mem_singleton.1 h).symm)
      clear hk
      go_wp2_with fail
      go_roundw
      case rel => exact ⟨j + 1, by go_num, HS, hj, trivial⟩
      case measure => simp [intOf]; omega
end Go.Proofs.Ytacadgocoleaoaa
