/- Put. -/
import Derived.Test.YtcjmhdneelmbhaaTbGJ
import Derived.Test.YtcjmhdneelmbhaaLastJ
import Derived.Deep.AppendLies
import Derived.LaidEql
import Derived.Test.YtcjmhdneelmbhaaTbTJ
import Derived.Laws.StructEq
namespace Go.Proofs.Ytcjmhdneelmbhaa
open Go.ChangeShapes Go.WideShapes Go.RowKit Go.Deep
set_option linter.unusedVariables false

section
variable {w : World} {K b g bm n : Nat} {U : Nat → Value} {ds : List (List VD)}
theorem drV_snoc (l : List VD) (x : VD) : cellsV (l ++ [x]) = cellsV l ++ [.int .i64 x.1, .int .i64 x.2] := cellsV_append l [x]
/-- A drawer has grown, and the map. -/
theorem tab_add {w7 w9 : World} {x : VD} {v' : Value} {d : Nat} {l : List VD} (h : TabM w K b g bm n U ds) (hd : d = drwV n x) (hl : l = ds.getD d []) (hx : IV x) (hm : mayV x = true) (hi : inV n ds x = false) (ht : totV ds < 4096)
    (hg : GroD w w7 (U d) v') (ho : w7.ownsRow K 69 2 v' (l.length + 1) (cellsV l ++ [.int .i64 x.1, .int .i64 x.2])) {u : World} (hu : u = (w7.setCell ⟨g, d, none⟩ v').drew) (hw9 : u.grownBy w9 (some bm)) (hz9 : w9.heap.size = u.heap.size)
    (hm9 : MpV w9 bm (totV ds + 1) n (addV n ds x)) :
    TabM w9 K b g bm n (updF U d v') (addV n ds x) ∧ FrX (TabX b g bm n U) w w9 ∧ ∀ y, TabX b g bm n (updF U d v') y → TabX b g bm n U y ∨ w.heap.size ≤ y := by
  have hdn : d < n := by rw [hd]; exact drwV_lt h.ok.n1
  have T2 := h.ok.add hm hi ht
  have hlt := fun y (hy : TabX b g bm n U y) => h.lt hy
  have hb : b < w.heap.size := (hlt b (.inl rfl)).2
  have hgl : g < w.heap.size := (hlt g (.inr (.inl rfl))).2
  have hbm : bm < w.heap.size := (hlt bm (.inr (.inr (.inl rfl)))).2
  have hne := h.ne
  have hown : ∀ y, (U d).ownBlock = some y → y ≠ b ∧ y ≠ g ∧ y ≠ bm := fun y => h.ap d y hdn
  have hov : ∀ y, v'.ownBlock = some y → y ≠ b ∧ y ≠ g ∧ y ≠ bm := fun y hy => by
    rcases hg.own y hy with e | e
    · exact hown y e
    · omega
  have hu1 : ∀ y, y ≠ g → u.heap[y]? = w7.heap[y]? := fun y hy => by rw [hu]; exact Below.heap_setCell _ _ _ _ hy
  have hus : u.heap.size = w7.heap.size := by rw [hu]; simp
  have h9 : ∀ y, y < w7.heap.size → y ≠ g → y ≠ bm → w9.heap[y]? = w7.heap[y]? := fun y hy h1 h2 => (hw9.block y (by omega) (fun e => h2 (by simpa using e))).trans (hu1 y h1)
  have hsz := hg.size
  have key : ∀ y, y < w.heap.size → y ≠ g → y ≠ bm → (U d).ownBlock ≠ some y → w9.heap[y]? = w.heap[y]? := fun y hy h1 h2 h3 => (h9 y (by omega) h1 h2).trans (hg.block y hy h3)
  refine ⟨⟨T2, fun e a y ha hy => ?_, (key b hb hne.1 hne.2.1 (fun e => (hown b e).1 rfl)).trans h.box, ?_, ?_, ?_, h.lo, hne, fun e y he hy => ?_⟩, ⟨?_, ?_, ?_, by omega, fun y hy hx => ?_⟩, fun y hy => ?_⟩
  · rw [addV_get h.ok] at ha
    by_cases e1 : e = drwV n x
    · rw [if_pos e1] at ha
      rw [← Option.some.inj ha] at hy
      rcases List.mem_append.1 hy with hy | hy
      · exact h.iv _ _ y (h.ok.here x) hy
      · rw [List.mem_singleton.1 hy]; exact hx
    · rw [if_neg e1] at ha
      exact h.iv e a y ha hy
  · have r1 : w7.rowIs g 59 n U := h.row.of_block (hg.block g hgl (fun e => (hown g e).2.1 rfl))
    have r2 := (r1.set d v').drew
    rw [← hu] at r2
    exact (r2.of_block (hw9.block g (by omega) (fun e => hne.2.2 (by simpa using e)))).congr fun i _ => rfl
  · have q1 := PoolD.gro (r := drV (l ++ [x])) h.pool hdn hg (by show w7.ownsRow K _ 2 v' (l ++ [x]).length (cellsV (l ++ [x])); rw [drV_snoc, List.length_append]; exact ho)
    have q2 : PoolD w9 K n (updF U d v') (updF (fun d => drV (ds.getD d [])) d (drV (l ++ [x]))) := ⟨fun i hi => by
      refine ownsRow_block (q1.own i hi) fun y hy => ?_
      have hyl := ((q1.own i hi).lt y hy).2
      have hyn : y ≠ b ∧ y ≠ g ∧ y ≠ bm := by
        by_cases e : i = d
        · rw [e, updF_here] at hy; exact hov y hy
        · rw [updF_else _ _ e] at hy; exact h.ap i y hi hy
      exact h9 y hyl hyn.2.1 hyn.2.2, q1.ap⟩
    refine q2.congr (fun _ _ => rfl) fun i hi => ?_
    rw [addV_getD h.ok]
    by_cases e : i = d
    · rw [e, updF_here, if_pos hd, ← hd, ← hl]
    · rw [updF_else _ _ e, if_neg (by rw [← hd]; exact e)]
  · rw [h.ok.tot_add]; exact hm9
  · by_cases e1 : e = d
    · rw [e1, updF_here] at hy; exact hov y hy
    · rw [updF_else _ _ e1] at hy; exact h.ap e y he hy
  · exact hw9.os.trans (by rw [hu]; exact hg.os)
  · exact hw9.tape.trans (by rw [hu]; exact hg.tape)
  · exact hw9.output.trans (by rw [hu]; exact hg.output)
  · exact key y hy (fun e => hx (.inr (.inl e))) (fun e => hx (.inr (.inr (.inl e)))) (fun e => hx (.inr (.inr (.inr ⟨d, hdn, e⟩))))
  · rcases hy with e | e | e | ⟨i, hi, e⟩
    · exact .inl (.inl e)
    · exact .inl (.inr (.inl e))
    · exact .inl (.inr (.inr (.inl e)))
    · by_cases e1 : i = d
      · rw [e1, updF_here] at e
        rcases hg.own y e with e2 | e2
        · exact .inl (.inr (.inr (.inr ⟨d, hdn, e2⟩)))
        · exact .inr e2
      · rw [updF_else _ _ e1] at e
        exact .inl (.inr (.inr (.inr ⟨i, hi, e⟩)))
theorem put_no (h : TabM w K b g bm n U ds) (k v : Int) (hm : mayV (k, v) = false) :
    Calls Try.prog 20 #[.pointer (some ⟨b, 0, none⟩), .int .i64 k, .int .i64 v] w fun e w' => e = .returned (.tuple #[.int .i64 0, .iface 57 (.int .i64 1)]) ∧ Below w.heap.size w w' := by
  have HM := Lib.hid hm
  clear h hm
  go_enter Try.func20, Try.ntmps20
  go_upto_region 2 with fail
  obtain ⟨w1, hw1, hs1, hk1, hb1, hc1, -⟩ := named w #[.int .i64 k, .int .i64 v] 69
  rw [← hw1]
  have c0 : w1.cell? ⟨w.heap.size, 0, none⟩ = some (.int .i64 k) := hc1 0 _ rfl
  have c1 : w1.cell? ⟨w.heap.size, 1, none⟩ = some (.int .i64 v) := hc1 1 _ rfl
  have HB1 := Lib.hid hb1
  clear hw1 hs1 hk1 hb1 hc1
  go_wp2_with fail
  refine (mayBe_any k v w1).mono ?_
  rintro e w2 ⟨rfl, hb2⟩
  have HB2 : Hid (Below w.heap.size w w2) := Lib.hid (HB1.out.trans (hb2.mono HB1.out.size))
  rw [HM.out]
  clear hb2 c0 c1
  go_wp2_with fail
  go_ret2
  exact ⟨rfl, HB2.out⟩
theorem put_old (h : TabM w K b g bm n U ds) (k v : Int) (hm : mayV (k, v) = true) (hi : inV n ds (k, v) = true) :
    Calls Try.prog 20 #[.pointer (some ⟨b, 0, none⟩), .int .i64 k, .int .i64 v] w fun e w' => e = .returned (.tuple #[.int .i64 (hV n ds (k, v) : Int), .nilIface]) ∧ Below w.heap.size w w' := by
  have HM := Lib.hid hm
  have HT := Lib.hid h
  have HIV := Lib.hid (h.in_iv hi)
  have hc := h.cells.2
  have HI := Lib.hid hi
  obtain ⟨x, hx⟩ : ∃ x : Int, x = hV n ds (k, v) := ⟨_, rfl⟩
  rw [← hx]
  have HX := Lib.hid hx
  clear h hm hi hx
  go_enter Try.func20, Try.ntmps20
  go_upto_region 2 with fail
  obtain ⟨w1, hw1, hs1, hk1, hb1, hc1, -⟩ := named w #[.int .i64 k, .int .i64 v] 69
  rw [← hw1]
  have c0 : w1.cell? ⟨w.heap.size, 0, none⟩ = some (.int .i64 k) := hc1 0 _ rfl
  have c1 : w1.cell? ⟨w.heap.size, 1, none⟩ = some (.int .i64 v) := hc1 1 _ rfl
  have hc := hk1 _ _ hc
  have HB1 := Lib.hid hb1
  clear hw1 hs1 hk1 hb1 hc1
  go_wp2_with fail
  refine (mayBe_any k v w1).mono ?_
  rintro e w2 ⟨rfl, hb2⟩
  have HB2 : Hid (Below w.heap.size w w2) := Lib.hid (HB1.out.trans (hb2.mono HB1.out.size))
  have c0 := kept_of_below hb2 _ _ c0
  have c1 := kept_of_below hb2 _ _ c1
  have hc := kept_of_below hb2 _ _ hc
  have hlk : ∀ j, (Instr.lookup 90 (.map (some bm)) (.agg #[.int .i64 k, .int .i64 v]) true).run Try.prog (w2.drewN j) = .ok (.tuple #[.int .i64 x, .bool true]) (w2.drewN j) := fun j => by
    have := ((HT.out.below HB2.out).map.kept (w' := w2.drewN j) (by simp)).look (x := (k, v)) HIV.out
    rw [if_pos HI.out, HI.out, ← HX.out] at this
    exact this
  rw [HM.out]
  clear hb2
  go_upto_region 4 with fail
  go_quiet (fail)
  go_wp2_with fail
  go_ret2
  exact ⟨rfl, (below_drewN HB2.out _)⟩
theorem put_full (h : TabM w K b g bm n U ds) (k v : Int) (hv : I64 v) (hm : mayV (k, v) = true) (hi : inV n ds (k, v) = false) (ht : 4096 ≤ totV ds) :
    Calls Try.prog 20 #[.pointer (some ⟨b, 0, none⟩), .int .i64 k, .int .i64 v] w fun e w' => e = .returned (.tuple #[.int .i64 0, .iface 57 (.int .i64 8)]) ∧ Below w.heap.size w w' := by
  have HM := Lib.hid hm
  have HT := Lib.hid h
  have hk : k = 1 ∨ k = 2 := by have := mayV_iff.1 hm; dsimp only at this; omega
  have HIV : Hid (IV (k, v)) := Lib.hid ⟨by show I64 k; unfold I64; omega, hv⟩
  have hc := h.cells.2
  have HI := Lib.hid hi
  have d1 : decide ((4096 : Int) ≤ (totV ds : Int)) = true := decide_eq_true (by omega)
  have d2 : (4096 : Int) ≤ (totV ds : Int) := by omega
  clear h hm hi hk
  go_enter Try.func20, Try.ntmps20
  go_upto_region 2 with fail
  obtain ⟨w1, hw1, hs1, hk1, hb1, hc1, -⟩ := named w #[.int .i64 k, .int .i64 v] 69
  rw [← hw1]
  have c0 : w1.cell? ⟨w.heap.size, 0, none⟩ = some (.int .i64 k) := hc1 0 _ rfl
  have c1 : w1.cell? ⟨w.heap.size, 1, none⟩ = some (.int .i64 v) := hc1 1 _ rfl
  have hc := hk1 _ _ hc
  have HB1 := Lib.hid hb1
  clear hw1 hs1 hk1 hb1 hc1
  go_wp2_with fail
  refine (mayBe_any k v w1).mono ?_
  rintro e w2 ⟨rfl, hb2⟩
  have HB2 : Hid (Below w.heap.size w w2) := Lib.hid (HB1.out.trans (hb2.mono HB1.out.size))
  have c0 := kept_of_below hb2 _ _ c0
  have c1 := kept_of_below hb2 _ _ c1
  have hc := kept_of_below hb2 _ _ hc
  have hlk : ∀ j, (Instr.lookup 90 (.map (some bm)) (.agg #[.int .i64 k, .int .i64 v]) true).run Try.prog (w2.drewN j) = .ok (.tuple #[.int .i64 0, .bool false]) (w2.drewN j) := fun j => by
    have := ((HT.out.below HB2.out).map.kept (w' := w2.drewN j) (by simp)).look (x := (k, v)) HIV.out
    rw [if_neg (by rw [HI.out]; decide), HI.out] at this
    exact this
  rw [HM.out]
  clear hb2
  go_upto_region 4 with fail
  go_quiet (fail)
  go_wp2_with fail
  refine (len_any (HT.out.below (below_drewN HB2.out nq))).mono ?_
  rintro e w3 ⟨rfl, rfl⟩
  go_wp2_with fail
  go_ret2
  exact ⟨rfl, (below_drewN HB2.out _)⟩
set_option maxRecDepth 100000 in
set_option maxHeartbeats 4000000 in
theorem put_new (h : TabM w K b g bm n U ds) (k v : Int) (hv : I64 v) (hm : mayV (k, v) = true) (hi : inV n ds (k, v) = false) (ht : totV ds < 4096) :
    Calls Try.prog 20 #[.pointer (some ⟨b, 0, none⟩), .int .i64 k, .int .i64 v] w fun e w' => e = .returned (.tuple #[.int .i64 (((ds.getD (drwV n (k, v)) []).length * n + drwV n (k, v) : Nat) : Int), .nilIface]) ∧
      ∃ U', TabM w' K b g bm n U' (addV n ds (k, v)) ∧ FrX (TabX b g bm n U) w w' ∧ ∀ y, TabX b g bm n U' y → TabX b g bm n U y ∨ w.heap.size ≤ y := by
  have HM := Lib.hid hm
  have HT := Lib.hid h
  have hk : k = 1 ∨ k = 2 := by have := mayV_iff.1 hm; dsimp only at this; omega
  have HIV : Hid (IV (k, v)) := Lib.hid ⟨by show I64 k; unfold I64; omega, hv⟩
  have HKK := Lib.hid hk
  obtain ⟨hc0, hc⟩ := h.cells
  have HI := Lib.hid hi
  have d1 : decide ((4096 : Int) ≤ (totV ds : Int)) = false := decide_eq_false (by omega)
  have d2 : ¬ (4096 : Int) ≤ (totV ds : Int) := by omega
  obtain ⟨d, hd⟩ : ∃ d, d = drwV n (k, v) := ⟨_, rfl⟩
  have hdn : d < n := by rw [hd]; exact drwV_lt h.ok.n1
  have hn1 := h.ok.n1
  have hn16 := h.ok.n16
  obtain ⟨l, hl⟩ : ∃ l, l = ds.getD d [] := ⟨_, rfl⟩
  have hll : l.length ≤ 4096 := by
    have h1 := len_flat (List.mem_of_getElem? (h.ok.here (k, v)))
    rw [← hd, ← hl] at h1
    unfold totV at ht; omega
  have hown := h.pool.own d hdn
  rw [← hl] at hown
  obtain ⟨A, c, hUd⟩ : ∃ A c, U d = .slice A l.length c := own_sliceL hown
  have hcd := h.row.cell hdn
  rw [hUd] at hcd
  rw [← hd, ← hl]
  have HD := Lib.hid hd
  have HL := Lib.hid hl
  have HOW := Lib.hid hown
  have HUD := Lib.hid hUd
  have hm1 : 0 ≤ (l.length : Int) * (n : Int) := Int.mul_nonneg (by omega) (by omega)
  have hm2 : (l.length : Int) * (n : Int) ≤ 65536 := by
    have := Nat.mul_le_mul hll hn16
    rw [← Int.natCast_mul]
    omega
  clear h hm hi hk ht hd hl hown hUd
  go_enter Try.func20, Try.ntmps20
  go_upto_region 2 with fail
  obtain ⟨w1, hw1, hs1, hk1, hb1, hc1, -⟩ := named w #[.int .i64 k, .int .i64 v] 69
  rw [← hw1]
  have c0 : w1.cell? ⟨w.heap.size, 0, none⟩ = some (.int .i64 k) := hc1 0 _ rfl
  have c1 : w1.cell? ⟨w.heap.size, 1, none⟩ = some (.int .i64 v) := hc1 1 _ rfl
  have hc0 := hk1 _ _ hc0
  have hc := hk1 _ _ hc
  have hcd := hk1 _ _ hcd
  have HB1 := Lib.hid hb1
  have HZ1 := Lib.hid hs1
  clear hw1 hs1 hk1 hb1 hc1
  go_wp2_with fail
  refine (mayBe_any k v w1).mono ?_
  rintro e w2 ⟨rfl, hb2⟩
  have HB2 : Hid (Below w.heap.size w w2) := Lib.hid (HB1.out.trans (hb2.mono HB1.out.size))
  have c0 := kept_of_below hb2 _ _ c0
  have c1 := kept_of_below hb2 _ _ c1
  have hc0 := kept_of_below hb2 _ _ hc0
  have hc := kept_of_below hb2 _ _ hc
  have hcd := kept_of_below hb2 _ _ hcd
  have hlk : ∀ j, (Instr.lookup 90 (.map (some bm)) (.agg #[.int .i64 k, .int .i64 v]) true).run Try.prog (w2.drewN j) = .ok (.tuple #[.int .i64 0, .bool false]) (w2.drewN j) := fun j => by
    have := ((HT.out.below HB2.out).map.kept (w' := w2.drewN j) (by simp)).look (x := (k, v)) HIV.out
    rw [if_neg (by rw [HI.out]; decide), HI.out] at this
    exact this
  rw [HM.out]
  have HZ2 : Hid (w1.heap.size ≤ w2.heap.size) := Lib.hid hb2.size
  clear hb2
  go_upto_region 4 with fail
  go_quiet (fail)
  go_wp2_with fail
  refine (len_any (HT.out.below (below_drewN HB2.out nq))).mono ?_
  rintro e w3 ⟨rfl, rfl⟩
  clear hlk
  obtain ⟨w3, hw3⟩ : ∃ w3, w3 = w2.drewN nq := ⟨_, rfl⟩
  have hb3 : Below w2.heap.size w2 w3 := by rw [hw3]; exact below_drewN (Below.refl _ _) _
  rw [← hw3]
  have HB3 : Hid (Below w.heap.size w w3) := Lib.hid (HB2.out.trans (hb3.mono HB2.out.size))
  have c0 := kept_of_below hb3 _ _ c0
  have c1 := kept_of_below hb3 _ _ c1
  have hc0 := kept_of_below hb3 _ _ hc0
  have hc := kept_of_below hb3 _ _ hc
  have hcd := kept_of_below hb3 _ _ hcd
  have HZ3 : Hid (w2.heap.size ≤ w3.heap.size) := Lib.hid hb3.size
  clear hb3 hw3
  go_wp2_with fail
  refine (drawerOf_any (HT.out.below HB3.out) k v HKK.out HIV.out.2).mono ?_
  rintro e w4 ⟨rfl, hb4⟩
  rw [← HD.out]
  have HB4 : Hid (Below w.heap.size w w4) := Lib.hid (HB3.out.trans (hb4.mono HB3.out.size))
  have c0 := kept_of_below hb4 _ _ c0
  have c1 := kept_of_below hb4 _ _ c1
  have hc0 := kept_of_below hb4 _ _ hc0
  have hc := kept_of_below hb4 _ _ hc
  have hcd := kept_of_below hb4 _ _ hcd
  have HZ4 : Hid (w3.heap.size ≤ w4.heap.size) := Lib.hid hb4.size
  clear hb4
  have hd0 : (0 : Int) ≤ d := by omega
  have hd1 : (d : Int) < n := by omega
  have hwr1 : IntKind.i64.wrap ((l.length : Int) * (n : Int)) = (l.length : Int) * (n : Int) := IntWalk.i64_in _ (by omega)
  have hwr2 : IntKind.i64.wrap ((l.length : Int) * (n : Int) + (d : Int)) = (l.length : Int) * (n : Int) + (d : Int) := IntWalk.i64_in _ (by omega)
  go_upto_region 10 with fail
  go_quiet (fail)
  go_upto_region 11 with fail
  obtain ⟨wC, hwC⟩ : ∃ wC, wC = w4.drewN nq := ⟨_, rfl⟩
  have hb5 : Below w4.heap.size w4 wC := by rw [hwC]; exact below_drewN (Below.refl _ _) _
  have HBC : Hid (Below w.heap.size w wC) := Lib.hid (HB4.out.trans (hb5.mono HB4.out.size))
  have hzV : w.heap.size < wC.heap.size := by have := HZ1.out; have := HZ2.out; have := HZ3.out; have := HZ4.out; have := hb5.size; omega
  have c0 := kept_of_below hb5 _ _ c0
  have c1 := kept_of_below hb5 _ _ c1
  have hc0 := kept_of_below hb5 _ _ hc0
  have hc := kept_of_below hb5 _ _ hc
  have hcd := kept_of_below hb5 _ _ hcd
  rw [← hwC]
  have HTC : Hid (TabM wC K b g bm n U ds) := Lib.hid (HT.out.below HBC.out)
  have how : wC.ownsRow K 69 2 (.slice A l.length c) l.length (cellsV l) := by
    have := HTC.out.pool.own d hdn
    rw [← HL.out, HUD.out] at this
    exact this
  have HOW := Lib.hid how
  obtain ⟨V, hV⟩ : ∃ V, V = w.heap.size := ⟨_, rfl⟩
  have HVV := Lib.hid hV
  rw [← hV] at c0 c1 hzV ⊢
  have hbl : b < wC.heap.size := (HTC.out.lt (.inl rfl)).2
  have hgl : g < wC.heap.size := (HTC.out.lt (.inr (.inl rfl))).2
  have hKw : K ≤ wC.heap.size := by have := (HTC.out.lt (.inl rfl)).1; omega
  clear hwC hb5 how hV hwr1 hwr2 HB4 HB3 HB2 HB1
  obtain ⟨i0, hi0, hz0, hz1, hz2⟩ := info_parts Try.infoVal69
  have HI0 := Lib.hid (And.intro hi0 (And.intro hz0 (And.intro hz1 hz2)))
  clear hi0 hz0 hz1 hz2
  have hS : ∀ w' : World, (∀ y, y = b ∨ y = g ∨ y = V → w'.heap[y]? = wC.heap[y]?) → w'.cell? ⟨b, 0, none⟩ = some (.slice (some ⟨g, 0, none⟩) n n) ∧ w'.cell? ⟨g, d, none⟩ = some (.slice A l.length c) ∧ w'.cell? ⟨V, 0, none⟩ = some (.int .i64 k) ∧ w'.cell? ⟨V, 1, none⟩ = some (.int .i64 v) := fun w' hb =>
    ⟨(World.cell?_of_block (a := ⟨b, 0, none⟩) (hb b (.inl rfl))).trans hc0, (World.cell?_of_block (a := ⟨g, d, none⟩) (hb g (.inr (.inl rfl)))).trans hcd, (World.cell?_of_block (a := ⟨V, 0, none⟩) (hb V (.inr (.inr rfl)))).trans c0, (World.cell?_of_block (a := ⟨V, 1, none⟩) (hb V (.inr (.inr rfl)))).trans c1⟩
  have hS0 := hS wC.drew (fun _ _ => rfl)
  refine wp_region_last (L := 16) (S := fun w' : World => w'.cell? ⟨b, 0, none⟩ = some (.slice (some ⟨g, 0, none⟩) n n) ∧ w'.cell? ⟨g, d, none⟩ = some (.slice A l.length c) ∧ w'.cell? ⟨V, 0, none⟩ = some (.int .i64 k) ∧ w'.cell? ⟨V, 1, none⟩ = some (.int .i64 v)) (by kernel_rfl) (by rfl) (by kernel_rfl) (by kernel_rfl) ?_
  change wpAnyH _ _ _ _ _ _ _ _ (World.drew _)
  refine takeH (i := 0) (some 54) (v := ?_) rfl (by kernel_rfl) (by kernel_rfl) (by kernel_rfl) (fun _ _ _ h => h) hS0 (fun o ho => ?_) ?_
  rotate_left
  · simp only [List.getElem?_toArray, List.getElem?_cons_zero, Option.some.injEq] at ho; subst ho; refine Or.inl ⟨by rfl, fun w' hSw => ?_⟩; (try dsimp only at hSw); go_simp; try with_reducible rfl
  simp only [Act.put, List.setIfInBounds_toArray, List.set_cons_zero, List.set_cons_succ]
  refine takeH (i := 1) (some 55) (v := ?_) rfl (by kernel_rfl) (by kernel_rfl) (by kernel_rfl) (fun _ _ _ h => h) hS0 (fun o ho => ?_) ?_
  rotate_left
  · simp only [List.getElem?_toArray, List.getElem?_cons_zero, List.getElem?_cons_succ, Option.some.injEq] at ho; subst ho; refine Or.inl ⟨by rfl, fun w' hSw => ?_⟩; (try dsimp only at hSw); go_simp; try with_reducible rfl
  simp only [Act.put, List.setIfInBounds_toArray, List.set_cons_zero, List.set_cons_succ]
  refine takeH (i := 2) (some 56) (v := ?_) rfl (by kernel_rfl) (by kernel_rfl) (by kernel_rfl) (fun _ _ _ h => h) hS0 (fun o ho => ?_) ?_
  rotate_left
  · simp only [List.getElem?_toArray, List.getElem?_cons_zero, List.getElem?_cons_succ, Option.some.injEq] at ho; subst ho; refine Or.inl ⟨by rfl, fun w' hSw => ?_⟩; (try dsimp only at hSw); go_simp; try with_reducible rfl
  simp only [Act.put, List.setIfInBounds_toArray, List.set_cons_zero, List.set_cons_succ]
  refine takeH (i := 3) (some 57) (v := ?_) rfl (by kernel_rfl) (by kernel_rfl) (by kernel_rfl) (fun _ _ _ h => h) hS0 (fun o ho => ?_) ?_
  rotate_left
  · simp only [List.getElem?_toArray, List.getElem?_cons_zero, List.getElem?_cons_succ, Option.some.injEq] at ho; subst ho; refine Or.inl ⟨by rfl, fun w' hSw => ?_⟩; (try dsimp only at hSw); go_simp; try with_reducible rfl
  simp only [Act.put, List.setIfInBounds_toArray, List.set_cons_zero, List.set_cons_succ]
  refine takeH (i := 4) (some 58) (v := ?_) rfl (by kernel_rfl) (by kernel_rfl) (by kernel_rfl) (fun _ _ _ h => h) hS0 (fun o ho => ?_) ?_
  rotate_left
  · simp only [List.getElem?_toArray, List.getElem?_cons_zero, List.getElem?_cons_succ, Option.some.injEq] at ho; subst ho; refine Or.inl ⟨by rfl, fun w' hSw => ?_⟩; (try dsimp only at hSw); go_simp; try with_reducible rfl
  simp only [Act.put, List.setIfInBounds_toArray, List.set_cons_zero, List.set_cons_succ]
  refine takeH (i := 5) (some 59) (v := ?_) rfl (by kernel_rfl) (by kernel_rfl) (by kernel_rfl) (fun _ _ _ h => h) hS0 (fun o ho => ?_) ?_
  rotate_left
  · simp only [List.getElem?_toArray, List.getElem?_cons_zero, List.getElem?_cons_succ, Option.some.injEq] at ho; subst ho; refine Or.inl ⟨by rfl, fun w' hSw => ?_⟩; (try dsimp only at hSw); go_simp; try with_reducible rfl
  simp only [Act.put, List.setIfInBounds_toArray, List.set_cons_zero, List.set_cons_succ]
  refine takeH (i := 6) (some 60) (v := ?_) rfl (by kernel_rfl) (by kernel_rfl) (by kernel_rfl) (fun _ _ _ h => h) hS0 (fun o ho => ?_) ?_
  rotate_left
  · simp only [List.getElem?_toArray, List.getElem?_cons_zero, List.getElem?_cons_succ, Option.some.injEq] at ho; subst ho; refine Or.inl ⟨by rfl, fun w' hSw => ?_⟩; (try dsimp only at hSw); go_simp; try with_reducible rfl
  simp only [Act.put, List.setIfInBounds_toArray, List.set_cons_zero, List.set_cons_succ]
  refine takeH (i := 7) (some 61) (v := ?_) rfl (by kernel_rfl) (by kernel_rfl) (by kernel_rfl) (fun _ _ _ h => h) hS0 (fun o ho => ?_) ?_
  rotate_left
  · simp only [List.getElem?_toArray, List.getElem?_cons_zero, List.getElem?_cons_succ, Option.some.injEq] at ho; subst ho; refine Or.inl ⟨by rfl, fun w' hSw => ?_⟩; (try dsimp only at hSw); go_simp; try with_reducible rfl
  simp only [Act.put, List.setIfInBounds_toArray, List.set_cons_zero, List.set_cons_succ]
  refine takeH (i := 8) (some 62) (v := ?_) rfl (by kernel_rfl) (by kernel_rfl) (by kernel_rfl) (fun _ _ _ h => h) hS0 (fun o ho => ?_) ?_
  rotate_left
  · simp only [List.getElem?_toArray, List.getElem?_cons_zero, List.getElem?_cons_succ, Option.some.injEq] at ho; subst ho; refine Or.inl ⟨by rfl, fun w' hSw => ?_⟩; (try dsimp only at hSw); go_simp; try with_reducible rfl
  simp only [Act.put, List.setIfInBounds_toArray, List.set_cons_zero, List.set_cons_succ]
  refine takeH (i := 9) (some 63) (v := ?_) rfl (by kernel_rfl) (by kernel_rfl) (by kernel_rfl) (fun _ _ _ h => h) hS0 (fun o ho => ?_) ?_
  rotate_left
  · simp only [List.getElem?_toArray, List.getElem?_cons_zero, List.getElem?_cons_succ, Option.some.injEq] at ho; subst ho; refine Or.inl ⟨by rfl, fun w' hSw => ?_⟩; (try dsimp only at hSw); go_simp; try with_reducible rfl
  simp only [Act.put, List.setIfInBounds_toArray, List.set_cons_zero, List.set_cons_succ]
  refine takeH (i := 10) (some 64) (v := ?_) rfl (by kernel_rfl) (by kernel_rfl) (by kernel_rfl) (fun _ _ _ h => h) hS0 (fun o ho => ?_) ?_
  rotate_left
  · simp only [List.getElem?_toArray, List.getElem?_cons_zero, List.getElem?_cons_succ, Option.some.injEq] at ho; subst ho; refine Or.inl ⟨by rfl, fun w' hSw => ?_⟩; (try dsimp only at hSw); go_simp; try with_reducible rfl
  simp only [Act.put, List.setIfInBounds_toArray, List.set_cons_zero, List.set_cons_succ]
  refine takeH (i := 11) (some 65) (v := ?_) rfl (by kernel_rfl) (by kernel_rfl) (by kernel_rfl) (fun _ _ _ h => h) hS0 (fun o ho => ?_) ?_
  rotate_left
  · simp only [List.getElem?_toArray, List.getElem?_cons_zero, List.getElem?_cons_succ, Option.some.injEq] at ho; subst ho; refine Or.inl ⟨by rfl, fun w' hSw => ?_⟩; (try dsimp only at hSw); go_simp; try with_reducible rfl
  simp only [Act.put, List.setIfInBounds_toArray, List.set_cons_zero, List.set_cons_succ]
  refine takeH (i := 12) (some 66) (v := ?_) rfl (by kernel_rfl) (by kernel_rfl) (by kernel_rfl) (fun _ _ _ h => h) hS0 (fun o ho => ?_) ?_
  rotate_left
  · simp only [List.getElem?_toArray, List.getElem?_cons_zero, List.getElem?_cons_succ, Option.some.injEq] at ho; subst ho; refine Or.inl ⟨by rfl, fun w' hSw => ?_⟩; (try dsimp only at hSw); go_simp; try with_reducible rfl
  simp only [Act.put, List.setIfInBounds_toArray, List.set_cons_zero, List.set_cons_succ]
  refine oneH (i := 13) (by kernel_rfl) (fun o ho K' hK => ?_)
  simp only [List.getElem?_toArray, List.getElem?_cons_zero, List.getElem?_cons_succ, Option.some.injEq] at ho; subst ho
  go_simp
  have hb8 : Below wC.heap.size wC (wC.alloc (.cells #[.int .i64 k, .int .i64 v] 69)).drew := ((Below.refl _ wC).alloc (Nat.le_refl _) _).drew
  refine hK.out _ _ (hS _ fun y hy => hb8.block y (by rcases hy with h | h | h <;> omega)) ?_
  clear hK K'
  refine oneH (i := 14) (by kernel_rfl) (fun o ho K' hK => ?_)
  simp only [List.getElem?_toArray, List.getElem?_cons_zero, List.getElem?_cons_succ, Option.some.injEq] at ho; subst ho
  refine step_append_lies _ (by rfl) _ _ _ (by rfl) K 69 i0 (.agg #[.int .i64 0, .int .i64 0]) 2 16 Try.underlying59 HI0.out.1 HI0.out.2.1 HI0.out.2.2.1 HI0.out.2.2.2 rfl (by decide) (.slice A l.length c) _ _ (by rfl) (HOW.out.alloc _)
    ⟨wC.heap.size, 0, none⟩ 1 1 [.int .i64 k, .int .i64 v] (by rfl) (by rfl) (news_cells _ #[.int .i64 k, .int .i64 v] _ (by simp)) (by simp [Value.oneCell']) (by decide) (by unfold maxLen; omega) (by omega) (by simp; omega) (wC.heap.size + 1) (by simp) ?_
  intro g' cap w7 hown7 hgrow7 hloc7 hlt7
  have hgd : GroD wC w7 (.slice A l.length c) (.slice (some ⟨g', 0, none⟩) (l.length + 1) cap) := groD_drew (groD_append hgrow7 hloc7)
  have hno : ∀ y, y = b ∨ y = g ∨ y = V → (Value.slice A l.length c).ownBlock ≠ some y := fun y hy e => by
    rw [← HUD.out] at e
    rcases hy with rfl | rfl | rfl
    · exact (HTC.out.ap d _ hdn e).1 rfl
    · exact (HTC.out.ap d _ hdn e).2.1 rfl
    · have := (HT.out.lt (.inr (.inr (.inr ⟨d, hdn, e⟩)))).2
      have := HVV.out; omega
  have hb7 : ∀ y, y = b ∨ y = g ∨ y = V → w7.heap[y]? = wC.heap[y]? := fun y hy => hgd.block y (by rcases hy with h | h | h <;> omega) (hno y hy)
  have hS7 := hS w7 hb7
  have hfz7 : w7.frozen? ⟨g, d, none⟩ = false := (World.frozen?_of_block (a := ⟨g, d, none⟩) (hb7 g (.inr (.inl rfl)))).trans (HTC.out.row.frozen d)
  have HGD := Lib.hid hgd
  have HO7 := Lib.hid hown7
  refine hK.out _ _ hS7 ?_
  clear hK K' hgd hown7 hgrow7 hloc7 hlt7 hno
  try simp only [Act.put, List.setIfInBounds_toArray, List.set_cons_zero, List.set_cons_succ]
  refine takeH (i := 15) (some 69) (v := ?_) rfl (by kernel_rfl) (by kernel_rfl) (by kernel_rfl) (fun _ _ _ h => h) hS7 (fun o ho => ?_) ?_
  rotate_left
  · simp only [List.getElem?_toArray, List.getElem?_cons_zero, List.getElem?_cons_succ, Option.some.injEq] at ho; subst ho; refine Or.inl ⟨by rfl, fun w' hSw => ?_⟩; (try dsimp only at hSw); go_simp; try with_reducible rfl
  simp only [Act.put, List.setIfInBounds_toArray, List.set_cons_zero, List.set_cons_succ]
  refine wpAnyH_done (by kernel_rfl) ?_ _
  refine lastH (by decide) (fun o ho K' hK => ?_)
  simp only [List.getElem?_toArray, List.getElem?_cons_zero, List.getElem?_cons_succ, Option.some.injEq] at ho; subst ho
  have hcg7 := hS7.2.1
  go_simp
  refine hK.out _ _ ?_
  clear hK K' hcg7 hcd hc0
  obtain ⟨w8, hw8⟩ : ∃ w8, w8 = w7.setCell ⟨g, d, none⟩ (.slice (some ⟨g', 0, none⟩) (l.length + 1) cap) := ⟨_, rfl⟩
  rw [← hw8]
  have h8 : ∀ y, y ≠ g → w8.heap[y]? = w7.heap[y]? := fun y hy => by rw [hw8]; exact Below.heap_setCell _ _ _ _ hy
  have hVg : V ≠ g := fun e => by have := (HT.out.lt (.inr (.inl rfl))).2; have := HVV.out; omega
  have c0 := (World.cell?_of_block (a := ⟨V, 0, none⟩) (h8 V hVg)).trans hS7.2.2.1
  have c1 := (World.cell?_of_block (a := ⟨V, 1, none⟩) (h8 V hVg)).trans hS7.2.2.2
  have hc : w8.cell? ⟨b, 1, none⟩ = some (.map (some bm)) := (World.cell?_of_block (a := ⟨b, 1, none⟩) ((h8 b HTC.out.ne.1).trans (hb7 b (.inl rfl)))).trans hc
  have HW8 := Lib.hid hw8
  have hmp : MpV w8.drew bm (totV ds) n ds := HTC.out.map.kept (((h8 bm (Ne.symm HTC.out.ne.2.2)).trans (HGD.out.block bm (HTC.out.lt (.inr (.inr (.inl rfl)))).2 (fun e => by rw [← HUD.out] at e; exact (HTC.out.ap d _ hdn e).2.2 rfl))))
  obtain ⟨w9, hrun9, hm9, hg9, hz9⟩ := hmp.store HTC.out.ok (by unfold maxLen; have := HTC.out.tot; omega) (x := (k, v)) HIV.out HI.out
  rw [← HD.out, ← HL.out] at hrun9
  rw [Int.natCast_add, Int.natCast_mul] at hrun9
  have HM9 := Lib.hid (And.intro hm9 (And.intro hg9 hz9))
  clear hw8 h8 hVg hS7 hb7 hfz7 hmp hm9 hg9 hz9 hS0 hS
  go_wp2_with fail
  go_still_tail 6, (by kernel_rfl)
  change wpList _ _ _ _ _ w8.drew
  go_wp2_with fail
  obtain ⟨t1, t2, t3⟩ := tab_add (x := (k, v)) HTC.out HD.out HL.out HIV.out HM.out HI.out (by omega) (by rw [HUD.out]; exact HGD.out) HO7.out (u := w8.drew) (by rw [HW8.out]) HM9.out.2.1 HM9.out.2.2 HM9.out.1
  go_ret2
  exact ⟨rfl, _, t1, (FrX.of_below HBC.out).trans t2, fun y hy => (t3 y hy).imp id fun h => Nat.le_trans HBC.out.size h⟩
/-- What Put tells: the handle, the error's number. -/
def resV (n : Nat) (ds : List (List VD)) (x : VD) : Int × Int :=
  if mayV x = false then (0, 1) else if inV n ds x = true then ((hV n ds x : Nat), 0) else if 4096 ≤ totV ds then (0, 8) else (((ds.getD (drwV n x) []).length * n + drwV n x : Nat), 0)
def errV (c : Int) : Value := if c = 0 then .nilIface else .iface 57 (.int .i64 c)
/-- What becomes of a table by Put. -/
def PutsTo (w : World) (K b g bm n : Nat) (U : Nat → Value) (ds : List (List VD)) (x : VD) (e : Ending) (w' : World) : Prop :=
  e = .returned (.tuple #[.int .i64 (resV n ds x).1, errV (resV n ds x).2]) ∧ ∃ U', TabM w' K b g bm n U' (putV n ds x) ∧ FrX (TabX b g bm n U) w w' ∧ ∀ y, TabX b g bm n U' y → TabX b g bm n U y ∨ w.heap.size ≤ y
theorem put_any (h : TabM w K b g bm n U ds) (k v : Int) (hv : I64 v) :
    Calls Try.prog 20 #[.pointer (some ⟨b, 0, none⟩), .int .i64 k, .int .i64 v] w (PutsTo w K b g bm n U ds (k, v)) := by
  have stay : ∀ {w' : World}, Below w.heap.size w w' → putV n ds (k, v) = ds → ∃ U', TabM w' K b g bm n U' (putV n ds (k, v)) ∧ FrX (TabX b g bm n U) w w' ∧ ∀ y, TabX b g bm n U' y → TabX b g bm n U y ∨ w.heap.size ≤ y := fun hb e =>
    ⟨U, by rw [e]; exact h.below hb, FrX.of_below hb, fun y hy => .inl hy⟩
  cases hm : mayV (k, v) with
  | false =>
    refine (put_no h k v hm).mono ?_
    rintro e w' ⟨rfl, hb⟩
    exact ⟨by unfold resV; rw [if_pos hm]; rfl, stay hb (by unfold putV; rw [if_neg (fun q => by rw [hm] at q; cases q.1)])⟩
  | true =>
    cases hi : inV n ds (k, v) with
    | true =>
      refine (put_old h k v hm hi).mono ?_
      rintro e w' ⟨rfl, hb⟩
      exact ⟨by unfold resV; rw [if_neg (by rw [hm]; decide), if_pos hi]; rfl, stay hb (by unfold putV; rw [if_neg (fun q => by rw [hi] at q; cases q.2.1)])⟩
    | false =>
      by_cases ht : 4096 ≤ totV ds
      · refine (put_full h k v hv hm hi ht).mono ?_
        rintro e w' ⟨rfl, hb⟩
        exact ⟨by unfold resV; rw [if_neg (by rw [hm]; decide), if_neg (by rw [hi]; decide), if_pos ht]; rfl, stay hb (by unfold putV; rw [if_neg (fun q => by omega)])⟩
      · refine (put_new h k v hv hm hi (by omega)).mono ?_
        rintro e w' ⟨rfl, U', t1, t2, t3⟩
        exact ⟨by unfold resV; rw [if_neg (by rw [hm]; decide), if_neg (by rw [hi]; decide), if_neg ht]; rfl, U', by unfold putV; rw [if_pos ⟨hm, hi, by omega⟩]; exact t1, t2, t3⟩
end
end Go.Proofs.Ytcjmhdneelmbhaa

/- Two interface values of one integer type are equal as their numbers are; one of them against nil is not. Over any program. -/
namespace Go.Proofs.Ytcjmhdneelmbhaa
section
variable {P : Program} (w : World)

theorem run_equalIn_iface_int (d : Nat) {ti tn : TypeId} {ms : Array (String × TypeId)} {i : TypeInfo} {k : IntKind} (a b : Int)
    (hi : P.underlying ti = some (.interface ms)) (hn : P.underlying tn = some (.int k)) (hinfo : P.info? tn = some i) (hcomp : i.comparable = true) :
    (Op.equalIn (d + 2) ti (.iface tn (.int k a)) (.iface tn (.int k b))).run P w = .ok (a == b) w := by
  simp [Op.equalIn, run_underlying hi, run_underlying hn, typeInfo, hinfo, hcomp]

theorem run_eql_iface_int {ti tn : TypeId} {ms : Array (String × TypeId)} {i : TypeInfo} {k : IntKind} (a b : Int)
    (hi : P.underlying ti = some (.interface ms)) (hn : P.underlying tn = some (.int k)) (hinfo : P.info? tn = some i) (hcomp : i.comparable = true) :
    (binOp .eql ti (.iface tn (.int k a)) (.iface tn (.int k b))).run P w = .ok (.bool (a == b)) w := by
  simp only [binOp]
  simp [Op.equal, Op.maxDepth, run_equalIn_iface_int w 9998 a b hi hn hinfo hcomp]
end
end Go.Proofs.Ytcjmhdneelmbhaa

/- Two errors that are Codes are equal as their numbers are. -/
namespace Go.Proofs.Ytcjmhdneelmbhaa
open Go.ChangeShapes Go.WideShapes Go.RowKit Go.Deep
set_option linter.unusedVariables false

theorem codeInfo : Try.prog.info? 57 = some ((Try.prog.info? 57).get!) := by kernel_rfl
theorem codeComp : ((Try.prog.info? 57).get!).comparable = true := by kernel_rfl
theorem eqlErr (x y : Int) (w : World) : (binOp .eql 30 (.iface 57 (.int .i64 x)) (.iface 57 (.int .i64 y))).run Try.prog w = .ok (.bool (x == y)) w :=
  run_eql_iface_int w x y Try.underlying30 Try.underlying57 codeInfo codeComp

end Go.Proofs.Ytcjmhdneelmbhaa

/- The law's example, its drawers, the document's Less. -/
namespace Go.Proofs.Ytcjmhdneelmbhaa
open Go.ChangeShapes Go.WideShapes Go.RowKit Go.Deep
set_option linter.unusedVariables false

theorem TabM.frame_below {w w' : World} {K b g bm n : Nat} {U : Nat → Value} {ds : List (List VD)} (h : TabM w K b g bm n U ds) (hf : FrX (TabX b g bm n U) w w') : Below K w w' :=
  ⟨hf.os, hf.tape, hf.output, hf.size, fun y hy => hf.block y (by have := h.lo; have := (h.lt (.inl rfl)).2; omega) (fun hx => by have := (h.lt hx).1; omega)⟩
def dsA : List (List VD) := List.replicate 2 []
def dsB : List (List VD) := putV 2 dsA (1, 4)
theorem res_a : resV 2 dsA (1, 4) = (1, 0) := by decide
theorem res_b : resV 2 dsB (1, 7) = (0, 0) := by decide
theorem in_c : inV 2 (putV 2 dsB (1, 7)) (1, 4) = true := by decide
theorem h_c : hV 2 (putV 2 dsB (1, 7)) (1, 4) = 1 := by decide
set_option maxRecDepth 100000 in
set_option maxHeartbeats 4000000 in
theorem up10_any (w : World) : Calls Try.prog 15 #[] w fun e w' => e = .returned (.bool true) ∧ Below w.heap.size w w' := by
  go_enter Try.func15, Try.ntmps15
  go_wp2_with fail
  refine (new_yes 2 w (by omega) (by omega)).mono ?_
  rintro e w1 ⟨rfl, hb1, hT1⟩
  have HB1 := Lib.hid hb1
  have HT1 : Hid (TabM w1 w.heap.size (w.heap.size + 2) w.heap.size (w.heap.size + 1) 2 (fun _ => .slice none 0 0) dsA) := Lib.hid hT1
  clear hb1 hT1
  go_wp2_with fail
  refine (put_any HT1.out 1 4 (by unfold I64; omega)).mono ?_
  rintro e w2 ⟨rfl, U2, hT2, hf2, hx2⟩
  rw [res_a]
  have HT2 : Hid (TabM w2 w.heap.size (w.heap.size + 2) w.heap.size (w.heap.size + 1) 2 U2 dsB) := Lib.hid hT2
  have HB2 : Hid (Below w.heap.size w w2) := Lib.hid (HB1.out.trans (HT1.out.frame_below hf2))
  clear hT2 hf2 hx2
  have hE : errV 0 = .nilIface := rfl
  rw [hE]
  go_wp2_with fail
  refine (put_any HT2.out 1 7 (by unfold I64; omega)).mono ?_
  rintro e w3 ⟨rfl, U3, hT3, hf3, hx3⟩
  rw [res_b, hE]
  have HT3 := Lib.hid hT3
  have HB3 : Hid (Below w.heap.size w w3) := Lib.hid (HB2.out.trans (HT2.out.frame_below hf3))
  clear hT3 hf3 hx3 hE
  go_wp2_with fail
  refine (find_any HT3.out 1 4 (by unfold I64; omega) (by unfold I64; omega)).mono ?_
  rintro e w4 ⟨rfl, rfl⟩
  rw [in_c, h_c]
  go_wp2_with fail
  go_ret
  exact ⟨rfl, HB3.out⟩
/-- How many drawers a number speaks of. -/
def pickN (c : Int) : Nat := 1 + ((if c < 0 then -(c + 1) else c) % 16).toNat
theorem pickN_in (c : Int) : 1 ≤ pickN c ∧ pickN c ≤ 16 := by
  unfold pickN
  have := Int.emod_nonneg (if c < 0 then -(c + 1) else c) (b := 16) (by omega)
  have := Int.emod_lt_of_pos (if c < 0 then -(c + 1) else c) (b := 16) (by omega)
  omega
theorem pick_any (c : Int) (hc : I64 c) (w : World) : Calls Try.prog 19 #[.int .i64 c] w fun e w' => e = .returned (.int .i64 (pickN c : Int)) ∧ w' = w := by
  obtain ⟨h1, h2⟩ := hc
  by_cases h : c < 0
  · obtain ⟨q, hq⟩ : ∃ q : Nat, -(c + 1) = (q : Int) := ⟨(-(c + 1)).toNat, by omega⟩
    obtain ⟨r, hr, hr1⟩ : ∃ r : Nat, (q : Int) % 16 = r ∧ r < 16 := ⟨q % 16, by omega, by omega⟩
    have HE : Hid ((pickN c : Int) = 1 + r) := Lib.hid (by unfold pickN; rw [if_pos h, hq, hr]; omega)
    have d : decide (c < 0) = true := decide_eq_true h
    go_enter Try.func19, Try.ntmps19
    go_wp2_with fail
    go_ret
    exact ⟨by rw [HE.out]; rfl, rfl⟩
  · have HE : Hid ((pickN c : Int) = 1 + c % 16) := Lib.hid (by unfold pickN; rw [if_neg h]; omega)
    have d : decide (c < 0) = false := decide_eq_false h
    go_enter Try.func19, Try.ntmps19
    go_wp2_with fail
    go_ret
    exact ⟨by rw [HE.out]; rfl, rfl⟩
theorem less_any (x y : VD) (w : World) : Calls Try.prog 23 #[.agg #[.int .i64 x.1, .int .i64 x.2], .agg #[.int .i64 y.1, .int .i64 y.2]] w fun e w' => e = .returned (.bool (ltV x y)) ∧ Below w.heap.size w w' := by
  obtain ⟨x1, x2⟩ := x
  obtain ⟨y1, y2⟩ := y
  dsimp only
  have hB : ∀ A B, Below w.heap.size w ((w.alloc A).alloc B) := fun A B => ((Below.refl _ _).alloc (Nat.le_refl _) _).alloc (by simp) _
  by_cases h1 : x1 < y1
  · have d1 : decide (x1 < y1) = true := decide_eq_true h1
    have HE : Hid (ltV (x1, x2) (y1, y2) = true) := Lib.hid (by unfold ltV; exact decide_eq_true (.inl h1))
    clear h1
    go_enter Try.func23, Try.ntmps23
    go_wp2_with fail
    go_ret
    exact ⟨by rw [HE.out]; rfl, hB _ _⟩
  · have d1 : decide (x1 < y1) = false := decide_eq_false h1
    by_cases h2 : x1 = y1
    · have d2 : (x1 == y1) = true := by simpa using h2
      have HE : Hid (ltV (x1, x2) (y1, y2) = decide (x2 < y2)) := Lib.hid (by unfold ltV; rw [Bool.eq_iff_iff, decide_eq_true_iff, decide_eq_true_iff]; dsimp only; omega)
      clear h1 h2
      go_enter Try.func23, Try.ntmps23
      go_wp2_with fail
      go_ret
      exact ⟨by rw [HE.out]; rfl, hB _ _⟩
    · have d2 : (x1 == y1) = false := by simpa using h2
      have HE : Hid (ltV (x1, x2) (y1, y2) = false) := Lib.hid (by unfold ltV; apply decide_eq_false; dsimp only; omega)
      clear h1 h2
      go_enter Try.func23, Try.ntmps23
      go_wp2_with fail
      go_ret
      exact ⟨by rw [HE.out]; rfl, hB _ _⟩
end Go.Proofs.Ytcjmhdneelmbhaa

/- Values compared by '=='. -/
namespace Go.Proofs.Ytcjmhdneelmbhaa
open Go.ChangeShapes Go.WideShapes Go.RowKit Go.Deep
set_option linter.unusedVariables false

theorem valHeld : Try.prog.stoodInHeld 69 = false := by kernel_rfl
theorem valGuard : Try.prog.eqGuardType Try.prog.depth 69 = false := by kernel_rfl
theorem neqVal (x y : VD) (w : World) : (binOp .neq 69 (.agg #[.int .i64 x.1, .int .i64 x.2]) (.agg #[.int .i64 y.1, .int .i64 y.2])).run Try.prog w = .ok (.bool (!(decide (x = y)))) w := by
  have h1 : Try.prog.underlying 69 = some (.struct (Try.prog.fieldsOf 69)) := by rw [Try.underlying69]; kernel_rfl
  rw [run_neq_struct, run_equalIn_agg w 9999 _ _ _ h1 valHeld]
  rw [Try.underlying69] at h1
  simp only [Option.some.injEq, TypeDesc.struct.injEq] at h1
  rw [← h1]
  obtain ⟨x1, x2⟩ := x
  obtain ⟨y1, y2⟩ := y
  have e1 : ∀ w, (Op.equalIn 9999 3 (.int .i64 x1) (.int .i64 y1)).run Try.prog w = .ok (x1 == y1) w := fun w => run_equalIn_int w 9998 3 .i64 .i64 x1 y1 Try.underlying3
  have e2 : ∀ w, (Op.equalIn 9999 2 (.int .i64 x2) (.int .i64 y2)).run Try.prog w = .ok (x2 == y2) w := fun w => run_equalIn_int w 9998 2 .i64 .i64 x2 y2 Try.underlying2
  have p1 : ∀ w, (part 3 #[.int .i64 x1, .int .i64 x2] 0).run Try.prog w = .ok (.int .i64 x1) w := fun w => by kernel_rfl
  have p2 : ∀ w, (part 3 #[.int .i64 y1, .int .i64 y2] 0).run Try.prog w = .ok (.int .i64 y1) w := fun w => by kernel_rfl
  have p3 : ∀ w, (part 2 #[.int .i64 x1, .int .i64 x2] 1).run Try.prog w = .ok (.int .i64 x2) w := fun w => by kernel_rfl
  have p4 : ∀ w, (part 2 #[.int .i64 y1, .int .i64 y2] 1).run Try.prog w = .ok (.int .i64 y2) w := fun w => by kernel_rfl
  by_cases h2 : x1 = y1
  · subst h2
    by_cases h3 : x2 = y2
    · subst h3
      simp [Op.eqFields, e1, e2, p1, p3, Result.andThen]
    · simp [Op.eqFields, e1, e2, p1, p2, p3, p4, Result.andThen, h3]
  · simp [Op.eqFields, e1, p1, p2, Result.andThen, h2]
/-- A cell of a row of the caller's own is written over. -/
theorem own_setV {w : World} {K size g cap n j : Nat} {e : TypeId} {xs : List Value} (h : w.ownsRow K e size (.slice (some ⟨g, 0, none⟩) n cap) n xs) (hj : j < n * size) (u : Value) : (w.setCell ⟨g, j, none⟩ u).ownsRow K e size (.slice (some ⟨g, 0, none⟩) n cap) n (xs.set j u) := by
  obtain ⟨h1, ⟨h0, _⟩ | ⟨g', c', cur, hv, hb, hh, hn, hc, hsz, ht⟩⟩ := h
  · cases h0
  · injection hv with hv1 hv2 hv3
    injection hv1 with hv1
    injection hv1 with hv1
    subst hv1 hv3
    refine ⟨by rw [List.length_set]; exact h1, .inr ⟨g, cap, cur.setIfInBounds j u, rfl, hb, ?_, hn, hc, by simpa using hsz, ?_⟩⟩
    · simp [World.setCell, Array.getElem?_modify, hh]
    · rw [← ht]
      rw [Array.toList_setIfInBounds, List.take_set]
end Go.Proofs.Ytcjmhdneelmbhaa
