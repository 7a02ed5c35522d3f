/- The law's example, its drawers, the document's Less. -/
import Derived.Test.YtcjmhdneelmbhaaTbRJ
import Derived.Test.YtcjmhdneelmbhaaEqEJ
import Derived.Test.YtcjmhdneelmbhaaAheadLJ
import Derived.ProofKit
namespace Go.Proofs.Ytcjmhdneelmbhaa
open Go.ChangeShapes Go.WideShapes Go.RowKit Go.Deep
set_option linter.unusedVariables false

theorem TabM.frame_below {w w' : World} {K b g bm n : Nat} {U : Nat → Value} {ds : List (List VD)} (h : TabM w K b g bm n U ds) (hf : FrX (TabX b g bm n U) w w') : Below K w w' :=
  ⟨hf.os, hf.tape, hf.output, hf.size, fun y hy => hf.block y (by have := h.lo; have := (h.lt (.inl rfl)).2; omega) (fun hx => by have := (h.lt hx).1; omega)⟩
def dsA : List (List VD) := List.replicate 2 []
def dsB : List (List VD) := putV 2 dsA (1, 4)
theorem res_a : resV 2 dsA (1, 4) = (1, 0) := by decide
theorem res_b : resV 2 dsB (1, 7) = (0, 0) := by decide
theorem in_c : inV 2 (putV 2 dsB (1, 7)) (1, 4) = true := by decide
theorem h_c : hV 2 (putV 2 dsB (1, 7)) (1, 4) = 1 := by decide
set_option maxRecDepth 100000 in
set_option maxHeartbeats 4000000 in
theorem up10_any (w : World) : Calls Try.prog 15 #[] w fun e w' => e = .returned (.bool true) ∧ Below w.heap.size w w' := by
  go_enter Try.func15, Try.ntmps15
  go_wp2_with fail
  refine (new_yes 2 w (by omega) (by omega)).mono ?_
  rintro e w1 ⟨rfl, hb1, hT1⟩
  have HB1 := Lib.hid hb1
  have HT1 : Hid (TabM w1 w.heap.size (w.heap.size + 2) w.heap.size (w.heap.size + 1) 2 (fun _ => .slice none 0 0) dsA) := Lib.hid hT1
  clear hb1 hT1
  go_wp2_with fail
  refine (put_any HT1.out 1 4 (by unfold I64; omega)).mono ?_
  rintro e w2 ⟨rfl, U2, hT2, hf2, hx2⟩
  rw [res_a]
  have HT2 : Hid (TabM w2 w.heap.size (w.heap.size + 2) w.heap.size (w.heap.size + 1) 2 U2 dsB) := Lib.hid hT2
  have HB2 : Hid (Below w.heap.size w w2) := Lib.hid (HB1.out.trans (HT1.out.frame_below hf2))
  clear hT2 hf2 hx2
  have hE : errV 0 = .nilIface := rfl
  rw [hE]
  go_wp2_with fail
  refine (put_any HT2.out 1 7 (by unfold I64; omega)).mono ?_
  rintro e w3 ⟨rfl, U3, hT3, hf3, hx3⟩
  rw [res_b, hE]
  have HT3 := Lib.hid hT3
  have HB3 : Hid (Below w.heap.size w w3) := Lib.hid (HB2.out.trans (HT2.out.frame_below hf3))
  clear hT3 hf3 hx3 hE
  go_wp2_with fail
  refine (find_any HT3.out 1 4 (by unfold I64; omega) (by unfold I64; omega)).mono ?_
  rintro e w4 ⟨rfl, rfl⟩
  rw [in_c, h_c]
  go_wp2_with fail
  go_ret
  exact ⟨rfl, HB3.out⟩
/-- How many drawers a number speaks of. -/
def pickN (c : Int) : Nat := 1 + ((if c < 0 then -(c + 1) else c) % 16).toNat
theorem pickN_in (c : Int) : 1 ≤ pickN c ∧ pickN c ≤ 16 := by
  unfold pickN
  have := Int.emod_nonneg (if c < 0 then -(c + 1) else c) (b := 16) (by omega)
  have := Int.emod_lt_of_pos (if c < 0 then -(c + 1) else c) (b := 16) (by omega)
  omega
theorem pick_any (c : Int) (hc : I64 c) (w : World) : Calls Try.prog 19 #[.int .i64 c] w fun e w' => e = .returned (.int .i64 (pickN c : Int)) ∧ w' = w := by
  obtain ⟨h1, h2⟩ := hc
  by_cases h : c < 0
  · obtain ⟨q, hq⟩ : ∃ q : Nat, -(c + 1) = (q : Int) := ⟨(-(c + 1)).toNat, by omega⟩
    obtain ⟨r, hr, hr1⟩ : ∃ r : Nat, (q : Int) % 16 = r ∧ r < 16 := ⟨q % 16, by omega, by omega⟩
    have HE : Hid ((pickN c : Int) = 1 + r) := Lib.hid (by unfold pickN; rw [if_pos h, hq, hr]; omega)
    have d : decide (c < 0) = true := decide_eq_true h
    go_enter Try.func19, Try.ntmps19
    go_wp2_with fail
    go_ret
    exact ⟨by rw [HE.out]; rfl, rfl⟩
  · have HE : Hid ((pickN c : Int) = 1 + c % 16) := Lib.hid (by unfold pickN; rw [if_neg h]; omega)
    have d : decide (c < 0) = false := decide_eq_false h
    go_enter Try.func19, Try.ntmps19
    go_wp2_with fail
    go_ret
    exact ⟨by rw [HE.out]; rfl, rfl⟩
theorem less_any (x y : VD) (w : World) : Calls Try.prog 23 #[.agg #[.int .i64 x.1, .int .i64 x.2], .agg #[.int .i64 y.1, .int .i64 y.2]] w fun e w' => e = .returned (.bool (ltV x y)) ∧ Below w.heap.size w w' := by
  obtain ⟨x1, x2⟩ := x
  obtain ⟨y1, y2⟩ := y
  dsimp only
  have hB : ∀ A B, Below w.heap.size w ((w.alloc A).alloc B) := fun A B => ((Below.refl _ _).alloc (Nat.le_refl _) _).alloc (by simp) _
  by_cases h1 : x1 < y1
  · have d1 : decide (x1 < y1) = true := decide_eq_true h1
    have HE : Hid (ltV (x1, x2) (y1, y2) = true) := Lib.hid (by unfold ltV; exact decide_eq_true (.inl h1))
    clear h1
    go_enter Try.func23, Try.ntmps23
    go_wp2_with fail
    go_ret
    exact ⟨by rw [HE.out]; rfl, hB _ _⟩
  · have d1 : decide (x1 < y1) = false := decide_eq_false h1
    by_cases h2 : x1 = y1
    · have d2 : (x1 == y1) = true := by simpa using h2
      have HE : Hid (ltV (x1, x2) (y1, y2) = decide (x2 < y2)) := Lib.hid (by unfold ltV; rw [Bool.eq_iff_iff, decide_eq_true_iff, decide_eq_true_iff]; dsimp only; omega)
      clear h1 h2
      go_enter Try.func23, Try.ntmps23
      go_wp2_with fail
      go_ret
      exact ⟨by rw [HE.out]; rfl, hB _ _⟩
    · have d2 : (x1 == y1) = false := by simpa using h2
      have HE : Hid (ltV (x1, x2) (y1, y2) = false) := Lib.hid (by unfold ltV; apply decide_eq_false; dsimp only; omega)
      clear h1 h2
      go_enter Try.func23, Try.ntmps23
      go_wp2_with fail
      go_ret
      exact ⟨by rw [HE.out]; rfl, hB _ _⟩
end Go.Proofs.Ytcjmhdneelmbhaa

/- The walk of InternFull. -/
namespace Go.Proofs.Ytcjmhdneelmbhaa
open Go.ChangeShapes Go.WideShapes Go.RowKit Go.Deep
set_option linter.unusedVariables false

/-- What is in a table after so many puts of rising numbers. -/
structure FullS (n : Nat) (ds : List (List VD)) (i : Nat) : Prop where
  tot : totV ds = min i 4096
  in_ : ∀ y : Int, inV n ds (1, y) = decide (0 ≤ y ∧ y < (min i 4096 : Nat))
theorem may_one (y : Int) : mayV (1, y) = true := by unfold mayV; simp
theorem FullS.start {n : Nat} (h1 : 1 ≤ n) : FullS n (List.replicate n []) 0 := by
  refine ⟨by unfold totV; simp, fun y => ?_⟩
  have : inV n (List.replicate n []) (1, y) = false := by
    unfold inV
    rw [decide_eq_false_iff_not, List.getD_eq_getElem?_getD]
    have := drwV_lt (n := n) (x := (1, y)) h1
    simp [this]
  rw [this]
  symm
  apply decide_eq_false
  simp
theorem FullS.res {n : Nat} {ds : List (List VD)} {i : Nat} (h : FullS n ds i) : (resV n ds (1, (i : Int))).2 = if i < 4096 then 0 else 8 := by
  have hi := h.in_ (i : Int)
  have hf : inV n ds (1, (i : Int)) = false := by rw [hi]; apply decide_eq_false; omega
  unfold resV
  rw [if_neg (by rw [may_one]; decide), if_neg (by rw [hf]; decide), h.tot]
  by_cases hl : i < 4096
  · rw [if_neg (by omega), if_pos hl]
  · rw [if_pos (by omega), if_neg hl]
theorem FullS.step {n : Nat} {ds : List (List VD)} {i : Nat} (h : FullS n ds i) (T : TbOk n ds) : FullS n (putV n ds (1, (i : Int))) (i + 1) := by
  have hi := h.in_ (i : Int)
  have hf : inV n ds (1, (i : Int)) = false := by rw [hi]; apply decide_eq_false; omega
  have ht := h.tot
  unfold putV
  by_cases hl : i < 4096
  · rw [if_pos ⟨may_one _, hf, by omega⟩]
    refine ⟨by rw [T.tot_add]; omega, fun y => ?_⟩
    rw [T.add_in, h.in_, Bool.eq_iff_iff]
    simp only [Bool.or_eq_true, decide_eq_true_eq, Prod.mk.injEq, true_and]
    omega
  · rw [if_neg (fun q => by omega)]
    refine ⟨by omega, fun y => ?_⟩
    rw [h.in_, Bool.eq_iff_iff, decide_eq_true_iff, decide_eq_true_iff]
    omega
theorem FullS.five {n : Nat} {ds : List (List VD)} {i : Nat} (h : FullS n ds i) (hi : 4090 ≤ i) : inV n ds (1, 5) = true := by
  rw [h.in_]
  apply decide_eq_true
  omega
theorem res_in {n : Nat} {ds : List (List VD)} {x : VD} (hm : mayV x = true) (hi : inV n ds x = true) : resV n ds x = (((hV n ds x : Nat) : Int), (0 : Int)) ∧ putV n ds x = ds := by
  unfold resV putV
  rw [if_neg (by rw [hm]; decide), if_pos hi, if_neg (fun q => by rw [hi] at q; cases q.2.1)]
  exact ⟨rfl, rfl⟩
theorem run_neq_iface_int {P : Program} (w : World) {ti tn : TypeId} {ms : Array (String × TypeId)} {i : TypeInfo} {k : IntKind} (a b : Int)
    (hi : P.underlying ti = some (.interface ms)) (hn : P.underlying tn = some (.int k)) (hinfo : P.info? tn = some i) (hcomp : i.comparable = true) :
    (binOp .neq ti (.iface tn (.int k a)) (.iface tn (.int k b))).run P w = .ok (.bool (!(a == b))) w := by
  simp only [binOp]
  simp [Op.equal, Op.maxDepth, run_equalIn_iface_int w 9998 a b hi hn hinfo hcomp]
theorem neqErr (x y : Int) (w : World) : (binOp .neq 30 (.iface 57 (.int .i64 x)) (.iface 57 (.int .i64 y))).run Try.prog w = .ok (.bool (!(x == y))) w :=
  run_neq_iface_int w x y Try.underlying30 Try.underlying57 codeInfo codeComp
set_option maxRecDepth 100000 in
set_option maxHeartbeats 8000000 in
theorem internFull_walk (a nn : Int) (w : World) (ha : I64 a) (hn : I64 nn) : Calls Try.prog 5 #[.int .i64 a, .int .i64 nn] w fun e w' => e = .returned (.bool true) ∧ Below w.heap.size w w' := by
  obtain ⟨h1, h2⟩ := hn
  have HA := Lib.hid ha
  obtain ⟨p, hp⟩ : ∃ p, p = pickN a := ⟨_, rfl⟩
  obtain ⟨hp1, hp2⟩ : 1 ≤ p ∧ p ≤ 16 := by rw [hp]; exact pickN_in a
  have HP := Lib.hid hp
  have hneq : ∀ u, (binOp .neq 30 (.iface 57 (.int .i64 8)) (.iface 57 (.int .i64 8))).run Try.prog u = .ok (.bool false) u := fun u => neqErr 8 8 u
  clear ha hp
  go_enter Try.func5, Try.ntmps5
  go_wp2_with fail
  refine (up10_any w).mono ?_
  rintro e w1 ⟨rfl, hb1⟩
  have HB1 := Lib.hid hb1
  clear hb1
  go_wp2_with fail
  refine (pick_any a HA.out w1).mono ?_
  rintro e w2 ⟨rfl, rfl⟩
  rw [← HP.out]
  go_wp2_with fail
  refine (new_yes p w2 hp1 hp2).mono ?_
  rintro e w3 ⟨rfl, hb3, hT⟩
  obtain ⟨b, hb⟩ : ∃ b, b = w2.heap.size + 2 := ⟨_, rfl⟩
  obtain ⟨g, hg⟩ : ∃ g, g = w2.heap.size := ⟨_, rfl⟩
  obtain ⟨bm, hbm⟩ : ∃ bm, bm = w2.heap.size + 1 := ⟨_, rfl⟩
  rw [← hb, ← hbm] at hT
  rw [← hb]
  obtain ⟨K, hK⟩ : ∃ K, K = w2.heap.size := ⟨_, rfl⟩
  rw [← hK] at hT
  have HT := Lib.hid hT
  have HB3 : Hid (Below w.heap.size w w3) := Lib.hid (HB1.out.trans (hb3.mono HB1.out.size))
  have HK : Hid (w.heap.size ≤ K) := Lib.hid (by rw [hK]; exact HB1.out.size)
  clear hb3 hT hb hg hbm hK
  go_upto_if 30 with fail
  go_cut [1] (fun s1 wx => ∃ q : Nat, s1 = .int .i64 q ∧ (q : Int) ≤ 9223372036854775807 ∧ wx = w3)
  case first =>
    by_cases hn : nn < 0
    · obtain ⟨q, hq⟩ : ∃ q : Nat, -(nn + 1) = (q : Int) := ⟨(-(nn + 1)).toNat, by omega⟩
      have d : decide (nn < 0) = true := decide_eq_true hn
      go_wp2_with fail
      go_meet
      exact ⟨q, by rfl, by omega, rfl⟩
    · obtain ⟨q, rfl⟩ : ∃ q : Nat, nn = (q : Int) := ⟨nn.toNat, by omega⟩
      have d : decide ((q : Int) < 0) = false := decide_eq_false hn
      go_wp2_with fail
      go_meet
      exact ⟨q, rfl, h2, rfl⟩
  case rest =>
  obtain ⟨q, rfl, hq, hwc⟩ := hcut
  obtain rfl : w3 = wc := hwc.symm
  obtain ⟨r, hr, hr1⟩ : ∃ r : Nat, (q : Int) % 10 = r ∧ r < 10 := ⟨q % 10, by omega, by omega⟩
  obtain ⟨N, hN⟩ : ∃ N : Nat, N = 4090 + r := ⟨_, rfl⟩
  have HN := Lib.hid hN
  have hN2 : (4090 : Int) + (r : Int) = (N : Int) := by omega
  clear h1 h2 hN
  go_wp2_with fail
  clear hr hN2 hq
  go_loopw [8] (fun s8 wr => ∃ (i : Nat) (U : Nat → Value) (ds : List (List VD)), i ≤ N ∧ s8 = .int .i64 i ∧ Hid (TabM wr K b K bm p U ds) ∧ Hid (FullS p ds i) ∧ Hid (Below w.heap.size w wr)) (fun s8 _ => N - (intOf s8).toNat)
  case atStart => exact ⟨0, _, _, Nat.zero_le _, rfl, HT, Lib.hid (FullS.start hp1), HB3⟩
  case round =>
    obtain ⟨i, U, ds, hiN, rfl, HTr, HFr, HBr⟩ := hrel
    have HNN : Hid (N ≤ 4099) := Lib.hid (by have := HN.out; omega)
    by_cases hlt : i < N
    · have HI64 : Hid (I64 (i : Int)) := Lib.hid (by have := HNN.out; unfold I64; omega)
      go_wp2_with fail
      refine (put_any HTr.out 1 (i : Int) HI64.out).mono ?_
      rintro e w4 ⟨rfl, U4, hT4, hf4, hx4⟩
      have HT4 := Lib.hid hT4
      have HF4 := Lib.hid (HFr.out.step HTr.out.ok)
      have HB4 : Hid (Below w.heap.size w w4) := Lib.hid (HBr.out.trans ((HTr.out.frame_below hf4).mono HK.out))
      have hres := HFr.out.res
      generalize (resV p ds (1, (i : Int))).1 = hh at *
      rw [hres]
      clear hT4 hf4 hx4 hres
      by_cases h46 : i < 4096
      · have d1 : decide ((i : Int) < 4096) = true := decide_eq_true (by omega)
        have d2 : (i : Int) < 4096 := by omega
        have hE : errV (if i < 4096 then 0 else 8) = .nilIface := by rw [if_pos h46]; rfl
        rw [hE]
        clear hE h46
        go_wp2_with fail
        go_roundw
        case rel => exact ⟨i + 1, U4, _, hlt, by go_num, HT4, HF4, HB4⟩
        case measure => simp [intOf]; omega
      · have d1 : decide ((i : Int) < 4096) = false := decide_eq_false (by omega)
        have d2 : ¬ (i : Int) < 4096 := by omega
        have d3 : (i : Int) ≤ 4098 := by have := HNN.out; omega
        have hE : errV (if i < 4096 then 0 else 8) = .iface 57 (.int .i64 8) := by rw [if_neg h46]; rfl
        rw [hE]
        clear hE h46
        go_wp2_with fail
        go_roundw
        case rel => exact ⟨i + 1, U4, _, hlt, by go_num, HT4, HF4, HB4⟩
        case measure => simp [intOf]; omega
    · obtain rfl : i = N := by omega
      have HFV := Lib.hid (HFr.out.five (by have := HN.out; omega))
      obtain ⟨hres, hput⟩ := res_in (may_one 5) HFV.out
      have HPU := Lib.hid hput
      have HRE := Lib.hid hres
      have htot := HTr.out.tot
      have hdt : decide ((totV ds : Int) ≤ 4096) = true := decide_eq_true (by omega)
      clear hiN hlt hput hres
      go_wp2_with fail
      refine (put_any HTr.out 1 5 (by unfold I64; omega)).mono ?_
      rintro e w4 ⟨rfl, U4, hT4, hf4, hx4⟩
      rw [HPU.out] at hT4
      have HT4 := Lib.hid hT4
      have HB4 : Hid (Below w.heap.size w w4) := Lib.hid (HBr.out.trans ((HTr.out.frame_below hf4).mono HK.out))
      rw [HRE.out]
      have hE : errV 0 = .nilIface := rfl
      dsimp only
      rw [hE]
      have HFD := find_any HT4.out 1 5 (by unfold I64; omega) (by unfold I64; omega)
      rw [HFV.out, if_pos rfl] at HFD
      have HFI := Lib.hid HFD
      have HLE := Lib.hid (len_any HT4.out)
      generalize hV p ds (1, 5) = hh at *
      generalize totV ds = tt at *
      clear hT4 hf4 hx4 hE HFD
      go_wp2_with fail
      refine HFI.out.mono ?_
      rintro e w5 ⟨rfl, rfl⟩
      go_wp2_with fail
      refine HLE.out.mono ?_
      rintro e w6 ⟨rfl, rfl⟩
      go_wp2_with fail
      go_ret
      exact ⟨rfl, HB4.out⟩
end Go.Proofs.Ytcjmhdneelmbhaa

/- Functions and modules that came in as arguments: what they read as. -/
namespace Go.Proofs.Ytcjmhdneelmbhaa
open Go.ChangeShapes Go.WideShapes Go.RowKit Go.Deep
set_option linter.unusedVariables false

section
variable {H : Type} {enc : TypeId × Value → H} {P : Program} {w : World} {base : Nat} {spare : Nat → Bool} {held : Bool}

theorem struct_field {t : TypeId} {fs : Array Field} {fuel : Nat} {cs : List Value} {y : DataW H × List MemPlace} (ht : P.underlying t = some (.struct fs)) (h : DataW.trod enc P w base spare held fuel t cs = some y)
    (i : Nat) (f : Field) (hf : fs[i]? = some f) : ∃ n z, DataW.trod enc P w base spare held n f.type ((cs.drop f.offset).take (P.cellsOf f.type)) = some z := by
  obtain ⟨xs, n, _, _, _, hlen, hx⟩ := DataW.trod_struct ht h
  have hi : i < xs.length := by rw [hlen]; exact (Array.getElem?_eq_some_iff.1 hf).1
  exact ⟨n, xs[i], (hx i f hf).trans (List.getElem?_eq_getElem hi)⟩
theorem field_of {t : TypeId} {fs : Array Field} {fuel : Nat} {cs : List Value} {y : DataW H × List MemPlace} (ht : P.underlying t = some (.struct fs)) (h : DataW.trod enc P w base spare held fuel t cs = some y)
    (i : Nat) {f : Field} (hf : fs[i]? = some f) {t' : TypeId} {c k : Nat} (hft : f.type = t') (hk : f.offset = k) (hc : P.cellsOf t' = c) : ∃ n z, DataW.trod enc P w base spare held n t' ((cs.drop k).take c) = some z := by
  subst hft hk hc
  exact struct_field ht h i f hf
theorem drop_take_one {cs : List Value} {k : Nat} (hk : k < cs.length) : (cs.drop k).take 1 = [cs[k]] := by
  rw [List.drop_eq_getElem_cons hk]; rfl
theorem int_field {t : TypeId} {n k : Nat} {cs : List Value} {z : DataW H × List MemPlace} (ht : P.underlying t = some (.int .i64)) (hk : k < cs.length) (h : DataW.trod enc P w base spare held n t ((cs.drop k).take 1) = some z) :
    ∃ x, cs[k]? = some (.int .i64 x) ∧ I64 x := by
  rw [drop_take_one hk] at h
  obtain ⟨x, hx, _, hw⟩ := DataW.trod_int ht h
  exact ⟨x, by rw [List.getElem?_eq_getElem hk]; exact congrArg some (List.cons.inj hx).1, wf_i64 hw⟩
theorem slice_field {α : Type} [Inhabited α] {t e : TypeId} {sz : Nat} {R : World → Nat → Nat → α → Prop} {n k : Nat} {cs : List Value} {z : DataW H × List MemPlace} (ht : P.underlying t = some (.slice e)) (hsz : P.cellsOf e = sz) (hpos : 0 < sz)
    (hR : Opens enc P w base spare held e sz R) (hk : k < cs.length) (h : DataW.trod enc P w base spare held n t ((cs.drop k).take 1) = some z) : ∃ A c xs, cs[k]? = some (.slice A xs.length c) ∧ SL w sz R A c xs := by
  rw [drop_take_one hk] at h
  obtain ⟨xs, A, c, e, hs⟩ := open_vs ht hsz hpos hR h
  exact ⟨A, c, xs, by rw [List.getElem?_eq_getElem hk, e], hs⟩
end

theorem Try.cells3 : Try.prog.cellsOf 3 = 1 := by kernel_rfl
theorem Try.cells2 : Try.prog.cellsOf 2 = 1 := by kernel_rfl
theorem Try.cells34 : Try.prog.cellsOf 34 = 1 := by kernel_rfl
theorem Try.cells37 : Try.prog.cellsOf 37 = 1 := by kernel_rfl
theorem Try.cells38 : Try.prog.cellsOf 38 = 1 := by kernel_rfl
theorem Try.cells41 : Try.prog.cellsOf 41 = 1 := by kernel_rfl
theorem Try.cells22 : Try.prog.cellsOf 22 = 1 := by kernel_rfl
theorem Try.cells76 : Try.prog.cellsOf 76 = 2 := by kernel_rfl
theorem Try.cells46 : Try.prog.cellsOf 46 = 5 := by kernel_rfl
theorem Try.cells36 : Try.prog.cellsOf 36 = 3 := by kernel_rfl
theorem Try.cells40 : Try.prog.cellsOf 40 = 5 := by kernel_rfl
theorem Try.cells43 : Try.prog.cellsOf 43 = 4 := by kernel_rfl
theorem Try.cells24 : Try.prog.cellsOf 24 = 1 := by kernel_rfl

section
variable {H : Type} {enc : TypeId × Value → H} {w : World} {base : Nat} {spare : Nat → Bool} {held : Bool}

theorem opens_int : Opens enc Try.prog w base spare held 3 1 RInt := fun n b o cs y hlen hat h => by
  obtain ⟨x, rfl, _, hw⟩ := DataW.trod_int Try.underlying3 h
  exact ⟨x, (hat 0 (by omega)).trans rfl, wf_i64 hw⟩
theorem field_int {fs : Array Field} {t : TypeId} {fuel : Nat} {cs : List Value} {y : DataW H × List MemPlace} (ht : Try.prog.underlying t = some (.struct fs)) (h : DataW.trod enc Try.prog w base spare held fuel t cs = some y)
    (i : Nat) (f : Field) (hf : fs[i]? = some f) (hft : f.type = 3) (hk : f.offset < cs.length) : ∃ x, cs[f.offset]? = some (.int .i64 x) ∧ I64 x := by
  obtain ⟨n, z, hz⟩ := struct_field ht h i f hf
  rw [hft, Try.cells3] at hz
  exact int_field Try.underlying3 hk hz
theorem field_int64 {fs : Array Field} {t : TypeId} {fuel : Nat} {cs : List Value} {y : DataW H × List MemPlace} (ht : Try.prog.underlying t = some (.struct fs)) (h : DataW.trod enc Try.prog w base spare held fuel t cs = some y)
    (i : Nat) (f : Field) (hf : fs[i]? = some f) (hft : f.type = 2) (hk : f.offset < cs.length) : ∃ x, cs[f.offset]? = some (.int .i64 x) ∧ I64 x := by
  obtain ⟨n, z, hz⟩ := struct_field ht h i f hf
  rw [hft, Try.cells2] at hz
  exact int_field Try.underlying2 hk hz
theorem field_ints {fs : Array Field} {t : TypeId} {fuel : Nat} {cs : List Value} {y : DataW H × List MemPlace} (ht : Try.prog.underlying t = some (.struct fs)) (h : DataW.trod enc Try.prog w base spare held fuel t cs = some y)
    (i : Nat) (f : Field) (hf : fs[i]? = some f) (hft : f.type = 34) (hk : f.offset < cs.length) : ∃ A c, ∃ xs : List Int, cs[f.offset]? = some (.slice A xs.length c) ∧ SL w 1 RInt A c xs := by
  obtain ⟨n, z, hz⟩ := struct_field ht h i f hf
  rw [hft, Try.cells34] at hz
  exact slice_field Try.underlying34 Try.cells3 (by omega) opens_int hk hz
theorem opens_phi : Opens enc Try.prog w base spare held 76 2 RPhi := fun n b o cs y hlen hat h => by
  obtain ⟨x, h0, w0⟩ := field_int Try.underlying76 h 0 _ rfl rfl (by simp; omega)
  obtain ⟨A, c, xs, h1, w1⟩ := field_ints Try.underlying76 h 1 _ rfl rfl (by simp; omega)
  exact ⟨⟨x, xs⟩, ⟨(hat 0 (by omega)).trans h0, w0⟩, A, c, (hat 1 (by omega)).trans h1, w1⟩
theorem opens_ins : Opens enc Try.prog w base spare held 46 5 RIns := fun n b o cs y hlen hat h => by
  obtain ⟨x0, h0, w0⟩ := field_int Try.underlying46 h 0 _ rfl rfl (by simp; omega)
  obtain ⟨x1, h1, w1⟩ := field_int Try.underlying46 h 1 _ rfl rfl (by simp; omega)
  obtain ⟨A, c, xs, h2, w2⟩ := field_ints Try.underlying46 h 2 _ rfl rfl (by simp; omega)
  obtain ⟨x3, h3, w3⟩ := field_int64 Try.underlying46 h 3 _ rfl rfl (by simp; omega)
  obtain ⟨x4, h4, w4⟩ := field_int Try.underlying46 h 4 _ rfl rfl (by simp; omega)
  exact ⟨⟨x0, x1, xs, x3, x4⟩, ⟨(hat 0 (by omega)).trans h0, w0⟩, ⟨(hat 1 (by omega)).trans h1, w1⟩, ⟨A, c, (hat 2 (by omega)).trans h2, w2⟩, ⟨(hat 3 (by omega)).trans h3, w3⟩, ⟨(hat 4 (by omega)).trans h4, w4⟩⟩
theorem opens_blk : Opens enc Try.prog w base spare held 40 5 RBlk := fun n b o cs y hlen hat h => by
  obtain ⟨n0, z0, hz0⟩ := field_of Try.underlying40 h 0 rfl rfl rfl Try.cells37
  obtain ⟨A0, c0, ps, h0, w0⟩ := slice_field Try.underlying37 Try.cells76 (by omega) opens_phi (by simp; omega) hz0
  obtain ⟨n1, z1, hz1⟩ := field_of Try.underlying40 h 1 rfl rfl rfl Try.cells38
  obtain ⟨A1, c1, is, h1, w1⟩ := slice_field Try.underlying38 Try.cells46 (by omega) opens_ins (by simp; omega) hz1
  obtain ⟨n2, z2, hz2⟩ := field_of Try.underlying40 h 2 rfl rfl rfl Try.cells36
  have hl2 : ((cs.drop 2).take 3).length = 3 := by simp; omega
  obtain ⟨x2, h2, w2⟩ := field_int Try.underlying36 hz2 0 _ rfl rfl (by simp; omega)
  obtain ⟨x3, h3, w3⟩ := field_int Try.underlying36 hz2 1 _ rfl rfl (by simp; omega)
  obtain ⟨A4, c4, xs, h4, w4⟩ := field_ints Try.underlying36 hz2 2 _ rfl rfl (by simp; omega)
  have g (i : Nat) (hi : i < 3) : ((cs.drop 2).take 3)[i]? = cs[2 + i]? := by rw [List.getElem?_take_of_lt hi, List.getElem?_drop]
  exact ⟨⟨ps, is, ⟨x2, x3, xs⟩⟩, ⟨A0, c0, (hat 0 (by omega)).trans h0, w0⟩, ⟨A1, c1, (hat 1 (by omega)).trans h1, w1⟩, ⟨(hat 2 (by omega)).trans ((g 0 (by omega)).symm.trans h2), w2⟩, ⟨(hat 3 (by omega)).trans ((g 1 (by omega)).symm.trans h3), w3⟩, ⟨A4, c4, (hat 4 (by omega)).trans ((g 2 (by omega)).symm.trans h4), w4⟩⟩
theorem opens_fun : Opens enc Try.prog w base spare held 43 4 RFun := fun n b o cs y hlen hat h => by
  obtain ⟨x0, h0, w0⟩ := field_int Try.underlying43 h 0 _ rfl rfl (by simp; omega)
  obtain ⟨x1, h1, w1⟩ := field_int Try.underlying43 h 1 _ rfl rfl (by simp; omega)
  obtain ⟨A2, c2, xs, h2, w2⟩ := field_ints Try.underlying43 h 2 _ rfl rfl (by simp; omega)
  obtain ⟨n3, z3, hz3⟩ := field_of Try.underlying43 h 3 rfl rfl rfl Try.cells41
  obtain ⟨A3, c3, bs, h3, w3⟩ := slice_field Try.underlying41 Try.cells40 (by omega) opens_blk (by simp; omega) hz3
  exact ⟨⟨x0, x1, xs, bs⟩, ⟨(hat 0 (by omega)).trans h0, w0⟩, ⟨(hat 1 (by omega)).trans h1, w1⟩, ⟨A2, c2, (hat 2 (by omega)).trans h2, w2⟩, ⟨A3, c3, (hat 3 (by omega)).trans h3, w3⟩⟩

set_option maxRecDepth 100000 in
/-- A function by value. -/
theorem open_fun {r : Go.Reach} {b0 : Nat} {v : Value} {d : DataW H} {p : List MemPlace} (hv : Value.okWide Try.prog w r b0 43 v) (h : DataW.Trod enc Try.prog w base spare held 43 v d p) : ∃ f, VFun w v f := by
  obtain ⟨cs, rfl, hsz⟩ := okWide_struct Try.underlying43 hv
  rw [Try.cells43] at hsz
  obtain ⟨l⟩ := cs
  match l, hsz with
  | [a, b, c, d], _ =>
    obtain ⟨fuel, hf⟩ := h
    have hf : DataW.trod enc Try.prog w base spare held fuel 43 [a, b, c, d] = some (_, p) := hf
    obtain ⟨x0, h0, w0⟩ := field_int Try.underlying43 hf 0 _ rfl rfl (by simp)
    obtain ⟨x1, h1, w1⟩ := field_int Try.underlying43 hf 1 _ rfl rfl (by simp)
    obtain ⟨A2, c2, xs, h2, w2⟩ := field_ints Try.underlying43 hf 2 _ rfl rfl (by simp)
    obtain ⟨n3, z3, hz3⟩ := field_of Try.underlying43 hf 3 rfl rfl rfl Try.cells41
    obtain ⟨A3, c3, bs, h3, w3⟩ := slice_field Try.underlying41 Try.cells40 (by omega) opens_blk (by simp) hz3
    obtain rfl := Option.some.inj h0
    obtain rfl := Option.some.inj h1
    obtain rfl := Option.some.inj h2
    obtain rfl := Option.some.inj h3
    exact ⟨⟨x0, x1, xs, bs⟩, A2, c2, A3, c3, rfl, w2, w3, w0, w1⟩
set_option maxRecDepth 100000 in
/-- A module by value. -/
theorem open_mod {r : Go.Reach} {b0 : Nat} {v : Value} {d : DataW H} {p : List MemPlace} (hv : Value.okWide Try.prog w r b0 24 v) (h : DataW.Trod enc Try.prog w base spare held 24 v d p) : ∃ m, VMod w v m := by
  obtain ⟨cs, rfl, hsz⟩ := okWide_struct Try.underlying24 hv
  rw [Try.cells24] at hsz
  obtain ⟨l⟩ := cs
  match l, hsz with
  | [a], _ =>
    obtain ⟨fuel, hf⟩ := h
    have hf : DataW.trod enc Try.prog w base spare held fuel 24 [a] = some (_, p) := hf
    obtain ⟨n3, z3, hz3⟩ := field_of Try.underlying24 hf 0 rfl rfl rfl Try.cells22
    obtain ⟨A3, c3, bs, h3, w3⟩ := slice_field Try.underlying22 Try.cells43 (by omega) opens_fun (by simp) hz3
    obtain rfl := Option.some.inj h3
    exact ⟨bs, A3, c3, rfl, w3⟩
end
end Go.Proofs.Ytcjmhdneelmbhaa
