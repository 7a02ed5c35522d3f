/- The document's Waves. -/
import Derived.Test.YtdfiflbkamhchaaCdAJ
import Derived.Test.YtdfiflbkamhchaaCdTJ
import Derived.BigQuiet
import Derived.Test.YtdfiflbkamhchaaCdVJ
namespace Go.Proofs.Ytdfiflbkamhchaa
open Go.ChangeShapes Go.WideShapes Go.RowKit Go.Deep
set_option linter.unusedVariables false

def ToldRw (n : Nat) (V : Nat → Nat) (w : World) (e : Ending) (w' : World) : Prop :=
  ∃ g, e = .returned (.slice (some ⟨g, 0, none⟩) n n) ∧ w'.rowIs g 3 n (fun x => .int .i64 (V x : Int)) ∧ w.heap.size ≤ g ∧ Below w.heap.size w w'
set_option maxRecDepth 100000 in
set_option maxHeartbeats 8000000 in
theorem refWaves_any {n : Nat} {v : Value} {M : Nat → Nat → Bool} {c : Nat → List Nat} {V : Nat → Nat} (w : World) (h : MtR w n v M) (hn : n ≤ 40) (hM : ToOk n c M) (hV : WvV n c V) :
    Calls Try.prog 20 #[v] w (ToldRw n V w) := by
  obtain ⟨A, c0, rfl, hA⟩ := h
  have HA := Lib.hid hA
  have HM := Lib.hid hM
  have HV := Lib.hid hV
  have hmk := run_make_row' (P := Try.prog) 34 3 (.int .i64 0) 8 Try.underlying34 Try.info3 rfl .i64 .i64 n (by omega) (by omega)
  clear hA hM hV
  go_enter Try.func20, Try.ntmps20
  go_upto_region 3 with fail
  obtain ⟨S, hS⟩ : ∃ S, S = w.heap.size := ⟨_, rfl⟩
  obtain ⟨w1, hw1⟩ : ∃ w1, w1 = w.alloc (.cells (madeCells #[.int .i64 0] n) 3) := ⟨_, rfl⟩
  have hr : w1.rowIs S 3 n (fun _ => .int .i64 ((0 : Nat) : Int)) := row_madeQ (by rw [hw1, hS]; exact heap_alloc_new _ _)
  have hb : Below w.heap.size w w1 := by rw [hw1]; exact (Below.refl _ _).alloc (Nat.le_refl _) _
  rw [← hw1, ← hS]
  have HR0 := Lib.hid (And.intro hr hb)
  have HS := Lib.hid hS
  clear hr hb hw1 hmk hS
  go_loopw [4] (fun s4 wq => ∃ (k : Nat) (wf : Nat → Nat), k ≤ n ∧ s4 = .int .i64 (k : Int) ∧ wq.rowIs S 3 n (fun x => .int .i64 (wf x : Int)) ∧ WvI n V M k 0 0 wf ∧ Below w.heap.size w wq) (fun s4 _ => n - (intOf s4).toNat)
  case atStart => exact ⟨0, fun _ => 0, Nat.zero_le _, rfl, HR0.out.1, WvI.start n V M, HR0.out.2⟩
  case round =>
    obtain ⟨k, wf, hk, rfl, hr, hI, hB⟩ := hrel
    obtain ⟨wa, rfl⟩ : ∃ wa, wa = wr := ⟨_, rfl⟩
    have HR := Lib.hid (And.intro hr (And.intro hI hB))
    by_cases hkl : k < n
    · have hk0 : (0 : Int) ≤ k := by omega
      have hk1 : (k : Int) < n := by omega
      clear hr hI hB
      go_upto_region 6 with fail
      go_loopw [5] (fun s5 wq => ∃ (a : Nat) (wf : Nat → Nat), a ≤ n ∧ s5 = .int .i64 (a : Int) ∧ wq.rowIs S 3 n (fun x => .int .i64 (wf x : Int)) ∧ WvI n V M k a 0 wf ∧ Below w.heap.size w wq) (fun s5 _ => n - (intOf s5).toNat)
      case atStart => exact ⟨0, wf, Nat.zero_le _, rfl, HR.out.1, HR.out.2.1, HR.out.2.2⟩
      case round =>
        obtain ⟨a, wf2, ha, rfl, hr, hI, hB⟩ := hrel
        obtain ⟨wb, rfl⟩ : ∃ wb, wb = wr := ⟨_, rfl⟩
        have HR2 := Lib.hid (And.intro hr (And.intro hI hB))
        by_cases hal : a < n
        · obtain ⟨g, qa, rfl, eA, eAB⟩ := HA.out a hal
          have HEA := Lib.hid (And.intro eA eAB)
          have ha0 : (0 : Int) ≤ a := by omega
          have ha1 : (a : Int) < n := by omega
          clear hr hI hB eA eAB
          go_upto_region 9 with fail
          go_loopw [6] (fun s6 wq => ∃ (b : Nat) (wf : Nat → Nat), b ≤ n ∧ s6 = .int .i64 (b : Int) ∧ wq.rowIs S 3 n (fun x => .int .i64 (wf x : Int)) ∧ WvI n V M k a b wf ∧ Below w.heap.size w wq) (fun s6 _ => n - (intOf s6).toNat)
          case atStart => exact ⟨0, wf2, Nat.zero_le _, rfl, HR2.out.1, HR2.out.2.1, HR2.out.2.2⟩
          case round =>
            obtain ⟨b, wf3, hb, rfl, hr, hI, hB⟩ := hrel
            obtain ⟨wc, rfl⟩ : ∃ wc, wc = wr := ⟨_, rfl⟩
            have HR3 := Lib.hid (And.intro hr (And.intro hI hB))
            by_cases hbl : b < n
            · obtain ⟨g', qb, e1, eB, eBA⟩ := HA.out b hbl
              simp only [Option.some.injEq, Addr.mk.injEq, and_true] at e1
              subst e1
              have hkp := kept_of_below hB
              have dA := hkp _ _ HEA.out.1
              have dAB := hkp _ _ (HEA.out.2 b hbl)
              have dB := hkp _ _ eB
              have dBA := hkp _ _ (eBA a hal)
              have g1 := hr.cell hal
              have g2 := hr.cell hbl
              have g3 := hr.frozen a
              have hNX := hI.next HV.out HM.out hal hbl
              unfold wvU at hNX
              have hbd1 := hI.bound HV.out hal
              have hbd2 := hI.bound HV.out hbl
              obtain ⟨xa, hxa⟩ : ∃ xa, xa = wf3 a := ⟨_, rfl⟩
              obtain ⟨xb, hxb⟩ : ∃ xb, xb = wf3 b := ⟨_, rfl⟩
              rw [← hxa, ← hxb] at hNX
              rw [← hxa] at g1 hbd1
              rw [← hxb] at g2 hbd2
              have hb0 : (0 : Int) ≤ b := by omega
              have hb1 : (b : Int) < n := by omega
              cases hAB : M a b
              · rw [hAB] at dAB hNX
                have HNX := Lib.hid hNX
                clear hr hI hB hkp eB eBA hNX hxa hxb hAB
                go_upto_region 11 with fail
                go_big_quiet (fail)
                go_wp2_with fail
                go_roundw
                case rel => exact ⟨b + 1, wf3, by omega, by go_num, HR3.out.1, HNX.out, below_dN HR3.out.2.2 _⟩
                case measure => simp [intOf]; omega
              · cases hBA : M b a
                · rw [hAB] at dAB hNX
                  rw [hBA] at dBA hNX
                  by_cases hle : xa ≤ xb
                  · have hd1 : decide (xa ≤ xb) = true := decide_eq_true hle
                    rw [hd1] at hNX
                    have HNX := Lib.hid hNX
                    clear hr hI hB hkp eB eBA hNX hxa hxb hAB hBA
                    go_upto_region 11 with fail
                    go_big_quiet (fail)
                    go_wp2_with fail
                    go_roundw
                    case rel => exact ⟨b + 1, updN wf3 a (xb + 1), by omega, by go_num, (HR3.out.1.set a _).congr fun x _ => by
                        by_cases e : x = a
                        · subst e; rw [updN_here]; simp
                        · rw [updN_else _ _ e, if_neg e], HNX.out, (below_dN HR3.out.2.2 _).setCell (by show w.heap.size ≤ S; rw [HS.out]; exact Nat.le_refl _) _⟩
                    case measure => simp [intOf]; omega
                  · have hd1 : decide (xa ≤ xb) = false := decide_eq_false hle
                    rw [hd1] at hNX
                    have HNX := Lib.hid hNX
                    clear hr hI hB hkp eB eBA hNX hxa hxb hAB hBA
                    go_upto_region 11 with fail
                    go_big_quiet (fail)
                    go_wp2_with fail
                    go_roundw
                    case rel => exact ⟨b + 1, wf3, by omega, by go_num, HR3.out.1, HNX.out, below_dN HR3.out.2.2 _⟩
                    case measure => simp [intOf]; omega
                · rw [hAB] at dAB hNX
                  rw [hBA] at dBA hNX
                  have HNX := Lib.hid hNX
                  clear hr hI hB hkp eB eBA hNX hxa hxb hAB hBA
                  go_upto_region 11 with fail
                  go_big_quiet (fail)
                  go_wp2_with fail
                  go_roundw
                  case rel => exact ⟨b + 1, wf3, by omega, by go_num, HR3.out.1, HNX.out, below_dN HR3.out.2.2 _⟩
                  case measure => simp [intOf]; omega
            · obtain rfl : n = b := by omega
              have HNX := Lib.hid (hI.row HV.out HM.out hal)
              clear hr hI hB
              go_wp2_with fail
              go_roundw
              case rel => exact ⟨a + 1, wf3, by omega, by go_num, HR3.out.1, HNX.out, HR3.out.2.2⟩
              case measure => simp [intOf]; omega
        · obtain rfl : n = a := by omega
          have HNX := Lib.hid hI.round
          clear hr hI hB
          go_wp2_with fail
          go_roundw
          case rel => exact ⟨k + 1, wf2, by omega, by go_num, HR2.out.1, HNX.out, HR2.out.2.2⟩
          case measure => simp [intOf]; omega
    · obtain rfl : n = k := by omega
      have HD := Lib.hid (hI.done HV.out)
      clear hr hI hB
      go_wp2_with fail
      go_ret
      exact ⟨S, rfl, HR.out.1.congr fun x hx => by rw [HD.out x hx], by rw [HS.out]; exact Nat.le_refl _, HR.out.2.2⟩
end Go.Proofs.Ytdfiflbkamhchaa

/- The walk of CallsTells. -/
namespace Go.Proofs.Ytdfiflbkamhchaa
open Go.ChangeShapes Go.WideShapes Go.RowKit Go.Deep
set_option linter.unusedVariables false

def wanK (f : FunD) (b : Nat) : List Nat := (List.range b).filter (callB f)
theorem wanK_yes {f : FunD} {b : Nat} (h : callB f b = true) : wanK f (b + 1) = wanK f b ++ [b] := by
  unfold wanK; rw [List.range_succ, List.filter_append, List.filter_cons_of_pos h]; simp
theorem wanK_no {f : FunD} {b : Nat} (h : callB f b = false) : wanK f (b + 1) = wanK f b := by
  unfold wanK; rw [List.range_succ, List.filter_append, List.filter_cons_of_neg (by rw [h]; simp)]; simp
theorem wanK_len (f : FunD) (b : Nat) : (wanK f b).length ≤ b := by
  unfold wanK
  have := List.length_filter_le (callB f) (List.range b)
  rw [List.length_range] at this; exact this
theorem wanK_all {m : List FunD} {a : Nat} {f : FunD} (h : m[a]? = some f) : wanK f m.length = cF m a := by unfold wanK cF; rw [h]
theorem vsR_keep {W W' : World} {v : Value} {xs : List (List Int)} (hk : Kept W W') (h : VS W 1 RRow v xs) : VS W' 1 RRow v xs := by
  obtain ⟨A, c, e, h1⟩ := h
  exact ⟨A, c, e, SL.keep hk (fun b o x => RRow.keep hk b o x) h1⟩
theorem vs2_keep {W W' : World} {v : Value} {xs : List (List (List Int))} (hk : Kept W W') (h : VS W 1 R2 v xs) : VS W' 1 R2 v xs := by
  obtain ⟨A, c, e, h1⟩ := h
  exact ⟨A, c, e, SL.keep hk (fun b o x => R2.keep hk b o x) h1⟩
theorem CallsM.keep {W W' : World} {n G : Nat} {V : Nat → Value} {c : Nat → List Nat} (h : CallsM W n G V c) (hb : Below W.heap.size W W') : CallsM W' n G V c :=
  ⟨h.row.of_block (hb.block G h.row.lt), fun i hi => by
    obtain ⟨A, c, e, h⟩ := h.vs i hi
    exact ⟨A, c, e, SInts.keep (kept_of_below hb) h⟩⟩

theorem ints_same (a : List Int) (v u : Value) (w : World) (hv : VS w 1 RInt v a) (hu : VS w 1 RInt u a) :
    Calls Try.prog 22 #[v, u] w fun e w' => e = .returned (.bool true) ∧ ∃ n, w' = w.drewN n := (intsS_any a a v u w hv hu).mono fun e w' h => ⟨by rw [h.1]; simp, h.2⟩
theorem vsR_sl {W : World} {A : Option Addr} {n c : Nat} {xs : List (List Int)} (h : VS W 1 RRow (.slice A n c) xs) : SL W 1 RRow A c xs := by
  obtain ⟨A', c', e, h1⟩ := h
  simp only [Value.slice.injEq] at e
  obtain ⟨rfl, -, rfl⟩ := e
  exact h1
theorem vs2_sl {W : World} {A : Option Addr} {n c : Nat} {xs : List (List (List Int))} (h : VS W 1 R2 (.slice A n c) xs) : SL W 1 R2 A c xs := by
  obtain ⟨A', c', e, h1⟩ := h
  simp only [Value.slice.injEq] at e
  obtain ⟨rfl, -, rfl⟩ := e
  exact h1
theorem rInt_drew {W : World} {A : Option Addr} {c : Nat} {xs : List Int} (h : SL W 1 RInt A c xs) (k : Nat) : VS (W.drewN k) 1 RInt (.slice A xs.length c) xs := ⟨A, c, rfl, SInts.keep (fun _ _ h => h) h⟩
theorem natI_at {l : List Nat} {i : Nat} {x : Int} (h : (natI l)[i]? = some x) : ∃ y, l[i]? = some y ∧ x = (y : Int) := by
  unfold natI at h
  rw [List.getElem?_map] at h
  obtain ⟨y, hy, rfl⟩ := Option.map_eq_some_iff.1 h
  exact ⟨y, hy, rfl⟩
theorem mapI_at {D : List (List Nat)} {i : Nat} {x : List Int} {r : List Nat} (hr : D[i]? = some r) (h : (D.map natI)[i]? = some x) : x = natI r := by
  rw [List.getElem?_map, hr] at h
  exact (Option.some.inj h).symm

set_option maxRecDepth 100000 in
set_option maxHeartbeats 16000000 in
theorem callsTells_walk (m : List FunD) (v : Value) (w : World) (hv : VMod w v m) :
    Calls Try.prog 4 #[v] w fun e w' => e = .returned (.bool true) ∧ Below w.heap.size w w' := by
  have hv0 := hv
  obtain ⟨Am, cm, rfl, hm⟩ := hv
  have HV := Lib.hid hv0
  obtain ⟨i0, hi, hz0, hz1, hz2⟩ := info_parts Try.info3
  have HI := Lib.hid (And.intro hi (And.intro hz0 (And.intro hz1 hz2)))
  clear hm hv0 hi hz0 hz1 hz2
  go_enter Try.func4, Try.ntmps4
  go_upto_region 1 with fail
  obtain ⟨w1, hw1, hs1, hk1, hbel1, hc1, -⟩ := named w #[.slice Am m.length cm] 24
  rw [← hw1]
  have c0 : w1.cell? ⟨w.heap.size, 0, none⟩ = some (.slice Am m.length cm) := hc1 0 _ rfl
  have HB1 := Lib.hid hbel1
  have HC0 := Lib.hid c0
  obtain ⟨N, hN⟩ : ∃ N, N = w.heap.size := ⟨_, rfl⟩
  rw [← hN] at c0 HC0 ⊢
  clear hw1 hs1 hk1 hc1 hbel1 hN
  go_wp2_with fail
  refine (up9_any w1).mono ?_
  rintro e w2 ⟨rfl, hb2⟩
  have c0 := kept_of_below hb2 _ _ c0
  have HB2 : Hid (Below w1.heap.size w1 w2) := Lib.hid hb2
  clear hb2
  go_wp2_with fail
  refine (small_any m _ w2 (VMod.keep (kept_of_below (HB1.out.trans (HB2.out.mono HB1.out.size))) HV.out)).mono ?_
  rintro e w3 ⟨⟨bs, rfl, hsm⟩, hb3⟩
  have c0 := kept_of_below hb3 _ _ c0
  have HB3 : Hid (Below w1.heap.size w1 w3) := Lib.hid (HB2.out.trans (hb3.mono HB2.out.size))
  have HVW : Hid (∀ W, Below w1.heap.size w1 W → VMod W (.agg #[.slice Am m.length cm]) m) := Lib.hid (fun W h => VMod.keep (kept_of_below (HB1.out.trans (h.mono HB1.out.size))) HV.out)
  cases bs
  · clear hb3 hsm
    go_wp2_with fail
    go_ret
    exact ⟨rfl, HB1.out.trans (HB3.out.mono HB1.out.size)⟩
  · have HSM := Lib.hid (hsm rfl)
    clear hb3 hsm
    go_wp2_with fail
    refine (callsOf_any m _ w3 (HVW.out _ HB3.out) HSM.out).mono ?_
    rintro e w4 ⟨G, V, rfl, -, hCM, hb4⟩
    have c0 := kept_of_below hb4 _ _ c0
    have HB4 : Hid (Below w1.heap.size w1 w4) := Lib.hid (HB3.out.trans (hb4.mono HB3.out.size))
    have HCM := Lib.hid hCM
    clear hb4 hCM
    go_wp2_with fail
    refine (rings_any m _ w4 (HVW.out _ HB4.out) HSM.out).mono ?_
    rintro e w5 ⟨v5, V5, rs5, l5, rfl, hR5, hK5, hM5, hb5⟩
    have c0 := kept_of_below hb5 _ _ c0
    have HB5 : Hid (Below w1.heap.size w1 w5) := Lib.hid (HB4.out.trans (hb5.mono HB4.out.size))
    have HCM5 := Lib.hid (HCM.out.keep hb5)
    have HR5 := Lib.hid (And.intro hR5 hK5)
    have hbd : ∀ r ∈ l5, r.length ≤ 1000 ∧ ∀ f ∈ r, f < 1000 := fun r hr => by
      have h1 := (hK5.mem r).1 hr
      have h2 := hR5.len h1
      have h3 := HSM.out.1
      exact ⟨by omega, fun f hf => by have := hR5.lt h1 hf; omega⟩
    have HV5 := Lib.hid (hM5.vs hbd)
    obtain ⟨A5, c5, rfl⟩ := own_sliceL hM5.row
    clear hb5 hR5 hK5 hM5 hbd HCM
    go_wp2_with fail
    refine (waves_order m _ w5 (HVW.out _ HB5.out) HSM.out).mono ?_
    rintro e w6 ⟨v6, rs, lx, wv, rfl, hF, hWV, hb6, hOrd⟩
    have c0 := kept_of_below hb6 _ _ c0
    have HB6 : Hid (Below w1.heap.size w1 w6) := Lib.hid (HB5.out.trans (hb6.mono HB5.out.size))
    have HCM6 := Lib.hid (HCM5.out.keep hb6)
    have HV6 := Lib.hid (vsR_keep (kept_of_below hb6) HV5.out)
    have HF := Lib.hid (And.intro hF hOrd)
    have HWV := Lib.hid hWV
    obtain ⟨Aw, cw, rfl, -⟩ := hWV
    clear hb6 hF hOrd HCM5 HV5
    go_wp2_with fail
    refine (refTo_any m _ w6 (HVW.out _ HB6.out) HSM.out).mono ?_
    rintro e w7 ⟨v7, M, rfl, hTo, hMR, hb7⟩
    have c0 := kept_of_below hb7 _ _ c0
    have HB7 : Hid (Below w1.heap.size w1 w7) := Lib.hid (HB6.out.trans (hb7.mono HB6.out.size))
    have HCM7 := Lib.hid (HCM6.out.keep hb7)
    have HV7 := Lib.hid (vsR_keep (kept_of_below hb7) HV6.out)
    have HWV7 := Lib.hid (vs2_keep (kept_of_below hb7) HWV.out)
    have HTo := Lib.hid hTo
    have HMR := Lib.hid hMR
    clear hb7 hTo hMR HCM6 HV6 HWV
    go_wp2_with fail
    refine (refRings_any w7 HMR.out (by have := HSM.out.1; omega)).mono ?_
    rintro e w8 ⟨v8, V8, rfl, hM8, hb8⟩
    have c0 := kept_of_below hb8 _ _ c0
    have HB8 : Hid (Below w1.heap.size w1 w8) := Lib.hid (HB7.out.trans (hb8.mono HB7.out.size))
    have HCM8 := Lib.hid (HCM7.out.keep hb8)
    have HV8 := Lib.hid (vsR_keep (kept_of_below hb8) HV7.out)
    have HWV8 := Lib.hid (vs2_keep (kept_of_below hb8) HWV7.out)
    have HMR8 := Lib.hid (HMR.out.keep (kept_of_below hb8))
    obtain ⟨D, hD⟩ : ∃ D, D = docR m.length (mtF M) := ⟨_, rfl⟩
    have hl5 : l5 = D := by rw [hD]; exact HR5.out.2.docR HR5.out.1 HTo.out.mt
    subst hl5
    have HD := Lib.hid hD
    rw [← hD] at hM8
    have hbd : ∀ r ∈ l5, r.length ≤ 1000 ∧ ∀ f ∈ r, f < 1000 := fun r hr => by
      have h1 := (HR5.out.2.mem r).1 hr
      have h2 := HR5.out.1.len h1
      have h3 := HSM.out.1
      exact ⟨by omega, fun f hf => by have := HR5.out.1.lt h1 hf; omega⟩
    have HVD := Lib.hid (hM8.vs hbd)
    obtain ⟨A8, c8, rfl⟩ := own_sliceL hM8.row
    clear hb8 hM8 hbd HCM7 HV7 HWV7 hD HMR
    go_wp2_with fail
    have HWvV : Hid (WvV m.length (cF m) (fun a => wv a - 1)) := Lib.hid (by
      obtain ⟨ws, h1, -⟩ := HF.out.1.wo
      exact h1.v HF.out.1.ra (fun f g h => cF_lt f g h))
    refine (refWaves_any w8 HMR8.out (by have := HSM.out.1; omega) HTo.out HWvV.out).mono ?_
    rintro e w9 ⟨gv, rfl, hgv, -, hb9⟩
    have c0 := kept_of_below hb9 _ _ c0
    have HB9 : Hid (Below w1.heap.size w1 w9) := Lib.hid (HB8.out.trans (hb9.mono HB8.out.size))
    have HALL : Hid (∀ W, Below w9.heap.size w9 W → CallsM W m.length G V (cF m) ∧ VS W 1 RRow (.slice A5 l5.length c5) (l5.map natI) ∧ VS W 1 RRow (.slice A8 l5.length c8) (l5.map natI) ∧ VS W 1 R2 (.slice Aw (wz rs lx).length cw) (wz rs lx) ∧ W.rowIs gv 3 m.length (fun x => .int .i64 ((wv x - 1 : Nat) : Int)) ∧ Below w1.heap.size w1 W) := Lib.hid (fun W hW => by
      have h1 := HCM8.out.keep hb9
      have k9 := kept_of_below hb9
      have kW := kept_of_below hW
      exact ⟨h1.keep hW, vsR_keep kW (vsR_keep k9 HV8.out), vsR_keep kW (vsR_keep k9 HVD.out), vs2_keep kW (vs2_keep k9 HWV8.out), hgv.of_block (hW.block gv hgv.lt), HB9.out.trans (hW.mono HB9.out.size)⟩)
    obtain ⟨n, hn⟩ : ∃ n, n = m.length := ⟨_, rfl⟩
    have HN := Lib.hid hn
    have hn40 := HSM.out.1
    have hld := HR5.out.1.few
    have hld2 := HR5.out.2.len
    obtain ⟨ld, hld3⟩ : ∃ ld, ld = l5.length := ⟨_, rfl⟩
    have hwzl : (wz rs lx).length = lx.length := by unfold wz; simp
    obtain ⟨lw, hlw⟩ : ∃ lw, lw = lx.length := ⟨_, rfl⟩
    have hlw40 : lw ≤ 40 := by
      obtain ⟨ws, h1, h2⟩ := HF.out.1.wo
      have h3 := h1.few
      have h4 := HF.out.1.ra.few
      omega
    have HLD := Lib.hid hld3
    have HLW := Lib.hid hlw
    rw [hwzl, ← hlw] at HALL
    rw [← hn, ← hld3] at HALL
    rw [← hn] at hn40 c0 hld
    rw [← hld2, ← hld3] at hld
    rw [← hld3, ← hn, hwzl, ← hlw]
    clear hb9 hgv hn hld2 hld3 hwzl hlw HCM8 HV8 HVD HWV8 HMR8 HB2 HB3 HB4 HB5 HB6 HB7 HB8
    go_upto_region 14 with fail
    have HVN : Hid (∀ W, Below w1.heap.size w1 W → VMod W (.agg #[.slice Am n cm]) m) := Lib.hid (fun W h => by rw [HN.out]; exact HVW.out W h)
    have HC9 := Lib.hid c0
    clear c0
    go_loopw [11] (fun s11 wq => ∃ a : Nat, a ≤ n ∧ s11 = .int .i64 (a : Int) ∧ Below w9.heap.size w9 wq) (fun s11 _ => n - (intOf s11).toNat)
    case atStart => exact ⟨0, Nat.zero_le _, rfl, Below.refl _ _⟩
    case round =>
      obtain ⟨a, ha, rfl, hB⟩ := hrel
      obtain ⟨wa, rfl⟩ : ∃ wa, wa = wr := ⟨_, rfl⟩
      have HBa := Lib.hid hB
      by_cases hal : a < n
      · obtain ⟨f, hf⟩ : ∃ f, m[a]? = some f := ⟨_, List.getElem?_eq_getElem (by rw [← HN.out]; exact hal)⟩
        have HF1 := Lib.hid hf
        have ha0 : (0 : Int) ≤ a := by omega
        have ha1 : (a : Int) < n := by omega
        clear hB hf
        go_upto_region 18 with fail
        go_loopw [12, 13] (fun s12 s13 wq => ∃ (b : Nat) (vo : Value), b ≤ n ∧ s13 = .int .i64 (b : Int) ∧ s12 = vo ∧ wq.ownsRow w9.heap.size 3 1 vo (wanK f b).length (natV (wanK f b)) ∧ Below w9.heap.size w9 wq) (fun _ s13 _ => n - (intOf s13).toNat)
        case atStart => exact ⟨0, _, Nat.zero_le _, rfl, rfl, World.ownsRow_nil _ _ _ _, HBa.out⟩
        case round =>
          obtain ⟨b, vo, hb, rfl, hvo, hown, hB⟩ := hrel
          obtain rfl := hvo.symm
          obtain ⟨wb, rfl⟩ : ∃ wb, wb = wr := ⟨_, rfl⟩
          have HOW := Lib.hid (And.intro hown hB)
          by_cases hbl : b < n
          · have hlen := wanK_len f b
            have c0 := kept_of_below hB _ _ HC9.out
            have hb0 : (0 : Int) ≤ b := by omega
            have hb1 : (b : Int) < n := by omega
            clear hown hB
            go_wp2_with fail
            refine (refCalls_any m _ wb (HVN.out _ (HB9.out.trans (HOW.out.2.mono HB9.out.size))) HSM.out HF1.out (by omega)).mono ?_
            rintro e w5 ⟨rfl, hb5⟩
            have HB5 : Hid (Below w9.heap.size w9 w5) := Lib.hid (HOW.out.2.trans (hb5.mono HOW.out.2.size))
            have HO5 : Hid (w5.ownsRow w9.heap.size 3 1 vo (wanK f b).length (natV (wanK f b))) := Lib.hid (ownsRow_block HOW.out.1 fun g hg => hb5.block g (HOW.out.1.lt g hg).2)
            clear hb5 c0
            cases hcb : callB f b
            · have HNX : Hid (wanK f (b + 1) = wanK f b) := Lib.hid (wanK_no hcb)
              clear hcb
              go_wp2_with fail
              go_roundw
              case rel => exact ⟨b + 1, _, by omega, by go_num, rfl, by rw [HNX.out]; exact HO5.out, HB5.out⟩
              case measure => simp [intOf]; omega
            · have HNX : Hid (wanK f (b + 1) = wanK f b ++ [b]) := Lib.hid (wanK_yes hcb)
              clear hcb
              go_wp2_with (at_builtin; refine wpList_append_lies _ rfl (.tmp 68) (.tmp 70) 34 rfl w9.heap.size 3 i0 (.int .i64 0) 1 8 Try.underlying34 HI.out.1 HI.out.2.1 HI.out.2.2.1 HI.out.2.2.2 rfl (by decide) _ _ _ rfl (HO5.out.alloc _) ⟨w5.heap.size, 0, none⟩ 1 1 [.int .i64 (b : Int)] rfl rfl ?e1 ?e2 (by decide) ?e3 ?e4 ?e5 (w5.heap.size + 1) ?e6 ?_)
              case e1 => exact news_one_add w5 _ _ rfl
              case e2 => exact ints_oneCell .i64 [(b : Int)]
              case e3 => unfold maxLen; omega
              case e4 => omega
              case e5 => have := HB5.out.size; simp; omega
              case e6 => simp
              intro g6 cap6 w6 hown6 hgrow6 hloc6 hlt6
              have HB6 : Hid (Below w9.heap.size w9 w6) := Lib.hid ((HB5.out.alloc HB5.out.size _).grown hgrow6 (by have h1 := HB5.out.size; simp; omega) (fun g' hg' => (HO5.out.lt g' hg').1))
              have HO6 := Lib.hid hown6
              clear hown6 hgrow6 hloc6 hlt6
              go_wp2_with fail
              go_roundw
              case rel =>
                refine ⟨b + 1, _, by omega, by go_num, rfl, ?_, HB6.out⟩
                rw [HNX.out]
                simpa [natV] using HO6.out
              case measure => simp [intOf]; omega
          · obtain rfl : n = b := by omega
            have hwan : wanK f n = cF m a := by rw [HN.out]; exact wanK_all HF1.out
            rw [hwan] at hown
            have hwan2 : VS wb 1 RInt vo (natI (cF m a)) := by
              rw [← natI_v, ← natI_len] at hown
              exact vs_of_own hown (fun x hx => by
                unfold natI at hx
                obtain ⟨y, hy, rfl⟩ := List.mem_map.1 hx
                have := cF_lt a y hy
                have := HN.out
                unfold I64; omega)
            have hcm := (HALL.out wb hB).1
            have d0 := hcm.row.cell hal
            have HIN := Lib.hid (ints_same (natI (cF m a)) (V a) vo wb (hcm.vs a hal) hwan2)
            clear hown hwan hwan2 hcm
            go_wp2_with fail
            refine HIN.out.mono ?_
            rintro e w5 ⟨rfl, nq, rfl⟩
            clear hB d0 HIN
            go_wp2_with fail
            go_roundw
            case rel => exact ⟨a + 1, by omega, by go_num, below_dN HOW.out.2 _⟩
            case measure => simp [intOf]; omega
      · obtain rfl : n = a := by omega
        clear hB
        go_upto_region 27 with fail
        have HKY : Hid (∀ r ∈ l5, kyR r < n ∧ r ≠ [] ∧ 1 ≤ wv (kyR r) ∧ wv (kyR r) ≤ lw) := Lib.hid (fun r hr => by
          have h1 : r ∈ rs5 := (HR5.out.2.mem r).1 hr
          have h2 : r ≠ [] := HR5.out.1.o.ne r h1
          have h3 := HR5.out.1.lt h1 (kyR_mem h2)
          have h4 : r ∈ rs := (docR_mem HF.out.1.ra HTo.out.mt r).1 (by rw [← HD.out]; exact hr)
          obtain ⟨ws, h5, h6⟩ := HF.out.1.wo
          have h7 := h5.pos r h4 _ (kyR_mem h2)
          exact ⟨by rw [HN.out]; exact h3, h2, h7.1, by rw [HLW.out, ← h6]; exact h7.2⟩)
        go_loopw [15, 16] (fun s15 s16 wq => ∃ i mo : Nat, i ≤ ld ∧ s16 = .int .i64 (i : Int) ∧ s15 = .int .i64 (mo : Int) ∧ mo = mostK wv l5 i ∧ mo ≤ lw ∧ Below w9.heap.size w9 wq) (fun _ s16 _ => ld - (intOf s16).toNat)
        case atStart => exact ⟨0, 0, Nat.zero_le _, rfl, rfl, rfl, Nat.zero_le _, HBa.out⟩
        case round =>
          obtain ⟨i, mo, hi, rfl, rfl, hmo, hmo2, hB⟩ := hrel
          obtain ⟨wc, rfl⟩ : ∃ wc, wc = wr := ⟨_, rfl⟩
          have HMO := Lib.hid hmo
          have HBc := Lib.hid hB
          by_cases hil : i < ld
          · obtain ⟨r, hr⟩ : ∃ r, l5[i]? = some r := ⟨_, List.getElem?_eq_getElem (by rw [← HLD.out]; exact hil)⟩
            have hAL := HALL.out wc hB
            obtain ⟨b5, o5, x5, rfl, hx5, A3, c3, y5, z5⟩ := (vsR_sl hAL.2.1).at_ (k := i) (by rw [List.length_map, ← HLD.out]; exact hil)
            obtain ⟨b8, o8, x8, rfl, hx8, A4, c4, y8, z8⟩ := (vsR_sl hAL.2.2.1).at_ (k := i) (by rw [List.length_map, ← HLD.out]; exact hil)
            obtain rfl := mapI_at hr hx5.out
            obtain rfl := mapI_at hr hx8.out
            have hky := HKY.out r (List.mem_of_getElem? hr)
            obtain ⟨b4, o4, x4, rfl, hx4, e4, -⟩ := z8.int (k := 0) (by rw [natI_len]; exact List.length_pos_iff.2 hky.2.1)
            obtain ⟨ky, hk4, rfl⟩ := natI_at hx4.out
            have hkyr : kyR r = ky := by
              cases hq : r with
              | nil => exact absurd hq hky.2.1
              | cons a t => rw [hq] at hk4; exact Option.some.inj hk4
            rw [hkyr] at hky
            have g1 := hAL.2.2.2.2.1.cell hky.1
            obtain ⟨wk, hwk⟩ : ∃ wk, wk = wv ky - 1 := ⟨_, rfl⟩
            have hwk1 : wv ky = wk + 1 := by have := hky.2.2.1; omega
            rw [← hwk] at g1
            have hwk40 : wk + 1 ≤ lw := by rw [← hwk1]; exact hky.2.2.2
            have hms : mostK wv l5 (i + 1) = max mo (wk + 1) := by rw [mostK_succ hr, ← hmo, hkyr, hwk1]
            have HC1 : Hid (∀ k, Calls Try.prog 22 #[.slice A3 (natI r).length c3, .slice (some ⟨b4, o4, none⟩) (natI r).length c4] (wc.drewN k) fun e w' => e = .returned (.bool true) ∧ ∃ m, w' = (wc.drewN k).drewN m) := Lib.hid (fun k => ints_same (natI r) _ _ _ (rInt_drew z5 k) (rInt_drew z8 k))
            obtain ⟨lr, hlr⟩ : ∃ lr, lr = (natI r).length := ⟨_, rfl⟩
            have hlr0 : (0 : Int) < lr := by
              have := List.length_pos_iff.2 hky.2.1
              rw [hlr, natI_len]; omega
            rw [← hlr] at HC1 y5 y8
            rw [Nat.mul_one] at y5 y8
            rw [Nat.add_zero] at e4
            have hkyn := hky.1
            have hi0 : (0 : Int) ≤ i := by omega
            have hi1 : (i : Int) < ld := by omega
            have hky0 : (0 : Int) ≤ ky := by omega
            have hky1 : (ky : Int) < n := by omega
            clear hB hmo hr hAL hx5 hx8 hx4 hk4 hky hwk hkyr z5 z8 hlr
            go_upto_region 29 with fail
            go_big_quiet ((go_at_call 22; exact Calls.quiet_of (HC1.out _)))
            obtain ⟨wq, hwq⟩ : ∃ wq, wq = wc.drewN nq := ⟨_, rfl⟩
            change World.cell? (wc.drewN nq) _ = _ at y8 
            change World.cell? (wc.drewN nq) _ = _ at e4 
            change World.cell? (wc.drewN nq) _ = _ at g1 
            rw [← hwq] at y8 e4 g1 ⊢
            have HWQ : Hid (Below w9.heap.size w9 wq) := Lib.hid (by rw [hwq]; exact below_dN HBc.out _)
            clear hwq y5
            by_cases hgt : mo < wk + 1
            · have hd1 : decide ((mo : Int) < (wk : Int) + 1) = true := decide_eq_true (by omega)
              have hd2 : (mo : Int) < (wk : Int) + 1 := by omega
              have HNX : Hid (wk + 1 = mostK wv l5 (i + 1)) := Lib.hid (by rw [hms]; omega)
              clear hms
              go_wp2_with fail
              go_roundw
              case rel => exact ⟨i + 1, wk + 1, by omega, by go_num, by go_num, HNX.out, by omega, HWQ.out⟩
              case measure => simp [intOf]; omega
            · have hd1 : decide ((mo : Int) < (wk : Int) + 1) = false := decide_eq_false (by omega)
              have hd2 : ¬ (mo : Int) < (wk : Int) + 1 := by omega
              have HNX : Hid (mo = mostK wv l5 (i + 1)) := Lib.hid (by rw [hms]; omega)
              clear hms
              go_wp2_with fail
              go_roundw
              case rel => exact ⟨i + 1, mo, by omega, by go_num, rfl, HNX.out, by omega, HWQ.out⟩
              case measure => simp [intOf]; omega
          · obtain rfl : ld = i := by omega
            obtain rfl : mo = lw := by
              rw [hmo, HLW.out, HLD.out, HD.out]
              exact mostK_all HF.out.1 HTo.out.mt
            clear hB hmo hmo2 HMO
            go_upto_region 36 with fail
            go_loopw [17] (fun s17 wq => ∃ p : Nat, p ≤ mo ∧ s17 = .int .i64 (p : Int) ∧ Below w9.heap.size w9 wq) (fun s17 _ => mo - (intOf s17).toNat)
            case atStart => exact ⟨0, Nat.zero_le _, rfl, HBc.out⟩
            case round =>
              obtain ⟨p, hp, rfl, hB⟩ := hrel
              obtain ⟨wp, rfl⟩ : ∃ wp, wp = wr := ⟨_, rfl⟩
              have HBp := Lib.hid hB
              by_cases hpl : p < mo
              · obtain ⟨l, hl⟩ : ∃ l, lx[p]? = some l := ⟨_, List.getElem?_eq_getElem (by rw [← HLW.out]; exact hpl)⟩
                have hfl := HF.out.2 _ HTo.out.mt p l hl
                rw [← HD.out] at hfl
                have HL := Lib.hid (And.intro hl hfl)
                have hll40 : l.length ≤ 40 := by
                  have h1 := nodup_lt (HF.out.1.nd l (List.mem_of_getElem? hl)) (HF.out.1.lt l (List.mem_of_getElem? hl))
                  have h2 := HF.out.1.ra.few
                  have h3 := HN.out
                  omega
                have hp0 : (0 : Int) ≤ p := by omega
                have hp1 : (p : Int) < mo := by omega
                clear hB hl hfl
                go_upto_region 40 with fail
                go_loopw [18, 19] (fun s18 s19 wq => ∃ i t : Nat, i ≤ ld ∧ s19 = .int .i64 (i : Int) ∧ s18 = .int .i64 (t : Int) ∧ t = cntK wv p l5 i ∧ t ≤ i ∧ Below w9.heap.size w9 wq) (fun _ s19 _ => ld - (intOf s19).toNat)
                case atStart => exact ⟨0, 0, Nat.zero_le _, rfl, rfl, by unfold cntK; simp, Nat.zero_le _, HBp.out⟩
                case round =>
                  obtain ⟨i, t, hi, rfl, rfl, ht, hti, hB⟩ := hrel
                  obtain ⟨wc, rfl⟩ : ∃ wc, wc = wr := ⟨_, rfl⟩
                  have HT := Lib.hid ht
                  have HBc2 := Lib.hid hB
                  have hAL := HALL.out wc hB
                  obtain ⟨bw, ow, xw, rfl, hxw, A1, c1, yw, zw⟩ := (vs2_sl hAL.2.2.2.1).at_ (k := p) (by unfold wz; rw [List.length_map, ← HLW.out]; exact hpl)
                  have hxwl : xw = wzL rs l := by
                    have h1 := hxw.out
                    unfold wz at h1
                    rw [List.getElem?_map, HL.out.1] at h1
                    exact (Option.some.inj h1).symm
                  subst hxwl
                  have hwl : (wzL rs l).length = l.length := by unfold wzL; simp
                  obtain ⟨ll, hll⟩ : ∃ ll, ll = l.length := ⟨_, rfl⟩
                  rw [hwl, ← hll, Nat.mul_one] at yw
                  rw [← hll] at hll40
                  by_cases hil : i < ld
                  · obtain ⟨r, hr⟩ : ∃ r, l5[i]? = some r := ⟨_, List.getElem?_eq_getElem (by rw [← HLD.out]; exact hil)⟩
                    obtain ⟨b8, o8, x8, rfl, hx8, A4, c4, y8, z8⟩ := (vsR_sl hAL.2.2.1).at_ (k := i) (by rw [List.length_map, ← HLD.out]; exact hil)
                    obtain rfl := mapI_at hr hx8.out
                    have hky := HKY.out r (List.mem_of_getElem? hr)
                    obtain ⟨b4, o4, x4, rfl, hx4, e4, -⟩ := z8.int (k := 0) (by rw [natI_len]; exact List.length_pos_iff.2 hky.2.1)
                    obtain ⟨ky, hk4, rfl⟩ := natI_at hx4.out
                    have hkyr : kyR r = ky := by
                      cases hq : r with
                      | nil => exact absurd hq hky.2.1
                      | cons a t => rw [hq] at hk4; exact Option.some.inj hk4
                    rw [hkyr] at hky
                    have g1 := hAL.2.2.2.2.1.cell hky.1
                    obtain ⟨wk, hwk⟩ : ∃ wk, wk = wv ky - 1 := ⟨_, rfl⟩
                    have hwk1 : wv ky = wk + 1 := by have := hky.2.2.1; omega
                    rw [← hwk] at g1
                    have hwk40 : wk + 1 ≤ mo := by rw [← hwk1]; exact hky.2.2.2
                    have hkyn := hky.1
                    have hi0 : (0 : Int) ≤ i := by omega
                    have hi1 : (i : Int) < ld := by omega
                    have hky0 : (0 : Int) ≤ ky := by omega
                    have hky1 : (ky : Int) < n := by omega
                    have hlr0 : (0 : Int) < (natI r).length := by
                      have := List.length_pos_iff.2 hky.2.1
                      rw [natI_len]; omega
                    rw [Nat.mul_one] at y8
                    rw [Nat.add_zero] at e4
                    by_cases e : wk = p
                    · subst e
                      have hd1 : ((wk : Int) != (wk : Int)) = false := by simp
                      obtain ⟨hc1, hc2⟩ := cntK_yes (wv := wv) (W := wk) hr (by rw [hkyr, hwk1])
                      rw [← ht, ← HL.out.2] at hc2
                      rw [List.getElem?_map] at hc2
                      obtain ⟨j, hj, hjr⟩ := Option.map_eq_some_iff.1 hc2
                      have htl := (List.getElem?_eq_some_iff.1 hj).1
                      rw [← hll] at htl
                      obtain ⟨b2, o2, x2, rfl, hx2, A5', c5', y2, z2⟩ := zw.at_ (k := t) (by rw [hwl, ← hll]; exact htl)
                      have hx2l : x2 = natI r := by
                        have h1 := hx2.out
                        unfold wzL at h1
                        rw [List.getElem?_map, hj] at h1
                        rw [← hjr]
                        exact (Option.some.inj h1).symm
                      subst hx2l
                      have HNX : Hid (t + 1 = cntK wv wk l5 (i + 1)) := Lib.hid (by rw [hc1, ← ht])
                      have HC1 : Hid (∀ k, Calls Try.prog 22 #[.slice A5' (natI r).length c5', .slice (some ⟨b4, o4, none⟩) (natI r).length c4] (wc.drewN k) fun e w' => e = .returned (.bool true) ∧ ∃ m, w' = (wc.drewN k).drewN m) := Lib.hid (fun k => ints_same (natI r) _ _ _ (rInt_drew z2 k) (rInt_drew z8 k))
                      obtain ⟨lr, hlr⟩ : ∃ lr, lr = (natI r).length := ⟨_, rfl⟩
                      rw [← hlr] at HC1 y2 y8 hlr0
                      rw [Nat.mul_one] at y2
                      have ht0 : (0 : Int) ≤ t := by omega
                      have ht1 : (t : Int) < ll := by omega
                      have hnt : ¬ ll ≤ t := by omega
                      have hd2 : decide (ll ≤ t) = false := decide_eq_false hnt
                      have hd3 : decide ((ll : Int) ≤ (t : Int)) = false := decide_eq_false (by omega)
                      clear hB ht hAL hxw hx8 hx4 hk4 hky hwk hkyr z8 hr hc1 hc2 hj hjr hx2 z2 zw hlr hll hwl
                      go_upto_region 43 with fail
                      go_big_quiet ((go_at_call 22; exact Calls.quiet_of (HC1.out _)))
                      go_wp2_with fail
                      go_roundw
                      case rel => exact ⟨i + 1, t + 1, by omega, by go_num, by go_num, HNX.out, by omega, below_dN HBc2.out _⟩
                      case measure => simp [intOf]; omega
                    · have hd1 : ((wk : Int) != (p : Int)) = true := by simp; omega
                      have hd2 : ¬ (wk : Int) = (p : Int) := by omega
                      have HNX : Hid (t = cntK wv p l5 (i + 1)) := Lib.hid (by rw [cntK_no hr (by rw [hkyr, hwk1]; omega), ← ht])
                      clear hB ht hAL hxw hx8 hx4 hk4 hky hwk hkyr z8 hr zw hll hwl yw
                      go_wp2_with fail
                      go_roundw
                      case rel => exact ⟨i + 1, t, by omega, by go_num, rfl, HNX.out, by omega, HBc2.out⟩
                      case measure => simp [intOf]; omega
                  · obtain rfl : ld = i := by omega
                    have htl : t = ll := by
                      rw [ht, HLD.out, cntK_all, ← HL.out.2, List.length_map, hll]
                    subst htl
                    clear hB ht hAL hxw zw hll hwl
                    go_wp2_with fail
                    go_roundw
                    case rel => exact ⟨p + 1, by omega, by go_num, HBc2.out⟩
                    case measure => simp [intOf]; omega
              · obtain rfl : mo = p := by omega
                have HEND : Hid (Below w.heap.size w wp) := Lib.hid (HB1.out.trans ((HB9.out.trans (HBp.out.mono HB9.out.size)).mono HB1.out.size))
                clear hB
                go_wp2_with fail
                go_ret
                exact ⟨rfl, HEND.out⟩
end Go.Proofs.Ytdfiflbkamhchaa
