/- The walk of CallsLie. -/
import Derived.Test.YtdfiflbkamhchaaCaZJ
import Derived.BigQuiet
import Derived.Test.YtdfiflbkamhchaaAheadLJ
import Derived.ProofKit
namespace Go.Proofs.Ytdfiflbkamhchaa
open Go.ChangeShapes Go.WideShapes Go.RowKit Go.Deep
set_option linter.unusedVariables false

/-- What was gone through: so far into the waves. -/
def gone (rs lx : List (List Nat)) (n i k : Nat) : List Nat :=
  (lx.take n).flatMap (elW rs) ++ (elW rs ((lx.getD n []).take i) ++ (rs.getD ((lx.getD n []).getD i 0) []).take k)
theorem gone_k {rs lx : List (List Nat)} {n i k : Nat} {f : Nat} (hf : (rs.getD ((lx.getD n []).getD i 0) [])[k]? = some f) : gone rs lx n i (k + 1) = gone rs lx n i k ++ [f] := by
  unfold gone
  rw [take_succ_of hf]; simp
theorem gone_i {rs lx : List (List Nat)} {n i k : Nat} {l : List Nat} {j : Nat} (hl : lx[n]? = some l) (hj : l[i]? = some j) (hk : (rs.getD j []).length ≤ k) : gone rs lx n i k = gone rs lx n (i + 1) 0 := by
  have e1 : lx.getD n [] = l := by rw [List.getD_eq_getElem?_getD, hl]; rfl
  have e2 : l.getD i 0 = j := by rw [List.getD_eq_getElem?_getD, hj]; rfl
  unfold gone
  rw [e1, e2, List.take_of_length_le hk, take_succ_of hj, List.take_zero, List.append_nil]
  unfold elW
  rw [List.flatMap_append]; simp
theorem gone_n {rs lx : List (List Nat)} {n i : Nat} {l : List Nat} (hl : lx[n]? = some l) (hi : l.length ≤ i) : gone rs lx n i 0 = gone rs lx (n + 1) 0 0 := by
  have e1 : lx.getD n [] = l := by rw [List.getD_eq_getElem?_getD, hl]; rfl
  unfold gone
  rw [e1, List.take_of_length_le hi, take_succ_of hl, List.take_zero, List.take_zero, List.take_zero, List.append_nil]
  rw [List.flatMap_append]
  unfold elW
  simp
theorem gone_all {rs lx : List (List Nat)} {n : Nat} (hn : lx.length ≤ n) : gone rs lx n 0 0 = lx.flatMap (elW rs) := by
  unfold gone
  rw [List.take_of_length_le hn, List.take_zero, List.take_zero]
  unfold elW
  simp
theorem gone_pre {rs lx : List (List Nat)} {n i k : Nat} {l : List Nat} {j : Nat} {f : Nat} (hl : lx[n]? = some l) (hj : l[i]? = some j) (hf : (rs.getD j [])[k]? = some f) : ∃ q, lx.flatMap (elW rs) = gone rs lx n i k ++ [f] ++ q := by
  have e1 : lx.getD n [] = l := by rw [List.getD_eq_getElem?_getD, hl]; rfl
  have e2 : l.getD i 0 = j := by rw [List.getD_eq_getElem?_getD, hj]; rfl
  have h1 : lx = lx.take n ++ l :: lx.drop (n + 1) := by
    have := List.getElem?_eq_some_iff.1 hl
    obtain ⟨h, e⟩ := this
    rw [← e]; simp
  have h2 : l = l.take i ++ j :: l.drop (i + 1) := by
    obtain ⟨h, e⟩ := List.getElem?_eq_some_iff.1 hj
    rw [← e]; simp
  have h3 : rs.getD j [] = (rs.getD j []).take k ++ f :: (rs.getD j []).drop (k + 1) := by
    obtain ⟨h, e⟩ := List.getElem?_eq_some_iff.1 hf
    rw [← e]; simp
  refine ⟨(rs.getD j []).drop (k + 1) ++ (elW rs (l.drop (i + 1)) ++ (lx.drop (n + 1)).flatMap (elW rs)), ?_⟩
  unfold gone
  rw [e1, e2]
  conv => lhs; rw [h1]
  rw [List.flatMap_append, List.flatMap_cons]
  have h4 : elW rs l = elW rs (l.take i) ++ ((rs.getD j []) ++ elW rs (l.drop (i + 1))) := by
    conv => lhs; rw [h2]
    unfold elW
    rw [List.flatMap_append, List.flatMap_cons]
  rw [h4]
  conv => lhs; rw [h3]
  simp only [List.append_assoc, List.cons_append, List.nil_append, List.singleton_append]

/-- The law's own rows, once so many were gone through. -/
structure LieR (w6 : World) (S n : Nat) (rs : List (List Nat)) (wv : Nat → Nat) (L : List Nat) (wq : World) : Prop where
  r : wq.rowIs (S + 1) 3 n (fun f => .int .i64 (if f ∈ L then (kyF rs f : Int) else -1))
  w : wq.rowIs S 3 n (fun f => .int .i64 (if f ∈ L then ((wv f - 1 : Nat) : Int) else 0))
  b : Below S w6 wq
theorem LieR.put {w6 wq : World} {S n : Nat} {rs : List (List Nat)} {wv : Nat → Nat} {L : List Nat} (h : LieR w6 S n rs wv L wq) (f : Nat) {a b : Int} (ha : a = ((wv f - 1 : Nat) : Int)) (hb : b = (kyF rs f : Int)) :
    LieR w6 S n rs wv (L ++ [f]) ((wq.setCell ⟨S, f, none⟩ (.int .i64 a)).setCell ⟨S + 1, f, none⟩ (.int .i64 b)) := by
  subst ha hb
  refine ⟨((h.r.of_block (Below.heap_setCell _ _ _ _ (by show S + 1 ≠ S; omega))).set f _).congr fun x _ => ?_, ((h.w.set f _).of_block (Below.heap_setCell _ _ _ _ (by show S ≠ S + 1; omega))).congr fun x _ => ?_, (h.b.setCell (by show S ≤ S; omega) _).setCell (by show S ≤ S + 1; omega) _⟩
  · by_cases e : x = f
    · subst e; simp
    · simp [e]
  · by_cases e : x = f
    · subst e; simp
    · simp [e]

set_option maxRecDepth 100000 in
set_option maxHeartbeats 16000000 in
theorem callsLie_walk (m : List FunD) (v : Value) (w : World) (hv : VMod w v m) :
    Calls Try.prog 5 #[v] w fun e w' => e = .returned (.bool true) ∧ Below w.heap.size w w' := by
  have hv0 := hv
  obtain ⟨Am, cm, rfl, hm⟩ := hv
  have HV := Lib.hid hv0
  clear hm hv0
  go_enter Try.func5, Try.ntmps5
  go_upto_region 1 with fail
  obtain ⟨w1, hw1, hs1, hk1, hbel1, hc1, -⟩ := named w #[.slice Am m.length cm] 24
  rw [← hw1]
  have c0 : w1.cell? ⟨w.heap.size, 0, none⟩ = some (.slice Am m.length cm) := hc1 0 _ rfl
  have HB1 := Lib.hid hbel1
  obtain ⟨N, hN⟩ : ∃ N, N = w.heap.size := ⟨_, rfl⟩
  have HN := Lib.hid hN
  rw [← hN] at c0 ⊢
  clear hw1 hs1 hk1 hc1 hbel1 hN
  go_wp2_with fail
  refine (up9_any w1).mono ?_
  rintro e w2 ⟨rfl, hb2⟩
  have c0 := kept_of_below hb2 _ _ c0
  have HB2 : Hid (Below w.heap.size w w2) := Lib.hid (HB1.out.trans (hb2.mono HB1.out.size))
  clear hb2
  go_wp2_with fail
  refine (small_any m _ w2 (VMod.keep (kept_of_below HB2.out) HV.out)).mono ?_
  rintro e w3 ⟨⟨bs, rfl, hsm⟩, hb3⟩
  have c0 := kept_of_below hb3 _ _ c0
  have HB3 : Hid (Below w.heap.size w w3) := Lib.hid (HB2.out.trans (hb3.mono HB2.out.size))
  cases bs
  · clear hb3 hsm
    go_wp2_with fail
    go_ret
    exact ⟨rfl, HB3.out⟩
  · have HSM := Lib.hid (hsm rfl)
    clear hb3 hsm
    go_wp2_with fail
    refine (waves_told m _ w3 (VMod.keep (kept_of_below HB3.out) HV.out) HSM.out).mono ?_
    rintro e w4 ⟨vw, rs, lx, wv, rfl, hF, hWV, hb4⟩
    have c0 := kept_of_below hb4 _ _ c0
    have HB4 : Hid (Below w.heap.size w w4) := Lib.hid (HB3.out.trans (hb4.mono HB3.out.size))
    have HF := Lib.hid hF
    have HWV := Lib.hid hWV
    clear hb4 hF hWV
    go_wp2_with fail
    refine (callsOf_any m _ w4 (VMod.keep (kept_of_below HB4.out) HV.out) HSM.out).mono ?_
    rintro e w5 ⟨G, V, rfl, -, hCM, hb5⟩
    have c0 := kept_of_below hb5 _ _ c0
    obtain ⟨Aw, cw, rfl, hWV⟩ := HWV.out
    have HWR : Hid (∀ W, Below w5.heap.size w5 W → SL W 1 R2 Aw cw (wz rs lx)) := Lib.hid (fun W hW => SL.keep ((kept_of_below hb5).trans (kept_of_below hW)) (fun b o x => R2.keep ((kept_of_below hb5).trans (kept_of_below hW)) b o x) hWV)
    have HB5 : Hid (Below w.heap.size w w5) := Lib.hid (HB4.out.trans (hb5.mono HB4.out.size))
    have hn40 := HSM.out.1
    obtain ⟨n, hn⟩ : ∃ n, n = m.length := ⟨_, rfl⟩
    have HNM := Lib.hid hn
    rw [← hn] at hCM c0 hn40 ⊢
    have HCM : Hid (∀ W, Below w5.heap.size w5 W → CallsM W n G V (cF m)) := Lib.hid (fun W hW => ⟨hCM.row.of_block (hW.block G hCM.row.lt), fun i hi => by
      obtain ⟨A, c, e, h⟩ := hCM.vs i hi
      exact ⟨A, c, e, SInts.keep (kept_of_below hW) h⟩⟩)
    have hwzl : (wz rs lx).length = lx.length := by unfold wz; simp
    obtain ⟨lw, hlw⟩ : ∃ lw, lw = lx.length := ⟨_, rfl⟩
    have HLW := Lib.hid hlw
    rw [hwzl, ← hlw]
    have hlw40 : lw ≤ 40 := by
      obtain ⟨ws, h1, h2⟩ := HF.out.wo
      have h3 := h1.few
      have h4 := HF.out.ra.few
      rw [← hn] at h4
      omega
    have hmk := run_make_row' (P := Try.prog) 34 3 (.int .i64 0) 8 Try.underlying34 Try.info3 rfl .i64 .i64 n (by omega) (by omega)
    clear hb5 hWV HWV hCM hn hwzl hlw
    have hNlt := block_lt_of_cell c0
    go_upto_region 9 with fail
    obtain ⟨S, hS⟩ : ∃ S, S = w5.heap.size := ⟨_, rfl⟩
    obtain ⟨w6, hw6⟩ : ∃ w6, w6 = (w5.alloc (.cells (madeCells #[.int .i64 0] n) 3)).alloc (.cells (madeCells #[.int .i64 0] n) 3) := ⟨_, rfl⟩
    have hrw : w6.rowIs S 3 n (fun _ => .int .i64 0) := row_madeQ (by rw [hw6, hS]; exact (Below.heap_alloc _ _ _ (by simp)).trans (heap_alloc_new _ _))
    have hrr : w6.rowIs (S + 1) 3 n (fun _ => .int .i64 0) := row_madeQ (by
      have h1 := heap_alloc_new (w5.alloc (.cells (madeCells #[.int .i64 0] n) 3)) (.cells (madeCells #[.int .i64 0] n) 3)
      rw [hw6, hS]; simpa using h1)
    have hb6 : Below w5.heap.size w5 w6 := by rw [hw6]; exact ((Below.refl _ _).alloc (Nat.le_refl _) _).alloc (by simp) _
    have HRW := Lib.hid hrw
    have HRR := Lib.hid hrr
    have HB6 := Lib.hid (And.intro hb6 hS)
    have c0 := kept_of_below hb6 _ _ c0
    rw [← hS] at hNlt ⊢
    rw [← hw6]
    clear hw6 hS hrw hrr hb6 hmk
    go_wp2_with fail
    go_loopw [10] (fun s10 wq => ∃ i : Nat, i ≤ n ∧ s10 = .int .i64 (i : Int) ∧ wq.rowIs (S + 1) 3 n (fun f => .int .i64 (if f < i then -1 else 0)) ∧ wq.rowIs S 3 n (fun _ => .int .i64 0) ∧ Below S w6 wq) (fun s10 _ => n - (intOf s10).toNat)
    case atStart => exact ⟨0, Nat.zero_le _, rfl, HRR.out.congr fun f _ => by simp, HRW.out, Below.refl _ _⟩
    case round =>
      obtain ⟨i, hi, rfl, hr, hrw, hB⟩ := hrel
      obtain ⟨wq, rfl⟩ : ∃ wq, wq = wr := ⟨_, rfl⟩
      have HR := Lib.hid hr
      have HRW := Lib.hid hrw
      have HB := Lib.hid hB
      by_cases hil : i < n
      · have d1 := hr.cell hil
        have d2 := hr.frozen i
        have hi0 : (0 : Int) ≤ i := by omega
        have hi1 : (i : Int) < n := by omega
        clear hr hrw hB
        go_wp2_with fail
        go_roundw
        case rel => exact ⟨i + 1, by omega, by go_num, (HR.out.set i _).congr fun f _ => by
          by_cases e : f = i
          · subst e; simp
          · rw [if_neg e]
            by_cases e2 : f < i
            · rw [if_pos e2, if_pos (by omega)]
            · rw [if_neg e2, if_neg (by omega)], HRW.out.of_block (Below.heap_setCell _ _ _ _ (by show S ≠ S + 1; omega)), HB.out.setCell (by show S ≤ S + 1; omega) _⟩
        case measure => simp [intOf]; omega
      · obtain rfl : n = i := by omega
        clear hr hrw hB
        have HR2 : Hid (wq.rowIs (S + 1) 3 n (fun _ => .int .i64 (-1))) := Lib.hid (HR.out.congr fun f hf => by rw [if_pos hf])
        have HL0 : Hid (LieR w6 S n rs wv (gone rs lx 0 0 0) wq) := Lib.hid (by
          have e0 : gone rs lx 0 0 0 = [] := by unfold gone elW; simp
          rw [e0]
          exact ⟨HR2.out.congr fun _ _ => by simp, HRW.out.congr fun _ _ => by simp, HB.out⟩)
        have HK : Hid (∀ L W, LieR w6 S n rs wv L W → Kept w5 W ∧ Below w5.heap.size w5 W) := Lib.hid (fun L W h => by
          have h1 : Below w5.heap.size w5 W := HB6.out.1.trans (by rw [← HB6.out.2]; exact h.b)
          exact ⟨kept_of_below h1, h1⟩)
        have HW5 := Lib.hid (HWR.out w5 (Below.refl _ _))
        clear HR HR2 HRW HRR HB
        go_upto_region 15 with fail
        go_loopw [9, 11] (fun s9 s11 wq => ∃ p q : Nat, p ≤ lw ∧ s11 = .int .i64 (p : Int) ∧ s9 = .int .i64 (q : Int) ∧ q = (gone rs lx p 0 0).length ∧ LieR w6 S n rs wv (gone rs lx p 0 0) wq) (fun _ s11 _ => lw - (intOf s11).toNat)
        case atStart => exact ⟨0, 0, Nat.zero_le _, rfl, rfl, by unfold gone elW; simp, HL0.out⟩
        case round =>
          obtain ⟨p, q, hp, rfl, rfl, hq, hL⟩ := hrel
          obtain ⟨wa, rfl⟩ : ∃ wa, wa = wr := ⟨_, rfl⟩
          have HQ := Lib.hid hq
          have HLa := Lib.hid hL
          by_cases hpl : p < lw
          · obtain ⟨l, hl⟩ : ∃ l, lx[p]? = some l := ⟨_, List.getElem?_eq_getElem (by rw [← HLW.out]; exact hpl)⟩
            obtain ⟨b, o, x, rfl, hx, A1, c1, y1, z1⟩ := HW5.out.at_ (k := p) (by unfold wz; rw [List.length_map, ← HLW.out]; exact hpl)
            have hxl : x = wzL rs l := by
              have h1 := hx.out
              unfold wz at h1
              rw [List.getElem?_map, hl] at h1
              exact (Option.some.inj h1).symm
            subst hxl
            obtain ⟨ll, hll⟩ : ∃ ll, ll = l.length := ⟨_, rfl⟩
            have hwl : (wzL rs l).length = l.length := by unfold wzL; simp
            rw [hwl, ← hll, Nat.mul_one] at y1
            have HL := Lib.hid (And.intro hl hll)
            have HZ1 := Lib.hid z1
            have HY1 := Lib.hid y1
            have hll40 : ll ≤ 40 := by
              have h1 := nodup_lt (HF.out.nd l (List.mem_of_getElem? hl)) (HF.out.lt l (List.mem_of_getElem? hl))
              have h2 := HF.out.ra.few
              rw [← HNM.out] at h2
              omega
            have d0 := (HK.out _ _ hL).1 _ _ y1
            have hp0 : (0 : Int) ≤ p := by omega
            have hp1 : (p : Int) < lw := by omega
            clear hq hL hl hx z1 y1 hll hwl
            go_upto_region 18 with fail
            clear d0
            go_loopw [9, 12] (fun s9 s12 wq => ∃ i q : Nat, i ≤ ll ∧ s12 = .int .i64 (i : Int) ∧ s9 = .int .i64 (q : Int) ∧ q = (gone rs lx p i 0).length ∧ LieR w6 S n rs wv (gone rs lx p i 0) wq) (fun _ s12 _ => ll - (intOf s12).toNat)
            case atStart => exact ⟨0, q, Nat.zero_le _, rfl, rfl, HQ.out, HLa.out⟩
            case round =>
              obtain ⟨i, q2, hi, rfl, rfl, hq2, hL2⟩ := hrel
              obtain ⟨wb, rfl⟩ : ∃ wb, wb = wr := ⟨_, rfl⟩
              have HQ2 := Lib.hid hq2
              have HLb := Lib.hid hL2
              have d0 := (HK.out _ _ hL2).1 _ _ HY1.out
              by_cases hil : i < ll
              · obtain ⟨j, hj⟩ : ∃ j, l[i]? = some j := ⟨_, List.getElem?_eq_getElem (by rw [← HL.out.2]; exact hil)⟩
                obtain ⟨b2, o2, x2, rfl, hx2, A3, c3, y3, z3⟩ := HZ1.out.at_ (k := i) (by unfold wzL; rw [List.length_map, ← HL.out.2]; exact hil)
                have hx2l : x2 = natI (rs.getD j []) := by
                  have h1 := hx2.out
                  unfold wzL at h1
                  rw [List.getElem?_map, hj] at h1
                  exact (Option.some.inj h1).symm
                subst hx2l
                have hjr := HF.out.lt l (List.mem_of_getElem? HL.out.1) j (List.mem_of_getElem? hj)
                have hrm := HF.out.ring hjr
                have hrl := HF.out.ra.len hrm
                rw [← HNM.out] at hrl
                obtain ⟨r, hr⟩ : ∃ r, r = rs.getD j [] := ⟨_, rfl⟩
                rw [← hr] at y3 z3 hrm hrl
                obtain ⟨lr, hlr⟩ : ∃ lr, lr = r.length := ⟨_, rfl⟩
                rw [natI_len, ← hlr, Nat.mul_one] at y3
                have HJ := Lib.hid (And.intro hj (And.intro hr (And.intro hlr hrm)))
                have HZ3 := Lib.hid z3
                have HY3 := Lib.hid y3
                have d1 := (HK.out _ _ hL2).1 _ _ y3
                have hlr40 : lr ≤ 40 := by omega
                have hi0 : (0 : Int) ≤ i := by omega
                have hi1 : (i : Int) < ll := by omega
                clear hq2 hL2 hj hx2 z3 y3 hr hlr hrm hrl hjr
                go_upto_region 21 with fail
                clear d0 d1
                go_loopw [9, 13] (fun s9 s13 wq => ∃ k q : Nat, k ≤ lr ∧ s13 = .int .i64 (k : Int) ∧ s9 = .int .i64 (q : Int) ∧ q = (gone rs lx p i k).length ∧ LieR w6 S n rs wv (gone rs lx p i k) wq) (fun _ s13 _ => lr - (intOf s13).toNat)
                case atStart => exact ⟨0, q2, Nat.zero_le _, rfl, rfl, HQ2.out, HLb.out⟩
                case round =>
                  obtain ⟨k, q3, hk, rfl, rfl, hq3, hL3⟩ := hrel
                  obtain ⟨wc, rfl⟩ : ∃ wc, wc = wr := ⟨_, rfl⟩
                  have HQ3 := Lib.hid hq3
                  have HLc := Lib.hid hL3
                  have hkp := (HK.out _ _ hL3).1
                  have d0 := hkp _ _ HY1.out
                  have d1 := hkp _ _ HY3.out
                  have eJ : (lx.getD p []).getD i 0 = j := by
                    rw [List.getD_eq_getElem?_getD (l := lx), HL.out.1]
                    show l.getD i 0 = j
                    rw [List.getD_eq_getElem?_getD, HJ.out.1]; rfl
                  by_cases hkl : k < lr
                  · obtain ⟨f, hf⟩ : ∃ f, r[k]? = some f := ⟨_, List.getElem?_eq_getElem (by rw [← HJ.out.2.2.1]; exact hkl)⟩
                    obtain ⟨b3, o3, x3, rfl, hx3, e3, -⟩ := HZ3.out.int (k := k) (by rw [natI_len, ← HJ.out.2.2.1]; exact hkl)
                    have hx3l : x3 = (f : Int) := by
                      have h1 := hx3.out
                      unfold natI at h1
                      rw [List.getElem?_map, hf] at h1
                      exact (Option.some.inj h1).symm
                    subst hx3l
                    obtain ⟨b4, o4, x4, hb4, hx4, e4, -⟩ := HZ3.out.int (k := 0) (by rw [natI_len, ← HJ.out.2.2.1]; omega)
                    simp only [Option.some.injEq, Addr.mk.injEq, and_true] at hb4
                    obtain ⟨rfl, rfl⟩ := hb4
                    have hx4l : x4 = (kyR r : Int) := by
                      have h1 := hx4.out
                      unfold natI at h1
                      rw [List.getElem?_map] at h1
                      cases hq : r with
                      | nil => rw [hq] at hf; simp at hf
                      | cons a t => rw [hq] at h1; exact (Option.some.inj h1).symm
                    obtain ⟨ky, hky⟩ : ∃ ky, ky = kyR r := ⟨_, rfl⟩
                    rw [hx4l, ← hky, Nat.add_zero] at e4
                    have hfr := List.mem_of_getElem? hf
                    have hfn : f < n := by rw [HNM.out]; exact HF.out.ra.lt HJ.out.2.2.2 hfr
                    have hpre := gone_pre HL.out.1 HJ.out.1 (k := k) (f := f) (by rw [← HJ.out.2.1]; exact hf)
                    have hnot : f ∉ gone rs lx p i k := fun hm => by
                      obtain ⟨t, ht⟩ := hpre
                      have hnd := HF.out.nodup
                      rw [ht] at hnd
                      have h1 := (List.nodup_append.1 hnd).1
                      have h2 := (List.nodup_append.1 h1).2.2 f hm f (by simp)
                      exact h2 rfl
                    have hwvf : wv f = p + 1 := HF.out.wave HL.out.1 (List.mem_flatMap.2 ⟨j, List.mem_of_getElem? HJ.out.1, by rw [← HJ.out.2.1]; exact hfr⟩)
                    have g1 := hL3.r.cell hfn
                    rw [if_neg hnot] at g1
                    have g2 := hL3.r.frozen f
                    have g3 := hL3.w.frozen f
                    have g4 := hL3.w.cell hfn
                    have e3' := hkp _ _ e3
                    have e4' := hkp _ _ e4
                    have hlf : Hid (LieR w6 S n rs wv (gone rs lx p i (k + 1)) ((wc.setCell ⟨S, f, none⟩ (.int .i64 (p : Int))).setCell ⟨S + 1, f, none⟩ (.int .i64 (ky : Int)))) := Lib.hid (by
                      have h1 := gone_k (rs := rs) (lx := lx) (n := p) (i := i) (k := k) (f := f) (by rw [eJ, ← HJ.out.2.1]; exact hf)
                      rw [h1]
                      exact hL3.put f (by omega) (by rw [hky, HF.out.ky HJ.out.2.2.2 hfr]))
                    have hqn : Hid (q3 + 1 = (gone rs lx p i (k + 1)).length) := Lib.hid (by
                      have h1 := gone_k (rs := rs) (lx := lx) (n := p) (i := i) (k := k) (f := f) (by rw [eJ, ← HJ.out.2.1]; exact hf)
                      rw [h1, List.length_append, ← hq3]; rfl)
                    have hq3b : q3 ≤ 100 := by
                      obtain ⟨t, ht⟩ := hpre
                      have h1 := HF.out.len
                      rw [ht, List.length_append, List.length_append] at h1
                      rw [← HNM.out] at h1
                      omega
                    have hk0 : (0 : Int) ≤ k := by omega
                    have hk1 : (k : Int) < lr := by omega
                    have hlr0 : (0 : Int) < lr := by omega
                    have hf0 : (0 : Int) ≤ f := by omega
                    have hf1 : (f : Int) < n := by omega
                    have bl2 : b3 < wc.heap.size := block_lt_of_cell e4'
                    have hsb : b3 ≠ S := fun e => by
                      have h1 := block_lt_of_cell e4
                      rw [e, HB6.out.2] at h1
                      exact absurd h1 (Nat.lt_irrefl _)
                    have hsb1 : b ≠ S := fun e => by
                      have h1 := block_lt_of_cell HY1.out
                      rw [e, HB6.out.2] at h1
                      exact absurd h1 (Nat.lt_irrefl _)
                    have hsb2 : b2 ≠ S := fun e => by
                      have h1 := block_lt_of_cell HY3.out
                      rw [e, HB6.out.2] at h1
                      exact absurd h1 (Nat.lt_irrefl _)
                    clear hq3 hL3 hkp hf hx3 hx4 hx4l hfr hpre hnot hwvf e3 e4 hky eJ
                    go_upto_region 24 with fail
                    go_wp2_with fail
                    go_roundw
                    case rel => exact ⟨k + 1, q3 + 1, by omega, by go_num, by go_num, hqn.out, hlf.out⟩
                    case measure => simp [intOf]; omega
                  · obtain rfl : lr = k := by omega
                    have e1 : gone rs lx p i lr = gone rs lx p (i + 1) 0 := gone_i HL.out.1 HJ.out.1 (by rw [← HJ.out.2.1, ← HJ.out.2.2.1]; exact Nat.le_refl _)
                    rw [e1] at hq3 hL3
                    have HN1 := Lib.hid (And.intro hq3 hL3)
                    clear hq3 hL3 e1 HQ3 HLc eJ hkp
                    go_wp2_with fail
                    go_roundw
                    case rel => exact ⟨i + 1, q3, by omega, by go_num, rfl, HN1.out.1, HN1.out.2⟩
                    case measure => simp [intOf]; omega
              · obtain rfl : ll = i := by omega
                have e1 : gone rs lx p ll 0 = gone rs lx (p + 1) 0 0 := gone_n HL.out.1 (by rw [← HL.out.2]; exact Nat.le_refl _)
                rw [e1] at hq2 hL2
                have HN1 := Lib.hid (And.intro hq2 hL2)
                clear hq2 hL2 e1 HQ2 HLb
                go_wp2_with fail
                go_roundw
                case rel => exact ⟨p + 1, q2, by omega, by go_num, rfl, HN1.out.1, HN1.out.2⟩
                case measure => simp [intOf]; omega
          · obtain rfl : lw = p := by omega
            have eA : gone rs lx lw 0 0 = lx.flatMap (elW rs) := gone_all (by rw [← HLW.out]; exact Nat.le_refl _)
            have hqn : q = n := by rw [hq, eA, HF.out.len, HNM.out]
            subst hqn
            rw [eA] at hL
            have hall : ∀ f, f < q → f ∈ lx.flatMap (elW rs) := fun f hf => (HF.out.mem f).2 (by rw [← HNM.out]; exact hf)
            have HRA : Hid (wa.rowIs (S + 1) 3 q (fun f => .int .i64 (kyF rs f : Int)) ∧ wa.rowIs S 3 q (fun f => .int .i64 ((wv f - 1 : Nat) : Int))) := Lib.hid ⟨hL.r.congr fun f hf => by rw [if_pos (hall f hf)], hL.w.congr fun f hf => by rw [if_pos (hall f hf)]⟩
            have c1 : wa.cell? ⟨N, 0, none⟩ = some (.slice Am q cm) := (hL.b.cell (p := ⟨N, 0, none⟩) hNlt).trans c0
            have hkb := (HK.out _ _ hL).2
            have HCW := Lib.hid (HCM.out wa hkb)
            have HBF : Hid (Below w.heap.size w wa) := Lib.hid (HB5.out.trans (hkb.mono HB5.out.size))
            have hd1 : ((q : Int) != (q : Int)) = false := by simp
            clear hq eA hL hall hkb c0 HQ HLa HL0
            go_upto_region 32 with fail
            clear c1 hd1
            go_loopw [15] (fun s15 wq => ∃ a t : Nat, a ≤ q ∧ s15 = .int .i64 (a : Int) ∧ wq = wa.drewN t) (fun s15 _ => q - (intOf s15).toNat)
            case atStart => exact ⟨0, 0, Nat.zero_le _, rfl, rfl⟩
            case round =>
              obtain ⟨a, t, ha, rfl, rfl⟩ := hrel
              by_cases hal : a < q
              · have hrow : (wa.drewN t).cell? ⟨G, a, none⟩ = some (V a) := HCW.out.row.cell hal
                obtain ⟨Aa, ca, hVa, hsa⟩ := HCW.out.vs a hal
                obtain ⟨lc, hlc⟩ : ∃ lc, lc = (cF m a).length := ⟨_, rfl⟩
                rw [hVa, natI_len, ← hlc] at hrow
                have hlc40 : lc ≤ 40 := by rw [hlc]; have := cF_len m a; have := HNM.out; omega
                have HSA := Lib.hid hsa
                have HLC := Lib.hid hlc
                have HRO := Lib.hid hrow
                have ha0 : (0 : Int) ≤ a := by omega
                have ha1 : (a : Int) < q := by omega
                clear hVa hsa hlc
                go_upto_region 35 with fail
                clear hrow
                go_loopw [16] (fun s16 wq => ∃ k t : Nat, k ≤ lc ∧ s16 = .int .i64 (k : Int) ∧ wq = wa.drewN t) (fun s16 _ => lc - (intOf s16).toNat)
                case atStart => exact ⟨0, t, Nat.zero_le _, rfl, rfl⟩
                case round =>
                  obtain ⟨k, t2, hk, rfl, rfl⟩ := hrel
                  have hrow : (wa.drewN t2).cell? ⟨G, a, none⟩ = _ := HRO.out
                  by_cases hkl : k < lc
                  · obtain ⟨bt, ot, x, rfl, hx, hxc, -⟩ := HSA.out.int (k := k) (by rw [natI_len, ← HLC.out]; exact hkl)
                    have hx2 := hx.out
                    unfold natI at hx2
                    rw [List.getElem?_map] at hx2
                    obtain ⟨y, hy, rfl⟩ := Option.map_eq_some_iff.1 hx2
                    have hym := List.mem_of_getElem? hy
                    have hyn : y < q := by rw [HNM.out]; exact cF_lt a y hym
                    obtain ⟨hle, heq⟩ := HF.out.call (by rw [← HNM.out]; exact hal) hym (by rw [← HNM.out]; exact hyn)
                    have g1 : (wa.drewN t2).cell? ⟨S, y, none⟩ = some (.int .i64 ((wv y - 1 : Nat) : Int)) := HRA.out.2.cell hyn
                    have g2 : (wa.drewN t2).cell? ⟨S, a, none⟩ = some (.int .i64 ((wv a - 1 : Nat) : Int)) := HRA.out.2.cell hal
                    have g3 : (wa.drewN t2).cell? ⟨S + 1, y, none⟩ = some (.int .i64 (kyF rs y : Int)) := HRA.out.1.cell hyn
                    have g4 : (wa.drewN t2).cell? ⟨S + 1, a, none⟩ = some (.int .i64 (kyF rs a : Int)) := HRA.out.1.cell hal
                    have g5 : (wa.drewN t2).cell? ⟨bt, ot + k, none⟩ = some (.int .i64 (y : Int)) := hxc
                    obtain ⟨va, hva⟩ : ∃ va, va = wv a - 1 := ⟨_, rfl⟩
                    obtain ⟨vy, hvy⟩ : ∃ vy, vy = wv y - 1 := ⟨_, rfl⟩
                    obtain ⟨ka, hka⟩ : ∃ ka, ka = kyF rs a := ⟨_, rfl⟩
                    obtain ⟨ky, hky⟩ : ∃ ky, ky = kyF rs y := ⟨_, rfl⟩
                    rw [← hvy] at g1
                    rw [← hva] at g2
                    rw [← hky] at g3
                    rw [← hka] at g4
                    have hpos : 1 ≤ wv a ∧ 1 ≤ wv y := by
                      obtain ⟨ws, hw, -⟩ := HF.out.wo
                      obtain ⟨r1, p1, p2⟩ := (HF.out.ra.all a).1 (by rw [← HNM.out]; exact hal)
                      obtain ⟨r2, p3, p4⟩ := (HF.out.ra.all y).1 (by rw [← HNM.out]; exact hyn)
                      exact ⟨(hw.pos r1 p1 a p2).1, (hw.pos r2 p3 y p4).1⟩
                    have hvle : vy ≤ va := by omega
                    have hkeq : vy = va → ky = ka := fun e => by rw [hky, hka]; exact heq (by omega)
                    have hk0 : (0 : Int) ≤ k := by omega
                    have hk1 : (k : Int) < lc := by omega
                    have hy0 : (0 : Int) ≤ y := by omega
                    have hy1 : (y : Int) < q := by omega
                    have hb1 : decide ((y : Int) < 0) = false := decide_eq_false (by omega)
                    have hb2 : decide ((q : Int) ≤ (y : Int)) = false := decide_eq_false (by omega)
                    have hb3 : decide ((va : Int) < (vy : Int)) = false := decide_eq_false (by omega)
                    have hb3' : ¬ ((va : Int) < (vy : Int)) := by omega
                    clear hx hx2 hy hym hle heq hva hvy hka hky hpos hxc
                    obtain ⟨wz, hwz⟩ : ∃ wz, wz = wa.drewN t2 := ⟨_, rfl⟩
                    rw [← hwz] at g1 g2 g3 g4 g5 hrow ⊢
                    have HWZ := Lib.hid hwz
                    clear hwz
                    by_cases he : vy = va
                    · have hb4 : ((vy : Int) == (va : Int)) = true := by simp; omega
                      have hb4' : (vy : Int) = (va : Int) := by omega
                      have hb5 : ((ky : Int) != (ka : Int)) = false := by have := hkeq he; simp; omega
                      have hb5' : (ky : Int) = (ka : Int) := by have := hkeq he; omega
                      obtain rfl := he
                      obtain rfl := hkeq rfl
                      have hn1 : ¬ q ≤ y := by omega
                      have hn3 : ¬ y < 0 := by omega
                      have hn5 : decide (q ≤ y) = false := decide_eq_false hn1
                      clear hkeq hb4' hb5'
                      go_upto_region 38 with fail
                      clear HV HB1 HN HB2 HB3 HB4 HB5 HSM HF HWR HNM HCM HLW HB6 HK HW5 HCW HRA HRO HSA HLC HBF hn40 hlw40 hNlt hk0 hk1 hrow
                      go_big_quiet (fail)
                      go_wp2_with fail
                      go_roundw
                      case rel => exact ⟨k + 1, t2 + nq, by omega, by go_num, by rw [HWZ.out, World.drewN_drewN]⟩
                      case measure => simp [intOf]; omega
                    · have hb4 : ((vy : Int) == (va : Int)) = false := by simp; omega
                      have hb4' : ¬ (vy : Int) = (va : Int) := by omega
                      have hn1 : ¬ q ≤ y := by omega
                      have hn2 : ¬ va < vy := by omega
                      have hn3 : ¬ y < 0 := by omega
                      have hn4 : (vy == va) = false := by simpa using he
                      have hn5 : decide (q ≤ y) = false := decide_eq_false hn1
                      have hn6 : decide (va < vy) = false := decide_eq_false hn2
                      have hn7 : decide (vy = va) = false := decide_eq_false he
                      clear hb4'
                      clear hkeq
                      go_upto_region 38 with fail
                      clear HV HB1 HN HB2 HB3 HB4 HB5 HSM HF HWR HNM HCM HLW HB6 HK HW5 HCW HRA HRO HSA HLC HBF hn40 hlw40 hNlt hk0 hk1 hrow
                      go_big_quiet (fail)
                      go_wp2_with fail
                      go_roundw
                      case rel => exact ⟨k + 1, t2 + nq, by omega, by go_num, by rw [HWZ.out, World.drewN_drewN]⟩
                      case measure => simp [intOf]; omega
                  · obtain rfl : lc = k := by omega
                    go_wp2_with fail
                    go_roundw
                    case rel => exact ⟨a + 1, t2, by omega, by go_num, rfl⟩
                    case measure => simp [intOf]; omega
              · obtain rfl : q = a := by omega
                go_wp2_with fail
                go_ret
                exact ⟨rfl, HBF.out.trans ⟨rfl, rfl, rfl, Nat.le_refl _, fun _ _ => rfl⟩⟩
end Go.Proofs.Ytdfiflbkamhchaa

/- Functions and modules that came in as arguments: what they read as. -/
namespace Go.Proofs.Ytdfiflbkamhchaa
open Go.ChangeShapes Go.WideShapes Go.RowKit Go.Deep
set_option linter.unusedVariables false

section
variable {H : Type} {enc : TypeId × Value → H} {P : Program} {w : World} {base : Nat} {spare : Nat → Bool} {held : Bool}

theorem struct_field {t : TypeId} {fs : Array Field} {fuel : Nat} {cs : List Value} {y : DataW H × List MemPlace} (ht : P.underlying t = some (.struct fs)) (h : DataW.trod enc P w base spare held fuel t cs = some y)
    (i : Nat) (f : Field) (hf : fs[i]? = some f) : ∃ n z, DataW.trod enc P w base spare held n f.type ((cs.drop f.offset).take (P.cellsOf f.type)) = some z := by
  obtain ⟨xs, n, _, _, _, hlen, hx⟩ := DataW.trod_struct ht h
  have hi : i < xs.length := by rw [hlen]; exact (Array.getElem?_eq_some_iff.1 hf).1
  exact ⟨n, xs[i], (hx i f hf).trans (List.getElem?_eq_getElem hi)⟩
theorem field_of {t : TypeId} {fs : Array Field} {fuel : Nat} {cs : List Value} {y : DataW H × List MemPlace} (ht : P.underlying t = some (.struct fs)) (h : DataW.trod enc P w base spare held fuel t cs = some y)
    (i : Nat) {f : Field} (hf : fs[i]? = some f) {t' : TypeId} {c k : Nat} (hft : f.type = t') (hk : f.offset = k) (hc : P.cellsOf t' = c) : ∃ n z, DataW.trod enc P w base spare held n t' ((cs.drop k).take c) = some z := by
  subst hft hk hc
  exact struct_field ht h i f hf
theorem drop_take_one {cs : List Value} {k : Nat} (hk : k < cs.length) : (cs.drop k).take 1 = [cs[k]] := by
  rw [List.drop_eq_getElem_cons hk]; rfl
theorem int_field {t : TypeId} {n k : Nat} {cs : List Value} {z : DataW H × List MemPlace} (ht : P.underlying t = some (.int .i64)) (hk : k < cs.length) (h : DataW.trod enc P w base spare held n t ((cs.drop k).take 1) = some z) :
    ∃ x, cs[k]? = some (.int .i64 x) ∧ I64 x := by
  rw [drop_take_one hk] at h
  obtain ⟨x, hx, _, hw⟩ := DataW.trod_int ht h
  exact ⟨x, by rw [List.getElem?_eq_getElem hk]; exact congrArg some (List.cons.inj hx).1, wf_i64 hw⟩
theorem slice_field {α : Type} [Inhabited α] {t e : TypeId} {sz : Nat} {R : World → Nat → Nat → α → Prop} {n k : Nat} {cs : List Value} {z : DataW H × List MemPlace} (ht : P.underlying t = some (.slice e)) (hsz : P.cellsOf e = sz) (hpos : 0 < sz)
    (hR : Opens enc P w base spare held e sz R) (hk : k < cs.length) (h : DataW.trod enc P w base spare held n t ((cs.drop k).take 1) = some z) : ∃ A c xs, cs[k]? = some (.slice A xs.length c) ∧ SL w sz R A c xs := by
  rw [drop_take_one hk] at h
  obtain ⟨xs, A, c, e, hs⟩ := open_vs ht hsz hpos hR h
  exact ⟨A, c, xs, by rw [List.getElem?_eq_getElem hk, e], hs⟩
end

theorem Try.cells3 : Try.prog.cellsOf 3 = 1 := by kernel_rfl
theorem Try.cells2 : Try.prog.cellsOf 2 = 1 := by kernel_rfl
theorem Try.cells34 : Try.prog.cellsOf 34 = 1 := by kernel_rfl
theorem Try.cells37 : Try.prog.cellsOf 37 = 1 := by kernel_rfl
theorem Try.cells38 : Try.prog.cellsOf 38 = 1 := by kernel_rfl
theorem Try.cells41 : Try.prog.cellsOf 41 = 1 := by kernel_rfl
theorem Try.cells22 : Try.prog.cellsOf 22 = 1 := by kernel_rfl
theorem Try.cells65 : Try.prog.cellsOf 65 = 2 := by kernel_rfl
theorem Try.cells46 : Try.prog.cellsOf 46 = 5 := by kernel_rfl
theorem Try.cells36 : Try.prog.cellsOf 36 = 3 := by kernel_rfl
theorem Try.cells40 : Try.prog.cellsOf 40 = 5 := by kernel_rfl
theorem Try.cells43 : Try.prog.cellsOf 43 = 4 := by kernel_rfl
theorem Try.cells24 : Try.prog.cellsOf 24 = 1 := by kernel_rfl

section
variable {H : Type} {enc : TypeId × Value → H} {w : World} {base : Nat} {spare : Nat → Bool} {held : Bool}

theorem opens_int : Opens enc Try.prog w base spare held 3 1 RInt := fun n b o cs y hlen hat h => by
  obtain ⟨x, rfl, _, hw⟩ := DataW.trod_int Try.underlying3 h
  exact ⟨x, (hat 0 (by omega)).trans rfl, wf_i64 hw⟩
theorem field_int {fs : Array Field} {t : TypeId} {fuel : Nat} {cs : List Value} {y : DataW H × List MemPlace} (ht : Try.prog.underlying t = some (.struct fs)) (h : DataW.trod enc Try.prog w base spare held fuel t cs = some y)
    (i : Nat) (f : Field) (hf : fs[i]? = some f) (hft : f.type = 3) (hk : f.offset < cs.length) : ∃ x, cs[f.offset]? = some (.int .i64 x) ∧ I64 x := by
  obtain ⟨n, z, hz⟩ := struct_field ht h i f hf
  rw [hft, Try.cells3] at hz
  exact int_field Try.underlying3 hk hz
theorem field_int64 {fs : Array Field} {t : TypeId} {fuel : Nat} {cs : List Value} {y : DataW H × List MemPlace} (ht : Try.prog.underlying t = some (.struct fs)) (h : DataW.trod enc Try.prog w base spare held fuel t cs = some y)
    (i : Nat) (f : Field) (hf : fs[i]? = some f) (hft : f.type = 2) (hk : f.offset < cs.length) : ∃ x, cs[f.offset]? = some (.int .i64 x) ∧ I64 x := by
  obtain ⟨n, z, hz⟩ := struct_field ht h i f hf
  rw [hft, Try.cells2] at hz
  exact int_field Try.underlying2 hk hz
theorem field_ints {fs : Array Field} {t : TypeId} {fuel : Nat} {cs : List Value} {y : DataW H × List MemPlace} (ht : Try.prog.underlying t = some (.struct fs)) (h : DataW.trod enc Try.prog w base spare held fuel t cs = some y)
    (i : Nat) (f : Field) (hf : fs[i]? = some f) (hft : f.type = 34) (hk : f.offset < cs.length) : ∃ A c, ∃ xs : List Int, cs[f.offset]? = some (.slice A xs.length c) ∧ SL w 1 RInt A c xs := by
  obtain ⟨n, z, hz⟩ := struct_field ht h i f hf
  rw [hft, Try.cells34] at hz
  exact slice_field Try.underlying34 Try.cells3 (by omega) opens_int hk hz
theorem opens_phi : Opens enc Try.prog w base spare held 65 2 RPhi := fun n b o cs y hlen hat h => by
  obtain ⟨x, h0, w0⟩ := field_int Try.underlying65 h 0 _ rfl rfl (by simp; omega)
  obtain ⟨A, c, xs, h1, w1⟩ := field_ints Try.underlying65 h 1 _ rfl rfl (by simp; omega)
  exact ⟨⟨x, xs⟩, ⟨(hat 0 (by omega)).trans h0, w0⟩, A, c, (hat 1 (by omega)).trans h1, w1⟩
theorem opens_ins : Opens enc Try.prog w base spare held 46 5 RIns := fun n b o cs y hlen hat h => by
  obtain ⟨x0, h0, w0⟩ := field_int Try.underlying46 h 0 _ rfl rfl (by simp; omega)
  obtain ⟨x1, h1, w1⟩ := field_int Try.underlying46 h 1 _ rfl rfl (by simp; omega)
  obtain ⟨A, c, xs, h2, w2⟩ := field_ints Try.underlying46 h 2 _ rfl rfl (by simp; omega)
  obtain ⟨x3, h3, w3⟩ := field_int64 Try.underlying46 h 3 _ rfl rfl (by simp; omega)
  obtain ⟨x4, h4, w4⟩ := field_int Try.underlying46 h 4 _ rfl rfl (by simp; omega)
  exact ⟨⟨x0, x1, xs, x3, x4⟩, ⟨(hat 0 (by omega)).trans h0, w0⟩, ⟨(hat 1 (by omega)).trans h1, w1⟩, ⟨A, c, (hat 2 (by omega)).trans h2, w2⟩, ⟨(hat 3 (by omega)).trans h3, w3⟩, ⟨(hat 4 (by omega)).trans h4, w4⟩⟩
theorem opens_blk : Opens enc Try.prog w base spare held 40 5 RBlk := fun n b o cs y hlen hat h => by
  obtain ⟨n0, z0, hz0⟩ := field_of Try.underlying40 h 0 rfl rfl rfl Try.cells37
  obtain ⟨A0, c0, ps, h0, w0⟩ := slice_field Try.underlying37 Try.cells65 (by omega) opens_phi (by simp; omega) hz0
  obtain ⟨n1, z1, hz1⟩ := field_of Try.underlying40 h 1 rfl rfl rfl Try.cells38
  obtain ⟨A1, c1, is, h1, w1⟩ := slice_field Try.underlying38 Try.cells46 (by omega) opens_ins (by simp; omega) hz1
  obtain ⟨n2, z2, hz2⟩ := field_of Try.underlying40 h 2 rfl rfl rfl Try.cells36
  have hl2 : ((cs.drop 2).take 3).length = 3 := by simp; omega
  obtain ⟨x2, h2, w2⟩ := field_int Try.underlying36 hz2 0 _ rfl rfl (by simp; omega)
  obtain ⟨x3, h3, w3⟩ := field_int Try.underlying36 hz2 1 _ rfl rfl (by simp; omega)
  obtain ⟨A4, c4, xs, h4, w4⟩ := field_ints Try.underlying36 hz2 2 _ rfl rfl (by simp; omega)
  have g (i : Nat) (hi : i < 3) : ((cs.drop 2).take 3)[i]? = cs[2 + i]? := by rw [List.getElem?_take_of_lt hi, List.getElem?_drop]
  exact ⟨⟨ps, is, ⟨x2, x3, xs⟩⟩, ⟨A0, c0, (hat 0 (by omega)).trans h0, w0⟩, ⟨A1, c1, (hat 1 (by omega)).trans h1, w1⟩, ⟨(hat 2 (by omega)).trans ((g 0 (by omega)).symm.trans h2), w2⟩, ⟨(hat 3 (by omega)).trans ((g 1 (by omega)).symm.trans h3), w3⟩, ⟨A4, c4, (hat 4 (by omega)).trans ((g 2 (by omega)).symm.trans h4), w4⟩⟩
theorem opens_fun : Opens enc Try.prog w base spare held 43 4 RFun := fun n b o cs y hlen hat h => by
  obtain ⟨x0, h0, w0⟩ := field_int Try.underlying43 h 0 _ rfl rfl (by simp; omega)
  obtain ⟨x1, h1, w1⟩ := field_int Try.underlying43 h 1 _ rfl rfl (by simp; omega)
  obtain ⟨A2, c2, xs, h2, w2⟩ := field_ints Try.underlying43 h 2 _ rfl rfl (by simp; omega)
  obtain ⟨n3, z3, hz3⟩ := field_of Try.underlying43 h 3 rfl rfl rfl Try.cells41
  obtain ⟨A3, c3, bs, h3, w3⟩ := slice_field Try.underlying41 Try.cells40 (by omega) opens_blk (by simp; omega) hz3
  exact ⟨⟨x0, x1, xs, bs⟩, ⟨(hat 0 (by omega)).trans h0, w0⟩, ⟨(hat 1 (by omega)).trans h1, w1⟩, ⟨A2, c2, (hat 2 (by omega)).trans h2, w2⟩, ⟨A3, c3, (hat 3 (by omega)).trans h3, w3⟩⟩

set_option maxRecDepth 100000 in
/-- A function by value. -/
theorem open_fun {r : Go.Reach} {b0 : Nat} {v : Value} {d : DataW H} {p : List MemPlace} (hv : Value.okWide Try.prog w r b0 43 v) (h : DataW.Trod enc Try.prog w base spare held 43 v d p) : ∃ f, VFun w v f := by
  obtain ⟨cs, rfl, hsz⟩ := okWide_struct Try.underlying43 hv
  rw [Try.cells43] at hsz
  obtain ⟨l⟩ := cs
  match l, hsz with
  | [a, b, c, d], _ =>
    obtain ⟨fuel, hf⟩ := h
    have hf : DataW.trod enc Try.prog w base spare held fuel 43 [a, b, c, d] = some (_, p) := hf
    obtain ⟨x0, h0, w0⟩ := field_int Try.underlying43 hf 0 _ rfl rfl (by simp)
    obtain ⟨x1, h1, w1⟩ := field_int Try.underlying43 hf 1 _ rfl rfl (by simp)
    obtain ⟨A2, c2, xs, h2, w2⟩ := field_ints Try.underlying43 hf 2 _ rfl rfl (by simp)
    obtain ⟨n3, z3, hz3⟩ := field_of Try.underlying43 hf 3 rfl rfl rfl Try.cells41
    obtain ⟨A3, c3, bs, h3, w3⟩ := slice_field Try.underlying41 Try.cells40 (by omega) opens_blk (by simp) hz3
    obtain rfl := Option.some.inj h0
    obtain rfl := Option.some.inj h1
    obtain rfl := Option.some.inj h2
    obtain rfl := Option.some.inj h3
    exact ⟨⟨x0, x1, xs, bs⟩, A2, c2, A3, c3, rfl, w2, w3, w0, w1⟩
set_option maxRecDepth 100000 in
/-- A module by value. -/
theorem open_mod {r : Go.Reach} {b0 : Nat} {v : Value} {d : DataW H} {p : List MemPlace} (hv : Value.okWide Try.prog w r b0 24 v) (h : DataW.Trod enc Try.prog w base spare held 24 v d p) : ∃ m, VMod w v m := by
  obtain ⟨cs, rfl, hsz⟩ := okWide_struct Try.underlying24 hv
  rw [Try.cells24] at hsz
  obtain ⟨l⟩ := cs
  match l, hsz with
  | [a], _ =>
    obtain ⟨fuel, hf⟩ := h
    have hf : DataW.trod enc Try.prog w base spare held fuel 24 [a] = some (_, p) := hf
    obtain ⟨n3, z3, hz3⟩ := field_of Try.underlying24 hf 0 rfl rfl rfl Try.cells22
    obtain ⟨A3, c3, bs, h3, w3⟩ := slice_field Try.underlying22 Try.cells43 (by omega) opens_fun (by simp) hz3
    obtain rfl := Option.some.inj h3
    exact ⟨bs, A3, c3, rfl, w3⟩
end
end Go.Proofs.Ytdfiflbkamhchaa
