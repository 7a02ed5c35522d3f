/- The reference's Read: a module of bytes. -/
import Derived.Test.YtoidhjmhakajlaaGreatDoorRfKJ
import Derived.Test.YtoidhjmhakajlaaGreatDoorRefKJ
import Derived.Test.YtoidhjmhakajlaaGreatDoorByaJ
import Derived.Deep.Cut
import Derived.Deep.RegionHeld
namespace Go.Proofs.YtoidhjmhakajlaaGreatDoor
open Go.ChangeShapes Go.WideShapes Go.RowKit Go.Deep
set_option linter.unusedVariables false

theorem results_cell3 {P : Program} {fn : Func} {p u x : Tmp} {ty : TypeId} (h : fn.results = #[.cell p ty, .tmp u, .tmp x]) (tmps : Array Value) (w : World) (g : Nat) (t : TypeId) (cs : Array Value) (fr : Nat × Nat) (d : TypeDesc)
    (hp : tmps.getD p undef = .pointer (some ⟨g, 0, none⟩)) (hg : w.heap[g]? = some (.cells cs t fr))
    (hu : P.underlying ty = some d) (hd : (match d with | .struct _ | .array _ _ => true | _ => false) = true) (hi : (P.info? ty).map (·.size) = some cs.size) :
    (results fn tmps).run P w = .ok (.tuple #[.agg cs, tmps.getD u undef, tmps.getD x undef]) w := by
  have hp' : tmps[p]?.getD undef = .pointer (some ⟨g, 0, none⟩) := by simpa using hp
  simp only [results, h]
  simp [Result.andThen, hp', asAddr, run_loadVar_row w g t ty cs fr d hg hu hd hi]
theorem told_ok {α : Type} {p : Pr α} {l r : List UInt8} {x : α} (h : ToldS p (.ok l) x (.ok r)) : p l = .ok (x, r) := by
  unfold ToldS at h
  cases hp : p l with
  | error e => obtain ⟨c, n⟩ := e; simp only [hp] at h; cases h
  | ok z => obtain ⟨z, r'⟩ := z; simp only [hp] at h; obtain ⟨rfl, h⟩ := h; cases h; rfl
theorem told_bad {α : Type} {p : Pr α} {l : List UInt8} {x : α} {c : Int} {n : Nat} (h : ToldS p (.ok l) x (.bad c n)) : p l = .error (c, n) := by
  unfold ToldS at h
  cases hp : p l with
  | error e => obtain ⟨c', n'⟩ := e; simp only [hp] at h; cases h; rfl
  | ok z => obtain ⟨z, r'⟩ := z; simp only [hp] at h; cases h.2
theorem small_ok {m : List FunD} (h : okMod m) : ∀ f ∈ m, SmallG f := fun f hf => by
  obtain ⟨-, -, -, h1, h2⟩ := h.2 f hf
  refine ⟨by omega, fun b hb => ?_⟩
  obtain ⟨⟨g1, g2⟩, ⟨g3, g4⟩, -⟩ := h2 b hb
  exact ⟨by omega, by omega, fun x hx => by have := (g4 x hx).2.2.1.1; omega⟩
theorem modE_zero {m : List FunD} (h : (modE m).1 = 0) : modE m = (0, -1) := by
  unfold modE at h ⊢
  split at h
  · cases h
  · rename_i hn; rw [if_neg hn]; exact modK_ok h
/-- What Read tells. -/
def ToldRd (bs : List UInt8) (w : World) (e : Ending) (w' : World) : Prop :=
  ∃ A c, e = .returned (.tuple #[.agg #[.slice A (decM bs).length c], .int .i64 (decE bs).1, .int .i64 (decE bs).2]) ∧ SL w' 4 RFun A c (decM bs) ∧ Below w.heap.size w w'
theorem funs_none (w : World) : SL w 4 RFun none 0 [] := ⟨Nat.le_refl _, ⟨by unfold maxLen; omega, fun _ => rfl⟩, fun h => absurd h (by simp)⟩
theorem take4 {bs : List UInt8} {a b c d : UInt8} (h0 : bs[0]? = some a) (h1 : bs[1]? = some b) (h2 : bs[2]? = some c) (h3 : bs[3]? = some d) : bs.take 4 = [a, b, c, d] := by
  match bs, h0, h1, h2, h3 with
  | [], h, _, _, _ => simp at h
  | [_], _, h, _, _ => simp at h
  | [_, _], _, _, h, _ => simp at h
  | [_, _, _], _, _, _, h => simp at h
  | x :: y :: z :: t :: r, h0, h1, h2, h3 => simp at h0 h1 h2 h3; subst h0 h1 h2 h3; rfl
theorem byte_yes {x : UInt8} {n : Nat} {z : Int} (hz : z = (n : Nat)) (hn : n < 256) (h : x = UInt8.ofNat n) : (((x.toNat : Nat) : Int) != z) = false := by
  subst hz h
  rw [byte_of hn]; simp
theorem byte_no {x : UInt8} {n : Nat} {z : Int} (hz : z = (n : Nat)) (hn : n < 256) (h : ¬ x = UInt8.ofNat n) : (((x.toNat : Nat) : Int) != z) = true := by
  subst hz
  have : x.toNat ≠ n := fun e => h (byte_eq e)
  simp; omega

set_option maxRecDepth 100000 in
set_option maxHeartbeats 16000000 in
theorem readF_any (bs : List UInt8) (A : Option Addr) (c : Nat) (w : World) (hb : SL w 1 RByte A c bs) (hbl : bs.length ≤ 1000000) :
    Calls Tryz.prog 13 #[.slice A bs.length c] w (ToldRd bs w) := by
  have HBS := Lib.hid hb
  obtain ⟨w1, hw1, hs1, hk1, hb1, -, -⟩ := named w #[.slice none 0 0] 24
  have hQ : w1.heap[w.heap.size]? = some (.cells #[.slice none 0 0] 24 (0, 0)) := by rw [hw1]; exact heap_alloc_new _ _
  obtain ⟨Q, hQe⟩ : ∃ Q, Q = w.heap.size := ⟨_, rfl⟩
  rw [← hQe] at hQ
  have HB1 := Lib.hid hb1
  have HB := Lib.hid (SL.imp (fun b o x hx => (show RByteB (· < w.heap.size) w1 b o x from ⟨block_lt_of_cell hx, hk1 _ _ hx⟩)) hb)
  have hbB := HB.out
  go_enter Tryz.func13, Tryz.ntmps13
  go_upto_region 1 with fail
  rw [← hw1, ← hQe]
  have HQ := Lib.hid hQ
  have HQE := Lib.hid hQe
  have hs1' : w1.heap.size = Q + 1 := by omega
  have q0 := cell_of_block hQ 0
  have qf := free_of_block hQ 0
  clear hw1 hs1 hk1 hb1 hb hQe hQ
  go_cut [44] (fun s44 wx => s44 = .bool (!decide (bs.take 4 = markB)) ∧ wx = w1)
  case first =>
    by_cases h4 : bs.length < 4
    · have h4' : (bs.length : Int) < 4 := by omega
      have e : Hid (decide (bs.take 4 = markB) = false) := Lib.hid (decide_eq_false (fun e => by have := congrArg List.length e; rw [List.length_take] at this; have h5 : min 4 bs.length = 4 := this; omega))
      go_wp2_with fail
      go_meet
      exact ⟨by rw [e.out]; rfl, rfl⟩
    · have h4' : ¬ (bs.length : Int) < 4 := by omega
      have h40 : (0 : Int) < bs.length := by omega
      have h41 : (1 : Int) < bs.length := by omega
      have h42 : (2 : Int) < bs.length := by omega
      have h43 : (3 : Int) < bs.length := by omega
      obtain ⟨b, o, x0, rfl, hx0, c0⟩ := byte_at hbB (k := 0) (by omega)
      obtain ⟨b1, o1, x1, e1, hx1, c1⟩ := byte_at hbB (k := 1) (by omega)
      obtain ⟨b2, o2, x2, e2, hx2, c2⟩ := byte_at hbB (k := 2) (by omega)
      obtain ⟨b3, o3, x3, e3, hx3, c3⟩ := byte_at hbB (k := 3) (by omega)
      simp only [Option.some.injEq, Addr.mk.injEq] at e1 e2 e3
      obtain ⟨rfl, rfl, -⟩ := e1
      obtain ⟨rfl, rfl, -⟩ := e2
      obtain ⟨rfl, rfl, -⟩ := e3
      rw [Nat.add_zero] at c0
      have HT4 := Lib.hid (take4 hx0.out hx1.out hx2.out hx3.out)
      have HE : Hid ((bs.take 4 = markB) ↔ (x0 = UInt8.ofNat 102 ∧ x1 = UInt8.ofNat 116 ∧ x2 = UInt8.ofNat 108 ∧ x3 = UInt8.ofNat 49)) := Lib.hid (by
        rw [HT4.out]
        show [x0, x1, x2, x3] = [102, 116, 108, 49] ↔ _
        simp [and_assoc])
      clear h4 hx0 hx1 hx2 hx3
      by_cases a0 : x0 = UInt8.ofNat 102
      · have n0 : (((x0.toNat : Nat) : Int) != 102) = false := byte_yes (n := 102) rfl (by omega) a0
        by_cases a1 : x1 = UInt8.ofNat 116
        · have n1 : (((x1.toNat : Nat) : Int) != 116) = false := byte_yes (n := 116) rfl (by omega) a1
          by_cases a2 : x2 = UInt8.ofNat 108
          · have n2 : (((x2.toNat : Nat) : Int) != 108) = false := byte_yes (n := 108) rfl (by omega) a2
            by_cases a3 : x3 = UInt8.ofNat 49
            · have n3 : (((x3.toNat : Nat) : Int) != 49) = false := byte_yes (n := 49) rfl (by omega) a3
              have e : Hid (decide (bs.take 4 = markB) = true) := Lib.hid (decide_eq_true (HE.out.2 ⟨a0, a1, a2, a3⟩))
              clear a0 a1 a2 a3
              generalize x0.toNat = z0 at *
              generalize x1.toNat = z1 at *
              generalize x2.toNat = z2 at *
              generalize x3.toNat = z3 at *
              go_wp2_with fail
              go_meet
              exact ⟨by rw [e.out]; rfl, rfl⟩
            · have n3 : (((x3.toNat : Nat) : Int) != 49) = true := byte_no (n := 49) rfl (by omega) a3
              have e : Hid (decide (bs.take 4 = markB) = false) := Lib.hid (decide_eq_false (fun h => a3 (HE.out.1 h).2.2.2))
              clear a0 a1 a2 a3
              generalize x0.toNat = z0 at *
              generalize x1.toNat = z1 at *
              generalize x2.toNat = z2 at *
              generalize x3.toNat = z3 at *
              go_wp2_with fail
              go_meet
              exact ⟨by rw [e.out]; rfl, rfl⟩
          · have n2 : (((x2.toNat : Nat) : Int) != 108) = true := byte_no (n := 108) rfl (by omega) a2
            have e : Hid (decide (bs.take 4 = markB) = false) := Lib.hid (decide_eq_false (fun h => a2 (HE.out.1 h).2.2.1))
            clear a0 a1 a2
            generalize x0.toNat = z0 at *
            generalize x1.toNat = z1 at *
            generalize x2.toNat = z2 at *
            go_wp2_with fail
            go_meet
            exact ⟨by rw [e.out]; rfl, rfl⟩
        · have n1 : (((x1.toNat : Nat) : Int) != 116) = true := byte_no (n := 116) rfl (by omega) a1
          have e : Hid (decide (bs.take 4 = markB) = false) := Lib.hid (decide_eq_false (fun h => a1 (HE.out.1 h).2.1))
          clear a0 a1
          generalize x0.toNat = z0 at *
          generalize x1.toNat = z1 at *
          go_wp2_with fail
          go_meet
          exact ⟨by rw [e.out]; rfl, rfl⟩
      · have n0 : (((x0.toNat : Nat) : Int) != 102) = true := byte_no (n := 102) rfl (by omega) a0
        have e : Hid (decide (bs.take 4 = markB) = false) := Lib.hid (decide_eq_false (fun h => a0 (HE.out.1 h).1))
        clear a0
        generalize x0.toNat = z0 at *
        go_wp2_with fail
        go_meet
        exact ⟨by rw [e.out]; rfl, rfl⟩
  case rest =>
    obtain ⟨rfl, hwc⟩ := hcut
    obtain rfl : w1 = wc := hwc.symm
    by_cases hmk : bs.take 4 = markB
    · rw [decide_eq_true hmk]
      have HMK := Lib.hid hmk
      clear hmk
      go_upto_region 5 with fail
      obtain ⟨w3, hw3⟩ : ∃ w3, w3 = (w1.alloc (.cells #[.slice A bs.length c, .int .i64 4, .int .i64 0, .int .i64 0] 82)).alloc (.cells #[.slice none 0 0] 24) := ⟨_, rfl⟩
      rw [← hw3]
      have hs3 : w3.heap.size = Q + 3 := by rw [hw3]; simp; omega
      have hR3 : w3.heap[Q + 1]? = some (.cells #[.slice A bs.length c, .int .i64 4, .int .i64 0, .int .i64 0] 82 (0, 0)) := by
        rw [hw3, ← hs1']
        exact (Below.heap_alloc _ _ _ (by simp)).trans (heap_alloc_new _ _)
      have hM3 : w3.heap[Q + 2]? = some (.cells #[.slice none 0 0] 24 (0, 0)) := by
        have h := heap_alloc_new (w1.alloc (.cells #[.slice A bs.length c, .int .i64 4, .int .i64 0, .int .i64 0] 82)) (.cells #[.slice none 0 0] 24)
        rw [← hw3] at h
        rwa [show (w1.alloc (.cells #[.slice A bs.length c, .int .i64 4, .int .i64 0, .int .i64 0] 82)).heap.size = Q + 2 by simp; omega] at h
      have hb13 : Below w1.heap.size w1 w3 := by rw [hw3]; exact ((Below.refl _ _).alloc (Nat.le_refl _) _).alloc (by simp) _
      have hQ3 : w3.heap[Q]? = some (.cells #[.slice none 0 0] 24 (0, 0)) := (hb13.block Q (by omega)).trans HQ.out
      have h4l : 4 ≤ bs.length := by have := congrArg List.length HMK.out; rw [List.length_take] at this; have h5 : min 4 bs.length = 4 := this; omega
      have hrd3 : Rf bs (Q + 1) w3 (.ok (bs.drop 4)) := ⟨A, c, 4, 0, 0, hR3, SL.imp (fun b o x hx => ⟨by have h1 : b < w.heap.size := hx.1; have := HQE.out; show b < Q + 1; omega, kept_of_below hb13 _ _ hx.2⟩) HB.out, h4l, rfl, rfl⟩
      have HB3 : Hid (Below w.heap.size w w3) := Lib.hid (HB1.out.trans (hb13.mono HB1.out.size))
      obtain ⟨R, hRe⟩ : ∃ R, R = Q + 1 := ⟨_, rfl⟩
      obtain ⟨M, hMe⟩ : ∃ M, M = R + 1 := ⟨_, rfl⟩
      rw [show Q + 2 = M by omega] at hM3
      rw [← hRe] at hrd3 ⊢
      rw [← hMe]
      obtain ⟨N, hNe⟩ : ∃ N, N = w3.heap.size := ⟨_, rfl⟩
      have hQR : Q < R := by omega
      have hRM : R < M := by omega
      have hMN : M < N := by omega
      have HNE := Lib.hid hNe
      have HQ3 := Lib.hid hQ3
      have HM3 := Lib.hid hM3
      have hwQ : w.heap.size ≤ Q := by have := HQE.out; omega
      clear hw3 hs3 hR3 hM3 hb13 hQ3 hRe hMe hNe q0 qf hs1' hbB hwc
      go_wp2_with fail
      refine (manyF_any bs R 32 w3 (.ok (bs.drop 4)) hrd3 hbl (by omega)).mono ?_
      rintro e w4 ⟨v, n, s1, rfl, ⟨rfl, hn0, hn1⟩, ht, hr4, hb4⟩
      obtain ⟨n, rfl⟩ := Int.eq_ofNat_of_zero_le hn0
      have HT := Lib.hid ht
      have hn2 : n ≤ 32 := by omega
      have hs34 := hb4.size
      have HQ4 := Lib.hid ((hb4.block Q (by have := HNE.out; omega) (by omega)).trans HQ3.out)
      have HM4 := Lib.hid ((hb4.block M (by have := HNE.out; omega) (by omega)).trans HM3.out)
      have HB4 : Hid (BB Q R w w4) := Lib.hid ((BB.of_below HB3.out (by have := HQE.out; omega)).trans (hb4.mono (by have := HNE.out; omega)))
      have HR4 := Lib.hid hr4
      have hN4 : N ≤ w4.heap.size := by have := HNE.out; omega
      clear hn0 hn1 ht hb4 hr4 hrd3 hs34
      go_wp2_with fail
      go_loopw [8] (fun i wr => ∃ (k : Nat) (l : List FunD) (cs : List Value) (u : Value) (sk : St), k ≤ n ∧ i = .int .i64 k ∧ wr.heap[Q]? = some (.cells #[.slice none 0 0] 24 (0, 0)) ∧ wr.heap[M]? = some (.cells #[u] 24 (0, 0)) ∧ Rf bs R wr sk ∧ N ≤ wr.heap.size ∧ Hid (BB Q R w wr) ∧ Hid (Lp 4 57 CFun funP N n k s1 wr u l cs sk)) (fun i _ => n - (intOf i).toNat)
      case atStart => exact ⟨0, [], [], _, s1, Nat.zero_le _, rfl, HQ4.out, HM4.out, HR4.out, hN4, HB4, Lib.hid ⟨World.ownsRow_nil _ _ _ _, rfl, Inv.zero _ _ _, rfl⟩⟩
      case round =>
        obtain ⟨wo, rfl⟩ : ∃ wo, wo = wr := ⟨wr, rfl⟩
        obtain ⟨k, l, cs, u, sk, hk, rfl, hxq, hxm, hrd, hNw, hbw, hlp⟩ := hrel
        by_cases hgo : k < n ∧ ∃ r, sk = .ok r
        · obtain ⟨hlt2, r, rfl⟩ := hgo
          have y2 := hrd.ok2
          have hxql := block_lt hxq
          have hxml := block_lt hxm
          go_wp2_with fail
          refine (numF_any bs R wo (.ok r) hrd hbl).mono ?_
          rintro e wa ⟨v1, pp, sa, rfl, ⟨rfl, hpp⟩, hta, hra, hba⟩
          have HTA := Lib.hid hta
          have HPP := Lib.hid hpp
          clear hta hpp
          go_wp2_with fail
          refine (numF_any bs R wa sa hra hbl).mono ?_
          rintro e wb ⟨v2, tt, sb, rfl, ⟨rfl, htt⟩, htb, hrb, hbb⟩
          have HTB := Lib.hid htb
          have HTT := Lib.hid htt
          clear htb htt
          go_wp2_with fail
          refine (nums_any bs R wb sb hrb hbl).mono ?_
          rintro e wc ⟨v3, rg, sc, rfl, ⟨Ar, cr, rfl, hrg⟩, htc, hrc, hbc⟩
          have hsa := hba.size
          have hsb := hbb.size
          have hsc := hbc.size
          have hbac : BB wo.heap.size R wo wc := (hba.trans (hbb.mono hsa)).trans (hbc.mono (by omega))
          have HTC := Lib.hid htc
          obtain ⟨wd, hwd⟩ : ∃ wd, wd = wc.alloc (.cells #[.int .i64 pp, .int .i64 tt, .slice Ar rg.length cr, .slice none 0 0] 57) := ⟨_, rfl⟩
          have hF : wd.heap[wc.heap.size]? = some (.cells #[.int .i64 pp, .int .i64 tt, .slice Ar rg.length cr, .slice none 0 0] 57 (0, 0)) := by rw [hwd]; exact heap_alloc_new _ _
          have hsd : wd.heap.size = wc.heap.size + 1 := by rw [hwd]; simp
          have hbcd : Below wc.heap.size wc wd := by rw [hwd]; exact (Below.refl _ _).alloc (Nat.le_refl _) _
          have hrd' := hrc.below hbcd
          have hbad : BB wo.heap.size R wo wd := hbac.trans (BB.of_below hbcd (by omega))
          have HRG : Hid (SL wd 1 (RIntB (fun b => wo.heap.size ≤ b ∧ b < wc.heap.size)) Ar cr rg) := Lib.hid (SL.imp (RIntB.go (B := fun b => wb.heap.size ≤ b ∧ b < wc.heap.size) (KeptB.of (kept_of_below hbcd)) (fun b hb => ⟨by omega, hb.2⟩)) (SIntsB.lt hrg))
          go_upto_region 13 with fail
          rw [← hwd]
          obtain ⟨F, hFe⟩ : ∃ F, F = wc.heap.size := ⟨_, rfl⟩
          rw [← hFe] at hF HRG ⊢
          have hoF : wo.heap.size ≤ F := by omega
          have hFd : F < wd.heap.size := by omega
          have HFX := Lib.hid hF
          have HXQO := Lib.hid hxq
          have HXMO := Lib.hid hxm
          have HXQ := Lib.hid ((hbad.block Q hxql (by omega)).trans hxq)
          have HXM := Lib.hid ((hbad.block M hxml (by omega)).trans hxm)
          have HRD := Lib.hid hrd'
          have HBAD := Lib.hid hbad
          clear hwd hF hsd hbcd hbac hrg htc hba hbb hbc hra hrb hrc hFe y2 hxq hxm hrd' hbad hrd
          go_wp2_with fail
          refine (manyF_any bs R 64 wd sc HRD.out hbl (by omega)).mono ?_
          rintro e we ⟨v4, n2, s3, rfl, ⟨rfl, hm0, hm1⟩, ht2, hre, hbe⟩
          obtain ⟨n2, rfl⟩ := Int.eq_ofNat_of_zero_le hm0
          have HT2 := Lib.hid ht2
          have hn22 : n2 ≤ 64 := by omega
          have hse := hbe.size
          obtain ⟨N2, hN2⟩ : ∃ N2, N2 = we.heap.size := ⟨_, rfl⟩
          have hFN2 : F < N2 := by omega
          have HFE := Lib.hid ((hbe.block F hFd (by have := HRD.out.lt; omega)).trans HFX.out)
          have HQE4 := Lib.hid ((hbe.block Q (by omega) (by omega)).trans HXQ.out)
          have HME4 := Lib.hid ((hbe.block M (by omega) (by omega)).trans HXM.out)
          have HRE := Lib.hid hre
          have HBE : Hid (BB wo.heap.size R wo we) := Lib.hid (HBAD.out.trans (hbe.mono (by omega)))
          have HRGE : Hid (SL we 1 (RIntB (fun b => wo.heap.size ≤ b ∧ b < F)) Ar cr rg) := Lib.hid (SL.imp (RIntB.go (B := fun b => wo.heap.size ≤ b ∧ b < F) (hbe.kept.mono (fun b hb => ⟨by omega, by omega⟩)) (fun b hb => hb)) HRG.out)
          have HN2 := Lib.hid hN2
          clear hm0 hm1 ht2 hre hbe hse hN2
          go_wp2_with fail
          go_loopw [14] (fun i wr => ∃ (k2 : Nat) (l2 : List BlkD) (cs2 : List Value) (u2 : Value) (sk2 : St), k2 ≤ n2 ∧ i = .int .i64 k2 ∧ wr.heap[Q]? = some (.cells #[.slice none 0 0] 24 (0, 0)) ∧ wr.heap[M]? = some (.cells #[u] 24 (0, 0)) ∧ wr.heap[F]? = some (.cells #[.int .i64 pp, .int .i64 tt, .slice Ar rg.length cr, u2] 57 (0, 0)) ∧ Rf bs R wr sk2 ∧ N2 ≤ wr.heap.size ∧ Hid (BB wo.heap.size R wo wr) ∧ Hid (Lp 5 63 CBlk blkP N2 n2 k2 s3 wr u2 l2 cs2 sk2) ∧ Hid (SL wr 1 (RIntB (fun b => wo.heap.size ≤ b ∧ b < F)) Ar cr rg)) (fun i _ => n2 - (intOf i).toNat)
          case atStart => exact ⟨0, [], [], _, s3, Nat.zero_le _, rfl, HQE4.out, HME4.out, HFE.out, HRE.out, by rw [HN2.out]; exact Nat.le_refl _, HBE, Lib.hid ⟨World.ownsRow_nil _ _ _ _, rfl, Inv.zero _ _ _, rfl⟩, HRGE⟩
          case round =>
            obtain ⟨wi, rfl⟩ : ∃ wi, wi = wr := ⟨wr, rfl⟩
            obtain ⟨k2, l2, cs2, u2, sk2, hk2, rfl, hyq, hym, hyf, hrd2, hNw2, hbw2, hlp2, hrg2⟩ := hrel
            by_cases hgo : k2 < n2 ∧ ∃ r, sk2 = .ok r
            · obtain ⟨hlt3, r2, rfl⟩ := hgo
              have y2 := hrd2.ok2
              obtain ⟨i0, p1, p2, p3, p4⟩ := info_parts Tryz.info63
              have HI := Lib.hid (And.intro p1 (And.intro p2 (And.intro p3 p4)))
              clear p1 p2 p3 p4
              have hyql := block_lt hyq
              have hyml := block_lt hym
              have hyfl := block_lt hyf
              go_wp2_with fail
              refine (blockF_any bs R wi (.ok r2) hrd2 hbl).mono ?_
              rintro e wa2 ⟨v5, x, sx, rfl, ⟨Ap, cp, Ai, ci, At, ct, rfl, hph, hin, hto, hk64, ha64⟩, htx, hrx, hbx⟩
              have hsx := hbx.size
              obtain ⟨wf, hwf⟩ : ∃ wf, wf = wa2.alloc (.cells #[.slice Ap x.phis.length cp, .slice Ai x.ins.length ci, .int .i64 x.term.kind, .int .i64 x.term.arg, .slice At x.term.to.length ct] 63) := ⟨_, rfl⟩
              have hbxf : Below wa2.heap.size wa2 wf := by rw [hwf]; exact (Below.refl _ _).alloc (Nat.le_refl _) _
              have hZ : wf.heap[wa2.heap.size]? = some (.cells #[.slice Ap x.phis.length cp, .slice Ai x.ins.length ci, .int .i64 x.term.kind, .int .i64 x.term.arg, .slice At x.term.to.length ct] 63 (0, 0)) := by rw [hwf]; exact heap_alloc_new _ _
              have hsf : wf.heap.size = wa2.heap.size + 1 := by rw [hwf]; simp
              have hrf := hrx.below hbxf
              have hNwf : N2 ≤ wf.heap.size := by omega
              have hbif : BB wi.heap.size R wi wf := hbx.trans (BB.of_below hbxf (by omega))
              obtain ⟨hown, hrows, hinv, hlk⟩ := hlp2.out
              have hown2 : wf.ownsRow N2 63 5 u2 k2 cs2 := own_block hown (fun y hy => hbif.block y (hown.lt y hy).2 (by have := (hown.lt y hy).1; omega))
              have HXP : Hid (CBlk (fun b => wi.heap.size ≤ b) wf x [.slice Ap x.phis.length cp, .slice Ai x.ins.length ci, .int .i64 x.term.kind, .int .i64 x.term.arg, .slice At x.term.to.length ct]) := Lib.hid ⟨Ap, cp, Ai, ci, At, ct, rfl, SL.imp (RPhiB.go (KeptB.of (kept_of_below hbxf)) (fun b hb => hb)) hph, SL.imp (RInsB.go (KeptB.of (kept_of_below hbxf)) (fun b hb => hb)) hin, SIntsB.go (KeptB.of (kept_of_below hbxf)) (fun b hb => hb) hto, hk64, ha64⟩
              have hyff := (hbif.block F hyfl (by omega)).trans hyf
              have hyffl := block_lt hyff
              have z3 := cell_of_block hyff 3
              have HTP := Lib.hid htx
              have hRN2 : R < N2 := by omega
              go_upto_region 18 with fail
              rw [← hwf]
              obtain ⟨Z, hZe⟩ : ∃ Z, Z = wa2.heap.size := ⟨_, rfl⟩
              rw [← hZe] at hZ ⊢
              have b0 := cell_of_block hZ 0
              have b1 := cell_of_block hZ 1
              have b2 := cell_of_block hZ 2
              have b3 := cell_of_block hZ 3
              have b4 := cell_of_block hZ 4
              have hZl := block_lt hZ
              clear hwf hbxf hZ hrx hbx htx hph hin hto hZe y2 hsf
              go_wp2_with (at_builtin; refine wpList_append_lies _ rfl (.tmp 90) (.tmp 92) 55 rfl N2 63 i0 (.agg #[.slice none 0 0, .slice none 0 0, .int .i64 0, .int .i64 0, .slice none 0 0]) 5 88 Tryz.underlying55 HI.out.1 HI.out.2.1 HI.out.2.2.1 HI.out.2.2.2 rfl (by decide) u2 k2 cs2 rfl (hown2.alloc _) ⟨wf.heap.size, 0, none⟩ 1 1 [.slice Ap x.phis.length cp, .slice Ai x.ins.length ci, .int .i64 x.term.kind, .int .i64 x.term.arg, .slice At x.term.to.length ct] rfl rfl (news_cells wf #[.slice Ap x.phis.length cp, .slice Ai x.ins.length ci, .int .i64 x.term.kind, .int .i64 x.term.arg, .slice At x.term.to.length ct] _ rfl) (by simp [Value.oneCell']) (by decide) (by unfold maxLen; omega) (by omega) (by simp; omega) (wf.heap.size + 1) (by simp) ?_; intro g cap wg hown3 hgr hloc hltg; obtain ⟨hr3, hb3, hrows3⟩ := rfl_step (n := k2 + 1) (cap := cap) (F := CBlk) (fun _ _ _ _ _ _ h1 h2 h3 => CBlk.go h1 h2 h3) (fun _ _ _ _ h => CBlk.lt h) hRN2 hNw2 hown hrows hbif hrf HXP.out rfl hgr hloc; have hyfg := (hb3.block F (by omega) (by omega)).trans hyf; have z3 := cell_of_block hyfg 3; have zf := free_of_block hyfg 3)
              go_roundw
              case rel =>
                refine ⟨k2 + 1, l2 ++ [x], _, _, sx, by omega, by go_num, (Below.heap_setCell _ _ _ _ (by show Q ≠ F; omega)).trans ((hb3.block Q (by omega) (by omega)).trans hyq), (Below.heap_setCell _ _ _ _ (by show M ≠ F; omega)).trans ((hb3.block M (by omega) (by omega)).trans hym), set_of_block (i := 3) (.slice (some ⟨g, 0, none⟩) (k2 + 1) cap) hyfg, hr3.set (by omega), by simp; have := hb3.size; omega, Lib.hid ((hbw2.out.trans (hb3.mono (by omega))).setCell (p := ⟨F, 3, none⟩) (.inr (by show wo.heap.size ≤ F; omega)) _), Lib.hid (Lp.set (F := CBlk) (X := F) (i := 3) (fun _ _ _ _ _ _ h1 h2 h3 => CBlk.go h1 h2 h3) ⟨hown3, hrows3, hinv.next hlt3 HTP.out, by rw [List.length_append, hlk]; rfl⟩ (by omega)), Lib.hid ?_⟩
                exact SL.imp (RIntB.go (B := fun b => wo.heap.size ≤ b ∧ b < F) ((hb3.kept.mono (fun b hb => ⟨by omega, by omega⟩)).trans (kept_set (fun b hb => by omega))) (fun b hb => hb)) hrg2.out
              case measure => simp [intOf]; omega
            · have hex : (k2 = n2) ∨ (k2 < n2 ∧ ∃ c' n', sk2 = .bad c' n') := by
                by_cases h : k2 < n2
                · right
                  refine ⟨h, ?_⟩
                  cases sk2 with
                  | ok r => exact absurd ⟨h, r, rfl⟩ hgo
                  | bad c' n' => exact ⟨_, _, rfl⟩
                · left; omega
              obtain ⟨hown, hrows, hinv, hlk⟩ := hlp2.out
              obtain ⟨Ab, cb, hu, hsp⟩ : VS wi 5 (RBlkB (fun b => N2 ≤ b)) u2 l2 := Rows.reads (R := RBlkB (fun b => N2 ≤ b)) (hrows.imp (fun y d hy => CBlk.go (KeptB.of (Kept.refl _)) (fun b hb => hb.1) hy)) (by rw [hlk]; exact hown) (fun g o y d hg hb hF hl hc => CBlk.reads (B := fun b => N2 ≤ b) hb hF hc)
              have HTL2 : Hid (ToldS (listP blkP 64) sc l2 sk2) := Lib.hid (told_list HT2.out (by
                rcases hex with rfl | ⟨_, c', n', rfl⟩
                · exact hinv.done
                · exact hinv.bad _))
              have HSP2 := Lib.hid hsp
              skip
              subst hu
              clear hgo hown hrows hinv hlk hsp
              rcases hex with hkn | ⟨hkn, c', n', hsk⟩
              · have hkn' : ¬ k2 < n2 := by omega
                go_upto_region 19 with fail
                obtain ⟨i0, p1, p2, p3, p4⟩ := info_parts Tryz.info57
                have HI := Lib.hid (And.intro p1 (And.intro p2 (And.intro p3 p4)))
                clear p1 p2 p3 p4
                have hyql := block_lt hyq
                have hyml := block_lt hym
                have hyfl := block_lt hyf
                obtain ⟨hownO, hrowsO, hinvO, hlkO⟩ := hlp.out
                have hown2 : wi.ownsRow N 57 4 u k cs := own_block hownO (fun y hy => hbw2.out.block y (hownO.lt y hy).2 (by have := (hownO.lt y hy).1; omega))
                have hterm : ToldS funP (.ok r) ⟨pp, tt, rg, l2⟩ sk2 := HTA.out.and (HTB.out.and (HTC.out.and (ToldS.and (q := fun b => retP (⟨pp, tt, rg, b⟩ : FunD)) HTL2.out (ToldS.ret _ _))))
                have HTP := Lib.hid hterm
                have HXP : Hid (CFun (fun b => wo.heap.size ≤ b) wi ⟨pp, tt, rg, l2⟩ [.int .i64 pp, .int .i64 tt, .slice Ar rg.length cr, .slice Ab l2.length cb]) := Lib.hid ⟨Ar, cr, Ab, cb, rfl, SL.imp (RIntB.go (B := fun b => wo.heap.size ≤ b ∧ b < F) (KeptB.of (Kept.refl _)) (fun b hb => hb.1)) hrg2.out, SL.imp (RBlkB.go (B := fun b => N2 ≤ b) (KeptB.of (Kept.refl _)) (fun b hb => by omega)) HSP2.out, i64_of_ok HPP.out, i64_of_ok HTT.out⟩
                have b0 := cell_of_block hyf 0
                have b1 := cell_of_block hyf 1
                have b2 := cell_of_block hyf 2
                have b3 := cell_of_block hyf 3
                have z0 := cell_of_block hym 0
                have hRN : R < N := by omega
                have hxmo := HXMO.out
                have hxqo := HXQO.out
                clear hterm
                go_wp2_with (at_builtin; refine wpList_append_lies _ rfl (.tmp 96) (.tmp 98) 22 rfl N 57 i0 (.agg #[.int .i64 0, .int .i64 0, .slice none 0 0, .slice none 0 0]) 4 64 Tryz.underlying22 HI.out.1 HI.out.2.1 HI.out.2.2.1 HI.out.2.2.2 rfl (by decide) u k cs rfl (hown2.alloc _) ⟨wi.heap.size, 0, none⟩ 1 1 [.int .i64 pp, .int .i64 tt, .slice Ar rg.length cr, .slice Ab l2.length cb] rfl rfl (news_cells wi #[.int .i64 pp, .int .i64 tt, .slice Ar rg.length cr, .slice Ab l2.length cb] _ rfl) (by simp [Value.oneCell']) (by decide) (by unfold maxLen; omega) (by omega) (by simp; omega) (wi.heap.size + 1) (by simp) ?_; intro g cap wg hown3 hgr hloc hltg; obtain ⟨hr3, hb3, hrows3⟩ := rfl_step (n := k + 1) (cap := cap) (F := CFun) (fun _ _ _ _ _ _ h1 h2 h3 => CFun.go h1 h2 h3) (fun _ _ _ _ h => CFun.lt h) hRN hNw hownO hrowsO hbw2.out hrd2 HXP.out rfl hgr hloc; have hymg := (hb3.block M (by omega) (by omega)).trans hxmo; have z0 := cell_of_block hymg 0; have zf := free_of_block hymg 0)
                go_roundw
                case rel =>
                  refine ⟨k + 1, l ++ [⟨pp, tt, rg, l2⟩], _, _, sk2, by omega, by go_num, (Below.heap_setCell _ _ _ _ (by show Q ≠ M; omega)).trans ((hb3.block Q (by omega) (by omega)).trans hxqo), set_of_block (i := 0) (.slice (some ⟨g, 0, none⟩) (k + 1) cap) hymg, hr3.set (by omega), by simp; have := hb3.size; omega, Lib.hid ((hbw.out.trans (hb3.mono (by omega))).setCell (p := ⟨M, 0, none⟩) (.inr (by show Q ≤ M; omega)) _), Lib.hid (Lp.set (F := CFun) (X := M) (i := 0) (fun _ _ _ _ _ _ h1 h2 h3 => CFun.go h1 h2 h3) ⟨hown3, hrows3, hinvO.next hlt2 HTP.out, by rw [List.length_append, hlkO]; rfl⟩ (by omega))⟩
                case measure => simp [intOf]; omega
              · obtain ⟨y2, y3, y4⟩ := (show Rf bs R wi (.bad c' n') from hsk ▸ hrd2).bad2
                go_upto_region 19 with fail
                obtain ⟨i0, p1, p2, p3, p4⟩ := info_parts Tryz.info57
                have HI := Lib.hid (And.intro p1 (And.intro p2 (And.intro p3 p4)))
                clear p1 p2 p3 p4
                have hyql := block_lt hyq
                have hyml := block_lt hym
                have hyfl := block_lt hyf
                obtain ⟨hownO, hrowsO, hinvO, hlkO⟩ := hlp.out
                have hown2 : wi.ownsRow N 57 4 u k cs := own_block hownO (fun y hy => hbw2.out.block y (hownO.lt y hy).2 (by have := (hownO.lt y hy).1; omega))
                have hterm : ToldS funP (.ok r) ⟨pp, tt, rg, l2⟩ sk2 := HTA.out.and (HTB.out.and (HTC.out.and (ToldS.and (q := fun b => retP (⟨pp, tt, rg, b⟩ : FunD)) HTL2.out (ToldS.ret _ _))))
                have HTP := Lib.hid hterm
                have HXP : Hid (CFun (fun b => wo.heap.size ≤ b) wi ⟨pp, tt, rg, l2⟩ [.int .i64 pp, .int .i64 tt, .slice Ar rg.length cr, .slice Ab l2.length cb]) := Lib.hid ⟨Ar, cr, Ab, cb, rfl, SL.imp (RIntB.go (B := fun b => wo.heap.size ≤ b ∧ b < F) (KeptB.of (Kept.refl _)) (fun b hb => hb.1)) hrg2.out, SL.imp (RBlkB.go (B := fun b => N2 ≤ b) (KeptB.of (Kept.refl _)) (fun b hb => by omega)) HSP2.out, i64_of_ok HPP.out, i64_of_ok HTT.out⟩
                have b0 := cell_of_block hyf 0
                have b1 := cell_of_block hyf 1
                have b2 := cell_of_block hyf 2
                have b3 := cell_of_block hyf 3
                have z0 := cell_of_block hym 0
                have hRN : R < N := by omega
                have hxmo := HXMO.out
                have hxqo := HXQO.out
                clear hterm
                go_wp2_with (at_builtin; refine wpList_append_lies _ rfl (.tmp 96) (.tmp 98) 22 rfl N 57 i0 (.agg #[.int .i64 0, .int .i64 0, .slice none 0 0, .slice none 0 0]) 4 64 Tryz.underlying22 HI.out.1 HI.out.2.1 HI.out.2.2.1 HI.out.2.2.2 rfl (by decide) u k cs rfl (hown2.alloc _) ⟨wi.heap.size, 0, none⟩ 1 1 [.int .i64 pp, .int .i64 tt, .slice Ar rg.length cr, .slice Ab l2.length cb] rfl rfl (news_cells wi #[.int .i64 pp, .int .i64 tt, .slice Ar rg.length cr, .slice Ab l2.length cb] _ rfl) (by simp [Value.oneCell']) (by decide) (by unfold maxLen; omega) (by omega) (by simp; omega) (wi.heap.size + 1) (by simp) ?_; intro g cap wg hown3 hgr hloc hltg; obtain ⟨hr3, hb3, hrows3⟩ := rfl_step (n := k + 1) (cap := cap) (F := CFun) (fun _ _ _ _ _ _ h1 h2 h3 => CFun.go h1 h2 h3) (fun _ _ _ _ h => CFun.lt h) hRN hNw hownO hrowsO hbw2.out hrd2 HXP.out rfl hgr hloc; have hymg := (hb3.block M (by omega) (by omega)).trans hxmo; have z0 := cell_of_block hymg 0; have zf := free_of_block hymg 0)
                go_roundw
                case rel =>
                  refine ⟨k + 1, l ++ [⟨pp, tt, rg, l2⟩], _, _, sk2, by omega, by go_num, (Below.heap_setCell _ _ _ _ (by show Q ≠ M; omega)).trans ((hb3.block Q (by omega) (by omega)).trans hxqo), set_of_block (i := 0) (.slice (some ⟨g, 0, none⟩) (k + 1) cap) hymg, hr3.set (by omega), by simp; have := hb3.size; omega, Lib.hid ((hbw.out.trans (hb3.mono (by omega))).setCell (p := ⟨M, 0, none⟩) (.inr (by show Q ≤ M; omega)) _), Lib.hid (Lp.set (F := CFun) (X := M) (i := 0) (fun _ _ _ _ _ _ h1 h2 h3 => CFun.go h1 h2 h3) ⟨hown3, hrows3, hinvO.next hlt2 HTP.out, by rw [List.length_append, hlkO]; rfl⟩ (by omega))⟩
                case measure => simp [intOf]; omega
        · have hex : (k = n) ∨ (k < n ∧ ∃ c' n', sk = .bad c' n') := by
            by_cases h : k < n
            · right
              refine ⟨h, ?_⟩
              cases sk with
              | ok r => exact absurd ⟨h, r, rfl⟩ hgo
              | bad c' n' => exact ⟨_, _, rfl⟩
            · left; omega
          obtain ⟨hown, hrows, hinv, hlk⟩ := hlp.out
          obtain ⟨Am, cm, hu, hsp⟩ : VS wo 4 (RFunB (fun b => N ≤ b)) u l := Rows.reads (R := RFunB (fun b => N ≤ b)) (hrows.imp (fun y d hy => CFun.go (KeptB.of (Kept.refl _)) (fun b hb => hb.1) hy)) (by rw [hlk]; exact hown) (fun g o y d hg hb hF hl hc => CFun.reads (B := fun b => N ≤ b) hb hF hc)
          have HTL : Hid (ToldS (listP funP 32) (.ok (bs.drop 4)) l sk) := Lib.hid (told_list HT.out (by
            rcases hex with rfl | ⟨_, c', n', rfl⟩
            · exact hinv.done
            · exact hinv.bad _))
          have HSP := Lib.hid hsp
          skip
          subst hu
          clear hgo hown hrows hinv hlk hsp
          rcases hex with hkn | ⟨hkn, c', n', hsk⟩
          · have hkn' : ¬ k < n := by omega
            go_upto_region 20 with fail
            have hxql := block_lt hxq
            have hxml := block_lt hxm
            cases sk with
            | bad cb nb =>
              have hrdb := hrd
              have htl : funsP (bs.drop 4) = .error (cb, nb) := told_bad HTL.out
              obtain ⟨A', c0, pos, bad, at_, g1, g2, g3, g4⟩ := hrdb
              obtain ⟨hbc, hcc, pl, hat, hpl, hnl⟩ := g4
              subst hbc hat
              have hc2 : wo.cell? ⟨R, 2, none⟩ = some (.int .i64 bad) := cell_of_block g1 2
              have hc3 : wo.cell? ⟨R, 3, none⟩ = some (.int .i64 (pl : Nat)) := cell_of_block g1 3
              have hb0 : (bad == 0) = false := by rcases hcc with h | h <;> subst h <;> rfl
              have hb1 : (bad != 0) = true := by rcases hcc with h | h <;> subst h <;> rfl
              have HD : Hid (decE bs = (bad, (pl : Int)) ∧ decM bs = []) := Lib.hid (by
                have h : readP bs = .error (bad, nb) := by unfold readP; rw [if_pos HMK.out, htl]
                unfold decE decM
                rw [h]
                exact ⟨by rw [hnl]; dsimp only; rw [show bs.length - (bs.length - pl) = pl by omega], rfl⟩)
              have hQW := hxq
              have hBW := hbw.out.below (m := w.heap.size) hwQ (by omega)
              clear g1 g2 hcc hnl htl
              go_upto_region 23 with fail
              have hQX := hQW
              have hS0 : World.cell? (World.drew wo) ⟨R, 2, none⟩ = some (.int .i64 bad) ∧ World.cell? (World.drew wo) ⟨R, 3, none⟩ = some (.int .i64 (pl : Nat)) ∧ World.cell? (World.drew wo) ⟨Q, 0, none⟩ = some (.slice none 0 0) ∧ World.frozen? (World.drew wo) ⟨Q, 0, none⟩ = false := ⟨hc2, hc3, cell_of_block hQX 0, free_of_block hQX 0⟩
              have hQD : (World.drew wo).heap[Q]? = some (.cells #[.slice none 0 0] 24 (0, 0)) := hQX
              have hQF : ((World.drew wo).setCell ⟨Q, 0, none⟩ (.slice none 0 0)).heap[Q]? = some (.cells #[.slice none 0 0] 24 (0, 0)) := set_of_block (i := 0) (.slice none 0 0) hQD
              have hS1 : ((World.drew wo).setCell ⟨Q, 0, none⟩ (.slice none 0 0)).cell? ⟨R, 2, none⟩ = some (.int .i64 bad) ∧ ((World.drew wo).setCell ⟨Q, 0, none⟩ (.slice none 0 0)).cell? ⟨R, 3, none⟩ = some (.int .i64 (pl : Nat)) ∧ ((World.drew wo).setCell ⟨Q, 0, none⟩ (.slice none 0 0)).cell? ⟨Q, 0, none⟩ = some (.slice none 0 0) ∧ ((World.drew wo).setCell ⟨Q, 0, none⟩ (.slice none 0 0)).frozen? ⟨Q, 0, none⟩ = false :=
                ⟨(World.cell?_of_block (a := ⟨R, 2, none⟩) (Below.heap_setCell _ _ _ _ (by show R ≠ Q; omega))).trans hS0.1, (World.cell?_of_block (a := ⟨R, 3, none⟩) (Below.heap_setCell _ _ _ _ (by show R ≠ Q; omega))).trans hS0.2.1, cell_of_block hQF 0, free_of_block hQF 0⟩
              have HQF := Lib.hid hQF
              have HBW := Lib.hid hBW
              clear hc2 hc3 hQW hQX hQD hQF hBW
              refine wp_region_held_drew (S := fun w' => w'.cell? ⟨R, 2, none⟩ = some (.int .i64 bad) ∧ w'.cell? ⟨R, 3, none⟩ = some (.int .i64 (pl : Nat)) ∧ w'.cell? ⟨Q, 0, none⟩ = some (.slice none 0 0) ∧ w'.frozen? ⟨Q, 0, none⟩ = false) (by kernel_rfl) hS0 (fun hHeld => ?_)
              clear hHeld
              refine takeH (i := 0) (some 126) (v := ?_) rfl (by kernel_rfl) (by kernel_rfl) (by kernel_rfl) (fun _ _ _ h => h) hS0 (fun o ho => ?_) ?_
              rotate_left
              · simp only [List.getElem?_toArray, List.getElem?_cons_zero, Option.some.injEq] at ho; subst ho; refine Or.inl ⟨by rfl, fun w' hSw => ?_⟩; (try dsimp only at hSw); go_simp; try with_reducible rfl
              simp only [Act.put, List.setIfInBounds_toArray, List.set_cons_zero, List.set_cons_succ]
              refine takeH (i := 1) (some 127) (v := ?_) rfl (by kernel_rfl) (by kernel_rfl) (by kernel_rfl) (fun _ _ _ h => h) hS0 (fun o ho => ?_) ?_
              rotate_left
              · simp only [List.getElem?_toArray, List.getElem?_cons_zero, List.getElem?_cons_succ, Option.some.injEq] at ho; subst ho; refine Or.inl ⟨by rfl, fun w' hSw => ?_⟩; (try dsimp only at hSw); go_simp; try with_reducible rfl
              simp only [Act.put, List.setIfInBounds_toArray, List.set_cons_zero, List.set_cons_succ]
              refine takeH (i := 2) (some 128) (v := ?_) rfl (by kernel_rfl) (by kernel_rfl) (by kernel_rfl) (fun _ _ _ h => h) hS0 (fun o ho => ?_) ?_
              rotate_left
              · simp only [List.getElem?_toArray, List.getElem?_cons_zero, List.getElem?_cons_succ, Option.some.injEq] at ho; subst ho; refine Or.inl ⟨by rfl, fun w' hSw => ?_⟩; (try dsimp only at hSw); go_simp; try with_reducible rfl
              simp only [Act.put, List.setIfInBounds_toArray, List.set_cons_zero, List.set_cons_succ]
              refine takeH (i := 3) (some 129) (v := ?_) rfl (by kernel_rfl) (by kernel_rfl) (by kernel_rfl) (fun _ _ _ h => h) hS0 (fun o ho => ?_) ?_
              rotate_left
              · simp only [List.getElem?_toArray, List.getElem?_cons_zero, List.getElem?_cons_succ, Option.some.injEq] at ho; subst ho; refine Or.inl ⟨by rfl, fun w' hSw => ?_⟩; (try dsimp only at hSw); go_simp; try with_reducible rfl
              simp only [Act.put, List.setIfInBounds_toArray, List.set_cons_zero, List.set_cons_succ]
              refine takeH (i := 4) (some 130) (v := ?_) rfl (by kernel_rfl) (by kernel_rfl) (by kernel_rfl) (fun _ _ _ h => h) hS0 (fun o ho => ?_) ?_
              rotate_left
              · simp only [List.getElem?_toArray, List.getElem?_cons_zero, List.getElem?_cons_succ, Option.some.injEq] at ho; subst ho; refine Or.inl ⟨by rfl, fun w' hSw => ?_⟩; (try dsimp only at hSw); go_simp; try with_reducible rfl
              simp only [Act.put, List.setIfInBounds_toArray, List.set_cons_zero, List.set_cons_succ]
              refine takeH (i := 5) (some 131) (v := ?_) rfl (by kernel_rfl) (by kernel_rfl) (by kernel_rfl) (fun _ _ _ h => h) hS0 (fun o ho => ?_) ?_
              rotate_left
              · simp only [List.getElem?_toArray, List.getElem?_cons_zero, List.getElem?_cons_succ, Option.some.injEq] at ho; subst ho; refine Or.inl ⟨by rfl, fun w' hSw => ?_⟩; (try dsimp only at hSw); go_simp; try with_reducible rfl
              simp only [Act.put, List.setIfInBounds_toArray, List.set_cons_zero, List.set_cons_succ]
              refine takeH (i := 6) (some 132) (v := ?_) rfl (by kernel_rfl) (by kernel_rfl) (by kernel_rfl) (fun _ _ _ h => h) hS0 (fun o ho => ?_) ?_
              rotate_left
              · simp only [List.getElem?_toArray, List.getElem?_cons_zero, List.getElem?_cons_succ, Option.some.injEq] at ho; subst ho; refine Or.inl ⟨by rfl, fun w' hSw => ?_⟩; (try dsimp only at hSw); go_simp; try with_reducible rfl
              simp only [Act.put, List.setIfInBounds_toArray, List.set_cons_zero, List.set_cons_succ]
              refine takeH (i := 7) (some 133) (v := ?_) rfl (by kernel_rfl) (by kernel_rfl) (by kernel_rfl) (fun _ _ _ h => h) hS0 (fun o ho => ?_) ?_
              rotate_left
              · simp only [List.getElem?_toArray, List.getElem?_cons_zero, List.getElem?_cons_succ, Option.some.injEq] at ho; subst ho; refine Or.inl ⟨by rfl, fun w' hSw => ?_⟩; (try dsimp only at hSw); go_simp; try with_reducible rfl
              simp only [Act.put, List.setIfInBounds_toArray, List.set_cons_zero, List.set_cons_succ]
              refine takeH (i := 8) (some 134) (v := ?_) rfl (by kernel_rfl) (by kernel_rfl) (by kernel_rfl) (fun _ _ _ h => h) hS0 (fun o ho => ?_) ?_
              rotate_left
              · simp only [List.getElem?_toArray, List.getElem?_cons_zero, List.getElem?_cons_succ, Option.some.injEq] at ho; subst ho; refine Or.inl ⟨by rfl, fun w' hSw => ?_⟩; (try dsimp only at hSw); go_simp; try with_reducible rfl
              simp only [Act.put, List.setIfInBounds_toArray, List.set_cons_zero, List.set_cons_succ]
              refine oneH (i := 9) (by kernel_rfl) (fun o ho K hK => ?_)
              simp only [List.getElem?_toArray, List.getElem?_cons_zero, List.getElem?_cons_succ, Option.some.injEq] at ho; subst ho
              go_simp
              refine hK.out _ _ hS1 ?_
              clear hK K
              try simp only [Act.put, List.setIfInBounds_toArray, List.set_cons_zero, List.set_cons_succ]
              refine takeH (i := 10) (some 3) (v := ?_) rfl (by kernel_rfl) (by kernel_rfl) (by kernel_rfl) (fun _ _ _ h => h) hS1 (fun o ho => ?_) ?_
              rotate_left
              · simp only [List.getElem?_toArray, List.getElem?_cons_zero, List.getElem?_cons_succ, Option.some.injEq] at ho; subst ho; refine Or.inl ⟨by rfl, fun w' hSw => ?_⟩; (try dsimp only at hSw); go_simp; try with_reducible rfl
              simp only [Act.put, List.setIfInBounds_toArray, List.set_cons_zero, List.set_cons_succ]
              refine takeH (i := 11) (some 4) (v := ?_) rfl (by kernel_rfl) (by kernel_rfl) (by kernel_rfl) (fun _ _ _ h => h) hS1 (fun o ho => ?_) ?_
              rotate_left
              · simp only [List.getElem?_toArray, List.getElem?_cons_zero, List.getElem?_cons_succ, Option.some.injEq] at ho; subst ho; refine Or.inl ⟨by rfl, fun w' hSw => ?_⟩; (try dsimp only at hSw); go_simp; try with_reducible rfl
              simp only [Act.put, List.setIfInBounds_toArray, List.set_cons_zero, List.set_cons_succ]
              refine wpAnyH_done (by kernel_rfl) ?_ _
              go_wp2_with fail
              refine bodyPost_ret (results_cell3 rfl _ _ Q 24 #[.slice none 0 0] (0, 0) _ (by rfl) HQF.out Tryz.underlying24 (by rfl) (by kernel_rfl)) rfl ?_
              exact ⟨none, 0, by rw [HD.out.1, HD.out.2]; rfl, by rw [HD.out.2]; exact funs_none _, (below_drewN HBW.out 1).setCell (by show _ ≤ Q; omega) _⟩
            | ok r =>
              have hrd0 := hrd
              obtain ⟨A', c0, pos, bad, at_, g1, g2, g3, g4⟩ := hrd
              obtain ⟨hbz, hdr⟩ := g4
              subst hbz
              have y1 : wo.cell? ⟨R, 1, none⟩ = some (.int .i64 (pos : Nat)) := cell_of_block g1 1
              have y2 : wo.cell? ⟨R, 2, none⟩ = some (.int .i64 0) := cell_of_block g1 2
              have hfun : funsP (bs.drop 4) = .ok (l, r) := told_ok HTL.out
              have hrl : r.length = bs.length - pos := by rw [← hdr, List.length_drop]
              by_cases hr0 : r = []
              · subst hr0
                have hread : readP bs = .ok l := by unfold readP; rw [if_pos HMK.out, hfun]; rfl
                have hple : ¬ (pos : Int) < bs.length := by simp at hrl; omega
                have hok := (read_back hread).2
                have HE : Hid (decE bs = modE l) := Lib.hid (by unfold decE; rw [hread])
                have HM : Hid (decM bs = if (modE l).1 = 0 then l else []) := Lib.hid (by unfold decM; rw [hread])
                have HMR := Lib.hid (module_ref l _ wo ⟨Am, cm, rfl, SL.imp RFunB.plain HSP.out⟩ (small_ok hok))
                have HXM := Lib.hid hxm
                have HXQ := Lib.hid hxq
                have m0 := cell_of_block hxm 0
                clear hread hok hrl hfun g1 g2 hrd0 hdr
                go_wp2_with fail
                refine HMR.out.mono ?_
                rintro e w7 ⟨rfl, hb7⟩
                have hx7 := (hb7.block Q hxql).trans HXQ.out
                have hm7 := (hb7.block M hxml).trans HXM.out
                have q0 := cell_of_block hx7 0
                have qf := free_of_block hx7 0
                have m0 := cell_of_block hm7 0
                have HX7 := Lib.hid hx7
                have HB7 : Hid (Below w.heap.size w w7) := Lib.hid ((hbw.out.below (m := w.heap.size) hwQ (by omega)).trans (hb7.mono (by have := hbw.out.size; omega)))
                have HK7 : Hid (KeptB (fun b => N ≤ b) wo w7) := Lib.hid (KeptB.of (kept_of_below hb7))
                clear hx7 hm7 hb7
                by_cases hz : (modE l).1 = 0
                · have hz0 : ((modE l).1 != 0) = false := by rw [hz]; rfl
                  have HZ : Hid (modE l = (0, -1)) := Lib.hid (modE_zero hz)
                  have HML : Hid (decM bs = l) := Lib.hid (by rw [HM.out, if_pos hz])
                  obtain ⟨p1, hp1⟩ : ∃ p1, p1 = (modE l).1 := ⟨_, rfl⟩
                  obtain ⟨p2, hp2⟩ : ∃ p2, p2 = (modE l).2 := ⟨_, rfl⟩
                  rw [← hp1] at hz0
                  rw [← hp1, ← hp2]
                  clear hz hp1 hp2
                  go_wp2_with fail
                  have hQF : (w7.setCell ⟨Q, 0, none⟩ (.slice Am l.length cm)).heap[Q]? = some (.cells #[.slice Am l.length cm] 24 (0, 0)) := set_of_block (i := 0) (.slice Am l.length cm) HX7.out
                  refine bodyPost_ret (results_cell3 rfl _ _ Q 24 #[.slice Am l.length cm] (0, 0) _ (by rfl) hQF Tryz.underlying24 (by rfl) (by kernel_rfl)) rfl ?_
                  refine ⟨Am, cm, by rw [HML.out, HE.out, HZ.out]; rfl, ?_, HB7.out.setCell (by show _ ≤ Q; omega) _⟩
                  rw [HML.out]
                  exact SL.imp RFunB.plain (SL.imp (RFunB.go (B := fun b => N ≤ b) (HK7.out.trans (kept_set (fun b hb => by omega))) (fun b hb => hb)) HSP.out)
                · have hz0 : ((modE l).1 != 0) = true := by simp [hz]
                  have HML : Hid (decM bs = []) := Lib.hid (by rw [HM.out, if_neg hz])
                  obtain ⟨p1, hp1⟩ : ∃ p1, p1 = (modE l).1 := ⟨_, rfl⟩
                  obtain ⟨p2, hp2⟩ : ∃ p2, p2 = (modE l).2 := ⟨_, rfl⟩
                  rw [← hp1] at hz0
                  rw [← hp1, ← hp2]
                  have HP12 : Hid (decE bs = (p1, p2)) := Lib.hid (by rw [HE.out, hp1, hp2])
                  clear hz hp1 hp2
                  go_wp2_with fail
                  have hQF : (w7.setCell ⟨Q, 0, none⟩ (.slice none 0 0)).heap[Q]? = some (.cells #[.slice none 0 0] 24 (0, 0)) := set_of_block (i := 0) (.slice none 0 0) HX7.out
                  refine bodyPost_ret (results_cell3 rfl _ _ Q 24 #[.slice none 0 0] (0, 0) _ (by rfl) hQF Tryz.underlying24 (by rfl) (by kernel_rfl)) rfl ?_
                  exact ⟨none, 0, by rw [HML.out, HP12.out]; rfl, by rw [HML.out]; exact funs_none _, HB7.out.setCell (by show _ ≤ Q; omega) _⟩
              · have hlt5 : (pos : Int) < bs.length := by have : 0 < r.length := List.length_pos_iff.2 hr0; omega
                have HD : Hid (decE bs = (2, (pos : Int)) ∧ decM bs = []) := Lib.hid (by
                  have h : readP bs = .error (2, r.length) := by unfold readP; rw [if_pos HMK.out, hfun]; dsimp only; rw [if_neg hr0]
                  unfold decE decM
                  rw [h]
                  exact ⟨by rw [hrl]; dsimp only; rw [show bs.length - (bs.length - pos) = pos by omega], rfl⟩)
                have HAM := Lib.hid (amiss_any bs R wo (.ok r) pos 2 hrd0 g3 (.inl rfl))
                have HXQ := Lib.hid hxq
                clear hr0 hfun hrl hdr hrd0 g1 g2
                go_wp2_with fail
                refine HAM.out.mono ?_
                rintro e w7 ⟨rfl, hr7, hb7⟩
                obtain ⟨A7, c7, pos7, bad7, at7, k1, -, -, k4⟩ := hr7
                obtain ⟨rfl, -, pl7, rfl, hpl7, hl7⟩ := k4
                have hc2 : w7.cell? ⟨R, 2, none⟩ = some (.int .i64 2) := cell_of_block k1 2
                have hc3 : w7.cell? ⟨R, 3, none⟩ = some (.int .i64 (pos : Int)) := by rw [show (pos : Int) = (pl7 : Nat) by omega]; exact cell_of_block k1 3
                have hQW := (hb7.block Q hxql (by omega)).trans HXQ.out
                have hBW : Below w.heap.size w w7 := (hbw.out.below (m := w.heap.size) hwQ (by omega)).trans (hb7.below (m := w.heap.size) (by omega) (by omega))
                clear k1 hb7 hl7 hpl7
                go_upto_region 23 with fail
                have hQX := hQW
                have hS0 : World.cell? (World.drew w7) ⟨R, 2, none⟩ = some (.int .i64 2) ∧ World.cell? (World.drew w7) ⟨R, 3, none⟩ = some (.int .i64 (pos : Int)) ∧ World.cell? (World.drew w7) ⟨Q, 0, none⟩ = some (.slice none 0 0) ∧ World.frozen? (World.drew w7) ⟨Q, 0, none⟩ = false := ⟨hc2, hc3, cell_of_block hQX 0, free_of_block hQX 0⟩
                have hQD : (World.drew w7).heap[Q]? = some (.cells #[.slice none 0 0] 24 (0, 0)) := hQX
                have hQF : ((World.drew w7).setCell ⟨Q, 0, none⟩ (.slice none 0 0)).heap[Q]? = some (.cells #[.slice none 0 0] 24 (0, 0)) := set_of_block (i := 0) (.slice none 0 0) hQD
                have hS1 : ((World.drew w7).setCell ⟨Q, 0, none⟩ (.slice none 0 0)).cell? ⟨R, 2, none⟩ = some (.int .i64 2) ∧ ((World.drew w7).setCell ⟨Q, 0, none⟩ (.slice none 0 0)).cell? ⟨R, 3, none⟩ = some (.int .i64 (pos : Int)) ∧ ((World.drew w7).setCell ⟨Q, 0, none⟩ (.slice none 0 0)).cell? ⟨Q, 0, none⟩ = some (.slice none 0 0) ∧ ((World.drew w7).setCell ⟨Q, 0, none⟩ (.slice none 0 0)).frozen? ⟨Q, 0, none⟩ = false :=
                  ⟨(World.cell?_of_block (a := ⟨R, 2, none⟩) (Below.heap_setCell _ _ _ _ (by show R ≠ Q; omega))).trans hS0.1, (World.cell?_of_block (a := ⟨R, 3, none⟩) (Below.heap_setCell _ _ _ _ (by show R ≠ Q; omega))).trans hS0.2.1, cell_of_block hQF 0, free_of_block hQF 0⟩
                have HQF := Lib.hid hQF
                have HBW := Lib.hid hBW
                clear hc2 hc3 hQW hQX hQD hQF hBW
                refine wp_region_held_drew (S := fun w' => w'.cell? ⟨R, 2, none⟩ = some (.int .i64 2) ∧ w'.cell? ⟨R, 3, none⟩ = some (.int .i64 (pos : Int)) ∧ w'.cell? ⟨Q, 0, none⟩ = some (.slice none 0 0) ∧ w'.frozen? ⟨Q, 0, none⟩ = false) (by kernel_rfl) hS0 (fun hHeld => ?_)
                clear hHeld
                refine takeH (i := 0) (some 126) (v := ?_) rfl (by kernel_rfl) (by kernel_rfl) (by kernel_rfl) (fun _ _ _ h => h) hS0 (fun o ho => ?_) ?_
                rotate_left
                · simp only [List.getElem?_toArray, List.getElem?_cons_zero, Option.some.injEq] at ho; subst ho; refine Or.inl ⟨by rfl, fun w' hSw => ?_⟩; (try dsimp only at hSw); go_simp; try with_reducible rfl
                simp only [Act.put, List.setIfInBounds_toArray, List.set_cons_zero, List.set_cons_succ]
                refine takeH (i := 1) (some 127) (v := ?_) rfl (by kernel_rfl) (by kernel_rfl) (by kernel_rfl) (fun _ _ _ h => h) hS0 (fun o ho => ?_) ?_
                rotate_left
                · simp only [List.getElem?_toArray, List.getElem?_cons_zero, List.getElem?_cons_succ, Option.some.injEq] at ho; subst ho; refine Or.inl ⟨by rfl, fun w' hSw => ?_⟩; (try dsimp only at hSw); go_simp; try with_reducible rfl
                simp only [Act.put, List.setIfInBounds_toArray, List.set_cons_zero, List.set_cons_succ]
                refine takeH (i := 2) (some 128) (v := ?_) rfl (by kernel_rfl) (by kernel_rfl) (by kernel_rfl) (fun _ _ _ h => h) hS0 (fun o ho => ?_) ?_
                rotate_left
                · simp only [List.getElem?_toArray, List.getElem?_cons_zero, List.getElem?_cons_succ, Option.some.injEq] at ho; subst ho; refine Or.inl ⟨by rfl, fun w' hSw => ?_⟩; (try dsimp only at hSw); go_simp; try with_reducible rfl
                simp only [Act.put, List.setIfInBounds_toArray, List.set_cons_zero, List.set_cons_succ]
                refine takeH (i := 3) (some 129) (v := ?_) rfl (by kernel_rfl) (by kernel_rfl) (by kernel_rfl) (fun _ _ _ h => h) hS0 (fun o ho => ?_) ?_
                rotate_left
                · simp only [List.getElem?_toArray, List.getElem?_cons_zero, List.getElem?_cons_succ, Option.some.injEq] at ho; subst ho; refine Or.inl ⟨by rfl, fun w' hSw => ?_⟩; (try dsimp only at hSw); go_simp; try with_reducible rfl
                simp only [Act.put, List.setIfInBounds_toArray, List.set_cons_zero, List.set_cons_succ]
                refine takeH (i := 4) (some 130) (v := ?_) rfl (by kernel_rfl) (by kernel_rfl) (by kernel_rfl) (fun _ _ _ h => h) hS0 (fun o ho => ?_) ?_
                rotate_left
                · simp only [List.getElem?_toArray, List.getElem?_cons_zero, List.getElem?_cons_succ, Option.some.injEq] at ho; subst ho; refine Or.inl ⟨by rfl, fun w' hSw => ?_⟩; (try dsimp only at hSw); go_simp; try with_reducible rfl
                simp only [Act.put, List.setIfInBounds_toArray, List.set_cons_zero, List.set_cons_succ]
                refine takeH (i := 5) (some 131) (v := ?_) rfl (by kernel_rfl) (by kernel_rfl) (by kernel_rfl) (fun _ _ _ h => h) hS0 (fun o ho => ?_) ?_
                rotate_left
                · simp only [List.getElem?_toArray, List.getElem?_cons_zero, List.getElem?_cons_succ, Option.some.injEq] at ho; subst ho; refine Or.inl ⟨by rfl, fun w' hSw => ?_⟩; (try dsimp only at hSw); go_simp; try with_reducible rfl
                simp only [Act.put, List.setIfInBounds_toArray, List.set_cons_zero, List.set_cons_succ]
                refine takeH (i := 6) (some 132) (v := ?_) rfl (by kernel_rfl) (by kernel_rfl) (by kernel_rfl) (fun _ _ _ h => h) hS0 (fun o ho => ?_) ?_
                rotate_left
                · simp only [List.getElem?_toArray, List.getElem?_cons_zero, List.getElem?_cons_succ, Option.some.injEq] at ho; subst ho; refine Or.inl ⟨by rfl, fun w' hSw => ?_⟩; (try dsimp only at hSw); go_simp; try with_reducible rfl
                simp only [Act.put, List.setIfInBounds_toArray, List.set_cons_zero, List.set_cons_succ]
                refine takeH (i := 7) (some 133) (v := ?_) rfl (by kernel_rfl) (by kernel_rfl) (by kernel_rfl) (fun _ _ _ h => h) hS0 (fun o ho => ?_) ?_
                rotate_left
                · simp only [List.getElem?_toArray, List.getElem?_cons_zero, List.getElem?_cons_succ, Option.some.injEq] at ho; subst ho; refine Or.inl ⟨by rfl, fun w' hSw => ?_⟩; (try dsimp only at hSw); go_simp; try with_reducible rfl
                simp only [Act.put, List.setIfInBounds_toArray, List.set_cons_zero, List.set_cons_succ]
                refine takeH (i := 8) (some 134) (v := ?_) rfl (by kernel_rfl) (by kernel_rfl) (by kernel_rfl) (fun _ _ _ h => h) hS0 (fun o ho => ?_) ?_
                rotate_left
                · simp only [List.getElem?_toArray, List.getElem?_cons_zero, List.getElem?_cons_succ, Option.some.injEq] at ho; subst ho; refine Or.inl ⟨by rfl, fun w' hSw => ?_⟩; (try dsimp only at hSw); go_simp; try with_reducible rfl
                simp only [Act.put, List.setIfInBounds_toArray, List.set_cons_zero, List.set_cons_succ]
                refine oneH (i := 9) (by kernel_rfl) (fun o ho K hK => ?_)
                simp only [List.getElem?_toArray, List.getElem?_cons_zero, List.getElem?_cons_succ, Option.some.injEq] at ho; subst ho
                go_simp
                refine hK.out _ _ hS1 ?_
                clear hK K
                try simp only [Act.put, List.setIfInBounds_toArray, List.set_cons_zero, List.set_cons_succ]
                refine takeH (i := 10) (some 3) (v := ?_) rfl (by kernel_rfl) (by kernel_rfl) (by kernel_rfl) (fun _ _ _ h => h) hS1 (fun o ho => ?_) ?_
                rotate_left
                · simp only [List.getElem?_toArray, List.getElem?_cons_zero, List.getElem?_cons_succ, Option.some.injEq] at ho; subst ho; refine Or.inl ⟨by rfl, fun w' hSw => ?_⟩; (try dsimp only at hSw); go_simp; try with_reducible rfl
                simp only [Act.put, List.setIfInBounds_toArray, List.set_cons_zero, List.set_cons_succ]
                refine takeH (i := 11) (some 4) (v := ?_) rfl (by kernel_rfl) (by kernel_rfl) (by kernel_rfl) (fun _ _ _ h => h) hS1 (fun o ho => ?_) ?_
                rotate_left
                · simp only [List.getElem?_toArray, List.getElem?_cons_zero, List.getElem?_cons_succ, Option.some.injEq] at ho; subst ho; refine Or.inl ⟨by rfl, fun w' hSw => ?_⟩; (try dsimp only at hSw); go_simp; try with_reducible rfl
                simp only [Act.put, List.setIfInBounds_toArray, List.set_cons_zero, List.set_cons_succ]
                refine wpAnyH_done (by kernel_rfl) ?_ _
                go_wp2_with fail
                refine bodyPost_ret (results_cell3 rfl _ _ Q 24 #[.slice none 0 0] (0, 0) _ (by rfl) HQF.out Tryz.underlying24 (by rfl) (by kernel_rfl)) rfl ?_
                exact ⟨none, 0, by rw [HD.out.1, HD.out.2]; rfl, by rw [HD.out.2]; exact funs_none _, (below_drewN HBW.out 1).setCell (by show _ ≤ Q; omega) _⟩
          · obtain ⟨y2, y3, y4⟩ := (show Rf bs R wo (.bad c' n') from hsk ▸ hrd).bad2
            go_upto_region 20 with fail
            have hxql := block_lt hxq
            have hxml := block_lt hxm
            cases sk with
            | ok r => cases hsk
            | bad cb nb =>
              have hrdb := hrd
              have htl : funsP (bs.drop 4) = .error (cb, nb) := told_bad HTL.out
              obtain ⟨A', c0, pos, bad, at_, g1, g2, g3, g4⟩ := hrdb
              obtain ⟨hbc, hcc, pl, hat, hpl, hnl⟩ := g4
              subst hbc hat
              have hc2 : wo.cell? ⟨R, 2, none⟩ = some (.int .i64 bad) := cell_of_block g1 2
              have hc3 : wo.cell? ⟨R, 3, none⟩ = some (.int .i64 (pl : Nat)) := cell_of_block g1 3
              have hb0 : (bad == 0) = false := by rcases hcc with h | h <;> subst h <;> rfl
              have hb1 : (bad != 0) = true := by rcases hcc with h | h <;> subst h <;> rfl
              have HD : Hid (decE bs = (bad, (pl : Int)) ∧ decM bs = []) := Lib.hid (by
                have h : readP bs = .error (bad, nb) := by unfold readP; rw [if_pos HMK.out, htl]
                unfold decE decM
                rw [h]
                exact ⟨by rw [hnl]; dsimp only; rw [show bs.length - (bs.length - pl) = pl by omega], rfl⟩)
              have hQW := hxq
              have hBW := hbw.out.below (m := w.heap.size) hwQ (by omega)
              clear g1 g2 hcc hnl htl
              go_upto_region 23 with fail
              have hQX := hQW
              have hS0 : World.cell? (World.drew wo) ⟨R, 2, none⟩ = some (.int .i64 bad) ∧ World.cell? (World.drew wo) ⟨R, 3, none⟩ = some (.int .i64 (pl : Nat)) ∧ World.cell? (World.drew wo) ⟨Q, 0, none⟩ = some (.slice none 0 0) ∧ World.frozen? (World.drew wo) ⟨Q, 0, none⟩ = false := ⟨hc2, hc3, cell_of_block hQX 0, free_of_block hQX 0⟩
              have hQD : (World.drew wo).heap[Q]? = some (.cells #[.slice none 0 0] 24 (0, 0)) := hQX
              have hQF : ((World.drew wo).setCell ⟨Q, 0, none⟩ (.slice none 0 0)).heap[Q]? = some (.cells #[.slice none 0 0] 24 (0, 0)) := set_of_block (i := 0) (.slice none 0 0) hQD
              have hS1 : ((World.drew wo).setCell ⟨Q, 0, none⟩ (.slice none 0 0)).cell? ⟨R, 2, none⟩ = some (.int .i64 bad) ∧ ((World.drew wo).setCell ⟨Q, 0, none⟩ (.slice none 0 0)).cell? ⟨R, 3, none⟩ = some (.int .i64 (pl : Nat)) ∧ ((World.drew wo).setCell ⟨Q, 0, none⟩ (.slice none 0 0)).cell? ⟨Q, 0, none⟩ = some (.slice none 0 0) ∧ ((World.drew wo).setCell ⟨Q, 0, none⟩ (.slice none 0 0)).frozen? ⟨Q, 0, none⟩ = false :=
                ⟨(World.cell?_of_block (a := ⟨R, 2, none⟩) (Below.heap_setCell _ _ _ _ (by show R ≠ Q; omega))).trans hS0.1, (World.cell?_of_block (a := ⟨R, 3, none⟩) (Below.heap_setCell _ _ _ _ (by show R ≠ Q; omega))).trans hS0.2.1, cell_of_block hQF 0, free_of_block hQF 0⟩
              have HQF := Lib.hid hQF
              have HBW := Lib.hid hBW
              clear hc2 hc3 hQW hQX hQD hQF hBW
              refine wp_region_held_drew (S := fun w' => w'.cell? ⟨R, 2, none⟩ = some (.int .i64 bad) ∧ w'.cell? ⟨R, 3, none⟩ = some (.int .i64 (pl : Nat)) ∧ w'.cell? ⟨Q, 0, none⟩ = some (.slice none 0 0) ∧ w'.frozen? ⟨Q, 0, none⟩ = false) (by kernel_rfl) hS0 (fun hHeld => ?_)
              clear hHeld
              refine takeH (i := 0) (some 126) (v := ?_) rfl (by kernel_rfl) (by kernel_rfl) (by kernel_rfl) (fun _ _ _ h => h) hS0 (fun o ho => ?_) ?_
              rotate_left
              · simp only [List.getElem?_toArray, List.getElem?_cons_zero, Option.some.injEq] at ho; subst ho; refine Or.inl ⟨by rfl, fun w' hSw => ?_⟩; (try dsimp only at hSw); go_simp; try with_reducible rfl
              simp only [Act.put, List.setIfInBounds_toArray, List.set_cons_zero, List.set_cons_succ]
              refine takeH (i := 1) (some 127) (v := ?_) rfl (by kernel_rfl) (by kernel_rfl) (by kernel_rfl) (fun _ _ _ h => h) hS0 (fun o ho => ?_) ?_
              rotate_left
              · simp only [List.getElem?_toArray, List.getElem?_cons_zero, List.getElem?_cons_succ, Option.some.injEq] at ho; subst ho; refine Or.inl ⟨by rfl, fun w' hSw => ?_⟩; (try dsimp only at hSw); go_simp; try with_reducible rfl
              simp only [Act.put, List.setIfInBounds_toArray, List.set_cons_zero, List.set_cons_succ]
              refine takeH (i := 2) (some 128) (v := ?_) rfl (by kernel_rfl) (by kernel_rfl) (by kernel_rfl) (fun _ _ _ h => h) hS0 (fun o ho => ?_) ?_
              rotate_left
              · simp only [List.getElem?_toArray, List.getElem?_cons_zero, List.getElem?_cons_succ, Option.some.injEq] at ho; subst ho; refine Or.inl ⟨by rfl, fun w' hSw => ?_⟩; (try dsimp only at hSw); go_simp; try with_reducible rfl
              simp only [Act.put, List.setIfInBounds_toArray, List.set_cons_zero, List.set_cons_succ]
              refine takeH (i := 3) (some 129) (v := ?_) rfl (by kernel_rfl) (by kernel_rfl) (by kernel_rfl) (fun _ _ _ h => h) hS0 (fun o ho => ?_) ?_
              rotate_left
              · simp only [List.getElem?_toArray, List.getElem?_cons_zero, List.getElem?_cons_succ, Option.some.injEq] at ho; subst ho; refine Or.inl ⟨by rfl, fun w' hSw => ?_⟩; (try dsimp only at hSw); go_simp; try with_reducible rfl
              simp only [Act.put, List.setIfInBounds_toArray, List.set_cons_zero, List.set_cons_succ]
              refine takeH (i := 4) (some 130) (v := ?_) rfl (by kernel_rfl) (by kernel_rfl) (by kernel_rfl) (fun _ _ _ h => h) hS0 (fun o ho => ?_) ?_
              rotate_left
              · simp only [List.getElem?_toArray, List.getElem?_cons_zero, List.getElem?_cons_succ, Option.some.injEq] at ho; subst ho; refine Or.inl ⟨by rfl, fun w' hSw => ?_⟩; (try dsimp only at hSw); go_simp; try with_reducible rfl
              simp only [Act.put, List.setIfInBounds_toArray, List.set_cons_zero, List.set_cons_succ]
              refine takeH (i := 5) (some 131) (v := ?_) rfl (by kernel_rfl) (by kernel_rfl) (by kernel_rfl) (fun _ _ _ h => h) hS0 (fun o ho => ?_) ?_
              rotate_left
              · simp only [List.getElem?_toArray, List.getElem?_cons_zero, List.getElem?_cons_succ, Option.some.injEq] at ho; subst ho; refine Or.inl ⟨by rfl, fun w' hSw => ?_⟩; (try dsimp only at hSw); go_simp; try with_reducible rfl
              simp only [Act.put, List.setIfInBounds_toArray, List.set_cons_zero, List.set_cons_succ]
              refine takeH (i := 6) (some 132) (v := ?_) rfl (by kernel_rfl) (by kernel_rfl) (by kernel_rfl) (fun _ _ _ h => h) hS0 (fun o ho => ?_) ?_
              rotate_left
              · simp only [List.getElem?_toArray, List.getElem?_cons_zero, List.getElem?_cons_succ, Option.some.injEq] at ho; subst ho; refine Or.inl ⟨by rfl, fun w' hSw => ?_⟩; (try dsimp only at hSw); go_simp; try with_reducible rfl
              simp only [Act.put, List.setIfInBounds_toArray, List.set_cons_zero, List.set_cons_succ]
              refine takeH (i := 7) (some 133) (v := ?_) rfl (by kernel_rfl) (by kernel_rfl) (by kernel_rfl) (fun _ _ _ h => h) hS0 (fun o ho => ?_) ?_
              rotate_left
              · simp only [List.getElem?_toArray, List.getElem?_cons_zero, List.getElem?_cons_succ, Option.some.injEq] at ho; subst ho; refine Or.inl ⟨by rfl, fun w' hSw => ?_⟩; (try dsimp only at hSw); go_simp; try with_reducible rfl
              simp only [Act.put, List.setIfInBounds_toArray, List.set_cons_zero, List.set_cons_succ]
              refine takeH (i := 8) (some 134) (v := ?_) rfl (by kernel_rfl) (by kernel_rfl) (by kernel_rfl) (fun _ _ _ h => h) hS0 (fun o ho => ?_) ?_
              rotate_left
              · simp only [List.getElem?_toArray, List.getElem?_cons_zero, List.getElem?_cons_succ, Option.some.injEq] at ho; subst ho; refine Or.inl ⟨by rfl, fun w' hSw => ?_⟩; (try dsimp only at hSw); go_simp; try with_reducible rfl
              simp only [Act.put, List.setIfInBounds_toArray, List.set_cons_zero, List.set_cons_succ]
              refine oneH (i := 9) (by kernel_rfl) (fun o ho K hK => ?_)
              simp only [List.getElem?_toArray, List.getElem?_cons_zero, List.getElem?_cons_succ, Option.some.injEq] at ho; subst ho
              go_simp
              refine hK.out _ _ hS1 ?_
              clear hK K
              try simp only [Act.put, List.setIfInBounds_toArray, List.set_cons_zero, List.set_cons_succ]
              refine takeH (i := 10) (some 3) (v := ?_) rfl (by kernel_rfl) (by kernel_rfl) (by kernel_rfl) (fun _ _ _ h => h) hS1 (fun o ho => ?_) ?_
              rotate_left
              · simp only [List.getElem?_toArray, List.getElem?_cons_zero, List.getElem?_cons_succ, Option.some.injEq] at ho; subst ho; refine Or.inl ⟨by rfl, fun w' hSw => ?_⟩; (try dsimp only at hSw); go_simp; try with_reducible rfl
              simp only [Act.put, List.setIfInBounds_toArray, List.set_cons_zero, List.set_cons_succ]
              refine takeH (i := 11) (some 4) (v := ?_) rfl (by kernel_rfl) (by kernel_rfl) (by kernel_rfl) (fun _ _ _ h => h) hS1 (fun o ho => ?_) ?_
              rotate_left
              · simp only [List.getElem?_toArray, List.getElem?_cons_zero, List.getElem?_cons_succ, Option.some.injEq] at ho; subst ho; refine Or.inl ⟨by rfl, fun w' hSw => ?_⟩; (try dsimp only at hSw); go_simp; try with_reducible rfl
              simp only [Act.put, List.setIfInBounds_toArray, List.set_cons_zero, List.set_cons_succ]
              refine wpAnyH_done (by kernel_rfl) ?_ _
              go_wp2_with fail
              refine bodyPost_ret (results_cell3 rfl _ _ Q 24 #[.slice none 0 0] (0, 0) _ (by rfl) HQF.out Tryz.underlying24 (by rfl) (by kernel_rfl)) rfl ?_
              exact ⟨none, 0, by rw [HD.out.1, HD.out.2]; rfl, by rw [HD.out.2]; exact funs_none _, (below_drewN HBW.out 1).setCell (by show _ ≤ Q; omega) _⟩
    · rw [decide_eq_false hmk]
      have HD : Hid (decE bs = (2, 0) ∧ decM bs = []) := Lib.hid (by
        have h : readP bs = .error (2, bs.length) := by unfold readP; rw [if_neg hmk]
        unfold decE decM
        rw [h]
        exact ⟨by simp, rfl⟩)
      clear hmk
      go_wp2_with fail
      have hQF : (w1.setCell ⟨Q, 0, none⟩ (.slice none 0 0)).heap[Q]? = some (.cells #[.slice none 0 0] 24 (0, 0)) := set_of_block (i := 0) (.slice none 0 0) HQ.out
      refine bodyPost_ret (results_cell3 rfl _ _ Q 24 #[.slice none 0 0] (0, 0) _ (by rfl) hQF Tryz.underlying24 (by rfl) (by kernel_rfl)) rfl ?_
      refine ⟨none, 0, by rw [HD.out.1, HD.out.2]; rfl, by rw [HD.out.2]; exact funs_none _, HB1.out.setCell (by show _ ≤ Q; have := HQE.out; omega) _⟩
end Go.Proofs.YtoidhjmhakajlaaGreatDoor
