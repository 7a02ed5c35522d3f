/- The document's makes, phi, along of layer 8. -/
import Derived.Test.YtdfiflbkamhchaaDoorRefAJ
import Derived.Test.YtdfiflbkamhchaaDoorArMJ
import Derived.Deep.QuietTactic
import Derived.BigQuiet
import Derived.Test.YtdfiflbkamhchaaDoorAheadJ
namespace Go.Proofs.YtdfiflbkamhchaaDoor
open Go.ChangeShapes Go.WideShapes Go.RowKit Go.Deep
set_option linter.unusedVariables false

theorem mkI_all {ins : List InsD} {r i : Nat} (hi : i < ins.length) {x : InsD} (hx : ins[i]? = some x) (hd : x.dst = (r : Int)) : mkI ins ins.length r = true :=
  mkI_mono (show i + 1 ≤ ins.length by omega) (by rw [mkI_succ hx, decide_eq_true hd, Bool.or_true])
theorem phI_all {ps : List PhiD} {r i : Nat} {x : PhiD} (hx : ps[i]? = some x) (hd : x.dst = (r : Int)) : phI ps ps.length r = true := by
  unfold phI
  rw [List.take_length]
  exact List.any_eq_true.2 ⟨x, List.mem_of_getElem? hx, decide_eq_true hd⟩
set_option maxRecDepth 100000 in
set_option maxHeartbeats 8000000 in
theorem makes8_any (k : BlkD) (r : Nat) (v : Value) (w : World) (hv : VBlk w v k) (hl : k.ins.length ≤ 300) :
    Calls Tryd.prog 21 #[v, .int .i64 (r : Int)] w fun e w' => e = .returned (.bool (mkI k.ins k.ins.length r)) ∧ Below w.heap.size w w' := by
  obtain ⟨Ap, cp, Ai, ci, At, ct, rfl, -, hi, -, hk1, hk2⟩ := hv
  have HI := Lib.hid hi
  clear hi
  go_enter Tryd.func21, Tryd.ntmps21
  go_upto_region 1 with fail
  obtain ⟨w1, hw1, hs1, hk1', hbel1, hc1, -⟩ := named w #[.slice Ap k.phis.length cp, .slice Ai k.ins.length ci, .int .i64 k.term.kind, .int .i64 k.term.arg, .slice At k.term.to.length ct] 52
  rw [← hw1]
  have x1 : w1.cell? ⟨w.heap.size, 1, none⟩ = some (.slice Ai k.ins.length ci) := hc1 1 _ rfl
  have HB1 := Lib.hid hbel1
  have HK := Lib.hid hk1'
  clear hw1 hs1 hbel1 hc1 hk1'
  go_wp2_with fail
  go_loopw [5] (fun s5 wq => ∃ i : Nat, i ≤ k.ins.length ∧ s5 = .int .i64 (i : Int) ∧ wq = w1 ∧ mkI k.ins i r = false) (fun s5 _ => k.ins.length - (intOf s5).toNat)
  case atStart => exact ⟨0, Nat.zero_le _, rfl, rfl, by simp [mkI]⟩
  case round =>
    obtain ⟨i, hi, rfl, hww, hm⟩ := hrel
    subst hww
    have HMK := Lib.hid hm
    by_cases hil : i < k.ins.length
    · obtain ⟨bp, op, x, rfl, hx, h0, h1, -, h3, h4⟩ := HI.out.at_ hil
      have d1 := HK.out _ _ h1.1
      have HX := Lib.hid hx
      have hi0 : (0 : Int) ≤ i := by omega
      have hi1 : (i : Int) < k.ins.length := by omega
      clear hm hx h0 h1 h3 h4
      by_cases hd : x.dst = (r : Int)
      · have HY := Lib.hid (mkI_all hil HX.out hd)
        have hb1 : (x.dst == (r : Int)) = true := by simp [hd]
        clear hd
        go_wp2_with fail
        go_ret
        exact ⟨by rw [HY.out]; rfl, HB1.out⟩
      · have HN := Lib.hid (show mkI k.ins (i + 1) r = false by rw [mkI_succ HX.out, HMK.out, decide_eq_false hd]; rfl)
        have hb1 : (x.dst == (r : Int)) = false := by simp [hd]
        clear hd
        go_wp2_with fail
        go_roundw
        case rel => exact ⟨i + 1, by omega, by go_num, trivial, HN.out⟩
        case measure => simp [intOf]; omega
    · obtain rfl : i = k.ins.length := by omega
      clear hm
      go_wp2_with fail
      go_ret
      exact ⟨by rw [HMK.out]; rfl, HB1.out⟩
set_option maxRecDepth 100000 in
set_option maxHeartbeats 8000000 in
theorem phi8_any (k : BlkD) (r : Nat) (v : Value) (w : World) (hv : VBlk w v k) (hl : k.phis.length ≤ 300) :
    Calls Tryd.prog 22 #[v, .int .i64 (r : Int)] w fun e w' => e = .returned (.bool (phI k.phis k.phis.length r)) ∧ Below w.heap.size w w' := by
  obtain ⟨Ap, cp, Ai, ci, At, ct, rfl, hi, -, -, hk1, hk2⟩ := hv
  have HI := Lib.hid hi
  clear hi
  go_enter Tryd.func22, Tryd.ntmps22
  go_upto_region 1 with fail
  obtain ⟨w1, hw1, hs1, hk1', hbel1, hc1, -⟩ := named w #[.slice Ap k.phis.length cp, .slice Ai k.ins.length ci, .int .i64 k.term.kind, .int .i64 k.term.arg, .slice At k.term.to.length ct] 52
  rw [← hw1]
  have x1 : w1.cell? ⟨w.heap.size, 0, none⟩ = some (.slice Ap k.phis.length cp) := hc1 0 _ rfl
  have HB1 := Lib.hid hbel1
  have HK := Lib.hid hk1'
  clear hw1 hs1 hbel1 hc1 hk1'
  go_wp2_with fail
  go_loopw [5] (fun s5 wq => ∃ i : Nat, i ≤ k.phis.length ∧ s5 = .int .i64 (i : Int) ∧ wq = w1 ∧ phI k.phis i r = false) (fun s5 _ => k.phis.length - (intOf s5).toNat)
  case atStart => exact ⟨0, Nat.zero_le _, rfl, rfl, by simp [phI]⟩
  case round =>
    obtain ⟨i, hi, rfl, hww, hm⟩ := hrel
    subst hww
    have HMK := Lib.hid hm
    by_cases hil : i < k.phis.length
    · obtain ⟨bp, op, x, rfl, hx, h0, -⟩ := HI.out.at_ hil
      have d1 := HK.out _ _ h0.1
      have HX := Lib.hid hx
      have hi0 : (0 : Int) ≤ i := by omega
      have hi1 : (i : Int) < k.phis.length := by omega
      clear hm hx h0
      by_cases hd : x.dst = (r : Int)
      · have HY := Lib.hid (phI_all HX.out hd)
        have hb1 : (x.dst == (r : Int)) = true := by simp [hd]
        clear hd
        go_wp2_with fail
        go_ret
        exact ⟨by rw [HY.out]; rfl, HB1.out⟩
      · have HN := Lib.hid (show phI k.phis (i + 1) r = false by rw [phI_succ HX.out, HMK.out, decide_eq_false hd]; rfl)
        have hb1 : (x.dst == (r : Int)) = false := by simp [hd]
        clear hd
        go_wp2_with fail
        go_roundw
        case rel => exact ⟨i + 1, by omega, by go_num, trivial, HN.out⟩
        case measure => simp [intOf]; omega
    · obtain rfl : i = k.phis.length := by omega
      clear hm
      go_wp2_with fail
      go_ret
      exact ⟨by rw [HMK.out]; rfl, HB1.out⟩
end Go.Proofs.YtdfiflbkamhchaaDoor

/- The document's along of layer 8. -/
namespace Go.Proofs.YtdfiflbkamhchaaDoor
open Go.ChangeShapes Go.WideShapes Go.RowKit Go.Deep
set_option linter.unusedVariables false

set_option maxRecDepth 100000 in
set_option maxHeartbeats 8000000 in
theorem along8_any (f : FunD) (b t r : Nat) (v : Value) (w : World) (hv : VFun w v f) (hok : LvOk f) (hb : b < f.blocks.length) (ht : t < f.blocks.length) :
    Calls Tryd.prog 19 #[v, .int .i64 (b : Int), .int .i64 (t : Int), .int .i64 (r : Int)] w fun e w' => (∃ q, e = .returned (.bool q) ∧ (q = true ↔ AlongP f.blocks b t r)) ∧ Below w.heap.size w w' := by
  have hv0 := hv
  obtain ⟨Ar, cr, A, c, rfl, -, hbl, -, -⟩ := hv
  have HBL := Lib.hid hbl
  have HOK := Lib.hid hok
  have hnb := hok.nb
  clear hbl hok
  go_enter Tryd.func19, Tryd.ntmps19
  go_upto_region 1 with fail
  obtain ⟨w1, hw1, hs1, hk1, hbel1, hc1, -⟩ := named w #[.int .i64 f.params, .int .i64 f.result, .slice Ar f.regs.length cr, .slice A f.blocks.length c] 41
  rw [← hw1]
  have c0 : w1.cell? ⟨w.heap.size, 0, none⟩ = some (.int .i64 f.params) := hc1 0 _ rfl
  have c1 : w1.cell? ⟨w.heap.size, 1, none⟩ = some (.int .i64 f.result) := hc1 1 _ rfl
  have c2 : w1.cell? ⟨w.heap.size, 2, none⟩ = some (.slice Ar f.regs.length cr) := hc1 2 _ rfl
  have c3 : w1.cell? ⟨w.heap.size, 3, none⟩ = some (.slice A f.blocks.length c) := hc1 3 _ rfl
  have HB1 := Lib.hid hbel1
  have HS1 : Hid (w1.heap.size = w.heap.size + 1) := Lib.hid hs1
  have hV1 := VFun.keep hk1 hv0
  clear hw1 hs1 hk1 hc1 hbel1 hv0
  go_wp2_with fail
  refine (refAhead_any f (t : Int) _ w1 hV1 (by omega)).mono ?_
  rintro e w2 ⟨⟨ra, rfl, A2, a2, hra, hsl⟩, hb2⟩
  subst hra
  have c3 := kept_of_below hb2 _ _ c3
  have HB2 : Hid (Below w.heap.size w w2) := Lib.hid (HB1.out.trans (hb2.mono (by have := HS1.out; omega)))
  have hkk := kept_of_below HB2.out
  obtain ⟨bk, ok, k, rfl, hk, ⟨A1, a1, k0, hs1⟩, -, -, -, -⟩ := (SBlks.keep hkk HBL.out).at_ ht
  have HKK := Lib.hid hk
  have HPS := Lib.hid hs1
  have HSL := Lib.hid hsl
  have hpl := (HOK.out.phi t k hk).1
  have HPH := Lib.hid (HOK.out.phi t k hk).2
  obtain ⟨m, hm⟩ : ∃ m, (aheadL f.blocks t).length = m := ⟨_, rfl⟩
  have hm64 : m ≤ 64 := by rw [← hm]; have := aheadK_len f.blocks 0 t; unfold aheadL; omega
  have HMM := Lib.hid hm
  have ht0 : (0 : Int) ≤ t := by omega
  have ht1 : (t : Int) < f.blocks.length := by omega
  rw [hm]
  clear hb2 hkk hk hs1 hsl hm c0 c1 c2 hV1
  go_wp2_with fail
  go_loopw [10] (fun s10 wq => ∃ i : Nat, i ≤ k.phis.length ∧ s10 = .int .i64 (i : Int) ∧ wq = w2 ∧ ∀ j p, j < i → k.phis[j]? = some p → (b, r) ∉ prP (aheadL f.blocks t) p.args) (fun s10 _ => k.phis.length - (intOf s10).toNat)
  case atStart => exact ⟨0, Nat.zero_le _, rfl, rfl, fun j p hj => by omega⟩
  case round =>
    obtain ⟨i, hi, rfl, hww, hno⟩ := hrel
    subst hww
    have HNO := Lib.hid hno
    by_cases hil : i < k.phis.length
    · obtain ⟨bp, op, p, rfl, hp, hpd, A5, a5, hpa, hps⟩ := HPS.out.at_ hil
      obtain ⟨hpl2, -, hpr⟩ := HPH.out p (List.mem_of_getElem? hp.out)
      rw [hpl2, HMM.out] at hpa
      have HPP := Lib.hid hp
      have HPR := Lib.hid (And.intro hpl2 hpr)
      have HSP := Lib.hid hps
      have hi0 : (0 : Int) ≤ i := by omega
      have hi1 : (i : Int) < k.phis.length := by omega
      clear hno hp hpd hpl2 hpr hps
      go_wp2_with fail
      obtain ⟨w2, rfl⟩ : ∃ w2, w2 = wr := ⟨_, rfl⟩
      go_loopw [11] (fun s11 wq => ∃ j : Nat, j ≤ m ∧ s11 = .int .i64 (j : Int) ∧ wq = w2 ∧ (b, r) ∉ (prP (aheadL f.blocks t) p.args).take j) (fun s11 _ => m - (intOf s11).toNat)
      case atStart => exact ⟨0, Nat.zero_le _, rfl, rfl, by simp⟩
      case round =>
        obtain ⟨j, hj, rfl, hww, hnj⟩ := hrel
        subst hww
        have HNJ := Lib.hid hnj
        by_cases hjl : j < m
        · obtain ⟨bt, ot, x, rfl, hx, hxc, -⟩ := HSL.out.int (k := j) (by rw [HMM.out]; exact hjl)
          obtain ⟨bu, ou, y, rfl, hy, hyc, -⟩ := HSP.out.int (k := j) (by rw [HPR.out.1, HMM.out]; exact hjl)
          obtain ⟨q, rfl, hq⟩ := ah_lt hx.out
          have hyr := HPR.out.2 y (List.mem_of_getElem? hy.out)
          obtain ⟨z, rfl⟩ : ∃ z : Nat, y = (z : Int) := ⟨y.toNat, by have := hyr.1; omega⟩
          have HPT := Lib.hid (prP_at hx.out hy.out)
          have hj0 : (0 : Int) ≤ j := by omega
          have hj1 : (j : Int) < m := by omega
          clear hnj hx hy hyr
          by_cases h1 : q = b
          · have hb1 : ((q : Int) == (b : Int)) = true := by simp [h1]
            by_cases h2 : z = r
            · have hb2 : ((z : Int) == (r : Int)) = true := by simp [h2]
              have HY : Hid (AlongP f.blocks b t r) := Lib.hid ⟨k, HKK.out, p, List.mem_of_getElem? HPP.out, by
                have h3 := List.mem_of_getElem? HPT.out
                rw [h1, h2] at h3; simpa using h3⟩
              clear h1 h2
              go_wp2_with fail
              go_ret
              exact ⟨⟨true, rfl, fun _ => HY.out, fun _ => rfl⟩, HB2.out⟩
            · have hb2 : ((z : Int) == (r : Int)) = false := by rw [beq_eq_false_iff_ne]; omega
              have HN : Hid ((b, r) ∉ (prP (aheadL f.blocks t) p.args).take (j + 1)) := Lib.hid (by
                rw [take_succ_of HPT.out, List.mem_append, List.mem_singleton]
                rintro (h | h)
                · exact HNJ.out h
                · have h3 := congrArg Prod.snd h; simp at h3; omega)
              clear h1 h2
              go_wp2_with fail
              go_roundw
              case rel => exact ⟨j + 1, by omega, by go_num, trivial, HN.out⟩
              case measure => simp [intOf]; omega
          · have hb1 : ((q : Int) == (b : Int)) = false := by rw [beq_eq_false_iff_ne]; omega
            have HN : Hid ((b, r) ∉ (prP (aheadL f.blocks t) p.args).take (j + 1)) := Lib.hid (by
              rw [take_succ_of HPT.out, List.mem_append, List.mem_singleton]
              rintro (h | h)
              · exact HNJ.out h
              · have h3 := congrArg Prod.fst h; simp at h3; omega)
            clear h1
            go_wp2_with fail
            go_roundw
            case rel => exact ⟨j + 1, by omega, by go_num, trivial, HN.out⟩
            case measure => simp [intOf]; omega
        · obtain rfl : j = m := by omega
          have HN : Hid ((b, r) ∉ prP (aheadL f.blocks t) p.args) := Lib.hid (by rw [List.take_of_length_le (by rw [prP_len HPR.out.1, HMM.out]; exact Nat.le_refl _)] at hnj; exact hnj)
          clear hnj
          go_wp2_with fail
          go_roundw
          case rel =>
            refine ⟨i + 1, by omega, by go_num, trivial, fun j2 p2 hj2 hp2 => ?_⟩
            by_cases e : j2 = i
            · subst e
              rw [HPP.out] at hp2; cases hp2
              exact HN.out
            · exact HNO.out j2 p2 (by omega) hp2
          case measure => simp [intOf]; omega
    · obtain rfl : i = k.phis.length := by omega
      have HN : Hid (¬ AlongP f.blocks b t r) := Lib.hid (by
        rintro ⟨x, hx, p, hp, hm2⟩
        rw [HKK.out] at hx; cases hx
        obtain ⟨j, hj⟩ := List.mem_iff_getElem?.1 hp
        exact hno j p (List.getElem?_eq_some_iff.1 hj).1 hj hm2)
      clear hno
      go_wp2_with fail
      go_ret
      exact ⟨⟨false, rfl, fun h => Bool.noConfusion h, fun h => absurd h HN.out⟩, HB2.out⟩
end Go.Proofs.YtdfiflbkamhchaaDoor

/- What the document reckons is what is wanted: plain mathematics. -/
namespace Go.Proofs.YtdfiflbkamhchaaDoor
open Go.RowKit
set_option linter.unusedVariables false

theorem aheadK_iff (bs : List BlkD) : ∀ (i k : Nat) (block : Int), ((i + k : Nat) : Int) ∈ aheadK bs i block ↔ ∃ x, bs[k]? = some x ∧ block ∈ x.term.to := by
  induction bs with
  | nil => intro i k block; simp [aheadK]
  | cons b r ih =>
    intro i k block
    simp only [aheadK, List.mem_append]
    cases k with
    | zero =>
      have hno : ¬ ((i + 0 : Nat) : Int) ∈ aheadK r (i + 1) block := fun h => by
        have := aheadK_mem r (i + 1) block _ h; omega
      constructor
      · rintro (h | h)
        · refine ⟨b, rfl, ?_⟩
          split at h
          · rename_i hh
            unfold hasTo at hh
            obtain ⟨y, hy, he⟩ := List.any_eq_true.1 hh
            rw [beq_iff_eq] at he
            rw [← he]; exact hy
          · cases h
        · exact absurd h hno
      · rintro ⟨x, hx, hm⟩
        cases hx
        refine .inl ?_
        rw [if_pos (show hasTo block b.term.to = true from List.any_eq_true.2 ⟨block, hm, by simp⟩)]
        simp
    | succ k =>
      have h1 := ih (i + 1) k block
      have e : i + (k + 1) = i + 1 + k := by omega
      rw [e]
      constructor
      · rintro (h | h)
        · split at h
          · rw [List.mem_singleton] at h; omega
          · cases h
        · obtain ⟨x, hx, hm⟩ := h1.1 h
          exact ⟨x, hx, hm⟩
      · rintro ⟨x, hx, hm⟩
        exact .inr (h1.2 ⟨x, hx, hm⟩)
theorem aheadL_iff {bs : List BlkD} {b : Nat} {t : Nat} : (b : Int) ∈ aheadL bs t ↔ ∃ x, bs[b]? = some x ∧ (t : Int) ∈ x.term.to := by
  have := aheadK_iff bs 0 b (t : Int)
  rw [Nat.zero_add] at this
  exact this
theorem nxF_iff {bs : List BlkD} {b t : Nat} (ht : t < bs.length) : t ∈ nxF bs b ↔ (b : Int) ∈ aheadL bs t := by
  rw [aheadL_iff]
  constructor
  · intro h
    cases hb : bs[b]? with
    | none => unfold nxF at h; rw [hb] at h; cases h
    | some x => exact ⟨x, rfl, ((nxF_mem hb).1 h).2⟩
  · rintro ⟨x, hx, hm⟩
    exact (nxF_mem hx).2 ⟨ht, hm⟩

noncomputable def alB (bs : List BlkD) (r b t : Nat) : Bool := @decide (AlongP bs b t r) (Classical.propDecidable _)
theorem alB_iff {bs : List BlkD} {r b t : Nat} : alB bs r b t = true ↔ AlongP bs b t r := by unfold alB; exact @decide_eq_true_iff _ (Classical.propDecidable _)
theorem alB_of {bs : List BlkD} {r b t : Nat} {q : Bool} (h : q = true ↔ AlongP bs b t r) : alB bs r b t = q := by rw [Bool.eq_iff_iff, alB_iff, h]
def usF (bs : List BlkD) (r b : Nat) : Bool := match bs[b]? with | some k => decide (r ∈ usB k) | none => false
theorem usF_at {bs : List BlkD} {b : Nat} {k : BlkD} (h : bs[b]? = some k) (r : Nat) : usF bs r b = decide (r ∈ usB k) := by unfold usF; rw [h]
/-- One round over the first k blocks. -/
noncomputable def kF (bs : List BlkD) (r : Nat) (s : RdS) (k : Nat) : RdS := rdK (nxF bs) (alB bs r) (usF bs r) (fun b => mkB bs b r) (fun b => phB bs b r) s k
/-- After j rounds. -/
noncomputable def rF (bs : List BlkD) (r : Nat) (j : Nat) : RdS := rds (nxF bs) (alB bs r) (usF bs r) (fun b => mkB bs b r) (fun b => phB bs b r) bs.length ⟨fun _ => false, fun _ => false⟩ j
noncomputable def eP (bs : List BlkD) (r : Nat) (s : RdS) (b k : Nat) : Bool := s.e b || ((nxF bs b).take k).any fun t => alB bs r b t || s.i t
def eS (s : RdS) (b : Nat) (x : Bool) : RdS := ⟨s.i, fun y => if y = b then x else s.e y⟩
def iS (s : RdS) (b : Nat) (x : Bool) : RdS := ⟨fun y => if y = b then x else s.i y, s.e⟩
theorem kF_zero (bs : List BlkD) (r : Nat) (s : RdS) : kF bs r s 0 = s := rfl
theorem rF_zero (bs : List BlkD) (r : Nat) : rF bs r 0 = ⟨fun _ => false, fun _ => false⟩ := rfl
theorem rF_succ (bs : List BlkD) (r j : Nat) : rF bs r (j + 1) = kF bs r (rF bs r j) bs.length := rfl
theorem eP_zero (bs : List BlkD) (r : Nat) (s : RdS) (b : Nat) : eP bs r s b 0 = s.e b := by unfold eP; simp
theorem eP_succ {bs : List BlkD} {r : Nat} {s : RdS} {b k t : Nat} (h : (nxF bs b)[k]? = some t) : eP bs r s b (k + 1) = (eP bs r s b k || alB bs r b t || s.i t) := by
  unfold eP; rw [take_succ_of h, List.any_append]; simp [Bool.or_assoc]
theorem eS_zero (bs : List BlkD) (r : Nat) (s : RdS) (b : Nat) : eS s b (eP bs r s b 0) = s := by
  rw [eP_zero]; unfold eS
  congr 1
  funext y
  by_cases e : y = b
  · rw [if_pos e, e]
  · rw [if_neg e]
theorem kF_succ (bs : List BlkD) (r : Nat) (s : RdS) (b : Nat) : kF bs r s (b + 1) = iS (eS (kF bs r s b) b (eP bs r (kF bs r s b) b (nxF bs b).length)) b (!phB bs b r && (usF bs r b || (eP bs r (kF bs r s b) b (nxF bs b).length && !mkB bs b r))) := by
  have he : eP bs r (kF bs r s b) b (nxF bs b).length = stE (nxF bs) (alB bs r) (kF bs r s b) b := by unfold eP stE; rw [List.take_length]
  rw [he]
  show rdK _ _ _ _ _ _ _ = _
  rw [rdK_succ]
  rfl
/-- What is held when all rounds are through is what is wanted. -/
theorem rF_want (bs : List BlkD) (r : Nat) : (∀ b, (rF bs r (2 * bs.length + 1)).i b = true ↔ Want bs false b r) ∧ ∀ b, (rF bs r (2 * bs.length + 1)).e b = true ↔ Want bs true b r := by
  have hc : ClosS (nxF bs) (alB bs r) (usF bs r) (fun b => mkB bs b r) (fun b => phB bs b r) bs.length (rF bs r (2 * bs.length + 1)) := rds_all (nxF_lt bs) (fun b hb => by simp at hb)
  have hs := rds_sound (nx := nxF bs) (al := alB bs r) (us := usF bs r) (mk := fun b => mkB bs b r) (ph := fun b => phB bs b r) (n := bs.length) (I := fun b => Want bs false b r) (E := fun b => Want bs true b r)
    (fun b hb => by
      have key : ∀ z, (z = true → Want bs true b r) → inF (usF bs r) (fun b => mkB bs b r) (fun b => phB bs b r) b z = true → Want bs false b r := fun z hz h => by
        unfold inF at h
        dsimp only at h
        rw [Bool.and_eq_true, Bool.or_eq_true, Bool.and_eq_true] at h
        obtain ⟨hp, h⟩ := h
        have hp2 : phB bs b r = false := by cases hq : phB bs b r; rfl; rw [hq] at hp; cases hp
        rcases h with h | ⟨h1, h2⟩
        · have hk : bs[b]? = some bs[b] := List.getElem?_eq_getElem hb
          rw [usF_at hk, decide_eq_true_iff] at h
          exact .use hk h hp2
        · exact .thru hb (hz h1) (by cases hq : mkB bs b r; rfl; rw [hq] at h2; cases h2) hp2
      exact ⟨fun hE h => key true (fun _ => hE) h, fun h => key false (fun h => Bool.noConfusion h) h⟩)
    (fun b t hb ht h => by
      rcases h with h | h
      · exact .along (alB_iff.1 h)
      · exact .back (nxF_lt bs b t ht) ((nxF_iff (nxF_lt bs b t ht)).1 ht) h)
    ⟨fun _ => false, fun _ => false⟩ ⟨fun b h => by simp at h, fun b h => by simp at h⟩ (2 * bs.length + 1)
  have hw : ∀ z b q, Want bs z b q → q = r → (z = false → (rF bs r (2 * bs.length + 1)).i b = true) ∧ (z = true → (rF bs r (2 * bs.length + 1)).e b = true) := by
    intro z b q h
    induction h with
    | @use b q x hx hr hp =>
      rintro rfl
      refine ⟨fun _ => ?_, fun h => Bool.noConfusion h⟩
      rw [hc.i b (List.getElem?_eq_some_iff.1 hx).1]
      unfold inF
      dsimp only
      rw [hp, usF_at hx, decide_eq_true hr]; rfl
    | @thru b q hb _ hm hp ih =>
      rintro rfl
      refine ⟨fun _ => ?_, fun h => Bool.noConfusion h⟩
      rw [hc.i b hb]
      unfold inF
      dsimp only
      rw [hp, hm, (ih rfl).2 rfl]; simp
    | @along b t q ha =>
      rintro rfl
      refine ⟨fun h => Bool.noConfusion h, fun _ => ?_⟩
      have ha0 := ha
      obtain ⟨x, hx, p, hp, hm⟩ := ha
      have htl := (List.getElem?_eq_some_iff.1 hx).1
      obtain ⟨h1, h2⟩ := prP_lt _ hm
      exact hc.e b t h1 ((nxF_iff htl).2 h2) (by rw [alB_iff.2 ha0]; rfl)
    | @back b t q ht hb _ ih =>
      rintro rfl
      refine ⟨fun h => Bool.noConfusion h, fun _ => ?_⟩
      obtain ⟨x, hx, -⟩ := aheadL_iff.1 hb
      exact hc.e b t (List.getElem?_eq_some_iff.1 hx).1 ((nxF_iff ht).2 hb) (by rw [(ih rfl).1 rfl]; simp)
  exact ⟨fun b => ⟨hs.1 b, fun h => (hw false b r h rfl).1 rfl⟩, fun b => ⟨hs.2 b, fun h => (hw true b r h rfl).2 rfl⟩⟩
end Go.Proofs.YtdfiflbkamhchaaDoor

/- The rules 1 and 2: isWithin, isTyped; hasPhi. -/
namespace Go.Proofs.YtdfiflbkamhchaaDoor
open Go.ChangeShapes Go.WideShapes Go.RowKit Go.Deep
set_option linter.unusedVariables false

/-- Phis and instructions of each block are few. -/
def Lim (f : FunD) : Prop := ∀ b ∈ f.blocks, b.phis.length ≤ 1000000 ∧ b.ins.length ≤ 1000000
theorem Lim.at_ {f : FunD} (h : Lim f) {k : Nat} {b : BlkD} (hb : f.blocks[k]? = some b) : b.phis.length ≤ 1000000 ∧ b.ins.length ≤ 1000000 := h b (List.mem_of_getElem? hb)

set_option maxRecDepth 100000 in
set_option maxHeartbeats 4000000 in
theorem isWithin_any (f : FunD) (v : Value) (w : World) (hv : VFun w v f) (hlim : Lim f) :
    Calls Tryd.prog 51 #[v] w fun e w' => e = .returned (.bool (withinB f)) ∧ Below w.heap.size w w' := by
  obtain ⟨Ar, cr, A, c, rfl, hr, hb, -, -⟩ := hv
  have hbl := hb.len
  have hrl := hr.len
  by_cases hok : 1 ≤ f.blocks.length ∧ f.blocks.length ≤ 64 ∧ f.regs.length ≤ 256
  · obtain ⟨h1, h2, h3⟩ := hok
    go_enter Tryd.func51, Tryd.ntmps51
    go_wp2_with fail
    obtain ⟨w1, hw1, hs1, hk1, hbel1, hc1, -⟩ := named w #[.int .i64 f.params, .int .i64 f.result, .slice Ar f.regs.length cr, .slice A f.blocks.length c] 41
    rw [← hw1]
    clear hw1 hc1
    have hs1 : w.heap.size < w1.heap.size := by omega
    go_loopw [3, 28] (fun q i wr => ∃ k : Nat, k ≤ f.blocks.length ∧ i = .int .i64 k ∧ q = .int .i64 ((f.blocks.length + itemsK (f.blocks.take k) : Nat) : Int) ∧ itemsK (f.blocks.take k) ≤ k * 2000000 ∧ Below w1.heap.size w1 wr) (fun _ i _ => f.blocks.length - (intOf i).toNat)
    case atStart => exact ⟨0, Nat.zero_le _, rfl, rfl, Nat.zero_le _, Below.refl _ _⟩
    case round =>
      obtain ⟨k, hk, rfl, rfl, hi, hbel⟩ := hrel
      have hs := hbel.size
      have hkw : Kept w1 wr := kept_of_below hbel
      have hB : Below w.heap.size w wr := hbel1.trans (hbel.mono (by omega))
      by_cases hlt : k < f.blocks.length
      · obtain ⟨b, o, kb, rfl, hkb, ⟨Ap, cp, hphi, hphis⟩, ⟨Ai, ci, hins, hinss⟩, ⟨hkd, -⟩, ⟨har, -⟩, ⟨At, ct, hto, htos⟩⟩ := (SBlks.keep (hk1.trans hkw) hb).at_ hlt
        obtain ⟨hl1, hl2⟩ := hlim.at_ hkb.out
        have hst := itemsK_step hkb.out
        have HST := Lib.hid hst
        clear hst
        have hn : ((f.blocks.length + itemsK (f.blocks.take k) : Nat) : Int) = (f.blocks.length : Int) + (itemsK (f.blocks.take k) : Int) := by simp
        generalize itemsK (f.blocks.take k) = q at *
        clear hn
        go_wp2_with fail
        go_roundw
        case rel => exact ⟨k + 1, by omega, by go_num, by rw [HST.out]; congr 1; omega, by rw [HST.out]; omega, hbel.alloc (by omega) _⟩
        case measure => simp [intOf]; omega
      · have hkk : f.blocks.take k = f.blocks := List.take_of_length_le (by omega)
        rw [hkk]
        have hd : withinB f = decide (((f.blocks.length + itemsK f.blocks : Nat) : Int) ≤ 256) := by
          unfold withinB; congr 1; rw [eq_iff_iff]; omega
        have HD := Lib.hid hd
        clear hd hkk hi
        generalize itemsK f.blocks = q at *
        go_wp2_with fail
        go_ret
        exact ⟨by rw [HD.out]; simp, hB⟩
  · have hd : withinB f = false := by
      unfold withinB; exact decide_eq_false (by omega)
    rw [hd]
    clear hd
    by_cases q1 : f.blocks.length < 1
    · clear hok
      go_enter Tryd.func51, Tryd.ntmps51
      go_wp2_with fail
      all_goals (go_ret; exact ⟨rfl, (Below.refl _ _).alloc (Nat.le_refl _) _⟩)
    · by_cases q2 : 64 < f.blocks.length
      · clear hok
        go_enter Tryd.func51, Tryd.ntmps51
        go_wp2_with fail
        all_goals (go_ret; exact ⟨rfl, (Below.refl _ _).alloc (Nat.le_refl _) _⟩)
      · have q3 : 256 < f.regs.length := by omega
        clear hok
        go_enter Tryd.func51, Tryd.ntmps51
        go_wp2_with fail
        all_goals (go_ret; exact ⟨rfl, (Below.refl _ _).alloc (Nat.le_refl _) _⟩)

end Go.Proofs.YtdfiflbkamhchaaDoor

/- Rule 2: isTyped. -/
namespace Go.Proofs.YtdfiflbkamhchaaDoor
open Go.ChangeShapes Go.WideShapes Go.RowKit Go.Deep
set_option linter.unusedVariables false

set_option maxRecDepth 100000 in
set_option maxHeartbeats 4000000 in
theorem isTyped_any (f : FunD) (v : Value) (w : World) (hv : VFun w v f) :
    Calls Tryd.prog 52 #[v] w fun e w' => e = .returned (.bool (typedB f)) ∧ Below w.heap.size w w' := by
  obtain ⟨Ar, cr, A, c, rfl, hr, hb, -, -⟩ := hv
  have hrl := hr.len
  go_enter Tryd.func52, Tryd.ntmps52
  go_wp2_with fail
  obtain ⟨w1, hw1, hs1, hk1, hbel1, hc1, -⟩ := named w #[.int .i64 f.params, .int .i64 f.result, .slice Ar f.regs.length cr, .slice A f.blocks.length c] 41
  have hc0 := hc1 0 _ rfl
  have hcr := hc1 1 _ rfl
  have hc2 := hc1 2 _ rfl
  rw [← hw1]
  clear hw1 hc1
  have hs1 : w.heap.size < w1.heap.size := by omega
  go_loopw [8] (fun i wr => ∃ k : Nat, k ≤ f.regs.length ∧ i = .int .i64 k ∧ Hid ((f.regs.take k).all isTy = true) ∧ wr = w1) (fun i _ => f.regs.length - (intOf i).toNat)
  case atStart => exact ⟨0, Nat.zero_le _, rfl, Lib.hid rfl, rfl⟩
  case round =>
    obtain ⟨k, hk, rfl, hi, rfl⟩ := hrel
    by_cases hlt : k < f.regs.length
    · obtain ⟨b, o, x, rfl, hx, hxc, -⟩ := (SInts.keep hk1 hr).int hlt
      by_cases h1 : x = 1
      · subst h1
        go_wp2_with fail
        go_roundw
        case rel => exact ⟨k + 1, by omega, by go_num, Lib.hid (by rw [all_step hx.out hi.out]; rfl), trivial⟩
        case measure => simp [intOf]; omega
      · by_cases h2 : x = 2
        · subst h2
          clear h1
          go_wp2_with fail
          go_roundw
          case rel => exact ⟨k + 1, by omega, by go_num, Lib.hid (by rw [all_step hx.out hi.out]; rfl), trivial⟩
          case measure => simp [intOf]; omega
        · have hf : isTy x = false := decide_eq_false (by omega)
          have h1' : (x != 1) = true := by simpa using h1
          have h2' : (x != 2) = true := by simpa using h2
          have HF := Lib.hid hf
          clear h1 h2 hf
          go_wp2_with fail
          go_ret
          exact ⟨by unfold typedB; rw [all_stop hx.out HF.out]; rfl, hbel1⟩
    · have hd := all_done hi.out (Nat.le_of_not_lt hlt)
      have HD := Lib.hid hd
      clear hd
      by_cases hp : 0 ≤ f.params ∧ f.params ≤ 8 ∧ f.params ≤ f.regs.length
      · obtain ⟨p1, p2, p3⟩ := hp
        have HT : Hid (typedB f = decide (f.result = 0 ∨ f.result = 1 ∨ f.result = 2)) := Lib.hid (by unfold typedB; rw [HD.out, decide_eq_true (show 0 ≤ f.params ∧ f.params ≤ 8 ∧ f.params ≤ f.regs.length from ⟨p1, p2, p3⟩)]; rfl)
        by_cases r0 : f.result = 0
        · have HR : Hid (typedB f = true) := Lib.hid (by rw [HT.out]; exact decide_eq_true (by omega))
          have r0' : (f.result == 0) = true := by simpa using r0
          clear r0 HT
          go_wp2_with fail
          go_ret
          exact ⟨by rw [HR.out]; rfl, hbel1⟩
        · by_cases r1 : f.result = 1
          · have HR : Hid (typedB f = true) := Lib.hid (by rw [HT.out]; exact decide_eq_true (by omega))
            have r0' : (f.result == 0) = false := by simpa using r0
            have r1' : (f.result == 1) = true := by simpa using r1
            clear r0 r1 HT
            go_wp2_with fail
            go_ret
            exact ⟨by rw [HR.out]; rfl, hbel1⟩
          · have HR : Hid (typedB f = decide (f.result = 2)) := Lib.hid (by rw [HT.out]; congr 1; rw [eq_iff_iff]; omega)
            have r0' : (f.result == 0) = false := by simpa using r0
            have r1' : (f.result == 1) = false := by simpa using r1
            clear r0 r1 HT
            go_wp2_with fail
            go_ret
            exact ⟨by rw [HR.out]; simp [Bool.beq_eq_decide_eq], hbel1⟩
      · have HT : Hid (typedB f = false) := Lib.hid (by unfold typedB; rw [decide_eq_false hp, Bool.and_false]; rfl)
        by_cases p1 : f.params < 0
        · clear hp
          go_wp2_with fail
          all_goals (go_ret; exact ⟨by rw [HT.out]; rfl, hbel1⟩)
        · by_cases p2 : 8 < f.params
          · clear hp
            go_wp2_with fail
            all_goals (go_ret; exact ⟨by rw [HT.out]; rfl, hbel1⟩)
          · have p3 : (f.regs.length : Int) < f.params := by omega
            clear hp
            go_wp2_with fail
            all_goals (go_ret; exact ⟨by rw [HT.out]; rfl, hbel1⟩)
end Go.Proofs.YtdfiflbkamhchaaDoor

/- Rule 3: hasItsTos, endsWell. -/
namespace Go.Proofs.YtdfiflbkamhchaaDoor
open Go.ChangeShapes Go.WideShapes Go.RowKit Go.Deep
set_option linter.unusedVariables false

set_option maxRecDepth 100000 in
set_option maxHeartbeats 4000000 in
theorem hasItsTos_any (t : TermD) (v : Value) (w : World) (hv : VTerm w v t) :
    Calls Tryd.prog 56 #[v] w fun e w' => e = .returned (.bool (tosB t)) ∧ Below w.heap.size w w' := by
  obtain ⟨A, c, rfl, ht, -, -⟩ := hv
  have htl := ht.len
  have hbel1 : Below w.heap.size w (w.alloc (.cells #[.int .i64 t.kind, .int .i64 t.arg, .slice A t.to.length c] 48)) := (Below.refl _ _).alloc (Nat.le_refl _) _
  by_cases k1 : t.kind = 1
  · have HT : Hid (tosB t = decide (t.to.length = 1)) := Lib.hid (by unfold tosB; rw [if_pos k1])
    have k1' : (t.kind == 1) = true := by simpa using k1
    clear k1
    go_enter Tryd.func56, Tryd.ntmps56
    go_wp2_with fail
    go_ret
    exact ⟨by rw [HT.out]; simp [Bool.beq_eq_decide_eq]; try omega, hbel1⟩
  · have k1' : (t.kind == 1) = false := by simpa using k1
    by_cases k2 : t.kind = 2
    · have k2' : (t.kind == 2) = true := by simpa using k2
      have HT : Hid (tosB t = (decide (t.to.length = 2) && decide (t.to.getD 0 0 ≠ t.to.getD 1 0))) := Lib.hid (by unfold tosB; rw [if_neg k1, if_pos k2])
      clear k1 k2
      by_cases l2 : t.to.length = 2
      · obtain ⟨b, o, x, rfl, hx, hxc, -⟩ := ht.int (k := 0) (by omega)
        obtain ⟨b', o', y, he, hy, hyc, -⟩ := ht.int (k := 1) (by omega)
        simp only [Option.some.injEq, Addr.mk.injEq] at he
        obtain ⟨rfl, rfl, -⟩ := he
        have HT' : Hid (tosB t = decide (x ≠ y)) := Lib.hid (by
          rw [HT.out, decide_eq_true l2, Bool.true_and, List.getD_eq_getElem?_getD, List.getD_eq_getElem?_getD, hx.out, hy.out]; rfl)
        have l2' : ((t.to.length : Int) == 2) = true := by simp [l2]
        have l2'' : 2 ≤ t.to.length := by omega
        have hltx := block_lt_of_cell hxc
        simp only [Nat.add_zero] at hxc
        clear l2 HT
        go_enter Tryd.func56, Tryd.ntmps56
        go_wp2_with fail
        go_quiet (fail)
        go_wp2_with fail
        go_ret
        exact ⟨by rw [HT'.out]; simp [bne, Bool.beq_eq_decide_eq], below_drewN hbel1 _⟩
      · have l2' : ((t.to.length : Int) == 2) = false := by
          rw [beq_eq_false_iff_ne]; omega
        have HT' : Hid (tosB t = false) := Lib.hid (by rw [HT.out, decide_eq_false l2]; rfl)
        clear l2 HT
        go_enter Tryd.func56, Tryd.ntmps56
        go_wp2_with fail
        go_quiet (fail)
        go_wp2_with fail
        go_ret
        exact ⟨by rw [HT'.out]; rfl, below_drewN hbel1 _⟩
    · have k2' : (t.kind == 2) = false := by simpa using k2
      by_cases k3 : t.kind = 3
      · have k3' : (t.kind == 3) = true := by simpa using k3
        have HT : Hid (tosB t = decide (t.to.length = 0)) := Lib.hid (by unfold tosB; rw [if_neg k1, if_neg k2, if_pos k3])
        clear k1 k2 k3
        go_enter Tryd.func56, Tryd.ntmps56
        go_wp2_with fail
        go_ret
        exact ⟨by rw [HT.out]; simp [Bool.beq_eq_decide_eq]; try omega, hbel1⟩
      · have k3' : (t.kind == 3) = false := by simpa using k3
        have HT : Hid (tosB t = false) := Lib.hid (by unfold tosB; rw [if_neg k1, if_neg k2, if_neg k3])
        clear k1 k2 k3
        go_enter Tryd.func56, Tryd.ntmps56
        go_wp2_with fail
        go_ret
        exact ⟨by rw [HT.out]; rfl, hbel1⟩
end Go.Proofs.YtdfiflbkamhchaaDoor
