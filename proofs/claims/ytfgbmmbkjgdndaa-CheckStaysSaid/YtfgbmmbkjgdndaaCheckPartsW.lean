/- The walk of CheckParts, given that ofInstr does what the document says. -/
import Derived.Test.YtfgbmmbkjgdndaaChkE
import Derived.Test.YtfgbmmbkjgdndaaLim
import Derived.Test.YtfgbmmbkjgdndaaSmall
import Derived.Test.YtfgbmmbkjgdndaaUp2
namespace Go.Proofs.Ytfgbmmbkjgdndaa
open Go.ChangeShapes Go.WideShapes Go.RowKit Go.Deep
set_option linter.unusedVariables false

theorem SL.take {α : Type} {w : World} {sz c n : Nat} {R : World → Nat → Nat → α → Prop} {A : Option Addr} {xs : List α} (h : SL w sz R A c xs) (hn : n ≤ xs.length) : SL w sz R A c (xs.take n) := by
  obtain ⟨h1, h2, h3⟩ := h
  refine ⟨by rw [List.length_take]; omega, h2, fun hp => ?_⟩
  rw [List.length_take] at hp
  obtain ⟨b, o, e, hx⟩ := h3 (by omega)
  refine ⟨b, o, e, fun i x hi => hx i x ?_⟩
  rw [List.getElem?_take] at hi
  split at hi
  · exact hi
  · cases hi
def callB (q : Nat) (x : InsD) : Bool := decide (x.op = 17 ∧ (q : Int) ≤ x.fn)
def callsB (q : Nat) (b : BlkD) : Bool := b.ins.any (callB q)
theorem calls_eq (q : Nat) (f : FunD) : calls q f = f.blocks.any (callsB q) := rfl
theorem any_step {α : Type} {l : List α} {k : Nat} {x : α} {p : α → Bool} (h : l[k]? = some x) : (l.take (k + 1)).any p = ((l.take k).any p || p x) := by
  rw [take_succ_of h, List.any_append]; simp

set_option maxRecDepth 100000 in
set_option maxHeartbeats 8000000 in
theorem checkParts_walk (OI : OfIns) (m : List FunD) (v : Value) (n : Int) (w : World) (hm : VMod w v m) (hn : (Lit.int .i64 n).wf = true) :
    Calls Try.prog 4 #[v, .int .i64 n] w fun e w' => e = .returned (.bool true) ∧ Below w.heap.size w w' := by
  have hm0 := hm
  have hn64 := bounds_i64 hn
  obtain ⟨hn1, hn2⟩ := hn64
  obtain ⟨A, c, rfl, hms⟩ := hm
  have hml := hms.len
  clear hn
  go_enter Try.func4, Try.ntmps4
  go_wp2_with fail
  obtain ⟨w1, hw1, hs1, hk1, hB1, hc1, -⟩ := named w #[.slice A m.length c] 30
  rw [← hw1]
  have q0 : w1.cell? ⟨w.heap.size, 0, none⟩ = some (.slice A m.length c) := hc1 0 _ rfl
  have hs1 : w.heap.size < w1.heap.size := by omega
  clear hw1 hc1
  refine (up_any _).mono ?_
  rintro e w2 ⟨rfl, hb2⟩
  have hB2 : Below w.heap.size w w2 := hB1.trans (hb2.mono hB1.size)
  have hk2 := kept_of_below hb2
  have q0 := hk2 _ _ q0
  go_wp2_with fail
  refine (small_any m _ _ (VMod.keep (hk1.trans hk2) hm0)).mono ?_
  rintro e w3 ⟨⟨bs, rfl, hsm⟩, hb3⟩
  have hB3 : Below w.heap.size w w3 := hB2.trans (hb3.mono hB2.size)
  have hk3 := kept_of_below hb3
  have q0 := hk3 _ _ q0
  cases bs
  · go_wp2_with fail
    go_ret
    exact ⟨rfl, hB3⟩
  · have hsm := hsm rfl
    have hml40 : m.length ≤ 40 := hsm.1
    have HS := Lib.hid hsm
    clear hsm
    go_wp2_with fail
    have hK3 := (hk1.trans hk2).trans hk3
    refine (module_any OI m _ _ (VMod.keep hK3 hm0) (lim_of_small HS.out)).mono ?_
    rintro e w4 ⟨⟨ve, rfl, he⟩, hb4⟩
    have hB4 : Below w.heap.size w w4 := hB3.trans (hb4.mono hB3.size)
    have hk4 := kept_of_below hb4
    have q0 := hk4 _ _ q0
    by_cases hp : (modE m).1 = 0
    · obtain rfl := he.nil hp
      have HP : Hid (Proper m) := Lib.hid hp
      clear hp he
      have hK4 := hK3.trans hk4
      obtain ⟨q, hq, hslot⟩ : ∃ q : Nat, q ≤ m.length ∧ ((n < 0 ∧ -(n + 1).tmod ((m.length : Int) + 1) = q) ∨ (0 ≤ n ∧ n % ((m.length : Int) + 1) = q)) := by
        by_cases hneg : n < 0
        · have h0 : -(n + 1).tmod ((m.length : Int) + 1) = (-(n + 1)) % ((m.length : Int) + 1) := by
            rw [← Int.neg_tmod, Int.tmod_eq_emod_of_nonneg (by omega)]
          have h1 : 0 ≤ (-(n + 1)) % ((m.length : Int) + 1) := Int.emod_nonneg _ (by omega)
          have h2 : (-(n + 1)) % ((m.length : Int) + 1) < (m.length : Int) + 1 := Int.emod_lt_of_pos _ (by omega)
          exact ⟨((-(n + 1)) % ((m.length : Int) + 1)).toNat, by omega, .inl ⟨hneg, by rw [h0]; omega⟩⟩
        · have h1 : 0 ≤ n % ((m.length : Int) + 1) := Int.emod_nonneg _ (by omega)
          have h2 : n % ((m.length : Int) + 1) < (m.length : Int) + 1 := Int.emod_lt_of_pos _ (by omega)
          exact ⟨(n % ((m.length : Int) + 1)).toNat, by omega, .inr ⟨by omega, by omega⟩⟩
      rcases hslot with ⟨hneg, hqn⟩ | ⟨hneg, hqn⟩
      all_goals
        have HQ := Lib.hid hqn
        clear hqn
        go_wp2_with fail
        rw [HQ.out]
        clear HQ
        go_loopw [8, 9] (fun h i wr => ∃ k : Nat, k ≤ q ∧ i = .int .i64 k ∧ h = .bool ((m.take k).any (calls q)) ∧ Below w4.heap.size w4 wr) (fun _ i _ => q - (intOf i).toNat)
        case atStart => exact ⟨0, Nat.zero_le _, rfl, rfl, Below.refl _ _⟩
        case round =>
          obtain ⟨k, hk, rfl, rfl, hbel⟩ := hrel
          have hkr := kept_of_below hbel
          have hB : Below w.heap.size w wr := hB4.trans (hbel.mono hB4.size)
          have a0 := hkr _ _ q0
          by_cases hlt : k < q
          · obtain ⟨b1, o1, f, rfl, hf, ⟨h0, z0⟩, ⟨h1, z1⟩, ⟨Ar, cr, h2, z2⟩, Ab, cb, h3, z3⟩ := (SFuns.keep hK4 hms).at_ (k := k) (by omega)
            have hfl := z3.len
            have HST := Lib.hid (any_step (p := calls q) hf.out)
            generalize (m.take k).any (calls q) = c0 at *
            have hbo := hbel
            go_wp2_with fail
            go_loopw [8, 10] (fun h i wr => ∃ j : Nat, j ≤ f.blocks.length ∧ i = .int .i64 j ∧ h = .bool (c0 || (f.blocks.take j).any (callsB q)) ∧ Below w4.heap.size w4 wr) (fun _ i _ => f.blocks.length - (intOf i).toNat)
            case atStart => exact ⟨0, Nat.zero_le _, rfl, by simp, hbo⟩
            case round =>
              obtain ⟨j, hj, rfl, rfl, hbel⟩ := hrel
              have hkr := kept_of_below hbel
              have hso := hbel.size
              have a0 := hkr _ _ q0
              have a3 := hkr _ _ h3
              by_cases hlt : j < f.blocks.length
              · obtain ⟨b2, o2, b, rfl, hb, ⟨Ap, cp, h20, z20⟩, ⟨Ai, ci, h21, z21⟩, ⟨h22, z22⟩, ⟨h23, z23⟩, ⟨At, ct, h24, z24⟩⟩ := (SBlks.keep hkr z3).at_ hlt
                have hil := z21.len
                have HSB := Lib.hid (any_step (p := callsB q) hb.out)
                generalize (f.blocks.take j).any (callsB q) = c1 at *
                go_wp2_with fail
                obtain ⟨w5, hw5, hs5, hk5, hb5, hc5, -⟩ := named wr #[.slice Ap b.phis.length cp, .slice Ai b.ins.length ci, .int .i64 b.term.kind, .int .i64 b.term.arg, .slice At b.term.to.length ct] 43
                have y1 : w5.cell? ⟨wr.heap.size, 1, none⟩ = some (.slice Ai b.ins.length ci) := hc5 1 _ rfl
                have hbo5 : Below w4.heap.size w4 w5 := hbel.trans (hb5.mono hso)
                rw [← hw5]
                clear hw5 hs5 hc5 h20 h21 h22 h23 h24
                go_loopw [8, 12] (fun h i wr => ∃ l q' : Nat, l ≤ b.ins.length ∧ i = .int .i64 l ∧ h = .bool (c0 || c1 || (b.ins.take l).any (callB q)) ∧ wr = w5.drewN q') (fun _ i _ => b.ins.length - (intOf i).toNat)
                case atStart => exact ⟨0, 0, Nat.zero_le _, rfl, by simp, rfl⟩
                case round =>
                  obtain ⟨l, q', hl, rfl, rfl, rfl⟩ := hrel
                  by_cases hlt : l < b.ins.length
                  · obtain ⟨b3, o3, x, rfl, hx, ⟨h30, z30⟩, ⟨h31, z31⟩, ⟨Aa, ca, h32, z32⟩, ⟨h33, z33⟩, ⟨h34, z34⟩⟩ := (SInss.keep hk5 z21).at_ hlt
                    have HSI := Lib.hid (any_step (p := callB q) hx.out)
                    generalize (b.ins.take l).any (callB q) = c2 at *
                    cases hcc : (c0 || c1 || c2)
                    · by_cases hop : x.op = 17
                      · have hop' : (x.op == 17) = true := by simpa using hop
                        by_cases hfn : (q : Int) ≤ x.fn
                        · have HF : Hid (callB q x = true) := Lib.hid (decide_eq_true ⟨hop, hfn⟩)
                          have HCC := Lib.hid hcc
                          clear hcc hop
                          go_wp2_with fail
                          go_roundw
                          case rel => exact ⟨l + 1, q', by omega, by go_num, by rw [HSI.out, HF.out]; simp, rfl⟩
                          case measure => simp [intOf]; omega
                        · have HF : Hid (callB q x = false) := Lib.hid (decide_eq_false (fun h => hfn h.2))
                          have HCC := Lib.hid hcc
                          clear hcc hop
                          go_wp2_with fail
                          go_roundw
                          case rel => exact ⟨l + 1, q', by omega, by go_num, by rw [HSI.out, HF.out, Bool.or_false, HCC.out], rfl⟩
                          case measure => simp [intOf]; omega
                      · have hop' : (x.op == 17) = false := by simpa using hop
                        have HF : Hid (callB q x = false) := Lib.hid (decide_eq_false (fun h => hop h.1))
                        have HCC := Lib.hid hcc
                        clear hcc hop
                        go_wp2_with fail
                        go_roundw
                        case rel => exact ⟨l + 1, q', by omega, by go_num, by rw [HSI.out, HF.out, Bool.or_false, HCC.out], rfl⟩
                        case measure => simp [intOf]; omega
                    · have HCC := Lib.hid hcc
                      clear hcc
                      go_wp2_with fail
                      go_roundw
                      case rel => exact ⟨l + 1, q', by omega, by go_num, by rw [HSI.out, ← Bool.or_assoc, HCC.out]; rfl, rfl⟩
                      case measure => simp [intOf]; omega
                  · have hll : b.ins.take l = b.ins := List.take_of_length_le (by omega)
                    have HE : Hid ((c0 || (c1 || callsB q b)) = (c0 || c1 || (b.ins.take l).any (callB q))) := Lib.hid (by rw [hll, ← Bool.or_assoc]; rfl)
                    clear hll
                    go_wp2_with fail
                    go_roundw
                    case rel => exact ⟨j + 1, by omega, by go_num, by rw [HSB.out, HE.out], below_drewN hbo5 _⟩
                    case measure => simp [intOf]; omega
              · have hll : f.blocks.take j = f.blocks := List.take_of_length_le (by omega)
                have HE : Hid ((c0 || calls q f) = (c0 || (f.blocks.take j).any (callsB q))) := Lib.hid (by rw [hll]; rfl)
                clear hll
                go_wp2_with fail
                go_roundw
                case rel => exact ⟨k + 1, by omega, by go_num, by rw [HST.out, HE.out], hbel⟩
                case measure => simp [intOf]; omega
          · obtain rfl : k = q := by omega
            have hpp := part_proper HP.out hq
            have HPP := Lib.hid hpp
            clear hpp
            generalize (m.take k).any (calls k) = cc at *
            have hcap : k ≤ c := by have := hms.1; omega
            have hcm : c ≤ 9223372036854775807 := by have := hms.2.1.1; unfold maxLen at this; omega
            go_wp2_with fail
            have hKr := hK4.trans hkr
            refine (module_any OI (m.take k) _ _ ⟨A, c, by rw [List.length_take, Nat.min_eq_left hq], (SFuns.keep hKr hms).take hq⟩ (fun f hf => lim_of_small HS.out f (List.mem_of_mem_take hf))).mono ?_
            rintro e w7 ⟨⟨vq, rfl, hq7⟩, hb7⟩
            have hB7 : Below w.heap.size w w7 := hB.trans (hb7.mono hB.size)
            by_cases hpq : (modE (m.take k)).1 = 0
            · obtain rfl := hq7.nil hpq
              obtain rfl : cc = false := HPP.out.1 hpq
              clear hpq hq7
              go_wp2_with fail
              go_ret
              exact ⟨rfl, hB7⟩
            · obtain ⟨t, x, rfl⟩ := hq7.iface hpq
              obtain rfl : cc = true := by
                cases cc
                · exact absurd (HPP.out.2 rfl) hpq
                · rfl
              clear hpq hq7
              go_wp2_with fail
              go_ret
              exact ⟨rfl, hB7⟩
    · obtain ⟨t, x, rfl⟩ := he.iface hp
      clear hp he
      go_wp2_with fail
      go_ret
      exact ⟨rfl, hB4⟩
end Go.Proofs.Ytfgbmmbkjgdndaa
