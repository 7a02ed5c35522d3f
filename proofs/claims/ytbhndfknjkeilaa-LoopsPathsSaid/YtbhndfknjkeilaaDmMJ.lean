/- The reference of layer 5: Next; and small, Ints of the statements. -/
import Derived.Test.YtbhndfknjkeilaaSmallJ
import Derived.Deep.QuietTactic
import Derived.BigQuiet
import Derived.Test.YtbhndfknjkeilaaAheadGJ
import Derived.ProofKit
namespace Go.Proofs.Ytbhndfknjkeilaa
open Go.ChangeShapes Go.WideShapes Go.RowKit Go.Deep
set_option linter.unusedVariables false

theorem sameInts_any (a b : List Int) (v u : Value) (w : World) (hv : VS w 1 RInt v a) (hu : VS w 1 RInt u b) :
    Calls Try.prog 13 #[v, u] w fun e w' => e = .returned (.bool (decide (a = b))) ∧ ∃ n, w' = w.drewN n := by
  obtain ⟨A, c, rfl, ha⟩ := hv
  obtain ⟨B, d, rfl, hb⟩ := hu
  have hal := ha.len
  have hbl := hb.len
  by_cases hl : a.length = b.length
  · have hne : ((a.length : Int) != b.length) = false := by simp [hl]
    have HL := Lib.hid hl
    clear hl
    go_enter Try.func13, Try.ntmps13
    go_wp2_with fail
    go_loopw [5] (fun i wr => ∃ k q : Nat, k ≤ a.length ∧ i = .int .i64 k ∧ wr = w.drewN q ∧ a.take k = b.take k) (fun i _ => a.length - (intOf i).toNat)
    case atStart => exact ⟨0, 0, Nat.zero_le _, rfl, rfl, by simp⟩
    case round =>
      obtain ⟨k, q, hk, rfl, rfl, hsame⟩ := hrel
      have HS := Lib.hid hsame
      clear hsame
      by_cases hlt : k < a.length
      · obtain ⟨b1, o1, x, rfl, hx, hxc, -⟩ := ha.int hlt
        have hkb : k < b.length := by have := HL.out; omega
        obtain ⟨b2, o2, y, rfl, hy, hyc, -⟩ := hb.int hkb
        have hk0 : (0 : Int) ≤ k := by omega
        have hk1 : (k : Int) < a.length := by omega
        have hk2 : (k : Int) < b.length := by omega
        by_cases hxy : x = y
        · have hb1 : (x != y) = false := by simp [hxy]
          have hsn : Hid (a.take (k + 1) = b.take (k + 1)) := Lib.hid (by rw [take_succ_of hx.out, take_succ_of hy.out, HS.out, hxy])
          clear hxy
          go_wp2_with fail
          go_quiet (fail)
          go_wp2_with fail
          go_roundw
          case rel => exact ⟨k + 1, _, by omega, by go_num, rfl, hsn.out⟩
          case measure => simp [intOf]; omega
        · have hb1 : (x != y) = true := by simpa using hxy
          have hne2 : Hid (decide (a = b) = false) := Lib.hid (decide_eq_false (fun e => hxy (by have h1 := hx.out; rw [e, hy.out] at h1; exact (Option.some.inj h1).symm)))
          clear hxy
          go_wp2_with fail
          go_quiet (fail)
          go_wp2_with fail
          go_ret
          exact ⟨(show Ending.returned (.bool false) = .returned (.bool (decide (a = b))) by rw [hne2.out]), _, World.drewN_drewN _ _ _⟩
      · have hyes : Hid (decide (a = b) = true) := Lib.hid (decide_eq_true (by
          have h1 := HS.out
          rwa [List.take_of_length_le (by omega), List.take_of_length_le (by have := HL.out; omega)] at h1))
        go_wp2_with fail
        go_ret
        exact ⟨(show Ending.returned (.bool true) = .returned (.bool (decide (a = b))) by rw [hyes.out]), _, rfl⟩
  · have hne : ((a.length : Int) != b.length) = true := by simp; omega
    have hno : decide (a = b) = false := decide_eq_false (fun e => hl (by rw [e]))
    rw [hno]
    clear hl hno
    go_enter Try.func13, Try.ntmps13
    go_wp2_with fail
    go_ret
    exact ⟨rfl, 0, rfl⟩

/-! ### Next -/
def outB (n : Nat) (x : Int) : Bool := decide (x < 0) || decide ((n : Int) ≤ x)
def hasB (n : Nat) (acc : List Nat) (x : Int) (i : Nat) : Bool := outB n x || decide (∃ q ∈ acc.take i, (q : Int) = x)
theorem hasB_step {n : Nat} {acc : List Nat} {x : Int} {i q : Nat} (h : acc[i]? = some q) : hasB n acc x (i + 1) = (hasB n acc x i || ((q : Int) == x)) := by
  unfold hasB
  rw [take_succ_of h, Bool.or_assoc]
  congr 1
  rw [Bool.eq_iff_iff, Bool.or_eq_true, decide_eq_true_iff, decide_eq_true_iff, beq_iff_eq]
  constructor
  · rintro ⟨p, hp, e⟩
    rcases List.mem_append.1 hp with hp | hp
    · exact .inl ⟨p, hp, e⟩
    · rw [List.mem_singleton.1 hp] at e; exact .inr e
  · rintro (⟨p, hp, e⟩ | e)
    · exact ⟨p, List.mem_append.2 (.inl hp), e⟩
    · exact ⟨q, by simp, e⟩
theorem addT_has {n : Nat} {acc : List Nat} {x : Int} (h : hasB n acc x acc.length = true) : addT n acc x = acc := by
  apply addT_old
  rintro ⟨h1, h2, h3⟩
  unfold hasB outB at h
  rw [List.take_length] at h
  simp only [Bool.or_eq_true, decide_eq_true_iff] at h
  rcases h with (h | h) | ⟨q, hq, e⟩
  · omega
  · omega
  · exact h3 (by rw [← e]; simpa using hq)
theorem addT_has_not {n : Nat} {acc : List Nat} {x : Int} (h : hasB n acc x acc.length = false) : 0 ≤ x ∧ x < n ∧ addT n acc x = acc ++ [x.toNat] := by
  unfold hasB outB at h
  rw [List.take_length] at h
  simp only [Bool.or_eq_false_iff, decide_eq_false_iff_not] at h
  obtain ⟨⟨h1, h2⟩, h3⟩ := h
  refine ⟨by omega, by omega, ?_⟩
  unfold addT
  rw [if_pos ⟨by omega, by omega, fun hm => h3 ⟨_, hm, by omega⟩⟩]

def ToldN_ (bs : List BlkD) (a : Nat) (w : World) (e : Ending) (w' : World) : Prop :=
  (∃ v, e = .returned v ∧ w'.ownsRow w.heap.size 3 1 v (nxF bs a).length ((zs (nxF bs a)).map (Value.int .i64))) ∧ Below w.heap.size w w'

set_option maxRecDepth 100000 in
set_option maxHeartbeats 4000000 in
theorem refNext_any (f : FunD) (a : Nat) (v : Value) (w : World) (hv : VFun w v f) (hn : f.blocks.length ≤ 1000000) (ha : a < f.blocks.length) :
    Calls Try.prog 19 #[v, .int .i64 a] w (ToldN_ f.blocks a w) := by
  obtain ⟨Ar, cr, A, c, rfl, -, hb, -, -⟩ := hv
  have hbl := hb.len
  obtain ⟨i0, hi, hz0, hz1, hz2⟩ := info_parts Try.info3
  have HI := Lib.hid (And.intro hi (And.intro hz0 (And.intro hz1 hz2)))
  clear hi hz0 hz1 hz2
  have ha0 : (0 : Int) ≤ a := by omega
  have ha1 : (a : Int) < f.blocks.length := by omega
  go_enter Try.func19, Try.ntmps19
  go_wp2_with fail
  obtain ⟨w1, hw1, hs1, hk1, hbel1, hc1, -⟩ := named w #[.int .i64 f.params, .int .i64 f.result, .slice Ar f.regs.length cr, .slice A f.blocks.length c] 25
  have c3 := hc1 3 _ rfl
  rw [← hw1]
  have HB1 := Lib.hid hbel1
  have HS1 : Hid (w.heap.size ≤ w1.heap.size) := Lib.hid (by omega)
  obtain ⟨b, o, kb, rfl, hkb, -, -, -, -, A', c', hto, htos⟩ := (SBlks.keep hk1 hb).at_ ha
  have htl := htos.len
  have HT := Lib.hid (nxF_at hkb.out)
  clear hw1 hs1 hk1 hbel1 hc1 hb
  go_loopw [5, 6] (fun out i wr => ∃ k : Nat, k ≤ kb.term.to.length ∧ i = .int .i64 k ∧ Below w1.heap.size w1 wr ∧
    wr.ownsRow w1.heap.size 3 1 out (nextN f.blocks.length (kb.term.to.take k)).length ((zs (nextN f.blocks.length (kb.term.to.take k))).map (Value.int .i64))) (fun _ i _ => kb.term.to.length - (intOf i).toNat)
  case atStart => exact ⟨0, Nat.zero_le _, rfl, Below.refl _ _, rfl, .inl ⟨rfl, rfl⟩⟩
  case round =>
    obtain ⟨k, hk, rfl, hbel, hown⟩ := hrel
    have hs := hbel.size
    have hkw : Kept w1 wr := kept_of_below hbel
    have hbox := hkw _ _ c3
    have htoc := hkw _ _ hto
    by_cases hlt : k < kb.term.to.length
    · obtain ⟨b', o', x, rfl, hx, hxc, -⟩ := (SInts.keep hkw htos).int hlt
      have HST := Lib.hid (nextN_step (n := f.blocks.length) hx.out)
      have hfew := nextN_few f.blocks.length (kb.term.to.take k)
      have HBEL := Lib.hid hbel
      have HKW := Lib.hid hkw
      clear hbel hkw
      have hmem : ∀ q ∈ nextN f.blocks.length (kb.term.to.take k), q < f.blocks.length := fun q hq => (nextN_mem.1 hq).1
      generalize nextN f.blocks.length (kb.term.to.take k) = acc at *
      obtain ⟨Ao, co, rfl, hso⟩ := slB_of_own (B := fun _ => True) (xs := zs acc) (by rw [zs_len]; exact hown) (fun y hy => by obtain ⟨q, hq, rfl⟩ := zs_mem hy; have := hmem q hq; unfold I64; omega) (fun _ _ _ => trivial)
      rw [zs_len] at hown ⊢
      have HOWN := Lib.hid hown
      have HM := Lib.hid hmem
      clear hown hmem
      go_upto_region 6 with fail
      go_cut [8] (fun s8 wx => s8 = .bool (outB f.blocks.length x) ∧ wx = wr)
      case first =>
        by_cases h0 : x < 0
        · have e : outB f.blocks.length x = true := by unfold outB; simp [h0]
          go_wp2_with fail
          go_meet
          exact ⟨by rw [e], rfl⟩
        · by_cases h1 : (f.blocks.length : Int) ≤ x
          · have e : outB f.blocks.length x = true := by unfold outB; simp [h1]
            go_wp2_with fail
            go_meet
            exact ⟨by rw [e], rfl⟩
          · have e : outB f.blocks.length x = false := by unfold outB; simp; omega
            have h1' : decide ((f.blocks.length : Int) ≤ x) = false := decide_eq_false h1
            go_wp2_with fail
            go_meet
            exact ⟨by rw [e], rfl⟩
      case rest =>
        obtain ⟨rfl, rfl⟩ := hcut
        have hal : acc.length ≤ 1000000 := by omega
        go_wp2_with fail
        go_loop [8, 9] (fun h i => ∃ j : Nat, j ≤ acc.length ∧ i = .int .i64 j ∧ h = .bool (hasB f.blocks.length acc x j)) (fun _ i => acc.length - (intOf i).toNat)
        case atStart => exact ⟨0, Nat.zero_le _, rfl, by unfold hasB; simp⟩
        case round =>
          obtain ⟨j, hj, rfl, rfl⟩ := hrel
          by_cases hjt : j < acc.length
          · obtain ⟨bo, oo, y, rfl, hy, -, hyc, -⟩ := hso.at_ (k := j) (by rw [zs_len]; exact hjt)
            obtain ⟨q, hq, rfl⟩ := zs_at hy.out
            have hyc : wc.cell? ⟨bo, oo + j, none⟩ = some (.int .i64 (q : Int)) := by rw [Nat.mul_one] at hyc; exact hyc
            have HSTEP := Lib.hid (hasB_step (n := f.blocks.length) (x := x) hq)
            have hj0 : (0 : Int) ≤ j := by omega
            have hj1 : (j : Int) < acc.length := by omega
            clear hq hso
            generalize hasB f.blocks.length acc x j = h0 at *
            cases h0
            · cases hqx : ((q : Int) == x)
              · have HQ := Lib.hid hqx
                go_wp2_with fail
                go_round
                case rel => exact ⟨j + 1, by omega, by go_num, by rw [HSTEP.out, HQ.out]; rfl⟩
                case measure => simp [intOf]; omega
              · have HQ := Lib.hid hqx
                go_wp2_with fail
                go_round
                case rel => exact ⟨j + 1, by omega, by go_num, by rw [HSTEP.out, HQ.out]; rfl⟩
                case measure => simp [intOf]; omega
            · go_wp2_with fail
              go_round
              case rel => exact ⟨j + 1, by omega, by go_num, by rw [HSTEP.out]; rfl⟩
              case measure => simp [intOf]; omega
          · obtain rfl : j = acc.length := by omega
            cases hh : hasB f.blocks.length acc x acc.length
            · have HH := Lib.hid (addT_has_not hh)
              clear hh hjt hj
              go_wp2_with (at_builtin; refine wpList_append_lies _ rfl (.tmp 58) (.tmp 60) 22 rfl w1.heap.size 3 i0 (.int .i64 0) 1 8 Try.underlying22 HI.out.1 HI.out.2.1 HI.out.2.2.1 HI.out.2.2.2 rfl (by decide) _ _ _ rfl (HOWN.out.alloc _) ⟨wc.heap.size, 0, none⟩ 1 1 [.int .i64 x] rfl rfl ?d1 ?d2 ?d0 ?d3 ?d4 ?d5 (wc.heap.size + 1) ?d6 ?_)
              case d2 => rfl
              case d3 => unfold maxLen; omega
              case d4 => omega
              case d5 => omega
              intro g cap w3 hown3 hgrow3 hloc3 hlt3
              have hb3 : Below w1.heap.size w1 w3 := (HBEL.out.alloc hs _).grown hgrow3 (by simp; omega) (fun g hg => (HOWN.out.lt g hg).1)
              obtain ⟨q, hq⟩ : ∃ q : Nat, x = q := ⟨x.toNat, by have := HH.out; omega⟩
              have hnew : w3.ownsRow w1.heap.size 3 1 (.slice (some ⟨g, 0, none⟩) (acc.length + 1) cap) (nextN f.blocks.length (kb.term.to.take (k + 1))).length ((zs (nextN f.blocks.length (kb.term.to.take (k + 1)))).map (Value.int .i64)) := by
                rw [HST.out, HH.out.2.2, hq]
                simpa [zs, hq] using hown3
              have HNEW := Lib.hid hnew
              have HB3 := Lib.hid hb3
              clear hown3 hgrow3 hloc3 hnew hb3 hq
              go_wp2_with fail
              go_roundw
              case rel => exact ⟨k + 1, by omega, by go_num, HB3.out, HNEW.out⟩
              case measure => simp [intOf]; omega
            · have HH := Lib.hid (addT_has hh)
              have HOWN2 : Hid (wc.ownsRow w1.heap.size 3 1 (.slice Ao acc.length co) (nextN f.blocks.length (kb.term.to.take (k + 1))).length ((zs (nextN f.blocks.length (kb.term.to.take (k + 1)))).map (Value.int .i64))) := Lib.hid (by rw [HST.out, HH.out]; exact HOWN.out)
              clear hh hjt hj
              go_wp2_with fail
              go_roundw
              case rel => exact ⟨k + 1, by omega, by go_num, HBEL.out, HOWN2.out⟩
              case measure => simp [intOf]; omega
    · have hjj : kb.term.to.take k = kb.term.to := List.take_of_length_le (by omega)
      rw [hjj, ← HT.out] at hown
      have HO := Lib.hid (own_base hown (base' := w.heap.size) HS1.out)
      have HBF : Hid (Below w.heap.size w wr) := Lib.hid (HB1.out.trans (hbel.mono HB1.out.size))
      clear hjj hown hbel hkw
      go_wp2_with fail
      go_ret
      exact ⟨⟨_, rfl, HO.out⟩, HBF.out⟩
end Go.Proofs.Ytbhndfknjkeilaa

/- Functions and modules that came in as arguments: what they read as. -/
namespace Go.Proofs.Ytbhndfknjkeilaa
open Go.ChangeShapes Go.WideShapes Go.RowKit Go.Deep
set_option linter.unusedVariables false

section
variable {H : Type} {enc : TypeId × Value → H} {P : Program} {w : World} {base : Nat} {spare : Nat → Bool} {held : Bool}

theorem struct_field {t : TypeId} {fs : Array Field} {fuel : Nat} {cs : List Value} {y : DataW H × List MemPlace} (ht : P.underlying t = some (.struct fs)) (h : DataW.trod enc P w base spare held fuel t cs = some y)
    (i : Nat) (f : Field) (hf : fs[i]? = some f) : ∃ n z, DataW.trod enc P w base spare held n f.type ((cs.drop f.offset).take (P.cellsOf f.type)) = some z := by
  obtain ⟨xs, n, _, _, _, hlen, hx⟩ := DataW.trod_struct ht h
  have hi : i < xs.length := by rw [hlen]; exact (Array.getElem?_eq_some_iff.1 hf).1
  exact ⟨n, xs[i], (hx i f hf).trans (List.getElem?_eq_getElem hi)⟩
theorem field_of {t : TypeId} {fs : Array Field} {fuel : Nat} {cs : List Value} {y : DataW H × List MemPlace} (ht : P.underlying t = some (.struct fs)) (h : DataW.trod enc P w base spare held fuel t cs = some y)
    (i : Nat) {f : Field} (hf : fs[i]? = some f) {t' : TypeId} {c k : Nat} (hft : f.type = t') (hk : f.offset = k) (hc : P.cellsOf t' = c) : ∃ n z, DataW.trod enc P w base spare held n t' ((cs.drop k).take c) = some z := by
  subst hft hk hc
  exact struct_field ht h i f hf
theorem drop_take_one {cs : List Value} {k : Nat} (hk : k < cs.length) : (cs.drop k).take 1 = [cs[k]] := by
  rw [List.drop_eq_getElem_cons hk]; rfl
theorem int_field {t : TypeId} {n k : Nat} {cs : List Value} {z : DataW H × List MemPlace} (ht : P.underlying t = some (.int .i64)) (hk : k < cs.length) (h : DataW.trod enc P w base spare held n t ((cs.drop k).take 1) = some z) :
    ∃ x, cs[k]? = some (.int .i64 x) ∧ I64 x := by
  rw [drop_take_one hk] at h
  obtain ⟨x, hx, _, hw⟩ := DataW.trod_int ht h
  exact ⟨x, by rw [List.getElem?_eq_getElem hk]; exact congrArg some (List.cons.inj hx).1, wf_i64 hw⟩
theorem slice_field {α : Type} [Inhabited α] {t e : TypeId} {sz : Nat} {R : World → Nat → Nat → α → Prop} {n k : Nat} {cs : List Value} {z : DataW H × List MemPlace} (ht : P.underlying t = some (.slice e)) (hsz : P.cellsOf e = sz) (hpos : 0 < sz)
    (hR : Opens enc P w base spare held e sz R) (hk : k < cs.length) (h : DataW.trod enc P w base spare held n t ((cs.drop k).take 1) = some z) : ∃ A c xs, cs[k]? = some (.slice A xs.length c) ∧ SL w sz R A c xs := by
  rw [drop_take_one hk] at h
  obtain ⟨xs, A, c, e, hs⟩ := open_vs ht hsz hpos hR h
  exact ⟨A, c, xs, by rw [List.getElem?_eq_getElem hk, e], hs⟩
end

theorem Try.cells3 : Try.prog.cellsOf 3 = 1 := by kernel_rfl
theorem Try.cells2 : Try.prog.cellsOf 2 = 1 := by kernel_rfl
theorem Try.cells22 : Try.prog.cellsOf 22 = 1 := by kernel_rfl
theorem Try.cells45 : Try.prog.cellsOf 45 = 1 := by kernel_rfl
theorem Try.cells46 : Try.prog.cellsOf 46 = 1 := by kernel_rfl
theorem Try.cells23 : Try.prog.cellsOf 23 = 1 := by kernel_rfl
theorem Try.cells50 : Try.prog.cellsOf 50 = 1 := by kernel_rfl
theorem Try.cells68 : Try.prog.cellsOf 68 = 2 := by kernel_rfl
theorem Try.cells70 : Try.prog.cellsOf 70 = 5 := by kernel_rfl
theorem Try.cells43 : Try.prog.cellsOf 43 = 3 := by kernel_rfl
theorem Try.cells48 : Try.prog.cellsOf 48 = 5 := by kernel_rfl
theorem Try.cells25 : Try.prog.cellsOf 25 = 4 := by kernel_rfl
theorem Try.cells52 : Try.prog.cellsOf 52 = 1 := by kernel_rfl

section
variable {H : Type} {enc : TypeId × Value → H} {w : World} {base : Nat} {spare : Nat → Bool} {held : Bool}

theorem opens_int : Opens enc Try.prog w base spare held 3 1 RInt := fun n b o cs y hlen hat h => by
  obtain ⟨x, rfl, _, hw⟩ := DataW.trod_int Try.underlying3 h
  exact ⟨x, (hat 0 (by omega)).trans rfl, wf_i64 hw⟩
theorem field_int {fs : Array Field} {t : TypeId} {fuel : Nat} {cs : List Value} {y : DataW H × List MemPlace} (ht : Try.prog.underlying t = some (.struct fs)) (h : DataW.trod enc Try.prog w base spare held fuel t cs = some y)
    (i : Nat) (f : Field) (hf : fs[i]? = some f) (hft : f.type = 3) (hk : f.offset < cs.length) : ∃ x, cs[f.offset]? = some (.int .i64 x) ∧ I64 x := by
  obtain ⟨n, z, hz⟩ := struct_field ht h i f hf
  rw [hft, Try.cells3] at hz
  exact int_field Try.underlying3 hk hz
theorem field_int64 {fs : Array Field} {t : TypeId} {fuel : Nat} {cs : List Value} {y : DataW H × List MemPlace} (ht : Try.prog.underlying t = some (.struct fs)) (h : DataW.trod enc Try.prog w base spare held fuel t cs = some y)
    (i : Nat) (f : Field) (hf : fs[i]? = some f) (hft : f.type = 2) (hk : f.offset < cs.length) : ∃ x, cs[f.offset]? = some (.int .i64 x) ∧ I64 x := by
  obtain ⟨n, z, hz⟩ := struct_field ht h i f hf
  rw [hft, Try.cells2] at hz
  exact int_field Try.underlying2 hk hz
theorem field_ints {fs : Array Field} {t : TypeId} {fuel : Nat} {cs : List Value} {y : DataW H × List MemPlace} (ht : Try.prog.underlying t = some (.struct fs)) (h : DataW.trod enc Try.prog w base spare held fuel t cs = some y)
    (i : Nat) (f : Field) (hf : fs[i]? = some f) (hft : f.type = 22) (hk : f.offset < cs.length) : ∃ A c, ∃ xs : List Int, cs[f.offset]? = some (.slice A xs.length c) ∧ SL w 1 RInt A c xs := by
  obtain ⟨n, z, hz⟩ := struct_field ht h i f hf
  rw [hft, Try.cells22] at hz
  exact slice_field Try.underlying22 Try.cells3 (by omega) opens_int hk hz
theorem opens_phi : Opens enc Try.prog w base spare held 68 2 RPhi := fun n b o cs y hlen hat h => by
  obtain ⟨x, h0, w0⟩ := field_int Try.underlying68 h 0 _ rfl rfl (by simp; omega)
  obtain ⟨A, c, xs, h1, w1⟩ := field_ints Try.underlying68 h 1 _ rfl rfl (by simp; omega)
  exact ⟨⟨x, xs⟩, ⟨(hat 0 (by omega)).trans h0, w0⟩, A, c, (hat 1 (by omega)).trans h1, w1⟩
theorem opens_ins : Opens enc Try.prog w base spare held 70 5 RIns := fun n b o cs y hlen hat h => by
  obtain ⟨x0, h0, w0⟩ := field_int Try.underlying70 h 0 _ rfl rfl (by simp; omega)
  obtain ⟨x1, h1, w1⟩ := field_int Try.underlying70 h 1 _ rfl rfl (by simp; omega)
  obtain ⟨A, c, xs, h2, w2⟩ := field_ints Try.underlying70 h 2 _ rfl rfl (by simp; omega)
  obtain ⟨x3, h3, w3⟩ := field_int64 Try.underlying70 h 3 _ rfl rfl (by simp; omega)
  obtain ⟨x4, h4, w4⟩ := field_int Try.underlying70 h 4 _ rfl rfl (by simp; omega)
  exact ⟨⟨x0, x1, xs, x3, x4⟩, ⟨(hat 0 (by omega)).trans h0, w0⟩, ⟨(hat 1 (by omega)).trans h1, w1⟩, ⟨A, c, (hat 2 (by omega)).trans h2, w2⟩, ⟨(hat 3 (by omega)).trans h3, w3⟩, ⟨(hat 4 (by omega)).trans h4, w4⟩⟩
theorem opens_blk : Opens enc Try.prog w base spare held 48 5 RBlk := fun n b o cs y hlen hat h => by
  obtain ⟨n0, z0, hz0⟩ := field_of Try.underlying48 h 0 rfl rfl rfl Try.cells45
  obtain ⟨A0, c0, ps, h0, w0⟩ := slice_field Try.underlying45 Try.cells68 (by omega) opens_phi (by simp; omega) hz0
  obtain ⟨n1, z1, hz1⟩ := field_of Try.underlying48 h 1 rfl rfl rfl Try.cells46
  obtain ⟨A1, c1, is, h1, w1⟩ := slice_field Try.underlying46 Try.cells70 (by omega) opens_ins (by simp; omega) hz1
  obtain ⟨n2, z2, hz2⟩ := field_of Try.underlying48 h 2 rfl rfl rfl Try.cells43
  have hl2 : ((cs.drop 2).take 3).length = 3 := by simp; omega
  obtain ⟨x2, h2, w2⟩ := field_int Try.underlying43 hz2 0 _ rfl rfl (by simp; omega)
  obtain ⟨x3, h3, w3⟩ := field_int Try.underlying43 hz2 1 _ rfl rfl (by simp; omega)
  obtain ⟨A4, c4, xs, h4, w4⟩ := field_ints Try.underlying43 hz2 2 _ rfl rfl (by simp; omega)
  have g (i : Nat) (hi : i < 3) : ((cs.drop 2).take 3)[i]? = cs[2 + i]? := by rw [List.getElem?_take_of_lt hi, List.getElem?_drop]
  exact ⟨⟨ps, is, ⟨x2, x3, xs⟩⟩, ⟨A0, c0, (hat 0 (by omega)).trans h0, w0⟩, ⟨A1, c1, (hat 1 (by omega)).trans h1, w1⟩, ⟨(hat 2 (by omega)).trans ((g 0 (by omega)).symm.trans h2), w2⟩, ⟨(hat 3 (by omega)).trans ((g 1 (by omega)).symm.trans h3), w3⟩, ⟨A4, c4, (hat 4 (by omega)).trans ((g 2 (by omega)).symm.trans h4), w4⟩⟩
theorem opens_fun : Opens enc Try.prog w base spare held 25 4 RFun := fun n b o cs y hlen hat h => by
  obtain ⟨x0, h0, w0⟩ := field_int Try.underlying25 h 0 _ rfl rfl (by simp; omega)
  obtain ⟨x1, h1, w1⟩ := field_int Try.underlying25 h 1 _ rfl rfl (by simp; omega)
  obtain ⟨A2, c2, xs, h2, w2⟩ := field_ints Try.underlying25 h 2 _ rfl rfl (by simp; omega)
  obtain ⟨n3, z3, hz3⟩ := field_of Try.underlying25 h 3 rfl rfl rfl Try.cells23
  obtain ⟨A3, c3, bs, h3, w3⟩ := slice_field Try.underlying23 Try.cells48 (by omega) opens_blk (by simp; omega) hz3
  exact ⟨⟨x0, x1, xs, bs⟩, ⟨(hat 0 (by omega)).trans h0, w0⟩, ⟨(hat 1 (by omega)).trans h1, w1⟩, ⟨A2, c2, (hat 2 (by omega)).trans h2, w2⟩, ⟨A3, c3, (hat 3 (by omega)).trans h3, w3⟩⟩

set_option maxRecDepth 100000 in
/-- A function by value. -/
theorem open_fun {r : Go.Reach} {b0 : Nat} {v : Value} {d : DataW H} {p : List MemPlace} (hv : Value.okWide Try.prog w r b0 25 v) (h : DataW.Trod enc Try.prog w base spare held 25 v d p) : ∃ f, VFun w v f := by
  obtain ⟨cs, rfl, hsz⟩ := okWide_struct Try.underlying25 hv
  rw [Try.cells25] at hsz
  obtain ⟨l⟩ := cs
  match l, hsz with
  | [a, b, c, d], _ =>
    obtain ⟨fuel, hf⟩ := h
    have hf : DataW.trod enc Try.prog w base spare held fuel 25 [a, b, c, d] = some (_, p) := hf
    obtain ⟨x0, h0, w0⟩ := field_int Try.underlying25 hf 0 _ rfl rfl (by simp)
    obtain ⟨x1, h1, w1⟩ := field_int Try.underlying25 hf 1 _ rfl rfl (by simp)
    obtain ⟨A2, c2, xs, h2, w2⟩ := field_ints Try.underlying25 hf 2 _ rfl rfl (by simp)
    obtain ⟨n3, z3, hz3⟩ := field_of Try.underlying25 hf 3 rfl rfl rfl Try.cells23
    obtain ⟨A3, c3, bs, h3, w3⟩ := slice_field Try.underlying23 Try.cells48 (by omega) opens_blk (by simp) hz3
    obtain rfl := Option.some.inj h0
    obtain rfl := Option.some.inj h1
    obtain rfl := Option.some.inj h2
    obtain rfl := Option.some.inj h3
    exact ⟨⟨x0, x1, xs, bs⟩, A2, c2, A3, c3, rfl, w2, w3, w0, w1⟩
set_option maxRecDepth 100000 in
/-- A module by value. -/
theorem open_mod {r : Go.Reach} {b0 : Nat} {v : Value} {d : DataW H} {p : List MemPlace} (hv : Value.okWide Try.prog w r b0 52 v) (h : DataW.Trod enc Try.prog w base spare held 52 v d p) : ∃ m, VMod w v m := by
  obtain ⟨cs, rfl, hsz⟩ := okWide_struct Try.underlying52 hv
  rw [Try.cells52] at hsz
  obtain ⟨l⟩ := cs
  match l, hsz with
  | [a], _ =>
    obtain ⟨fuel, hf⟩ := h
    have hf : DataW.trod enc Try.prog w base spare held fuel 52 [a] = some (_, p) := hf
    obtain ⟨n3, z3, hz3⟩ := field_of Try.underlying52 hf 0 rfl rfl rfl Try.cells50
    obtain ⟨A3, c3, bs, h3, w3⟩ := slice_field Try.underlying50 Try.cells25 (by omega) opens_fun (by simp) hz3
    obtain rfl := Option.some.inj h3
    exact ⟨bs, A3, c3, rfl, w3⟩
end
end Go.Proofs.Ytbhndfknjkeilaa

/- Integers of a row that came in from outside. -/
namespace Go.Proofs.Ytbhndfknjkeilaa
open Go.ChangeShapes Go.WideShapes Go.RowKit Go.Deep
set_option linter.unusedVariables false

section
variable {H : Type} {enc : TypeId × Value → H} {w : World} {base : Nat} {spare : Nat → Bool} {held : Bool}
set_option maxRecDepth 100000 in
theorem open_intsV {r : Go.Reach} {b0 : Nat} {v : Value} {d : DataW H} {p : List MemPlace} (hv : Value.okWide Try.prog w r b0 22 v) (h : DataW.Trod enc Try.prog w base spare held 22 v d p) : ∃ l, VS w 1 RInt v l := by
  obtain ⟨a, len, cap, rfl⟩ := okWide_slice Try.underlying22 hv
  obtain ⟨fuel, hf⟩ := h
  exact open_vs Try.underlying22 Try.cells3 (by omega) opens_int hf
end
end Go.Proofs.Ytbhndfknjkeilaa

/- Which places one can't come by without, the way of Lengauer and Tarjan, in mathematics. No condition. -/
namespace Go.Proofs.Ytbhndfknjkeilaa
set_option linter.unusedVariables false

/-! ### A tree of places, and the edges besides -/
inductive AncP (par : Nat → Nat) (a : Nat) : Nat → Prop
  | refl : AncP par a a
  | step {v : Nat} : 0 < v → AncP par a (par v) → AncP par a v
/-- From z on, so that whatever comes behind it isn't below lo. -/
inductive WayP (E : Nat → Nat → Prop) (z lo : Nat) : Nat → Prop
  | one {v : Nat} : E z v → lo ≤ v → WayP E z lo v
  | step {u v : Nat} : WayP E z lo u → E u v → lo ≤ v → WayP E z lo v
/-- From the first place, without going by d. -/
inductive AvP (E : Nat → Nat → Prop) (d : Nat) : Nat → Prop
  | zero : 0 ≠ d → AvP E d 0
  | step {u v : Nat} : AvP E d u → E u v → v ≠ d → AvP E d v
structure TreeP (n : Nat) (E : Nat → Nat → Prop) (par : Nat → Nat) : Prop where
  lt : ∀ u v, E u v → u < n ∧ v < n
  par_lt : ∀ v, 0 < v → v < n → par v < v
  par_e : ∀ v, 0 < v → v < n → E (par v) v
  up : ∀ u v, E u v → u < v → AncP par u v
  mid : ∀ a b c, AncP par a c → c < n → a ≤ b → b ≤ c → AncP par a b

variable {n : Nat} {E : Nat → Nat → Prop} {par : Nat → Nat}
theorem AncP.trans {a b c : Nat} (h : AncP par a b) (k : AncP par b c) : AncP par a c := by
  induction k with
  | refl => exact h
  | step h0 _ ih => exact .step h0 ih
theorem TreeP.anc_le (T : TreeP n E par) {a c : Nat} (h : AncP par a c) (hc : c < n) : a ≤ c := by
  induction h with
  | refl => exact Nat.le_refl _
  | step h0 _ ih =>
    have := T.par_lt _ h0 hc
    have := ih (by omega)
    omega
theorem TreeP.root (T : TreeP n E par) : ∀ c, c < n → AncP par 0 c := by
  intro c
  induction c using Nat.strongRecOn with
  | _ c ih =>
    intro hc
    by_cases h : c = 0
    · subst h; exact .refl
    · have := T.par_lt c (by omega) hc
      exact .step (by omega) (ih _ this (by omega))
/-- Of two above one the earlier is above the other. -/
theorem TreeP.both (T : TreeP n E par) {a b c : Nat} (h : AncP par a c) (k : AncP par b c) (hc : c < n) (hab : a ≤ b) : AncP par a b := T.mid a b c h hc hab (T.anc_le k hc)
theorem WayP.mono {z lo lo' v : Nat} (h : WayP E z lo v) (hl : lo' ≤ lo) : WayP E z lo' v := by
  induction h with
  | one h1 h2 => exact .one h1 (by omega)
  | step _ h1 h2 ih => exact .step ih h1 (by omega)
theorem WayP.ge {z lo v : Nat} (h : WayP E z lo v) : lo ≤ v := by
  cases h with
  | one _ h => exact h
  | step _ _ h => exact h
theorem TreeP.way_down (T : TreeP n E par) {z lo x u : Nat} (h : WayP E z lo x) (k : AncP par x u) (hu : u < n) : WayP E z lo u := by
  induction k with
  | refl => exact h
  | @step v h0 k ih =>
    have hp := T.par_lt _ h0 hu
    exact .step (ih (by omega)) (T.par_e _ h0 hu) (by have := T.anc_le (.step h0 k) hu; have := h.ge; omega)
theorem TreeP.av_down (T : TreeP n E par) {d x u : Nat} (h : AvP E d x) (k : AncP par x u) (hu : u < n) (hd : d < x) : AvP E d u := by
  induction k with
  | refl => exact h
  | @step v h0 k ih =>
    have hp := T.par_lt _ h0 hu
    exact .step (ih (by omega)) (T.par_e _ h0 hu) (by have := T.anc_le (.step h0 k) hu; omega)
theorem TreeP.av_tree (T : TreeP n E par) {d : Nat} : ∀ u, u < n → ¬ AncP par d u → AvP E d u := by
  intro u
  induction u using Nat.strongRecOn with
  | _ u ih =>
    intro hu hd
    by_cases h : u = 0
    · subst h; exact .zero fun e => hd (e ▸ .refl)
    · have hp := T.par_lt u (by omega) hu
      refine .step (ih _ hp (by omega) fun k => hd (.step (by omega) k)) (T.par_e u (by omega) hu) fun e => hd (e ▸ .refl)
theorem WayP.av {d z lo v : Nat} (h : WayP E z lo v) (hz : AvP E d z) (hd : d < lo) : AvP E d v := by
  induction h with
  | one h1 h2 => exact .step hz h1 (by omega)
  | step _ h1 h2 ih => exact .step ih h1 (by omega)

/-- What leads to w from z by places behind w alone. -/
def ByP (E : Nat → Nat → Prop) (z w : Nat) : Prop := E z w ∨ ∃ u, WayP E z (w + 1) u ∧ E u w
theorem ByP.way {z w lo : Nat} (h : ByP E z w) (hl : lo ≤ w) : WayP E z lo w := by
  rcases h with h | ⟨u, h, k⟩
  · exact .one h hl
  · exact .step (h.mono (by omega)) k hl
theorem TreeP.least (T : TreeP n E par) {z lo v : Nat} (h : WayP E z lo v) : ∃ y, lo ≤ y ∧ AncP par y v ∧ ByP E z y ∧ WayP E z y v := by
  induction h with
  | @one v h1 h2 => exact ⟨v, h2, .refl, .inl h1, .one h1 (Nat.le_refl _)⟩
  | @step u v h1 h2 h3 ih =>
    obtain ⟨y, hy, ha, hb, hw⟩ := ih
    have hlt := T.lt _ _ h2
    by_cases h4 : u < v
    · exact ⟨y, hy, ha.trans (T.up _ _ h2 h4), hb, .step hw h2 (by have := hw.ge; omega)⟩
    · by_cases h5 : y ≤ v
      · exact ⟨y, hy, T.mid _ _ _ ha hlt.1 h5 (by omega), hb, .step hw h2 h5⟩
      · exact ⟨v, h3, .refl, .inr ⟨u, hw.mono (by omega), h2⟩, .step (hw.mono (by omega)) h2 (Nat.le_refl _)⟩

/-! ### The early ones, and the nearest -/
/-- What the early ones are reckoned by. -/
structure EarlyP (L n : Nat) (E : Nat → Nat → Prop) (par s : Nat → Nat) : Prop where
  here : ∀ w u, L ≤ w → E u w → u ≤ w → s w ≤ u
  chain : ∀ w u x, L ≤ w → E u w → AncP par x u → w < x → s w ≤ s x
  found : ∀ w, L ≤ w → w < n → (∃ u, E u w ∧ u < w ∧ s w = u) ∨ ∃ u x, E u w ∧ AncP par x u ∧ w < x ∧ s w = s x
  pos : 0 < L
variable {s : Nat → Nat} {L : Nat}
theorem EarlyP.lt (T : TreeP n E par) (S : EarlyP L n E par s) {w : Nat} (h0 : L ≤ w) (hw : w < n) : s w < w := by
  have hp := S.pos
  have h := S.here w _ h0 (T.par_e w (by omega) hw) (Nat.le_of_lt (T.par_lt w (by omega) hw))
  have := T.par_lt w (by omega) hw
  omega
theorem EarlyP.by (T : TreeP n E par) (S : EarlyP L n E par s) : ∀ (k w : Nat), n - w ≤ k → L ≤ w → w < n → ByP E (s w) w := by
  intro k
  induction k with
  | zero => intro w h1 _ h2; omega
  | succ k ih =>
    intro w hk h0 hw
    rcases S.found w h0 hw with ⟨u, h1, h2, h3⟩ | ⟨u, x, h1, h2, h3, h4⟩
    · rw [h3]; exact .inl h1
    · have hu := (T.lt _ _ h1).1
      have hx := T.anc_le h2 hu
      have := ih x (by omega) (by omega) (by omega)
      rw [h4]
      exact .inr ⟨u, T.way_down (this.way (by omega)) h2 hu, h1⟩
theorem EarlyP.le_by (T : TreeP n E par) (S : EarlyP L n E par s) : ∀ (k w z : Nat), n - w ≤ k → L ≤ w → w < n → ByP E z w → s w ≤ z := by
  intro k
  induction k with
  | zero => intro w z h1 _ h2; omega
  | succ k ih =>
    intro w z hk h0 hw hb
    rcases hb with h | ⟨u, h1, h2⟩
    · by_cases hz : z ≤ w
      · exact S.here w z h0 h hz
      · have h1 := S.chain w z z h0 h .refl (by omega)
        have h2 := S.lt T (w := z) (by omega) (T.lt _ _ h).1
        omega
    · obtain ⟨y, hy, ha, hb, -⟩ := T.least h1
      have hu := (T.lt _ _ h2).1
      have hyu := T.anc_le ha hu
      have h3 := ih y z (by omega) (by omega) (by omega) hb
      have h4 := S.chain w u y h0 h2 ha (by omega)
      omega
/-- An early one is above. -/
theorem EarlyP.anc (T : TreeP n E par) (S : EarlyP L n E par s) {w : Nat} (h0 : L ≤ w) (hw : w < n) : AncP par (s w) w := by
  have hlt := S.lt T h0 hw
  rcases S.by T _ w (Nat.le_refl _) h0 hw with h | ⟨u, h1, h2⟩
  · exact T.up _ _ h hlt
  · have key : ∀ u, WayP E (s w) (w + 1) u → AncP par (s w) u ∧ w < u := by
      intro u h
      induction h with
      | @one v h3 h4 => exact ⟨T.up _ _ h3 (by omega), by omega⟩
      | @step a b h3 h4 h5 ih =>
        refine ⟨?_, by omega⟩
        by_cases h6 : a < b
        · exact ih.1.trans (T.up _ _ h4 h6)
        · exact T.mid _ _ _ ih.1 (T.lt _ _ h4).1 (by omega) (by omega)
    obtain ⟨h3, h4⟩ := key u h1
    exact T.mid _ _ _ h3 (T.lt _ _ h2).1 (by omega) (by omega)

/-- What the nearest are reckoned by. -/
def NearP (n : Nat) (par s D : Nat → Nat) : Prop := ∀ w, 0 < w → w < n → ∃ x, AncP par x w ∧ s w < x ∧ (∀ y, AncP par y w → s w < y → s x ≤ s y) ∧ ((s x = s w ∧ D w = s w) ∨ (s x < s w ∧ x < w ∧ D w = D x))
variable {D : Nat → Nat}
theorem near_le (T : TreeP n E par) (S : EarlyP 1 n E par s) (N : NearP n par s D) : ∀ w, 0 < w → w < n → D w ≤ s w := by
  intro w
  induction w using Nat.strongRecOn with
  | _ w ih =>
    intro h0 hw
    obtain ⟨x, h1, h2, h3, ⟨h4, h5⟩ | ⟨h4, h5, h6⟩⟩ := N w h0 hw
    · omega
    · have := ih x h5 (by omega) (by omega); omega
theorem near_anc (T : TreeP n E par) (S : EarlyP 1 n E par s) (N : NearP n par s D) : ∀ w, 0 < w → w < n → AncP par (D w) w := by
  intro w
  induction w using Nat.strongRecOn with
  | _ w ih =>
    intro h0 hw
    obtain ⟨x, h1, h2, h3, ⟨h4, h5⟩ | ⟨h4, h5, h6⟩⟩ := N w h0 hw
    · rw [h5]; exact S.anc T h0 hw
    · rw [h6]; exact (ih x h5 (by omega) (by omega)).trans h1
theorem av_last {d v : Nat} (h : AvP E d v) : v < d ∨ ∃ z, z < d ∧ AvP E d z ∧ WayP E z (d + 1) v := by
  induction h with
  | zero h => left; omega
  | @step u v h1 h2 h3 ih =>
    rcases Nat.lt_or_ge v d with h | h
    · exact .inl h
    · right
      rcases ih with h4 | ⟨z, h4, h5, h6⟩
      · exact ⟨u, h4, h1, .one h2 (by omega)⟩
      · exact ⟨z, h4, h5, .step h6 h2 (by omega)⟩
/-- One can't come by without the nearest. -/
theorem near_sound (T : TreeP n E par) (S : EarlyP 1 n E par s) (N : NearP n par s D) : ∀ w, 0 < w → w < n → ¬ AvP E (D w) w := by
  intro w
  induction w using Nat.strongRecOn with
  | _ w ih =>
    intro h0 hw hav
    have hDs := near_le T S N w h0 hw
    have hsw := S.lt T h0 hw
    rcases av_last hav with h | ⟨z, hz, hza, hzw⟩
    · omega
    · obtain ⟨y, hy, hay, hby, -⟩ := T.least hzw
      have hyw := T.anc_le hay hw
      have hsy := S.le_by T _ y z (Nat.le_refl _) (by omega) (by omega) hby
      have hyav : AvP E (D w) y := (hby.way (lo := D w + 1) hy).av hza (by omega)
      obtain ⟨x, h1, h2, h3, ⟨h4, h5⟩ | ⟨h4, h5, h6⟩⟩ := N w h0 hw
      · have := h3 y hay (by omega); omega
      · have hDx := near_le T S N x (by omega) (by omega)
        by_cases hys : s w < y
        · have := h3 y hay hys; omega
        · have hyx : AncP par y x := T.both hay h1 hw (by omega)
          exact ih x h5 (by omega) (by omega) (h6 ▸ T.av_down hyav hyx (by omega) (by omega))
/-- One can come by without what lies between. -/
theorem near_full (T : TreeP n E par) (S : EarlyP 1 n E par s) (N : NearP n par s D) : ∀ w, 0 < w → w < n → ∀ v, D w < v → v < w → AvP E v w := by
  intro w
  induction w using Nat.strongRecOn with
  | _ w ih =>
    intro h0 hw v hv hvw
    have hsw := S.lt T h0 hw
    have hs : s w < v → AvP E v w := fun h => by
      have h1 : AvP E v (s w) := T.av_tree _ (by omega) fun k => by have := T.anc_le k (by omega); omega
      rcases S.by T _ w (Nat.le_refl _) h0 hw with h2 | ⟨u, h2, h3⟩
      · exact .step h1 h2 (by omega)
      · exact .step (h2.av h1 (by omega)) h3 (by omega)
    obtain ⟨x, h1, h2, h3, ⟨h4, h5⟩ | ⟨h4, h5, h6⟩⟩ := N w h0 hw
    · exact hs (by omega)
    · by_cases hx : v < x
      · exact T.av_down (ih x h5 (by omega) (by omega) v (by omega) hx) h1 hw hx
      · exact hs (by omega)

/-! ### Which dominate which -/
theorem av_self {d : Nat} : ∀ {v}, AvP E d v → v ≠ d := by
  intro v h
  cases h with
  | zero h => exact h
  | step _ _ h => exact h
theorem av_split {a b v : Nat} (h : AvP E a v) : AvP E b v ∨ AvP E a b := by
  induction h with
  | zero h =>
    by_cases e : 0 = b
    · right; rw [← e]; exact .zero h
    · exact .inl (.zero e)
  | @step u v h1 h2 h3 ih =>
    rcases ih with h4 | h4
    · by_cases e : v = b
      · right; rw [← e]; exact .step h1 h2 h3
      · exact .inl (.step h4 h2 e)
    · exact .inr h4
theorem dom_trans {a b c : Nat} (h : ¬ AvP E a b) (k : ¬ AvP E b c) : ¬ AvP E a c := fun h2 => by
  rcases av_split (b := b) h2 with h3 | h3
  · exact k h3
  · exact h h3
theorem dom_le (T : TreeP n E par) {a b : Nat} (hb : b < n) (h : ¬ AvP E a b) : a ≤ b := by
  apply Classical.byContradiction
  intro h2
  exact h (T.av_tree b hb fun k => by have := T.anc_le k hb; omega)
theorem dom_near (T : TreeP n E par) (S : EarlyP 1 n E par s) (N : NearP n par s D) {a w : Nat} (h0 : 0 < w) (hw : w < n) (h : ¬ AvP E a w) (hne : a ≠ w) : ¬ AvP E a (D w) := by
  have hle := dom_le T hw h
  have hDw := near_anc T S N w h0 hw
  have hDl := T.anc_le hDw hw
  have h2 : a ≤ D w := by
    apply Classical.byContradiction
    intro h3
    exact h (near_full T S N w h0 hw a (by omega) (by omega))
  intro h3
  have := av_self h3
  exact h (T.av_down h3 hDw hw (by omega))
end Go.Proofs.Ytbhndfknjkeilaa
