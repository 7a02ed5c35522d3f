/- The walk of DequePlays. -/
import Derived.Test.YtacadgocoleaoaaPlTJ
import Derived.Deep.DeepCutAuto
namespace Go.Proofs.Ytacadgocoleaoaa
open Go.ChangeShapes Go.WideShapes Go.RowKit Go.Deep
set_option linter.unusedVariables false
set_option linter.unusedSimpArgs false

theorem run_neq_iface_intQ {P : Program} (w : World) {ti tn : TypeId} {ms : Array (String × TypeId)} {i : TypeInfo} {k : IntKind} (a b : Int)
    (hi : P.underlying ti = some (.interface ms)) (hn : P.underlying tn = some (.int k)) (hinfo : P.info? tn = some i) (hcomp : i.comparable = true) :
    (binOp .neq ti (.iface tn (.int k a)) (.iface tn (.int k b))).run P w = .ok (.bool (!(a == b))) w := by
  simp only [binOp]
  simp [Op.equal, Op.maxDepth, run_equalIn_iface_int w 9998 a b hi hn hinfo hcomp]
theorem OwS.none_free {lq : List (Nat × OpS)} (h : OwS lq none) : FreeL (lq.map Prod.snd) := by
  intro o ho
  obtain ⟨x, hx, rfl⟩ := List.mem_map.1 ho
  by_cases c : x.2.kind = 3
  · exact c
  · have := (h x.1).2 ⟨x.2, hx, c⟩
    cases this
theorem neqErrQ (x y : Int) (w : World) : (binOp .neq 39 (.iface 45 (.int .i64 x)) (.iface 45 (.int .i64 y))).run Try.prog w = .ok (.bool (!(x == y))) w :=
  run_neq_iface_intQ w x y Try.underlying39 Try.underlying45 codeInfo codeComp
set_option maxRecDepth 100000 in
set_option maxHeartbeats 8000000 in
theorem dequePlays_walk (m0 : List DeedD) (v0 : Value) (W : World) (hm : VS W 3 RDeed v0 m0) : Calls Try.prog 3 #[v0] W fun e w' => e = .returned (.bool true) ∧ Below W.heap.size W w' := by
  obtain ⟨A, c, rfl, hsl⟩ := hm
  have hlen := hsl.len
  obtain ⟨iP, hu, hz0, hz1, hz2⟩ := info_parts infoPair
  have HU := Lib.hid (And.intro hu (And.intro hz0 (And.intro hz1 hz2)))
  clear hu hz0 hz1 hz2
  have heq1 : ∀ u, (binOp .eql 39 (.iface 45 (.int .i64 1)) (.iface 45 (.int .i64 1))).run Try.prog u = .ok (.bool true) u := fun u => eqlErr 1 1 u
  have hne1 : ∀ u, (binOp .neq 39 (.iface 45 (.int .i64 1)) (.iface 45 (.int .i64 1))).run Try.prog u = .ok (.bool false) u := fun u => neqErrQ 1 1 u
  have hne7 : ∀ u, (binOp .neq 39 (.iface 45 (.int .i64 7)) (.iface 45 (.int .i64 7))).run Try.prog u = .ok (.bool false) u := fun u => neqErrQ 7 7 u
  have HS := Lib.hid hsl
  obtain ⟨k0, hk0⟩ : ∃ k0, m0.length = k0 := ⟨_, rfl⟩
  rw [hk0] at hlen ⊢
  have HK0 := Lib.hid hk0
  clear hsl hk0
  go_enter Try.func3, Try.ntmps3
  go_wp2_with fail
  refine (up11_any W).mono ?_
  rintro e w1 ⟨rfl, hb1⟩
  have HB1 := Lib.hid hb1
  clear hb1
  go_wp2_with fail
  refine (new_any w1).mono ?_
  rintro e w2 ⟨rfl, hD2, hb2⟩
  have HB2 : Hid (Below W.heap.size W w2) := Lib.hid (HB1.out.trans (hb2.mono HB1.out.size))
  have HWD : Hid (W.heap.size ≤ w1.heap.size) := Lib.hid HB1.out.size
  have HDE : Hid (w1.heap.size < w2.heap.size) := Lib.hid hD2.lt
  have HD2 := Lib.hid hD2
  clear hD2 hb2
  generalize w1.heap.size = D at *
  go_wp2_with fail
  refine (new_any w2).mono ?_
  rintro e w3 ⟨rfl, hE3, hb3⟩
  have HB3 : Hid (Below W.heap.size W w3) := Lib.hid (HB2.out.trans (hb3.mono HB2.out.size))
  have HD3 : Hid (DeqB w3 D zeroQ (ovV none)) := Lib.hid (HD2.out.go (hb3.block D HDE.out))
  have HEC : Hid (w2.heap.size < w3.heap.size) := Lib.hid hE3.lt
  have HE3 := Lib.hid hE3
  clear hE3 hb3
  generalize w2.heap.size = E at *
  go_wp2_with fail
  refine (refNew w3).mono ?_
  rintro e w4 ⟨rfl, hM4, hb4⟩
  have HB4 : Hid (Below W.heap.size W w4) := Lib.hid (HB3.out.trans (hb4.mono HB3.out.size))
  have HD4 : Hid (DeqB w4 D zeroQ (ovV none)) := Lib.hid (HD3.out.go (hb4.block D HD3.out.lt))
  have HE4 : Hid (DeqB w4 E zeroQ (ovV none)) := Lib.hid (HE3.out.go (hb4.block E HE3.out.lt))
  have HM4 := Lib.hid hM4
  clear hM4 hb4
  generalize w3.heap.size = C at *
  have H0 : Hid (PlT W D E (C + 1) C 0 [] (.slice none 0 0) w4) := Lib.hid ⟨⟨⟨zeroQ, none, OnL.start HD4.out, DP.start _, HM4.out⟩, fun z hz => (by cases hz), ⟨_, HE4.out⟩, ⟨HDE.out, HEC.out, Nat.lt_succ_self _⟩, fun z hz => (by cases hz), fun z hz => (by cases hz), fun a b x y h => (by cases h), HB4.out, HWD.out⟩, by simp, World.ownsRow_nil _ _ _ _, fun g h => (by cases h)⟩
  have HCM : Hid (C + 1 = C + 1) := Lib.hid rfl
  generalize hMM : C + 1 = M at *
  clear hMM HCM
  go_wp2_with fail
  go_loopw [7, 8] (fun s7 s8 wr => ∃ (i : Nat) (l : List Tr) (vl : Value), vl = s7 ∧ s8 = .int .i64 (i : Int) ∧ i ≤ 400 ∧ Hid (PlT W D E M C i l vl wr)) (fun _ s8 _ => 400 - (intOf s8).toNat)
  case atStart => exact ⟨0, [], _, rfl, rfl, Nat.zero_le _, H0⟩
  case round =>
    obtain ⟨i, l, vl, rfl, rfl, hi4, HT⟩ := hrel
    obtain ⟨A1, c1, hA1⟩ := own_sliceL HT.out.rl
    subst hA1
    obtain ⟨ll, hll⟩ : ∃ ll, l.length = ll := ⟨_, rfl⟩
    rw [hll] at HT ⊢
    have hl6 : ll ≤ 6 := by rw [← hll]; exact HT.out.few
    have HLL := Lib.hid hll
    have hiI4 : (i : Int) ≤ 400 := by omega
    clear hll
    by_cases hend : i < k0 ∧ i < 400
    · have hiI1 : (i : Int) < k0 := by omega
      have hiI2 : (i : Int) < 400 := by omega
      have hi3 : i + 1 ≤ 400 := hend.2
      obtain ⟨b0, o0, d, hA, hd, hd1, hd2, hd3⟩ := HS.out.at_ (k := i) (by have := HK0.out; omega)
      subst hA
      obtain ⟨y1, z1⟩ := hd1
      obtain ⟨y2, z2⟩ := hd2
      obtain ⟨y3, z3⟩ := hd3
      have hb0 : b0 < W.heap.size := block_lt_of_cell y1
      have x1 : wr.cell? ⟨b0, o0 + i * 3, none⟩ = some (.int .i64 d.what) := (World.cell?_of_block (HT.out.core.bel.block b0 hb0)).trans y1
      have x2 : wr.cell? ⟨b0, o0 + i * 3 + 1, none⟩ = some (.int .i64 d.v) := (World.cell?_of_block (HT.out.core.bel.block b0 hb0)).trans y2
      have x3 : wr.cell? ⟨b0, o0 + i * 3 + 2, none⟩ = some (.int .i64 d.n) := (World.cell?_of_block (HT.out.core.bel.block b0 hb0)).trans y3
      clear y1 y2 y3 hend hd
      go_upto_region 12 with fail
      obtain ⟨wX, hwX⟩ : ∃ wX, wX = wr.alloc (Obj.cells #[.int .i64 d.what, .int .i64 d.v, .int .i64 d.n] 30) := ⟨_, rfl⟩
      rw [← hwX]
      have hXA : wX.heap[wr.heap.size]? = some (.cells #[.int .i64 d.what, .int .i64 d.v, .int .i64 d.n] 30 (0, 0)) := by rw [hwX]; exact heap_alloc_new _ _
      have hBA : Below wr.heap.size wr wX := by rw [hwX]; exact (Below.refl _ _).alloc (Nat.le_refl _) _
      have HTX : Hid (PlT W D E M C i l (.slice A1 ll c1) wX) := Lib.hid (HT.out.bw hBA)
      generalize hXX : wr.heap.size = X at *
      have q0 : wX.cell? ⟨X, 0, none⟩ = some (.int .i64 d.what) := cell_of_block hXA 0
      have q1 : wX.cell? ⟨X, 1, none⟩ = some (.int .i64 d.v) := cell_of_block hXA 1
      have q2 : wX.cell? ⟨X, 2, none⟩ = some (.int .i64 d.n) := cell_of_block hXA 2
      have HXA := Lib.hid hXA
      clear hwX hXA hBA hXX x1 x2 x3 hb0
      go_wp2_with fail
      refine (pick11 d.what z1 6 (by omega) (by omega) wX).mono ?_
      rintro e w5 ⟨rfl, hw5⟩
      obtain rfl := hw5.symm
      clear hw5
      obtain ⟨κ, hκ⟩ : ∃ κ, pickQ d.what 6 = κ := ⟨_, rfl⟩
      rw [hκ]
      clear hκ
      by_cases k3 : κ < 3
      · have k3I : (κ : Int) < 3 := by omega
        by_cases hfull : 6 ≤ ll
        · have hfI : (6 : Int) ≤ ll := by omega
          have HTS := Lib.hid HTX.out.skip
          clear hfull
          go_wp2_with fail
          go_roundw
          case rel => exact ⟨i + 1, l, _, rfl, by go_num, hi3, HTS⟩
          case measure => simp [intOf]; omega
        · have hfI : ¬ (6 : Int) ≤ ll := by omega
          have HFU : Hid (ll < 6) := Lib.hid (by omega)
          clear hfull
          obtain ⟨s0, ow0, hOn, hDP, hRS⟩ := HTX.out.core.on
          have HON := Lib.hid hOn
          have HDP := Lib.hid hDP
          have HRS := Lib.hid hRS
          clear hOn hDP hRS
          rcases (show κ = 2 ∨ κ = 0 ∨ κ = 1 by omega) with rfl | rfl | rfl
          · go_wp2_with fail
            refine (begun_steal D M d.v wX).mono ?_
            rintro e w6 ⟨p, r, rfl, hO6, hr6, hb6, hp, hr, hpr⟩
            have hlt := HTX.out.core.lt
            have hsp := HTX.out.core.sp
            have HC6 : Hid (PlC W w6 D E M C i (l ++ [⟨p, r, opB 3 0⟩])) := Lib.hid (HTX.out.core.one (HON.out.steal hO6 hb6 hp) HDP.out.steal ⟨HRS.out.d.go (hb6.block _ hlt.1) (hb6.block _ (by omega))⟩ hr6 (fun _ => rfl) (frx_of hb6) hp hr hpr)
            have HF6 : Hid (FrX (fun y => y = D ∨ y = M) wX w6) := Lib.hid (frx_of hb6)
            have HPP := Lib.hid (And.intro hp hr)
            clear hO6 hr6 hb6 hp hr hpr hlt hsp
            have HR6 : Hid (w6.ownsRow (M + 1) 35 2 (.slice A1 ll c1) ll (cellsP l)) := Lib.hid (by
              have h1 := HTX.out.rl
              rw [HLL.out] at h1
              have hsp := HTX.out.core.sp
              exact ownsRow_block h1 fun g hg => HF6.out.block g (h1.lt g hg).2 (fun e => by have := (h1.lt g hg).1; omega))
            unfold pairV
            go_upto_region 19 with fail
            obtain ⟨wY, hwY⟩ : ∃ wY, wY = w6.alloc (Obj.cells #[.pointer (some ⟨p, 0, none⟩), .pointer (some ⟨r, 0, none⟩)] 35) := ⟨_, rfl⟩
            rw [← hwY]
            have hYA : wY.heap[w6.heap.size]? = some (.cells #[.pointer (some ⟨p, 0, none⟩), .pointer (some ⟨r, 0, none⟩)] 35 (0, 0)) := by rw [hwY]; exact heap_alloc_new _ _
            have hYB : Below w6.heap.size w6 wY := by rw [hwY]; exact (Below.refl _ _).alloc (Nat.le_refl _) _
            have HCY := Lib.hid (HC6.out.go hYB)
            have HRY := Lib.hid (ownsRow_block HR6.out fun g hg => hYB.block g (HR6.out.lt g hg).2)
            generalize w6.heap.size = Y at *
            have v0 : wY.cell? ⟨Y, 0, none⟩ = some (.pointer (some ⟨p, 0, none⟩)) := cell_of_block hYA 0
            have v1 : wY.cell? ⟨Y, 1, none⟩ = some (.pointer (some ⟨r, 0, none⟩)) := cell_of_block hYA 1
            clear hwY hYA hYB
            go_wp2_with (at_builtin; refine wpList_append_lies _ rfl (.tmp 75) (.tmp 77) 28 rfl (M + 1) 35 iP (.agg #[.pointer none, .pointer none]) 2 16 Try.underlying28 HU.out.1 HU.out.2.1 HU.out.2.2.1 HU.out.2.2.2 rfl (by decide) _ _ _ rfl (HRY.out.alloc _) ⟨wY.heap.size, 0, none⟩ 1 1 [.pointer (some ⟨p, 0, none⟩), .pointer (some ⟨r, 0, none⟩)] rfl rfl ?e1 ?e2 (by decide) ?e3 ?e4 ?e5 (wY.heap.size + 1) ?e6 ?_)
            case e1 =>
              intro j u hj
              have hnb := heap_alloc_new wY (Obj.cells #[.pointer (some ⟨p, 0, none⟩), .pointer (some ⟨r, 0, none⟩)] 35)
              rw [addr_add, Nat.zero_add, cell_of_block hnb j]
              simpa using hj
            case e2 =>
              intro u hu
              simp only [List.mem_cons, List.not_mem_nil, or_false] at hu
              rcases hu with rfl | rfl <;> rfl
            case e3 => unfold maxLen; omega
            case e4 => omega
            case e5 => have := HCY.out.lt.1; simp; omega
            case e6 => simp
            intro g cap w7 hown7 hgrow7 hloc7 hlt7
            have HT7 : Hid (PlT W D E M C (i + 1) (l ++ [⟨p, r, opB 3 0⟩]) (.slice (some ⟨g, 0, none⟩) (ll + 1) cap) w7) := Lib.hid (by
              refine PlT.app HTX.out (HCY.out.go ((Below.refl _ _).alloc (Nat.le_refl _) _)) (by rw [HLL.out]; exact HFU.out) HPP.out.1 HPP.out.2 hgrow7 ?_ (fun g' hg' => ?_)
              · rw [HLL.out, cellsP_append]
                exact hown7
              · have hg' : some g = some g' := hg'
                injection hg' with hg'
                subst hg'
                rcases hloc7 with h1 | h1
                · exact .inl h1
                · exact .inr (by rw [h1]; simp))
            clear hown7 hgrow7 hloc7 hlt7
            go_wp2_with fail
            go_roundw
            case rel => exact ⟨i + 1, _, _, rfl, by go_num, hi3, HT7⟩
            case measure => simp [intOf]; omega
          · have hsp := HTX.out.core.sp
            cases ow0 with
            | none =>
              have HBG := Lib.hid (begun_own0 (v := d.v) HON.out.deq HRS.out (show D ≠ M by omega) (show D ≠ C by omega) (show M ≠ C by omega))
              have hff := HON.out.ow.none_free
              rw [prs_snd] at hff
              have HFF := Lib.hid hff
              clear hff hsp
              go_wp2_with fail
              refine HBG.out.mono ?_
              rintro e w6 ⟨p, r, rfl, hO6, hr6, hD6, hM6, hF6, hp, hr, hpr⟩
              have HC6 : Hid (PlC W w6 D E M C i (l ++ [⟨p, r, opB 1 d.v⟩])) := Lib.hid (HTX.out.core.one (HON.out.begin2 hD6 hO6 (fun x hx => hF6.block _ (HON.out.lt x hx) (fun q => by
                have h4 := HON.out.ne x hx
                obtain ⟨y, hy, rfl⟩ := mem_prs hx
                have h5 := (HTX.out.core.gt y hy).1
                have h6 := HTX.out.core.sp
                rcases q with q | q
                · exact h4 q
                · have q : y.p = M := q
                  omega)) hp (by decide)) (HDP.out.begin_ HFF.out 1 (by decide) _) hM6 hr6 (fun _ => rfl) hF6 hp hr hpr)
              have HF6 := Lib.hid hF6
              have HPP := Lib.hid (And.intro hp hr)
              clear hO6 hr6 hD6 hM6 hF6 hp hr hpr HBG
              have HR6 : Hid (w6.ownsRow (M + 1) 35 2 (.slice A1 ll c1) ll (cellsP l)) := Lib.hid (by
                have h1 := HTX.out.rl
                rw [HLL.out] at h1
                have hsp := HTX.out.core.sp
                exact ownsRow_block h1 fun g hg => HF6.out.block g (h1.lt g hg).2 (fun e => by have := (h1.lt g hg).1; omega))
              unfold pairV
              go_upto_region 19 with fail
              obtain ⟨wY, hwY⟩ : ∃ wY, wY = w6.alloc (Obj.cells #[.pointer (some ⟨p, 0, none⟩), .pointer (some ⟨r, 0, none⟩)] 35) := ⟨_, rfl⟩
              rw [← hwY]
              have hYA : wY.heap[w6.heap.size]? = some (.cells #[.pointer (some ⟨p, 0, none⟩), .pointer (some ⟨r, 0, none⟩)] 35 (0, 0)) := by rw [hwY]; exact heap_alloc_new _ _
              have hYB : Below w6.heap.size w6 wY := by rw [hwY]; exact (Below.refl _ _).alloc (Nat.le_refl _) _
              have HCY := Lib.hid (HC6.out.go hYB)
              have HRY := Lib.hid (ownsRow_block HR6.out fun g hg => hYB.block g (HR6.out.lt g hg).2)
              generalize w6.heap.size = Y at *
              have v0 : wY.cell? ⟨Y, 0, none⟩ = some (.pointer (some ⟨p, 0, none⟩)) := cell_of_block hYA 0
              have v1 : wY.cell? ⟨Y, 1, none⟩ = some (.pointer (some ⟨r, 0, none⟩)) := cell_of_block hYA 1
              clear hwY hYA hYB
              go_wp2_with (at_builtin; refine wpList_append_lies _ rfl (.tmp 75) (.tmp 77) 28 rfl (M + 1) 35 iP (.agg #[.pointer none, .pointer none]) 2 16 Try.underlying28 HU.out.1 HU.out.2.1 HU.out.2.2.1 HU.out.2.2.2 rfl (by decide) _ _ _ rfl (HRY.out.alloc _) ⟨wY.heap.size, 0, none⟩ 1 1 [.pointer (some ⟨p, 0, none⟩), .pointer (some ⟨r, 0, none⟩)] rfl rfl ?e1 ?e2 (by decide) ?e3 ?e4 ?e5 (wY.heap.size + 1) ?e6 ?_)
              case e1 =>
                intro j u hj
                have hnb := heap_alloc_new wY (Obj.cells #[.pointer (some ⟨p, 0, none⟩), .pointer (some ⟨r, 0, none⟩)] 35)
                rw [addr_add, Nat.zero_add, cell_of_block hnb j]
                simpa using hj
              case e2 =>
                intro u hu
                simp only [List.mem_cons, List.not_mem_nil, or_false] at hu
                rcases hu with rfl | rfl <;> rfl
              case e3 => unfold maxLen; omega
              case e4 => omega
              case e5 => have := HCY.out.lt.1; simp; omega
              case e6 => simp
              intro g cap w7 hown7 hgrow7 hloc7 hlt7
              have HT7 : Hid (PlT W D E M C (i + 1) (l ++ [⟨p, r, opB 1 d.v⟩]) (.slice (some ⟨g, 0, none⟩) (ll + 1) cap) w7) := Lib.hid (by
                refine PlT.app HTX.out (HCY.out.go ((Below.refl _ _).alloc (Nat.le_refl _) _)) (by rw [HLL.out]; exact HFU.out) HPP.out.1 HPP.out.2 hgrow7 ?_ (fun g' hg' => ?_)
                · rw [HLL.out, cellsP_append]
                  exact hown7
                · have hg' : some g = some g' := hg'
                  injection hg' with hg'
                  subst hg'
                  rcases hloc7 with h1 | h1
                  · exact .inl h1
                  · exact .inr (by rw [h1]; simp))
              clear hown7 hgrow7 hloc7 hlt7
              go_wp2_with fail
              go_roundw
              case rel => exact ⟨i + 1, _, _, rfl, by go_num, hi3, HT7⟩
              case measure => simp [intOf]; omega
            | some q =>
              have HBG := Lib.hid (begun_busy0 (v := d.v) HON.out.deq HRS.out)
              clear hsp
              go_wp2_with fail
              refine HBG.out.mono ?_
              rintro e w6 ⟨rfl, hb6⟩
              have HT6 := Lib.hid (HTX.out.bw hb6)
              clear hb6 HBG
              go_upto_region 16 with fail
              have HT7 := Lib.hid ((HT6.out.bw ((Below.refl _ _).alloc (Nat.le_refl _) (Obj.cells #[.pointer none, .pointer none] 35))).skip)
              go_wp2_with fail
              go_roundw
              case rel => exact ⟨i + 1, l, _, rfl, by go_num, hi3, HT7⟩
              case measure => simp [intOf]; omega
          · have hsp := HTX.out.core.sp
            cases ow0 with
            | none =>
              have HBG := Lib.hid (begun_own1 (v := d.v) HON.out.deq HRS.out (show D ≠ M by omega) (show D ≠ C by omega) (show M ≠ C by omega))
              have hff := HON.out.ow.none_free
              rw [prs_snd] at hff
              have HFF := Lib.hid hff
              clear hff hsp
              go_wp2_with fail
              refine HBG.out.mono ?_
              rintro e w6 ⟨p, r, rfl, hO6, hr6, hD6, hM6, hF6, hp, hr, hpr⟩
              have HC6 : Hid (PlC W w6 D E M C i (l ++ [⟨p, r, opB 2 0⟩])) := Lib.hid (HTX.out.core.one (HON.out.begin2 hD6 hO6 (fun x hx => hF6.block _ (HON.out.lt x hx) (fun q => by
                have h4 := HON.out.ne x hx
                obtain ⟨y, hy, rfl⟩ := mem_prs hx
                have h5 := (HTX.out.core.gt y hy).1
                have h6 := HTX.out.core.sp
                rcases q with q | q
                · exact h4 q
                · have q : y.p = M := q
                  omega)) hp (by decide)) (HDP.out.begin_ HFF.out 2 (by decide) _) hM6 hr6 (fun q => by rcases q with q | ⟨q, -⟩ <;> cases q) hF6 hp hr hpr)
              have HF6 := Lib.hid hF6
              have HPP := Lib.hid (And.intro hp hr)
              clear hO6 hr6 hD6 hM6 hF6 hp hr hpr HBG
              have HR6 : Hid (w6.ownsRow (M + 1) 35 2 (.slice A1 ll c1) ll (cellsP l)) := Lib.hid (by
                have h1 := HTX.out.rl
                rw [HLL.out] at h1
                have hsp := HTX.out.core.sp
                exact ownsRow_block h1 fun g hg => HF6.out.block g (h1.lt g hg).2 (fun e => by have := (h1.lt g hg).1; omega))
              unfold pairV
              go_upto_region 19 with fail
              obtain ⟨wY, hwY⟩ : ∃ wY, wY = w6.alloc (Obj.cells #[.pointer (some ⟨p, 0, none⟩), .pointer (some ⟨r, 0, none⟩)] 35) := ⟨_, rfl⟩
              rw [← hwY]
              have hYA : wY.heap[w6.heap.size]? = some (.cells #[.pointer (some ⟨p, 0, none⟩), .pointer (some ⟨r, 0, none⟩)] 35 (0, 0)) := by rw [hwY]; exact heap_alloc_new _ _
              have hYB : Below w6.heap.size w6 wY := by rw [hwY]; exact (Below.refl _ _).alloc (Nat.le_refl _) _
              have HCY := Lib.hid (HC6.out.go hYB)
              have HRY := Lib.hid (ownsRow_block HR6.out fun g hg => hYB.block g (HR6.out.lt g hg).2)
              generalize w6.heap.size = Y at *
              have v0 : wY.cell? ⟨Y, 0, none⟩ = some (.pointer (some ⟨p, 0, none⟩)) := cell_of_block hYA 0
              have v1 : wY.cell? ⟨Y, 1, none⟩ = some (.pointer (some ⟨r, 0, none⟩)) := cell_of_block hYA 1
              clear hwY hYA hYB
              go_wp2_with (at_builtin; refine wpList_append_lies _ rfl (.tmp 75) (.tmp 77) 28 rfl (M + 1) 35 iP (.agg #[.pointer none, .pointer none]) 2 16 Try.underlying28 HU.out.1 HU.out.2.1 HU.out.2.2.1 HU.out.2.2.2 rfl (by decide) _ _ _ rfl (HRY.out.alloc _) ⟨wY.heap.size, 0, none⟩ 1 1 [.pointer (some ⟨p, 0, none⟩), .pointer (some ⟨r, 0, none⟩)] rfl rfl ?e1 ?e2 (by decide) ?e3 ?e4 ?e5 (wY.heap.size + 1) ?e6 ?_)
              case e1 =>
                intro j u hj
                have hnb := heap_alloc_new wY (Obj.cells #[.pointer (some ⟨p, 0, none⟩), .pointer (some ⟨r, 0, none⟩)] 35)
                rw [addr_add, Nat.zero_add, cell_of_block hnb j]
                simpa using hj
              case e2 =>
                intro u hu
                simp only [List.mem_cons, List.not_mem_nil, or_false] at hu
                rcases hu with rfl | rfl <;> rfl
              case e3 => unfold maxLen; omega
              case e4 => omega
              case e5 => have := HCY.out.lt.1; simp; omega
              case e6 => simp
              intro g cap w7 hown7 hgrow7 hloc7 hlt7
              have HT7 : Hid (PlT W D E M C (i + 1) (l ++ [⟨p, r, opB 2 0⟩]) (.slice (some ⟨g, 0, none⟩) (ll + 1) cap) w7) := Lib.hid (by
                refine PlT.app HTX.out (HCY.out.go ((Below.refl _ _).alloc (Nat.le_refl _) _)) (by rw [HLL.out]; exact HFU.out) HPP.out.1 HPP.out.2 hgrow7 ?_ (fun g' hg' => ?_)
                · rw [HLL.out, cellsP_append]
                  exact hown7
                · have hg' : some g = some g' := hg'
                  injection hg' with hg'
                  subst hg'
                  rcases hloc7 with h1 | h1
                  · exact .inl h1
                  · exact .inr (by rw [h1]; simp))
              clear hown7 hgrow7 hloc7 hlt7
              go_wp2_with fail
              go_roundw
              case rel => exact ⟨i + 1, _, _, rfl, by go_num, hi3, HT7⟩
              case measure => simp [intOf]; omega
            | some q =>
              have HBG := Lib.hid (begun_busy1 (v := d.v) HON.out.deq HRS.out)
              clear hsp
              go_wp2_with fail
              refine HBG.out.mono ?_
              rintro e w6 ⟨rfl, hb6⟩
              have HT6 := Lib.hid (HTX.out.bw hb6)
              clear hb6 HBG
              go_upto_region 16 with fail
              have HT7 := Lib.hid ((HT6.out.bw ((Below.refl _ _).alloc (Nat.le_refl _) (Obj.cells #[.pointer none, .pointer none] 35))).skip)
              go_wp2_with fail
              go_roundw
              case rel => exact ⟨i + 1, l, _, rfl, by go_num, hi3, HT7⟩
              case measure => simp [intOf]; omega
      · have k3I : ¬ (κ : Int) < 3 := by omega
        by_cases hl0 : ll = 0
        · have hle : ((ll : Int) == 0) = true := by rw [hl0]; rfl
          have HTS := Lib.hid HTX.out.skip
          clear hl0
          go_wp2_with fail
          go_roundw
          case rel => exact ⟨i + 1, l, _, rfl, by go_num, hi3, HTS⟩
          case measure => simp [intOf]; omega
        · have hle : ((ll : Int) == 0) = false := by simp; omega
          have HL0 := Lib.hid hl0
          clear hl0
          go_upto_region 21 with fail
          go_wp2_with fail
          refine (pick11 d.n z3 ll (by have := HL0.out; omega) (by omega) wX).mono ?_
          rintro e w5 ⟨rfl, hw5⟩
          obtain rfl := hw5.symm
          clear hw5
          obtain ⟨idx, hix⟩ : ∃ idx, pickQ d.n ll = idx := ⟨_, rfl⟩
          have hidx : idx < ll := by rw [← hix]; exact pickQ_lt _ (by have := HL0.out; omega)
          rw [hix]
          clear hix
          obtain ⟨z, hz⟩ : ∃ z, l[idx]? = some z := ⟨l[idx]'(by have := HLL.out; omega), List.getElem?_eq_getElem _⟩
          obtain ⟨gl, cap, hA, hcs⟩ := own_elem HTX.out.rl (by omega) (i := idx) (by have := HLL.out; omega)
          injection hA with hA1 hA2 hA3
          subst hA1 hA3
          have y0 := hcs 0 (by omega)
          have y1 := hcs 1 (by omega)
          rw [Nat.add_zero, (cellsP_at hz).1] at y0
          rw [(cellsP_at hz).2] at y1
          have hidI : (idx : Int) < ll := by omega
          have hnc1 : ll ≤ c1 := by
            have h1 := HTX.out.rl
            rcases h1.2 with ⟨e, e2⟩ | ⟨g', cap', cur', e, -, -, h3, -⟩
            · cases e
            · injection e with _ _ e3
              have := HLL.out
              omega
          have hjc : idx ≤ c1 := by omega
          have HN := Lib.hid hz
          clear hcs hA2 hz
          go_upto_region 23 with fail
          obtain ⟨wZ, hwZ⟩ : ∃ wZ, wZ = wX.alloc (Obj.cells #[.pointer (some ⟨z.p, 0, none⟩), .pointer (some ⟨z.r, 0, none⟩)] 35) := ⟨_, rfl⟩
          rw [← hwZ]
          have hZB : wZ.heap[wX.heap.size]? = some (.cells #[.pointer (some ⟨z.p, 0, none⟩), .pointer (some ⟨z.r, 0, none⟩)] 35 (0, 0)) := by rw [hwZ]; exact heap_alloc_new _ _
          have hZW : Below wX.heap.size wX wZ := by rw [hwZ]; exact (Below.refl _ _).alloc (Nat.le_refl _) _
          have HTZ := Lib.hid (HTX.out.bw hZW)
          have hltx := HTX.out.core.lt
          have hltx2 := hltx.2 z (List.mem_of_getElem? HN.out)
          have hsp := HTX.out.core.sp
          have HZF : Hid (wX.heap.size < wZ.heap.size ∧ (wX.heap.size ≠ D ∧ wX.heap.size ≠ E ∧ wX.heap.size ≠ M ∧ wX.heap.size ≠ C ∧ wX.heap.size ≠ z.p ∧ wX.heap.size ≠ z.r)) := Lib.hid ⟨(Array.getElem?_eq_some_iff.1 hZB).1, by omega, by omega, by omega, by omega, by omega, by omega⟩
          generalize wX.heap.size = Zb at *
          have i0 : wZ.cell? ⟨Zb, 0, none⟩ = some (.pointer (some ⟨z.p, 0, none⟩)) := cell_of_block hZB 0
          have i1 : wZ.cell? ⟨Zb, 1, none⟩ = some (.pointer (some ⟨z.r, 0, none⟩)) := cell_of_block hZB 1
          have HZB := Lib.hid hZB
          clear hwZ hZB hZW hltx hltx2 hsp y0 y1 q0 q1 q2
          obtain ⟨s0, ow0, hOn, hDP, hRS⟩ := HTZ.out.core.on
          obtain ⟨sE, hE⟩ := HTZ.out.core.oth
          have hpz : (z.p, z.o) ∈ prs l := List.mem_map.2 ⟨z, List.mem_of_getElem? HN.out, rfl⟩
          have hops := hOn.ops _ hpz
          have hk2 : (l.map Tr.o)[idx]? = some z.o := by rw [List.getElem?_map, HN.out]; rfl
          have hal := hDP.al hk2
          have HOT := Lib.hid (step_other (D' := E) hops.1 (show D ≠ E by have := HTZ.out.core.sp; omega) hOn.deq hE)
          have HST := Lib.hid (step_any (i : Int) (by omega) hOn.bd hops.2 hal.safe hops.1 hOn.deq (hOn.ne _ hpz) hOn.how)
          have HON := Lib.hid hOn
          have HDP := Lib.hid hDP
          have HRS := Lib.hid hRS
          have HBO := Lib.hid hops.2
          have HSF := Lib.hid hal.safe
          clear hOn hDP hRS hE hpz hops hk2 hal
          go_wp2_with fail
          refine HOT.out.mono ?_
          rintro e w5 ⟨rfl, hw5⟩
          obtain rfl := hw5.symm
          clear hw5
          go_wp2_with fail
          refine HST.out.mono ?_
          rintro e w6 ⟨rfl, hR⟩
          have HR := Lib.hid hR
          clear hR HST HOT i0 i1
          by_cases hg : (stepD s0 z.o).2.got = 0
          · rw [decide_eq_false (show ¬ (stepD s0 z.o).2.got ≠ 0 from fun q => q hg)]
            have HG := Lib.hid hg
            clear hg
            have hZ6 : w6.heap[Zb]? = some (.cells #[.pointer (some ⟨z.p, 0, none⟩), .pointer (some ⟨z.r, 0, none⟩)] 35 (0, 0)) := (HR.out.fr.block Zb HZF.out.1 (fun q => by have := HZF.out.2; rcases q with q | q <;> omega)).trans HZB.out
            have j0 : w6.cell? ⟨Zb, 0, none⟩ = some (.pointer (some ⟨z.p, 0, none⟩)) := cell_of_block hZ6 0
            have j1 : w6.cell? ⟨Zb, 1, none⟩ = some (.pointer (some ⟨z.r, 0, none⟩)) := cell_of_block hZ6 1
            obtain ⟨xr, hxr, hxn⟩ := HTZ.out.core.rfo z (List.mem_of_getElem? HN.out)
            have hsp := HTZ.out.core.sp
            have hgt := HTZ.out.core.gt z (List.mem_of_getElem? HN.out)
            have hpr := HTZ.out.core.pr z (List.mem_of_getElem? HN.out) z (List.mem_of_getElem? HN.out)
            have hltz := HTZ.out.core.lt
            have hltr := (hltz.2 z (List.mem_of_getElem? HN.out)).2
            have hRS6 : RfS w6 M C s0 ow0.isSome := ⟨HRS.out.d.go (HR.out.fr.block M hltz.1 (fun q => by rcases q with q | q <;> omega)) (HR.out.fr.block C (by omega) (fun q => by rcases q with q | q <;> omega))⟩
            have hro6 : RfOp w6 z.r z.o xr := (HR.out.fr.block z.r hltr (fun q => by rcases q with q | q <;> omega)).trans hxr
            have HRF := Lib.hid (refStep (i : Int) (by omega) HON.out.bd HBO.out HSF.out ⟨show M ≠ C by omega, show M ≠ z.r by omega, show C ≠ z.r by omega⟩ hRS6 hro6 hxn)
            clear hZ6 hxr hxn hsp hgt hpr hltz hltr hRS6 hro6
            go_wp2_with fail
            refine HRF.out.mono ?_
            rintro e w7 ⟨rfl, hQT⟩
            have HQT := Lib.hid hQT
            have hgt := HTZ.out.core.gt z (List.mem_of_getElem? HN.out)
            have hpr := HTZ.out.core.pr z (List.mem_of_getElem? HN.out) z (List.mem_of_getElem? HN.out)
            have hsp := HTZ.out.core.sp
            have hp6 : z.p < w6.heap.size := HR.out.op.lt
            have hD6 : D < w6.heap.size := HR.out.deq.lt
            have hZs : Zb < w6.heap.size := Nat.lt_of_lt_of_le HZF.out.1 HR.out.fr.size
            have hZq := HZF.out.2
            have h67 : ∀ y, y < w6.heap.size → y ≠ M → y ≠ C → y ≠ z.r → w7.heap[y]? = w6.heap[y]? := fun y hy a b c => hQT.fr.block y hy (fun q => by rcases q with q | q | q; exact a q; exact b q; exact c q)
            have hO7 : OpB w7 z.p D (stepD s0 z.o).2 := HR.out.op.go (h67 _ hp6 (by omega) (by omega) (by omega))
            have hD7 : DeqB w7 D (stepD s0 z.o).1 (ovV (ovE z.p (stepD s0 z.o).2 ow0)) := HR.out.deq.go (h67 _ hD6 (by omega) (by omega) (by omega))
            have hZ7 : w7.heap[Zb]? = some (.cells #[.pointer (some ⟨z.p, 0, none⟩), .pointer (some ⟨z.r, 0, none⟩)] 35 (0, 0)) := (h67 _ hZs (by omega) (by omega) (by omega)).trans ((HR.out.fr.block Zb HZF.out.1 (fun q => by rcases q with q | q <;> omega)).trans HZB.out)
            have j0 : w7.cell? ⟨Zb, 0, none⟩ = some (.pointer (some ⟨z.p, 0, none⟩)) := cell_of_block hZ7 0
            have j1 : w7.cell? ⟨Zb, 1, none⟩ = some (.pointer (some ⟨z.r, 0, none⟩)) := cell_of_block hZ7 1
            obtain ⟨xr, hxr, hxn⟩ := hQT.od
            have HXR := Lib.hid hxr
            have HXN : Hid ((stepD s0 z.o).2.got = 1 → xr = (stepD s0 z.o).2.x) := Lib.hid (fun hg => hxn (got_num HSF.out.in_ hg))
            have HO7 := Lib.hid hO7
            have HD7 := Lib.hid hD7
            have HZ7 := Lib.hid hZ7
            have HM7 := Lib.hid hQT.sd.d.box
            have HRW := Lib.hid (HTZ.out.rowAt HN.out HR.out hQT)
            clear hQT h67 hO7 hD7 hZ7 hxr hxn hgt hpr hsp hp6 hD6 hZs hZq HRF
            go_wp2_with fail
            refine (result_any HO7.out).mono ?_
            rintro e w8 ⟨rfl, n8, hw8⟩
            have hh8 : ∀ y : Nat, w8.heap[y]? = w7.heap[y]? := fun y => by rw [hw8]; rfl
            have j1 : w8.cell? ⟨Zb, 1, none⟩ = some (.pointer (some ⟨z.r, 0, none⟩)) := cell_of_block ((hh8 Zb).trans HZ7.out) 1
            have HX8 : Hid (RfOp w8 z.r (stepD s0 z.o).2 xr) := Lib.hid ((hh8 z.r).trans HXR.out)
            have HH8 := Lib.hid hh8
            have HB8 : Hid (Below w7.heap.size w7 w8) := Lib.hid (by rw [hw8]; exact below_drewN (Below.refl _ _) n8)
            clear hw8 hh8
            go_wp2_with fail
            refine (refResult HX8.out HXN.out).mono ?_
            rintro e w9 ⟨rfl, n9, hw9⟩
            have HH9 : Hid (∀ y : Nat, w9.heap[y]? = w7.heap[y]?) := Lib.hid (fun y => by rw [hw9]; exact HH8.out y)
            have HB9 : Hid (Below w7.heap.size w7 w9) := Lib.hid (by rw [hw9]; exact below_drewN HB8.out n9)
            clear hw9
            have hD9 : DeqB w9 D (stepD s0 z.o).1 (ovV (ovE z.p (stepD s0 z.o).2 ow0)) := HD7.out.go (HH9.out D)
            have HD9 := Lib.hid hD9
            clear hD9
            go_wp2_with fail
            refine (state_any HD9.out).mono ?_
            rintro e wq ⟨rfl, nq, hwq⟩
            have hhq : ∀ y : Nat, wq.heap[y]? = w7.heap[y]? := fun y => by rw [hwq]; exact HH9.out y
            have u1 : wq.cell? ⟨M, 1, none⟩ = some (.int .i64 (stepD s0 z.o).1.top) := cell_of_block ((hhq M).trans HM7.out) 1
            have u2 : wq.cell? ⟨M, 2, none⟩ = some (.int .i64 (stepD s0 z.o).1.bot) := cell_of_block ((hhq M).trans HM7.out) 2
            have j0 : wq.cell? ⟨Zb, 0, none⟩ = some (.pointer (some ⟨z.p, 0, none⟩)) := cell_of_block ((hhq Zb).trans HZ7.out) 0
            have HHQ := Lib.hid hhq
            have HBQ : Hid (Below w7.heap.size w7 wq) := Lib.hid (by rw [hwq]; exact below_drewN HB9.out nq)
            have HOQ : Hid (OpB wq z.p D (stepD s0 z.o).2) := Lib.hid (HO7.out.go (hhq z.p))
            clear hwq hhq
            have t1 : ((stepD s0 z.o).1.top != (stepD s0 z.o).1.top) = false := by simp
            have t2 : ((stepD s0 z.o).1.bot != (stepD s0 z.o).1.bot) = false := by simp
            have t3 : (resI (stepD s0 z.o).2 != resI (stepD s0 z.o).2) = false := by simp
            have t4 : (((stepD s0 z.o).2.got : Int) != ((stepD s0 z.o).2.got : Int)) = false := by simp
            have hT6 := HTZ.out.on_ HON.out HDP.out HRS.out HN.out HR.out HQT.out HG.out
            have HT6 := Lib.hid (hT6.bw HBQ.out)
            clear hT6
            have t5 : (((stepD s0 z.o).2.got : Int) != 0) = false := by rw [HG.out]; rfl
            go_wp2_with fail
            go_roundw
            case rel => exact ⟨i + 1, _, _, rfl, by go_num, hi3, HT6⟩
            case measure => simp [intOf]; omega
          · rw [decide_eq_true hg]
            have HG := Lib.hid hg
            clear hg
            have hZ6 : w6.heap[Zb]? = some (.cells #[.pointer (some ⟨z.p, 0, none⟩), .pointer (some ⟨z.r, 0, none⟩)] 35 (0, 0)) := (HR.out.fr.block Zb HZF.out.1 (fun q => by have := HZF.out.2; rcases q with q | q <;> omega)).trans HZB.out
            have j0 : w6.cell? ⟨Zb, 0, none⟩ = some (.pointer (some ⟨z.p, 0, none⟩)) := cell_of_block hZ6 0
            have j1 : w6.cell? ⟨Zb, 1, none⟩ = some (.pointer (some ⟨z.r, 0, none⟩)) := cell_of_block hZ6 1
            obtain ⟨xr, hxr, hxn⟩ := HTZ.out.core.rfo z (List.mem_of_getElem? HN.out)
            have hsp := HTZ.out.core.sp
            have hgt := HTZ.out.core.gt z (List.mem_of_getElem? HN.out)
            have hpr := HTZ.out.core.pr z (List.mem_of_getElem? HN.out) z (List.mem_of_getElem? HN.out)
            have hltz := HTZ.out.core.lt
            have hltr := (hltz.2 z (List.mem_of_getElem? HN.out)).2
            have hRS6 : RfS w6 M C s0 ow0.isSome := ⟨HRS.out.d.go (HR.out.fr.block M hltz.1 (fun q => by rcases q with q | q <;> omega)) (HR.out.fr.block C (by omega) (fun q => by rcases q with q | q <;> omega))⟩
            have hro6 : RfOp w6 z.r z.o xr := (HR.out.fr.block z.r hltr (fun q => by rcases q with q | q <;> omega)).trans hxr
            have HRF := Lib.hid (refStep (i : Int) (by omega) HON.out.bd HBO.out HSF.out ⟨show M ≠ C by omega, show M ≠ z.r by omega, show C ≠ z.r by omega⟩ hRS6 hro6 hxn)
            clear hZ6 hxr hxn hsp hgt hpr hltz hltr hRS6 hro6
            go_wp2_with fail
            refine HRF.out.mono ?_
            rintro e w7 ⟨rfl, hQT⟩
            have HQT := Lib.hid hQT
            have hgt := HTZ.out.core.gt z (List.mem_of_getElem? HN.out)
            have hpr := HTZ.out.core.pr z (List.mem_of_getElem? HN.out) z (List.mem_of_getElem? HN.out)
            have hsp := HTZ.out.core.sp
            have hp6 : z.p < w6.heap.size := HR.out.op.lt
            have hD6 : D < w6.heap.size := HR.out.deq.lt
            have hZs : Zb < w6.heap.size := Nat.lt_of_lt_of_le HZF.out.1 HR.out.fr.size
            have hZq := HZF.out.2
            have h67 : ∀ y, y < w6.heap.size → y ≠ M → y ≠ C → y ≠ z.r → w7.heap[y]? = w6.heap[y]? := fun y hy a b c => hQT.fr.block y hy (fun q => by rcases q with q | q | q; exact a q; exact b q; exact c q)
            have hO7 : OpB w7 z.p D (stepD s0 z.o).2 := HR.out.op.go (h67 _ hp6 (by omega) (by omega) (by omega))
            have hD7 : DeqB w7 D (stepD s0 z.o).1 (ovV (ovE z.p (stepD s0 z.o).2 ow0)) := HR.out.deq.go (h67 _ hD6 (by omega) (by omega) (by omega))
            have hZ7 : w7.heap[Zb]? = some (.cells #[.pointer (some ⟨z.p, 0, none⟩), .pointer (some ⟨z.r, 0, none⟩)] 35 (0, 0)) := (h67 _ hZs (by omega) (by omega) (by omega)).trans ((HR.out.fr.block Zb HZF.out.1 (fun q => by rcases q with q | q <;> omega)).trans HZB.out)
            have j0 : w7.cell? ⟨Zb, 0, none⟩ = some (.pointer (some ⟨z.p, 0, none⟩)) := cell_of_block hZ7 0
            have j1 : w7.cell? ⟨Zb, 1, none⟩ = some (.pointer (some ⟨z.r, 0, none⟩)) := cell_of_block hZ7 1
            obtain ⟨xr, hxr, hxn⟩ := hQT.od
            have HXR := Lib.hid hxr
            have HXN : Hid ((stepD s0 z.o).2.got = 1 → xr = (stepD s0 z.o).2.x) := Lib.hid (fun hg => hxn (got_num HSF.out.in_ hg))
            have HO7 := Lib.hid hO7
            have HD7 := Lib.hid hD7
            have HZ7 := Lib.hid hZ7
            have HM7 := Lib.hid hQT.sd.d.box
            have HRW := Lib.hid (HTZ.out.rowAt HN.out HR.out hQT)
            clear hQT h67 hO7 hD7 hZ7 hxr hxn hgt hpr hsp hp6 hD6 hZs hZq HRF
            go_wp2_with fail
            refine (result_any HO7.out).mono ?_
            rintro e w8 ⟨rfl, n8, hw8⟩
            have hh8 : ∀ y : Nat, w8.heap[y]? = w7.heap[y]? := fun y => by rw [hw8]; rfl
            have j1 : w8.cell? ⟨Zb, 1, none⟩ = some (.pointer (some ⟨z.r, 0, none⟩)) := cell_of_block ((hh8 Zb).trans HZ7.out) 1
            have HX8 : Hid (RfOp w8 z.r (stepD s0 z.o).2 xr) := Lib.hid ((hh8 z.r).trans HXR.out)
            have HH8 := Lib.hid hh8
            have HB8 : Hid (Below w7.heap.size w7 w8) := Lib.hid (by rw [hw8]; exact below_drewN (Below.refl _ _) n8)
            clear hw8 hh8
            go_wp2_with fail
            refine (refResult HX8.out HXN.out).mono ?_
            rintro e w9 ⟨rfl, n9, hw9⟩
            have HH9 : Hid (∀ y : Nat, w9.heap[y]? = w7.heap[y]?) := Lib.hid (fun y => by rw [hw9]; exact HH8.out y)
            have HB9 : Hid (Below w7.heap.size w7 w9) := Lib.hid (by rw [hw9]; exact below_drewN HB8.out n9)
            clear hw9
            have hD9 : DeqB w9 D (stepD s0 z.o).1 (ovV (ovE z.p (stepD s0 z.o).2 ow0)) := HD7.out.go (HH9.out D)
            have HD9 := Lib.hid hD9
            clear hD9
            go_wp2_with fail
            refine (state_any HD9.out).mono ?_
            rintro e wq ⟨rfl, nq, hwq⟩
            have hhq : ∀ y : Nat, wq.heap[y]? = w7.heap[y]? := fun y => by rw [hwq]; exact HH9.out y
            have u1 : wq.cell? ⟨M, 1, none⟩ = some (.int .i64 (stepD s0 z.o).1.top) := cell_of_block ((hhq M).trans HM7.out) 1
            have u2 : wq.cell? ⟨M, 2, none⟩ = some (.int .i64 (stepD s0 z.o).1.bot) := cell_of_block ((hhq M).trans HM7.out) 2
            have j0 : wq.cell? ⟨Zb, 0, none⟩ = some (.pointer (some ⟨z.p, 0, none⟩)) := cell_of_block ((hhq Zb).trans HZ7.out) 0
            have HHQ := Lib.hid hhq
            have HBQ : Hid (Below w7.heap.size w7 wq) := Lib.hid (by rw [hwq]; exact below_drewN HB9.out nq)
            have HOQ : Hid (OpB wq z.p D (stepD s0 z.o).2) := Lib.hid (HO7.out.go (hhq z.p))
            clear hwq hhq
            have t1 : ((stepD s0 z.o).1.top != (stepD s0 z.o).1.top) = false := by simp
            have t2 : ((stepD s0 z.o).1.bot != (stepD s0 z.o).1.bot) = false := by simp
            have t3 : (resI (stepD s0 z.o).2 != resI (stepD s0 z.o).2) = false := by simp
            have t4 : (((stepD s0 z.o).2.got : Int) != ((stepD s0 z.o).2.got : Int)) = false := by simp
            have t5 : (((stepD s0 z.o).2.got : Int) != 0) = true := by have := HG.out; simp; omega
            have HSD := Lib.hid (step_done (D := D) HOQ.out HG.out)
            have HRW := Lib.hid (ownsRow_block HRW.out fun g _ => HHQ.out g)
            go_wp2_with fail
            refine HSD.out.mono ?_
            rintro e w5 ⟨rfl, hw5⟩
            obtain rfl := hw5.symm
            clear hw5 HSD
            have hwr : IntKind.i64.wrap ((idx : Int) + 1) = (idx : Int) + 1 := by rw [IntWalk.i64_left]; exact IntWalk.wrap64_in _ (by omega)
            have hwn : 0 ≤ (idx : Int) + 1 ∧ (idx : Int) + 1 ≤ (ll : Int) := by omega
            have hwt : ((idx : Int) + 1).toNat = idx + 1 := by omega
            have hro : wq.ownsRow (M + 1) 35 2 (.slice (some ⟨gl, 0, none⟩) ll c1) ll (cellsP l) := by
              have h1 := HRW.out
              rw [HLL.out] at h1
              exact h1
            obtain ⟨v2, w9, v3, wE, HC1, HC2, HO9, HB9⟩ := cut_runs (w := wq.drew) (ty1 := 28) (ty2 := 28) Try.underlying28 HU.out.1 HU.out.2.1 HU.out.2.2.1 HU.out.2.2.2 rfl (by decide) hro (by rw [cellsP_len, HLL.out]) (fun u hu => cellsP_one hu) hidx (by omega) (by decide) (A2 := if c1 = idx + 1 then some ⟨gl, 0, none⟩ else some ⟨gl, (idx + 1) * 2, none⟩) (fun h => by rw [if_neg (by omega)]) (c1 - (idx + 1))
            have HC1 := Lib.hid HC1
            have HC2 := Lib.hid HC2
            have HTE : Hid (PlT W D E M C (i + 1) (l.eraseIdx idx) v3 wE) := Lib.hid (by
              refine PlT.off HTZ.out HON.out HDP.out HRS.out HN.out HR.out HQT.out HG.out (HBQ.out.trans (((Below.refl _ wq).drew.trans HB9).mono HBQ.out.size)) ?_
              rw [HLL.out, cellsP_erase]
              exact owns_mono_ HO9 HBQ.out.size)
            clear hro HO9 HB9
            go_upto_region 35 with fail
            refine wp_region_last (L := 10) (S := fun _ => True) (by kernel_rfl) (by kernel_rfl) (by kernel_rfl) (by kernel_rfl) ?_
            change wpAnyH _ _ _ _ _ _ _ _ (World.drew _)
            refine takeH (i := 1) (some 177) (v := ?_) rfl (by kernel_rfl) (by kernel_rfl) (by kernel_rfl) (fun _ _ _ h => h) trivial (fun o ho => ?_) ?_
            rotate_left
            · simp only [List.getElem?_toArray, List.getElem?_cons_zero, List.getElem?_cons_succ, Option.some.injEq] at ho; subst ho; refine Or.inl ⟨by rfl, fun w' hSw => ?_⟩; go_simp; try with_reducible rfl
            simp only [Act.put, List.setIfInBounds_toArray, List.set_cons_zero, List.set_cons_succ]
            refine takeH (i := 2) (some 178) (v := ?_) rfl (by kernel_rfl) (by kernel_rfl) (by kernel_rfl) (fun _ _ _ h => h) trivial (fun o ho => ?_) ?_
            rotate_left
            · simp only [List.getElem?_toArray, List.getElem?_cons_zero, List.getElem?_cons_succ, Option.some.injEq] at ho; subst ho; refine Or.inl ⟨by rfl, fun w' hSw => ?_⟩; go_simp; try with_reducible rfl
            simp only [Act.put, List.setIfInBounds_toArray, List.set_cons_zero, List.set_cons_succ]
            refine takeH (i := 3) (some 179) (v := ?_) rfl (by kernel_rfl) (by kernel_rfl) (by kernel_rfl) (fun _ _ _ h => h) trivial (fun o ho => ?_) ?_
            rotate_left
            · simp only [List.getElem?_toArray, List.getElem?_cons_zero, List.getElem?_cons_succ, Option.some.injEq] at ho; subst ho; refine Or.inl ⟨by rfl, fun w' hSw => ?_⟩; go_simp; try with_reducible rfl
            simp only [Act.put, List.setIfInBounds_toArray, List.set_cons_zero, List.set_cons_succ]
            refine takeH (i := 5) (some 181) (v := ?_) rfl (by kernel_rfl) (by kernel_rfl) (by kernel_rfl) (fun _ _ _ h => h) trivial (fun o ho => ?_) ?_
            rotate_left
            · simp only [List.getElem?_toArray, List.getElem?_cons_zero, List.getElem?_cons_succ, Option.some.injEq] at ho; subst ho; refine Or.inl ⟨by rfl, fun w' hSw => ?_⟩; go_simp; try with_reducible rfl
            simp only [Act.put, List.setIfInBounds_toArray, List.set_cons_zero, List.set_cons_succ]
            refine takeH (i := 6) (some 182) (v := ?_) rfl (by kernel_rfl) (by kernel_rfl) (by kernel_rfl) (fun _ _ _ h => h) trivial (fun o ho => ?_) ?_
            rotate_left
            · simp only [List.getElem?_toArray, List.getElem?_cons_zero, List.getElem?_cons_succ, Option.some.injEq] at ho; subst ho; refine Or.inl ⟨by rfl, fun w' hSw => ?_⟩; go_simp; try with_reducible rfl
            simp only [Act.put, List.setIfInBounds_toArray, List.set_cons_zero, List.set_cons_succ]
            refine takeH (i := 7) (some 183) (v := ?_) rfl (by kernel_rfl) (by kernel_rfl) (by kernel_rfl) (fun _ _ _ h => h) trivial (fun o ho => ?_) ?_
            rotate_left
            · simp only [List.getElem?_toArray, List.getElem?_cons_zero, List.getElem?_cons_succ, Option.some.injEq] at ho; subst ho; refine Or.inl ⟨by rfl, fun w' hSw => ?_⟩; go_simp; try with_reducible rfl
            simp only [Act.put, List.setIfInBounds_toArray, List.set_cons_zero, List.set_cons_succ]
            refine takeH (i := 8) (some 184) (v := ?_) rfl (by kernel_rfl) (by kernel_rfl) (by kernel_rfl) (fun _ _ _ h => h) trivial (fun o ho => ?_) ?_
            rotate_left
            · simp only [List.getElem?_toArray, List.getElem?_cons_zero, List.getElem?_cons_succ, Option.some.injEq] at ho; subst ho; refine Or.inl ⟨by rfl, fun w' hSw => ?_⟩; go_simp; try with_reducible rfl
            simp only [Act.put, List.setIfInBounds_toArray, List.set_cons_zero, List.set_cons_succ]
            refine oneH (i := 0) (by kernel_rfl) (fun o ho K hK => ?_)
            simp only [List.getElem?_toArray, List.getElem?_cons_zero, Option.some.injEq] at ho; subst ho
            go_simp
            refine hK.out _ _ trivial ?_
            clear hK K
            refine oneH (i := 4) (by kernel_rfl) (fun o ho K hK => ?_)
            simp only [List.getElem?_toArray, List.getElem?_cons_zero, List.getElem?_cons_succ, Option.some.injEq] at ho; subst ho
            refine step_append_runQ rfl _ _ _ _ rfl _ _ rfl rfl HC1.out ?_
            refine hK.out _ _ trivial ?_
            clear hK K
            simp only [Act.put, List.setIfInBounds_toArray, List.set_cons_zero, List.set_cons_succ]
            refine oneH (i := 9) (by kernel_rfl) (fun o ho K hK => ?_)
            simp only [List.getElem?_toArray, List.getElem?_cons_zero, List.getElem?_cons_succ, Option.some.injEq] at ho; subst ho
            refine step_append_runQ rfl _ _ _ _ rfl _ _ rfl rfl HC2.out ?_
            refine hK.out _ _ trivial ?_
            clear hK K
            simp only [Act.put, List.setIfInBounds_toArray, List.set_cons_zero, List.set_cons_succ]
            refine wpAnyH_done (by kernel_rfl) ?_ _
            refine lastH (by decide) (fun o ho K hK => ?_)
            simp only [List.getElem?_toArray, List.getElem?_cons_zero, List.getElem?_cons_succ, Option.some.injEq] at ho; subst ho
            go_simp
            refine hK.out _ _ ?_
            clear hK K
            go_wp2_with fail
            go_roundw
            case rel => exact ⟨i + 1, _, _, rfl, by go_num, hi3, HTE⟩
            case measure => simp [intOf]; omega
    · have hnd : ¬ (i : Int) < k0 ∨ ¬ (i : Int) < 400 := by omega
      clear hend
      have HNIL := Lib.hid (step_nil D wr)
      have HBE := Lib.hid HT.out.core.bel
      rcases hnd with hnd | hnd
      · go_wp2_with fail
        refine HNIL.out.mono ?_
        rintro e w5 ⟨rfl, hw5⟩
        obtain rfl := hw5.symm
        go_wp2_with fail
        go_ret
        exact ⟨rfl, HBE.out⟩
      · by_cases hnk : (i : Int) < k0
        · go_wp2_with fail
          refine HNIL.out.mono ?_
          rintro e w5 ⟨rfl, hw5⟩
          obtain rfl := hw5.symm
          go_wp2_with fail
          go_ret
          exact ⟨rfl, HBE.out⟩
        · go_wp2_with fail
          refine HNIL.out.mono ?_
          rintro e w5 ⟨rfl, hw5⟩
          obtain rfl := hw5.symm
          go_wp2_with fail
          go_ret
          exact ⟨rfl, HBE.out⟩
end Go.Proofs.Ytacadgocoleaoaa
