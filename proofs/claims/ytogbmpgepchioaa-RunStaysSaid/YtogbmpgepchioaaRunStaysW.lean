/- The walk of RunStays. -/
import Derived.Test.YtogbmpgepchioaaRunM
import Derived.Test.YtogbmpgepchioaaSmall
import Derived.Test.YtogbmpgepchioaaCopyM
import Derived.Test.YtogbmpgepchioaaSameF
import Derived.Deep.RegionHeld
import Derived.Deep.MidRow
namespace Go.Proofs.Ytogbmpgepchioaa
open Go.ChangeShapes Go.WideShapes Go.RowKit Go.Deep
set_option linter.unusedVariables false

/-- append(x, y...), of int64s. -/
theorem run_append_nums (ty : TypeId) {w : World} {base : Nat} {v : Value} {xs ys : List Int} {A : Option Addr} {c : Nat} (hown : w.ownsRow base 2 1 v xs.length (xs.map (Value.int .i64))) (hsl : SL w 1 RW A c ys) (hb : base ≤ w.heap.size) (hn : xs.length + ys.length ≤ 17592186044416) :
    ∃ v' w', (Builtin.append_ #[25, 25] ty #[v, .slice A ys.length c]).run Try.prog w = .ok v' w' ∧ w'.ownsRow base 2 1 v' (xs ++ ys).length ((xs ++ ys).map (Value.int .i64)) ∧ w.grownBy w' v.ownBlock ∧ (v'.ownBlock = v.ownBlock ∨ v'.ownBlock = some w.heap.size) := by
  obtain ⟨i0, hi, hz0, hz1, hz2⟩ := info_parts Try.info2
  cases A with
  | none =>
    obtain rfl : c = 0 := hsl.2.1.2 rfl
    obtain rfl : ys = [] := List.length_eq_zero_iff.1 (by have := hsl.1; omega)
    exact ⟨v, w, run_append_owned_none (P := Try.prog) (w := w) base 25 ty 2 i0 1 Try.underlying25 hi v _ _ hown, by rw [List.append_nil]; exact hown, ⟨rfl, rfl, rfl, Nat.le_refl _, fun _ _ _ => rfl⟩, .inl rfl⟩
  | some ad =>
    have hnews : ∀ j u, (ys.map (Value.int .i64))[j]? = some u → w.cell? (ad.add j) = some u := by
      intro j u hu
      rw [List.getElem?_map] at hu
      obtain ⟨x, hx, rfl⟩ := Option.map_eq_some_iff.1 hu
      obtain ⟨_, _, h3⟩ := hsl
      obtain ⟨b, o, e, hr⟩ := h3 (by have := (List.getElem?_eq_some_iff.1 hx).1; omega)
      obtain rfl := Option.some.inj e
      have := hr j x hx
      rw [Nat.mul_one] at this
      rwa [add_plain']
    obtain ⟨v', w', hr, h2, h3, _, hat⟩ := run_append_own_at (P := Try.prog) w base 25 ty 2 i0 (.int .i64 0) 1 8 Try.underlying25 hi hz0 hz1 hz2 rfl (by decide) v xs.length (xs.map (Value.int .i64)) hown ad ys.length c (ys.map (Value.int .i64)) (by simp) hnews
      (fun u hu => by obtain ⟨x, _, rfl⟩ := List.mem_map.1 hu; rfl) (by unfold maxLen; omega) (by omega) hb
    exact ⟨v', w', hr, by rw [List.length_append, List.map_append]; exact h2, h3, hat⟩
/-- A run, told for a caller who keeps the row. -/
def ToldW (m : List FunD) (f : Int) (args : List Int) (steps : Int) (w : World) (e : Ending) (w' : World) : Prop :=
  ∃ s A c err, e = .returned (.tuple #[.agg (outC s (.slice A s.out.length c)), err]) ∧ Below w.heap.size w w' ∧ OwnO w' w.heap.size A c s.out ∧
    ((∃ t x, err = .iface t x) ∧ ¬ (Proper m ∧ mayB m f args steps = true) ∧ s = zeroS ∨ err = .nilIface ∧ Proper m ∧ mayB m f args steps = true ∧ s = runS m f.toNat args steps.toNat)
theorem OwnO.nil {w : World} {K : Nat} : OwnO w K none 0 [] := ⟨rfl, .inl ⟨rfl, rfl⟩⟩
theorem run_toldW {m : List FunD} {f : Int} {args : List Int} {steps : Int} {w : World} {e : Ending} {w' : World} (h : ToldRun m f args steps w e w') : ToldW m f args steps w e w' := by
  obtain ⟨o, err, rfl, hb, ⟨hp, he, rfl⟩ | ⟨hp, hm, rfl, rfl⟩ | ⟨hp, hm, rfl, A, c, rfl, hs⟩⟩ := h
  · exact ⟨zeroS, none, 0, err, rfl, hb, OwnO.nil, .inl ⟨he.iface hp, fun h => hp h.1, rfl⟩⟩
  · exact ⟨zeroS, none, 0, _, rfl, hb, OwnO.nil, .inl ⟨⟨_, _, rfl⟩, (fun h => by rw [hm] at h; cases h.2), rfl⟩⟩
  · exact ⟨_, A, c, _, rfl, hb, hs, .inr ⟨rfl, hp, hm, rfl⟩⟩
/-- A run puts out no more than it has steps. -/
theorem loopS_len (m : List FunD) (k : Nat) (s : St) : (loopS m k s).out.length ≤ s.out.length + k := by
  induction k generalizing s with
  | zero => simp [loopS]
  | succ k ih =>
    by_cases h : s.done = true
    · rw [loopS_done h]; omega
    · simp only [loopS, h, if_false, Bool.false_eq_true]
      have h1 := ih (stepS m (tickS s))
      obtain ⟨r2, hr2, hl⟩ := stepS_out m (tickS s)
      rw [hr2, List.length_append] at h1
      have e : (tickS s).out.length = s.out.length := rfl
      omega
theorem runS_len (m : List FunD) (f : Nat) (args : List Int) (k : Nat) : (runS m f args k).out.length ≤ k := by
  have := loopS_len m k (startS f args)
  have e : (startS f args).out.length = 0 := rfl
  show (loopS m k (startS f args)).out.length ≤ k
  omega

theorem rs_grown_trans {a b c : World} {row : Option Nat} (h : a.grownBy b row) (k : b.grownBy c row) : a.grownBy c row :=
  ⟨k.os.trans h.os, k.tape.trans h.tape, k.output.trans h.output, Nat.le_trans h.size k.size, fun i h1 h2 => (k.block i (Nat.lt_of_lt_of_le h1 h.size) h2).trans (h.block i h1 h2)⟩
theorem rs_grown_drew {a b : World} {row : Option Nat} (h : a.grownBy b row) : a.grownBy b.drew row := rs_grown_trans h ⟨rfl, rfl, rfl, Nat.le_refl _, fun _ _ _ => rfl⟩
theorem rs_ownsRow_drew {w : World} {base n size : Nat} {e : TypeId} {v : Value} {xs : List Value} (h : w.ownsRow base e size v n xs) : w.drew.ownsRow base e size v n xs := h

set_option maxRecDepth 100000 in
set_option maxHeartbeats 16000000 in
theorem runStays_walk (m : List FunD) (v : Value) (f : Int) (args : List Int) (va : Value) (steps : Int) (w : World) (hm : VMod w v m) (hargs : VS w 1 RInt va args) (hf : I64 f) (hst : I64 steps) :
    Calls Try.prog 3 #[v, .int .i64 f, va, .int .i64 steps] w fun e w' => e = .returned (.bool true) ∧ Below w.heap.size w w' := by
  have hm0 := hm
  obtain ⟨A, c, rfl, hms⟩ := hm
  obtain ⟨Aa, ca, rfl, ha⟩ := hargs
  have hml := hms.len
  have hal := ha.len
  clear hms
  have HF := Lib.hid hf
  have HST := Lib.hid hst
  clear hf hst
  go_enter Try.func3, Try.ntmps3
  go_wp2_with fail
  obtain ⟨w1, hw1, hs1, hk1, hB1, hc1, -⟩ := named w #[.slice A m.length c] 24
  rw [← hw1]
  have q0 : w1.cell? ⟨w.heap.size, 0, none⟩ = some (.slice A m.length c) := hc1 0 _ rfl
  clear hw1 hc1 hs1
  refine (up_any _).mono ?_
  rintro e w2 ⟨rfl, hb2⟩
  have hB2 : Below w.heap.size w w2 := hB1.trans (hb2.mono hB1.size)
  have q0 := kept_of_below hb2 _ _ q0
  go_wp2_with fail
  refine (small_any m _ _ (VMod.keep (kept_of_below hB2) hm0)).mono ?_
  rintro e w3 ⟨⟨bs, rfl, hsm⟩, hb3⟩
  have hB3 : Below w.heap.size w w3 := hB2.trans (hb3.mono hB2.size)
  have q0 := kept_of_below hb3 _ _ q0
  clear hb2 hb3 hB1 hB2 hk1
  cases bs
  · go_wp2_with fail
    go_ret
    exact ⟨rfl, hB3⟩
  · have HS := Lib.hid (hsm rfl)
    clear hsm
    by_cases hlen : 300 < args.length
    · have hlen' : (300 : Int) < args.length := by omega
      go_wp2_with fail
      go_ret
      exact ⟨rfl, hB3⟩
    · have hlen' : ¬ (300 : Int) < args.length := by omega
      have HLEN : Hid (args.length ≤ 300) := Lib.hid (by omega)
      go_wp2_with fail
      refine (few_any steps _ HST.out).mono ?_
      rintro e w4 ⟨rfl, rfl⟩
      have HZ : Hid (I64 (fewZ steps)) := Lib.hid (by have := HST.out; unfold I64 at this ⊢; unfold fewZ; split <;> omega)
      have HB3 := Lib.hid hB3
      have HA := Lib.hid ha
      have HM0 := Lib.hid hm0
      clear hB3 ha hm0 hlen hlen'
      go_wp2_with fail
      refine (copy_any m _ _ (VMod.keep (kept_of_below HB3.out) HM0.out) HS.out).mono ?_
      rintro e w5 ⟨⟨r, rfl, A1, c1, rfl, hcp⟩, hb5⟩
      have HB5 : Hid (Below w.heap.size w w5) := Lib.hid (HB3.out.trans (hb5.mono HB3.out.size))
      have q5 := kept_of_below hb5 _ _ q0
      have HCP : Hid (SL w5 4 RFun A1 c1 m) := Lib.hid (SL.imp RFunB.plain hcp)
      clear hb5 hcp q0
      go_upto_region 7 with fail
      obtain ⟨w6, hw6, hs6, hk6, hB6, hc6, -⟩ := named w5 #[.slice A1 m.length c1] 24
      rw [← hw6]
      have q6 := hk6 _ _ q5
      have o6 : w6.cell? ⟨w5.heap.size, 0, none⟩ = some (.slice A1 m.length c1) := hc6 0 _ rfl
      have HB6 : Hid (Below w.heap.size w w6) := Lib.hid (HB5.out.trans (hB6.mono HB5.out.size))
      have HCP6 : Hid (VMod w6 (.agg #[.slice A1 m.length c1]) m) := Lib.hid ⟨A1, c1, rfl, SFuns.keep hk6 HCP.out⟩
      obtain ⟨g0, hg0⟩ : ∃ g0, g0 = w5.heap.size := ⟨_, rfl⟩
      rw [← hg0] at o6 hs6 ⊢
      have HG0 : Hid (g0 < w6.heap.size) := Lib.hid (by omega)
      clear hw6 hs6 hk6 hB6 hc6 q5 hg0
      have hown : (w6.alloc (.cells #[] 2)).ownsRow w6.heap.size 2 1 (.slice (some ⟨w6.heap.size, 0, none⟩) 0 0) ([] : List Int).length (([] : List Int).map (Value.int .i64)) :=
        ⟨rfl, .inr ⟨w6.heap.size, 0, #[], rfl, Nat.le_refl _, heap_alloc_new w6 _, Nat.le_refl _, Nat.zero_le _, rfl, rfl⟩⟩
      have haw : SL (w6.alloc (.cells #[] 2)) 1 RW Aa ca args := SL.imp (fun b o x hx => kept_alloc w6 _ _ _ (kept_of_below HB6.out _ _ hx.1)) HA.out
      obtain ⟨va, w7, hr, hown7, hg7, -⟩ := run_append_nums 25 hown haw (by simp) (by have := HLEN.out; simp; omega)
      rw [List.nil_append] at hown7
      have hB7 : Below w6.heap.size w6 w7 := ((Below.refl w6.heap.size w6).alloc (Nat.le_refl _) (.cells #[] 2)).grown hg7 (by simp) (fun k hk => by have := Option.some.inj (show some w6.heap.size = some k from hk); omega)
      obtain ⟨Ao, co, hva, hso⟩ := sl_of_own hown7 rfl
      subst hva
      have q7 := kept_of_below hB7 _ _ q6
      have o7 := kept_of_below hB7 _ _ o6
      have HOWN7 := Lib.hid hown7
      have HB7 := Lib.hid hB7
      have HSO := Lib.hid hso
      clear hown haw hown7 hg7 hB7 hso q6 o6
      go_wp2_with (first | (at_builtin; refine wpList_append_run _ rfl (.tmp 35) (.tmp 36) 25 25 rfl _ _ rfl rfl hr ?_))
      have hi64 : ∀ x ∈ args, I64 x := fun x hx => by
        obtain ⟨i, hi⟩ := List.getElem?_of_mem hx
        obtain ⟨_, _, h3⟩ := HA.out
        obtain ⟨b, o, e, hr⟩ := h3 (by have := (List.getElem?_eq_some_iff.1 hi).1; omega)
        exact (hr i x hi).2
      obtain ⟨Ao', co', e', hsi⟩ := vs_of_own HOWN7.out hi64
      cases e'
      have HR1 := Lib.hid (run_any m f args (fewZ steps) _ Ao co w7 (VMod.keep (kept_of_below HB7.out) HCP6.out) hsi HS.out HF.out HZ.out)
      clear hr hi64 hsi
      refine HR1.out.mono ?_
      rintro e w8 h8
      obtain ⟨s, As, cs, err, rfl, hb8, how8, hcase⟩ := run_toldW h8
      have hst := store_new w8 s (.slice As s.out.length cs) rfl
      obtain ⟨w9, hw9⟩ : ∃ w9, w9 = w8.alloc (.cells (outC s (.slice As s.out.length cs)) 32) := ⟨_, rfl⟩
      rw [← hw9] at hst
      have HO9 : Hid (OutAt w9 w8.heap.size s As cs) := Lib.hid (OutAt.new hw9 (SL.imp (fun b o x hx => hx.2) how8.sl))
      have HB89 : Hid (Below w8.heap.size w8 w9) := Lib.hid (by rw [hw9]; exact (Below.refl _ _).alloc (Nat.le_refl _) _)
      have HB79 : Hid (Below w7.heap.size w7 w9) := Lib.hid (hb8.trans (HB89.out.mono hb8.size))
      have HB9 : Hid (Below w.heap.size w w9) := Lib.hid ((HB6.out.trans (HB7.out.mono HB6.out.size)).trans (HB79.out.mono (HB6.out.trans (HB7.out.mono HB6.out.size)).size))
      have HOW9 : Hid (OwnO w9 w7.heap.size As cs s.out) := Lib.hid (by rw [hw9]; exact owns_keep how8 fun g _ _ h => Below.heap_alloc _ _ _ h)
      have HQ9 := Lib.hid (kept_of_below HB79.out _ _ q7)
      have HO79 := Lib.hid (kept_of_below HB79.out _ _ o7)
      have HCASE := Lib.hid hcase
      have how8lt := how8.lt
      have HLT : Hid (w.heap.size < w7.heap.size ∧ g0 < w7.heap.size) := Lib.hid ⟨block_lt_of_cell q7, block_lt_of_cell o7⟩
      clear h8 hb8 how8 hcase HR1 hw9 q7 o7
      dsimp only
      go_step
      iterate 4 (first | (go_step; go_simp; go_step) | (go_step; go_step))
      refine wpList_store_any _ rfl 32 (.tmp 13) (.tmp 44) rfl _ _ (by rfl) (by rfl) hst ?_
      clear hst
      have HSO9 : Hid (SL w9 1 RW Ao co args) := Lib.hid (SL.imp (fun b o x hx => kept_of_below HB79.out _ _ hx.2) HSO.out)
      have HA9 : Hid (SL w9 1 RW Aa ca args) := Lib.hid (SL.imp (fun b o x hx => kept_of_below HB9.out _ _ hx.1) HA.out)
      have hql := HLEN.out
      go_wp2_with fail
      go_loopw [15] (fun i wr => ∃ j q : Nat, j ≤ args.length ∧ i = .int .i64 j ∧ wr = w9.drewN q) (fun i _ => args.length - (intOf i).toNat)
      case atStart => exact ⟨0, 0, Nat.zero_le _, rfl, rfl⟩
      case round =>
        obtain ⟨j, q, hj, rfl, rfl⟩ := hrel
        by_cases hjt : j < args.length
        · obtain ⟨b1, o1, x, rfl, hx, hxc⟩ := HSO9.out.at_ hjt
          obtain ⟨b2, o2, y, rfl, hy, hyc⟩ := HA9.out.at_ hjt
          obtain rfl : x = y := Option.some.inj (hx.out.symm.trans hy.out)
          rw [Nat.mul_one] at hxc hyc
          have hxc : w9.cell? ⟨b1, o1 + j, none⟩ = some (.int .i64 x) := hxc
          have hyc : w9.cell? ⟨b2, o2 + j, none⟩ = some (.int .i64 x) := hyc
          have hj0 : (0 : Int) ≤ j := by omega
          have hj1 : (j : Int) < args.length := by omega
          have hxb : (x != x) = false := by simp
          go_wp2_with fail
          go_quiet (fail)
          go_wp2_with fail
          go_roundw
          case rel => exact ⟨j + 1, _, by omega, by go_num, rfl⟩
          case measure => simp [intOf]; omega
        · have HB10 : Hid (Below w9.heap.size w9 (w9.drewN q)) := Lib.hid (below_drewN (Below.refl _ _) q)
          obtain rfl : j = args.length := by omega
          clear hj hjt
          generalize w9.drewN q = w10 at HB10 ⊢
          have HOL : Hid (s.out.length ≤ 1048576) := Lib.hid (by
            rcases HCASE.out with ⟨-, -, e⟩ | ⟨-, -, hmay, e⟩
            · rw [e]; exact Nat.zero_le _
            · have h1 := runS_len m f.toNat args (fewZ steps).toNat
              rw [e]
              unfold mayB at hmay
              simp only [Bool.and_eq_true, decide_eq_true_eq] at hmay
              have := hmay.2.2.2
              omega)
          have HO10 : Hid (OutAt w10 w8.heap.size s As cs) := Lib.hid (HO9.out.keep (kept_of_below HB10.out))
          have HOW10 : Hid (OwnO w10 w7.heap.size As cs s.out) := Lib.hid (owns_keep HOW9.out fun g _ _ h => HB10.out.block g h)
          obtain ⟨c0, c3, c4⟩ := HO10.out.cells
          have hown : (w10.alloc (.cells #[] 2)).ownsRow w10.heap.size 2 1 (.slice (some ⟨w10.heap.size, 0, none⟩) 0 0) ([] : List Int).length (([] : List Int).map (Value.int .i64)) :=
            ⟨rfl, .inr ⟨w10.heap.size, 0, #[], rfl, Nat.le_refl _, heap_alloc_new w10 _, Nat.le_refl _, Nat.zero_le _, rfl, rfl⟩⟩
          have haw : SL (w10.alloc (.cells #[] 2)) 1 RW As cs s.out := SL.imp (fun b o x hx => kept_alloc w10 _ _ _ hx) HO10.out.2
          obtain ⟨vb, w11, hr, hown11, hg11, -⟩ := run_append_nums 25 hown haw (by simp) (by have := HOL.out; simp; omega)
          rw [List.nil_append] at hown11
          have hB11 : Below w10.heap.size w10 w11 := ((Below.refl w10.heap.size w10).alloc (Nat.le_refl _) (.cells #[] 2)).grown hg11 (by simp) (fun k hk => by have := Option.some.inj (show some w10.heap.size = some k from hk); omega)
          obtain ⟨Ab, cb, hvb, hsb⟩ := sl_of_own hown11 rfl
          subst hvb
          have HB11 := Lib.hid hB11
          have HSB := Lib.hid hsb
          have c3b := kept_of_below HB11.out _ _ c3
          have c3a : (w10.alloc (.cells #[] 2)).cell? ⟨w8.heap.size, 3, none⟩ = some (.slice As s.out.length cs) := kept_alloc w10 _ _ _ c3
          clear hown haw hown11 hg11 hB11 hsb c0 c4
          go_wp2_with (first | (at_builtin; refine wpList_append_run _ rfl (.tmp 61) (.tmp 63) 25 25 rfl _ _ rfl rfl hr ?_))
          clear hr c3a c3
          have HOW11 : Hid (OwnO w11 w7.heap.size As cs s.out) := Lib.hid (owns_keep HOW10.out fun g _ _ h => HB11.out.block g h)
          have HGL : Hid (∀ g, (Value.slice As s.out.length cs).ownBlock = some g → w7.heap.size ≤ g ∧ g < w8.heap.size) := Lib.hid (fun g hg => how8lt g hg)
          have HSZ : Hid (w8.heap.size < w10.heap.size) := Lib.hid (block_lt_of_cell (HO10.out.1 0 (by omega)))
          have HOLL := HOL.out
          go_wp2_with fail
          go_loopw [17] (fun i wr => ∃ (j : Nat) (l : List Int), j ≤ s.out.length ∧ i = .int .i64 j ∧ l.length = s.out.length ∧ Hid (wr.ownsRow w7.heap.size 2 1 (.slice As s.out.length cs) s.out.length (l.map (Value.int .i64))) ∧ Hid (w11.grownBy wr (Value.slice As s.out.length cs).ownBlock)) (fun i _ => s.out.length - (intOf i).toNat)
          case atStart => exact ⟨0, s.out, Nat.zero_le _, rfl, rfl, HOW11, Lib.hid ⟨rfl, rfl, rfl, Nat.le_refl _, fun _ _ _ => rfl⟩⟩
          case round =>
            obtain ⟨j, l, hj, rfl, hll, how, hgr⟩ := hrel
            have o3 : wr.cell? ⟨w8.heap.size, 3, none⟩ = some (.slice As s.out.length cs) := (World.cell?_of_block (a := ⟨w8.heap.size, 3, none⟩) (hgr.out.block w8.heap.size (by have := HB11.out.size; have := HSZ.out; omega) (fun e => by have := (HGL.out _ e.symm).2; omega))).trans c3b
            by_cases hjt : j < s.out.length
            · rcases how.out.2 with ⟨hv, hn⟩ | ⟨g, cap, cur, hv, -⟩
              · omega
              · cases hv
                obtain ⟨x, hx⟩ : ∃ x, l[j]? = some x := ⟨_, List.getElem?_eq_getElem (by omega)⟩
                have ci : wr.cell? ⟨g, j, none⟩ = some (.int .i64 x) := by
                  have := how.out.cells (g := g) rfl j (.int .i64 x) (by simp [hx])
                  rwa [show (⟨g, 0, none⟩ : Addr).add j = ⟨g, j, none⟩ by unfold Addr.add; split <;> simp_all] at this
                have fi := how.out.frozenAt j
                have hj0 : (0 : Int) ≤ j := by omega
                have hj1 : (j : Int) < s.out.length := by omega
                clear hx
                go_wp2_with fail
                go_region
                all_goals
                  go_wp2_with fail
                  have h1 := how.out.stored j (.int .i64 (wrap64 (x + 1)))
                  have h2 := h1.1
                  rw [← List.map_set] at h2
                  have HN1 := Lib.hid (rs_ownsRow_drew h2)
                  have HN2 := Lib.hid (rs_grown_drew (rs_grown_trans hgr.out h1.2))
                  go_roundw
                  case rel => exact ⟨j + 1, l.set j (wrap64 (x + 1)), by omega, by go_num, by rw [List.length_set]; exact hll, HN1, HN2⟩
                  case measure => simp [intOf]; omega
            · obtain rfl : j = s.out.length := by omega
              clear hj hjt
              have hbw : Below w7.heap.size w7 wr := ((HB79.out.trans (HB10.out.mono HB79.out.size)).trans (HB11.out.mono (HB79.out.trans (HB10.out.mono HB79.out.size)).size)).grown hgr.out ((HB79.out.trans (HB10.out.mono HB79.out.size)).trans (HB11.out.mono (HB79.out.trans (HB10.out.mono HB79.out.size)).size)).size (fun k hk => (HGL.out k hk).1)
              have HBW7 := Lib.hid hbw
              have HBW : Hid (Below w.heap.size w wr) := Lib.hid ((HB6.out.trans (HB7.out.mono HB6.out.size)).trans (hbw.mono (HB6.out.trans (HB7.out.mono HB6.out.size)).size))
              have hkk : ∀ b, b < w7.heap.size → wr.heap[b]? = w9.heap[b]? := fun b hb => (hgr.out.block b (by have := HB79.out.size; have := HB10.out.size; have := HB11.out.size; omega) (fun e => by have := (HGL.out _ e.symm).1; omega)).trans
                ((HB11.out.block b (by have := HB79.out.size; have := HB10.out.size; omega)).trans (HB10.out.block b (by have := HB79.out.size; omega)))
              have qr : wr.cell? ⟨w.heap.size, 0, none⟩ = some (.slice A m.length c) := (World.cell?_of_block (a := ⟨w.heap.size, 0, none⟩) (hkk _ HLT.out.1)).trans HQ9.out
              have or : wr.cell? ⟨g0, 0, none⟩ = some (.slice A1 m.length c1) := (World.cell?_of_block (a := ⟨g0, 0, none⟩) (hkk _ HLT.out.2)).trans HO79.out
              have HWAS : Hid (SL wr 1 RW Ab cb s.out) := Lib.hid (SL.imp (fun b o x hx => (World.cell?_of_block (a := ⟨b, o, none⟩) (hgr.out.block b (block_lt_of_cell hx.2) (fun e => by have h1 := (HGL.out _ e.symm).2; have h2 : w10.heap.size ≤ b := hx.1; have := HSZ.out; omega))).trans hx.2) HSB.out)
              have HOC : Hid (∀ i, i < 69 → wr.cell? ⟨w8.heap.size, i, none⟩ = some (cellM s ⟨.slice none 0 0, .slice none 0 0, .slice none 0 0, .slice none 0 0, .slice As s.out.length cs⟩ (263 + i))) := Lib.hid (fun i hi =>
                (World.cell?_of_block (a := ⟨w8.heap.size, i, none⟩) (hgr.out.block w8.heap.size (by have := HB11.out.size; have := HSZ.out; omega) (fun e => by have := (HGL.out _ e.symm).2; omega))).trans (kept_of_below HB11.out _ _ (HO10.out.1 i hi)))
              have HVM : Hid (VMod wr (.agg #[.slice A1 m.length c1]) m) := Lib.hid (VMod.keep (kept_of_below (HB7.out.trans (hbw.mono HB7.out.size))) HCP6.out)
              have HVR : Hid (VMod wr (.agg #[.slice A m.length c]) m) := Lib.hid (VMod.keep (kept_of_below HBW.out) HM0.out)
              have HR2 := Lib.hid (run_any m f args (fewZ steps) _ Aa ca wr HVR.out (SInts.keep (kept_of_below HBW.out) HA.out) HS.out HF.out HZ.out)
              clear hkk hbw how hgr hll HSB HB10 HB11 HO10 HOW10 HOW11 HOL HSZ HGL HB7 HB79 HCP6 HO79 HQ9 HOW9
              go_wp2_with fail
              refine HR2.out.mono ?_
              rintro e w12 h12
              obtain ⟨p, Ap, cp, err2, rfl, hb12, how12, hcase2⟩ := run_toldW h12
              have hps : p = s ∧ ((err = .nilIface ∧ err2 = .nilIface) ∨ ((∃ t x, err = .iface t x) ∧ ∃ t x, err2 = .iface t x)) := by
                rcases HCASE.out with ⟨he, hno, hs⟩ | ⟨he, hp, hm', hs⟩
                · rcases hcase2 with ⟨he2, -, hs2⟩ | ⟨-, hp2, hm2, -⟩
                  · exact ⟨hs2.trans hs.symm, .inr ⟨he, he2⟩⟩
                  · exact absurd ⟨hp2, hm2⟩ hno
                · rcases hcase2 with ⟨-, hno, -⟩ | ⟨he2, -, -, hs2⟩
                  · exact absurd ⟨hp, hm'⟩ hno
                  · exact ⟨hs2.trans hs.symm, .inl ⟨he, he2⟩⟩
              obtain ⟨hps, hee⟩ := hps
              subst hps
              have hst := store_new w12 p (.slice Ap p.out.length cp) rfl
              obtain ⟨w13, hw13⟩ : ∃ w13, w13 = w12.alloc (.cells (outC p (.slice Ap p.out.length cp)) 32) := ⟨_, rfl⟩
              rw [← hw13] at hst
              have HB1213 : Hid (Below w12.heap.size w12 w13) := Lib.hid (by rw [hw13]; exact (Below.refl _ _).alloc (Nat.le_refl _) _)
              have HBR : Hid (Below wr.heap.size wr w13) := Lib.hid (hb12.trans (HB1213.out.mono hb12.size))
              have HP13 : Hid (OutAt w13 w12.heap.size p Ap cp) := Lib.hid (OutAt.new hw13 (SL.imp (fun b o x hx => hx.2) how12.sl))
              have HB13 : Hid (Below w.heap.size w w13) := Lib.hid (HBW.out.trans (HBR.out.mono HBW.out.size))
              have qq := kept_of_below HBR.out _ _ qr
              have oo := kept_of_below HBR.out _ _ or
              have HWAS13 : Hid (SL w13 1 RW Ab cb p.out) := Lib.hid (SL.imp (fun b o x hx => kept_of_below HBR.out _ _ hx) HWAS.out)
              have HOC13 : Hid (∀ i, i < 69 → w13.cell? ⟨w8.heap.size, i, none⟩ = some (cellM p ⟨.slice none 0 0, .slice none 0 0, .slice none 0 0, .slice none 0 0, .slice As p.out.length cs⟩ (263 + i))) := Lib.hid (fun i hi => kept_of_below HBR.out _ _ (HOC.out i hi))
              have HSS : Hid (VMod w13.drew (.agg #[.slice A1 m.length c1]) m ∧ VMod w13.drew (.agg #[.slice A m.length c]) m) := Lib.hid ⟨VMod.keep (kept_of_below HBR.out.drew) HVM.out, VMod.keep (kept_of_below HBR.out.drew) HVR.out⟩
              have hqb : w.heap.size < w13.heap.size := block_lt_of_cell qq
              have hob : g0 < w13.heap.size := block_lt_of_cell oo
              have HQQ := Lib.hid qq
              have HOO := Lib.hid oo
              clear h12 hb12 how12 hcase2 hw13 HR2 HCASE HVM HVR HWAS HOC qr or hqb hob c3b o3 qq oo
              have HSSD : Hid (Calls Try.prog 15 #[.agg #[.slice A1 m.length c1], .agg #[.slice A m.length c]] w13.drew fun e w' => e = .returned (.bool true) ∧ Below w13.heap.size w13 w') := Lib.hid (by
                have h := same_any m m (.agg #[.slice A1 m.length c1]) (.agg #[.slice A m.length c]) w13.drew HSS.out.1 HSS.out.2
                rw [show same m m = true from same_yes rfl] at h
                exact h.mono fun e w' hw => ⟨hw.1, (Below.refl w13.heap.size w13).drew.trans hw.2⟩)
              have HALL : Hid (∀ w', Below w13.heap.size w13 w' → Calls Try.prog 16 #[.slice Ab p.out.length cb, .slice Ap p.out.length cp] w' fun e w'' => e = .returned (.bool true) ∧ Below w13.heap.size w13 w'') := Lib.hid (fun w' hb => by
                have hk := kept_of_below hb
                have h := alike_any p.out p.out Ab Ap cb cp w' (SL.imp (fun b o x hx => hk _ _ hx) HWAS13.out) (SL.imp (fun b o x hx => hk _ _ hx) HP13.out.2)
                rw [show decide (p.out = p.out) = true from decide_eq_true rfl] at h
                exact h.mono fun e w'' hw => ⟨hw.1, by obtain ⟨-, n, rfl⟩ := hw; exact below_drewN hb n⟩)
              obtain ⟨ms, hms⟩ : ∃ ms : List Value, ms = (memL p).map (Value.int .i64) := ⟨_, rfl⟩
              have hml64 : ms.length = 64 := by rw [hms, List.length_map, memL_len]
              have hmr : ∀ (w' : World) (b : Nat), (∀ i, i < 64 → w'.cell? ⟨b, 5 + i, none⟩ = some (.int .i64 (p.mem i))) → w'.rangeAt b 5 ms := fun w' b h j v hj => by
                have hj' : j < 64 := by have := (List.getElem?_eq_some_iff.1 hj).1; omega
                have h2 : ms[j]? = some (.int .i64 (p.mem j)) := by
                  have := memC_get p hj'
                  rw [hms]
                  simpa [memC] using this
                rw [h2] at hj
                cases hj
                exact h j hj'
              have heq : ∀ w', (Op.equalIn 10000 30 (.agg ms.toArray) (.agg ms.toArray)).run Try.prog w' = .ok true w' := fun w' => by
                have h := eq_mem p p w'
                rw [show (memL p == memL p) = true by simp] at h
                rw [hms]; exact h
              have hS : ∀ w', Below w13.heap.size w13 w' → w'.cell? ⟨g0, 0, none⟩ = some (.slice A1 m.length c1) ∧ w'.cell? ⟨w.heap.size, 0, none⟩ = some (.slice A m.length c) ∧ w'.cell? ⟨w12.heap.size, 3, none⟩ = some (.slice Ap p.out.length cp) ∧
                  w'.cell? ⟨w8.heap.size, 4, none⟩ = some (.int .i64 p.steps) ∧ w'.cell? ⟨w12.heap.size, 4, none⟩ = some (.int .i64 p.steps) ∧ w'.rangeAt w8.heap.size 5 ms ∧ w'.rangeAt w12.heap.size 5 ms := fun w' hb =>
                ⟨kept_of_below hb _ _ HOO.out, kept_of_below hb _ _ HQQ.out, kept_of_below hb _ _ HP13.out.cells.2.1, kept_of_below hb _ _ (HOC13.out 4 (by omega)), kept_of_below hb _ _ HP13.out.cells.2.2,
                  hmr w' _ (fun i hi => kept_of_below hb _ _ ((HOC13.out (5 + i) (by omega)).trans (by rw [show 263 + (5 + i) = 268 + i by omega, cellM_mem _ _ hi]))),
                  hmr w' _ (fun i hi => kept_of_below hb _ _ ((HP13.out.1 (5 + i) (by omega)).trans (by rw [show 263 + (5 + i) = 268 + i by omega, cellM_mem _ _ hi])))⟩
              have hu30 := Try.underlying30
              have hz30 : (Try.prog.info? 30).map (·.size) = some ms.length := by rw [hml64]; exact words_size
              have hst8 : ((p.steps : Int) == (p.steps : Int)) = true := by simp
              clear hms hmr
              have HSH := Lib.hid hS
              clear hS
              rcases hee with ⟨rfl, rfl⟩ | ⟨⟨te, xe, rfl⟩, ⟨te2, xe2, rfl⟩⟩
              all_goals
                dsimp only
                go_step
                iterate 4 (first | (go_step; go_simp; go_step) | (go_step; go_step))
                refine wpList_store_any _ rfl 32 (.tmp 18) (.tmp 88) rfl _ _ (by rfl) (by rfl) hst ?_
                clear hst
                go_upto_region 20 with fail
                have hS := HSH.out
                generalize w12.heap.size = b12 at hS ⊢
                generalize w8.heap.size = b8 at hS ⊢
                generalize hb0e : w.heap.size = b0 at hS ⊢
                have HB0E := Lib.hid hb0e
                clear hb0e
                have hS0 := hS _ (Below.refl w13.heap.size w13).drew
                refine wp_region_held_drew (S := (fun w' => w'.cell? ⟨g0, 0, none⟩ = some (.slice A1 m.length c1) ∧ w'.cell? ⟨b0, 0, none⟩ = some (.slice A m.length c) ∧ w'.cell? ⟨b12, 3, none⟩ = some (.slice Ap p.out.length cp) ∧ w'.cell? ⟨b8, 4, none⟩ = some (.int .i64 p.steps) ∧ w'.cell? ⟨b12, 4, none⟩ = some (.int .i64 p.steps) ∧ w'.rangeAt b8 5 ms ∧ w'.rangeAt b12 5 ms)) (by kernel_rfl) hS0 (fun hHeld => ?_)
                clear hHeld
                refine takeH (i := 0) (some 90) (v := ?_) rfl (by kernel_rfl) (by kernel_rfl) (by kernel_rfl) (fun _ _ _ h => h) hS0 (fun o ho => ?_) ?_
                rotate_left
                · simp only [List.getElem?_toArray, List.getElem?_cons_zero, Option.some.injEq] at ho; subst ho; refine Or.inl ⟨by rfl, fun w' hSw => ?_⟩; (try dsimp only at hSw); go_simp; try with_reducible rfl
                simp only [Act.put, List.setIfInBounds_toArray, List.set_cons_zero, List.set_cons_succ]
                refine takeH (i := 1) (some 91) (v := ?_) rfl (by kernel_rfl) (by kernel_rfl) (by kernel_rfl) (fun _ _ _ h => h) hS0 (fun o ho => ?_) ?_
                rotate_left
                · simp only [List.getElem?_toArray, List.getElem?_cons_zero, List.getElem?_cons_succ, Option.some.injEq] at ho; subst ho; refine Or.inl ⟨by rfl, fun w' hSw => ?_⟩; (try dsimp only at hSw); go_simp; try with_reducible rfl
                simp only [Act.put, List.setIfInBounds_toArray, List.set_cons_zero, List.set_cons_succ]
                refine takeH (i := 2) (some 92) (v := ?_) rfl (by kernel_rfl) (by kernel_rfl) (by kernel_rfl) (fun _ _ _ h => h) hS0 (fun o ho => ?_) ?_
                rotate_left
                · simp only [List.getElem?_toArray, List.getElem?_cons_zero, List.getElem?_cons_succ, Option.some.injEq] at ho; subst ho; refine Or.inl ⟨by rfl, fun w' hSw => ?_⟩; (try dsimp only at hSw); go_simp; try with_reducible rfl
                simp only [Act.put, List.setIfInBounds_toArray, List.set_cons_zero, List.set_cons_succ]
                refine takeH (i := 3) (some 93) (v := ?_) rfl (by kernel_rfl) (by kernel_rfl) (by kernel_rfl) (fun _ _ _ h => h) hS0 (fun o ho => ?_) ?_
                rotate_left
                · simp only [List.getElem?_toArray, List.getElem?_cons_zero, List.getElem?_cons_succ, Option.some.injEq] at ho; subst ho; refine Or.inl ⟨by rfl, fun w' hSw => ?_⟩; (try dsimp only at hSw); go_simp; try with_reducible rfl
                simp only [Act.put, List.setIfInBounds_toArray, List.set_cons_zero, List.set_cons_succ]
                refine oneH (i := 4) (by kernel_rfl) (fun o ho K hK => ?_)
                simp only [List.getElem?_toArray, List.getElem?_cons_zero, List.getElem?_cons_succ, Option.some.injEq] at ho; subst ho
                go_simp
                refine HSSD.out.mono ?_
                rintro e w14 ⟨rfl, hb14⟩
                have hS1 := hS _ hb14
                have HB14 := Lib.hid hb14
                clear hb14 hS0
                go_wp2_with fail
                refine hK.out _ _ hS1 ?_
                clear hK K
                try simp only [Act.put, List.setIfInBounds_toArray, List.set_cons_zero, List.set_cons_succ]
                refine takeH (i := 5) (some 95) (v := ?_) rfl (by kernel_rfl) (by kernel_rfl) (by kernel_rfl) (fun _ _ _ h => h) hS1 (fun o ho => ?_) ?_
                rotate_left
                · simp only [List.getElem?_toArray, List.getElem?_cons_zero, List.getElem?_cons_succ, Option.some.injEq] at ho; subst ho; refine Or.inl ⟨by rfl, fun w' hSw => ?_⟩; (try dsimp only at hSw); go_simp; try with_reducible rfl
                simp only [Act.put, List.setIfInBounds_toArray, List.set_cons_zero, List.set_cons_succ]
                refine takeH (i := 6) (some 96) (v := ?_) rfl (by kernel_rfl) (by kernel_rfl) (by kernel_rfl) (fun _ _ _ h => h) hS1 (fun o ho => ?_) ?_
                rotate_left
                · simp only [List.getElem?_toArray, List.getElem?_cons_zero, List.getElem?_cons_succ, Option.some.injEq] at ho; subst ho; refine Or.inl ⟨by rfl, fun w' hSw => ?_⟩; (try dsimp only at hSw); go_simp; try with_reducible rfl
                simp only [Act.put, List.setIfInBounds_toArray, List.set_cons_zero, List.set_cons_succ]
                refine takeH (i := 7) (some 97) (v := ?_) rfl (by kernel_rfl) (by kernel_rfl) (by kernel_rfl) (fun _ _ _ h => h) hS1 (fun o ho => ?_) ?_
                rotate_left
                · simp only [List.getElem?_toArray, List.getElem?_cons_zero, List.getElem?_cons_succ, Option.some.injEq] at ho; subst ho; refine Or.inl ⟨by rfl, fun w' hSw => ?_⟩; (try dsimp only at hSw); go_simp; try with_reducible rfl
                simp only [Act.put, List.setIfInBounds_toArray, List.set_cons_zero, List.set_cons_succ]
                refine takeH (i := 8) (some 98) (v := ?_) rfl (by kernel_rfl) (by kernel_rfl) (by kernel_rfl) (fun _ _ _ h => h) hS1 (fun o ho => ?_) ?_
                rotate_left
                · simp only [List.getElem?_toArray, List.getElem?_cons_zero, List.getElem?_cons_succ, Option.some.injEq] at ho; subst ho; refine Or.inl ⟨by rfl, fun w' hSw => ?_⟩; (try dsimp only at hSw); go_simp; try with_reducible rfl
                simp only [Act.put, List.setIfInBounds_toArray, List.set_cons_zero, List.set_cons_succ]
                refine takeH (i := 9) (some 99) (v := ?_) rfl (by kernel_rfl) (by kernel_rfl) (by kernel_rfl) (fun _ _ _ h => h) hS1 (fun o ho => ?_) ?_
                rotate_left
                · simp only [List.getElem?_toArray, List.getElem?_cons_zero, List.getElem?_cons_succ, Option.some.injEq] at ho; subst ho; refine Or.inl ⟨by rfl, fun w' hSw => ?_⟩; (try dsimp only at hSw); go_simp; try with_reducible rfl
                simp only [Act.put, List.setIfInBounds_toArray, List.set_cons_zero, List.set_cons_succ]
                refine takeH (i := 10) (some 100) (v := ?_) rfl (by kernel_rfl) (by kernel_rfl) (by kernel_rfl) (fun _ _ _ h => h) hS1 (fun o ho => ?_) ?_
                rotate_left
                · simp only [List.getElem?_toArray, List.getElem?_cons_zero, List.getElem?_cons_succ, Option.some.injEq] at ho; subst ho; refine Or.inl ⟨by rfl, fun w' hSw => ?_⟩; (try dsimp only at hSw); go_simp; try with_reducible rfl
                simp only [Act.put, List.setIfInBounds_toArray, List.set_cons_zero, List.set_cons_succ]
                refine takeH (i := 11) (some 101) (v := ?_) rfl (by kernel_rfl) (by kernel_rfl) (by kernel_rfl) (fun _ _ _ h => h) hS1 (fun o ho => ?_) ?_
                rotate_left
                · simp only [List.getElem?_toArray, List.getElem?_cons_zero, List.getElem?_cons_succ, Option.some.injEq] at ho; subst ho; refine Or.inl ⟨by rfl, fun w' hSw => ?_⟩; (try dsimp only at hSw); go_simp; try with_reducible rfl
                simp only [Act.put, List.setIfInBounds_toArray, List.set_cons_zero, List.set_cons_succ]
                refine takeH (i := 12) (some 102) (v := ?_) rfl (by kernel_rfl) (by kernel_rfl) (by kernel_rfl) (fun _ _ _ h => h) hS1 (fun o ho => ?_) ?_
                rotate_left
                · simp only [List.getElem?_toArray, List.getElem?_cons_zero, List.getElem?_cons_succ, Option.some.injEq] at ho; subst ho; refine Or.inl ⟨by rfl, fun w' hSw => ?_⟩; (try dsimp only at hSw); go_simp; try with_reducible rfl
                simp only [Act.put, List.setIfInBounds_toArray, List.set_cons_zero, List.set_cons_succ]
                refine takeH (i := 13) (some 103) (v := ?_) rfl (by kernel_rfl) (by kernel_rfl) (by kernel_rfl) (fun _ _ _ h => h) hS1 (fun o ho => ?_) ?_
                rotate_left
                · simp only [List.getElem?_toArray, List.getElem?_cons_zero, List.getElem?_cons_succ, Option.some.injEq] at ho; subst ho; refine Or.inl ⟨by rfl, fun w' hSw => ?_⟩; (try dsimp only at hSw); go_simp; try with_reducible rfl
                simp only [Act.put, List.setIfInBounds_toArray, List.set_cons_zero, List.set_cons_succ]
                refine takeH (i := 14) (some 104) (v := ?_) rfl (by kernel_rfl) (by kernel_rfl) (by kernel_rfl) (fun _ _ _ h => h) hS1 (fun o ho => ?_) ?_
                rotate_left
                · simp only [List.getElem?_toArray, List.getElem?_cons_zero, List.getElem?_cons_succ, Option.some.injEq] at ho; subst ho; refine Or.inl ⟨by rfl, fun w' hSw => ?_⟩; (try dsimp only at hSw); go_simp; try with_reducible rfl
                simp only [Act.put, List.setIfInBounds_toArray, List.set_cons_zero, List.set_cons_succ]
                refine takeH (i := 15) (some 105) (v := ?_) rfl (by kernel_rfl) (by kernel_rfl) (by kernel_rfl) (fun _ _ _ h => h) hS1 (fun o ho => ?_) ?_
                rotate_left
                · simp only [List.getElem?_toArray, List.getElem?_cons_zero, List.getElem?_cons_succ, Option.some.injEq] at ho; subst ho; refine Or.inl ⟨by rfl, fun w' hSw => ?_⟩; (try dsimp only at hSw); go_simp; try with_reducible rfl
                simp only [Act.put, List.setIfInBounds_toArray, List.set_cons_zero, List.set_cons_succ]
                refine takeH (i := 16) (some 106) (v := ?_) rfl (by kernel_rfl) (by kernel_rfl) (by kernel_rfl) (fun _ _ _ h => h) hS1 (fun o ho => ?_) ?_
                rotate_left
                · simp only [List.getElem?_toArray, List.getElem?_cons_zero, List.getElem?_cons_succ, Option.some.injEq] at ho; subst ho; refine Or.inl ⟨by rfl, fun w' hSw => ?_⟩; (try dsimp only at hSw); go_simp; try with_reducible rfl
                simp only [Act.put, List.setIfInBounds_toArray, List.set_cons_zero, List.set_cons_succ]
                refine oneH (i := 17) (by kernel_rfl) (fun o ho K hK => ?_)
                simp only [List.getElem?_toArray, List.getElem?_cons_zero, List.getElem?_cons_succ, Option.some.injEq] at ho; subst ho
                go_simp
                refine (HALL.out _ HB14.out).mono ?_
                rintro e w15 ⟨rfl, hb15⟩
                have hS2 := hS _ hb15
                have HBA := Lib.hid hb15
                clear hb15 hS1
                go_wp2_with fail
                refine hK.out _ _ hS2 ?_
                clear hK K
                try simp only [Act.put, List.setIfInBounds_toArray, List.set_cons_zero, List.set_cons_succ]
                refine takeH (i := 18) (some 108) (v := ?_) rfl (by kernel_rfl) (by kernel_rfl) (by kernel_rfl) (fun _ _ _ h => h) hS2 (fun o ho => ?_) ?_
                rotate_left
                · simp only [List.getElem?_toArray, List.getElem?_cons_zero, List.getElem?_cons_succ, Option.some.injEq] at ho; subst ho; refine Or.inl ⟨by rfl, fun w' hSw => ?_⟩; (try dsimp only at hSw); go_simp; try with_reducible rfl
                simp only [Act.put, List.setIfInBounds_toArray, List.set_cons_zero, List.set_cons_succ]
                refine takeH (i := 19) (some 109) (v := ?_) rfl (by kernel_rfl) (by kernel_rfl) (by kernel_rfl) (fun _ _ _ h => h) hS2 (fun o ho => ?_) ?_
                rotate_left
                · simp only [List.getElem?_toArray, List.getElem?_cons_zero, List.getElem?_cons_succ, Option.some.injEq] at ho; subst ho; refine Or.inl ⟨by rfl, fun w' hSw => ?_⟩; (try dsimp only at hSw); go_simp; try with_reducible rfl
                simp only [Act.put, List.setIfInBounds_toArray, List.set_cons_zero, List.set_cons_succ]
                refine takeH (i := 20) (some 110) (v := ?_) rfl (by kernel_rfl) (by kernel_rfl) (by kernel_rfl) (fun _ _ _ h => h) hS2 (fun o ho => ?_) ?_
                rotate_left
                · simp only [List.getElem?_toArray, List.getElem?_cons_zero, List.getElem?_cons_succ, Option.some.injEq] at ho; subst ho; refine Or.inl ⟨by rfl, fun w' hSw => ?_⟩; (try dsimp only at hSw); go_simp; try with_reducible rfl
                simp only [Act.put, List.setIfInBounds_toArray, List.set_cons_zero, List.set_cons_succ]
                refine takeH (i := 21) (some 111) (v := ?_) rfl (by kernel_rfl) (by kernel_rfl) (by kernel_rfl) (fun _ _ _ h => h) hS2 (fun o ho => ?_) ?_
                rotate_left
                · simp only [List.getElem?_toArray, List.getElem?_cons_zero, List.getElem?_cons_succ, Option.some.injEq] at ho; subst ho; refine Or.inl ⟨by rfl, fun w' hSw => ?_⟩; (try dsimp only at hSw); go_simp; try with_reducible rfl
                simp only [Act.put, List.setIfInBounds_toArray, List.set_cons_zero, List.set_cons_succ]
                refine takeH (i := 22) (some 112) (v := ?_) rfl (by kernel_rfl) (by kernel_rfl) (by kernel_rfl) (fun _ _ _ h => h) hS2 (fun o ho => ?_) ?_
                rotate_left
                · simp only [List.getElem?_toArray, List.getElem?_cons_zero, List.getElem?_cons_succ, Option.some.injEq] at ho; subst ho; refine Or.inl ⟨by rfl, fun w' hSw => ?_⟩; (try dsimp only at hSw); go_simp; try with_reducible rfl
                simp only [Act.put, List.setIfInBounds_toArray, List.set_cons_zero, List.set_cons_succ]
                refine takeH (i := 23) (some 113) (v := ?_) rfl (by kernel_rfl) (by kernel_rfl) (by kernel_rfl) (fun _ _ _ h => h) hS2 (fun o ho => ?_) ?_
                rotate_left
                · simp only [List.getElem?_toArray, List.getElem?_cons_zero, List.getElem?_cons_succ, Option.some.injEq] at ho; subst ho; refine Or.inl ⟨by rfl, fun w' hSw => ?_⟩; (try dsimp only at hSw); go_simp; try with_reducible rfl
                simp only [Act.put, List.setIfInBounds_toArray, List.set_cons_zero, List.set_cons_succ]
                refine takeH (i := 24) (some 114) (v := ?_) rfl (by kernel_rfl) (by kernel_rfl) (by kernel_rfl) (fun _ _ _ h => h) hS2 (fun o ho => ?_) ?_
                rotate_left
                · simp only [List.getElem?_toArray, List.getElem?_cons_zero, List.getElem?_cons_succ, Option.some.injEq] at ho; subst ho; refine Or.inl ⟨by rfl, fun w' hSw => ?_⟩; (try dsimp only at hSw); go_simp; try with_reducible rfl
                simp only [Act.put, List.setIfInBounds_toArray, List.set_cons_zero, List.set_cons_succ]
                refine takeH (i := 25) (some 115) (v := ?_) rfl (by kernel_rfl) (by kernel_rfl) (by kernel_rfl) (fun _ _ _ h => h) hS2 (fun o ho => ?_) ?_
                rotate_left
                · simp only [List.getElem?_toArray, List.getElem?_cons_zero, List.getElem?_cons_succ, Option.some.injEq] at ho; subst ho; refine Or.inl ⟨by rfl, fun w' hSw => ?_⟩; (try dsimp only at hSw); go_simp; try with_reducible rfl
                simp only [Act.put, List.setIfInBounds_toArray, List.set_cons_zero, List.set_cons_succ]
                refine takeH (i := 26) (some 116) (v := ?_) rfl (by kernel_rfl) (by kernel_rfl) (by kernel_rfl) (fun _ _ _ h => h) hS2 (fun o ho => ?_) ?_
                rotate_left
                · simp only [List.getElem?_toArray, List.getElem?_cons_zero, List.getElem?_cons_succ, Option.some.injEq] at ho; subst ho; refine Or.inl ⟨by rfl, fun w' hSw => ?_⟩; (try dsimp only at hSw); go_simp; try with_reducible rfl
                simp only [Act.put, List.setIfInBounds_toArray, List.set_cons_zero, List.set_cons_succ]
                refine takeH (i := 27) (some 117) (v := ?_) rfl (by kernel_rfl) (by kernel_rfl) (by kernel_rfl) (fun _ _ _ h => h) hS2 (fun o ho => ?_) ?_
                rotate_left
                · simp only [List.getElem?_toArray, List.getElem?_cons_zero, List.getElem?_cons_succ, Option.some.injEq] at ho; subst ho; refine Or.inl ⟨by rfl, fun w' hSw => ?_⟩; (try dsimp only at hSw); go_simp; try with_reducible rfl
                simp only [Act.put, List.setIfInBounds_toArray, List.set_cons_zero, List.set_cons_succ]
                refine takeH (i := 28) (some 118) (v := .agg ms.toArray) rfl (by kernel_rfl) (by kernel_rfl) (by kernel_rfl) (fun _ _ _ h => h) hS2 (fun o ho => ?_) ?_
                · simp only [List.getElem?_toArray, List.getElem?_cons_zero, List.getElem?_cons_succ, Option.some.injEq] at ho; subst ho; exact yieldsIf_load_mid (by rfl) 30 (.tmp 117) rfl b8 5 rfl ms _ (fun w' hSw => hSw.2.2.2.2.2.1) hu30 rfl hz30
                simp only [Act.put, List.setIfInBounds_toArray, List.set_cons_zero, List.set_cons_succ]
                refine takeH (i := 29) (some 119) (v := ?_) rfl (by kernel_rfl) (by kernel_rfl) (by kernel_rfl) (fun _ _ _ h => h) hS2 (fun o ho => ?_) ?_
                rotate_left
                · simp only [List.getElem?_toArray, List.getElem?_cons_zero, List.getElem?_cons_succ, Option.some.injEq] at ho; subst ho; refine Or.inl ⟨by rfl, fun w' hSw => ?_⟩; (try dsimp only at hSw); go_simp; try with_reducible rfl
                simp only [Act.put, List.setIfInBounds_toArray, List.set_cons_zero, List.set_cons_succ]
                refine takeH (i := 30) (some 120) (v := .agg ms.toArray) rfl (by kernel_rfl) (by kernel_rfl) (by kernel_rfl) (fun _ _ _ h => h) hS2 (fun o ho => ?_) ?_
                · simp only [List.getElem?_toArray, List.getElem?_cons_zero, List.getElem?_cons_succ, Option.some.injEq] at ho; subst ho; exact yieldsIf_load_mid (by rfl) 30 (.tmp 119) rfl b12 5 rfl ms _ (fun w' hSw => hSw.2.2.2.2.2.2) hu30 rfl hz30
                simp only [Act.put, List.setIfInBounds_toArray, List.set_cons_zero, List.set_cons_succ]
                refine takeH (i := 31) (some 121) (v := ?_) rfl (by kernel_rfl) (by kernel_rfl) (by kernel_rfl) (fun _ _ _ h => h) hS2 (fun o ho => ?_) ?_
                rotate_left
                · simp only [List.getElem?_toArray, List.getElem?_cons_zero, List.getElem?_cons_succ, Option.some.injEq] at ho; subst ho; refine Or.inl ⟨by rfl, fun w' hSw => ?_⟩; (try dsimp only at hSw); go_simp; try with_reducible rfl
                simp only [Act.put, List.setIfInBounds_toArray, List.set_cons_zero, List.set_cons_succ]
                refine takeH (i := 32) (some 122) (v := ?_) rfl (by kernel_rfl) (by kernel_rfl) (by kernel_rfl) (fun _ _ _ h => h) hS2 (fun o ho => ?_) ?_
                rotate_left
                · simp only [List.getElem?_toArray, List.getElem?_cons_zero, List.getElem?_cons_succ, Option.some.injEq] at ho; subst ho; refine Or.inl ⟨by rfl, fun w' hSw => ?_⟩; (try dsimp only at hSw); go_simp; try with_reducible rfl
                simp only [Act.put, List.setIfInBounds_toArray, List.set_cons_zero, List.set_cons_succ]
                refine takeH (i := 33) (some 8) (v := ?_) rfl (by kernel_rfl) (by kernel_rfl) (by kernel_rfl) (fun _ _ _ h => h) hS2 (fun o ho => ?_) ?_
                rotate_left
                · simp only [List.getElem?_toArray, List.getElem?_cons_zero, List.getElem?_cons_succ, Option.some.injEq] at ho; subst ho; refine Or.inl ⟨by rfl, fun w' hSw => ?_⟩; (try dsimp only at hSw); go_simp; try with_reducible rfl
                simp only [Act.put, List.setIfInBounds_toArray, List.set_cons_zero, List.set_cons_succ]
                refine wpAnyH_done (by kernel_rfl) ?_ _
                go_wp2_with fail
                go_ret
                first
                  | exact ⟨rfl, HB13.out.trans (HBA.out.mono HB13.out.size)⟩
                  | exact ⟨rfl, by rw [← HB0E.out]; exact HB13.out.trans (HBA.out.mono HB13.out.size)⟩
end Go.Proofs.Ytogbmpgepchioaa
