/- The walk of CodeStays, given that ofInstr does what the document says. -/
import Derived.Test.YtmhodjbplohmiaaGreatDoorBya
import Derived.Test.YtmhodjbplohmiaaGreatDoorSmall
import Derived.Test.YtmhodjbplohmiaaGreatDoorSameF
import Derived.Test.YtmhodjbplohmiaaGreatDoorCopyM
import Derived.Test.YtmhodjbplohmiaaGreatDoorLast
namespace Go.Proofs.YtmhodjbplohmiaaGreatDoor
open Go.ChangeShapes Go.WideShapes Go.RowKit Go.Deep
set_option linter.unusedVariables false

/-- Bytes that may be written over. -/
def OvW (w : World) (g n : Nat) : Prop := ∀ j, j < n → (∃ x : Int, w.cell? ⟨g, j, none⟩ = some (.int .u8 x)) ∧ w.frozen? ⟨g, j, none⟩ = false
theorem OvW.set {w : World} {g n : Nat} (h : OvW w g n) (k : Nat) (y : Int) : OvW (w.setCell ⟨g, k, none⟩ (.int .u8 y)) g n := fun j hj => by
  obtain ⟨⟨x, hx⟩, hf⟩ := h j hj
  refine ⟨?_, by rw [World.frozen?_setCell]; exact hf⟩
  by_cases e : (⟨g, k, none⟩ : Addr) = ⟨g, j, none⟩
  · rw [e]; exact ⟨y, World.cell?_setCell_same _ _ _ hx⟩
  · exact ⟨x, (World.cell?_setCell_other _ _ _ _ e).trans hx⟩
theorem OvW.below {w w' : World} {g n : Nat} (h : OvW w g n) (hb : Below w.heap.size w w') : OvW w' g n := fun j hj => by
  obtain ⟨⟨x, hx⟩, hf⟩ := h j hj
  have hg : g < w.heap.size := block_lt_of_cell hx
  exact ⟨⟨x, (hb.cell (p := ⟨g, j, none⟩) hg).trans hx⟩, (hb.frozen (p := ⟨g, j, none⟩) hg).trans hf⟩
/-- Where there are bytes, they lie there, and may be written over. -/
def OvIf (w : World) (A : Option Addr) (G n : Nat) : Prop := 0 < n → A = some ⟨G, 0, none⟩ ∧ OvW w G n
theorem OvIf.set {w : World} {G n : Nat} (h : OvIf w (some ⟨G, 0, none⟩) G n) (k : Nat) (y : Int) : OvIf (w.setCell ⟨G, k, none⟩ (.int .u8 y)) (some ⟨G, 0, none⟩) G n := fun hn => ⟨rfl, (h hn).2.set k y⟩
/-- A row of bytes that the call owns. -/
theorem own_bytes {w : World} {base : Nat} {v : Value} {ys : List UInt8} (h : w.ownsRow base 5 1 v ys.length (ys.map bv)) (hb : base ≤ w.heap.size) :
    ∃ A c G, v = .slice A ys.length c ∧ SL w 1 RByte A c ys ∧ base ≤ G ∧ (0 < ys.length → A = some ⟨G, 0, none⟩ ∧ G < w.heap.size ∧ OvW w G ys.length) := by
  rcases h.2 with ⟨rfl, h0⟩ | ⟨g, c, cur, rfl, h1, hh, hn, hc, hsz, ht⟩
  · obtain rfl : ys = [] := List.length_eq_zero_iff.1 h0
    exact ⟨none, 0, base, rfl, bytes_none 0 (by unfold maxLen; omega) (fun _ => rfl), Nat.le_refl _, fun h => absurd h (by simp)⟩
  · obtain ⟨g', c', e, hs⟩ := bytes_of_new (w := { w with heap := w.heap.extract 0 base }) (w' := w) (ys := ys) ⟨g, c, rfl, by
      have : (w.heap.extract 0 base).size = base := by simp; omega
      show w.ownsRow (w.heap.extract 0 base).size _ _ _ _ _
      rw [this]; exact h⟩
    cases e
    refine ⟨_, c, g, rfl, hs, h1, fun _ => ⟨rfl, block_lt hh, fun j hj => ⟨?_, h.frozenAt j⟩⟩⟩
    obtain ⟨x, hx⟩ : ∃ x, ys[j]? = some x := ⟨_, List.getElem?_eq_getElem hj⟩
    have := h.cells (g := g) rfl j (bv x) (by rw [List.getElem?_map, hx]; rfl)
    rw [add_plain', Nat.zero_add] at this
    exact ⟨_, this⟩
/-- What Encode tells, the error aside. -/
def encB (m : List FunD) : List UInt8 := if (modE m).1 = 0 then modB m else []
theorem told_enc {m : List FunD} {w w' : World} {b : Value} (h1 : (modE m).1 ≠ 0 → b = .slice none 0 0) (h2 : (modE m).1 = 0 → NewB w w' b (modB m)) (hs : w.heap.size ≤ w'.heap.size) :
    ∃ A c G, b = .slice A (encB m).length c ∧ SL w' 1 RByte A c (encB m) ∧ w.heap.size ≤ G ∧ (0 < (encB m).length → A = some ⟨G, 0, none⟩ ∧ G < w'.heap.size ∧ OvW w' G (encB m).length) := by
  by_cases hp : (modE m).1 = 0
  · have e : encB m = modB m := if_pos hp
    obtain ⟨g, cap, rfl, ho⟩ := h2 hp
    rw [e]
    exact own_bytes ho hs
  · have e : encB m = [] := if_neg hp
    rw [e, h1 hp]
    exact ⟨none, 0, w.heap.size, rfl, bytes_none 0 (by unfold maxLen; omega) (fun _ => rfl), Nat.le_refl _, fun h => absurd h (by simp)⟩
theorem enc_len {m : List FunD} (hi : Imms m) : (encB m).length ≤ 3000000000 := by
  unfold encB
  split
  · exact mod_len (ok_of_proper ‹_› hi)
  · simp
/-- Two errors that are told of one and the same thing: both nil, or neither. -/
theorem both_err {w w' : World} {v v' : Value} {p : Int × Int} (h : ErrAt w v p) (h' : ErrAt w' v' p) : (v = .nilIface ∧ v' = .nilIface) ∨ ∃ t x t' x', v = .iface t x ∧ v' = .iface t' x' := by
  by_cases hp : p.1 = 0
  · exact .inl ⟨h.nil hp, h'.nil hp⟩
  · obtain ⟨t, x, e⟩ := h.iface hp
    obtain ⟨t', x', e'⟩ := h'.iface hp
    exact .inr ⟨t, x, t', x', e, e'⟩

set_option maxRecDepth 100000 in
set_option maxHeartbeats 8000000 in
theorem codeStays_walk (OI : OfIns) (m : List FunD) (vm vb : Value) (bs : List UInt8) (w : World) (hm : VMod w vm m) (hb : VBytes w vb bs) (hg : HoldsErr w) :
    Calls Tryz.prog 5 #[vm, vb] w fun e w' => e = .returned (.bool true) ∧ Below w.heap.size w w' := by
  have hm0 := hm
  have hb0 := hb
  have hel := enc_len (imms_of hm)
  obtain ⟨A, c, rfl, hms⟩ := hm
  obtain ⟨B, d, rfl, hbs⟩ := hb
  have hbl := hbs.len
  go_enter Tryz.func5, Tryz.ntmps5
  go_wp2_with fail
  obtain ⟨w1, hw1, hs1, hk1, hB1, hc1, -⟩ := named w #[.slice A m.length c] 24
  rw [← hw1]
  have q0 : w1.cell? ⟨w.heap.size, 0, none⟩ = some (.slice A m.length c) := hc1 0 _ rfl
  have hz1 : w.heap.size < w1.heap.size := by omega
  clear hw1 hc1 hs1
  refine (up_any OI w1 (holdsErr_below _ _ _ hg hg.pos hB1)).mono ?_
  rintro e w2 ⟨rfl, hb2⟩
  have hk2 := kept_of_below hb2
  have hB2 : Below w.heap.size w w2 := hB1.trans (hb2.mono hB1.size)
  have q0 := hk2 _ _ q0
  go_wp2_with fail
  refine (small_any m _ _ (VMod.keep (kept_of_below hB2) hm0)).mono ?_
  rintro e w3 ⟨⟨b1, rfl, hsm⟩, hb3⟩
  have hk3 := kept_of_below hb3
  have hB3 : Below w.heap.size w w3 := hB2.trans (hb3.mono hB2.size)
  have q0 := hk3 _ _ q0
  clear hb2 hk2 hB2 hk3 hb3 hk1 hB1
  cases b1
  · go_wp2_with fail
    go_ret
    exact ⟨rfl, hB3⟩
  · have HSM := Lib.hid (hsm rfl)
    clear hsm
    by_cases hlen : 4000 < bs.length
    · have hl1 : decide ((4000 : Int) < bs.length) = true := by simp; omega
      go_wp2_with fail
      go_ret
      exact ⟨rfl, hB3⟩
    · have hl1 : decide ((4000 : Int) < bs.length) = false := by simp; omega
      go_wp2_with fail
      refine (copy_any m _ _ (VMod.keep (kept_of_below hB3) hm0) HSM.out).mono ?_
      rintro e w4 ⟨⟨r, rfl, A4, c4, rfl, hcp⟩, hb4⟩
      have hB4 : Below w.heap.size w w4 := hB3.trans (hb4.mono hB3.size)
      have q0 := kept_of_below hb4 _ _ q0
      have hl4 : w.heap.size < w4.heap.size := block_lt_of_cell q0
      have hcp : SL w4 4 RFun A4 c4 m := SL.imp RFunB.plain hcp
      go_wp2_with fail
      obtain ⟨w5, hw5, hs5, hk5, hb5, hc5, -⟩ := named w4 #[.slice A4 m.length c4] 24
      rw [← hw5]
      have hB5 : Below w.heap.size w w5 := hB4.trans (hb5.mono hB4.size)
      have q0 := hk5 _ _ q0
      have o0 : w5.cell? ⟨w4.heap.size, 0, none⟩ = some (.slice A4 m.length c4) := hc5 0 _ rfl
      have hown : SL w5 4 RFun A4 c4 m := SFuns.keep hk5 hcp
      have hl5 : w4.heap.size < w5.heap.size := by omega
      obtain ⟨N4, hN4⟩ : ∃ N4, N4 = w4.heap.size := ⟨_, rfl⟩
      rw [← hN4] at o0 hl5 hl4 ⊢
      clear hw5 hc5 hcp hb4 hB3 hB4 hb5 hs5 hk5 hN4
      refine (encode_any OI m _ w5 ⟨A4, c4, rfl, hown⟩ (lim_of_small HSM.out)).mono ?_
      rintro e w6 ⟨x1, v1, rfl, he1, hx1, hn1, hb6⟩
      have hB6 : Below w.heap.size w w6 := hB5.trans (hb6.mono hB5.size)
      have hk6 := kept_of_below hb6
      have q6 := hk6 _ _ q0
      have o6 := hk6 _ _ o0
      obtain ⟨A1, c1, G1, rfl, hs1, hG1, hov1⟩ := told_enc hx1 hn1 hb6.size
      clear hx1 hn1
      have HE1 := Lib.hid he1
      have HY := Lib.hid hel
      obtain ⟨ys, hys⟩ : ∃ ys, encB m = ys := ⟨_, rfl⟩
      rw [hys] at hs1 hov1 HY ⊢
      have HYS := Lib.hid hys
      clear hys
      have q5 := Lib.hid q0
      clear he1 hel q0 o0
      go_wp2_with fail
      refine (same_any m m _ _ w6 ⟨A4, c4, rfl, SFuns.keep hk6 hown⟩ (VMod.keep (kept_of_below hB6) hm0)).mono ?_
      rintro e w7 ⟨rfl, hb7⟩
      have hB7 : Below w.heap.size w w7 := hB6.trans (hb7.mono hB6.size)
      have hk7 := kept_of_below hb7
      have hb57 : Below w5.heap.size w5 w7 := hb6.trans (hb7.mono hb6.size)
      have hcv1 := conv_bytes (SBytes.keep hk7 hs1)
      have q7 := hk7 _ _ q6
      have hov7 : OvIf w7 A1 G1 ys.length := fun h => ⟨(hov1 h).1, (hov1 h).2.2.below hb7⟩
      have HOV := Lib.hid hov7
      have hyl : ys.length ≤ 9223372036854775807 := by have := HY.out; omega
      rw [same_yes rfl]
      clear hov1 hov7 q6 o6 hk7
      go_wp2_with fail
      go_loopw [11] (fun i wr => ∃ k : Nat, k ≤ ys.length ∧ i = .int .i64 k ∧ Below w5.heap.size w5 wr ∧ Hid (OvIf wr A1 G1 ys.length)) (fun i _ => ys.length - (intOf i).toNat)
      case atStart => exact ⟨0, Nat.zero_le _, rfl, hb57, HOV⟩
      case round =>
        obtain ⟨k, hk, rfl, hbr, hov⟩ := hrel
        by_cases hlt : k < ys.length
        · obtain ⟨rfl, ho⟩ := hov.out (by omega)
          obtain ⟨⟨x, hx⟩, hf⟩ := ho k hlt
          have hk0 : (0 : Int) ≤ k := by omega
          have hk1 : (k : Int) < ys.length := by omega
          clear ho hcv1
          go_wp2_with fail
          go_roundw
          case rel => exact ⟨k + 1, by omega, by go_num, hbr.setCell (by exact hG1) _, Lib.hid (hov.out.set k _)⟩
          case measure => simp [intOf]; omega
        · obtain ⟨w8, rfl⟩ : ∃ w8, w8 = wr := ⟨wr, rfl⟩
          have q8 := kept_of_below hbr _ _ q5.out
          have hB8 : Below w.heap.size w w8 := hB5.trans (hbr.mono hB5.size)
          have hz8 : w.heap.size < w8.heap.size := block_lt_of_cell q8
          clear hcv1 q7 hb57 HOV hov hbr
          go_wp2_with fail
          refine (encode_any OI m _ w8 (VMod.keep (kept_of_below hB8) hm0) (lim_of_small HSM.out)).mono ?_
          rintro e w9 ⟨x2, v2, rfl, he2, hx2, hn2, hb9⟩
          have hB9 : Below w.heap.size w w9 := hB8.trans (hb9.mono hB8.size)
          obtain ⟨A2, c2, G2, rfl, hs2, -, -⟩ := told_enc hx2 hn2 hb9.size
          have hez : encB m = ys := HYS.out
          rw [hez] at hs2 ⊢
          have HE2 := Lib.hid he2
          clear hx2 hn2 he2 hez
          have hz9 : w.heap.size ≤ w9.heap.size := hB9.size
          have hoX : (w9.alloc (.cells #[] 5)).ownsRow w9.heap.size 5 1 (.slice (some ⟨w9.heap.size, 0, none⟩) 0 0) ([] : List UInt8).length (([] : List UInt8).map bv) :=
            ⟨rfl, .inr ⟨w9.heap.size, 0, #[], rfl, Nat.le_refl _, heap_alloc_new _ _, Nat.le_refl _, Nat.zero_le _, rfl, rfl⟩⟩
          have hbX := SBytes.keep ((kept_of_below hB9).trans (kept_alloc w9 (.cells #[] 5))) hbs
          have hBX : Below w9.heap.size w9 (w9.alloc (.cells #[] 5)) := (Below.refl _ _).alloc (Nat.le_refl _) _
          go_wp2_with (at_builtin; refine wpList_append_bytes rfl (.tmp 64) (.tmp 65) rfl w9.heap.size (.slice (some ⟨w9.heap.size, 0, none⟩) 0 0) [] bs _ _ _ rfl rfl hoX hbX rfl hBX.size (by simp; omega) ?_; intro v6 w10 ho6 hg6 hat6; have hb10 : Below w9.heap.size w9 w10 := hBX.grown hg6 hBX.size (fun k hk => (hoX.lt k hk).1); rw [List.nil_append] at ho6; obtain ⟨A6, c6, G6, rfl, hs6, hG6, hov6⟩ := own_bytes ho6 hb10.size; clear hg6 hat6 ho6)
          have hB10 : Below w.heap.size w w10 := hB9.trans (hb10.mono hB9.size)
          have hs29 := SBytes.keep (kept_of_below hb10) hs2
          refine (decode_own OI bs A6 c6 w10 hs6).mono ?_
          rintro e w11 ⟨A11, c11, v11, rfl, hm11, he11, hb11⟩
          obtain ⟨md, hmd⟩ : ∃ md, md = decM bs := ⟨_, rfl⟩
          rw [← hmd] at hm11 ⊢
          have hDM := Lib.hid hmd
          clear hmd
          have hB11 : Below w.heap.size w w11 := hB10.trans (hb11.mono hB10.size)
          have hmdl := hm11.len
          obtain ⟨w12, hw12, hs12, hk12, hb12, hc12, -⟩ := named w11 #[.slice A11 md.length c11] 24
          have u12 : w12.cell? ⟨w11.heap.size, 0, none⟩ = some (.slice A11 md.length c11) := hc12 0 _ rfl
          have hB12 : Below w.heap.size w w12 := hB11.trans (hb12.mono hB11.size)
          have hcv2 := conv_bytes (SBytes.keep ((kept_of_below hb11).trans hk12) hs6)
          have hcv3 := conv_bytes (SBytes.keep (kept_of_below hB12) hbs)
          have hov12 : OvIf w12 A6 G6 bs.length := fun h => ⟨(hov6 h).1, ((hov6 h).2.2.below hb11).below hb12⟩
          have HG6 : 0 < bs.length → G6 < w10.heap.size := fun h => (hov6 h).2.1
          have HOV := Lib.hid hov12
          have hb912 : Below w9.heap.size w9 w12 := hb10.trans ((hb11.mono hb10.size).trans (hb12.mono (by have := hb10.size; have := hb11.size; omega)))
          have hz11 : w10.heap.size ≤ w11.heap.size := hb11.size
          have HE11 := Lib.hid he11
          have HM12 := Lib.hid (SL.imp (RFunB.go (KeptB.of hk12) (fun b hb => hb)) hm11)
          obtain ⟨N11, hN11⟩ : ∃ N11, N11 = w11.heap.size := ⟨_, rfl⟩
          clear hov6 hov12 he11 hm11 hc12 hk12 hb12 hs12
          rw [hw12] at hcv2 hcv3
          have HW12 := Lib.hid hw12
          have HN11 := Lib.hid hN11
          rw [← hN11] at u12 hz11
          clear hw12 hN11
          go_wp2_with fail
          rw [← HW12.out, ← HN11.out]
          go_loopw [18] (fun i wr => ∃ k : Nat, k ≤ bs.length ∧ i = .int .i64 k ∧ Below w9.heap.size w9 wr ∧ KeptB (fun b => w10.heap.size ≤ b) w12 wr ∧ Hid (OvIf wr A6 G6 bs.length)) (fun i _ => bs.length - (intOf i).toNat)
          case atStart => exact ⟨0, Nat.zero_le _, rfl, hb912, KeptB.of (Kept.refl _), HOV⟩
          case round =>
            obtain ⟨k, hk, rfl, hbr, hkr, hov⟩ := hrel
            by_cases hlt : k < bs.length
            · obtain ⟨rfl, ho⟩ := hov.out (by omega)
              obtain ⟨⟨x, hx⟩, hf⟩ := ho k hlt
              have hgl := HG6 (by omega)
              have hk0 : (0 : Int) ≤ k := by omega
              have hk1 : (k : Int) < bs.length := by omega
              clear ho hcv2 hcv3
              go_wp2_with fail
              go_roundw
              case rel => exact ⟨k + 1, by omega, by go_num, hbr.setCell (by exact hG6) _, hkr.trans ((keptB_set _ ⟨G6, k, none⟩ _).mono (fun b hb => by show b ≠ G6; omega)), Lib.hid (hov.out.set k _)⟩
              case measure => simp [intOf]; omega
            · obtain ⟨w13, rfl⟩ : ∃ w13, w13 = wr := ⟨wr, rfl⟩
              have hB13 : Below w.heap.size w w13 := hB9.trans (hbr.mono hB9.size)
              have u13 := hkr ⟨N11, 0, none⟩ _ hz11 u12
              have hM13 := SL.imp (RFunB.go hkr (fun b hb => hb)) HM12.out
              have hy13 := SBytes.keep (kept_of_below hbr) hs2
              clear hcv2 hcv3 u12 hb912 HOV hov hbr hkr HM12
              go_wp2_with fail
              refine (decode_own OI bs B d w13 (SBytes.keep (kept_of_below hB13) hbs)).mono ?_
              rintro e w14 ⟨A14, c14, v14, rfl, hm14, he14, hb14⟩
              rw [← hDM.out] at hm14 ⊢
              have hB14 : Below w.heap.size w w14 := hB13.trans (hb14.mono hB13.size)
              have u14 := kept_of_below hb14 _ _ u13
              have hz14 : N11 < w14.heap.size := block_lt_of_cell u14
              obtain ⟨w15, hw15, hs15, hk15, hb15, hc15, -⟩ := named w14 #[.slice A14 md.length c14] 24
              have v15 : w15.cell? ⟨w14.heap.size, 0, none⟩ = some (.slice A14 md.length c14) := hc15 0 _ rfl
              have u15 := hk15 _ _ u14
              have hB15 : Below w.heap.size w w15 := hB14.trans (hb15.mono hB14.size)
              have hy15 := SBytes.keep ((kept_of_below hb14).trans hk15) hy13
              have hU15 : SL w15 4 RFun A11 c11 md := SFuns.keep hk15 (SFuns.keep (kept_of_below hb14) (SL.imp RFunB.plain hM13))
              have hV15 : SL w15 4 RFun A14 c14 md := SFuns.keep hk15 (SL.imp RFunB.plain hm14)
              have HSAME := Lib.hid (same_any md md _ _ w15.drew ⟨A11, c11, rfl, SFuns.keep (w' := w15.drew) (Kept.refl w15) hU15⟩ ⟨A14, c14, rfl, SFuns.keep (w' := w15.drew) (Kept.refl w15) hV15⟩)
              obtain ⟨N14, hN14⟩ : ∃ N14, N14 = w14.heap.size := ⟨_, rfl⟩
              have hE12 := both_err HE1.out HE2.out
              have hE34 := both_err HE11.out he14
              rw [← hN14] at v15
              clear hy13 u13 u14 hM13 hm14 he14 hs15 hk15 hc15 hU15 hV15 HE1 HE2 HE11 hb15
              have hmm : same md md = true := same_yes rfl
              rw [hmm] at HSAME
              clear hmm
              rcases hE12 with ⟨rfl, rfl⟩ | ⟨t1, y1, t2, y2, rfl, rfl⟩ <;> rcases hE34 with ⟨rfl, rfl⟩ | ⟨t3, y3, t4, y4, rfl, rfl⟩
              all_goals
                have HW15 := Lib.hid hw15
                have HN14 := Lib.hid hN14
                clear hw15 hN14
                go_wp2_with fail
                rw [← HW15.out, ← HN14.out]
                refine wp_region_last (L := 29) (S := fun w' => w'.cell? ⟨N11, 0, none⟩ = some (.slice A11 md.length c11) ∧ w'.cell? ⟨N14, 0, none⟩ = some (.slice A14 md.length c14) ∧ SL w' 1 RByte A2 c2 ys) (by kernel_rfl) (by rfl) (by kernel_rfl) (by kernel_rfl) ?_
                change wpAnyH _ _ _ _ _ _ _ _ (World.drew _)
                have hS : ∀ w', Below w15.heap.size w15 w' → w'.cell? ⟨N11, 0, none⟩ = some (.slice A11 md.length c11) ∧ w'.cell? ⟨N14, 0, none⟩ = some (.slice A14 md.length c14) ∧ SL w' 1 RByte A2 c2 ys :=
                  fun w' h => ⟨kept_of_below h _ _ u15, kept_of_below h _ _ v15, SBytes.keep (kept_of_below h) hy15⟩
                have hS0 := hS w15.drew (Below.refl _ _).drew
                clear u15 v15 hy15
                refine takeH (i := 0) (some 96) (v := ?_) rfl (by kernel_rfl) (by kernel_rfl) (by kernel_rfl) (fun _ _ _ h => h) hS0 (fun o ho => ?_) ?_
                rotate_left
                · simp only [List.getElem?_toArray, List.getElem?_cons_zero, Option.some.injEq] at ho; subst ho; refine Or.inl ⟨by rfl, fun w' hSw => ?_⟩; (try dsimp only at hSw); go_simp; try with_reducible rfl
                simp only [Act.put, List.setIfInBounds_toArray, List.set_cons_zero, List.set_cons_succ]
                refine takeH (i := 1) (some 97) (v := ?_) rfl (by kernel_rfl) (by kernel_rfl) (by kernel_rfl) (fun _ _ _ h => h) hS0 (fun o ho => ?_) ?_
                rotate_left
                · simp only [List.getElem?_toArray, List.getElem?_cons_zero, List.getElem?_cons_succ, Option.some.injEq] at ho; subst ho; refine Or.inl ⟨by rfl, fun w' hSw => ?_⟩; (try dsimp only at hSw); go_simp; try with_reducible rfl
                simp only [Act.put, List.setIfInBounds_toArray, List.set_cons_zero, List.set_cons_succ]
                refine takeH (i := 2) (some 98) (v := ?_) rfl (by kernel_rfl) (by kernel_rfl) (by kernel_rfl) (fun _ _ _ h => h) hS0 (fun o ho => ?_) ?_
                rotate_left
                · simp only [List.getElem?_toArray, List.getElem?_cons_zero, List.getElem?_cons_succ, Option.some.injEq] at ho; subst ho; refine Or.inl ⟨by rfl, fun w' hSw => ?_⟩; (try dsimp only at hSw); go_simp; try with_reducible rfl
                simp only [Act.put, List.setIfInBounds_toArray, List.set_cons_zero, List.set_cons_succ]
                refine takeH (i := 3) (some 99) (v := ?_) rfl (by kernel_rfl) (by kernel_rfl) (by kernel_rfl) (fun _ _ _ h => h) hS0 (fun o ho => ?_) ?_
                rotate_left
                · simp only [List.getElem?_toArray, List.getElem?_cons_zero, List.getElem?_cons_succ, Option.some.injEq] at ho; subst ho; refine Or.inl ⟨by rfl, fun w' hSw => ?_⟩; (try dsimp only at hSw); go_simp; try with_reducible rfl
                simp only [Act.put, List.setIfInBounds_toArray, List.set_cons_zero, List.set_cons_succ]
                refine takeH (i := 4) (some 100) (v := ?_) rfl (by kernel_rfl) (by kernel_rfl) (by kernel_rfl) (fun _ _ _ h => h) hS0 (fun o ho => ?_) ?_
                rotate_left
                · simp only [List.getElem?_toArray, List.getElem?_cons_zero, List.getElem?_cons_succ, Option.some.injEq] at ho; subst ho; refine Or.inl ⟨by rfl, fun w' hSw => ?_⟩; (try dsimp only at hSw); go_simp; try with_reducible rfl
                simp only [Act.put, List.setIfInBounds_toArray, List.set_cons_zero, List.set_cons_succ]
                refine takeH (i := 5) (some 101) (v := ?_) rfl (by kernel_rfl) (by kernel_rfl) (by kernel_rfl) (fun _ _ _ h => h) hS0 (fun o ho => ?_) ?_
                rotate_left
                · simp only [List.getElem?_toArray, List.getElem?_cons_zero, List.getElem?_cons_succ, Option.some.injEq] at ho; subst ho; refine Or.inl ⟨by rfl, fun w' hSw => ?_⟩; (try dsimp only at hSw); go_simp; try with_reducible rfl
                simp only [Act.put, List.setIfInBounds_toArray, List.set_cons_zero, List.set_cons_succ]
                refine takeH (i := 6) (some 102) (v := ?_) rfl (by kernel_rfl) (by kernel_rfl) (by kernel_rfl) (fun _ _ _ h => h) hS0 (fun o ho => ?_) ?_
                rotate_left
                · simp only [List.getElem?_toArray, List.getElem?_cons_zero, List.getElem?_cons_succ, Option.some.injEq] at ho; subst ho; refine Or.inl ⟨by rfl, fun w' hSw => ?_⟩; (try dsimp only at hSw); go_simp; try with_reducible rfl
                simp only [Act.put, List.setIfInBounds_toArray, List.set_cons_zero, List.set_cons_succ]
                refine takeH (i := 7) (some 103) (v := ?_) rfl (by kernel_rfl) (by kernel_rfl) (by kernel_rfl) (fun _ _ _ h => h) hS0 (fun o ho => ?_) ?_
                rotate_left
                · simp only [List.getElem?_toArray, List.getElem?_cons_zero, List.getElem?_cons_succ, Option.some.injEq] at ho; subst ho; refine Or.inl ⟨by rfl, fun w' hSw => ?_⟩; (try dsimp only at hSw); go_simp; try with_reducible rfl
                simp only [Act.put, List.setIfInBounds_toArray, List.set_cons_zero, List.set_cons_succ]
                refine takeH (i := 8) (some 104) (v := ?_) rfl (by kernel_rfl) (by kernel_rfl) (by kernel_rfl) (fun _ _ _ h => h) hS0 (fun o ho => ?_) ?_
                rotate_left
                · simp only [List.getElem?_toArray, List.getElem?_cons_zero, List.getElem?_cons_succ, Option.some.injEq] at ho; subst ho; refine Or.inl ⟨by rfl, fun w' hSw => ?_⟩; (try dsimp only at hSw); go_simp; try with_reducible rfl
                simp only [Act.put, List.setIfInBounds_toArray, List.set_cons_zero, List.set_cons_succ]
                refine takeH (i := 9) (some 105) (v := ?_) rfl (by kernel_rfl) (by kernel_rfl) (by kernel_rfl) (fun _ _ _ h => h) hS0 (fun o ho => ?_) ?_
                rotate_left
                · simp only [List.getElem?_toArray, List.getElem?_cons_zero, List.getElem?_cons_succ, Option.some.injEq] at ho; subst ho; refine Or.inl ⟨by rfl, fun w' hSw => ?_⟩; (try dsimp only at hSw); go_simp; try with_reducible rfl
                simp only [Act.put, List.setIfInBounds_toArray, List.set_cons_zero, List.set_cons_succ]
                refine takeH (i := 10) (some 106) (v := ?_) rfl (by kernel_rfl) (by kernel_rfl) (by kernel_rfl) (fun _ _ _ h => h) hS0 (fun o ho => ?_) ?_
                rotate_left
                · simp only [List.getElem?_toArray, List.getElem?_cons_zero, List.getElem?_cons_succ, Option.some.injEq] at ho; subst ho; refine Or.inl ⟨by rfl, fun w' hSw => ?_⟩; (try dsimp only at hSw); go_simp; try with_reducible rfl
                simp only [Act.put, List.setIfInBounds_toArray, List.set_cons_zero, List.set_cons_succ]
                refine takeH (i := 11) (some 107) (v := ?_) rfl (by kernel_rfl) (by kernel_rfl) (by kernel_rfl) (fun _ _ _ h => h) hS0 (fun o ho => ?_) ?_
                rotate_left
                · simp only [List.getElem?_toArray, List.getElem?_cons_zero, List.getElem?_cons_succ, Option.some.injEq] at ho; subst ho; refine Or.inl ⟨by rfl, fun w' hSw => ?_⟩; (try dsimp only at hSw); go_simp; try with_reducible rfl
                simp only [Act.put, List.setIfInBounds_toArray, List.set_cons_zero, List.set_cons_succ]
                refine takeH (i := 12) (some 108) (v := ?_) rfl (by kernel_rfl) (by kernel_rfl) (by kernel_rfl) (fun _ _ _ h => h) hS0 (fun o ho => ?_) ?_
                rotate_left
                · simp only [List.getElem?_toArray, List.getElem?_cons_zero, List.getElem?_cons_succ, Option.some.injEq] at ho; subst ho; refine Or.inl ⟨by rfl, fun w' hSw => ?_⟩; (try dsimp only at hSw); go_simp; try with_reducible rfl
                simp only [Act.put, List.setIfInBounds_toArray, List.set_cons_zero, List.set_cons_succ]
                refine takeH (i := 13) (some 109) (v := ?_) rfl (by kernel_rfl) (by kernel_rfl) (by kernel_rfl) (fun _ _ _ h => h) hS0 (fun o ho => ?_) ?_
                rotate_left
                · simp only [List.getElem?_toArray, List.getElem?_cons_zero, List.getElem?_cons_succ, Option.some.injEq] at ho; subst ho; refine Or.inl ⟨by rfl, fun w' hSw => ?_⟩; (try dsimp only at hSw); have hcv := conv_bytes hSw.2.2; go_simp; try with_reducible rfl
                simp only [Act.put, List.setIfInBounds_toArray, List.set_cons_zero, List.set_cons_succ]
                refine takeH (i := 14) (some 110) (v := ?_) rfl (by kernel_rfl) (by kernel_rfl) (by kernel_rfl) (fun _ _ _ h => h) hS0 (fun o ho => ?_) ?_
                rotate_left
                · simp only [List.getElem?_toArray, List.getElem?_cons_zero, List.getElem?_cons_succ, Option.some.injEq] at ho; subst ho; refine Or.inl ⟨by rfl, fun w' hSw => ?_⟩; (try dsimp only at hSw); go_simp; try with_reducible rfl
                simp only [Act.put, List.setIfInBounds_toArray, List.set_cons_zero, List.set_cons_succ]
                refine takeH (i := 15) (some 111) (v := ?_) rfl (by kernel_rfl) (by kernel_rfl) (by kernel_rfl) (fun _ _ _ h => h) hS0 (fun o ho => ?_) ?_
                rotate_left
                · simp only [List.getElem?_toArray, List.getElem?_cons_zero, List.getElem?_cons_succ, Option.some.injEq] at ho; subst ho; refine Or.inl ⟨by rfl, fun w' hSw => ?_⟩; (try dsimp only at hSw); go_simp; try with_reducible rfl
                simp only [Act.put, List.setIfInBounds_toArray, List.set_cons_zero, List.set_cons_succ]
                refine takeH (i := 16) (some 112) (v := ?_) rfl (by kernel_rfl) (by kernel_rfl) (by kernel_rfl) (fun _ _ _ h => h) hS0 (fun o ho => ?_) ?_
                rotate_left
                · simp only [List.getElem?_toArray, List.getElem?_cons_zero, List.getElem?_cons_succ, Option.some.injEq] at ho; subst ho; refine Or.inl ⟨by rfl, fun w' hSw => ?_⟩; (try dsimp only at hSw); go_simp; try with_reducible rfl
                simp only [Act.put, List.setIfInBounds_toArray, List.set_cons_zero, List.set_cons_succ]
                refine takeH (i := 17) (some 113) (v := ?_) rfl (by kernel_rfl) (by kernel_rfl) (by kernel_rfl) (fun _ _ _ h => h) hS0 (fun o ho => ?_) ?_
                rotate_left
                · simp only [List.getElem?_toArray, List.getElem?_cons_zero, List.getElem?_cons_succ, Option.some.injEq] at ho; subst ho; refine Or.inl ⟨by rfl, fun w' hSw => ?_⟩; (try dsimp only at hSw); go_simp; try with_reducible rfl
                simp only [Act.put, List.setIfInBounds_toArray, List.set_cons_zero, List.set_cons_succ]
                refine takeH (i := 18) (some 114) (v := ?_) rfl (by kernel_rfl) (by kernel_rfl) (by kernel_rfl) (fun _ _ _ h => h) hS0 (fun o ho => ?_) ?_
                rotate_left
                · simp only [List.getElem?_toArray, List.getElem?_cons_zero, List.getElem?_cons_succ, Option.some.injEq] at ho; subst ho; refine Or.inl ⟨by rfl, fun w' hSw => ?_⟩; (try dsimp only at hSw); go_simp; try with_reducible rfl
                simp only [Act.put, List.setIfInBounds_toArray, List.set_cons_zero, List.set_cons_succ]
                refine takeH (i := 19) (some 115) (v := ?_) rfl (by kernel_rfl) (by kernel_rfl) (by kernel_rfl) (fun _ _ _ h => h) hS0 (fun o ho => ?_) ?_
                rotate_left
                · simp only [List.getElem?_toArray, List.getElem?_cons_zero, List.getElem?_cons_succ, Option.some.injEq] at ho; subst ho; refine Or.inl ⟨by rfl, fun w' hSw => ?_⟩; (try dsimp only at hSw); go_simp; try with_reducible rfl
                simp only [Act.put, List.setIfInBounds_toArray, List.set_cons_zero, List.set_cons_succ]
                refine takeH (i := 20) (some 116) (v := ?_) rfl (by kernel_rfl) (by kernel_rfl) (by kernel_rfl) (fun _ _ _ h => h) hS0 (fun o ho => ?_) ?_
                rotate_left
                · simp only [List.getElem?_toArray, List.getElem?_cons_zero, List.getElem?_cons_succ, Option.some.injEq] at ho; subst ho; refine Or.inl ⟨by rfl, fun w' hSw => ?_⟩; (try dsimp only at hSw); go_simp; try with_reducible rfl
                simp only [Act.put, List.setIfInBounds_toArray, List.set_cons_zero, List.set_cons_succ]
                refine takeH (i := 21) (some 117) (v := ?_) rfl (by kernel_rfl) (by kernel_rfl) (by kernel_rfl) (fun _ _ _ h => h) hS0 (fun o ho => ?_) ?_
                rotate_left
                · simp only [List.getElem?_toArray, List.getElem?_cons_zero, List.getElem?_cons_succ, Option.some.injEq] at ho; subst ho; refine Or.inl ⟨by rfl, fun w' hSw => ?_⟩; (try dsimp only at hSw); go_simp; try with_reducible rfl
                simp only [Act.put, List.setIfInBounds_toArray, List.set_cons_zero, List.set_cons_succ]
                refine takeH (i := 22) (some 118) (v := ?_) rfl (by kernel_rfl) (by kernel_rfl) (by kernel_rfl) (fun _ _ _ h => h) hS0 (fun o ho => ?_) ?_
                rotate_left
                · simp only [List.getElem?_toArray, List.getElem?_cons_zero, List.getElem?_cons_succ, Option.some.injEq] at ho; subst ho; refine Or.inl ⟨by rfl, fun w' hSw => ?_⟩; (try dsimp only at hSw); go_simp; try with_reducible rfl
                simp only [Act.put, List.setIfInBounds_toArray, List.set_cons_zero, List.set_cons_succ]
                refine takeH (i := 23) (some 119) (v := ?_) rfl (by kernel_rfl) (by kernel_rfl) (by kernel_rfl) (fun _ _ _ h => h) hS0 (fun o ho => ?_) ?_
                rotate_left
                · simp only [List.getElem?_toArray, List.getElem?_cons_zero, List.getElem?_cons_succ, Option.some.injEq] at ho; subst ho; refine Or.inl ⟨by rfl, fun w' hSw => ?_⟩; (try dsimp only at hSw); go_simp; try with_reducible rfl
                simp only [Act.put, List.setIfInBounds_toArray, List.set_cons_zero, List.set_cons_succ]
                refine takeH (i := 24) (some 120) (v := ?_) rfl (by kernel_rfl) (by kernel_rfl) (by kernel_rfl) (fun _ _ _ h => h) hS0 (fun o ho => ?_) ?_
                rotate_left
                · simp only [List.getElem?_toArray, List.getElem?_cons_zero, List.getElem?_cons_succ, Option.some.injEq] at ho; subst ho; refine Or.inl ⟨by rfl, fun w' hSw => ?_⟩; (try dsimp only at hSw); go_simp; try with_reducible rfl
                simp only [Act.put, List.setIfInBounds_toArray, List.set_cons_zero, List.set_cons_succ]
                refine takeH (i := 25) (some 121) (v := ?_) rfl (by kernel_rfl) (by kernel_rfl) (by kernel_rfl) (fun _ _ _ h => h) hS0 (fun o ho => ?_) ?_
                rotate_left
                · simp only [List.getElem?_toArray, List.getElem?_cons_zero, List.getElem?_cons_succ, Option.some.injEq] at ho; subst ho; refine Or.inl ⟨by rfl, fun w' hSw => ?_⟩; (try dsimp only at hSw); go_simp; try with_reducible rfl
                simp only [Act.put, List.setIfInBounds_toArray, List.set_cons_zero, List.set_cons_succ]
                refine takeH (i := 26) (some 122) (v := ?_) rfl (by kernel_rfl) (by kernel_rfl) (by kernel_rfl) (fun _ _ _ h => h) hS0 (fun o ho => ?_) ?_
                rotate_left
                · simp only [List.getElem?_toArray, List.getElem?_cons_zero, List.getElem?_cons_succ, Option.some.injEq] at ho; subst ho; refine Or.inl ⟨by rfl, fun w' hSw => ?_⟩; (try dsimp only at hSw); go_simp; try with_reducible rfl
                simp only [Act.put, List.setIfInBounds_toArray, List.set_cons_zero, List.set_cons_succ]
                refine oneH (i := 27) (by kernel_rfl) (fun o ho K hK => ?_)
                simp only [List.getElem?_toArray, List.getElem?_cons_zero, List.getElem?_cons_succ, Option.some.injEq] at ho; subst ho
                go_simp
                refine HSAME.out.mono ?_
                rintro e w16 ⟨rfl, hb16⟩
                have hb16' : Below w15.heap.size w15 w16 := (Below.refl _ w15).drew.trans hb16
                have hS16 := hS w16 hb16'
                go_wp2_with fail
                refine hK.out _ _ hS16 ?_
                clear hK K
                refine takeH (i := 28) (some 124) (v := ?_) rfl (by kernel_rfl) (by kernel_rfl) (by kernel_rfl) (fun _ _ _ h => h) hS16 (fun o ho => ?_) ?_
                rotate_left
                · simp only [List.getElem?_toArray, List.getElem?_cons_zero, List.getElem?_cons_succ, Option.some.injEq] at ho; subst ho; refine Or.inl ⟨by rfl, fun w' hSw => ?_⟩; (try dsimp only at hSw); go_simp; try with_reducible rfl
                simp only [Act.put, List.setIfInBounds_toArray, List.set_cons_zero, List.set_cons_succ]
                refine wpAnyH_done (by kernel_rfl) ?_ _
                refine lastH (by decide) (fun o ho K hK => ?_)
                simp only [List.getElem?_toArray, List.getElem?_cons_zero, List.getElem?_cons_succ, Option.some.injEq] at ho; subst ho
                go_simp
                refine hK.out _ _ ?_
                clear hK K
                go_wp2_with fail
                go_ret
                exact ⟨rfl, hB15.trans (hb16'.mono hB15.size)⟩
end Go.Proofs.YtmhodjbplohmiaaGreatDoor
