/- The walk of CodeWhole, given that ofInstr does what the document says. -/
import Derived.Test.YtmhodjbplohmiaaDoorBya
import Derived.Test.YtmhodjbplohmiaaDoorSmall
namespace Go.Proofs.YtmhodjbplohmiaaDoor
open Go.ChangeShapes Go.WideShapes Go.RowKit Go.Deep
set_option linter.unusedVariables false

/-- The number in n's place, when it is below 0. -/
def wholeN (n : Int) : Int := if n < 0 then -(n + 1) else n

set_option maxRecDepth 100000 in
set_option maxHeartbeats 4000000 in
theorem codeWhole_walk (OI : OfIns) (m : List FunD) (vm vb : Value) (n : Int) (bs : List UInt8) (w : World) (hm : VMod w vm m) (hn : (Lit.int .i64 n).wf = true) (hb : VBytes w vb bs) (hg : HoldsErr w) :
    Calls Tryd.prog 4 #[vm, .int .i64 n, vb] w fun e w' => e = .returned (.bool true) ∧ Below w.heap.size w w' := by
  have hm0 := hm
  have hb0 := hb
  have hn64 := bounds_i64 hn
  clear hn
  obtain ⟨A, c, rfl, hms⟩ := hm
  obtain ⟨B, d, rfl, hbs⟩ := hb
  have hbl := hbs.len
  go_enter Tryd.func4, Tryd.ntmps4
  go_wp2_with fail
  obtain ⟨w1, hw1, hs1, hk1, hB1, hc1, -⟩ := named w #[.slice A m.length c] 24
  rw [← hw1]
  have q0 : w1.cell? ⟨w.heap.size, 0, none⟩ = some (.slice A m.length c) := hc1 0 _ rfl
  have hz1 : w.heap.size < w1.heap.size := by omega
  clear hw1 hc1 hs1
  refine (up_any OI w1 (holdsErr_below _ _ _ hg hg.pos hB1)).mono ?_
  rintro e w2 ⟨rfl, hb2⟩
  have hk2 := kept_of_below hb2
  have hB2 : Below w.heap.size w w2 := hB1.trans (hb2.mono hB1.size)
  have q0 := hk2 _ _ q0
  have hK2 := hk1.trans hk2
  go_wp2_with fail
  refine (small_any m _ _ (VMod.keep hK2 hm0)).mono ?_
  rintro e w3 ⟨⟨b1, rfl, hsm⟩, hb3⟩
  have hk3 := kept_of_below hb3
  have hB3 : Below w.heap.size w w3 := hB2.trans (hb3.mono hB2.size)
  have q0 := hk3 _ _ q0
  have hK3 := hK2.trans hk3
  clear hb2 hk2 hK2 hB2 hk3 hb3 hk1 hB1
  cases b1
  · go_wp2_with fail
    go_ret
    exact ⟨rfl, hB3⟩
  · have HSM := Lib.hid (hsm rfl)
    clear hsm
    by_cases hlen : 1000 < bs.length
    · have hl1 : decide ((1000 : Int) < bs.length) = true := by simp; omega
      go_wp2_with fail
      go_ret
      exact ⟨rfl, hB3⟩
    · have hl1 : decide ((1000 : Int) < bs.length) = false := by simp; omega
      go_wp2_with fail
      refine (encode_any OI m _ w3 (VMod.keep hK3 hm0) (lim_of_small HSM.out)).mono ?_
      rintro e w4 ⟨x1, v1, rfl, he1, -, hn1, hb4⟩
      have hk4 := kept_of_below hb4
      have hB4 : Below w.heap.size w w4 := hB3.trans (hb4.mono hB3.size)
      have q0 := hk4 _ _ q0
      have hK4 := hK3.trans hk4
      clear hb4 hk4 hK3 hB3
      by_cases hp : (modE m).1 = 0
      rotate_left
      · obtain ⟨ty, x, rfl⟩ := he1.iface hp
        clear he1 hn1
        go_wp2_with fail
        go_ret
        exact ⟨rfl, hB4⟩
      · obtain rfl := he1.nil hp
        obtain ⟨g1, c1, rfl, hs1⟩ := bytes_of_new (hn1 hp)
        have hokm := ok_of_proper hp (imms_of hm0)
        have hml := mod_len hokm
        have hpos : 0 < (modB m).length := by unfold modB markB; simp
        clear he1 hn1
        have HCUT : Hid (∀ k : Nat, k < (modB m).length → (decE ((modB m).take k)).1 ≠ 0) := Lib.hid (fun k hk h => by
          obtain ⟨n', -, hok', he', -⟩ := dec_ok h
          have h2 : modB m = modB n' ++ (modB m).drop k := by rw [← he', List.take_append_drop]
          have h3 := congrArg List.length (modB_more hokm hok' h2)
          rw [List.length_drop] at h3
          simp at h3
          omega)
        have HADD : Hid (∀ r : List UInt8, ((decE (modB m ++ r)).1 = 0) ↔ r = []) := Lib.hid (fun r => ⟨fun h => by
          obtain ⟨n', -, hok', he', -⟩ := dec_ok h
          exact modB_more hok' hokm he'.symm, fun h => by
          subst h
          rw [List.append_nil, (dec_of_mod hokm hp).1]
          exact hp⟩)
        generalize modB m = ys at *
        have HP := Lib.hid hp
        have hys1 : ys.length ≤ 9223372036854775807 := by omega
        have hysz : ((ys.length : Int) == 0) = false := by rw [beq_eq_false_iff_ne]; omega
        clear hp
        have hyc := hs1.1
        have hcl : c1 ≤ 9223372036854775807 := by have := hs1.2.1.1; unfold maxLen at this; omega
        by_cases hneg : n < 0
        · have hm1 : 0 ≤ -(n + 1).tmod (ys.length : Int) := by
            have : (n + 1).tmod (ys.length : Int) = -((-(n + 1)).tmod ys.length) := by rw [Int.neg_tmod]; omega
            have := Int.tmod_nonneg (a := -(n + 1)) (ys.length : Int) (by omega)
            omega
          have hm2 : -(n + 1).tmod (ys.length : Int) < ys.length := by have := Int.lt_tmod_of_pos (n + 1) (b := ys.length) (by omega); omega
          have hm3 : -(n + 1).tmod (ys.length : Int) ≤ c1 := by omega
          go_wp2_with fail
          obtain ⟨k, hk, hkl⟩ : ∃ k : Nat, (-(n + 1).tmod (ys.length : Int)).toNat = k ∧ k < ys.length := ⟨_, rfl, by omega⟩
          rw [hk]
          clear hk
          have HD1 : Hid (Calls Tryd.prog 9 #[.slice (some ⟨g1, 0, none⟩) k c1] w4 (ToldD (ys.take k) w4)) := Lib.hid (by
            have h := decode_any OI (ys.take k) (some ⟨g1, 0, none⟩) c1 w4 (SL.takeN hs1 (by omega))
            rwa [show (ys.take k).length = k by rw [List.length_take]; omega] at h)
          have HC1 := Lib.hid (HCUT.out k hkl)
          generalize ys.take k = yk at *
          refine HD1.out.mono ?_
          rintro e w5 ⟨A5, c5, ev5, rfl, hm5, he5, hb5⟩
          obtain ⟨ty5, x5, rfl⟩ := he5.iface HC1.out
          generalize decM yk = md at *
          have hB5 : Below w.heap.size w w5 := hB4.trans (hb5.mono hB4.size)
          have hz5 : w.heap.size ≤ w5.heap.size := hB5.size
          have hsX := SBytes.keep ((kept_of_below hb5).trans ((kept_alloc w5 (.cells #[.slice A5 md.length c5] 24)).trans (kept_alloc _ (.cells #[] 5)))) hs1
          have hbX := SBytes.keep ((kept_of_below hB5).trans ((kept_alloc w5 (.cells #[.slice A5 md.length c5] 24)).trans (kept_alloc _ (.cells #[] 5)))) hbs
          have hBX : Below w.heap.size w ((w5.alloc (.cells #[.slice A5 md.length c5] 24)).alloc (.cells #[] 5)) := (hB5.alloc hz5 _).alloc (by simp; omega) _
          have hoX : ((w5.alloc (.cells #[.slice A5 md.length c5] 24)).alloc (.cells #[] 5)).ownsRow w.heap.size 5 1 (.slice (some ⟨w5.heap.size + 1, 0, none⟩) 0 0) ([] : List UInt8).length (([] : List UInt8).map bv) :=
            ⟨rfl, .inr ⟨w5.heap.size + 1, 0, #[], rfl, by omega, by
              have h := heap_alloc_new (w5.alloc (.cells #[.slice A5 md.length c5] 24)) (.cells #[] 5)
              rwa [show (w5.alloc (.cells #[.slice A5 md.length c5] 24)).heap.size = w5.heap.size + 1 by simp] at h, Nat.le_refl _, Nat.zero_le _, rfl, rfl⟩⟩
          clear he5 HD1 HC1
          go_wp2_with (first
            | (at_builtin; refine wpList_append_bytes rfl (.tmp 60) (.tmp 61) rfl w.heap.size (.slice (some ⟨w5.heap.size + 1, 0, none⟩) 0 0) [] ys _ _ _ rfl rfl hoX hsX rfl hBX.size (by simp; omega) ?_; intro v6 w6 ho6 hg6 hat6; have hB6 : Below w.heap.size w w6 := hBX.grown hg6 hBX.size (fun k hk => (hoX.lt k hk).1); have hb6 : SL w6 1 RByte B d bs := SBytes.keep (kept_of_below hB6) hbs; rw [List.nil_append] at ho6; clear hg6 hat6)
            | (at_builtin; refine wpList_append_bytes rfl (.tmp 62) (.tmp 63) rfl w.heap.size v6 ys bs _ _ _ rfl rfl ho6 hb6 rfl hB6.size (by omega) ?_; intro v7 w7 ho7 hg7 hat7; have hB7 : Below w.heap.size w w7 := hB6.grown hg7 hB6.size (fun k hk => (ho6.lt k hk).1); obtain ⟨g7, c7, rfl, -, -⟩ := ho7.form (by rw [List.length_append]; omega); clear hg7 hat7))
          obtain ⟨gx, cx, ex, hs7⟩ := bytes_of_new (w := w) (w' := w7) (ys := ys ++ bs) ⟨g7, c7, rfl, ho7⟩
          cases ex
          have HD2 : Hid (Calls Tryd.prog 9 #[.slice (some ⟨g7, 0, none⟩) (ys.length + bs.length) c7] w7 (ToldD (ys ++ bs) w7)) := Lib.hid (by
            have h := decode_any OI (ys ++ bs) _ _ w7 hs7
            rwa [List.length_append] at h)
          have HA := Lib.hid (HADD.out bs)
          generalize ys ++ bs = zs at *
          refine HD2.out.mono ?_
          rintro e w8 ⟨A8, c8, ev8, rfl, hm8, he8, hb8⟩
          have hB8 : Below w.heap.size w w8 := hB7.trans (hb8.mono hB7.size)
          clear ho7 hs7 HD2
          by_cases hmore : bs = []
          · obtain rfl := he8.nil (HA.out.2 hmore)
            have hlb : decide ((0 : Int) < bs.length) = false := by rw [hmore]; rfl
            have hlb2 : ¬ (0 : Int) < bs.length := by rw [hmore]; simp
            have HLN : Hid (decide (0 < bs.length) = false) := Lib.hid (by rw [hmore]; rfl)
            clear hmore he8
            go_wp2_with fail
            go_ret
            exact ⟨by show Ending.returned (.bool (!decide (0 < bs.length))) = _; rw [HLN.out]; rfl, hB8.alloc hB8.size _⟩
          · obtain ⟨ty8, x8, rfl⟩ := he8.iface (fun h => hmore (HA.out.1 h))
            have hlb2 : (0 : Int) < bs.length := by have := List.length_pos_iff.2 hmore; omega
            have hlb : decide ((0 : Int) < bs.length) = true := by simpa using hlb2
            have HLN : Hid (decide (0 < bs.length) = true) := Lib.hid (by simpa using List.length_pos_iff.2 hmore)
            clear hmore he8
            go_wp2_with fail
            go_ret
            exact ⟨by show Ending.returned (.bool (decide (0 < bs.length))) = _; rw [HLN.out], hB8.alloc hB8.size _⟩
        · have hn0 : 0 ≤ n := by omega
          have hm1 : 0 ≤ n % (ys.length : Int) := Int.emod_nonneg _ (by omega)
          have hm2 : n % (ys.length : Int) < ys.length := Int.emod_lt_of_pos _ (by omega)
          have hm3 : n % (ys.length : Int) ≤ c1 := by omega
          go_wp2_with fail
          obtain ⟨k, hk, hkl⟩ : ∃ k : Nat, (n % (ys.length : Int)).toNat = k ∧ k < ys.length := ⟨_, rfl, by omega⟩
          rw [hk]
          clear hk
          have HD1 : Hid (Calls Tryd.prog 9 #[.slice (some ⟨g1, 0, none⟩) k c1] w4 (ToldD (ys.take k) w4)) := Lib.hid (by
            have h := decode_any OI (ys.take k) (some ⟨g1, 0, none⟩) c1 w4 (SL.takeN hs1 (by omega))
            rwa [show (ys.take k).length = k by rw [List.length_take]; omega] at h)
          have HC1 := Lib.hid (HCUT.out k hkl)
          generalize ys.take k = yk at *
          refine HD1.out.mono ?_
          rintro e w5 ⟨A5, c5, ev5, rfl, hm5, he5, hb5⟩
          obtain ⟨ty5, x5, rfl⟩ := he5.iface HC1.out
          generalize decM yk = md at *
          have hB5 : Below w.heap.size w w5 := hB4.trans (hb5.mono hB4.size)
          have hz5 : w.heap.size ≤ w5.heap.size := hB5.size
          have hsX := SBytes.keep ((kept_of_below hb5).trans ((kept_alloc w5 (.cells #[.slice A5 md.length c5] 24)).trans (kept_alloc _ (.cells #[] 5)))) hs1
          have hbX := SBytes.keep ((kept_of_below hB5).trans ((kept_alloc w5 (.cells #[.slice A5 md.length c5] 24)).trans (kept_alloc _ (.cells #[] 5)))) hbs
          have hBX : Below w.heap.size w ((w5.alloc (.cells #[.slice A5 md.length c5] 24)).alloc (.cells #[] 5)) := (hB5.alloc hz5 _).alloc (by simp; omega) _
          have hoX : ((w5.alloc (.cells #[.slice A5 md.length c5] 24)).alloc (.cells #[] 5)).ownsRow w.heap.size 5 1 (.slice (some ⟨w5.heap.size + 1, 0, none⟩) 0 0) ([] : List UInt8).length (([] : List UInt8).map bv) :=
            ⟨rfl, .inr ⟨w5.heap.size + 1, 0, #[], rfl, by omega, by
              have h := heap_alloc_new (w5.alloc (.cells #[.slice A5 md.length c5] 24)) (.cells #[] 5)
              rwa [show (w5.alloc (.cells #[.slice A5 md.length c5] 24)).heap.size = w5.heap.size + 1 by simp] at h, Nat.le_refl _, Nat.zero_le _, rfl, rfl⟩⟩
          clear he5 HD1 HC1
          go_wp2_with (first
            | (at_builtin; refine wpList_append_bytes rfl (.tmp 60) (.tmp 61) rfl w.heap.size (.slice (some ⟨w5.heap.size + 1, 0, none⟩) 0 0) [] ys _ _ _ rfl rfl hoX hsX rfl hBX.size (by simp; omega) ?_; intro v6 w6 ho6 hg6 hat6; have hB6 : Below w.heap.size w w6 := hBX.grown hg6 hBX.size (fun k hk => (hoX.lt k hk).1); have hb6 : SL w6 1 RByte B d bs := SBytes.keep (kept_of_below hB6) hbs; rw [List.nil_append] at ho6; clear hg6 hat6)
            | (at_builtin; refine wpList_append_bytes rfl (.tmp 62) (.tmp 63) rfl w.heap.size v6 ys bs _ _ _ rfl rfl ho6 hb6 rfl hB6.size (by omega) ?_; intro v7 w7 ho7 hg7 hat7; have hB7 : Below w.heap.size w w7 := hB6.grown hg7 hB6.size (fun k hk => (ho6.lt k hk).1); obtain ⟨g7, c7, rfl, -, -⟩ := ho7.form (by rw [List.length_append]; omega); clear hg7 hat7))
          obtain ⟨gx, cx, ex, hs7⟩ := bytes_of_new (w := w) (w' := w7) (ys := ys ++ bs) ⟨g7, c7, rfl, ho7⟩
          cases ex
          have HD2 : Hid (Calls Tryd.prog 9 #[.slice (some ⟨g7, 0, none⟩) (ys.length + bs.length) c7] w7 (ToldD (ys ++ bs) w7)) := Lib.hid (by
            have h := decode_any OI (ys ++ bs) _ _ w7 hs7
            rwa [List.length_append] at h)
          have HA := Lib.hid (HADD.out bs)
          generalize ys ++ bs = zs at *
          refine HD2.out.mono ?_
          rintro e w8 ⟨A8, c8, ev8, rfl, hm8, he8, hb8⟩
          have hB8 : Below w.heap.size w w8 := hB7.trans (hb8.mono hB7.size)
          clear ho7 hs7 HD2
          by_cases hmore : bs = []
          · obtain rfl := he8.nil (HA.out.2 hmore)
            have hlb : decide ((0 : Int) < bs.length) = false := by rw [hmore]; rfl
            have hlb2 : ¬ (0 : Int) < bs.length := by rw [hmore]; simp
            have HLN : Hid (decide (0 < bs.length) = false) := Lib.hid (by rw [hmore]; rfl)
            clear hmore he8
            go_wp2_with fail
            go_ret
            exact ⟨by show Ending.returned (.bool (!decide (0 < bs.length))) = _; rw [HLN.out]; rfl, hB8.alloc hB8.size _⟩
          · obtain ⟨ty8, x8, rfl⟩ := he8.iface (fun h => hmore (HA.out.1 h))
            have hlb2 : (0 : Int) < bs.length := by have := List.length_pos_iff.2 hmore; omega
            have hlb : decide ((0 : Int) < bs.length) = true := by simpa using hlb2
            have HLN : Hid (decide (0 < bs.length) = true) := Lib.hid (by simpa using List.length_pos_iff.2 hmore)
            clear hmore he8
            go_wp2_with fail
            go_ret
            exact ⟨by show Ending.returned (.bool (decide (0 < bs.length))) = _; rw [HLN.out], hB8.alloc hB8.size _⟩
end Go.Proofs.YtmhodjbplohmiaaDoor
