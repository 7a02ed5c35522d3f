/- The walk of CodeBack, given that ofInstr does what the document says. -/
import Derived.Test.YtmhodjbplohmiaaDoorBya
import Derived.Test.YtmhodjbplohmiaaDoorSmall
import Derived.Test.YtmhodjbplohmiaaDoorSameF
namespace Go.Proofs.YtmhodjbplohmiaaDoor
open Go.ChangeShapes Go.WideShapes Go.RowKit Go.Deep
set_option linter.unusedVariables false

set_option maxRecDepth 100000 in
set_option maxHeartbeats 4000000 in
theorem codeBack_walk (OI : OfIns) (m : List FunD) (vm vb : Value) (bs : List UInt8) (w : World) (hm : VMod w vm m) (hb : VBytes w vb bs) (hg : HoldsErr w) :
    Calls Tryd.prog 3 #[vm, vb] w fun e w' => e = .returned (.bool true) ∧ Below w.heap.size w w' := by
  have hm0 := hm
  have hb0 := hb
  obtain ⟨A, c, rfl, hms⟩ := hm
  obtain ⟨B, d, rfl, hbs⟩ := hb
  have hbl := hbs.len
  go_enter Tryd.func3, Tryd.ntmps3
  go_wp2_with fail
  obtain ⟨w1, hw1, hs1, hk1, hB1, hc1, -⟩ := named w #[.slice A m.length c] 24
  rw [← hw1]
  have q0 : w1.cell? ⟨w.heap.size, 0, none⟩ = some (.slice A m.length c) := hc1 0 _ rfl
  have hz1 : w.heap.size < w1.heap.size := by omega
  clear hw1 hc1 hs1
  refine (up_any OI w1 (holdsErr_below _ _ _ hg hg.pos hB1)).mono ?_
  rintro e w2 ⟨rfl, hb2⟩
  have hk2 := kept_of_below hb2
  have hB2 : Below w.heap.size w w2 := hB1.trans (hb2.mono hB1.size)
  have q0 := hk2 _ _ q0
  have hK2 := hk1.trans hk2
  go_wp2_with fail
  refine (small_any m _ _ (VMod.keep hK2 hm0)).mono ?_
  rintro e w3 ⟨⟨b1, rfl, hsm⟩, hb3⟩
  have hk3 := kept_of_below hb3
  have hB3 : Below w.heap.size w w3 := hB2.trans (hb3.mono hB2.size)
  have q0 := hk3 _ _ q0
  have hK3 := hK2.trans hk3
  clear hb2 hk2 hK2 hB2 hk3 hb3 hk1 hB1
  cases b1
  · go_wp2_with fail
    go_ret
    exact ⟨rfl, hB3⟩
  · have HSM := Lib.hid (hsm rfl)
    clear hsm
    by_cases hlen : 4000 < bs.length
    · have hl1 : decide ((4000 : Int) < bs.length) = true := by simp; omega
      go_wp2_with fail
      go_ret
      exact ⟨rfl, hB3⟩
    · have hl1 : decide ((4000 : Int) < bs.length) = false := by simp; omega
      go_wp2_with fail
      refine (encode_any OI m _ w3 (VMod.keep hK3 hm0) (lim_of_small HSM.out)).mono ?_
      rintro e w4 ⟨x1, v1, rfl, he1, -, hn1, hb4⟩
      have hk4 := kept_of_below hb4
      have hB4 : Below w.heap.size w w4 := hB3.trans (hb4.mono hB3.size)
      have q0 := hk4 _ _ q0
      have hK4 := hK3.trans hk4
      clear hb4 hk4 hK3 hB3
      by_cases hp : (modE m).1 = 0
      rotate_left
      · obtain ⟨ty, x, rfl⟩ := he1.iface hp
        clear he1 hn1
        go_wp2_with fail
        refine (decode_any OI bs B d _ (SBytes.keep hK4 hbs)).mono ?_
        rintro e w8 ⟨A8, c8, ev8, rfl, hm8, he8, hb8⟩
        have hB8 : Below w.heap.size w w8 := hB4.trans (hb8.mono hB4.size)
        by_cases hd : (decE bs).1 = 0
        · obtain ⟨n', -, hok, hbe, hpn, hdm⟩ := dec_ok hd
          obtain rfl := he8.nil hd
          rw [hdm] at hm8 ⊢
          have HBE := Lib.hid hbe
          clear hd he8 hdm hbe
          go_wp2_with fail
          obtain ⟨w9, hw9, hs9, hk9, hB9, -, -⟩ := named w8 #[.slice A8 n'.length c8] 24
          rw [← hw9]
          clear hw9 hs9
          have hB9 : Below w.heap.size w w9 := hB8.trans (hB9.mono hB8.size)
          refine (encode_any OI n' _ w9 ⟨A8, c8, rfl, SFuns.keep hk9 hm8⟩ (lim_of_ok hok)).mono ?_
          rintro e w10 ⟨x2, v2, rfl, he2, -, hn2, hb10⟩
          have hB10 : Below w.heap.size w w10 := hB9.trans (hb10.mono hB9.size)
          obtain rfl := he2.nil hpn
          obtain ⟨g2, c2, rfl, hs2⟩ := bytes_of_new (hn2 hpn)
          rw [← HBE.out] at hs2 ⊢
          have hcv1 := conv_bytes hs2
          have hcv2 := conv_bytes (SBytes.keep (kept_of_below hB10) hbs)
          clear he2 hn2 HBE
          go_wp2_with fail
          go_ret
          exact ⟨rfl, hB10⟩
        · obtain ⟨ty8, x8, rfl⟩ := he8.iface hd
          clear hd he8
          go_wp2_with fail
          go_ret
          exact ⟨rfl, hB8.alloc hB8.size _⟩
      · obtain rfl := he1.nil hp
        obtain ⟨g1, c1, rfl, hs1⟩ := bytes_of_new (hn1 hp)
        obtain ⟨hd1, hd2⟩ := dec_of_mod (ok_of_proper hp (imms_of hm0)) hp
        clear he1 hn1
        have HDEC := decode_any OI (modB m) (some ⟨g1, 0, none⟩) c1 w4 hs1
        generalize modB m = ys1 at *
        have HDEC := Lib.hid HDEC
        have HP := Lib.hid hp
        clear hp
        go_wp2_with fail
        refine HDEC.out.mono ?_
        rintro e w5 ⟨A5, c5, ev5, rfl, hm5, he5, hb5⟩
        rw [hd2] at hm5 ⊢
        rw [hd1] at he5
        obtain rfl := he5.nil HP.out
        have hB5 : Below w.heap.size w w5 := hB4.trans (hb5.mono hB4.size)
        have q0 := kept_of_below hb5 _ _ q0
        have hz5 : w.heap.size < w5.heap.size := block_lt_of_cell q0
        clear he5 hd1 hd2 HDEC
        go_wp2_with fail
        obtain ⟨w6, hw6, hs6, hk6, hB6, -, -⟩ := named w5 #[.slice A5 m.length c5] 24
        rw [← hw6]
        clear hw6 hs6
        have hB6 : Below w.heap.size w w6 := hB5.trans (hB6.mono hB5.size)
        refine (same_any m m _ _ w6 ⟨A5, c5, rfl, SFuns.keep hk6 hm5⟩ (VMod.keep (kept_of_below hB6) hm0)).mono ?_
        rintro e w7 ⟨rfl, hb7⟩
        have hB7 : Below w.heap.size w w7 := hB6.trans (hb7.mono hB6.size)
        rw [same_yes rfl]
        go_wp2_with fail
        refine (decode_any OI bs B d _ (SBytes.keep (kept_of_below hB7) hbs)).mono ?_
        rintro e w8 ⟨A8, c8, ev8, rfl, hm8, he8, hb8⟩
        have hB8 : Below w.heap.size w w8 := hB7.trans (hb8.mono hB7.size)
        by_cases hd : (decE bs).1 = 0
        · obtain ⟨n', -, hok, hbe, hpn, hdm⟩ := dec_ok hd
          obtain rfl := he8.nil hd
          rw [hdm] at hm8 ⊢
          have HBE := Lib.hid hbe
          clear hd he8 hdm hbe
          go_wp2_with fail
          obtain ⟨w9, hw9, hs9, hk9, hB9, -, -⟩ := named w8 #[.slice A8 n'.length c8] 24
          rw [← hw9]
          clear hw9 hs9
          have hB9 : Below w.heap.size w w9 := hB8.trans (hB9.mono hB8.size)
          refine (encode_any OI n' _ w9 ⟨A8, c8, rfl, SFuns.keep hk9 hm8⟩ (lim_of_ok hok)).mono ?_
          rintro e w10 ⟨x2, v2, rfl, he2, -, hn2, hb10⟩
          have hB10 : Below w.heap.size w w10 := hB9.trans (hb10.mono hB9.size)
          obtain rfl := he2.nil hpn
          obtain ⟨g2, c2, rfl, hs2⟩ := bytes_of_new (hn2 hpn)
          rw [← HBE.out] at hs2 ⊢
          have hcv1 := conv_bytes hs2
          have hcv2 := conv_bytes (SBytes.keep (kept_of_below hB10) hbs)
          clear he2 hn2 HBE
          go_wp2_with fail
          go_ret
          exact ⟨rfl, hB10⟩
        · obtain ⟨ty8, x8, rfl⟩ := he8.iface hd
          clear hd he8
          go_wp2_with fail
          go_ret
          exact ⟨rfl, hB8.alloc hB8.size _⟩
end Go.Proofs.YtmhodjbplohmiaaDoor
