/- The walk of CodeUnlike, given that ofInstr does what the document says. -/
import Derived.Test.YtmhodjbplohmiaaDoorUp3
import Derived.Test.YtmhodjbplohmiaaDoorSmall
import Derived.Test.YtmhodjbplohmiaaDoorSameF
import Derived.Test.YtmhodjbplohmiaaDoorLast
namespace Go.Proofs.YtmhodjbplohmiaaDoor
open Go.ChangeShapes Go.WideShapes Go.RowKit Go.Deep
set_option linter.unusedVariables false

set_option maxRecDepth 100000 in
set_option maxHeartbeats 4000000 in
theorem codeUnlike_walk (OI : OfIns) (m n : List FunD) (vm vn : Value) (w : World) (hm : VMod w vm m) (hn : VMod w vn n) (hg : HoldsErr w) :
    Calls Tryd.prog 5 #[vm, vn] w fun e w' => e = .returned (.bool true) ∧ Below w.heap.size w w' := by
  have hm0 := hm
  have hn0 := hn
  obtain ⟨A, c, rfl, hms⟩ := hm
  obtain ⟨B, d, rfl, hns⟩ := hn
  go_enter Tryd.func5, Tryd.ntmps5
  go_wp2_with fail
  obtain ⟨wa, hwa, hsa, hka, hba, hca, -⟩ := named w #[.slice A m.length c] 24
  obtain ⟨w1, hw1, hs1, hk1, hb1, hc1, -⟩ := named wa #[.slice B n.length d] 24
  rw [← hwa, ← hw1]
  rw [hsa] at hc1
  have q0 : w1.cell? ⟨w.heap.size, 0, none⟩ = some (.slice A m.length c) := hk1 _ _ (hca 0 _ rfl)
  have q1 : w1.cell? ⟨w.heap.size + 1, 0, none⟩ = some (.slice B n.length d) := hc1 0 _ rfl
  have hB1 : Below w.heap.size w w1 := hba.trans (hb1.mono (by omega))
  have hz1 : w.heap.size + 1 < w1.heap.size := by omega
  have hK1 := hka.trans hk1
  clear hwa hw1 hca hc1 hsa hs1 hka hk1 hba hb1
  refine (up_any OI w1 (holdsErr_below _ _ _ hg hg.pos hB1)).mono ?_
  rintro e w2 ⟨rfl, hb2⟩
  have hk2 := kept_of_below hb2
  have hB2 : Below w.heap.size w w2 := hB1.trans (hb2.mono hB1.size)
  have q0 := hk2 _ _ q0
  have q1 := hk2 _ _ q1
  have hK2 := hK1.trans hk2
  go_wp2_with fail
  refine (small_any m _ _ (VMod.keep hK2 hm0)).mono ?_
  rintro e w3 ⟨⟨b1, rfl, hsm⟩, hb3⟩
  have hk3 := kept_of_below hb3
  have hB3 : Below w.heap.size w w3 := hB2.trans (hb3.mono hB2.size)
  have q0 := hk3 _ _ q0
  have q1 := hk3 _ _ q1
  have hK3 := hK2.trans hk3
  clear hb2 hk2 hK2 hB2 hk3 hb3 hK1 hB1
  cases b1
  · go_wp2_with fail
    go_ret
    exact ⟨rfl, hB3⟩
  · have HSM := Lib.hid (hsm rfl)
    clear hsm
    go_wp2_with fail
    refine (small_any n _ _ (VMod.keep hK3 hn0)).mono ?_
    rintro e w4 ⟨⟨b2, rfl, hsn⟩, hb4⟩
    have hk4 := kept_of_below hb4
    have hB4 : Below w.heap.size w w4 := hB3.trans (hb4.mono hB3.size)
    have q0 := hk4 _ _ q0
    have q1 := hk4 _ _ q1
    have hK4 := hK3.trans hk4
    clear hb4 hk4 hK3 hB3
    cases b2
    · go_wp2_with fail
      go_ret
      exact ⟨rfl, hB4⟩
    · have HSN := Lib.hid (hsn rfl)
      clear hsn
      go_wp2_with fail
      refine (encode_any OI m _ w4 (VMod.keep hK4 hm0) (lim_of_small HSM.out)).mono ?_
      rintro e w5 ⟨x1, v1, rfl, he1, -, hn1, hb5⟩
      have hk5 := kept_of_below hb5
      have hB5 : Below w.heap.size w w5 := hB4.trans (hb5.mono hB4.size)
      have q0 := hk5 _ _ q0
      have q1 := hk5 _ _ q1
      have hK5 := hK4.trans hk5
      clear hb5 hk5 hK4 hB4
      have HN1 := Lib.hid hn1
      clear hn1
      go_wp2_with fail
      refine (encode_any OI n _ w5 (VMod.keep hK5 hn0) (lim_of_small HSN.out)).mono ?_
      rintro e w6 ⟨x2, v2, rfl, he2, -, hn2, hb6⟩
      have hk6 := kept_of_below hb6
      have hB6 : Below w.heap.size w w6 := hB5.trans (hb6.mono hB5.size)
      have q0 := hk6 _ _ q0
      have q1 := hk6 _ _ q1
      have hK6 := hK5.trans hk6
      have HN2 := Lib.hid hn2
      clear hn2 hb6 hK5 hB5
      by_cases hp : (modE m).1 = 0
      · by_cases hq : (modE n).1 = 0
        · obtain rfl := he1.nil hp
          obtain rfl := he2.nil hq
          obtain ⟨g1, c1, rfl, hs1⟩ := bytes_of_new (HN1.out hp)
          obtain ⟨g2, c2, rfl, hs2⟩ := bytes_of_new (HN2.out hq)
          have hs1 := SBytes.keep hk6 hs1
          have HE : Hid ((modB m == modB n) = same m n) := Lib.hid (by
            have h1 := ok_of_proper hp (imms_of hm0)
            have h2 := ok_of_proper hq (imms_of hn0)
            by_cases hmn : m = n
            · rw [same_yes hmn, hmn]; exact beq_self_eq_true _
            · rw [same_no hmn]; simp only [beq_eq_false_iff_ne]; exact fun e => hmn (modB_inj h1 h2 e))
          have HSAME := Lib.hid (same_any m n _ _ w6.drew (VMod.keep hK6 hm0) (VMod.keep hK6 hn0))
          generalize modB m = ys1 at *
          generalize modB n = ys2 at *
          cases hsv : same m n
          all_goals
            rw [hsv] at HE HSAME
            have HE := HE.out
            clear hp hq he1 he2 HN1 HN2 hk6 hsv
            go_wp2_with fail
            refine wp_region_last (L := 12) (S := fun w' => w'.cell? ⟨w.heap.size, 0, none⟩ = some (.slice A m.length c) ∧ w'.cell? ⟨w.heap.size + 1, 0, none⟩ = some (.slice B n.length d) ∧ SL w' 1 RByte (some ⟨g1, 0, none⟩) c1 ys1 ∧ SL w' 1 RByte (some ⟨g2, 0, none⟩) c2 ys2) (by kernel_rfl) (by rfl) (by kernel_rfl) (by kernel_rfl) ?_
            change wpAnyH _ _ _ _ _ _ _ _ (World.drew _)
            have hS : ∀ w', Below w6.heap.size w6 w' → w'.cell? ⟨w.heap.size, 0, none⟩ = some (.slice A m.length c) ∧ w'.cell? ⟨w.heap.size + 1, 0, none⟩ = some (.slice B n.length d) ∧ SL w' 1 RByte (some ⟨g1, 0, none⟩) c1 ys1 ∧ SL w' 1 RByte (some ⟨g2, 0, none⟩) c2 ys2 :=
              fun w' h => ⟨kept_of_below h _ _ q0, kept_of_below h _ _ q1, SBytes.keep (kept_of_below h) hs1, SBytes.keep (kept_of_below h) hs2⟩
            have hS0 := hS w6.drew (Below.refl _ _).drew
            clear q0 q1
            refine takeH (i := 0) (some 37) (v := ?_) rfl (by kernel_rfl) (by kernel_rfl) (by kernel_rfl) (fun _ _ _ h => h) hS0 (fun o ho => ?_) ?_
            rotate_left
            · simp only [List.getElem?_toArray, List.getElem?_cons_zero, Option.some.injEq] at ho; subst ho; refine Or.inl ⟨by rfl, fun w' hSw => ?_⟩; (try dsimp only at hSw); go_simp; try with_reducible rfl
            simp only [Act.put, List.setIfInBounds_toArray, List.set_cons_zero, List.set_cons_succ]
            refine takeH (i := 1) (some 38) (v := ?_) rfl (by kernel_rfl) (by kernel_rfl) (by kernel_rfl) (fun _ _ _ h => h) hS0 (fun o ho => ?_) ?_
            rotate_left
            · simp only [List.getElem?_toArray, List.getElem?_cons_zero, List.getElem?_cons_succ, Option.some.injEq] at ho; subst ho; refine Or.inl ⟨by rfl, fun w' hSw => ?_⟩; (try dsimp only at hSw); go_simp; try with_reducible rfl
            simp only [Act.put, List.setIfInBounds_toArray, List.set_cons_zero, List.set_cons_succ]
            refine takeH (i := 2) (some 39) (v := ?_) rfl (by kernel_rfl) (by kernel_rfl) (by kernel_rfl) (fun _ _ _ h => h) hS0 (fun o ho => ?_) ?_
            rotate_left
            · simp only [List.getElem?_toArray, List.getElem?_cons_zero, List.getElem?_cons_succ, Option.some.injEq] at ho; subst ho; refine Or.inl ⟨by rfl, fun w' hSw => ?_⟩; (try dsimp only at hSw); go_simp; try with_reducible rfl
            simp only [Act.put, List.setIfInBounds_toArray, List.set_cons_zero, List.set_cons_succ]
            refine takeH (i := 3) (some 40) (v := ?_) rfl (by kernel_rfl) (by kernel_rfl) (by kernel_rfl) (fun _ _ _ h => h) hS0 (fun o ho => ?_) ?_
            rotate_left
            · simp only [List.getElem?_toArray, List.getElem?_cons_zero, List.getElem?_cons_succ, Option.some.injEq] at ho; subst ho; refine Or.inl ⟨by rfl, fun w' hSw => ?_⟩; (try dsimp only at hSw); have hcv := conv_bytes hSw.2.2.1; go_simp; try with_reducible rfl
            simp only [Act.put, List.setIfInBounds_toArray, List.set_cons_zero, List.set_cons_succ]
            refine takeH (i := 4) (some 41) (v := ?_) rfl (by kernel_rfl) (by kernel_rfl) (by kernel_rfl) (fun _ _ _ h => h) hS0 (fun o ho => ?_) ?_
            rotate_left
            · simp only [List.getElem?_toArray, List.getElem?_cons_zero, List.getElem?_cons_succ, Option.some.injEq] at ho; subst ho; refine Or.inl ⟨by rfl, fun w' hSw => ?_⟩; (try dsimp only at hSw); go_simp; try with_reducible rfl
            simp only [Act.put, List.setIfInBounds_toArray, List.set_cons_zero, List.set_cons_succ]
            refine takeH (i := 5) (some 42) (v := ?_) rfl (by kernel_rfl) (by kernel_rfl) (by kernel_rfl) (fun _ _ _ h => h) hS0 (fun o ho => ?_) ?_
            rotate_left
            · simp only [List.getElem?_toArray, List.getElem?_cons_zero, List.getElem?_cons_succ, Option.some.injEq] at ho; subst ho; refine Or.inl ⟨by rfl, fun w' hSw => ?_⟩; (try dsimp only at hSw); have hcv := conv_bytes hSw.2.2.2; go_simp; try with_reducible rfl
            simp only [Act.put, List.setIfInBounds_toArray, List.set_cons_zero, List.set_cons_succ]
            refine takeH (i := 6) (some 43) (v := ?_) rfl (by kernel_rfl) (by kernel_rfl) (by kernel_rfl) (fun _ _ _ h => h) hS0 (fun o ho => ?_) ?_
            rotate_left
            · simp only [List.getElem?_toArray, List.getElem?_cons_zero, List.getElem?_cons_succ, Option.some.injEq] at ho; subst ho; refine Or.inl ⟨by rfl, fun w' hSw => ?_⟩; (try dsimp only at hSw); go_simp; try with_reducible rfl
            simp only [Act.put, List.setIfInBounds_toArray, List.set_cons_zero, List.set_cons_succ]
            refine takeH (i := 7) (some 44) (v := ?_) rfl (by kernel_rfl) (by kernel_rfl) (by kernel_rfl) (fun _ _ _ h => h) hS0 (fun o ho => ?_) ?_
            rotate_left
            · simp only [List.getElem?_toArray, List.getElem?_cons_zero, List.getElem?_cons_succ, Option.some.injEq] at ho; subst ho; refine Or.inl ⟨by rfl, fun w' hSw => ?_⟩; (try dsimp only at hSw); go_simp; try with_reducible rfl
            simp only [Act.put, List.setIfInBounds_toArray, List.set_cons_zero, List.set_cons_succ]
            refine takeH (i := 8) (some 45) (v := ?_) rfl (by kernel_rfl) (by kernel_rfl) (by kernel_rfl) (fun _ _ _ h => h) hS0 (fun o ho => ?_) ?_
            rotate_left
            · simp only [List.getElem?_toArray, List.getElem?_cons_zero, List.getElem?_cons_succ, Option.some.injEq] at ho; subst ho; refine Or.inl ⟨by rfl, fun w' hSw => ?_⟩; (try dsimp only at hSw); go_simp; try with_reducible rfl
            simp only [Act.put, List.setIfInBounds_toArray, List.set_cons_zero, List.set_cons_succ]
            refine oneH (i := 9) (by kernel_rfl) (fun o ho K hK => ?_)
            simp only [List.getElem?_toArray, List.getElem?_cons_zero, List.getElem?_cons_succ, Option.some.injEq] at ho; subst ho
            go_simp
            refine HSAME.out.mono ?_
            rintro e w7 ⟨rfl, hb7⟩
            have hb7' : Below w6.heap.size w6 w7 := (Below.refl _ w6).drew.trans hb7
            have hS7 := hS w7 hb7'
            go_wp2_with fail
            refine hK.out _ _ hS7 ?_
            clear hK K
            refine takeH (i := 10) (some 47) (v := ?_) rfl (by kernel_rfl) (by kernel_rfl) (by kernel_rfl) (fun _ _ _ h => h) hS7 (fun o ho => ?_) ?_
            rotate_left
            · simp only [List.getElem?_toArray, List.getElem?_cons_zero, List.getElem?_cons_succ, Option.some.injEq] at ho; subst ho; refine Or.inl ⟨by rfl, fun w' hSw => ?_⟩; (try dsimp only at hSw); go_simp; try with_reducible rfl
            simp only [Act.put, List.setIfInBounds_toArray, List.set_cons_zero, List.set_cons_succ]
            refine takeH (i := 11) (some 48) (v := ?_) rfl (by kernel_rfl) (by kernel_rfl) (by kernel_rfl) (fun _ _ _ h => h) hS7 (fun o ho => ?_) ?_
            rotate_left
            · simp only [List.getElem?_toArray, List.getElem?_cons_zero, List.getElem?_cons_succ, Option.some.injEq] at ho; subst ho; refine Or.inl ⟨by rfl, fun w' hSw => ?_⟩; (try dsimp only at hSw); go_simp; try with_reducible rfl
            simp only [Act.put, List.setIfInBounds_toArray, List.set_cons_zero, List.set_cons_succ]
            refine wpAnyH_done (by kernel_rfl) ?_ _
            refine lastH (by decide) (fun o ho K hK => ?_)
            simp only [List.getElem?_toArray, List.getElem?_cons_zero, List.getElem?_cons_succ, Option.some.injEq] at ho; subst ho
            go_simp
            refine hK.out _ _ ?_
            clear hK K
            go_wp2_with fail
            go_ret
            exact ⟨rfl, hB6.trans (hb7'.mono hB6.size)⟩
        · obtain ⟨ty, x, rfl⟩ := he2.iface hq
          obtain rfl := he1.nil hp
          clear hp hq he1 he2 HN1 HN2 hk6
          go_wp2_with fail
          go_ret
          exact ⟨rfl, hB6⟩
      · obtain ⟨ty, x, rfl⟩ := he1.iface hp
        clear hp he1 he2 HN1 HN2 hk6
        go_wp2_with fail
        go_ret
        exact ⟨rfl, hB6⟩
end Go.Proofs.YtmhodjbplohmiaaDoor
