/- The walk of CheckMore, given that ofInstr does what the document says, and that the statements' Is knows its errors. -/
import Derived.Test.YtfgbmmbkjgdndaaDoorChkE
import Derived.Test.YtfgbmmbkjgdndaaDoorLim
import Derived.Test.YtfgbmmbkjgdndaaDoorSmall
import Derived.Test.YtfgbmmbkjgdndaaDoorUp2
import Derived.Test.YtfgbmmbkjgdndaaDoorMoreN
import Derived.Test.YtfgbmmbkjgdndaaDoorMore
namespace Go.Proofs.YtfgbmmbkjgdndaaDoor
open Go.ChangeShapes Go.WideShapes Go.RowKit Go.Deep
set_option linter.unusedVariables false

/-- Is knows a Spot. L: what it asks of the world. -/
def OfIs (L : World → Prop) : Prop := ∀ (v : Value) (c n : Int) (w : World), L w → ErrAt w v (c, n) → 0 ≤ n → c ≠ 0 →
  Calls Tryd.prog 8 #[v, .int .i64 n, .int .i64 c] w fun e w' => e = .returned (.bool true) ∧ Below w.heap.size w w'

set_option maxRecDepth 100000 in
set_option maxHeartbeats 8000000 in
theorem checkMore_walk (OI : OfIns) (L : World → Prop) (hLB : ∀ w w' n, L w → 0 < n → Below n w w' → L w') (IS : OfIs L) (m : List FunD) (v : Value) (n : Int) (is : Bool) (w : World) (hL : L w) (h0w : 0 < w.heap.size) (hm : VMod w v m) (hn : (Lit.int .i64 n).wf = true) :
    Calls Tryd.prog 3 #[v, .int .i64 n, .bool is] w fun e w' => e = .returned (.bool true) ∧ Below w.heap.size w w' := by
  have hm0 := hm
  have hn64 := bounds_i64 hn
  obtain ⟨hn1, hn2⟩ := hn64
  obtain ⟨A, c, rfl, hms⟩ := hm
  have hml := hms.len
  have HLB := Lib.hid hLB
  have HL := Lib.hid hL
  clear hn hLB hL
  go_enter Tryd.func3, Tryd.ntmps3
  go_wp2_with fail
  obtain ⟨w1, hw1, hs1, hk1, hB1, hc1, -⟩ := named w #[.slice A m.length c] 24
  rw [← hw1]
  have q0 : w1.cell? ⟨w.heap.size, 0, none⟩ = some (.slice A m.length c) := hc1 0 _ rfl
  have hs1 : w.heap.size < w1.heap.size := by omega
  clear hw1 hc1
  refine (up_any _).mono ?_
  rintro e w2 ⟨rfl, hb2⟩
  have hB2 : Below w.heap.size w w2 := hB1.trans (hb2.mono hB1.size)
  have hk2 := kept_of_below hb2
  have q0 := hk2 _ _ q0
  go_wp2_with fail
  refine (small_any m _ _ (VMod.keep (hk1.trans hk2) hm0)).mono ?_
  rintro e w3 ⟨⟨bs, rfl, hsm⟩, hb3⟩
  have hB3 : Below w.heap.size w w3 := hB2.trans (hb3.mono hB2.size)
  have hk3 := kept_of_below hb3
  have q0 := hk3 _ _ q0
  cases bs
  · go_wp2_with fail
    go_ret
    exact ⟨rfl, hB3⟩
  · have hsm := hsm rfl
    have HS := Lib.hid hsm
    have hl40 : m.length ≤ 40 := hsm.1
    clear hsm
    have hK3 := (hk1.trans hk2).trans hk3
    by_cases h1 : n < 0
    · go_wp2_with fail
      go_ret
      exact ⟨rfl, hB3⟩
    · obtain ⟨k, rfl⟩ := Int.eq_ofNat_of_zero_le (Int.not_lt.1 h1)
      by_cases h2 : k < m.length
      · have hk1 : (k : Int) < m.length := by omega
        have hk0 : (0 : Int) ≤ k := by omega
        clear h1
        go_wp2_with fail
        refine (module_any OI m _ _ (VMod.keep hK3 hm0) (lim_of_small HS.out)).mono ?_
        rintro e w4 ⟨⟨ve, rfl, he⟩, hb4⟩
        have hB4 : Below w.heap.size w w4 := hB3.trans (hb4.mono hB3.size)
        have hk4 := kept_of_below hb4
        have q0 := hk4 _ _ q0
        by_cases hp : (modE m).1 = 0
        · obtain rfl := he.nil hp
          have HP := Lib.hid hp
          clear hp he
          go_wp2_with fail
          obtain ⟨fn, hfn⟩ : ∃ fn, m[k]? = some fn := ⟨_, List.getElem?_eq_getElem h2⟩
          have HFN := Lib.hid hfn
          clear hfn
          refine (copy_own m k fn _ _ (VMod.keep (hK3.trans hk4) hm0) HS.out HFN.out).mono ?_
          rintro e w5 ⟨⟨u, rfl, hmc⟩, hb5⟩
          have hB5 : Below w.heap.size w w5 := hB4.trans (hb5.mono hB4.size)
          have hk5 := kept_of_below hb5
          have q0 := hk5 _ _ q0
          obtain ⟨G, cG, ur, N, rfl, hN1, hN2, hG, hfz, hur, hcm, hcx, howR, hneR, hread⟩ := hmc.open HFN.out
          have HREAD := Lib.hid hread
          clear hmc hread
          have hl2 : w.heap.size < w2.heap.size := by have := hb2.size; omega
          have hl4 : w.heap.size < w4.heap.size := by have := hb3.size; have := hb4.size; omega
          have hs5 := hb5.size
          obtain ⟨i0, hi0, hz0, hz1, hz2⟩ := info_parts Tryd.info3
          have HI := Lib.hid (And.intro hi0 (And.intro hz0 (And.intro hz1 hz2)))
          clear hi0 hz0 hz1 hz2
          obtain ⟨w6, hw6, hs6, hk6, hB6', hc6, -⟩ := named w5 #[.slice (some ⟨G, 0, none⟩) m.length cG] 24
          have z0 : w6.cell? ⟨w5.heap.size, 0, none⟩ = some (.slice (some ⟨G, 0, none⟩) m.length cG) := hc6 0 _ rfl
          have z2 : w6.cell? ⟨G, k * 4 + 2, none⟩ = some ur := hk6 _ _ hur
          have zf : w6.frozen? ⟨G, k * 4 + 2, none⟩ = false := (World.frozen?_of_block (a := ⟨G, k * 4 + 2, none⟩) (hB6'.block G hG)).trans hfz
          have hown6 : w6.ownsRow N 3 1 ur fn.regs.length (fn.regs.map (Value.int .i64)) := own_block howR (fun x hx => hB6'.block x (howR.lt x hx).2)
          have q6 := hk6 _ _ q0
          have hB6 : Below w.heap.size w w6 := hB5.trans (hB6'.mono hB5.size)
          have hr300 : fn.regs.length ≤ 300 := (HS.out.2 fn (List.mem_of_getElem? HFN.out)).2.1
          have HK6 := Lib.hid hk6
          have HW6 := Lib.hid hw6
          have HG6 : G < w6.heap.size := by omega
          have HH6 : w5.heap.size < w6.heap.size := by omega
          have howlt : ∀ x, ur.ownBlock = some x → x < w5.heap.size := fun x hx => (howR.lt x hx).2
          clear hw6 hk6 hc6 hfz hur howR hs6
          cases is
          · go_wp2_with fail
            rw [← HW6.out]
            have hS : ∀ w' : World, w'.heap[G]? = w6.heap[G]? → w'.heap[w5.heap.size]? = w6.heap[w5.heap.size]? → w'.cell? ⟨w5.heap.size, 0, none⟩ = some (.slice (some ⟨G, 0, none⟩) m.length cG) ∧ w'.cell? ⟨G, k * 4 + 2, none⟩ = some ur := fun w' h1 h2 =>
              ⟨(World.cell?_of_block (a := ⟨w5.heap.size, 0, none⟩) h2).trans z0, (World.cell?_of_block (a := ⟨G, k * 4 + 2, none⟩) h1).trans z2⟩
            refine wp_region_last (L := 14) (S := fun w' => w'.cell? ⟨w5.heap.size, 0, none⟩ = some (.slice (some ⟨G, 0, none⟩) m.length cG) ∧ w'.cell? ⟨G, k * 4 + 2, none⟩ = some ur) (by kernel_rfl) (by rfl) (by kernel_rfl) (by kernel_rfl) ?_
            change wpAnyH _ _ _ _ _ _ _ _ (World.drew _)
            have hS0 := hS w6.drew rfl rfl
            refine takeH (i := 0) (some 38) (v := ?_) rfl (by kernel_rfl) (by kernel_rfl) (by kernel_rfl) (fun _ _ _ h => h) hS0 (fun o ho => ?_) ?_
            rotate_left
            · simp only [List.getElem?_toArray, List.getElem?_cons_zero, Option.some.injEq] at ho; subst ho; refine Or.inl ⟨by rfl, fun w' hSw => ?_⟩; (try dsimp only at hSw); go_simp; try with_reducible rfl
            simp only [Act.put, List.setIfInBounds_toArray, List.set_cons_zero, List.set_cons_succ]
            refine takeH (i := 1) (some 39) (v := ?_) rfl (by kernel_rfl) (by kernel_rfl) (by kernel_rfl) (fun _ _ _ h => h) hS0 (fun o ho => ?_) ?_
            rotate_left
            · simp only [List.getElem?_toArray, List.getElem?_cons_zero, List.getElem?_cons_succ, Option.some.injEq] at ho; subst ho; refine Or.inl ⟨by rfl, fun w' hSw => ?_⟩; (try dsimp only at hSw); go_simp; try with_reducible rfl
            simp only [Act.put, List.setIfInBounds_toArray, List.set_cons_zero, List.set_cons_succ]
            refine takeH (i := 2) (some 40) (v := ?_) rfl (by kernel_rfl) (by kernel_rfl) (by kernel_rfl) (fun _ _ _ h => h) hS0 (fun o ho => ?_) ?_
            rotate_left
            · simp only [List.getElem?_toArray, List.getElem?_cons_zero, List.getElem?_cons_succ, Option.some.injEq] at ho; subst ho; refine Or.inl ⟨by rfl, fun w' hSw => ?_⟩; (try dsimp only at hSw); go_simp; try with_reducible rfl
            simp only [Act.put, List.setIfInBounds_toArray, List.set_cons_zero, List.set_cons_succ]
            refine takeH (i := 3) (some 41) (v := ?_) rfl (by kernel_rfl) (by kernel_rfl) (by kernel_rfl) (fun _ _ _ h => h) hS0 (fun o ho => ?_) ?_
            rotate_left
            · simp only [List.getElem?_toArray, List.getElem?_cons_zero, List.getElem?_cons_succ, Option.some.injEq] at ho; subst ho; refine Or.inl ⟨by rfl, fun w' hSw => ?_⟩; (try dsimp only at hSw); go_simp; try with_reducible rfl
            simp only [Act.put, List.setIfInBounds_toArray, List.set_cons_zero, List.set_cons_succ]
            refine takeH (i := 4) (some 42) (v := ?_) rfl (by kernel_rfl) (by kernel_rfl) (by kernel_rfl) (fun _ _ _ h => h) hS0 (fun o ho => ?_) ?_
            rotate_left
            · simp only [List.getElem?_toArray, List.getElem?_cons_zero, List.getElem?_cons_succ, Option.some.injEq] at ho; subst ho; refine Or.inl ⟨by rfl, fun w' hSw => ?_⟩; (try dsimp only at hSw); go_simp; try with_reducible rfl
            simp only [Act.put, List.setIfInBounds_toArray, List.set_cons_zero, List.set_cons_succ]
            refine takeH (i := 5) (some 43) (v := ?_) rfl (by kernel_rfl) (by kernel_rfl) (by kernel_rfl) (fun _ _ _ h => h) hS0 (fun o ho => ?_) ?_
            rotate_left
            · simp only [List.getElem?_toArray, List.getElem?_cons_zero, List.getElem?_cons_succ, Option.some.injEq] at ho; subst ho; refine Or.inl ⟨by rfl, fun w' hSw => ?_⟩; (try dsimp only at hSw); go_simp; try with_reducible rfl
            simp only [Act.put, List.setIfInBounds_toArray, List.set_cons_zero, List.set_cons_succ]
            refine takeH (i := 6) (some 44) (v := ?_) rfl (by kernel_rfl) (by kernel_rfl) (by kernel_rfl) (fun _ _ _ h => h) hS0 (fun o ho => ?_) ?_
            rotate_left
            · simp only [List.getElem?_toArray, List.getElem?_cons_zero, List.getElem?_cons_succ, Option.some.injEq] at ho; subst ho; refine Or.inl ⟨by rfl, fun w' hSw => ?_⟩; (try dsimp only at hSw); go_simp; try with_reducible rfl
            simp only [Act.put, List.setIfInBounds_toArray, List.set_cons_zero, List.set_cons_succ]
            refine takeH (i := 7) (some 45) (v := ?_) rfl (by kernel_rfl) (by kernel_rfl) (by kernel_rfl) (fun _ _ _ h => h) hS0 (fun o ho => ?_) ?_
            rotate_left
            · simp only [List.getElem?_toArray, List.getElem?_cons_zero, List.getElem?_cons_succ, Option.some.injEq] at ho; subst ho; refine Or.inl ⟨by rfl, fun w' hSw => ?_⟩; (try dsimp only at hSw); go_simp; try with_reducible rfl
            simp only [Act.put, List.setIfInBounds_toArray, List.set_cons_zero, List.set_cons_succ]
            refine takeH (i := 8) (some 46) (v := ?_) rfl (by kernel_rfl) (by kernel_rfl) (by kernel_rfl) (fun _ _ _ h => h) hS0 (fun o ho => ?_) ?_
            rotate_left
            · simp only [List.getElem?_toArray, List.getElem?_cons_zero, List.getElem?_cons_succ, Option.some.injEq] at ho; subst ho; refine Or.inl ⟨by rfl, fun w' hSw => ?_⟩; (try dsimp only at hSw); go_simp; try with_reducible rfl
            simp only [Act.put, List.setIfInBounds_toArray, List.set_cons_zero, List.set_cons_succ]
            refine takeH (i := 9) (some 47) (v := ?_) rfl (by kernel_rfl) (by kernel_rfl) (by kernel_rfl) (fun _ _ _ h => h) hS0 (fun o ho => ?_) ?_
            rotate_left
            · simp only [List.getElem?_toArray, List.getElem?_cons_zero, List.getElem?_cons_succ, Option.some.injEq] at ho; subst ho; refine Or.inl ⟨by rfl, fun w' hSw => ?_⟩; (try dsimp only at hSw); go_simp; try with_reducible rfl
            simp only [Act.put, List.setIfInBounds_toArray, List.set_cons_zero, List.set_cons_succ]
            refine oneH (i := 10) (by kernel_rfl) (fun o ho K hK => ?_)
            simp only [List.getElem?_toArray, List.getElem?_cons_zero, List.getElem?_cons_succ, Option.some.injEq] at ho; subst ho
            go_simp
            have hSB := hS (w6.drew.alloc (.cells #[.int .i64 1] 3)) (Below.heap_alloc _ _ _ HG6) (Below.heap_alloc _ _ _ HH6)
            refine hK.out _ _ hSB ?_
            clear hK K
            refine oneH (i := 11) (by kernel_rfl) (fun o ho K hK => ?_)
            simp only [List.getElem?_toArray, List.getElem?_cons_zero, List.getElem?_cons_succ, Option.some.injEq] at ho; subst ho
            refine step_append_lies _ (by rfl) _ _ _ (by rfl) N 3 i0 (.int .i64 0) 1 8 Tryd.underlying31 HI.out.1 HI.out.2.1 HI.out.2.2.1 HI.out.2.2.2 rfl (by decide) ur fn.regs.length (fn.regs.map (Value.int .i64)) (by rfl) (World.ownsRow.alloc (w := w6) hown6 _)
              ⟨w6.heap.size, 0, none⟩ 1 1 [.int .i64 1] (by rfl) (by rfl) (news_one_add w6 _ _ rfl) (ints_oneCell .i64 [(1 : Int)]) (by omega) (by unfold maxLen; omega) (by omega) (by simp; omega) (w6.heap.size + 1) (by simp) ?_
            intro g cap wC hownC hgrowC hlocC hltC
            have hneb : ∀ x, x ≠ G → True := fun _ _ => trivial
            have hGC : wC.heap[G]? = w6.heap[G]? := (hgrowC.block G (by simp; omega) (fun e => hneR e.symm)).trans (Below.heap_alloc _ _ _ HG6)
            have htC : wC.heap[w5.heap.size]? = w6.heap[w5.heap.size]? := (hgrowC.block w5.heap.size (by simp; omega) (fun e => by have := (howlt w5.heap.size e.symm); omega)).trans (Below.heap_alloc _ _ _ HH6)
            have hSC := hS wC hGC htC
            refine hK.out _ _ hSC ?_
            clear hK K
            simp only [Act.put, List.setIfInBounds_toArray, List.set_cons_zero, List.set_cons_succ]
            refine takeH (i := 12) (some 50) (v := ?_) rfl (by kernel_rfl) (by kernel_rfl) (by kernel_rfl) (fun _ _ _ h => h) hSC (fun o ho => ?_) ?_
            rotate_left
            · simp only [List.getElem?_toArray, List.getElem?_cons_zero, List.getElem?_cons_succ, Option.some.injEq] at ho; subst ho; refine Or.inl ⟨by rfl, fun w' hSw => ?_⟩; (try dsimp only at hSw); go_simp; try with_reducible rfl
            simp only [Act.put, List.setIfInBounds_toArray, List.set_cons_zero, List.set_cons_succ]
            refine takeH (i := 13) (some 51) (v := ?_) rfl (by kernel_rfl) (by kernel_rfl) (by kernel_rfl) (fun _ _ _ h => h) hSC (fun o ho => ?_) ?_
            rotate_left
            · simp only [List.getElem?_toArray, List.getElem?_cons_zero, List.getElem?_cons_succ, Option.some.injEq] at ho; subst ho; refine Or.inl ⟨by rfl, fun w' hSw => ?_⟩; (try dsimp only at hSw); go_simp; try with_reducible rfl
            simp only [Act.put, List.setIfInBounds_toArray, List.set_cons_zero, List.set_cons_succ]
            refine wpAnyH_done (by kernel_rfl) ?_ _
            refine lastH (by decide) (fun o ho K hK => ?_)
            simp only [List.getElem?_toArray, List.getElem?_cons_zero, List.getElem?_cons_succ, Option.some.injEq] at ho; subst ho
            have x2 : wC.cell? ⟨G, k * 4 + 2, none⟩ = some ur := hSC.2
            have xf : wC.frozen? ⟨G, k * 4 + 2, none⟩ = false := (World.frozen?_of_block (a := ⟨G, k * 4 + 2, none⟩) hGC).trans zf
            go_simp
            refine hK.out _ _ ?_
            clear hK K
            obtain ⟨wF, hwF⟩ : ∃ wF, wF = wC.setCell ⟨G, k * 4 + 2, none⟩ (.slice (some ⟨g, 0, none⟩) (fn.regs.length + 1) cap) := ⟨_, rfl⟩
            have hgG : g ≠ G := by
              rcases hlocC with h | h
              · intro e; exact hneR (by rw [h, e])
              · omega
            have hBC : Below w.heap.size w wC := ((hB6.alloc hB6.size _).drew).grown hgrowC (by have := hB6.size; simp; omega) (fun x hx => by have := (hown6.lt x hx).1; omega)
            have hBF : Below w.heap.size w wF := by rw [hwF]; exact hBC.setCell (by show w.heap.size ≤ G; omega) _
            have hownF : wF.ownsRow N 3 1 (.slice (some ⟨g, 0, none⟩) (fn.regs.length + 1) cap) (fn.regs.length + 1) (fn.regs.map (Value.int .i64) ++ [.int .i64 1]) := own_block hownC (fun x hx => by
              rw [hwF]; exact Below.heap_setCell _ _ _ _ (show x ≠ G from fun e => hgG ((show g = x from Option.some.inj hx).trans e)))
            have hKF : KeptB (fun b => b ≠ G ∧ some b ≠ ur.ownBlock) w5 wF := by
              rw [hwF]
              exact ((((KeptB.of HK6.out).trans (KeptB.of (kept_alloc w6 _))).trans ((keptB_grown hgrowC).mono (fun b hb => hb.2)))).trans ((keptB_set wC ⟨G, k * 4 + 2, none⟩ _).mono (fun b hb => hb.1))
            have hGF : ∀ j, j ≠ k * 4 + 2 → ∀ v, w5.cell? ⟨G, j, none⟩ = some v → wF.cell? ⟨G, j, none⟩ = some v := fun j hj v hv => by
              rw [hwF, World.cell?_setCell_other _ _ _ _ (fun e => hj (by have := congrArg Addr.off e; exact this.symm))]
              exact (World.cell?_of_block (a := ⟨G, j, none⟩) hGC).trans (HK6.out _ _ hv)
            have hrl : (fn.regs ++ [(1 : Int)]).length = fn.regs.length + 1 := by simp
            have hregs64 : ∀ x ∈ fn.regs ++ [(1 : Int)], I64 x := by
              intro x hx
              rcases List.mem_append.1 hx with hx | hx
              · obtain ⟨jj, hjj⟩ := List.getElem?_of_mem hx
                obtain ⟨_, _, _, _, hf1, _, _, ⟨Ar, cr, _, hr3⟩, _⟩ := hms.at_ h2
                obtain rfl : fn = _ := Option.some.inj (HFN.out.symm.trans hf1.out)
                obtain ⟨_, _, hr4⟩ := hr3
                obtain ⟨_, _, _, hr5⟩ := hr4 (by have := (List.getElem?_eq_some_iff.1 hjj).1; omega)
                exact (hr5 jj x hjj).2
              · rw [List.mem_singleton.1 hx]; unfold I64; omega
            have hvsF : SL wF 1 RInt (some ⟨g, 0, none⟩) cap (fn.regs ++ [(1 : Int)]) := by
              have h0 : wF.ownsRow N 3 1 (.slice (some ⟨g, 0, none⟩) (fn.regs ++ [(1 : Int)]).length cap) (fn.regs ++ [(1 : Int)]).length ((fn.regs ++ [(1 : Int)]).map (Value.int .i64)) := by
                rw [hrl, List.map_append]; exact hownF
              obtain ⟨A', c', e', h'⟩ := vs_of_own h0 hregs64
              cases e'
              exact h'
            have hcF : wF.cell? ⟨G, k * 4 + 2, none⟩ = some (.slice (some ⟨g, 0, none⟩) (fn.regs ++ [(1 : Int)]).length cap) := by
              rw [hwF, hrl]; exact World.cell?_setCell_same _ _ _ x2
            have hmodF : SL wF 4 RFun (some ⟨G, 0, none⟩) cG (m.set k (more fn 1)) := HREAD.out wF _ _ _ hKF hGF hcF hvsF
            have htF : wF.cell? ⟨w5.heap.size, 0, none⟩ = some (.slice (some ⟨G, 0, none⟩) m.length cG) := by
              rw [hwF, World.cell?_setCell_other _ _ _ _ (fun e => by have := congrArg Addr.block e; simp at this; omega)]
              exact hSC.1
            have hvF : VMod wF (.agg #[.slice (some ⟨G, 0, none⟩) m.length cG]) (m.set k (more fn 1)) := ⟨_, _, by rw [List.length_set], hmodF⟩
            have HM := Lib.hid (modE_more (kd := 1) HFN.out HP.out (by omega))
            obtain ⟨bm, om, fn', rfl, hf1, ⟨y0, -⟩, ⟨y1, -⟩, ⟨Ar, cr, y2, -⟩, Ab, cb, y3, -⟩ := hms.at_ h2
            obtain rfl : fn = fn' := Option.some.inj (HFN.out.symm.trans hf1.out)
            have hkF := kept_of_below hBF
            have y0 := hkF _ _ y0
            have y1 := hkF _ _ y1
            have y2 := hkF _ _ y2
            have y3 := hkF _ _ y3
            have q0F : wF.cell? ⟨w.heap.size, 0, none⟩ = some (.slice (some ⟨bm, om, none⟩) m.length c) := by
              rw [hwF, World.cell?_setCell_other _ _ _ _ (fun e => by have := congrArg Addr.block e; simp at this; omega)]
              exact (World.cell?_of_block (a := ⟨w.heap.size, 0, none⟩) ((hgrowC.block w.heap.size (by have := hB6.size; simp; omega) (fun e => by have := (hown6.lt _ e.symm).1; omega)).trans (Below.heap_alloc _ _ _ (by omega)))).trans q6
            have hlimF : Hid (∀ g ∈ m.set k (more fn 1), Lim g) := Lib.hid (fun g hg => by
              rcases List.mem_or_eq_of_mem_set hg with hg | rfl
              · exact lim_of_small HS.out g hg
              · exact fun b hb => lim_of_small HS.out fn (List.mem_of_getElem? HFN.out) b hb)
            rw [← hwF]
            clear hwF hBC hownF hKF hGF hrl hregs64 hvsF hcF hmodF x2 xf hSC hGC htC hS0 hSB hS hgrowC hownC hlocC hneb
            go_wp2_with fail
            refine (module_any OI _ _ _ hvF hlimF.out).mono ?_
            rintro e w7 ⟨⟨v7, rfl, he7⟩, hb7⟩
            have hB7 : Below w.heap.size w w7 := hBF.trans (hb7.mono hBF.size)
            have hk7 := kept_of_below hb7
            have q0F := hk7 _ _ q0F
            have y0 := hk7 _ _ y0
            have y1 := hk7 _ _ y1
            have y2 := hk7 _ _ y2
            have y3 := hk7 _ _ y3
            rw [HM.out] at he7
            by_cases hl : fn.regs.length = 256
            · rw [if_pos hl] at he7
              have hlb : ((fn.regs.length : Int) == 256) = true := by simp [hl]
              have hlb' : (fn.regs.length == 256) = true := by simp [hl]
              have HIS := Lib.hid (IS v7 5 k w7 (HLB.out _ _ _ HL.out h0w hB7) he7 (by omega) (by decide))
              clear hl he7
              go_wp2_with fail
              refine HIS.out.mono ?_
              rintro e w8 ⟨rfl, hb8⟩
              go_wp2_with fail
              go_ret
              exact ⟨rfl, hB7.trans (hb8.mono hB7.size)⟩
            · rw [if_neg hl] at he7
              have hlb : ((fn.regs.length : Int) == 256) = false := by simp; omega
              have hlb' : (fn.regs.length == 256) = false := by simp [hl]
              obtain rfl := he7.nil rfl
              clear hl he7
              go_wp2_with fail
              go_ret
              exact ⟨rfl, hB7⟩
          · go_wp2_with fail
            rw [← HW6.out]
            have hS : ∀ w' : World, w'.heap[G]? = w6.heap[G]? → w'.heap[w5.heap.size]? = w6.heap[w5.heap.size]? → w'.cell? ⟨w5.heap.size, 0, none⟩ = some (.slice (some ⟨G, 0, none⟩) m.length cG) ∧ w'.cell? ⟨G, k * 4 + 2, none⟩ = some ur := fun w' h1 h2 =>
              ⟨(World.cell?_of_block (a := ⟨w5.heap.size, 0, none⟩) h2).trans z0, (World.cell?_of_block (a := ⟨G, k * 4 + 2, none⟩) h1).trans z2⟩
            refine wp_region_last (L := 14) (S := fun w' => w'.cell? ⟨w5.heap.size, 0, none⟩ = some (.slice (some ⟨G, 0, none⟩) m.length cG) ∧ w'.cell? ⟨G, k * 4 + 2, none⟩ = some ur) (by kernel_rfl) (by rfl) (by kernel_rfl) (by kernel_rfl) ?_
            change wpAnyH _ _ _ _ _ _ _ _ (World.drew _)
            have hS0 := hS w6.drew rfl rfl
            refine takeH (i := 0) (some 38) (v := ?_) rfl (by kernel_rfl) (by kernel_rfl) (by kernel_rfl) (fun _ _ _ h => h) hS0 (fun o ho => ?_) ?_
            rotate_left
            · simp only [List.getElem?_toArray, List.getElem?_cons_zero, Option.some.injEq] at ho; subst ho; refine Or.inl ⟨by rfl, fun w' hSw => ?_⟩; (try dsimp only at hSw); go_simp; try with_reducible rfl
            simp only [Act.put, List.setIfInBounds_toArray, List.set_cons_zero, List.set_cons_succ]
            refine takeH (i := 1) (some 39) (v := ?_) rfl (by kernel_rfl) (by kernel_rfl) (by kernel_rfl) (fun _ _ _ h => h) hS0 (fun o ho => ?_) ?_
            rotate_left
            · simp only [List.getElem?_toArray, List.getElem?_cons_zero, List.getElem?_cons_succ, Option.some.injEq] at ho; subst ho; refine Or.inl ⟨by rfl, fun w' hSw => ?_⟩; (try dsimp only at hSw); go_simp; try with_reducible rfl
            simp only [Act.put, List.setIfInBounds_toArray, List.set_cons_zero, List.set_cons_succ]
            refine takeH (i := 2) (some 40) (v := ?_) rfl (by kernel_rfl) (by kernel_rfl) (by kernel_rfl) (fun _ _ _ h => h) hS0 (fun o ho => ?_) ?_
            rotate_left
            · simp only [List.getElem?_toArray, List.getElem?_cons_zero, List.getElem?_cons_succ, Option.some.injEq] at ho; subst ho; refine Or.inl ⟨by rfl, fun w' hSw => ?_⟩; (try dsimp only at hSw); go_simp; try with_reducible rfl
            simp only [Act.put, List.setIfInBounds_toArray, List.set_cons_zero, List.set_cons_succ]
            refine takeH (i := 3) (some 41) (v := ?_) rfl (by kernel_rfl) (by kernel_rfl) (by kernel_rfl) (fun _ _ _ h => h) hS0 (fun o ho => ?_) ?_
            rotate_left
            · simp only [List.getElem?_toArray, List.getElem?_cons_zero, List.getElem?_cons_succ, Option.some.injEq] at ho; subst ho; refine Or.inl ⟨by rfl, fun w' hSw => ?_⟩; (try dsimp only at hSw); go_simp; try with_reducible rfl
            simp only [Act.put, List.setIfInBounds_toArray, List.set_cons_zero, List.set_cons_succ]
            refine takeH (i := 4) (some 42) (v := ?_) rfl (by kernel_rfl) (by kernel_rfl) (by kernel_rfl) (fun _ _ _ h => h) hS0 (fun o ho => ?_) ?_
            rotate_left
            · simp only [List.getElem?_toArray, List.getElem?_cons_zero, List.getElem?_cons_succ, Option.some.injEq] at ho; subst ho; refine Or.inl ⟨by rfl, fun w' hSw => ?_⟩; (try dsimp only at hSw); go_simp; try with_reducible rfl
            simp only [Act.put, List.setIfInBounds_toArray, List.set_cons_zero, List.set_cons_succ]
            refine takeH (i := 5) (some 43) (v := ?_) rfl (by kernel_rfl) (by kernel_rfl) (by kernel_rfl) (fun _ _ _ h => h) hS0 (fun o ho => ?_) ?_
            rotate_left
            · simp only [List.getElem?_toArray, List.getElem?_cons_zero, List.getElem?_cons_succ, Option.some.injEq] at ho; subst ho; refine Or.inl ⟨by rfl, fun w' hSw => ?_⟩; (try dsimp only at hSw); go_simp; try with_reducible rfl
            simp only [Act.put, List.setIfInBounds_toArray, List.set_cons_zero, List.set_cons_succ]
            refine takeH (i := 6) (some 44) (v := ?_) rfl (by kernel_rfl) (by kernel_rfl) (by kernel_rfl) (fun _ _ _ h => h) hS0 (fun o ho => ?_) ?_
            rotate_left
            · simp only [List.getElem?_toArray, List.getElem?_cons_zero, List.getElem?_cons_succ, Option.some.injEq] at ho; subst ho; refine Or.inl ⟨by rfl, fun w' hSw => ?_⟩; (try dsimp only at hSw); go_simp; try with_reducible rfl
            simp only [Act.put, List.setIfInBounds_toArray, List.set_cons_zero, List.set_cons_succ]
            refine takeH (i := 7) (some 45) (v := ?_) rfl (by kernel_rfl) (by kernel_rfl) (by kernel_rfl) (fun _ _ _ h => h) hS0 (fun o ho => ?_) ?_
            rotate_left
            · simp only [List.getElem?_toArray, List.getElem?_cons_zero, List.getElem?_cons_succ, Option.some.injEq] at ho; subst ho; refine Or.inl ⟨by rfl, fun w' hSw => ?_⟩; (try dsimp only at hSw); go_simp; try with_reducible rfl
            simp only [Act.put, List.setIfInBounds_toArray, List.set_cons_zero, List.set_cons_succ]
            refine takeH (i := 8) (some 46) (v := ?_) rfl (by kernel_rfl) (by kernel_rfl) (by kernel_rfl) (fun _ _ _ h => h) hS0 (fun o ho => ?_) ?_
            rotate_left
            · simp only [List.getElem?_toArray, List.getElem?_cons_zero, List.getElem?_cons_succ, Option.some.injEq] at ho; subst ho; refine Or.inl ⟨by rfl, fun w' hSw => ?_⟩; (try dsimp only at hSw); go_simp; try with_reducible rfl
            simp only [Act.put, List.setIfInBounds_toArray, List.set_cons_zero, List.set_cons_succ]
            refine takeH (i := 9) (some 47) (v := ?_) rfl (by kernel_rfl) (by kernel_rfl) (by kernel_rfl) (fun _ _ _ h => h) hS0 (fun o ho => ?_) ?_
            rotate_left
            · simp only [List.getElem?_toArray, List.getElem?_cons_zero, List.getElem?_cons_succ, Option.some.injEq] at ho; subst ho; refine Or.inl ⟨by rfl, fun w' hSw => ?_⟩; (try dsimp only at hSw); go_simp; try with_reducible rfl
            simp only [Act.put, List.setIfInBounds_toArray, List.set_cons_zero, List.set_cons_succ]
            refine oneH (i := 10) (by kernel_rfl) (fun o ho K hK => ?_)
            simp only [List.getElem?_toArray, List.getElem?_cons_zero, List.getElem?_cons_succ, Option.some.injEq] at ho; subst ho
            go_simp
            have hSB := hS (w6.drew.alloc (.cells #[.int .i64 2] 3)) (Below.heap_alloc _ _ _ HG6) (Below.heap_alloc _ _ _ HH6)
            refine hK.out _ _ hSB ?_
            clear hK K
            refine oneH (i := 11) (by kernel_rfl) (fun o ho K hK => ?_)
            simp only [List.getElem?_toArray, List.getElem?_cons_zero, List.getElem?_cons_succ, Option.some.injEq] at ho; subst ho
            refine step_append_lies _ (by rfl) _ _ _ (by rfl) N 3 i0 (.int .i64 0) 1 8 Tryd.underlying31 HI.out.1 HI.out.2.1 HI.out.2.2.1 HI.out.2.2.2 rfl (by decide) ur fn.regs.length (fn.regs.map (Value.int .i64)) (by rfl) (World.ownsRow.alloc (w := w6) hown6 _)
              ⟨w6.heap.size, 0, none⟩ 1 1 [.int .i64 2] (by rfl) (by rfl) (news_one_add w6 _ _ rfl) (ints_oneCell .i64 [(2 : Int)]) (by omega) (by unfold maxLen; omega) (by omega) (by simp; omega) (w6.heap.size + 1) (by simp) ?_
            intro g cap wC hownC hgrowC hlocC hltC
            have hneb : ∀ x, x ≠ G → True := fun _ _ => trivial
            have hGC : wC.heap[G]? = w6.heap[G]? := (hgrowC.block G (by simp; omega) (fun e => hneR e.symm)).trans (Below.heap_alloc _ _ _ HG6)
            have htC : wC.heap[w5.heap.size]? = w6.heap[w5.heap.size]? := (hgrowC.block w5.heap.size (by simp; omega) (fun e => by have := (howlt w5.heap.size e.symm); omega)).trans (Below.heap_alloc _ _ _ HH6)
            have hSC := hS wC hGC htC
            refine hK.out _ _ hSC ?_
            clear hK K
            simp only [Act.put, List.setIfInBounds_toArray, List.set_cons_zero, List.set_cons_succ]
            refine takeH (i := 12) (some 50) (v := ?_) rfl (by kernel_rfl) (by kernel_rfl) (by kernel_rfl) (fun _ _ _ h => h) hSC (fun o ho => ?_) ?_
            rotate_left
            · simp only [List.getElem?_toArray, List.getElem?_cons_zero, List.getElem?_cons_succ, Option.some.injEq] at ho; subst ho; refine Or.inl ⟨by rfl, fun w' hSw => ?_⟩; (try dsimp only at hSw); go_simp; try with_reducible rfl
            simp only [Act.put, List.setIfInBounds_toArray, List.set_cons_zero, List.set_cons_succ]
            refine takeH (i := 13) (some 51) (v := ?_) rfl (by kernel_rfl) (by kernel_rfl) (by kernel_rfl) (fun _ _ _ h => h) hSC (fun o ho => ?_) ?_
            rotate_left
            · simp only [List.getElem?_toArray, List.getElem?_cons_zero, List.getElem?_cons_succ, Option.some.injEq] at ho; subst ho; refine Or.inl ⟨by rfl, fun w' hSw => ?_⟩; (try dsimp only at hSw); go_simp; try with_reducible rfl
            simp only [Act.put, List.setIfInBounds_toArray, List.set_cons_zero, List.set_cons_succ]
            refine wpAnyH_done (by kernel_rfl) ?_ _
            refine lastH (by decide) (fun o ho K hK => ?_)
            simp only [List.getElem?_toArray, List.getElem?_cons_zero, List.getElem?_cons_succ, Option.some.injEq] at ho; subst ho
            have x2 : wC.cell? ⟨G, k * 4 + 2, none⟩ = some ur := hSC.2
            have xf : wC.frozen? ⟨G, k * 4 + 2, none⟩ = false := (World.frozen?_of_block (a := ⟨G, k * 4 + 2, none⟩) hGC).trans zf
            go_simp
            refine hK.out _ _ ?_
            clear hK K
            obtain ⟨wF, hwF⟩ : ∃ wF, wF = wC.setCell ⟨G, k * 4 + 2, none⟩ (.slice (some ⟨g, 0, none⟩) (fn.regs.length + 1) cap) := ⟨_, rfl⟩
            have hgG : g ≠ G := by
              rcases hlocC with h | h
              · intro e; exact hneR (by rw [h, e])
              · omega
            have hBC : Below w.heap.size w wC := ((hB6.alloc hB6.size _).drew).grown hgrowC (by have := hB6.size; simp; omega) (fun x hx => by have := (hown6.lt x hx).1; omega)
            have hBF : Below w.heap.size w wF := by rw [hwF]; exact hBC.setCell (by show w.heap.size ≤ G; omega) _
            have hownF : wF.ownsRow N 3 1 (.slice (some ⟨g, 0, none⟩) (fn.regs.length + 1) cap) (fn.regs.length + 1) (fn.regs.map (Value.int .i64) ++ [.int .i64 2]) := own_block hownC (fun x hx => by
              rw [hwF]; exact Below.heap_setCell _ _ _ _ (show x ≠ G from fun e => hgG ((show g = x from Option.some.inj hx).trans e)))
            have hKF : KeptB (fun b => b ≠ G ∧ some b ≠ ur.ownBlock) w5 wF := by
              rw [hwF]
              exact ((((KeptB.of HK6.out).trans (KeptB.of (kept_alloc w6 _))).trans ((keptB_grown hgrowC).mono (fun b hb => hb.2)))).trans ((keptB_set wC ⟨G, k * 4 + 2, none⟩ _).mono (fun b hb => hb.1))
            have hGF : ∀ j, j ≠ k * 4 + 2 → ∀ v, w5.cell? ⟨G, j, none⟩ = some v → wF.cell? ⟨G, j, none⟩ = some v := fun j hj v hv => by
              rw [hwF, World.cell?_setCell_other _ _ _ _ (fun e => hj (by have := congrArg Addr.off e; exact this.symm))]
              exact (World.cell?_of_block (a := ⟨G, j, none⟩) hGC).trans (HK6.out _ _ hv)
            have hrl : (fn.regs ++ [(2 : Int)]).length = fn.regs.length + 1 := by simp
            have hregs64 : ∀ x ∈ fn.regs ++ [(2 : Int)], I64 x := by
              intro x hx
              rcases List.mem_append.1 hx with hx | hx
              · obtain ⟨jj, hjj⟩ := List.getElem?_of_mem hx
                obtain ⟨_, _, _, _, hf1, _, _, ⟨Ar, cr, _, hr3⟩, _⟩ := hms.at_ h2
                obtain rfl : fn = _ := Option.some.inj (HFN.out.symm.trans hf1.out)
                obtain ⟨_, _, hr4⟩ := hr3
                obtain ⟨_, _, _, hr5⟩ := hr4 (by have := (List.getElem?_eq_some_iff.1 hjj).1; omega)
                exact (hr5 jj x hjj).2
              · rw [List.mem_singleton.1 hx]; unfold I64; omega
            have hvsF : SL wF 1 RInt (some ⟨g, 0, none⟩) cap (fn.regs ++ [(2 : Int)]) := by
              have h0 : wF.ownsRow N 3 1 (.slice (some ⟨g, 0, none⟩) (fn.regs ++ [(2 : Int)]).length cap) (fn.regs ++ [(2 : Int)]).length ((fn.regs ++ [(2 : Int)]).map (Value.int .i64)) := by
                rw [hrl, List.map_append]; exact hownF
              obtain ⟨A', c', e', h'⟩ := vs_of_own h0 hregs64
              cases e'
              exact h'
            have hcF : wF.cell? ⟨G, k * 4 + 2, none⟩ = some (.slice (some ⟨g, 0, none⟩) (fn.regs ++ [(2 : Int)]).length cap) := by
              rw [hwF, hrl]; exact World.cell?_setCell_same _ _ _ x2
            have hmodF : SL wF 4 RFun (some ⟨G, 0, none⟩) cG (m.set k (more fn 2)) := HREAD.out wF _ _ _ hKF hGF hcF hvsF
            have htF : wF.cell? ⟨w5.heap.size, 0, none⟩ = some (.slice (some ⟨G, 0, none⟩) m.length cG) := by
              rw [hwF, World.cell?_setCell_other _ _ _ _ (fun e => by have := congrArg Addr.block e; simp at this; omega)]
              exact hSC.1
            have hvF : VMod wF (.agg #[.slice (some ⟨G, 0, none⟩) m.length cG]) (m.set k (more fn 2)) := ⟨_, _, by rw [List.length_set], hmodF⟩
            have HM := Lib.hid (modE_more (kd := 2) HFN.out HP.out (by omega))
            obtain ⟨bm, om, fn', rfl, hf1, ⟨y0, -⟩, ⟨y1, -⟩, ⟨Ar, cr, y2, -⟩, Ab, cb, y3, -⟩ := hms.at_ h2
            obtain rfl : fn = fn' := Option.some.inj (HFN.out.symm.trans hf1.out)
            have hkF := kept_of_below hBF
            have y0 := hkF _ _ y0
            have y1 := hkF _ _ y1
            have y2 := hkF _ _ y2
            have y3 := hkF _ _ y3
            have q0F : wF.cell? ⟨w.heap.size, 0, none⟩ = some (.slice (some ⟨bm, om, none⟩) m.length c) := by
              rw [hwF, World.cell?_setCell_other _ _ _ _ (fun e => by have := congrArg Addr.block e; simp at this; omega)]
              exact (World.cell?_of_block (a := ⟨w.heap.size, 0, none⟩) ((hgrowC.block w.heap.size (by have := hB6.size; simp; omega) (fun e => by have := (hown6.lt _ e.symm).1; omega)).trans (Below.heap_alloc _ _ _ (by omega)))).trans q6
            have hlimF : Hid (∀ g ∈ m.set k (more fn 2), Lim g) := Lib.hid (fun g hg => by
              rcases List.mem_or_eq_of_mem_set hg with hg | rfl
              · exact lim_of_small HS.out g hg
              · exact fun b hb => lim_of_small HS.out fn (List.mem_of_getElem? HFN.out) b hb)
            rw [← hwF]
            clear hwF hBC hownF hKF hGF hrl hregs64 hvsF hcF hmodF x2 xf hSC hGC htC hS0 hSB hS hgrowC hownC hlocC hneb
            go_wp2_with fail
            refine (module_any OI _ _ _ hvF hlimF.out).mono ?_
            rintro e w7 ⟨⟨v7, rfl, he7⟩, hb7⟩
            have hB7 : Below w.heap.size w w7 := hBF.trans (hb7.mono hBF.size)
            have hk7 := kept_of_below hb7
            have q0F := hk7 _ _ q0F
            have y0 := hk7 _ _ y0
            have y1 := hk7 _ _ y1
            have y2 := hk7 _ _ y2
            have y3 := hk7 _ _ y3
            rw [HM.out] at he7
            by_cases hl : fn.regs.length = 256
            · rw [if_pos hl] at he7
              have hlb : ((fn.regs.length : Int) == 256) = true := by simp [hl]
              have hlb' : (fn.regs.length == 256) = true := by simp [hl]
              have HIS := Lib.hid (IS v7 5 k w7 (HLB.out _ _ _ HL.out h0w hB7) he7 (by omega) (by decide))
              clear hl he7
              go_wp2_with fail
              refine HIS.out.mono ?_
              rintro e w8 ⟨rfl, hb8⟩
              go_wp2_with fail
              go_ret
              exact ⟨rfl, hB7.trans (hb8.mono hB7.size)⟩
            · rw [if_neg hl] at he7
              have hlb : ((fn.regs.length : Int) == 256) = false := by simp; omega
              have hlb' : (fn.regs.length == 256) = false := by simp [hl]
              obtain rfl := he7.nil rfl
              clear hl he7
              go_wp2_with fail
              go_ret
              exact ⟨rfl, hB7⟩
        · obtain ⟨t, x, rfl⟩ := he.iface hp
          clear hp he
          go_wp2_with fail
          go_ret
          exact ⟨rfl, hB4⟩
      · have hk1 : ¬ (k : Int) < m.length := by omega
        go_wp2_with fail
        go_ret
        exact ⟨rfl, hB3⟩
end Go.Proofs.YtfgbmmbkjgdndaaDoor
