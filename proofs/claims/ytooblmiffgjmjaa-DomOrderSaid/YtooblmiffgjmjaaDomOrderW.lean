/- The walk of DomOrder. -/
import Derived.Test.YtooblmiffgjmjaaDmO
namespace Go.Proofs.Ytooblmiffgjmjaa
open Go.ChangeShapes Go.WideShapes Go.RowKit Go.Deep
set_option linter.unusedVariables false

variable {bs : List BlkD}
/-- Of two that dominate one the one dominates the other. -/
theorem NearB.total {N : Nat → Int} {ord : Nat → Nat} (h : NearB bs N ord) : ∀ (m c : Nat), ord c ≤ m → c < bs.length → ∀ a b, a < bs.length → b < bs.length → dmB bs a c = true → dmB bs b c = true → dmB bs a b = true ∨ dmB bs b a = true := by
  intro m
  induction m using Nat.strongRecOn with
  | _ m ih =>
    intro c hm hc a b ha hb hac hbc
    by_cases ea : a = c
    · subst ea; exact .inr hbc
    · by_cases eb : b = c
      · subst eb; exact .inl hac
      · by_cases hc0 : c = 0
        · have h1 := h.first a ha (h.reach a c ha hc hac)
          have h2 := h.ord 0 a (by omega) ha h1
          have h3 := h.ord a c ha hc hac
          rw [hc0] at h3
          exact absurd (by rw [hc0]; exact h3.2 (by omega)) ea
        · obtain ⟨p, hp, -, hpc, hdp, hall⟩ := h.some c hc (dm_reach hac) hc0
          have h1 := h.ord p c hp hc hdp
          have hlt : ord p < ord c := by
            have : ord p ≠ ord c := fun e => hpc (h1.2 e)
            omega
          exact ih (ord p) (by omega) p (Nat.le_refl _) hp a b ha hb (hall a ha ea hac) (hall b hb eb hbc)
theorem NearB.totalB {N : Nat → Int} {ord : Nat → Nat} (h : NearB bs N ord) {a b c : Nat} (hc : c < bs.length) (ha : a < bs.length) (hb : b < bs.length) : (dmB bs a c && dmB bs b c && !dmB bs a b && !dmB bs b a) = false := by
  cases h1 : dmB bs a c
  · rfl
  · cases h2 : dmB bs b c
    · rfl
    · rcases h.total (ord c) c (Nat.le_refl _) hc a b ha hb h1 h2 with h3 | h3
      · rw [h3]; simp
      · rw [h3]; simp
theorem NearB.transB {N : Nat → Int} {ord : Nat → Nat} (h : NearB bs N ord) (a b c : Nat) : (dmB bs a b && dmB bs b c && !dmB bs a c) = false := by
  cases h1 : dmB bs a b
  · rfl
  · cases h2 : dmB bs b c
    · rfl
    · rw [h.trans a b c h1 h2]; rfl
theorem NearB.unlike {N : Nat → Int} {ord : Nat → Nat} (h : NearB bs N ord) {a b : Nat} (ha : a < bs.length) (hb : b < bs.length) (hne : a ≠ b) : (dmB bs a b && dmB bs b a) = false := by
  cases h1 : dmB bs a b
  · rfl
  · cases h2 : dmB bs b a
    · rfl
    · have h3 := h.ord a b ha hb h1
      have h4 := h.ord b a hb ha h2
      exact absurd (h3.2 (by omega)) hne
theorem NearB.at_self {N : Nat → Int} {ord : Nat → Nat} (h : NearB bs N ord) {a : Nat} (ha : a < bs.length) : dmB bs a a = fromB bs 0 (-1) a := by
  cases h1 : fromB bs 0 (-1) a
  · cases h2 : dmB bs a a
    · rfl
    · rw [dm_reach h2] at h1; cases h1
  · exact h.self a ha h1
theorem NearB.at_first {N : Nat → Int} {ord : Nat → Nat} (h : NearB bs N ord) {a : Nat} (ha : a < bs.length) : dmB bs 0 a = fromB bs 0 (-1) a := by
  cases h1 : fromB bs 0 (-1) a
  · cases h2 : dmB bs 0 a
    · rfl
    · rw [dm_reach h2] at h1; cases h1
  · exact h.first a ha h1

set_option maxRecDepth 100000 in
set_option maxHeartbeats 16000000 in
theorem domOrder_walk (f : FunD) (v : Value) (w : World) (hv : VFun w v f) :
    Calls Try.prog 6 #[v] w fun e w' => e = .returned (.bool true) ∧ Below w.heap.size w w' := by
  have hv0 := hv
  obtain ⟨Ar, cr, A, c, rfl, -, -, -, -⟩ := hv
  have HV := Lib.hid hv0
  clear hv0
  go_enter Try.func6, Try.ntmps6
  go_wp2_with fail
  obtain ⟨w1, hw1, hs1, hk1, hbel1, hc1, -⟩ := named w #[.int .i64 f.params, .int .i64 f.result, .slice Ar f.regs.length cr, .slice A f.blocks.length c] 25
  rw [← hw1]
  refine (up6_any w1).mono ?_
  rintro e w2 ⟨rfl, hb2⟩
  have hk2 := kept_of_below hb2
  have c0 := hk2 _ _ (hc1 0 _ rfl)
  have c1 := hk2 _ _ (hc1 1 _ rfl)
  have c2 := hk2 _ _ (hc1 2 _ rfl)
  have c3 := hk2 _ _ (hc1 3 _ rfl)
  have HB2 : Hid (Below w.heap.size w w2) := Lib.hid (hbel1.trans (hb2.mono (by omega)))
  have HN : Hid (w.heap.size < w2.heap.size) := Lib.hid (by have := hb2.size; omega)
  obtain ⟨N, hN⟩ : ∃ N, N = w.heap.size := ⟨_, rfl⟩
  have HNN := Lib.hid hN
  rw [← hN] at c0 c1 c2 c3 ⊢
  clear hw1 hs1 hbel1 hc1 hb2 hk1 hk2 hN
  go_wp2_with fail
  refine (small6_any f _ w2 (VFun.keep (kept_of_below HB2.out) HV.out)).mono ?_
  rintro e w3 ⟨⟨bs, rfl, hsm⟩, hb3⟩
  have hk3 := kept_of_below hb3
  have c0 := hk3 _ _ c0
  have c1 := hk3 _ _ c1
  have c2 := hk3 _ _ c2
  have c3 := hk3 _ _ c3
  have HB3 : Hid (Below w.heap.size w w3) := Lib.hid (HB2.out.trans (hb3.mono HB2.out.size))
  cases bs
  · clear hb3 hk3 hsm
    go_wp2_with fail
    go_ret
    exact ⟨rfl, HB3.out⟩
  · have hn : f.blocks.length ≤ 70 := (hsm rfl).1
    clear hb3 hk3 hsm
    go_wp2_with fail
    refine (dominates_any f _ w3 (VFun.keep (kept_of_below HB3.out) HV.out) (by omega)).mono ?_
    rintro e w4 ⟨⟨G, D0, rfl, hG, hg, ord, hNB⟩, hb4⟩
    have hk4 := kept_of_below hb4
    have c0 := hk4 _ _ c0
    have c1 := hk4 _ _ c1
    have c2 := hk4 _ _ c2
    have c3 := hk4 _ _ c3
    have HB4 : Hid (Below w.heap.size w w4) := Lib.hid (HB3.out.trans (hb4.mono HB3.out.size))
    have HG := Lib.hid hg
    have HNB := Lib.hid hNB
    clear hb4 hk4 hG hg hNB
    go_wp2_with fail
    refine (from_any f 0 (-1) _ w4 (VFun.keep (kept_of_below HB4.out) HV.out) (by omega)).mono ?_
    rintro e w6 ⟨⟨R, rfl, hR, hr⟩, hb6⟩
    have HG6 := Lib.hid (HG.out.below hb6)
    have HR6 := Lib.hid hr
    have HB6 : Hid (Below w.heap.size w w6) := Lib.hid (HB4.out.trans (hb6.mono HB4.out.size))
    clear hb6 hR hr c0 c1 c2 c3
    go_wp2_with fail
    go_loopw [7] (fun s7 wq => ∃ a : Nat, a ≤ f.blocks.length ∧ s7 = .int .i64 (a : Int) ∧ Below w6.heap.size w6 wq) (fun s7 _ => f.blocks.length - (intOf s7).toNat)
    case atStart => exact ⟨0, Nat.zero_le _, rfl, Below.refl _ _⟩
    case round =>
      obtain ⟨a, ha, rfl, hb⟩ := hrel
      have HB := Lib.hid hb
      by_cases hal : a < f.blocks.length
      · have xr := (HG6.out.below hb).row.cell hal
        have ha0 : (0 : Int) ≤ a := by omega
        have ha1 : (a : Int) < f.blocks.length := by omega
        clear hb
        go_wp2_with fail
        go_roundw
        case rel => exact ⟨a + 1, by omega, by go_num, HB.out⟩
        case measure => simp [intOf]; omega
      · have haa : a = f.blocks.length := by omega
        clear hal ha hb
        go_upto_region 15 with fail
        go_loopg [8] f.blocks.length (fun gk s8 wq => ∃ a : Nat, a ≤ f.blocks.length ∧ gk = f.blocks.length - a ∧ s8 = .int .i64 (a : Int) ∧ Below w6.heap.size w6 wq)
        case atStart => exact ⟨0, Nat.zero_le _, rfl, rfl, HB.out⟩
        case round =>
          obtain ⟨a, ha, rfl, rfl, hb⟩ := hrel
          have HBA := Lib.hid hb
          by_cases hal : a < f.blocks.length
          · have hgr := HG6.out.below hb
            have hrr := HR6.out.of_block (hb.block R HR6.out.lt)
            have hn0 : 0 < f.blocks.length := by omega
            have xa := hgr.row.cell hal
            have x0 : wr.cell? ⟨G, 0, none⟩ = some (.slice (some ⟨D0, 0, none⟩) f.blocks.length f.blocks.length) := hgr.row.cell hn0
            have xaa := (hgr.cells a hal).cell hal
            have x0a : wr.cell? ⟨D0, a, none⟩ = some (.bool (dmB f.blocks 0 a)) := (hgr.cells 0 hn0).cell hal
            have xra := hrr.cell hal
            have ha0 : (0 : Int) ≤ a := by omega
            have ha1 : (a : Int) < f.blocks.length := by omega
            have hn1 : (0 : Int) < f.blocks.length := by omega
            rw [HNB.out.at_self hal] at xaa
            rw [HNB.out.at_first hal] at x0a
            clear hgr hrr hb
            go_upto_region 17 with fail
            cases hfx : fromB f.blocks 0 (-1) a
            all_goals (
              rw [hfx] at xaa x0a xra
              clear hfx
              go_quiet (fail)
              have HBQ : Hid (Below w6.heap.size w6 (wr.drewN nq)) := Lib.hid (below_drewN HBA.out nq)
              clear xa x0 xaa x0a xra
              generalize wr.drewN nq = wz at *
              go_upto_region 20 with fail
              go_loopg [9] f.blocks.length (fun gk s9 wq => ∃ b : Nat, b ≤ f.blocks.length ∧ gk = f.blocks.length - b ∧ s9 = .int .i64 (b : Int) ∧ Below w6.heap.size w6 wq)
              case atStart => exact ⟨0, Nat.zero_le _, rfl, rfl, HBQ.out⟩
              case round =>
                obtain ⟨b, hbn, rfl, rfl, hb⟩ := hrel
                have HBB := Lib.hid hb
                by_cases hbl : b < f.blocks.length
                · have hgr := HG6.out.below hb
                  have xa := hgr.row.cell hal
                  have xb := hgr.row.cell hbl
                  have xab := (hgr.cells a hal).cell hbl
                  have xba := (hgr.cells b hbl).cell hal
                  have hb0 : (0 : Int) ≤ b := by omega
                  have hb1 : (b : Int) < f.blocks.length := by omega
                  clear hgr hb
                  go_upto_region 22 with fail
                  go_cut [97] (fun s97 wc => s97 = .bool false ∧ wc = wr)
                  case first =>
                    by_cases hab : a = b
                    · have hne : (((a : Nat) : Int) != ((b : Nat) : Int)) = false := by simp [hab]
                      clear hab
                      go_wp2_with fail
                      go_meet
                      exact ⟨rfl, rfl⟩
                    · have hne : (((a : Nat) : Int) != ((b : Nat) : Int)) = true := by simp; omega
                      have hun := HNB.out.unlike hal hbl hab
                      clear hab
                      generalize dmB f.blocks a b = x3 at *
                      generalize dmB f.blocks b a = x4 at *
                      cases x3 <;> cases x4 <;> first | (exact absurd hun (by decide)) | (clear hun; go_wp2_with fail; go_meet; exact ⟨rfl, rfl⟩)
                  case rest =>
                    obtain ⟨rfl, rfl⟩ := hcut
                    clear xa xb xab xba
                    go_upto_region 25 with fail
                    go_loopg [10] f.blocks.length (fun gk s10 wq => ∃ c : Nat, c ≤ f.blocks.length ∧ gk = f.blocks.length - c ∧ s10 = .int .i64 (c : Int) ∧ Below w6.heap.size w6 wq)
                    case atStart => exact ⟨0, Nat.zero_le _, rfl, rfl, HBB.out⟩
                    case round =>
                      obtain ⟨c, hcn, rfl, rfl, hb⟩ := hrel
                      have HBC := Lib.hid hb
                      by_cases hcl : c < f.blocks.length
                      · have hgr := HG6.out.below hb
                        have xa := hgr.row.cell hal
                        have xb := hgr.row.cell hbl
                        have xab := (hgr.cells a hal).cell hbl
                        have xba := (hgr.cells b hbl).cell hal
                        have xac := (hgr.cells a hal).cell hcl
                        have xbc := (hgr.cells b hbl).cell hcl
                        have hc0 : (0 : Int) ≤ c := by omega
                        have hc1 : (c : Int) < f.blocks.length := by omega
                        have hT : (dmB f.blocks a c && dmB f.blocks b c && !dmB f.blocks a b && !dmB f.blocks b a) = false := HNB.out.totalB hcl hal hbl
                        have hU : (dmB f.blocks a b && dmB f.blocks b c && !dmB f.blocks a c) = false := HNB.out.transB a b c
                        clear hgr hb
                        go_upto_region 27 with fail
                        go_cut [167] (fun s167 wc => s167 = .bool false ∧ wc = wr)
                        case first =>
                          generalize dmB f.blocks a b = x3 at *
                          generalize dmB f.blocks b a = x4 at *
                          generalize dmB f.blocks a c = x1 at *
                          generalize dmB f.blocks b c = x2 at *
                          cases x1 <;> cases x2 <;> cases x3 <;> cases x4 <;> first | (exact absurd hT (by decide)) | (exact absurd hU (by decide)) | (clear hT hU; go_wp2_with fail; go_meet; exact ⟨rfl, rfl⟩)
                        case rest =>
                          obtain ⟨rfl, rfl⟩ := hcut
                          clear xa xb xab xba xac xbc hT hU
                          go_wp2_with fail
                          go_roundg (f.blocks.length - (c + 1))
                          case measure => omega
                          case rel => exact ⟨c + 1, by omega, rfl, by go_num, HBC.out⟩
                      · clear hb
                        go_wp2_with fail
                        go_roundg (f.blocks.length - (b + 1))
                        case measure => omega
                        case rel => exact ⟨b + 1, by omega, rfl, by go_num, HBC.out⟩
                · clear hb
                  go_wp2_with fail
                  go_roundg (f.blocks.length - (a + 1))
                  case measure => omega
                  case rel => exact ⟨a + 1, by omega, rfl, by go_num, HBB.out⟩)
          · have HBF : Hid (Below w.heap.size w wr) := Lib.hid (HB6.out.trans (hb.mono HB6.out.size))
            clear hb
            go_wp2_with fail
            go_ret
            exact ⟨rfl, HBF.out⟩
end Go.Proofs.Ytooblmiffgjmjaa
