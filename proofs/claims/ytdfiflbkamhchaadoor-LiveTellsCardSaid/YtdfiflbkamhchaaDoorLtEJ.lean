/- The document's Live: which registers are wanted where. -/
import Derived.Test.YtdfiflbkamhchaaDoorChkBJ
import Derived.Test.YtdfiflbkamhchaaDoorGrNxJ
namespace Go.Proofs.YtdfiflbkamhchaaDoor
open Go.ChangeShapes Go.WideShapes Go.RowKit Go.Deep
set_option linter.unusedVariables false

/-- Two rows, one behind the other: what is held at beginnings and at ends. -/
structure LvRow (w0 w : World) (H n : Nat) (s : RdS) : Prop where
  i : w.rowIs H 4 n (fun x => .bool (s.i x))
  e : w.rowIs (H + 1) 4 n (fun x => .bool (s.e x))
  fr : FrX (fun y => y = H ∨ y = H + 1) w0 w
theorem LvRow.below {w0 w w' : World} {H n : Nat} {s : RdS} (h : LvRow w0 w H n s) (hb : Below w.heap.size w w') : LvRow w0 w' H n s :=
  ⟨h.i.of_block (hb.block H h.i.lt), h.e.of_block (hb.block (H + 1) h.e.lt), h.fr.trans (.of_below hb)⟩
theorem LvRow.setE {w0 w : World} {H n : Nat} {s : RdS} (h : LvRow w0 w H n s) (b : Nat) (x : Bool) : LvRow w0 (w.setCell ⟨H + 1, b, none⟩ (.bool x)) H n (eS s b x) :=
  ⟨h.i.of_block (Below.heap_setCell _ _ _ _ (by simp)), (h.e.set b (.bool x)).congr fun y _ => by unfold eS; by_cases e : y = b <;> simp [e], h.fr.setCell (.inl (.inr rfl)) _⟩
theorem LvRow.setI {w0 w : World} {H n : Nat} {s : RdS} (h : LvRow w0 w H n s) (b : Nat) (x : Bool) : LvRow w0 (w.setCell ⟨H, b, none⟩ (.bool x)) H n (iS s b x) :=
  ⟨(h.i.set b (.bool x)).congr fun y _ => by unfold iS; by_cases e : y = b <;> simp [e], h.e.of_block (Below.heap_setCell _ _ _ _ (by simp)), h.fr.setCell (.inl (.inl rfl)) _⟩
theorem eS_eS (s : RdS) (b : Nat) (x y : Bool) : eS (eS s b x) b y = eS s b y := by
  unfold eS
  congr 1
  funext z
  by_cases e : z = b
  · simp only [if_pos e]
  · simp only [if_neg e]
def ToldLv8 (bs : List BlkD) (r : Nat) (w : World) (e : Ending) (w' : World) : Prop :=
  (∃ H, e = .returned (.tuple #[.slice (some ⟨H, 0, none⟩) bs.length bs.length, .slice (some ⟨H + 1, 0, none⟩) bs.length bs.length]) ∧ w.heap.size ≤ H ∧
    w'.rowIs H 4 bs.length (fun x => .bool ((rF bs r (2 * bs.length + 1)).i x)) ∧ w'.rowIs (H + 1) 4 bs.length (fun x => .bool ((rF bs r (2 * bs.length + 1)).e x))) ∧ Below w.heap.size w w'

set_option maxRecDepth 100000 in
set_option maxHeartbeats 16000000 in
theorem live8_any (f : FunD) (r : Nat) (v : Value) (w : World) (hv : VFun w v f) (hok : LvOk f) (hr : r < f.regs.length) :
    Calls Tryd.prog 10 #[v, .int .i64 (r : Int)] w (ToldLv8 f.blocks r w) := by
  have hv0 := hv
  obtain ⟨Ar, cr, A, c, rfl, -, hbl, -, -⟩ := hv
  have HBL := Lib.hid hbl
  have HOK := Lib.hid hok
  have HRR := Lib.hid (And.intro hr hok.nr)
  have hnb := hok.nb
  have hmk := run_make_row' (P := Tryd.prog) 42 4 (.bool false) 1 Tryd.underlying42 Tryd.info4 rfl .i64 .i64 f.blocks.length (by omega) (by omega)
  clear hbl hok hr
  go_enter Tryd.func10, Tryd.ntmps10
  go_upto_region 1 with fail
  obtain ⟨w1, hw1, hs1, hk1, hbel1, hc1, -⟩ := named w #[.int .i64 f.params, .int .i64 f.result, .slice Ar f.regs.length cr, .slice A f.blocks.length c] 41
  rw [← hw1]
  have c0 : w1.cell? ⟨w.heap.size, 0, none⟩ = some (.int .i64 f.params) := hc1 0 _ rfl
  have c1 : w1.cell? ⟨w.heap.size, 1, none⟩ = some (.int .i64 f.result) := hc1 1 _ rfl
  have c2 : w1.cell? ⟨w.heap.size, 2, none⟩ = some (.slice Ar f.regs.length cr) := hc1 2 _ rfl
  have c3 : w1.cell? ⟨w.heap.size, 3, none⟩ = some (.slice A f.blocks.length c) := hc1 3 _ rfl
  have HC1 := Lib.hid (And.intro c0 (And.intro c1 (And.intro c2 c3)))
  have HB1 := Lib.hid hbel1
  have HS1 : Hid (w1.heap.size = w.heap.size + 1) := Lib.hid hs1
  have HV1 := Lib.hid (VFun.keep hk1 hv0)
  clear hw1 hs1 hk1 hc1 hbel1 hv0
  obtain ⟨H, hH⟩ : ∃ H, H = w1.heap.size := ⟨_, rfl⟩
  have HHH := Lib.hid hH
  go_upto_region 2 with fail
  obtain ⟨w2, hw2⟩ : ∃ w2, w2 = w1.alloc (.cells (madeCells #[.bool false] f.blocks.length) 4) := ⟨_, rfl⟩
  have hb2 : Below w1.heap.size w1 w2 := by rw [hw2]; exact (Below.refl _ _).alloc (Nat.le_refl _) _
  have hr2 : w2.rowIs H 4 f.blocks.length (fun x => .bool ((fun _ => false) x : Bool)) := by rw [hw2, hH]; exact World.rowIs_made w1 (.bool false) f.blocks.length 4
  have hz2 : w2.heap.size = H + 1 := by rw [hw2, hH]; simp
  rw [← hw2, ← hH]
  have c3 := kept_of_below hb2 _ _ c3
  have HB2 := Lib.hid hb2
  have HR2 := Lib.hid hr2
  have HZ2 := Lib.hid hz2
  clear hw2 hb2 hr2 hz2 c0 c1 c2
  go_upto_region 3 with fail
  obtain ⟨w3, hw3⟩ : ∃ w3, w3 = w2.alloc (.cells (madeCells #[.bool false] f.blocks.length) 4) := ⟨_, rfl⟩
  have hb3 : Below w2.heap.size w2 w3 := by rw [hw3]; exact (Below.refl _ _).alloc (Nat.le_refl _) _
  have hr3 : w3.rowIs (H + 1) 4 f.blocks.length (fun x => .bool ((fun _ => false) x : Bool)) := by rw [hw3, ← HZ2.out]; exact World.rowIs_made w2 (.bool false) f.blocks.length 4
  have hz3 : w3.heap.size = H + 2 := by rw [hw3]; have := HZ2.out; simp; omega
  rw [← hw3, HZ2.out]
  have HL0 : Hid (LvRow w3 w3 H f.blocks.length (rF f.blocks r 0)) := Lib.hid ⟨HR2.out.of_block (hb3.block H HR2.out.lt), hr3, FrX.refl _ _⟩
  have HB3 : Hid (Below w1.heap.size w1 w3) := Lib.hid (HB2.out.trans (hb3.mono HB2.out.size))
  have HZ3 := Lib.hid hz3
  have HC : Hid (∀ w', FrX (fun y => y = H ∨ y = H + 1) w3 w' → (w'.cell? ⟨w.heap.size, 0, none⟩ = some (.int .i64 f.params) ∧ w'.cell? ⟨w.heap.size, 1, none⟩ = some (.int .i64 f.result) ∧ w'.cell? ⟨w.heap.size, 2, none⟩ = some (.slice Ar f.regs.length cr) ∧ w'.cell? ⟨w.heap.size, 3, none⟩ = some (.slice A f.blocks.length c)) ∧ Below w1.heap.size w1 w') := Lib.hid (fun w' hf => by
    have hb : Below w1.heap.size w1 w' := HB3.out.trans (hf.below HB3.out.size (fun y hy => by have := HHH.out; rcases hy with hy | hy <;> omega))
    have hk := kept_of_below hb
    exact ⟨⟨hk _ _ HC1.out.1, hk _ _ HC1.out.2.1, hk _ _ HC1.out.2.2.1, hk _ _ HC1.out.2.2.2⟩, hb⟩)
  clear hw3 hb3 hr3 hz3 c3 hmk hH HR2 HB2
  go_wp2_with fail
  go_loopw [8] (fun s8 wq => ∃ j : Nat, j ≤ 2 * f.blocks.length + 1 ∧ s8 = .int .i64 (j : Int) ∧ LvRow w3 wq H f.blocks.length (rF f.blocks r j)) (fun s8 _ => 2 * f.blocks.length + 1 - (intOf s8).toNat)
  case atStart => exact ⟨0, Nat.zero_le _, rfl, HL0.out⟩
  case round =>
    obtain ⟨j, hj, rfl, hR⟩ := hrel
    have HR := Lib.hid hR
    obtain ⟨⟨-, -, -, c3⟩, -⟩ := HC.out _ hR.fr
    by_cases hjl : j ≤ 2 * f.blocks.length
    · have hjz : (j : Int) ≤ 2 * (f.blocks.length : Int) := by omega
      obtain ⟨Sj, hSj⟩ : ∃ S, S = rF f.blocks r j := ⟨_, rfl⟩
      have HSJ : Hid (kF f.blocks r Sj f.blocks.length = rF f.blocks r (j + 1)) := Lib.hid (by rw [hSj, rF_succ])
      rw [← hSj] at HR
      clear hR hSj
      go_wp2_with fail
      obtain ⟨wj, rfl⟩ : ∃ wj, wj = wr := ⟨_, rfl⟩
      clear c3
      go_loopw [9] (fun s9 wq => ∃ b : Nat, b ≤ f.blocks.length ∧ s9 = .int .i64 (b : Int) ∧ LvRow w3 wq H f.blocks.length (kF f.blocks r Sj b)) (fun s9 _ => f.blocks.length - (intOf s9).toNat)
      case atStart => exact ⟨0, Nat.zero_le _, rfl, HR.out⟩
      case round =>
        clear HR
        obtain ⟨b, hb, rfl, hR⟩ := hrel
        have HR := Lib.hid hR
        obtain ⟨⟨c0, c1, c2, c3⟩, hbw⟩ := HC.out _ hR.fr
        by_cases hbl : b < f.blocks.length
        · have hb0 : (0 : Int) ≤ b := by omega
          have hb1 : (b : Int) < f.blocks.length := by omega
          obtain ⟨S, hS⟩ : ∃ S, S = kF f.blocks r Sj b := ⟨_, rfl⟩
          have HSB := Lib.hid (kF_succ f.blocks r Sj b)
          rw [← hS] at HR HSB
          have HN := Lib.hid (refNext_any f b _ wr (VFun.keep (kept_of_below hbw) HV1.out) (by omega) hbl)
          clear hR hbw hS
          go_wp2_with fail
          refine HN.out.mono ?_
          rintro e w4 ⟨⟨vo, rfl, hown⟩, hb4⟩
          have HLT : Hid (∀ q ∈ nxF f.blocks b, q < f.blocks.length) := Lib.hid (nxF_lt f.blocks b)
          obtain ⟨An, cn, rfl, hsl⟩ := slB_of_own (B := fun g => wr.heap.size ≤ g) (xs := zs (nxF f.blocks b)) (by rw [zs_len]; exact hown) (fun x hx => by obtain ⟨q, hq, rfl⟩ := zs_mem hx; have := HLT.out q hq; unfold I64; omega) (fun g h1 _ => h1)
          have hll := hsl.len
          rw [zs_len] at hll
          rw [zs_len]
          have HSL := Lib.hid hsl
          have HR4 := Lib.hid (HR.out.below hb4)
          have HHW : Hid (H + 1 < wr.heap.size) := Lib.hid HR.out.e.lt
          have HB4 := Lib.hid hb4
          obtain ⟨l, hl⟩ : ∃ l, l = (nxF f.blocks b).length := ⟨_, rfl⟩
          have HLL := Lib.hid hl
          rw [← hl] at hll
          rw [← hl]
          clear hown hb4 hsl HN HR c0 c1 c2 c3 hl
          go_wp2_with fail
          obtain ⟨wb, hwb⟩ : ∃ wb, wb = wr := ⟨_, rfl⟩
          rw [← hwb] at HSL HHW HB4
          clear hwb
          go_loopw [11] (fun s11 wq => ∃ k : Nat, k ≤ l ∧ s11 = .int .i64 (k : Int) ∧ LvRow w3 wq H f.blocks.length (eS S b (eP f.blocks r S b k)) ∧ FrX (fun y => y = H ∨ y = H + 1) w4 wq) (fun s11 _ => l - (intOf s11).toNat)
          case atStart => exact ⟨0, Nat.zero_le _, rfl, by rw [eS_zero]; exact HR4.out, FrX.refl _ _⟩
          case round =>
            clear HR4
            obtain ⟨k, hk, rfl, hR, hF⟩ := hrel
            have HR := Lib.hid hR
            have HF := Lib.hid hF
            obtain ⟨⟨c0, c1, c2, c3⟩, hbw⟩ := HC.out _ hR.fr
            by_cases hkl : k < l
            · obtain ⟨q, hq⟩ : ∃ q, (nxF f.blocks b)[k]? = some q := ⟨_, List.getElem?_eq_getElem (by rw [← HLL.out]; exact hkl)⟩
              have hqn : q < f.blocks.length := HLT.out q (List.mem_of_getElem? hq)
              have hso := SIntsB.go (B := fun g => wb.heap.size ≤ g ∧ g < w4.heap.size) (B' := fun g => wb.heap.size ≤ g) (w := w4) (w' := wr) (fun a v hg ha => (World.cell?_of_block (hF.block a.block hg.2 (fun h => by have := HHW.out; have := hg.1; rcases h with h | h <;> omega))).trans ha) (fun g hg => hg.1) (SIntsB.lt HSL.out)
              obtain ⟨bn, on, x, rfl, hx, hgx, hxc, -⟩ := hso.at_ (k := k) (by rw [zs_len, ← HLL.out]; exact hkl)
              have hxc : wr.cell? ⟨bn, on + k, none⟩ = some (.int .i64 (q : Int)) := by
                rw [Nat.mul_one] at hxc
                obtain ⟨q2, hq2, rfl⟩ := zs_at hx.out
                rw [hq] at hq2; cases hq2
                exact hxc
              have HXC := Lib.hid hxc
              have hEP : eP f.blocks r S b (k + 1) = (eP f.blocks r S b k || alB f.blocks r b q || S.i q) := eP_succ hq
              have HEP := Lib.hid hEP
              have HAL := Lib.hid (along8_any f b q r _ wr.drew (VFun.keep (kept_of_below (w' := wr.drew) hbw.drew) HV1.out) HOK.out hbl hqn)
              have hk0 : (0 : Int) ≤ k := by omega
              have hk1 : (k : Int) < l := by omega
              have hq0 : (0 : Int) ≤ q := by omega
              have hq1 : (q : Int) < f.blocks.length := by omega
              clear hR hF hbw hx hgx hEP hq hso
              go_upto_region 13 with fail
              go_cut [12] (fun s12 wc => ∃ y : Bool, s12 = .bool y ∧ alB f.blocks r b q = y ∧ Below wr.heap.size wr wc)
              case first =>
                refine wp_region_last (L := 8) (S := fun w' : World => w'.cell? ⟨w.heap.size, 0, none⟩ = some (.int .i64 f.params) ∧ w'.cell? ⟨w.heap.size, 1, none⟩ = some (.int .i64 f.result) ∧ w'.cell? ⟨w.heap.size, 2, none⟩ = some (.slice Ar f.regs.length cr) ∧ w'.cell? ⟨w.heap.size, 3, none⟩ = some (.slice A f.blocks.length c) ∧ w'.cell? ⟨bn, on + k, none⟩ = some (.int .i64 (q : Int))) (by kernel_rfl) (by rfl) (by kernel_rfl) (by kernel_rfl) ?_
                change wpAnyH _ _ _ _ _ _ _ _ (World.drew _)
                have hS0 : wr.drew.cell? ⟨w.heap.size, 0, none⟩ = some (.int .i64 f.params) ∧ wr.drew.cell? ⟨w.heap.size, 1, none⟩ = some (.int .i64 f.result) ∧ wr.drew.cell? ⟨w.heap.size, 2, none⟩ = some (.slice Ar f.regs.length cr) ∧ wr.drew.cell? ⟨w.heap.size, 3, none⟩ = some (.slice A f.blocks.length c) ∧ wr.drew.cell? ⟨bn, on + k, none⟩ = some (.int .i64 (q : Int)) := ⟨c0, c1, c2, c3, hxc⟩
                refine takeH (i := 0) (some 48) (v := ?_) rfl (by kernel_rfl) (by kernel_rfl) (by kernel_rfl) (fun _ _ _ h => h) hS0 (fun o ho => ?_) ?_
                rotate_left
                · simp only [List.getElem?_toArray, List.getElem?_cons_zero, Option.some.injEq] at ho; subst ho; refine Or.inl ⟨by rfl, fun w' hSw => ?_⟩; (try dsimp only at hSw); go_simp; try with_reducible rfl
                simp only [Act.put, List.setIfInBounds_toArray, List.set_cons_zero, List.set_cons_succ]
                refine takeH (i := 1) (some 49) (v := ?_) rfl (by kernel_rfl) (by kernel_rfl) (by kernel_rfl) (fun _ _ _ h => h) hS0 (fun o ho => ?_) ?_
                rotate_left
                · simp only [List.getElem?_toArray, List.getElem?_cons_zero, List.getElem?_cons_succ, Option.some.injEq] at ho; subst ho; refine Or.inl ⟨by rfl, fun w' hSw => ?_⟩; (try dsimp only at hSw); go_simp; try with_reducible rfl
                simp only [Act.put, List.setIfInBounds_toArray, List.set_cons_zero, List.set_cons_succ]
                refine takeH (i := 2) (some 50) (v := ?_) rfl (by kernel_rfl) (by kernel_rfl) (by kernel_rfl) (fun _ _ _ h => h) hS0 (fun o ho => ?_) ?_
                rotate_left
                · simp only [List.getElem?_toArray, List.getElem?_cons_zero, List.getElem?_cons_succ, Option.some.injEq] at ho; subst ho; refine Or.inl ⟨by rfl, fun w' hSw => ?_⟩; (try dsimp only at hSw); go_simp; try with_reducible rfl
                simp only [Act.put, List.setIfInBounds_toArray, List.set_cons_zero, List.set_cons_succ]
                refine takeH (i := 3) (some 51) (v := ?_) rfl (by kernel_rfl) (by kernel_rfl) (by kernel_rfl) (fun _ _ _ h => h) hS0 (fun o ho => ?_) ?_
                rotate_left
                · simp only [List.getElem?_toArray, List.getElem?_cons_zero, List.getElem?_cons_succ, Option.some.injEq] at ho; subst ho; refine Or.inl ⟨by rfl, fun w' hSw => ?_⟩; (try dsimp only at hSw); go_simp; try with_reducible rfl
                simp only [Act.put, List.setIfInBounds_toArray, List.set_cons_zero, List.set_cons_succ]
                refine takeH (i := 4) (some 52) (v := ?_) rfl (by kernel_rfl) (by kernel_rfl) (by kernel_rfl) (fun _ _ _ h => h) hS0 (fun o ho => ?_) ?_
                rotate_left
                · simp only [List.getElem?_toArray, List.getElem?_cons_zero, List.getElem?_cons_succ, Option.some.injEq] at ho; subst ho; refine Or.inl ⟨by rfl, fun w' hSw => ?_⟩; (try dsimp only at hSw); go_simp; try with_reducible rfl
                simp only [Act.put, List.setIfInBounds_toArray, List.set_cons_zero, List.set_cons_succ]
                refine takeH (i := 5) (some 53) (v := ?_) rfl (by kernel_rfl) (by kernel_rfl) (by kernel_rfl) (fun _ _ _ h => h) hS0 (fun o ho => ?_) ?_
                rotate_left
                · simp only [List.getElem?_toArray, List.getElem?_cons_zero, List.getElem?_cons_succ, Option.some.injEq] at ho; subst ho; refine Or.inl ⟨by rfl, fun w' hSw => ?_⟩; (try dsimp only at hSw); go_simp; try with_reducible rfl
                simp only [Act.put, List.setIfInBounds_toArray, List.set_cons_zero, List.set_cons_succ]
                refine takeH (i := 6) (some 54) (v := ?_) rfl (by kernel_rfl) (by kernel_rfl) (by kernel_rfl) (fun _ _ _ h => h) hS0 (fun o ho => ?_) ?_
                rotate_left
                · simp only [List.getElem?_toArray, List.getElem?_cons_zero, List.getElem?_cons_succ, Option.some.injEq] at ho; subst ho; refine Or.inl ⟨by rfl, fun w' hSw => ?_⟩; (try dsimp only at hSw); go_simp; try with_reducible rfl
                simp only [Act.put, List.setIfInBounds_toArray, List.set_cons_zero, List.set_cons_succ]
                refine oneH (i := 7) (by kernel_rfl) (fun o ho K hK => ?_)
                simp only [List.getElem?_toArray, List.getElem?_cons_zero, List.getElem?_cons_succ, Option.some.injEq] at ho; subst ho
                go_simp
                refine HAL.out.mono ?_
                rintro e w5 ⟨⟨y, rfl, hy⟩, hb5⟩
                have HY := Lib.hid (alB_of hy)
                have HB5 : Hid (Below wr.heap.size wr w5) := Lib.hid ((Below.refl _ wr).drew.trans (hb5.mono (Nat.le_refl _)))
                have hkk := kept_of_below HB5.out
                have HS5 := Lib.hid (And.intro (hkk _ _ c0) (And.intro (hkk _ _ c1) (And.intro (hkk _ _ c2) (And.intro (hkk _ _ c3) (hkk _ _ hxc)))))
                clear hb5 hy hkk
                go_wp2_with fail
                refine hK.out _ _ HS5.out ?_
                clear hK K
                try simp only [Act.put, List.setIfInBounds_toArray, List.set_cons_zero, List.set_cons_succ]
                refine wpAnyH_done (by kernel_rfl) ?_ _
                refine lastH (by decide) (fun o ho K hK => ?_)
                simp only [List.getElem?_toArray, List.getElem?_cons_zero, List.getElem?_cons_succ, Option.some.injEq] at ho; subst ho
                go_simp
                refine hK.out _ _ ?_
                clear hK K
                go_wp2_with fail
                go_meet
                exact ⟨y, rfl, HY.out, HB5.out⟩
              case rest =>
                obtain ⟨y, rfl, hy, hb5⟩ := hcut
                have hR5 := HR.out.below hb5
                have xe : wc.cell? ⟨H + 1, b, none⟩ = some (.bool (eP f.blocks r S b k)) := by have h := hR5.e.cell hbl; simpa [eS] using h
                have xf := hR5.e.frozen b
                have xi : wc.cell? ⟨H, q, none⟩ = some (.bool (S.i q)) := by have h := hR5.i.cell hqn; simpa [eS] using h
                have hxc := kept_of_below hb5 _ _ HXC.out
                have HST : Hid (∀ u, eP f.blocks r S b (k + 1) = u → LvRow w3 (wc.setCell ⟨H + 1, b, none⟩ (.bool u)) H f.blocks.length (eS S b (eP f.blocks r S b (k + 1)))) := Lib.hid (fun u hu => by
                  have h := hR5.setE b u
                  rw [eS_eS] at h
                  rw [hu]; exact h)
                have HFT : Hid (∀ u, FrX (fun y => y = H ∨ y = H + 1) w4 (wc.setCell ⟨H + 1, b, none⟩ (.bool u))) := Lib.hid (fun u => (HF.out.trans (.of_below hb5)).setCell (p := ⟨H + 1, b, none⟩) (.inl (.inr rfl)) _)
                rw [hy] at HEP
                clear hy hb5 hR5 HAL HR HF c0 c1 c2 c3
                generalize eP f.blocks r S b k = e0 at *
                generalize S.i q = i0 at *
                cases e0 <;> cases y <;> cases i0
                all_goals (
                  go_wp2_with fail
                  go_roundw
                  case rel => exact ⟨k + 1, by omega, by go_num, HST.out _ (by rw [HEP.out]; rfl), HFT.out _⟩
                  case measure => simp [intOf]; omega)
            · obtain rfl : k = l := by omega
              have hbW : Below w.heap.size w wr := HB1.out.trans (hbw.mono (by have := HS1.out; omega))
              obtain ⟨bk, ok, kb, rfl, hkb, ⟨A1, a1, k0', hs1⟩, ⟨A2, a2, k1', hs2⟩, k2', k3', A3, a3, k4', hs3⟩ := HBL.out.at_ hbl
              have HVB : Hid (VBlk w (.agg #[.slice A1 kb.phis.length a1, .slice A2 kb.ins.length a2, .int .i64 kb.term.kind, .int .i64 kb.term.arg, .slice A3 kb.term.to.length a3]) kb) := Lib.hid ⟨A1, a1, A2, a2, A3, a3, rfl, hs1, hs2, hs3, k2'.2, k3'.2⟩
              have hkp := kept_of_below hbW
              have HKP := Lib.hid hkp
              have HK5 : Hid (∀ w', Kept w w' → w'.cell? ⟨bk, ok + b * 5, none⟩ = some (.slice A1 kb.phis.length a1) ∧ w'.cell? ⟨bk, ok + b * 5 + 1, none⟩ = some (.slice A2 kb.ins.length a2) ∧ w'.cell? ⟨bk, ok + b * 5 + 2, none⟩ = some (.int .i64 kb.term.kind) ∧ w'.cell? ⟨bk, ok + b * 5 + 3, none⟩ = some (.int .i64 kb.term.arg) ∧ w'.cell? ⟨bk, ok + b * 5 + 4, none⟩ = some (.slice A3 kb.term.to.length a3)) := Lib.hid (fun w' h => ⟨h _ _ k0', h _ _ k1', h _ _ k2'.1, h _ _ k3'.1, h _ _ k4'⟩)
              have HU := Lib.hid (uses8_any f.regs.length kb r _ wr (VBlk.keep hkp HVB.out) (HOK.out.use b kb hkb.out) HRR.out.2 HRR.out.1)
              obtain ⟨k0, k1, k2, k3, k4⟩ := HK5.out _ hkp
              have HKB := Lib.hid hkb.out
              rw [usF_at hkb.out, mkB_at hkb.out, phB_at hkb.out, ← HLL.out] at HSB
              clear hR hF hbW k0' k1' k2' k3' k4' hs1 hs2 hs3 hkb hkp c0 c1 c2 hbw
              go_wp2_with fail
              refine HU.out.mono ?_
              rintro e w5 ⟨rfl, hb5⟩
              have hk5 := kept_of_below hb5
              have HK2 := Lib.hid (HKP.out.trans hk5)
              have HM := Lib.hid (makes8_any kb r _ w5 (VBlk.keep HK2.out HVB.out) (HOK.out.use b kb HKB.out).len)
              obtain ⟨k0, k1, k2, k3, k4⟩ := HK5.out _ HK2.out
              have c3 := hk5 _ _ c3
              have HR5 := Lib.hid (HR.out.below hb5)
              clear hb5 hk5
              go_wp2_with fail
              refine HM.out.mono ?_
              rintro e w6 ⟨rfl, hb6⟩
              have hk6 := kept_of_below hb6
              have HK3 := Lib.hid (HK2.out.trans hk6)
              have HPH := Lib.hid (phi8_any kb r _ w6 (VBlk.keep HK3.out HVB.out) (HOK.out.phi b kb HKB.out).1)
              obtain ⟨k0, k1, k2, k3, k4⟩ := HK5.out _ HK3.out
              have c3 := hk6 _ _ c3
              have HR6 := Lib.hid (HR5.out.below hb6)
              clear hb6 hk6
              go_wp2_with fail
              refine HPH.out.mono ?_
              rintro e w7 ⟨rfl, hb7⟩
              have hR7 := HR6.out.below hb7
              have xe : w7.cell? ⟨H + 1, b, none⟩ = some (.bool (eP f.blocks r S b k)) := by have h := hR7.e.cell hbl; simpa [eS] using h
              have xi := hR7.i.cell hbl
              have xf := hR7.i.frozen b
              have HST : Hid (∀ u, (!phI kb.phis kb.phis.length r && (decide (r ∈ usB kb) || (eP f.blocks r S b k && !mkI kb.ins kb.ins.length r))) = u → LvRow w3 (w7.setCell ⟨H, b, none⟩ (.bool u)) H f.blocks.length (kF f.blocks r Sj (b + 1))) := Lib.hid (fun u hu => by
                rw [HSB.out, hu]; exact hR7.setI b u)
              clear hb7 hR7 HSB k0 k1 k2 k3 k4
              generalize eP f.blocks r S b k = e0 at *
              generalize phI kb.phis kb.phis.length r = p0 at *
              generalize decide (r ∈ usB kb) = u0 at *
              generalize mkI kb.ins kb.ins.length r = m0 at *
              cases p0 <;> cases u0 <;> cases e0 <;> cases m0
              all_goals (
                go_wp2_with fail
                go_roundw
                case rel => exact ⟨b + 1, by omega, by go_num, HST.out _ rfl⟩
                case measure => simp [intOf]; omega)
        · obtain rfl : b = f.blocks.length := by omega
          clear hR hbw c0 c1 c2
          go_wp2_with fail
          go_roundw
          case rel => exact ⟨j + 1, by omega, by go_num, by rw [← HSJ.out]; exact HR.out⟩
          case measure => simp [intOf]; omega
    · obtain rfl : j = 2 * f.blocks.length + 1 := by omega
      clear hR
      go_wp2_with fail
      (try simp only [Exit.inBlock, Exit.then])
      refine bodyPost_ret (results_tmp2 rfl _ _ _) rfl ?_
      exact ⟨⟨H, rfl, by have := HHH.out; have := HS1.out; omega, HR.out.i, HR.out.e⟩, HB1.out.trans ((HC.out _ HR.out.fr).2.mono (by have := HS1.out; omega))⟩
end Go.Proofs.YtdfiflbkamhchaaDoor
