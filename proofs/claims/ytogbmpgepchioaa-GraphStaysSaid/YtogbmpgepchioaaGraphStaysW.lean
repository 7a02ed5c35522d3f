/- The walk of GraphStays. -/
import Derived.Test.YtogbmpgepchioaaGrJ
import Derived.Test.YtogbmpgepchioaaGrM
import Derived.Test.YtogbmpgepchioaaGrX
import Derived.Test.YtogbmpgepchioaaGrE
import Derived.Test.YtogbmpgepchioaaSameF
import Derived.Test.YtogbmpgepchioaaCopy
namespace Go.Proofs.Ytogbmpgepchioaa
open Go.ChangeShapes Go.WideShapes Go.RowKit Go.Deep
set_option linter.unusedVariables false

/-! ### What may be written over -/
/-- A number lies there, in a block that is new, and it may be written over. -/
def SInt (N : Nat) (w : World) (b o : Nat) (x : Int) : Prop := N ≤ b ∧ (∃ y : Int, w.cell? ⟨b, o, none⟩ = some (.int .i64 y)) ∧ w.frozen? ⟨b, o, none⟩ = false
def SInsS (N : Nat) (w : World) (b o : Nat) (x : InsD) : Prop := CS w b (o + 2) 1 (SInt N) x.args
def SBlkS (N : Nat) (w : World) (b o : Nat) (k : BlkD) : Prop := CS w b (o + 1) 5 (SInsS N) k.ins ∧ CS w b (o + 4) 1 (SInt N) k.term.to
def SRowS (N : Nat) (w : World) (b o : Nat) (xs : List Int) : Prop := CS w b o 1 (SInt N) xs
/-- Slices stay; numbers stay numbers. -/
structure Stp (w w' : World) : Prop where
  slice : ∀ a A l c, w.cell? a = some (.slice A l c) → w'.cell? a = some (.slice A l c)
  num : ∀ a (y : Int), w.cell? a = some (.int .i64 y) → (∃ z : Int, w'.cell? a = some (.int .i64 z)) ∧ w'.frozen? a = w.frozen? a
theorem Stp.below {w w' : World} (h : Below w.heap.size w w') : Stp w w' :=
  ⟨fun a A l c ha => kept_of_below h _ _ ha, fun a y ha => ⟨⟨y, kept_of_below h _ _ ha⟩, h.frozen (block_lt_of_cell ha)⟩⟩
theorem Stp.set {w : World} {a : Addr} {y : Int} (h : w.cell? a = some (.int .i64 y)) (z : Int) : Stp w (w.setCell a (.int .i64 z)) := by
  refine ⟨fun x A l c hx => ?_, fun x y' hx => ⟨?_, World.frozen?_setCell _ _ _ _⟩⟩
  · rw [World.cell?_setCell_other _ _ _ _ (fun e => by subst e; rw [h] at hx; cases hx)]; exact hx
  · by_cases e : a = x
    · subst e; exact ⟨z, World.cell?_setCell_same _ _ _ h⟩
    · exact ⟨y', (World.cell?_setCell_other _ _ _ _ e).trans hx⟩
section
variable {w w' : World} {N : Nat} (h : Stp w w')
include h
theorem SInt.go (b o : Nat) (x : Int) (hv : SInt N w b o x) : SInt N w' b o x := by
  obtain ⟨h1, ⟨y, h2⟩, h3⟩ := hv
  obtain ⟨h4, h5⟩ := h.num _ _ h2
  exact ⟨h1, h4, h5.trans h3⟩
theorem CSS.go {α : Type} {sz : Nat} {R : World → Nat → Nat → α → Prop} (hR : ∀ b o x, R w b o x → R w' b o x) {b o : Nat} {xs : List α} (hv : CS w b o sz R xs) : CS w' b o sz R xs := by
  obtain ⟨A, c, e, h1⟩ := hv
  exact ⟨A, c, h.slice _ _ _ _ e, SL.imp hR h1⟩
theorem SInsS.go (b o : Nat) (x : InsD) (hv : SInsS N w b o x) : SInsS N w' b o x := CSS.go h (SInt.go h) hv
theorem SBlkS.go (b o : Nat) (x : BlkD) (hv : SBlkS N w b o x) : SBlkS N w' b o x := ⟨CSS.go h (SInsS.go h) hv.1, CSS.go h (SInt.go h) hv.2⟩
theorem SRowS.go (b o : Nat) (x : List Int) (hv : SRowS N w b o x) : SRowS N w' b o x := CSS.go h (SInt.go h) hv
end
theorem SInt.of {N : Nat} {w : World} (b o : Nat) (x : Int) (h : RIntB (BG N w) w b o x) : SInt N w b o x := ⟨h.1.1, ⟨x, h.2.1⟩, h.1.2.free o⟩
theorem SInsS.of {N : Nat} {w : World} (b o : Nat) (x : InsD) (h : RInsB (BG N w) w b o x) : SInsS N w b o x := by
  obtain ⟨_, _, _, ⟨A, c, e, h1⟩, _⟩ := h
  exact ⟨A, c, e, SL.imp SInt.of h1⟩
theorem SBlkS.of {N : Nat} {w : World} (b o : Nat) (x : BlkD) (h : RBlkB (BG N w) w b o x) : SBlkS N w b o x := by
  obtain ⟨_, _, ⟨A, c, e, h1⟩, _, _, ⟨A', c', e', h2⟩⟩ := h
  exact ⟨⟨A, c, e, SL.imp SInsS.of h1⟩, ⟨A', c', e', SL.imp SInt.of h2⟩⟩
/-- What was told, to be written over. -/
structure GI (N P : Nat) (g : FunD) (Ao : Option Addr) (co : Nat) (ol : List Int) (W w : World) : Prop where
  regs : CS w P 2 1 (SInt N) g.regs
  blks : CS w P 3 5 (SBlkS N) g.blocks
  ord : SL w 1 (SInt N) Ao co ol
  bel : Below N W w
theorem GI.set {N P : Nat} {g : FunD} {Ao : Option Addr} {co : Nat} {ol : List Int} {W w : World} (h : GI N P g Ao co ol W w) {a : Addr} {y : Int} (ha : w.cell? a = some (.int .i64 y)) (hN : N ≤ a.block) (z : Int) : GI N P g Ao co ol W (w.setCell a (.int .i64 z)) :=
  ⟨CSS.go (Stp.set ha z) (SInt.go (Stp.set ha z)) h.regs, CSS.go (Stp.set ha z) (SBlkS.go (Stp.set ha z)) h.blks, SL.imp (SInt.go (Stp.set ha z)) h.ord, h.bel.setCell hN _⟩

/-- Rows that were told, to be written over. -/
def SGr (N : Nat) (w : World) (G n : Nat) (L : Nat → List Int) : Prop := ∀ i, i < n → CS w G i 1 (SInt N) (L i)
theorem SGr.go {N G n : Nat} {L : Nat → List Int} {w w' : World} (h : Stp w w') (hv : SGr N w G n L) : SGr N w' G n L := fun i hi => CSS.go h (SInt.go h) (hv i hi)
theorem SGr.of {N G n : Nat} {V : Nat → Value} {L : Nat → List Int} {w : World} (h : Gri w G (G + 2) n V L) (hN : N ≤ G) (hL : ∀ i, i < n → ∀ x ∈ L i, I64 x) : SGr N w G n L := by
  intro i hi
  obtain ⟨A, c, e, hs⟩ := slG_of_own (h.own i hi) (hL i hi) (by omega : N ≤ G + 2)
  refine ⟨A, c, ?_, SL.imp SInt.of hs⟩
  rw [← e]; exact h.row.cell hi

set_option maxRecDepth 100000 in
set_option maxHeartbeats 16000000 in
theorem graphStays_walk (f : FunD) (v : Value) (w : World) (hv : VFun w v f) :
    Calls Try.prog 9 #[v] w fun e w' => e = .returned (.bool true) ∧ Below w.heap.size w w' := by
  have hv0 := hv
  obtain ⟨Ar, cr, A, c, rfl, -, -, -, -⟩ := hv
  have HV := Lib.hid hv0
  clear hv0
  go_enter Try.func9, Try.ntmps9
  go_wp2_with fail
  obtain ⟨w1, hw1, hs1, hk1, hbel1, hc1, -⟩ := named w #[.int .i64 f.params, .int .i64 f.result, .slice Ar f.regs.length cr, .slice A f.blocks.length c] 43
  rw [← hw1]
  refine (up5_any w1).mono ?_
  rintro e w2 ⟨rfl, hb2⟩
  have hk2 := kept_of_below hb2
  have c0 := hk2 _ _ (hc1 0 _ rfl)
  have c1 := hk2 _ _ (hc1 1 _ rfl)
  have c2 := hk2 _ _ (hc1 2 _ rfl)
  have c3 := hk2 _ _ (hc1 3 _ rfl)
  have HB2 : Hid (Below w.heap.size w w2) := Lib.hid (hbel1.trans (hb2.mono (by omega)))
  obtain ⟨N, hN⟩ : ∃ N, N = w.heap.size := ⟨_, rfl⟩
  rw [← hN] at c0 c1 c2 c3 ⊢
  clear hw1 hs1 hbel1 hc1 hb2 hk1 hk2 hN
  go_wp2_with fail
  refine (small5_any f _ w2 (VFun.keep (kept_of_below HB2.out) HV.out)).mono ?_
  rintro e w3 ⟨⟨bs, rfl, hsm⟩, hb3⟩
  have hk3 := kept_of_below hb3
  have c0 := hk3 _ _ c0
  have c1 := hk3 _ _ c1
  have c2 := hk3 _ _ c2
  have c3 := hk3 _ _ c3
  have HB3 : Hid (Below w.heap.size w w3) := Lib.hid (HB2.out.trans (hb3.mono HB2.out.size))
  cases bs
  · clear hb3 hk3 hsm
    go_wp2_with fail
    go_ret
    exact ⟨rfl, HB3.out⟩
  · have HSM := Lib.hid (hsm rfl)
    have hn : f.blocks.length ≤ 70 := (hsm rfl).1
    clear hb3 hk3 hsm
    go_wp2_with fail
    refine (copyFunc_any f _ w3 (VFun.keep (kept_of_below HB3.out) HV.out) HSM.out).mono ?_
    rintro e w4 ⟨⟨r, rfl, d0, d1, d2, d3, rfl, Ac, cc, Bc, dc, hcs, hcr, hcb, hp64, hr64⟩, hb4⟩
    simp only [List.cons.injEq, and_true] at hcs
    obtain ⟨rfl, rfl, rfl, rfl⟩ := hcs
    have hk4 := kept_of_below hb4
    have c0 := hk4 _ _ c0
    have c1 := hk4 _ _ c1
    have c2 := hk4 _ _ c2
    have c3 := hk4 _ _ c3
    have HB4 : Hid (Below w.heap.size w w4) := Lib.hid (HB3.out.trans (hb4.mono HB3.out.size))
    have HVO4 : Hid (VFun w4 (.agg #[.int .i64 f.params, .int .i64 f.result, .slice Ac f.regs.length cc, .slice Bc f.blocks.length dc]) f) := Lib.hid ⟨Ac, cc, Bc, dc, rfl, SL.imp RIntB.plain hcr, SL.imp RBlkB.plain hcb, hp64, hr64⟩
    clear hb4 hk4 hcr hcb hp64 hr64
    go_upto_region 6 with fail
    obtain ⟨w5, hw5, hs5, hk5, hb5, hc5, -⟩ := named w4 #[.int .i64 f.params, .int .i64 f.result, .slice Ac f.regs.length cc, .slice Bc f.blocks.length dc] 43
    rw [← hw5]
    obtain ⟨O, hO⟩ : ∃ O, O = w4.heap.size := ⟨_, rfl⟩
    rw [← hO] at hc5 hs5 ⊢
    have o0 := hc5 0 _ rfl
    have o1 := hc5 1 _ rfl
    have o2 := hc5 2 _ rfl
    have o3 := hc5 3 _ rfl
    have c0 := hk5 _ _ c0
    have c1 := hk5 _ _ c1
    have c2 := hk5 _ _ c2
    have c3 := hk5 _ _ c3
    have HB5 : Hid (Below w.heap.size w w5) := Lib.hid (HB4.out.trans (hb5.mono HB4.out.size))
    have HVO5 := Lib.hid (VFun.keep hk5 HVO4.out)
    have HCC : Hid ((w5.cell? ⟨N, 0, none⟩ = some (.int .i64 f.params) ∧ w5.cell? ⟨N, 1, none⟩ = some (.int .i64 f.result) ∧ w5.cell? ⟨N, 2, none⟩ = some (.slice Ar f.regs.length cr) ∧ w5.cell? ⟨N, 3, none⟩ = some (.slice A f.blocks.length c))) := Lib.hid ⟨c0, c1, c2, c3⟩
    have HOO : Hid ((w5.cell? ⟨O, 0, none⟩ = some (.int .i64 f.params) ∧ w5.cell? ⟨O, 1, none⟩ = some (.int .i64 f.result) ∧ w5.cell? ⟨O, 2, none⟩ = some (.slice Ac f.regs.length cc) ∧ w5.cell? ⟨O, 3, none⟩ = some (.slice Bc f.blocks.length dc))) := Lib.hid ⟨o0, o1, o2, o3⟩
    clear hw5 hs5 hk5 hb5 hc5 hO HVO4
    go_wp2_with fail
    refine (trim_any f _ w5 HVO5.out HSM.out).mono ?_
    rintro e w6 ⟨⟨Ar6, cr6, Ab6, cb6, G6, rfl, hr6, hb6, -, -, -, -⟩, hbel6⟩
    have hk6 := kept_of_below hbel6
    have c0 := hk6 _ _ c0
    have c1 := hk6 _ _ c1
    have c2 := hk6 _ _ c2
    have c3 := hk6 _ _ c3
    have o0 := hk6 _ _ o0
    have o1 := hk6 _ _ o1
    have o2 := hk6 _ _ o2
    have o3 := hk6 _ _ o3
    have HB6 := Lib.hid hbel6
    have HSR6 : Hid (SL w6 1 (SInt w5.heap.size) Ar6 cr6 f.regs) := Lib.hid (SL.imp SInt.of hr6)
    have HSB6 : Hid (SL w6 5 (SBlkS w5.heap.size) Ab6 cb6 (blksT f.blocks)) := Lib.hid (SL.imp SBlkS.of hb6)
    clear hr6 hb6 hbel6 hk6
    go_upto_region 7 with fail
    obtain ⟨w7, hw7, hs7, hk7, hb7, hc7, -⟩ := named w6 #[.int .i64 f.params, .int .i64 f.result, .slice Ar6 f.regs.length cr6, .slice Ab6 (blksT f.blocks).length cb6] 43
    rw [← hw7]
    obtain ⟨P, hP⟩ : ∃ P, P = w6.heap.size := ⟨_, rfl⟩
    rw [← hP] at hc7 ⊢
    have g2 := hc7 2 _ rfl
    have g3 := hc7 3 _ rfl
    have c0 := hk7 _ _ c0
    have c1 := hk7 _ _ c1
    have c2 := hk7 _ _ c2
    have c3 := hk7 _ _ c3
    have o0 := hk7 _ _ o0
    have o1 := hk7 _ _ o1
    have o2 := hk7 _ _ o2
    have o3 := hk7 _ _ o3
    have HB7 : Hid (Below w5.heap.size w5 w7) := Lib.hid (HB6.out.trans (hb7.mono HB6.out.size))
    have HGR7 : Hid (CS w7 P 2 1 (SInt w5.heap.size) f.regs) := Lib.hid ⟨Ar6, cr6, g2, SL.imp (SInt.go (Stp.below hb7)) HSR6.out⟩
    have HGB7 : Hid (CS w7 P 3 5 (SBlkS w5.heap.size) (blksT f.blocks)) := Lib.hid ⟨Ab6, cb6, g3, SL.imp (SBlkS.go (Stp.below hb7)) HSB6.out⟩
    clear hw7 hs7 hk7 hb7 hc7 hP g2 g3 HSR6 HSB6 HB6
    go_wp2_with fail
    refine (order_any f _ w7 (VFun.keep (kept_of_below HB7.out) HVO5.out) (by omega)).mono ?_
    rintro e w8 ⟨⟨vo, rfl, ho⟩, hb8⟩
    have hk8 := kept_of_below hb8
    have c0 := hk8 _ _ c0
    have c1 := hk8 _ _ c1
    have c2 := hk8 _ _ c2
    have c3 := hk8 _ _ c3
    have o0 := hk8 _ _ o0
    have o1 := hk8 _ _ o1
    have o2 := hk8 _ _ o2
    have o3 := hk8 _ _ o3
    obtain ⟨Ao, co, rfl, hso⟩ := slG_of_own (xs := zs (orderF f.blocks)) (by rw [zs_len]; exact ho) (fun x hx => by obtain ⟨q, hq, rfl⟩ := zs_mem hx; have := orderF_lt hq; unfold I64; omega) HB7.out.size
    have HB8 : Hid (Below w5.heap.size w5 w8) := Lib.hid (HB7.out.trans (hb8.mono HB7.out.size))
    have HGI : Hid (GI w5.heap.size P (trimF f) Ao co (zs (orderF f.blocks)) w5 w8) := Lib.hid ⟨CSS.go (Stp.below hb8) (SInt.go (Stp.below hb8)) HGR7.out, CSS.go (Stp.below hb8) (SBlkS.go (Stp.below hb8)) HGB7.out, SL.imp SInt.of hso, HB8.out⟩
    rw [zs_len]
    clear hb8 hk8 ho hso HGR7 HGB7 HB7
    go_wp2_with fail
    refine (sameFunc_any f f _ _ w8 (VFun.keep (kept_of_below HB8.out) HVO5.out) (VFun.keep (kept_of_below (HB5.out.trans (HB8.out.mono HB5.out.size))) HV.out)).mono ?_
    rintro e w9 ⟨rfl, hb9⟩
    have hse : same f f = true := same_yes rfl
    rw [hse]
    have hk9 := kept_of_below hb9
    have HGI9 : Hid (GI w5.heap.size P (trimF f) Ao co (zs (orderF f.blocks)) w5 w9) := Lib.hid ⟨CSS.go (Stp.below hb9) (SInt.go (Stp.below hb9)) HGI.out.regs, CSS.go (Stp.below hb9) (SBlkS.go (Stp.below hb9)) HGI.out.blks, SL.imp (SInt.go (Stp.below hb9)) HGI.out.ord, HB8.out.trans (hb9.mono HB8.out.size)⟩
    clear hb9 hk9 hse HGI HB8 c0 c1 c2 c3 o0 o1 o2 o3
    obtain ⟨N5, hN5⟩ : ∃ N5, N5 = w5.heap.size := ⟨_, rfl⟩
    rw [← hN5] at HGI9
    have HN5 := Lib.hid hN5
    clear hN5
    go_wp2_with fail
    go_loopw [9] (fun i wr => ∃ k : Nat, k ≤ f.regs.length ∧ i = .int .i64 k ∧ Hid (GI N5 P (trimF f) Ao co (zs (orderF f.blocks)) w5 wr)) (fun i _ => f.regs.length - (intOf i).toNat)
    case atStart => exact ⟨0, Nat.zero_le _, rfl, HGI9⟩
    case round =>
      obtain ⟨k, hk, rfl, hgi⟩ := hrel
      obtain ⟨Ax, cx, x2, hsl⟩ := hgi.out.regs
      have hrl : f.regs.length ≤ 9223372036854775807 := hsl.len
      rw [show (trimF f).regs = f.regs from rfl] at x2
      by_cases hlt : k < f.regs.length
      · obtain ⟨b, o, x, rfl, hx, hN, ⟨y, hy⟩, hfz⟩ := hsl.at_ hlt
        rw [Nat.mul_one] at hy hfz
        have hk0 : (0 : Int) ≤ k := by omega
        have hk1 : (k : Int) < f.regs.length := by omega
        clear hsl hx
        go_wp2_with fail
        go_roundw
        case rel => exact ⟨k + 1, by omega, by go_num, Lib.hid (hgi.out.set hy hN _)⟩
        case measure => simp [intOf]; omega
      · obtain rfl : k = f.regs.length := by omega
        obtain ⟨wo, rfl⟩ : ∃ wo, wo = wr := ⟨wr, rfl⟩
        clear hsl
        go_wp2_with fail
        clear x2
        have hbq : (blksT f.blocks).length ≤ 70 := Nat.le_trans (blksT_few f.blocks) hn
        go_loopw [10] (fun i wr => ∃ k : Nat, k ≤ (blksT f.blocks).length ∧ i = .int .i64 k ∧ Hid (GI N5 P (trimF f) Ao co (zs (orderF f.blocks)) w5 wr)) (fun i _ => (blksT f.blocks).length - (intOf i).toNat)
        case atStart => exact ⟨0, Nat.zero_le _, rfl, hgi⟩
        case round =>
          obtain ⟨k, hk, rfl, hgi⟩ := hrel
          obtain ⟨wp, rfl⟩ : ∃ wp, wp = wr := ⟨wr, rfl⟩
          obtain ⟨Ab, cb, x3, hsb⟩ := hgi.out.blks
          rw [show (trimF f).blocks = blksT f.blocks from rfl] at x3
          by_cases hlt : k < (blksT f.blocks).length
          · have hkb : (blksT f.blocks)[k]? = some (blksT f.blocks)[k] := List.getElem?_eq_getElem hlt
            generalize (blksT f.blocks)[k] = kb at hkb
            have HKB := Lib.hid hkb
            have hk0 : (0 : Int) ≤ k := by omega
            have hk1 : (k : Int) < (blksT f.blocks).length := by omega
            clear hsb hkb
            go_wp2_with fail
            clear x3
            go_loopw [11] (fun i wr => ∃ q : Nat, q ≤ kb.term.to.length ∧ i = .int .i64 q ∧ Hid (GI N5 P (trimF f) Ao co (zs (orderF f.blocks)) w5 wr)) (fun i _ => kb.term.to.length - (intOf i).toNat)
            case atStart => exact ⟨0, Nat.zero_le _, rfl, hgi⟩
            case round =>
              obtain ⟨q, hq, rfl, hgi⟩ := hrel
              obtain ⟨wq, rfl⟩ : ∃ wq, wq = wr := ⟨wr, rfl⟩
              obtain ⟨Ab, cb, x3, hsb⟩ := hgi.out.blks
              rw [show (trimF f).blocks = blksT f.blocks from rfl] at x3
              obtain ⟨b, o, kb', rfl, hkb', ⟨Ai, ci, xi, hsi⟩, ⟨At, ct, xt, hst⟩⟩ := hsb.at_ hlt
              obtain rfl : kb = kb' := Option.some.inj (HKB.out.symm.trans hkb'.out)
              have htl := hst.len
              have hil := hsi.len
              by_cases hql : q < kb.term.to.length
              · obtain ⟨b2, o2, x, rfl, hx, hN, ⟨y, hy⟩, hfz⟩ := hst.at_ hql
                rw [Nat.mul_one] at hy hfz
                have hq0 : (0 : Int) ≤ q := by omega
                have hq1 : (q : Int) < kb.term.to.length := by omega
                clear hsb hsi hst hx hkb' xi
                go_wp2_with fail
                go_roundw
                case rel => exact ⟨q + 1, by omega, by go_num, Lib.hid (hgi.out.set hy hN _)⟩
                case measure => simp [intOf]; omega
              · obtain rfl : q = kb.term.to.length := by omega
                clear hsb hsi hst hkb' xi
                go_wp2_with fail
                clear x3 xt
                go_loopw [12] (fun i wr => ∃ j : Nat, j ≤ kb.ins.length ∧ i = .int .i64 j ∧ Hid (GI N5 P (trimF f) Ao co (zs (orderF f.blocks)) w5 wr)) (fun i _ => kb.ins.length - (intOf i).toNat)
                case atStart => exact ⟨0, Nat.zero_le _, rfl, hgi⟩
                case round =>
                  obtain ⟨j, hj, rfl, hgi⟩ := hrel
                  obtain ⟨wj, rfl⟩ : ∃ wj, wj = wr := ⟨wr, rfl⟩
                  obtain ⟨Ab, cb, x3, hsb⟩ := hgi.out.blks
                  rw [show (trimF f).blocks = blksT f.blocks from rfl] at x3
                  obtain ⟨b, o, kb', rfl, hkb', ⟨Ai, ci, xi, hsi⟩, -⟩ := hsb.at_ hlt
                  obtain rfl : kb = kb' := Option.some.inj (HKB.out.symm.trans hkb'.out)
                  by_cases hjl : j < kb.ins.length
                  · have hkd : kb.ins[j]? = some kb.ins[j] := List.getElem?_eq_getElem hjl
                    generalize kb.ins[j] = kd at hkd
                    have HKD := Lib.hid hkd
                    have hj0 : (0 : Int) ≤ j := by omega
                    have hj1 : (j : Int) < kb.ins.length := by omega
                    clear hsb hsi hkd hkb'
                    go_wp2_with fail
                    clear x3 xi
                    go_loopw [13] (fun i wr => ∃ n : Nat, n ≤ kd.args.length ∧ i = .int .i64 n ∧ Hid (GI N5 P (trimF f) Ao co (zs (orderF f.blocks)) w5 wr)) (fun i _ => kd.args.length - (intOf i).toNat)
                    case atStart => exact ⟨0, Nat.zero_le _, rfl, hgi⟩
                    case round =>
                      obtain ⟨n, hn', rfl, hgi⟩ := hrel
                      obtain ⟨Ab, cb, x3, hsb⟩ := hgi.out.blks
                      rw [show (trimF f).blocks = blksT f.blocks from rfl] at x3
                      obtain ⟨b, o, kb', rfl, hkb', ⟨Ai, ci, xi, hsi⟩, -⟩ := hsb.at_ hlt
                      obtain rfl : kb = kb' := Option.some.inj (HKB.out.symm.trans hkb'.out)
                      obtain ⟨b2, o2, kd', rfl, hkd', Aa, ca, xa, hsa⟩ := hsi.at_ hjl
                      obtain rfl : kd = kd' := Option.some.inj (HKD.out.symm.trans hkd'.out)
                      have hal := hsa.len
                      have hil := hsi.len
                      by_cases hnl : n < kd.args.length
                      · obtain ⟨b3, o3, x, rfl, hx, hN, ⟨y, hy⟩, hfz⟩ := hsa.at_ hnl
                        rw [Nat.mul_one] at hy hfz
                        have hn0 : (0 : Int) ≤ n := by omega
                        have hn1 : (n : Int) < kd.args.length := by omega
                        clear hsb hsi hsa hx hkb' hkd'
                        go_wp2_with fail
                        go_roundw
                        case rel => exact ⟨n + 1, by omega, by go_num, Lib.hid (hgi.out.set hy hN _)⟩
                        case measure => simp [intOf]; omega
                      · obtain rfl : n = kd.args.length := by omega
                        clear hsb hsi hsa hkb' hkd'
                        go_wp2_with fail
                        go_roundw
                        case rel => exact ⟨j + 1, by omega, by go_num, hgi⟩
                        case measure => simp [intOf]; omega
                  · obtain rfl : j = kb.ins.length := by omega
                    have hil := hsi.len
                    clear hsb hsi hkb'
                    go_wp2_with fail
                    go_roundw
                    case rel => exact ⟨k + 1, by omega, by go_num, hgi⟩
                    case measure => simp [intOf]; omega
          · obtain rfl : k = (blksT f.blocks).length := by omega
            clear hsb
            have hbw : Below w5.heap.size w5 wp := by rw [← HN5.out]; exact hgi.out.bel
            have hkw := kept_of_below hbw
            have HBW : Hid (Below w.heap.size w wp) := Lib.hid (HB5.out.trans (hbw.mono HB5.out.size))
            obtain ⟨o0, o1, o2, o3⟩ := HOO.out
            have o0 := hkw _ _ o0
            have o1 := hkw _ _ o1
            have o2 := hkw _ _ o2
            have o3 := hkw _ _ o3
            have HVW := Lib.hid (VFun.keep hkw HVO5.out)
            have hN5 := HN5.out
            have hsz := hbw.size
            clear hbw hkw HSM
            go_wp2_with fail
            refine (next_any f _ wp HVW.out (by omega)).mono ?_
            rintro e w10 ⟨⟨V, G, rfl, hG, hgr⟩, hb10⟩
            obtain ⟨L, hL⟩ : ∃ L : Nat → List Int, L = fun i => zs (nxF f.blocks i) := ⟨_, rfl⟩
            rw [← hL] at hgr
            have HGR : Hid (SGr N5 w10 G f.blocks.length L) := Lib.hid (SGr.of hgr (by omega) (fun i hi x hx => by subst hL; obtain ⟨q, hq, rfl⟩ := zs_mem hx; have := nxF_lt f.blocks i q hq; unfold I64; omega))
            have hst := Stp.below hb10
            have HGI10 : Hid (GI N5 P (trimF f) Ao co (zs (orderF f.blocks)) w5 w10) := Lib.hid ⟨CSS.go hst (SInt.go hst) hgi.out.regs, CSS.go hst (SBlkS.go hst) hgi.out.blks, SL.imp (SInt.go hst) hgi.out.ord, hgi.out.bel.trans (hb10.mono (by omega))⟩
            clear hgr hb10 hst hL o0 o1 o2 o3 hgi hsz hN5 hG
            go_wp2_with fail
            go_loopw [15] (fun i wr => ∃ k : Nat, k ≤ f.blocks.length ∧ i = .int .i64 k ∧ Hid (GI N5 P (trimF f) Ao co (zs (orderF f.blocks)) w5 wr) ∧ Hid (SGr N5 wr G f.blocks.length L)) (fun i _ => f.blocks.length - (intOf i).toNat)
            case atStart => exact ⟨0, Nat.zero_le _, rfl, HGI10, HGR⟩
            case round =>
              obtain ⟨k, hk, rfl, hgi, hgr⟩ := hrel
              obtain ⟨wk, rfl⟩ : ∃ wk, wk = wr := ⟨wr, rfl⟩
              by_cases hlt : k < f.blocks.length
              · have hk0 : (0 : Int) ≤ k := by omega
                have hk1 : (k : Int) < f.blocks.length := by omega
                go_wp2_with fail
                go_loopw [16] (fun i wr => ∃ q : Nat, q ≤ (L k).length ∧ i = .int .i64 q ∧ Hid (GI N5 P (trimF f) Ao co (zs (orderF f.blocks)) w5 wr) ∧ Hid (SGr N5 wr G f.blocks.length L)) (fun i _ => (L k).length - (intOf i).toNat)
                case atStart => exact ⟨0, Nat.zero_le _, rfl, hgi, hgr⟩
                case round =>
                  obtain ⟨q, hq, rfl, hgi, hgr⟩ := hrel
                  obtain ⟨Aq, cq, xq, hsq⟩ := hgr.out k hlt
                  have hql := hsq.len
                  by_cases hqq : q < (L k).length
                  · obtain ⟨b, o, x, rfl, hx, hN, ⟨y, hy⟩, hfz⟩ := hsq.at_ hqq
                    rw [Nat.mul_one] at hy hfz
                    have hq0 : (0 : Int) ≤ q := by omega
                    have hq1 : (q : Int) < (L k).length := by omega
                    clear hsq hx
                    go_wp2_with fail
                    go_roundw
                    case rel => exact ⟨q + 1, by omega, by go_num, Lib.hid (hgi.out.set hy hN _), Lib.hid (hgr.out.go (Stp.set hy _))⟩
                    case measure => simp [intOf]; omega
                  · obtain rfl : q = (L k).length := by omega
                    clear hsq
                    go_wp2_with fail
                    go_roundw
                    case rel => exact ⟨k + 1, by omega, by go_num, hgi, hgr⟩
                    case measure => simp [intOf]; omega
              · obtain rfl : k = f.blocks.length := by omega
                clear hgr
                have hol : (orderF f.blocks).length ≤ 70 := Nat.le_trans (orderF_len _) hn
                go_wp2_with fail
                go_loopw [17] (fun i wr => ∃ k : Nat, k ≤ (orderF f.blocks).length ∧ i = .int .i64 k ∧ Hid (GI N5 P (trimF f) Ao co (zs (orderF f.blocks)) w5 wr)) (fun i _ => (orderF f.blocks).length - (intOf i).toNat)
                case atStart => exact ⟨0, Nat.zero_le _, rfl, hgi⟩
                case round =>
                  obtain ⟨k, hk, rfl, hgi⟩ := hrel
                  obtain ⟨wv, rfl⟩ : ∃ wv, wv = wr := ⟨wr, rfl⟩
                  by_cases hlt : k < (orderF f.blocks).length
                  · obtain ⟨b, o, x, rfl, hx, hN, ⟨y, hy⟩, hfz⟩ := hgi.out.ord.at_ (by rw [zs_len]; exact hlt)
                    rw [Nat.mul_one] at hy hfz
                    have hk0 : (0 : Int) ≤ k := by omega
                    have hk1 : (k : Int) < (orderF f.blocks).length := by omega
                    go_wp2_with fail
                    go_roundw
                    case rel => exact ⟨k + 1, by omega, by go_num, Lib.hid (hgi.out.set hy hN _)⟩
                    case measure => simp [intOf]; omega
                  · obtain rfl : k = (orderF f.blocks).length := by omega
                    have hbw : Below w5.heap.size w5 wv := by rw [← HN5.out]; exact hgi.out.bel
                    have hkw := kept_of_below hbw
                    have HBV : Hid (Below w.heap.size w wv) := Lib.hid (HB5.out.trans (hbw.mono HB5.out.size))
                    have HVV := Lib.hid (VFun.keep hkw HVO5.out)
                    obtain ⟨o0, o1, o2, o3⟩ := HOO.out
                    have o0 := hkw _ _ o0
                    have o1 := hkw _ _ o1
                    have o2 := hkw _ _ o2
                    have o3 := hkw _ _ o3
                    obtain ⟨c0, c1, c2, c3⟩ := HCC.out
                    have c0 := hkw _ _ c0
                    have c1 := hkw _ _ c1
                    have c2 := hkw _ _ c2
                    have c3 := hkw _ _ c3
                    clear hbw hkw hgi
                    go_wp2_with fail
                    refine (order_any f _ wv HVV.out (by omega)).mono ?_
                    rintro e w11 ⟨⟨vo, rfl, ho⟩, hb11⟩
                    have hk11 := kept_of_below hb11
                    have c0 := hk11 _ _ c0
                    have c1 := hk11 _ _ c1
                    have c2 := hk11 _ _ c2
                    have c3 := hk11 _ _ c3
                    have o0 := hk11 _ _ o0
                    have o1 := hk11 _ _ o1
                    have o2 := hk11 _ _ o2
                    have o3 := hk11 _ _ o3
                    obtain ⟨Ap, cp, rfl, hsp⟩ := vs_of_own (xs := zs (orderF f.blocks)) (by rw [zs_len]; exact ho) (fun x hx => by obtain ⟨q, hq, rfl⟩ := zs_mem hx; have := orderF_lt hq; unfold I64; omega)
                    rw [zs_len]
                    have HB11 : Hid (Below w.heap.size w w11) := Lib.hid (HBV.out.trans (hb11.mono HBV.out.size))
                    have HV11 := Lib.hid (VFun.keep hk11 HVV.out)
                    have HSP := Lib.hid hsp
                    have HSA := Lib.hid (sameFunc_any f f _ _ w11 HV11.out (VFun.keep (kept_of_below HB11.out) HV.out))
                    clear hb11 hk11 ho hsp
                    have hoo : (((orderF f.blocks).length : Int) == (orderF f.blocks).length) = true := by simp
                    by_cases hz : (orderF f.blocks).length = 0
                    · have hz0 : (((orderF f.blocks).length : Int) == 0) = true := by rw [hz]; rfl
                      clear hz
                      go_wp2_with fail
                      refine HSA.out.mono ?_
                      rintro e w12 ⟨rfl, hb12⟩
                      have hse : same f f = true := same_yes rfl
                      rw [hse]
                      have HBF := Lib.hid (HB11.out.trans (hb12.mono HB11.out.size))
                      clear hb12 hse
                      go_wp2_with fail
                      go_ret
                      exact ⟨rfl, HBF.out⟩
                    · have hz0 : (((orderF f.blocks).length : Int) == 0) = false := by simpa using hz
                      obtain ⟨b, o, x, rfl, hx, hy⟩ := HSP.out.at_ (k := 0) (by rw [zs_len]; omega)
                      have hx0 : x = 0 := by
                        have h1 := hx.out
                        have hbn : f.blocks.length ≠ 0 := fun e => by have := orderF_len f.blocks; omega
                        have h2 : (orderF f.blocks)[0]? = some 0 := orderL_first (nxF_lt f.blocks) hbn
                        unfold zs at h1
                        rw [List.getElem?_map, h2] at h1
                        simpa using h1.symm
                      subst hx0
                      have hpos : (0 : Int) < (orderF f.blocks).length := by omega
                      have y1 := hy.1
                      rw [Nat.zero_mul, Nat.add_zero] at y1
                      have HY := Lib.hid y1
                      clear hz hx hy y1
                      go_wp2_with fail
                      refine HSA.out.mono ?_
                      rintro e w12 ⟨rfl, hb12⟩
                      have hse : same f f = true := same_yes rfl
                      rw [hse]
                      have HBF := Lib.hid (HB11.out.trans (hb12.mono HB11.out.size))
                      have y2 := kept_of_below hb12 _ _ HY.out
                      clear hb12 hse
                      go_wp2_with fail
                      go_ret
                      exact ⟨rfl, HBF.out⟩
end Go.Proofs.Ytogbmpgepchioaa
