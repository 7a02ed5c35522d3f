/- The program's Order, Reached. -/
import Derived.Test.YtooblmiffgjmjaaGrR
namespace Go.Proofs.Ytooblmiffgjmjaa
open Go.ChangeShapes Go.WideShapes Go.RowKit Go.Deep
set_option linter.unusedVariables false

theorem orderF_len (bs : List BlkD) : (orderF bs).length ≤ bs.length := orderL_len (nxF_lt bs)
theorem orderF_lt {bs : List BlkD} {x : Nat} (h : x ∈ orderF bs) : x < bs.length := orderL_lt (nxF_lt bs) h
theorem doneL_len (nx : Nat → List Nat) (n : Nat) : (orderL nx n).length = (doneL nx n).length := by simp [orderL]
theorem below_grown {n : Nat} {w w' : World} {row : Option Nat} (h : w.grownBy w' row) (hr : ∀ k, row = some k → n ≤ k) (hn : n ≤ w.heap.size) : Below n w w' :=
  ⟨h.os, h.tape, h.output, h.size, fun k hk => h.block k (by omega) (fun e => by have := hr k e.symm; omega)⟩

def ToldO_ (bs : List BlkD) (w : World) (e : Ending) (w' : World) : Prop :=
  (∃ v, e = .returned v ∧ w'.ownsRow w.heap.size 3 1 v (orderF bs).length ((zs (orderF bs)).map (Value.int .i64))) ∧ Below w.heap.size w w'

set_option maxRecDepth 100000 in
set_option maxHeartbeats 4000000 in
theorem order_any (f : FunD) (v : Value) (w : World) (hv : VFun w v f) (hn : f.blocks.length ≤ 1000) :
    Calls Try.prog 27 #[v] w (ToldO_ f.blocks w) := by
  have hv0 := hv
  obtain ⟨Ar, cr, A, c, rfl, hr, hb, hp64, hr64⟩ := hv
  clear hr hb hp64 hr64
  go_enter Try.func27, Try.ntmps27
  go_upto_region 1 with fail
  obtain ⟨w1, hw1, hs1, hk1, hbel1, hc1, -⟩ := named w #[.int .i64 f.params, .int .i64 f.result, .slice Ar f.regs.length cr, .slice A f.blocks.length c] 25
  rw [← hw1]
  have c0 := hc1 0 _ rfl
  have c1 := hc1 1 _ rfl
  have c2 := hc1 2 _ rfl
  have c3 := hc1 3 _ rfl
  have HB1 := Lib.hid hbel1
  have HN := Lib.hid (next_any f _ w1 (VFun.keep hk1 hv0) (by omega))
  clear hw1 hs1 hbel1 hc1 hv0 hk1
  go_wp2_with fail
  refine HN.out.mono ?_
  rintro e w2 ⟨⟨V, G, rfl, hG, hg⟩, hb2⟩
  have HB2 : Hid (Below w.heap.size w w2) := Lib.hid (HB1.out.trans (hb2.mono HB1.out.size))
  have HK := Lib.hid (backwards_any G (G + 2) f.blocks.length V (nxF f.blocks) w2 hg hn (nxF_lt f.blocks))
  have HG : Hid (w.heap.size ≤ G) := Lib.hid (Nat.le_trans HB1.out.size hG)
  clear c0 c1 c2 c3 hG hg hb2 HN
  go_wp2_with fail
  refine HK.out.mono ?_
  rintro e w3 ⟨⟨vd, rfl, hown⟩, hb3⟩
  have HB3 : Hid (Below w.heap.size w w3) := Lib.hid (HB2.out.trans (hb3.below HB2.out.size HG.out))
  have hown' := own_base hown (base' := w.heap.size) HB2.out.size
  have HR := Lib.hid (reverse_any w.heap.size (doneL (nxF f.blocks) f.blocks.length) vd w3 hown' (by have := orderF_len f.blocks; rw [← doneL_len]; unfold orderF at this; omega))
  have HO := Lib.hid hown'
  clear hown hown' hb3 HK
  go_wp2_with fail
  refine HR.out.mono ?_
  rintro e w4 ⟨rfl, hown4, hg4⟩
  have HO4 := Lib.hid hown4
  have HB4 : Hid (Below w.heap.size w w4) := Lib.hid (HB3.out.trans (below_grown hg4 (fun k hk => (HO.out.lt k hk).1) HB3.out.size))
  clear hown4 hg4 HR
  go_wp2_with fail
  go_ret
  exact ⟨⟨vd, rfl, by have := HO4.out; rw [← doneL_len] at this; exact this⟩, HB4.out⟩

def ToldR_ (bs : List BlkD) (w : World) (e : Ending) (w' : World) : Prop :=
  (∃ H, e = .returned (.slice (some ⟨H, 0, none⟩) bs.length bs.length) ∧ w.heap.size ≤ H ∧ w'.rowIs H 4 bs.length (fun x => .bool (reachF bs x))) ∧ Below w.heap.size w w'
def tookB (l : List Nat) (k x : Nat) : Bool := decide (x ∈ l.take k)
theorem takesB_succ {l : List Nat} {k q : Nat} (h : l[k]? = some q) (x : Nat) : tookB l (k + 1) x = if x = q then true else tookB l k x := by
  unfold tookB
  rw [take_succ_of h]
  by_cases e : x = q
  · simp [e]
  · simp [e]
theorem takesB_all {bs : List BlkD} {k : Nat} (h : (orderF bs).length ≤ k) (x : Nat) : tookB (orderF bs) k x = reachF bs x := by
  unfold tookB reachF reachB orderF at *
  rw [List.take_of_length_le h]

set_option maxRecDepth 100000 in
set_option maxHeartbeats 4000000 in
theorem reached_any (f : FunD) (v : Value) (w : World) (hv : VFun w v f) (hn : f.blocks.length ≤ 1000) :
    Calls Try.prog 29 #[v] w (ToldR_ f.blocks w) := by
  have hv0 := hv
  obtain ⟨Ar, cr, A, c, rfl, hr, hb, hp64, hr64⟩ := hv
  have hmk := run_make_row' (P := Try.prog) 37 4 (.bool false) 1 Try.underlying37 Try.info4 rfl .i64 .i64 f.blocks.length (by omega) (by omega)
  clear hr hb hp64 hr64
  go_enter Try.func29, Try.ntmps29
  go_upto_region 2 with fail
  clear hmk
  obtain ⟨w1, hw1, hs1, hk1, hbel1, hc1, -⟩ := named w #[.int .i64 f.params, .int .i64 f.result, .slice Ar f.regs.length cr, .slice A f.blocks.length c] 25
  rw [← hw1]
  have hrow := World.rowIs_made w1 (.bool false) f.blocks.length 4
  have hk2 : Kept w1 (w1.alloc (.cells (madeCells #[.bool false] f.blocks.length) 4)) := kept_alloc _ _
  have c0 := hk2 _ _ (hc1 0 _ rfl)
  have c1 := hk2 _ _ (hc1 1 _ rfl)
  have c2 := hk2 _ _ (hc1 2 _ rfl)
  have c3 := hk2 _ _ (hc1 3 _ rfl)
  have hb2 : Below w.heap.size w (w1.alloc (.cells (madeCells #[.bool false] f.blocks.length) 4)) := hbel1.alloc (by omega) _
  have hz2 : (w1.alloc (.cells (madeCells #[.bool false] f.blocks.length) 4)).heap.size = w1.heap.size + 1 := by simp
  obtain ⟨H, hH⟩ : ∃ H, H = w1.heap.size := ⟨_, rfl⟩
  rw [hs1] at hH
  rw [hs1, ← hH] at hrow hz2
  rw [← hH]
  generalize w1.alloc (.cells (madeCells #[.bool false] f.blocks.length) 4) = w2 at *
  have HO := Lib.hid (order_any f _ w2 (VFun.keep (hk1.trans hk2) hv0) hn)
  have HB2 := Lib.hid hb2
  have HH : Hid (w.heap.size ≤ H) := Lib.hid (by omega)
  have HZ := Lib.hid hz2
  have HROW := Lib.hid hrow
  clear hw1 hs1 hbel1 hc1 hv0 hk1 hk2 hb2 hz2 hrow hH
  go_wp2_with fail
  refine HO.out.mono ?_
  rintro e w3 ⟨⟨vo, rfl, hown⟩, hb3⟩
  obtain ⟨Ao, co, rfl, hso⟩ := slB_of_own (B := fun b => w2.heap.size ≤ b) (xs := zs (orderF f.blocks)) (by rw [zs_len]; exact hown) (fun x hx => by obtain ⟨q, hq, rfl⟩ := zs_mem hx; have := orderF_lt hq; unfold I64; omega) (fun g h1 _ => h1)
  rw [zs_len]
  have hlen := orderF_len f.blocks
  have HB3 : Hid (Below w.heap.size w w3) := Lib.hid (HB2.out.trans (hb3.mono HB2.out.size))
  have hrow3 : w3.rowIs H 4 f.blocks.length (fun x => .bool (tookB (orderF f.blocks) 0 x)) := (HROW.out.of_block (hb3.block H HROW.out.lt)).congr fun x _ => by simp [tookB]
  have HSO := Lib.hid hso
  clear hown hb3 hso c0 c1 c2 c3
  go_wp2_with fail
  go_loopw [13] (fun i wr => ∃ k : Nat, k ≤ (orderF f.blocks).length ∧ i = .int .i64 k ∧ wr.rowIs H 4 f.blocks.length (fun x => .bool (tookB (orderF f.blocks) k x)) ∧ BB w3.heap.size H w3 wr) (fun i _ => (orderF f.blocks).length - (intOf i).toNat)
  case atStart => exact ⟨0, Nat.zero_le _, rfl, hrow3, BB.refl _ _ _⟩
  case round =>
    obtain ⟨k, hk, rfl, hrw, hbb⟩ := hrel
    have HBB := Lib.hid hbb
    have hso := SIntsB.go (B := fun b => w2.heap.size ≤ b ∧ b < w3.heap.size) (B' := fun b => w2.heap.size ≤ b) (w := w3) (w' := wr) (fun a v hb ha => (World.cell?_of_block (hbb.block a.block (by have := hb.2; omega) (by have := HZ.out; have := hb.1; omega))).trans ha) (fun b hb => hb.1) (SIntsB.lt HSO.out)
    clear hbb
    by_cases hlt : k < (orderF f.blocks).length
    · obtain ⟨b, o, x, rfl, hx, -, hxc, -⟩ := hso.at_ (k := k) (by rw [zs_len]; exact hlt)
      obtain ⟨q, hq, rfl⟩ := zs_at hx.out
      have hqn : q < f.blocks.length := orderF_lt (List.mem_of_getElem? hq)
      have hxc : wr.cell? ⟨b, o + k, none⟩ = some (.int .i64 (q : Int)) := by rw [Nat.mul_one] at hxc; exact hxc
      have hq0 : (0 : Int) ≤ q := by omega
      have hq1 : (q : Int) < f.blocks.length := by omega
      have hcell := hrw.cell hqn
      have hfr := hrw.frozen q
      have HRW := Lib.hid ((hrw.set q (.bool true)).congr (g := fun x => .bool (tookB (orderF f.blocks) (k + 1) x)) fun x _ => by rw [takesB_succ hq]; by_cases e : x = q <;> simp [e])
      clear hrw hq hso
      go_wp2_with fail
      go_roundw
      case rel => exact ⟨k + 1, by omega, by go_num, HRW.out, HBB.out.setCell (.inl rfl) _⟩
      case measure => simp [intOf]; omega
    · have HRW := Lib.hid (hrw.congr (g := fun x => .bool (reachF f.blocks x)) fun x _ => by rw [takesB_all (by omega)])
      clear hrw hso
      go_wp2_with fail
      go_ret
      exact ⟨⟨H, rfl, HH.out, HRW.out⟩, HB3.out.trans (HBB.out.below HB3.out.size HH.out)⟩
end Go.Proofs.Ytooblmiffgjmjaa
