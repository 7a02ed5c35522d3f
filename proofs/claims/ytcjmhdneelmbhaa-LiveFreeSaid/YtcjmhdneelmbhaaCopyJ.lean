/- The reference's CopyFunc: new memory that reads alike. -/
import Derived.Test.YtcjmhdneelmbhaaDmFrJ
import Derived.Test.YtcjmhdneelmbhaaLvTJ
import Derived.Deep.RegionHeld3
import Derived.Deep.DeepCutAuto
namespace Go.Proofs.Ytcjmhdneelmbhaa
open Go.ChangeShapes Go.WideShapes Go.RowKit Go.Deep
set_option linter.unusedVariables false

/-- What CopyFunc tells: the registers' row is its own, and apart from all else. -/
def FCopy (n : Nat) (w : World) (f : FunD) (r : Value) : Prop :=
  ∃ ur Ab cb Mid, r = .agg #[.int .i64 f.params, .int .i64 f.result, ur, .slice Ab f.blocks.length cb] ∧ (n ≤ Mid ∧ Mid ≤ w.heap.size) ∧ w.ownsRow n 3 1 ur f.regs.length (f.regs.map (Value.int .i64)) ∧ (∀ g, ur.ownBlock = some g → g < Mid) ∧
    SL w 5 (RBlkB (fun b => Mid ≤ b)) Ab cb f.blocks ∧ (∃ Ar cr, ur = .slice Ar f.regs.length cr ∧ SL w 1 (RIntB (fun b => n ≤ b)) Ar cr f.regs) ∧ I64 f.params ∧ I64 f.result

set_option maxRecDepth 100000 in
set_option maxHeartbeats 8000000 in
theorem copyFunc_own (f : FunD) (v : Value) (w : World) (hv : VFun w v f) (hsm : SmallF f) :
    Calls Try.prog 26 #[v] w fun e w' => (∃ r, e = .returned r ∧ FCopy w.heap.size w' f r) ∧ Below w.heap.size w w' := by
  obtain ⟨Ar, cr, Ab, cb, rfl, hr, hb, hp64, hr64⟩ := hv
  obtain ⟨i52, p1, p2, p3, p4⟩ := info_parts Try.info76
  have HI52 := Lib.hid (And.intro p1 (And.intro p2 (And.intro p3 p4)))
  clear p1 p2 p3 p4
  obtain ⟨i45, p1, p2, p3, p4⟩ := info_parts Try.info46
  have HI45 := Lib.hid (And.intro p1 (And.intro p2 (And.intro p3 p4)))
  clear p1 p2 p3 p4
  obtain ⟨i43, p1, p2, p3, p4⟩ := info_parts Try.info40
  have HI43 := Lib.hid (And.intro p1 (And.intro p2 (And.intro p3 p4)))
  clear p1 p2 p3 p4
  have hrl := hr.len
  have hbl := hb.len
  go_enter Try.func26, Try.ntmps26
  go_wp2_with fail
  obtain ⟨w1, hw1, hs1, hk1, hb1, hc1, -⟩ := named w #[.int .i64 f.params, .int .i64 f.result, .slice Ar f.regs.length cr, .slice Ab f.blocks.length cb] 43
  obtain ⟨w2, hw2, hs2, hk2, hb2, hc2, hfr2⟩ := named w1 #[.int .i64 0, .int .i64 0, .slice none 0 0, .slice none 0 0] 43
  have hbk : w2.heap[w1.heap.size]? = some (.cells #[.int .i64 0, .int .i64 0, .slice none 0 0, .slice none 0 0] 43 (0, 0)) := by rw [hw2]; exact heap_alloc_new _ _
  rw [hs1] at hs2 hc2 hfr2 hbk
  have HBK := Lib.hid hbk
  clear hbk
  have f0 : w2.cell? ⟨w.heap.size, 0, none⟩ = some (.int .i64 f.params) := hk2 _ _ (hc1 0 _ rfl)
  have f1 : w2.cell? ⟨w.heap.size, 1, none⟩ = some (.int .i64 f.result) := hk2 _ _ (hc1 1 _ rfl)
  have f2 : w2.cell? ⟨w.heap.size, 2, none⟩ = some (.slice Ar f.regs.length cr) := hk2 _ _ (hc1 2 _ rfl)
  have f3 : w2.cell? ⟨w.heap.size, 3, none⟩ = some (.slice Ab f.blocks.length cb) := hk2 _ _ (hc1 3 _ rfl)
  have hK := hk1.trans hk2
  have hB2 : Below w.heap.size w w2 := hb1.trans (hb2.mono (by omega))
  rw [← hw1, ← hw2]
  have hrs := SInts.keep hK hr
  have hl2 : w.heap.size + 1 < w2.heap.size := by omega
  have hl2' : w.heap.size < w2.heap.size := by omega
  have hrg : f.regs.length ≤ 1000000 := by have := hsm.2.1; omega
  have HS2 := Lib.hid hs2
  clear hw1 hw2 hs1 hs2 hc1 hk1 hk2 hb1 hb2
  go_cut [3] (fun s3 wx => ∃ go vr, s3 = .pointer (some ⟨go, 0, none⟩) ∧ w2.heap.size ≤ go ∧ go < wx.heap.size ∧ Below w2.heap.size w2 wx ∧ wx.heap[go]? = some (.cells #[.int .i64 f.params, .int .i64 f.result, vr, .slice none 0 0] 43 (0, 0)) ∧ (wx.ownsRow w2.heap.size 3 1 vr f.regs.length (f.regs.map (Value.int .i64)) ∧ vr.ownBlock ≠ some go) ∧ VS wx 1 (RIntB (fun b => w2.heap.size ≤ b ∧ b ≠ go)) vr f.regs)
  case first =>
    have hS : ∀ w', Below w2.heap.size w2 w' → w'.cell? ⟨w.heap.size, 0, none⟩ = some (.int .i64 f.params) ∧ w'.cell? ⟨w.heap.size, 1, none⟩ = some (.int .i64 f.result) ∧ w'.cell? ⟨w.heap.size, 2, none⟩ = some (.slice Ar f.regs.length cr) :=
      fun w' h => ⟨kept_of_below h _ _ f0, kept_of_below h _ _ f1, kept_of_below h _ _ f2⟩
    go_region_held3 (fun w' => w'.cell? ⟨w.heap.size, 0, none⟩ = some (.int .i64 f.params) ∧ w'.cell? ⟨w.heap.size, 1, none⟩ = some (.int .i64 f.result) ∧ w'.cell? ⟨w.heap.size, 2, none⟩ = some (.slice Ar f.regs.length cr))
      (first
        | (refine hS _ ?_; repeat (first | exact Below.refl _ _ | refine Below.drew ?_ | refine Below.setCell ?_ (by first | omega | (simp; done) | (simp; omega)) _ | refine Below.alloc ?_ (by first | omega | (simp; done) | (simp; omega)) _ | refine Below.grown ?_ hgrow (by first | omega | (simp; done) | (simp; omega)) (fun k hk => by first | (simp at hk; omega) | (cases hk; omega)))))
      (first
        | (refine step_append_copy (by rfl) _ _ (by rfl) _ _ _ _ _ (by rfl) (by rfl) (row_new _ _) (SInts.keep (kept1 _ _) hrs) rfl hrg ?_; intro v1 c1 wA hvs hgrow hownR; have hsz := hgrow.size; simp at hsz)
        | (refine step_append_copy (by rfl) _ _ (by rfl) _ _ _ _ _ (by rfl) (by rfl) (row_new2 _ _ _) (SInts.keep (kept2 _ _ _) hrs) rfl hrg ?_; intro v1 c1 wA hvs hgrow hownR; have hsz := hgrow.size; simp at hsz; have hbx := grown_block hgrow (show _ = some (.cells #[.int .i64 0, .int .i64 0, .slice none 0 0, .slice none 0 0] 43 (0, 0)) from row_new3 _ _ _) (by omega); have bx0 := cell_of_block hbx 0; have bx1 := cell_of_block hbx 1; have bx2 := cell_of_block hbx 2; have bx3 := cell_of_block hbx 3; have by0 := free_of_block hbx 0; have by1 := free_of_block hbx 1; have by2 := free_of_block hbx 2; have by3 := free_of_block hbx 3; simp at bx0 bx1 bx2 bx3)
        | (refine step_append_copy (by rfl) _ _ (by rfl) _ _ _ _ _ (by rfl) (by rfl) (row_new3 _ _ _) (SInts.keep (kept2 _ _ _) hrs) rfl hrg ?_; intro v1 c1 wA hvs hgrow hownR; have hsz := hgrow.size; simp at hsz; have hbx := grown_block hgrow (show _ = some (.cells #[.int .i64 0, .int .i64 0, .slice none 0 0, .slice none 0 0] 43 (0, 0)) from row_new2 _ _ _) (by omega); have bx0 := cell_of_block hbx 0; have bx1 := cell_of_block hbx 1; have bx2 := cell_of_block hbx 2; have bx3 := cell_of_block hbx 3; have by0 := free_of_block hbx 0; have by1 := free_of_block hbx 1; have by2 := free_of_block hbx 2; have by3 := free_of_block hbx 3; simp at bx0 bx1 bx2 bx3))
    · have hBA : Below w2.heap.size w2 wA := (((Below.refl _ w2).alloc (Nat.le_refl _) _).drew).grown hgrow (by simp) (fun k hk => Nat.le_of_eq (Option.some.inj hk))
      go_wp2_with fail
      go_meet
      exact ⟨_, _, rfl, by omega, by simp, hBA.alloc (by omega) _, heap_alloc_new _ _, ⟨World.ownsRow.alloc hownR.1 _, fun e => by have := (hownR.1.lt _ e).2; omega⟩, v1, c1, rfl,
        SIntsB.go (KeptB.of (kept_alloc _ _)) (fun b hb => by obtain ⟨h1, h2⟩ := hb; simp at h1; omega) (SIntsB.lt hvs)⟩
    · have hBA : Below w2.heap.size w2 wA := ((((Below.refl _ w2).alloc (Nat.le_refl _) _).alloc (by simp) _).drew).grown hgrow (by simp; omega) (fun k hk => Nat.le_of_eq (Option.some.inj hk))
      go_wp2_with fail
      go_meet
      exact ⟨_, _, rfl, by omega, by simp; omega, (((hBA.setCell (by show _ ≤ w2.heap.size + 1; omega) _).setCell (by show _ ≤ w2.heap.size + 1; omega) _).setCell (by show _ ≤ w2.heap.size + 1; omega) _).setCell (by show _ ≤ w2.heap.size + 1; omega) _, sets4_block hbx _ _ _ _, ⟨own_block hownR.1 (fun x hx => sets4_other _ (by rcases hownR.2 with h | h <;> (have := Option.some.inj (hx.symm.trans h); first | omega | (simp at this; omega))) _ _ _ _), fun e => by rcases hownR.2 with h | h <;> (have := Option.some.inj (e.symm.trans h); first | omega | (simp at this; done) | (simp at this; omega))⟩, v1, c1, rfl,
        SIntsB.go ((keptB_sets4 _ _ _ _ _ _).mono (fun b hb => hb.2)) (fun b hb => hb) (SL.imp (RIntB.go (B := fun b => b = w2.heap.size ∨ b = w2.heap.size + 1 + 1) (KeptB.of (Kept.refl _)) (fun b hb => by omega)) (by simpa using hvs))⟩
    · have hBA : Below w2.heap.size w2 wA := ((((Below.refl _ w2).alloc (Nat.le_refl _) _).alloc (by simp) _).drew).grown hgrow (by simp; omega) (fun k hk => by have := Option.some.inj hk; omega)
      go_wp2_with fail
      go_meet
      exact ⟨_, _, rfl, by omega, by simp; omega, (((hBA.setCell (Nat.le_refl _) _).setCell (Nat.le_refl _) _).setCell (Nat.le_refl _) _).setCell (Nat.le_refl _) _, sets4_block hbx _ _ _ _, ⟨own_base (own_block hownR.1 (fun x hx => sets4_other _ (by rcases hownR.2 with h | h <;> (have := Option.some.inj (hx.symm.trans h); first | omega | (simp at this; omega))) _ _ _ _)) (by omega), fun e => by rcases hownR.2 with h | h <;> (have := Option.some.inj (e.symm.trans h); first | omega | (simp at this; done) | (simp at this; omega))⟩, v1, c1, rfl,
        SIntsB.go ((keptB_sets4 _ _ _ _ _ _).mono (fun b hb => hb.2)) (fun b hb => hb) (SL.imp (RIntB.go (B := fun b => b = w2.heap.size + 1 ∨ b = w2.heap.size + 1 + 1) (KeptB.of (Kept.refl _)) (fun b hb => by omega)) (by simpa using hvs))⟩
  case rest =>
    obtain ⟨go, vr, rfl, hgo1, hgo2, hb3, hblk, ⟨howR, hneR⟩, Av, cv, rfl, hvr⟩ := hcut
    have hvr' := SIntsB.lt hvr
    obtain ⟨M, hM⟩ : ∃ M, M = wc.heap.size := ⟨_, rfl⟩
    have hMs : M ≤ wc.heap.size := by omega
    have hgoM : go < M := by omega
    rw [← hM] at hvr'
    have hltR : ∀ g, (Value.slice Av f.regs.length cv).ownBlock = some g → g < M := fun g hg => by have := (howR.lt g hg).2; omega
    have HLT := Lib.hid hltR
    have HNE := Lib.hid hneR
    have HOW := Lib.hid howR
    clear hltR hneR howR
    have hN2 : w2.heap.size ≤ wc.heap.size := hb3.size
    have hN2M : w2.heap.size ≤ M := by omega
    clear hM
    go_wp2_with fail
    go_loopw [4] (fun i wr => ∃ (k : Nat) (u : Value) (cs : List Value), k ≤ f.blocks.length ∧ i = .int .i64 k ∧ Below w2.heap.size w2 wr ∧ M ≤ wr.heap.size ∧
      wr.heap[go]? = some (.cells #[.int .i64 f.params, .int .i64 f.result, .slice Av f.regs.length cv, u] 43 (0, 0)) ∧
      SL wr 1 (RIntB (fun b => (w2.heap.size ≤ b ∧ b ≠ go) ∧ b < M)) Av cv f.regs ∧ Hid (wr.ownsRow w2.heap.size 3 1 (.slice Av f.regs.length cv) f.regs.length (f.regs.map (Value.int .i64))) ∧ wr.ownsRow M 40 5 u k cs ∧ Rows 5 (CBlk (fun b => M ≤ b ∧ some b ≠ u.ownBlock) wr) (f.blocks.take k) cs) (fun i _ => f.blocks.length - (intOf i).toNat)
    case atStart => exact ⟨0, .slice none 0 0, [], Nat.zero_le _, rfl, hb3, hMs, hblk, hvr', HOW, World.ownsRow_nil _ _ _ _, rfl⟩
    case round =>
      obtain ⟨k, u, cs, hk, rfl, hbw, hMw, hgo, hreg, howr, hown, hrows⟩ := hrel
      obtain ⟨wo, rfl⟩ : ∃ wo, wo = wr := ⟨wr, rfl⟩
      have hkw : Kept w2 wo := kept_below hbw (Nat.le_refl _)
      have g0 := cell_of_block hgo 0
      have g1 := cell_of_block hgo 1
      have g2 := cell_of_block hgo 2
      have g3 := cell_of_block hgo 3
      have f3' := hkw _ _ f3
      by_cases hlt : k < f.blocks.length
      · obtain ⟨bb, oo, b, rfl, hb, ⟨Ap, cp, hphi, hphis⟩, ⟨Ai, ci, hins, hinss⟩, ⟨hkd, hkd64⟩, ⟨har, har64⟩, ⟨At, ct, hto, htos⟩⟩ := (SBlks.keep (hK.trans hkw) hb).at_ hlt
        have hsb : SmallB b := hsm.2.2.2 b (List.mem_of_getElem? hb.out)
        clear g0 g1 g2 g3
        go_wp2_with fail
        obtain ⟨w3, hw3, hs3, hk3, hb3', hc3, -⟩ := named wo #[.slice Ap b.phis.length cp, .slice Ai b.ins.length ci, .int .i64 b.term.kind, .int .i64 b.term.arg, .slice At b.term.to.length ct] 40
        have b0 : w3.cell? ⟨wo.heap.size, 0, none⟩ = some (.slice Ap b.phis.length cp) := hc3 0 _ rfl
        have b1 : w3.cell? ⟨wo.heap.size, 1, none⟩ = some (.slice Ai b.ins.length ci) := hc3 1 _ rfl
        have b2 : w3.cell? ⟨wo.heap.size, 2, none⟩ = some (.int .i64 b.term.kind) := hc3 2 _ rfl
        have b3 : w3.cell? ⟨wo.heap.size, 3, none⟩ = some (.int .i64 b.term.arg) := hc3 3 _ rfl
        have b4 : w3.cell? ⟨wo.heap.size, 4, none⟩ = some (.slice At b.term.to.length ct) := hc3 4 _ rfl
        have htos3 := SInts.keep hk3 htos
        have hl3 : wo.heap.size < w3.heap.size := by omega
        have hto70 : b.term.to.length ≤ 1000000 := by have := hsb.2.2.1; omega
        rw [← hw3]
        have HS3 := Lib.hid hs3
        clear hw3 hs3 hc3 hphi hins hkd har hto
        go_cut [6] (fun s6 wx => ∃ gc A c, s6 = .pointer (some ⟨gc, 0, none⟩) ∧ w3.heap.size ≤ gc ∧ gc < wx.heap.size ∧ Below w3.heap.size w3 wx ∧
          wx.heap[gc]? = some (.cells #[.slice none 0 0, .slice none 0 0, .int .i64 b.term.kind, .int .i64 b.term.arg, .slice A b.term.to.length c] 40 (0, 0)) ∧ SL wx 1 (RIntB (fun x => w3.heap.size ≤ x ∧ x ≠ gc)) A c b.term.to)
        case first =>
          have hS : ∀ w', Below w3.heap.size w3 w' → w'.cell? ⟨wo.heap.size, 2, none⟩ = some (.int .i64 b.term.kind) ∧ w'.cell? ⟨wo.heap.size, 3, none⟩ = some (.int .i64 b.term.arg) ∧ w'.cell? ⟨wo.heap.size, 4, none⟩ = some (.slice At b.term.to.length ct) :=
            fun w' h => ⟨kept_of_below h _ _ b2, kept_of_below h _ _ b3, kept_of_below h _ _ b4⟩
          go_region_held3 (fun w' => w'.cell? ⟨wo.heap.size, 2, none⟩ = some (.int .i64 b.term.kind) ∧ w'.cell? ⟨wo.heap.size, 3, none⟩ = some (.int .i64 b.term.arg) ∧ w'.cell? ⟨wo.heap.size, 4, none⟩ = some (.slice At b.term.to.length ct))
            (first
              | (refine hS _ ?_; repeat (first | exact Below.refl _ _ | refine Below.drew ?_ | refine Below.setCell ?_ (by first | omega | (simp; done) | (simp; omega)) _ | refine Below.alloc ?_ (by first | omega | (simp; done) | (simp; omega)) _ | refine Below.grown ?_ hgrow (by first | omega | (simp; done) | (simp; omega)) (fun k hk => by first | (simp at hk; omega) | (cases hk; omega)))))
            (first
              | (refine step_append_copy (by rfl) _ _ (by rfl) _ _ _ _ _ (by rfl) (by rfl) (row_new _ _) (SInts.keep (kept1 _ _) htos3) rfl hto70 ?_; intro v1 c1 wA hvs hgrow hownR; clear hownR; have hsz := hgrow.size; simp at hsz)
              | (refine step_append_copy (by rfl) _ _ (by rfl) _ _ _ _ _ (by rfl) (by rfl) (row_new2 _ _ _) (SInts.keep (kept2 _ _ _) htos3) rfl hto70 ?_; intro v1 c1 wA hvs hgrow hownR; clear hownR; have hsz := hgrow.size; simp at hsz; have hbx := grown_block hgrow (show _ = some (.cells #[.slice none 0 0, .slice none 0 0, .int .i64 0, .int .i64 0, .slice none 0 0] 40 (0, 0)) from row_new3 _ _ _) (by omega); have bx0 := cell_of_block hbx 0; have by0 := free_of_block hbx 0; have bx1 := cell_of_block hbx 1; have by1 := free_of_block hbx 1; have bx2 := cell_of_block hbx 2; have by2 := free_of_block hbx 2; have bx3 := cell_of_block hbx 3; have by3 := free_of_block hbx 3; have bx4 := cell_of_block hbx 4; have by4 := free_of_block hbx 4; simp at bx0 bx1 bx2 bx3 bx4)
              | (refine step_append_copy (by rfl) _ _ (by rfl) _ _ _ _ _ (by rfl) (by rfl) (row_new3 _ _ _) (SInts.keep (kept2 _ _ _) htos3) rfl hto70 ?_; intro v1 c1 wA hvs hgrow hownR; clear hownR; have hsz := hgrow.size; simp at hsz; have hbx := grown_block hgrow (show _ = some (.cells #[.slice none 0 0, .slice none 0 0, .int .i64 0, .int .i64 0, .slice none 0 0] 40 (0, 0)) from row_new2 _ _ _) (by omega); have bx0 := cell_of_block hbx 0; have by0 := free_of_block hbx 0; have bx1 := cell_of_block hbx 1; have by1 := free_of_block hbx 1; have bx2 := cell_of_block hbx 2; have by2 := free_of_block hbx 2; have bx3 := cell_of_block hbx 3; have by3 := free_of_block hbx 3; have bx4 := cell_of_block hbx 4; have by4 := free_of_block hbx 4; simp at bx0 bx1 bx2 bx3 bx4))
          · have hBA : Below w3.heap.size w3 wA := (((Below.refl _ w3).alloc (Nat.le_refl _) _).drew).grown hgrow (by simp) (fun k hk => Nat.le_of_eq (Option.some.inj hk))
            go_wp2_with fail
            go_meet
            exact ⟨_, _, _, rfl, by omega, by simp, hBA.alloc (by omega) _, heap_alloc_new _ _,
              SIntsB.go (KeptB.of (kept_alloc _ _)) (fun b hb => by obtain ⟨h1, h2⟩ := hb; simp at h1; omega) (SIntsB.lt hvs)⟩
          · have hBA : Below w3.heap.size w3 wA := ((((Below.refl _ w3).alloc (Nat.le_refl _) _).alloc (by simp) _).drew).grown hgrow (by simp; omega) (fun k hk => Nat.le_of_eq (Option.some.inj hk))
            go_wp2_with fail
            go_meet
            exact ⟨_, _, _, rfl, by omega, by simp; omega, (((((hBA.setCell (by show _ ≤ w3.heap.size + 1; omega) _).setCell (by show _ ≤ w3.heap.size + 1; omega) _).setCell (by show _ ≤ w3.heap.size + 1; omega) _).setCell (by show _ ≤ w3.heap.size + 1; omega) _).setCell (by show _ ≤ w3.heap.size + 1; omega) _), sets5_block hbx _ _ _ _ _,
              SIntsB.go ((keptB_sets5 _ _ _ _ _ _ _).mono (fun b hb => hb.2)) (fun b hb => hb) (SL.imp (RIntB.go (B := fun b => b = w3.heap.size ∨ b = w3.heap.size + 1 + 1) (KeptB.of (Kept.refl _)) (fun b hb => by omega)) (by simpa using hvs))⟩
          · have hBA : Below w3.heap.size w3 wA := ((((Below.refl _ w3).alloc (Nat.le_refl _) _).alloc (by simp) _).drew).grown hgrow (by simp; omega) (fun k hk => by have := Option.some.inj hk; omega)
            go_wp2_with fail
            go_meet
            exact ⟨_, _, _, rfl, by omega, by simp; omega, (((((hBA.setCell (Nat.le_refl _) _).setCell (Nat.le_refl _) _).setCell (Nat.le_refl _) _).setCell (Nat.le_refl _) _).setCell (Nat.le_refl _) _), sets5_block hbx _ _ _ _ _,
              SIntsB.go ((keptB_sets5 _ _ _ _ _ _ _).mono (fun b hb => hb.2)) (fun b hb => hb) (SL.imp (RIntB.go (B := fun b => b = w3.heap.size + 1 ∨ b = w3.heap.size + 1 + 1) (KeptB.of (Kept.refl _)) (fun b hb => by omega)) (by simpa using hvs))⟩
        case rest =>
          obtain ⟨gc, Ac, cc, rfl, hgc1, hgc2, hb4, hcblk, hcto⟩ := hcut
          have hk4 := kept_of_below hb4
          have b0 := hk4 _ _ b0
          have b1 := hk4 _ _ b1
          obtain ⟨w4, rfl⟩ : ∃ w4, w4 = wc := ⟨wc, rfl⟩
          have hl4 := hb4.size
          have hcto' := SIntsB.lt hcto
          go_wp2_with fail
          go_loopw [7] (fun i wr => ∃ (j : Nat) (u1 : Value) (cs1 : List Value), j ≤ b.phis.length ∧ i = .int .i64 j ∧ BB w4.heap.size gc w4 wr ∧
            wr.heap[gc]? = some (.cells #[u1, .slice none 0 0, .int .i64 b.term.kind, .int .i64 b.term.arg, .slice Ac b.term.to.length cc] 40 (0, 0)) ∧
            wr.ownsRow w4.heap.size 76 2 u1 j cs1 ∧ Rows 2 (CPhi (fun x => w4.heap.size ≤ x ∧ some x ≠ u1.ownBlock) wr) (b.phis.take j) cs1) (fun i _ => b.phis.length - (intOf i).toNat)
          case atStart => exact ⟨0, .slice none 0 0, [], Nat.zero_le _, rfl, BB.refl _ _ _, hcblk, World.ownsRow_nil _ _ _ _, rfl⟩
          case round =>
            obtain ⟨j, u1, cs1, hj, rfl, hbb, hgcb, hown1, hrows1⟩ := hrel
            have hsz4 := hbb.size
            have hkb := hbb.kept
            have y0 := hkb _ _ ⟨by show wo.heap.size < w4.heap.size; omega, by show wo.heap.size ≠ gc; omega⟩ b0
            have hkW : Kept wo wr := fun a v h => by
              have hlt := block_lt_of_cell h
              exact hkb a v ⟨by omega, by omega⟩ (hk4 _ _ (hk3 _ _ h))
            have z0 := cell_of_block hgcb 0
            have z0 : wr.cell? ⟨gc, 0, none⟩ = some u1 := z0
            have zf := free_of_block hgcb 0
            by_cases hjt : j < b.phis.length
            · obtain ⟨bp, op, p, rfl, hp, ⟨hpd, hpd64⟩, Aa, ca, hpa, hpas⟩ := (SPhis.keep hkW hphis).at_ hjt
              have hbp : bp < w4.heap.size := by
                obtain ⟨b', o', p', e', _, ⟨h', _⟩, _⟩ := hphis.at_ hjt
                simp only [Option.some.injEq, Addr.mk.injEq] at e'
                obtain ⟨rfl, rfl, -⟩ := e'
                have := block_lt_of_cell h'
                dsimp only at this; omega
              have hj0 : (0 : Int) ≤ j := by omega
              have hj1 : (j : Int) < b.phis.length := by omega
              have hpl300 : b.phis.length ≤ 300 := hsb.2.1
              have hpal : p.args.length ≤ 1000000 := by have := hsb.2.2.2.2 p (List.mem_of_getElem? hp.out); omega
              have hS : ∀ w', Below w4.heap.size wr w' → w'.cell? ⟨gc, 0, none⟩ = some u1 ∧ w'.cell? ⟨wo.heap.size, 0, none⟩ = some (.slice (some ⟨bp, op, none⟩) b.phis.length cp) ∧
                  w'.cell? ⟨bp, op + j * 2, none⟩ = some (.int .i64 p.dst) ∧ w'.cell? ⟨bp, op + j * 2 + 1, none⟩ = some (.slice Aa p.args.length ca) := fun w' h =>
                ⟨(h.cell (p := ⟨gc, 0, none⟩) hgc2).trans z0, (h.cell (p := ⟨wo.heap.size, 0, none⟩) (by show wo.heap.size < w4.heap.size; omega)).trans y0,
                  (h.cell (p := ⟨bp, op + j * 2, none⟩) hbp).trans hpd, (h.cell (p := ⟨bp, op + j * 2 + 1, none⟩) hbp).trans hpa⟩
              go_wp2_with fail
              refine wp_region_last (L := 20) (S := fun w' => w'.cell? ⟨gc, 0, none⟩ = some u1 ∧ w'.cell? ⟨wo.heap.size, 0, none⟩ = some (.slice (some ⟨bp, op, none⟩) b.phis.length cp) ∧
                  w'.cell? ⟨bp, op + j * 2, none⟩ = some (.int .i64 p.dst) ∧ w'.cell? ⟨bp, op + j * 2 + 1, none⟩ = some (.slice Aa p.args.length ca)) (by kernel_rfl) (by rfl) (by kernel_rfl) (by kernel_rfl) ?_
              change wpAnyH _ _ _ _ _ _ _ _ (World.drew _)
              have hS0 := hS wr.drew (Below.refl _ _).drew
              refine takeH (i := 0) (some 51) (v := ?_) rfl (by kernel_rfl) (by kernel_rfl) (by kernel_rfl) (fun _ _ _ h => h) hS0 (fun o ho => ?_) ?_
              rotate_left
              · simp only [List.getElem?_toArray, List.getElem?_cons_zero, Option.some.injEq] at ho; subst ho; refine Or.inl ⟨by rfl, fun w' hSw => ?_⟩; (try dsimp only at hSw); go_simp; try with_reducible rfl
              simp only [Act.put, List.setIfInBounds_toArray, List.set_cons_zero, List.set_cons_succ]
              refine takeH (i := 1) (some 52) (v := ?_) rfl (by kernel_rfl) (by kernel_rfl) (by kernel_rfl) (fun _ _ _ h => h) hS0 (fun o ho => ?_) ?_
              rotate_left
              · simp only [List.getElem?_toArray, List.getElem?_cons_zero, List.getElem?_cons_succ, Option.some.injEq] at ho; subst ho; refine Or.inl ⟨by rfl, fun w' hSw => ?_⟩; (try dsimp only at hSw); go_simp; try with_reducible rfl
              simp only [Act.put, List.setIfInBounds_toArray, List.set_cons_zero, List.set_cons_succ]
              refine takeH (i := 2) (some 53) (v := ?_) rfl (by kernel_rfl) (by kernel_rfl) (by kernel_rfl) (fun _ _ _ h => h) hS0 (fun o ho => ?_) ?_
              rotate_left
              · simp only [List.getElem?_toArray, List.getElem?_cons_zero, List.getElem?_cons_succ, Option.some.injEq] at ho; subst ho; refine Or.inl ⟨by rfl, fun w' hSw => ?_⟩; (try dsimp only at hSw); go_simp; try with_reducible rfl
              simp only [Act.put, List.setIfInBounds_toArray, List.set_cons_zero, List.set_cons_succ]
              refine takeH (i := 3) (some 54) (v := ?_) rfl (by kernel_rfl) (by kernel_rfl) (by kernel_rfl) (fun _ _ _ h => h) hS0 (fun o ho => ?_) ?_
              rotate_left
              · simp only [List.getElem?_toArray, List.getElem?_cons_zero, List.getElem?_cons_succ, Option.some.injEq] at ho; subst ho; refine Or.inl ⟨by rfl, fun w' hSw => ?_⟩; (try dsimp only at hSw); go_simp; try with_reducible rfl
              simp only [Act.put, List.setIfInBounds_toArray, List.set_cons_zero, List.set_cons_succ]
              refine takeH (i := 4) (some 55) (v := ?_) rfl (by kernel_rfl) (by kernel_rfl) (by kernel_rfl) (fun _ _ _ h => h) hS0 (fun o ho => ?_) ?_
              rotate_left
              · simp only [List.getElem?_toArray, List.getElem?_cons_zero, List.getElem?_cons_succ, Option.some.injEq] at ho; subst ho; refine Or.inl ⟨by rfl, fun w' hSw => ?_⟩; (try dsimp only at hSw); go_simp; try with_reducible rfl
              simp only [Act.put, List.setIfInBounds_toArray, List.set_cons_zero, List.set_cons_succ]
              refine takeH (i := 5) (some 56) (v := ?_) rfl (by kernel_rfl) (by kernel_rfl) (by kernel_rfl) (fun _ _ _ h => h) hS0 (fun o ho => ?_) ?_
              rotate_left
              · simp only [List.getElem?_toArray, List.getElem?_cons_zero, List.getElem?_cons_succ, Option.some.injEq] at ho; subst ho; refine Or.inl ⟨by rfl, fun w' hSw => ?_⟩; (try dsimp only at hSw); go_simp; try with_reducible rfl
              simp only [Act.put, List.setIfInBounds_toArray, List.set_cons_zero, List.set_cons_succ]
              refine takeH (i := 6) (some 57) (v := ?_) rfl (by kernel_rfl) (by kernel_rfl) (by kernel_rfl) (fun _ _ _ h => h) hS0 (fun o ho => ?_) ?_
              rotate_left
              · simp only [List.getElem?_toArray, List.getElem?_cons_zero, List.getElem?_cons_succ, Option.some.injEq] at ho; subst ho; refine Or.inl ⟨by rfl, fun w' hSw => ?_⟩; (try dsimp only at hSw); go_simp; try with_reducible rfl
              simp only [Act.put, List.setIfInBounds_toArray, List.set_cons_zero, List.set_cons_succ]
              refine takeH (i := 7) (some 58) (v := ?_) rfl (by kernel_rfl) (by kernel_rfl) (by kernel_rfl) (fun _ _ _ h => h) hS0 (fun o ho => ?_) ?_
              rotate_left
              · simp only [List.getElem?_toArray, List.getElem?_cons_zero, List.getElem?_cons_succ, Option.some.injEq] at ho; subst ho; refine Or.inl ⟨by rfl, fun w' hSw => ?_⟩; (try dsimp only at hSw); go_simp; try with_reducible rfl
              simp only [Act.put, List.setIfInBounds_toArray, List.set_cons_zero, List.set_cons_succ]
              refine takeH (i := 9) (some 60) (v := ?_) rfl (by kernel_rfl) (by kernel_rfl) (by kernel_rfl) (fun _ _ _ h => h) hS0 (fun o ho => ?_) ?_
              rotate_left
              · simp only [List.getElem?_toArray, List.getElem?_cons_zero, List.getElem?_cons_succ, Option.some.injEq] at ho; subst ho; refine Or.inl ⟨by rfl, fun w' hSw => ?_⟩; (try dsimp only at hSw); go_simp; try with_reducible rfl
              simp only [Act.put, List.setIfInBounds_toArray, List.set_cons_zero, List.set_cons_succ]
              refine takeH (i := 10) (some 61) (v := ?_) rfl (by kernel_rfl) (by kernel_rfl) (by kernel_rfl) (fun _ _ _ h => h) hS0 (fun o ho => ?_) ?_
              rotate_left
              · simp only [List.getElem?_toArray, List.getElem?_cons_zero, List.getElem?_cons_succ, Option.some.injEq] at ho; subst ho; refine Or.inl ⟨by rfl, fun w' hSw => ?_⟩; (try dsimp only at hSw); go_simp; try with_reducible rfl
              simp only [Act.put, List.setIfInBounds_toArray, List.set_cons_zero, List.set_cons_succ]
              refine takeH (i := 11) (some 62) (v := ?_) rfl (by kernel_rfl) (by kernel_rfl) (by kernel_rfl) (fun _ _ _ h => h) hS0 (fun o ho => ?_) ?_
              rotate_left
              · simp only [List.getElem?_toArray, List.getElem?_cons_zero, List.getElem?_cons_succ, Option.some.injEq] at ho; subst ho; refine Or.inl ⟨by rfl, fun w' hSw => ?_⟩; (try dsimp only at hSw); go_simp; try with_reducible rfl
              simp only [Act.put, List.setIfInBounds_toArray, List.set_cons_zero, List.set_cons_succ]
              refine takeH (i := 12) (some 63) (v := ?_) rfl (by kernel_rfl) (by kernel_rfl) (by kernel_rfl) (fun _ _ _ h => h) hS0 (fun o ho => ?_) ?_
              rotate_left
              · simp only [List.getElem?_toArray, List.getElem?_cons_zero, List.getElem?_cons_succ, Option.some.injEq] at ho; subst ho; refine Or.inl ⟨by rfl, fun w' hSw => ?_⟩; (try dsimp only at hSw); go_simp; try with_reducible rfl
              simp only [Act.put, List.setIfInBounds_toArray, List.set_cons_zero, List.set_cons_succ]
              refine takeH (i := 13) (some 64) (v := ?_) rfl (by kernel_rfl) (by kernel_rfl) (by kernel_rfl) (fun _ _ _ h => h) hS0 (fun o ho => ?_) ?_
              rotate_left
              · simp only [List.getElem?_toArray, List.getElem?_cons_zero, List.getElem?_cons_succ, Option.some.injEq] at ho; subst ho; refine Or.inl ⟨by rfl, fun w' hSw => ?_⟩; (try dsimp only at hSw); go_simp; try with_reducible rfl
              simp only [Act.put, List.setIfInBounds_toArray, List.set_cons_zero, List.set_cons_succ]
              refine takeH (i := 14) (some 65) (v := ?_) rfl (by kernel_rfl) (by kernel_rfl) (by kernel_rfl) (fun _ _ _ h => h) hS0 (fun o ho => ?_) ?_
              rotate_left
              · simp only [List.getElem?_toArray, List.getElem?_cons_zero, List.getElem?_cons_succ, Option.some.injEq] at ho; subst ho; refine Or.inl ⟨by rfl, fun w' hSw => ?_⟩; (try dsimp only at hSw); go_simp; try with_reducible rfl
              simp only [Act.put, List.setIfInBounds_toArray, List.set_cons_zero, List.set_cons_succ]
              refine oneH (i := 8) (by kernel_rfl) (fun o ho K hK => ?_)
              simp only [List.getElem?_toArray, List.getElem?_cons_zero, List.getElem?_cons_succ, Option.some.injEq] at ho; subst ho
              go_simp
              have hb8 : Below w4.heap.size wr (wr.alloc (.cells #[] 3)).drew := ((Below.refl _ wr).alloc hsz4 _).drew
              refine hK.out _ _ (hS _ hb8) ?_
              clear hK K
              refine oneH (i := 15) (by kernel_rfl) (fun o ho K hK => ?_)
              simp only [List.getElem?_toArray, List.getElem?_cons_zero, List.getElem?_cons_succ, Option.some.injEq] at ho; subst ho
              refine step_append_copy (by rfl) _ _ (by rfl) _ _ _ _ _ (by rfl) (by rfl) (row_new wr _) (SInts.keep (kept1 _ _) hpas) rfl hpal ?_
              intro v1 c1 wA hvs hgrow hownR; clear hownR
              have hsA := hgrow.size
              simp at hsA
              have hbA : Below w4.heap.size wr wA := hb8.grown hgrow (by simp; omega) (fun k hk => by have := Option.some.inj hk; omega)
              have hSA := hS _ hbA
              refine hK.out _ _ hSA ?_
              clear hK K
              simp only [Act.put, List.setIfInBounds_toArray, List.set_cons_zero, List.set_cons_succ]
              refine takeH (i := 16) (some 67) (v := ?_) rfl (by kernel_rfl) (by kernel_rfl) (by kernel_rfl) (fun _ _ _ h => h) hSA (fun o ho => ?_) ?_
              rotate_left
              · simp only [List.getElem?_toArray, List.getElem?_cons_zero, List.getElem?_cons_succ, Option.some.injEq] at ho; subst ho; refine Or.inl ⟨by rfl, fun w' hSw => ?_⟩; (try dsimp only at hSw); go_simp; try with_reducible rfl
              simp only [Act.put, List.setIfInBounds_toArray, List.set_cons_zero, List.set_cons_succ]
              refine oneH (i := 17) (by kernel_rfl) (fun o ho K hK => ?_)
              simp only [List.getElem?_toArray, List.getElem?_cons_zero, List.getElem?_cons_succ, Option.some.injEq] at ho; subst ho
              go_simp
              have hbB : Below w4.heap.size wr (wA.alloc (.cells #[.int .i64 p.dst, .slice v1 p.args.length c1] 76)) := hbA.alloc (by omega) _
              refine hK.out _ _ (hS _ hbB) ?_
              clear hK K
              refine oneH (i := 18) (by kernel_rfl) (fun o ho K hK => ?_)
              simp only [List.getElem?_toArray, List.getElem?_cons_zero, List.getElem?_cons_succ, Option.some.injEq] at ho; subst ho
              have hownA : wA.ownsRow w4.heap.size 76 2 u1 j cs1 := by
                refine World.ownsRow.kept (w := (wr.alloc (.cells #[] 3)).drew) (World.ownsRow.alloc (w := wr) hown1 _) hgrow ?_
                cases hu : u1.ownBlock with
                | none => exact .inl rfl
                | some g => right; intro e; have := (hown1.lt g hu).2; have := Option.some.inj e; omega
              refine step_append_lies _ (by rfl) _ _ _ (by rfl) w4.heap.size 76 i52 (.agg #[.int .i64 0, .slice none 0 0]) 2 32 Try.underlying37 HI52.out.1 HI52.out.2.1 HI52.out.2.2.1 HI52.out.2.2.2 rfl (by decide) u1 j cs1 (by rfl) (hownA.alloc _)
                ⟨wA.heap.size, 0, none⟩ 1 1 [.int .i64 p.dst, .slice v1 p.args.length c1] (by rfl) (by rfl) (news_cells wA #[.int .i64 p.dst, .slice v1 p.args.length c1] _ rfl) (by simp [Value.oneCell']) (by decide) (by unfold maxLen; omega) (by omega) (by simp; omega) (wA.heap.size + 1) (by simp) ?_
              intro g cap wC hownC hgrowC hlocC hltC
              have hsC := hgrowC.size
              simp at hsC
              have hbC : Below w4.heap.size wr wC := hbB.grown hgrowC (by simp; omega) (fun k hk => (hown1.lt k hk).1)
              have hSC := hS _ hbC
              refine hK.out _ _ hSC ?_
              clear hK K
              simp only [Act.put, List.setIfInBounds_toArray, List.set_cons_zero, List.set_cons_succ]
              refine takeH (i := 19) (some 70) (v := ?_) rfl (by kernel_rfl) (by kernel_rfl) (by kernel_rfl) (fun _ _ _ h => h) hSC (fun o ho => ?_) ?_
              rotate_left
              · simp only [List.getElem?_toArray, List.getElem?_cons_zero, List.getElem?_cons_succ, Option.some.injEq] at ho; subst ho; refine Or.inl ⟨by rfl, fun w' hSw => ?_⟩; (try dsimp only at hSw); go_simp; try with_reducible rfl
              simp only [Act.put, List.setIfInBounds_toArray, List.set_cons_zero, List.set_cons_succ]
              refine wpAnyH_done (by kernel_rfl) ?_ _
              refine lastH (by decide) (fun o ho K hK => ?_)
              simp only [List.getElem?_toArray, List.getElem?_cons_zero, List.getElem?_cons_succ, Option.some.injEq] at ho; subst ho
              have hgcC : wC.heap[gc]? = some (.cells #[u1, .slice none 0 0, .int .i64 b.term.kind, .int .i64 b.term.arg, .slice Ac b.term.to.length cc] 40 (0, 0)) := (hbC.block gc hgc2).trans hgcb
              have x0 : wC.cell? ⟨gc, 0, none⟩ = some u1 := cell_of_block hgcC 0
              have xf : wC.frozen? ⟨gc, 0, none⟩ = false := free_of_block hgcC 0
              go_simp
              refine hK.out _ _ ?_
              clear hK K
              have hkF : KeptB (fun x => (w4.heap.size ≤ x ∧ some x ≠ u1.ownBlock) ∧ x < wr.heap.size) wr (wC.setCell ⟨gc, 0, none⟩ (.slice (some ⟨g, 0, none⟩) (j + 1) cap)) :=
                (((KeptB.of (kept1 wr (.cells #[] 3))).trans ((keptB_grown hgrow).mono (fun x hx => by intro e; have := Option.some.inj e; omega))).trans (KeptB.of (kept_alloc _ _))).trans
                  (((keptB_grown hgrowC).mono (fun x hx => hx.1.2)).trans ((keptB_set wC ⟨gc, 0, none⟩ _).mono (fun x hx => by show x ≠ gc; omega)))
              have hkA : KeptB (fun x => (x = wr.heap.size ∨ x = wr.heap.size + 1) ∧ x < wA.heap.size) wA (wC.setCell ⟨gc, 0, none⟩ (.slice (some ⟨g, 0, none⟩) (j + 1) cap)) :=
                (KeptB.of (kept_alloc _ _)).trans (((keptB_grown hgrowC).mono (fun x hx e => by have := (hown1.lt x e.symm).2; omega)).trans ((keptB_set wC ⟨gc, 0, none⟩ _).mono (fun x hx => by show x ≠ gc; omega)))
              have hvs' : SL wA 1 (RIntB (fun x => (x = wr.heap.size ∨ x = wr.heap.size + 1) ∧ x < wA.heap.size)) v1 c1 p.args := SIntsB.lt (by simpa using hvs)
              have hnewP : CPhi (fun x => w4.heap.size ≤ x ∧ some x ≠ (Value.slice (some ⟨g, 0, none⟩) (j + 1) cap).ownBlock) (wC.setCell ⟨gc, 0, none⟩ (.slice (some ⟨g, 0, none⟩) (j + 1) cap)) p [.int .i64 p.dst, .slice v1 p.args.length c1] :=
                ⟨v1, c1, rfl, SIntsB.go hkA (fun x hx => ⟨by omega, fun e => by
                  have hxg : x = g := Option.some.inj e
                  rcases hlocC with h | h
                  · have := (hown1.lt g h).2; omega
                  · omega⟩) hvs', hpd64⟩
              have hrowsF := Rows.push (F := CPhi) (fun _ _ _ _ _ _ h1 h2 h3 => CPhi.go h1 h2 h3) (fun _ _ _ _ h => CPhi.lt h) hrows1 hkF (u' := .slice (some ⟨g, 0, none⟩) (j + 1) cap) (fun x h1 h2 h3 e => by
                  have hxg : x = g := Option.some.inj e
                  rcases hlocC with h | h
                  · subst hxg; exact h2 h.symm
                  · omega) rfl hnewP
              have hbbF : BB w4.heap.size gc w4 (wC.setCell ⟨gc, 0, none⟩ (.slice (some ⟨g, 0, none⟩) (j + 1) cap)) := (hbb.trans (BB.of_below hbC (Nat.le_refl _))).setCell (.inl rfl) _
              have hgcF := set_of_block (i := 0) (.slice (some ⟨g, 0, none⟩) (j + 1) cap) hgcC
              have hownF : (wC.setCell ⟨gc, 0, none⟩ (.slice (some ⟨g, 0, none⟩) (j + 1) cap)).ownsRow w4.heap.size 76 2 (.slice (some ⟨g, 0, none⟩) (j + 1) cap) (j + 1) (cs1 ++ [.int .i64 p.dst, .slice v1 p.args.length c1]) := ownsRow_setCell_below hownC hgc2 _
              rw [← take_succ_of hp.out] at hrowsF
              have HR := Lib.hid hrowsF
              have HO := Lib.hid hownF
              have HG : Hid ((wC.setCell ⟨gc, 0, none⟩ (.slice (some ⟨g, 0, none⟩) (j + 1) cap)).heap[gc]? = some (.cells #[.slice (some ⟨g, 0, none⟩) (j + 1) cap, .slice none 0 0, .int .i64 b.term.kind, .int .i64 b.term.arg, .slice Ac b.term.to.length cc] 40 (0, 0))) := Lib.hid hgcF
              generalize wC.setCell ⟨gc, 0, none⟩ (.slice (some ⟨g, 0, none⟩) (j + 1) cap) = wF at *
              clear hrowsF hownF hgcF hkF hkA hnewP hgcC x0 xf
              go_wp2_with fail
              go_roundw
              case rel => exact ⟨j + 1, _, _, by omega, by go_num, hbbF, HG.out, HO.out, HR.out⟩
              case measure => simp [intOf]; omega
            · obtain rfl : j = b.phis.length := by omega
              rw [List.take_of_length_le (Nat.le_refl _)] at hrows1
              have hphv : VS wr 2 (RPhiB (fun x => w4.heap.size ≤ x)) u1 b.phis := hrows1.reads hown1 (fun g o x c h1 h2 h3 _ h4 => CPhi.reads (B := fun x => w4.heap.size ≤ x) h2 (CPhi.go (KeptB.of (Kept.refl _)) (fun _ h => h.1) h3) h4)
              obtain ⟨A1, d1, rfl, hph⟩ := hphv
              have hph := SPhisB.lt hph
              have y1 := hkb _ _ ⟨by show wo.heap.size < w4.heap.size; omega, by show wo.heap.size ≠ gc; omega⟩ b1
              clear hown1 hrows1
              obtain ⟨w5, rfl⟩ : ∃ w5, w5 = wr := ⟨wr, rfl⟩
              have hgc5 : gc < w5.heap.size := by omega
              go_wp2_with fail
              go_loopw [8] (fun i wr => ∃ (j : Nat) (u1 : Value) (cs1 : List Value), j ≤ b.ins.length ∧ i = .int .i64 j ∧ BB w5.heap.size gc w5 wr ∧
                wr.heap[gc]? = some (.cells #[.slice A1 b.phis.length d1, u1, .int .i64 b.term.kind, .int .i64 b.term.arg, .slice Ac b.term.to.length cc] 40 (0, 0)) ∧
                wr.ownsRow w5.heap.size 46 5 u1 j cs1 ∧ Rows 5 (CIns (fun x => w5.heap.size ≤ x ∧ some x ≠ u1.ownBlock) wr) (b.ins.take j) cs1) (fun i _ => b.ins.length - (intOf i).toNat)
              case atStart => exact ⟨0, .slice none 0 0, [], Nat.zero_le _, rfl, BB.refl _ _ _, hgcb, World.ownsRow_nil _ _ _ _, rfl⟩
              case round =>
                obtain ⟨j, u1, cs1, hj, rfl, hbi, hgci, hown1, hrows1⟩ := hrel
                have hsz5 := hbi.size
                have hki := hbi.kept
                have i1 := hki _ _ ⟨by show wo.heap.size < w5.heap.size; omega, by show wo.heap.size ≠ gc; omega⟩ y1
                have hkI : Kept wo wr := fun a v h => by
                  have hlt := block_lt_of_cell h
                  exact hki a v ⟨by omega, by omega⟩ (hkW _ _ h)
                by_cases hjt : j < b.ins.length
                · obtain ⟨bp, op, x, rfl, hx, ⟨h0, h064⟩, ⟨h1, h164⟩, ⟨Aa, ca, hxa, hxas⟩, ⟨h3, h364⟩, ⟨h4, h464⟩⟩ := (SInss.keep hkI hinss).at_ hjt
                  have hil300 : b.ins.length ≤ 300 := hsb.1
                  have hxal : x.args.length ≤ 1000000 := by have := hsb.2.2.2.1 x (List.mem_of_getElem? hx.out); omega
                  have hlx : wo.heap.size < wr.heap.size := by omega
                  go_wp2_with (at_builtin; refine wpList_append_copy rfl _ _ rfl _ _ _ _ _ rfl rfl (row_new4 wr _ _) (SInts.keep (kept3 wr _ _) hxas) rfl hxal ?_)
                  intro v1 c1 wA hvs hgrow hownR hatR; clear hownR hatR
                  have hsA := hgrow.size
                  simp at hsA
                  have hbA : Below w5.heap.size wr wA := (((Below.refl _ wr).alloc hsz5 _).alloc (by simp; omega) _).grown hgrow (by simp; omega) (fun k hk => by have := Option.some.inj hk; omega)
                  have hgxA := grown_block hgrow (row_old wr _ _) (by omega)
                  have hgcA := grown_block hgrow (row_keep wr _ _ _ hgci) (by omega)
                  have hne : gc ≠ wr.heap.size := by omega
                  have hne' : wr.heap.size ≠ gc := by omega
                  have x0 : wA.cell? ⟨wr.heap.size, 0, none⟩ = some (.int .i64 x.op) := cell_of_block hgxA 0
                  have x1 : wA.cell? ⟨wr.heap.size, 1, none⟩ = some (.int .i64 x.dst) := cell_of_block hgxA 1
                  have x2 : wA.cell? ⟨wr.heap.size, 2, none⟩ = some (.slice Aa x.args.length ca) := cell_of_block hgxA 2
                  have x3 : wA.cell? ⟨wr.heap.size, 3, none⟩ = some (.int .i64 x.imm) := cell_of_block hgxA 3
                  have x4 : wA.cell? ⟨wr.heap.size, 4, none⟩ = some (.int .i64 x.fn) := cell_of_block hgxA 4
                  have xf : wA.frozen? ⟨wr.heap.size, 2, none⟩ = false := free_of_block hgxA 2
                  have z1 : wA.cell? ⟨gc, 1, none⟩ = some u1 := cell_of_block hgcA 1
                  have hownA : wA.ownsRow w5.heap.size 46 5 u1 j cs1 := World.ownsRow.kept (World.ownsRow.alloc (World.ownsRow.alloc hown1 _) _) hgrow (own_ne hown1 (by omega))
                  have hownB : (wA.setCell ⟨wr.heap.size, 2, none⟩ (.slice v1 x.args.length c1)).ownsRow w5.heap.size 46 5 u1 j cs1 := World.ownsRow.kept hownA (grown_set _ _ _) (own_ne hown1 (Nat.le_refl _))
                  have hgcB : (wA.setCell ⟨wr.heap.size, 2, none⟩ (.slice v1 x.args.length c1)).heap[gc]? = _ := (Below.heap_setCell _ _ _ _ hne).trans hgcA
                  have hbB : Below w5.heap.size wr (wA.setCell ⟨wr.heap.size, 2, none⟩ (.slice v1 x.args.length c1)) := hbA.setCell hsz5 _
                  go_wp2_with (at_builtin; refine wpList_append_lies _ rfl _ _ _ rfl w5.heap.size 46 i45 (.agg #[.int .i64 0, .int .i64 0, .slice none 0 0, .int .i64 0, .int .i64 0]) 5 56 Try.underlying38 HI45.out.1 HI45.out.2.1 HI45.out.2.2.1 HI45.out.2.2.2 rfl (by decide) u1 j cs1 rfl (hownB.alloc _) ⟨wA.heap.size, 0, none⟩ 1 1 [.int .i64 x.op, .int .i64 x.dst, .slice v1 x.args.length c1, .int .i64 x.imm, .int .i64 x.fn] rfl rfl (news_cells _ #[.int .i64 x.op, .int .i64 x.dst, .slice v1 x.args.length c1, .int .i64 x.imm, .int .i64 x.fn] _ (by simp)) (by simp [Value.oneCell']) (by decide) (by unfold maxLen; omega) (by omega) (by simp; omega) (wA.heap.size + 1) (by simp) ?_)
                  intro g cap wC hownC hgrowC hlocC hltC
                  have hsC := hgrowC.size
                  simp at hsC
                  have hbC : Below w5.heap.size wr wC := (hbB.alloc (by simp; omega) _).grown hgrowC (by simp; omega) (fun k hk => (hown1.lt k hk).1)
                  have hgcC : wC.heap[gc]? = some (.cells #[.slice A1 b.phis.length d1, u1, .int .i64 b.term.kind, .int .i64 b.term.arg, .slice Ac b.term.to.length cc] 40 (0, 0)) := (hbC.block gc hgc5).trans hgci
                  have zc : wC.cell? ⟨gc, 1, none⟩ = some u1 := cell_of_block hgcC 1
                  have zf : wC.frozen? ⟨gc, 1, none⟩ = false := free_of_block hgcC 1
                  obtain ⟨wF, hwF⟩ : ∃ wF, wF = wC.setCell ⟨gc, 1, none⟩ (.slice (some ⟨g, 0, none⟩) (j + 1) cap) := ⟨_, rfl⟩
                  have hkC : KeptB (fun y => y ≠ gc) wC wF := by rw [hwF]; exact keptB_set wC ⟨gc, 1, none⟩ _
                  have hkF : KeptB (fun y => (w5.heap.size ≤ y ∧ some y ≠ u1.ownBlock) ∧ y < wr.heap.size) wr wF :=
                    ((((KeptB.of (kept3 wr _ _)).trans ((keptB_grown hgrow).mono (fun y hy => by intro e; have := Option.some.inj e; omega))).trans ((keptB_set wA ⟨wr.heap.size, 2, none⟩ _).mono (fun y hy => by show y ≠ wr.heap.size; omega))).trans (KeptB.of (kept_alloc _ _))).trans
                      (((keptB_grown hgrowC).mono (fun y hy => hy.1.2)).trans (hkC.mono (fun y hy => by omega)))
                  have hkA : KeptB (fun y => (y = wr.heap.size + 1 ∨ y = wr.heap.size + 1 + 1) ∧ y < wA.heap.size) wA wF :=
                    (((keptB_set wA ⟨wr.heap.size, 2, none⟩ _).mono (fun y hy => by show y ≠ wr.heap.size; omega)).trans (KeptB.of (kept_alloc _ _))).trans
                      (((keptB_grown hgrowC).mono (fun y hy e => by have := (hown1.lt y e.symm).2; omega)).trans (hkC.mono (fun y hy => by omega)))
                  have hvs' : SL wA 1 (RIntB (fun y => (y = wr.heap.size + 1 ∨ y = wr.heap.size + 1 + 1) ∧ y < wA.heap.size)) v1 c1 x.args := SIntsB.lt (by simpa using hvs)
                  have hnewP : CIns (fun y => w5.heap.size ≤ y ∧ some y ≠ (Value.slice (some ⟨g, 0, none⟩) (j + 1) cap).ownBlock) wF x [.int .i64 x.op, .int .i64 x.dst, .slice v1 x.args.length c1, .int .i64 x.imm, .int .i64 x.fn] :=
                    ⟨v1, c1, rfl, SIntsB.go hkA (fun y hy => ⟨by omega, fun e => by
                      have hyg : y = g := Option.some.inj e
                      rcases hlocC with h | h
                      · have := (hown1.lt g h).2; omega
                      · omega⟩) hvs', h064, h164, h364, h464⟩
                  have hrowsF := Rows.push (F := CIns) (fun _ _ _ _ _ _ h1 h2 h3 => CIns.go h1 h2 h3) (fun _ _ _ _ h => CIns.lt h) hrows1 hkF (u' := .slice (some ⟨g, 0, none⟩) (j + 1) cap) (fun y h1 h2 h3 e => by
                      have hyg : y = g := Option.some.inj e
                      rcases hlocC with h | h
                      · subst hyg; exact h2 h.symm
                      · omega) rfl hnewP
                  have hbbF : BB w5.heap.size gc w5 wF := by rw [hwF]; exact (hbi.trans (BB.of_below hbC (Nat.le_refl _))).setCell (.inl rfl) _
                  have hgcF : wF.heap[gc]? = some (.cells #[.slice A1 b.phis.length d1, .slice (some ⟨g, 0, none⟩) (j + 1) cap, .int .i64 b.term.kind, .int .i64 b.term.arg, .slice Ac b.term.to.length cc] 40 (0, 0)) := by
                    rw [hwF]; exact set_of_block (i := 1) (.slice (some ⟨g, 0, none⟩) (j + 1) cap) hgcC
                  have hownF : wF.ownsRow w5.heap.size 46 5 (.slice (some ⟨g, 0, none⟩) (j + 1) cap) (j + 1) (cs1 ++ [.int .i64 x.op, .int .i64 x.dst, .slice v1 x.args.length c1, .int .i64 x.imm, .int .i64 x.fn]) := by rw [hwF]; exact ownsRow_setCell_below hownC hgc5 _
                  rw [← take_succ_of hx.out] at hrowsF
                  have HR := Lib.hid hrowsF
                  have HO := Lib.hid hownF
                  have HG := Lib.hid hgcF
                  have HB := Lib.hid hbbF
                  have HW := Lib.hid hwF
                  clear hrowsF hownF hgcF hkF hkA hnewP hbbF hkC hwF x0 x1 x2 x3 x4 xf z1 hgxA hgcA hgcB
                  go_wp2_with fail
                  rw [← HW.out]
                  go_roundw
                  case rel => exact ⟨j + 1, _, _, by omega, by go_num, HB.out, HG.out, HO.out, HR.out⟩
                  case measure => simp [intOf]; omega
                · obtain rfl : j = b.ins.length := by omega
                  rw [List.take_of_length_le (Nat.le_refl _)] at hrows1
                  have hinv : VS wr 5 (RInsB (fun x => w5.heap.size ≤ x)) u1 b.ins := hrows1.reads hown1 (fun g o x c h1 h2 h3 _ h4 => CIns.reads (B := fun x => w5.heap.size ≤ x) h2 (CIns.go (KeptB.of (Kept.refl _)) (fun _ h => h.1) h3) h4)
                  obtain ⟨A2, d2, rfl, hin⟩ := hinv
                  have hin := SInssB.lt hin
                  clear hown1 hrows1
                  have hl5 := hbb.size
                  have hlr := hbi.size
                  have hwogc : wo.heap.size ≤ gc := by omega
                  have hall : BB wo.heap.size gc wo wr := (((BB.of_below hb3' (Nat.le_refl _)).trans (BB.of_below hb4 (by omega))).trans (hbb.mono (by omega))).trans (hbi.mono (by omega))
                  have hallB : Below wo.heap.size wo wr := hall.below (Nat.le_refl _) hwogc
                  have hgoI : wr.heap[go]? = some (.cells #[.int .i64 f.params, .int .i64 f.result, .slice Av f.regs.length cv, u] 43 (0, 0)) := (hallB.block go (by omega)).trans hgo
                  have hgrI : wo.grownBy wr (some gc) := ⟨hallB.os, hallB.tape, hallB.output, hallB.size, fun k hk _ => hallB.block k hk⟩
                  have hownI : wr.ownsRow M 40 5 u k cs := World.ownsRow.kept hown hgrI (own_ne hown hwogc)
                  have o3 : wr.cell? ⟨go, 3, none⟩ = some u := cell_of_block hgoI 3
                  have of : wr.frozen? ⟨go, 3, none⟩ = false := free_of_block hgoI 3
                  have c0 : wr.cell? ⟨gc, 0, none⟩ = some (.slice A1 b.phis.length d1) := cell_of_block hgci 0
                  have c1 : wr.cell? ⟨gc, 1, none⟩ = some (.slice A2 b.ins.length d2) := cell_of_block hgci 1
                  have c2 : wr.cell? ⟨gc, 2, none⟩ = some (.int .i64 b.term.kind) := cell_of_block hgci 2
                  have c3 : wr.cell? ⟨gc, 3, none⟩ = some (.int .i64 b.term.arg) := cell_of_block hgci 3
                  have c4 : wr.cell? ⟨gc, 4, none⟩ = some (.slice Ac b.term.to.length cc) := cell_of_block hgci 4
                  have hn70 : f.blocks.length ≤ 70 := hsm.1
                  go_wp2_with (at_builtin; refine wpList_append_lies _ rfl _ _ _ rfl M 40 i43 (.agg #[.slice none 0 0, .slice none 0 0, .int .i64 0, .int .i64 0, .slice none 0 0]) 5 88 Try.underlying41 HI43.out.1 HI43.out.2.1 HI43.out.2.2.1 HI43.out.2.2.2 rfl (by decide) u k cs rfl (hownI.alloc _) ⟨wr.heap.size, 0, none⟩ 1 1 [.slice A1 b.phis.length d1, .slice A2 b.ins.length d2, .int .i64 b.term.kind, .int .i64 b.term.arg, .slice Ac b.term.to.length cc] rfl rfl (news_cells wr #[.slice A1 b.phis.length d1, .slice A2 b.ins.length d2, .int .i64 b.term.kind, .int .i64 b.term.arg, .slice Ac b.term.to.length cc] _ rfl) (by simp [Value.oneCell']) (by decide) (by unfold maxLen; omega) (by omega) (by simp; omega) (wr.heap.size + 1) (by simp) ?_)
                  intro g cap wC hownC hgrowC hlocC hltC
                  have hsC := hgrowC.size
                  simp at hsC
                  have hMr : M ≤ wr.heap.size := by omega
                  have hbM : Below M wr wC := ((Below.refl M wr).alloc hMr _).grown hgrowC (by simp; omega) (fun k hk => (hownI.lt k hk).1)
                  have hbMo : Below M wo wC := (hallB.mono hMw).trans hbM
                  have hgoC : wC.heap[go]? = _ := (hbM.block go hgoM).trans hgoI
                  have z3 : wC.cell? ⟨go, 3, none⟩ = some u := cell_of_block hgoC 3
                  have zf : wC.frozen? ⟨go, 3, none⟩ = false := free_of_block hgoC 3
                  obtain ⟨wF, hwF⟩ : ∃ wF, wF = wC.setCell ⟨go, 3, none⟩ (.slice (some ⟨g, 0, none⟩) (k + 1) cap) := ⟨_, rfl⟩
                  have hsF : wF.heap.size = wC.heap.size := by rw [hwF]; simp [World.setCell]
                  have hkC : KeptB (fun y => y ≠ go) wC wF := by rw [hwF]; exact keptB_set wC ⟨go, 3, none⟩ _
                  have hbF : Below w2.heap.size w2 wF := by
                    rw [hwF]; exact (hbw.trans (hbMo.mono hN2M)).setCell (by show _ ≤ go; omega) _
                  have hgoF : wF.heap[go]? = some (.cells #[.int .i64 f.params, .int .i64 f.result, .slice Av f.regs.length cv, .slice (some ⟨g, 0, none⟩) (k + 1) cap] 43 (0, 0)) := by
                    rw [hwF]; exact set_of_block (i := 3) (.slice (some ⟨g, 0, none⟩) (k + 1) cap) hgoC
                  have hownF : wF.ownsRow M 40 5 (.slice (some ⟨g, 0, none⟩) (k + 1) cap) (k + 1) (cs ++ [.slice A1 b.phis.length d1, .slice A2 b.ins.length d2, .int .i64 b.term.kind, .int .i64 b.term.arg, .slice Ac b.term.to.length cc]) := by rw [hwF]; exact ownsRow_setCell_below hownC hgoM _
                  have hregF : SL wF 1 (RIntB (fun b => (w2.heap.size ≤ b ∧ b ≠ go) ∧ b < M)) Av cv f.regs :=
                    SIntsB.go (((BB.of_below (g := go) hbMo (Nat.le_refl _)).kept.trans (hkC.mono (fun y hy => hy.2))).mono (fun y hy => ⟨hy.2, hy.1.2⟩)) (fun _ h => h) hreg
                  have howF : wF.ownsRow w2.heap.size 3 1 (.slice Av f.regs.length cv) f.regs.length (f.regs.map (Value.int .i64)) := own_block howr.out (fun x hx => by
                    rw [hwF]
                    exact (Below.heap_setCell _ _ _ _ (show x ≠ go from fun e => HNE.out (by rw [hx, e]))).trans (hbMo.block x (HLT.out x hx)))
                  have hgl : ∀ x, u.ownBlock = some x → x < wo.heap.size := fun x hx => (hown.lt x hx).2
                  have hkR : KeptB (fun y => wo.heap.size ≤ y ∧ y < wr.heap.size) wr wF :=
                    ((KeptB.of (kept_alloc wr _)).trans ((keptB_grown hgrowC).mono (fun y hy e => by have := hgl y e.symm; omega))).trans (hkC.mono (fun y hy => by omega))
                  have hBg : ∀ y, wo.heap.size ≤ y → y < wr.heap.size → M ≤ y ∧ some y ≠ (Value.slice (some ⟨g, 0, none⟩) (k + 1) cap).ownBlock := fun y h1 h2 => ⟨by omega, fun e => by
                    have hyg : y = g := Option.some.inj e
                    rcases hlocC with h | h
                    · have := hgl g h; omega
                    · omega⟩
                  have hphF := SPhisB.go (B' := fun y => M ≤ y ∧ some y ≠ (Value.slice (some ⟨g, 0, none⟩) (k + 1) cap).ownBlock) (w' := wF) ((hbi.kept.mono (fun y hy => ⟨hy.2, by omega⟩)).trans (hkR.mono (fun y hy => ⟨by omega, by omega⟩))) (fun y hy => hBg y (by omega) (by omega)) hph
                  have hinF := SInssB.go (B' := fun y => M ≤ y ∧ some y ≠ (Value.slice (some ⟨g, 0, none⟩) (k + 1) cap).ownBlock) (w' := wF) (hkR.mono (fun y hy => ⟨by omega, hy.2⟩)) (fun y hy => hBg y (by omega) hy.2) hin
                  have htoF := SIntsB.go (B' := fun y => M ≤ y ∧ some y ≠ (Value.slice (some ⟨g, 0, none⟩) (k + 1) cap).ownBlock) (w' := wF) (((hbb.kept.mono (fun y hy => ⟨hy.2, hy.1.2⟩)).trans (hbi.kept.mono (fun y hy => ⟨by omega, hy.1.2⟩))).trans (hkR.mono (fun y hy => ⟨by omega, by omega⟩))) (fun y hy => hBg y (by omega) (by omega)) hcto'
                  have hnewB : CBlk (fun y => M ≤ y ∧ some y ≠ (Value.slice (some ⟨g, 0, none⟩) (k + 1) cap).ownBlock) wF b [.slice A1 b.phis.length d1, .slice A2 b.ins.length d2, .int .i64 b.term.kind, .int .i64 b.term.arg, .slice Ac b.term.to.length cc] :=
                    ⟨_, _, _, _, _, _, rfl, hphF, hinF, htoF, hkd64, har64⟩
                  have hkF : KeptB (fun y => (M ≤ y ∧ some y ≠ u.ownBlock) ∧ y < wo.heap.size) wo wF :=
                    (((hall.kept.mono (fun y hy => ⟨hy.2, by omega⟩)).trans (KeptB.of (kept_alloc wr _))).trans ((keptB_grown hgrowC).mono (fun y hy => hy.1.2))).trans (hkC.mono (fun y hy => by omega))
                  have hrowsF := Rows.push (F := CBlk) (fun _ _ _ _ _ _ h1 h2 h3 => CBlk.go h1 h2 h3) (fun _ _ _ _ h => CBlk.lt h) hrows hkF (u' := .slice (some ⟨g, 0, none⟩) (k + 1) cap) (fun y h1 h2 h3 e => by
                      have hyg : y = g := Option.some.inj e
                      rcases hlocC with h | h
                      · subst hyg; exact h2 h.symm
                      · omega) rfl hnewB
                  rw [← take_succ_of hb.out] at hrowsF
                  have hMF : M ≤ wF.heap.size := by omega
                  have HR := Lib.hid hrowsF
                  have HO := Lib.hid hownF
                  have HG := Lib.hid hgoF
                  have HB := Lib.hid hbF
                  have HE := Lib.hid hregF
                  have HQ := Lib.hid howF
                  have HW := Lib.hid hwF
                  clear hrowsF hownF hgoF hkF hnewB hbF hkC hwF hregF howF hphF hinF htoF hkR hBg hgoC hbM hbMo hgoI
                  go_wp2_with fail
                  rw [← HW.out]
                  go_roundw
                  case rel => exact ⟨k + 1, _, _, by omega, by go_num, HB.out, hMF, HG.out, HE.out, HQ, HO.out, HR.out⟩
                  case measure => simp [intOf]; omega
      · obtain rfl : k = f.blocks.length := by omega
        rw [List.take_of_length_le (Nat.le_refl _)] at hrows
        have hblv : VS wo 5 (RBlkB (fun x => M ≤ x)) u f.blocks := hrows.reads hown (fun g o x c h1 h2 h3 _ h4 => CBlk.reads (B := fun x => M ≤ x) h2 (CBlk.go (KeptB.of (Kept.refl _)) (fun _ h => h.1) h3) h4)
        obtain ⟨A3, d3, rfl, hbl3⟩ := hblv
        clear hrows hown
        have r0 : wo.cell? ⟨w.heap.size + 1, 0, none⟩ = some (.int .i64 0) := hkw _ _ (hc2 0 _ rfl)
        have r1 : wo.cell? ⟨w.heap.size + 1, 1, none⟩ = some (.int .i64 0) := hkw _ _ (hc2 1 _ rfl)
        have r2 : wo.cell? ⟨w.heap.size + 1, 2, none⟩ = some (.slice none 0 0) := hkw _ _ (hc2 2 _ rfl)
        have r3 : wo.cell? ⟨w.heap.size + 1, 3, none⟩ = some (.slice none 0 0) := hkw _ _ (hc2 3 _ rfl)
        have hfr : ∀ i, wo.frozen? ⟨w.heap.size + 1, i, none⟩ = false := fun i => by
          have h1 := hfr2 i
          unfold World.frozen? at h1 ⊢
          rw [hbw.block _ hl2]
          exact h1
        have r4 := hfr 0
        have r5 := hfr 1
        have r6 := hfr 2
        have r7 := hfr 3
        have hbk := (hbw.block _ hl2).trans HBK.out
        go_wp2_with fail
        clear r0 r1 r2 r3 r4 r5 r6 r7
        have hbkF := sets4_block hbk (.int .i64 f.params) (.int .i64 f.result) (.slice Av f.regs.length cv) (.slice A3 f.blocks.length d3)
        have hkF := keptB_sets4 wo (w.heap.size + 1) (.int .i64 f.params) (.int .i64 f.result) (.slice Av f.regs.length cv) (.slice A3 f.blocks.length d3)
        have hwF : Below w.heap.size w ((((wo.setCell ⟨w.heap.size + 1, 0, none⟩ (.int .i64 f.params)).setCell ⟨w.heap.size + 1, 1, none⟩ (.int .i64 f.result)).setCell ⟨w.heap.size + 1, 2, none⟩ (.slice Av f.regs.length cv)).setCell ⟨w.heap.size + 1, 3, none⟩ (.slice A3 f.blocks.length d3)) :=
          ((((hB2.trans (hbw.mono (by omega))).setCell (by show _ ≤ w.heap.size + 1; omega) _).setCell (by show _ ≤ w.heap.size + 1; omega) _).setCell (by show _ ≤ w.heap.size + 1; omega) _).setCell (by show _ ≤ w.heap.size + 1; omega) _
        have howF : ((((wo.setCell ⟨w.heap.size + 1, 0, none⟩ (.int .i64 f.params)).setCell ⟨w.heap.size + 1, 1, none⟩ (.int .i64 f.result)).setCell ⟨w.heap.size + 1, 2, none⟩ (.slice Av f.regs.length cv)).setCell ⟨w.heap.size + 1, 3, none⟩ (.slice A3 f.blocks.length d3)).ownsRow w2.heap.size 3 1 (.slice Av f.regs.length cv) f.regs.length (f.regs.map (Value.int .i64)) :=
          own_block howr.out (fun x hx => sets4_other _ (by have := (howr.out.lt x hx).1; omega) _ _ _ _)
        have hsF : M ≤ ((((wo.setCell ⟨w.heap.size + 1, 0, none⟩ (.int .i64 f.params)).setCell ⟨w.heap.size + 1, 1, none⟩ (.int .i64 f.result)).setCell ⟨w.heap.size + 1, 2, none⟩ (.slice Av f.regs.length cv)).setCell ⟨w.heap.size + 1, 3, none⟩ (.slice A3 f.blocks.length d3)).heap.size := by simpa [World.setCell] using hMw
        generalize ((((wo.setCell ⟨w.heap.size + 1, 0, none⟩ (.int .i64 f.params)).setCell ⟨w.heap.size + 1, 1, none⟩ (.int .i64 f.result)).setCell ⟨w.heap.size + 1, 2, none⟩ (.slice Av f.regs.length cv)).setCell ⟨w.heap.size + 1, 3, none⟩ (.slice A3 f.blocks.length d3)) = wF at *
        refine bodyPost_ret (results_cell_row rfl _ _ (w.heap.size + 1) 43 #[.int .i64 f.params, .int .i64 f.result, .slice Av f.regs.length cv, .slice A3 f.blocks.length d3] (0, 0) _ (by rfl) hbkF Try.underlying43 (by rfl) (by obtain ⟨i, h1, _, h3, _⟩ := info_parts Try.info43; rw [h1]; exact congrArg some h3)) rfl ?_
        refine ⟨⟨_, rfl, _, A3, d3, M, rfl, ⟨by omega, hsF⟩, own_base howF (by omega), HLT.out, ?_, ⟨Av, cv, rfl, ?_⟩, hp64, hr64⟩, hwF⟩
        · exact SBlksB.go (hkF.mono (fun y hy => by omega)) (fun y hy => hy) hbl3
        · exact SIntsB.go (hkF.mono (fun y hy => by omega)) (fun y hy => by omega) hreg

theorem FCopy.cells {n : Nat} {w : World} {f : FunD} {r : Value} (h : FCopy n w f r) : ∃ c0 c1 c2 c3, r = .agg #[c0, c1, c2, c3] ∧ CFun (fun b => n ≤ b) w f [c0, c1, c2, c3] := by
  obtain ⟨ur, Ab, cb, Mid, rfl, hM, -, -, h1, ⟨Ar, cr, rfl, h2⟩, h3, h4⟩ := h
  exact ⟨_, _, _, _, rfl, Ar, cr, Ab, cb, rfl, h2, SBlksB.go (KeptB.of (Kept.refl _)) (fun b hb => by omega) h1, h3, h4⟩
theorem copyFunc_any (f : FunD) (v : Value) (w : World) (hv : VFun w v f) (hsm : SmallF f) :
    Calls Try.prog 26 #[v] w fun e w' => (∃ r, e = .returned r ∧ ∃ c0 c1 c2 c3, r = .agg #[c0, c1, c2, c3] ∧ CFun (fun b => w.heap.size ≤ b) w' f [c0, c1, c2, c3]) ∧ Below w.heap.size w w' :=
  (copyFunc_own f v w hv hsm).mono fun e w' h => by
    obtain ⟨⟨r, he, hr⟩, hb⟩ := h
    exact ⟨⟨r, he, hr.cells⟩, hb⟩
end Go.Proofs.Ytcjmhdneelmbhaa
