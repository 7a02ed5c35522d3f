/- Trim's smaller functions: a block's phis. -/
import Derived.Test.YtooblmiffgjmjaaGrZ
namespace Go.Proofs.Ytooblmiffgjmjaa
open Go.ChangeShapes Go.WideShapes Go.RowKit Go.Deep
set_option linter.unusedVariables false

/-- A block of cells that may be written. -/
def Fz (w : World) (b : Nat) : Prop := ∃ cs t, w.heap[b]? = some (.cells cs t (0, 0))
theorem Fz.lt {w : World} {b : Nat} (h : Fz w b) : b < w.heap.size := by obtain ⟨_, _, h⟩ := h; exact block_lt h
theorem Fz.same {w w' : World} {b : Nat} (h : Fz w b) (e : w'.heap[b]? = w.heap[b]?) : Fz w' b := by obtain ⟨cs, t, h⟩ := h; exact ⟨cs, t, e.trans h⟩
theorem Fz.free {w : World} {b : Nat} (h : Fz w b) (o : Nat) : w.frozen? ⟨b, o, none⟩ = false := by obtain ⟨_, _, h⟩ := h; exact free_of_block h o
theorem Fz.set {w : World} {b : Nat} (h : Fz w b) (g i : Nat) (v : Value) : Fz (w.setCell ⟨g, i, none⟩ v) b := by
  obtain ⟨cs, t, h⟩ := h
  by_cases e : b = g
  · subst e; exact ⟨_, t, set_of_block v h⟩
  · exact ⟨cs, t, (Below.heap_setCell _ _ _ _ e).trans h⟩
theorem Fz.own {w : World} {base n size g : Nat} {e : TypeId} {v : Value} {xs : List Value} (h : w.ownsRow base e size v n xs) (hg : v.ownBlock = some g) : Fz w g := by
  rcases h.2 with ⟨rfl, _⟩ | ⟨g', cap, cur, rfl, _, hh, _⟩
  · cases hg
  · obtain rfl : g' = g := Option.some.inj hg
    exact ⟨_, _, hh⟩
/-- New, and it may be written. -/
def BG (base : Nat) (w : World) (b : Nat) : Prop := base ≤ b ∧ Fz w b
/-- So, and no row's own block. -/
def BF (base : Nat) (u : Value) (w : World) (b : Nat) : Prop := BG base w b ∧ some b ≠ u.ownBlock
theorem BG.below {base base' : Nat} {w w' : World} (h : Below w.heap.size w w') (hb : base' ≤ base) (b : Nat) (hB : BG base w b) : BG base' w' b := ⟨Nat.le_trans hb hB.1, hB.2.same (h.block b hB.2.lt)⟩
theorem keptBG {base : Nat} {w w' : World} (h : Below w.heap.size w w') : KeptB (BG base w) w w' := fun a v hb ha => (World.cell?_of_block (h.block a.block hb.2.lt)).trans ha
/-- A row that the call owns, in blocks that are new. -/
theorem slG_of_own {w : World} {base base' : Nat} {v : Value} {xs : List Int} (h : w.ownsRow base 3 1 v xs.length (xs.map (Value.int .i64))) (hx : ∀ x ∈ xs, I64 x) (hb : base' ≤ base) :
    ∃ A c, v = .slice A xs.length c ∧ SL w 1 (RIntB (BG base' w)) A c xs := by
  obtain ⟨A, c, e, hs⟩ := vs_of_own h hx
  obtain ⟨h1, h2, h3⟩ := hs
  refine ⟨A, c, e, h1, h2, fun hp => ?_⟩
  obtain ⟨b, o, e2, hr⟩ := h3 hp
  have hg : v.ownBlock = some b := by rw [e, e2]; rfl
  exact ⟨b, o, e2, fun i x hi => ⟨⟨Nat.le_trans hb (h.lt b hg).1, Fz.own h hg⟩, hr i x hi⟩⟩
/-- A row of elements grows by one. -/
theorem rows_grow {α : Type} {sz base : Nat} {F : (Nat → Prop) → World → α → List Value → Prop} (Fgo : ∀ (B B' : Nat → Prop) (w w' : World) (x : α) (cs : List Value), KeptB B w w' → (∀ b, B b → B' b) → F B w x cs → F B' w' x cs)
    {w wN : World} {u u' : Value} {l : List α} {cs : List Value} (h : Rows sz (F (BF base u w) w) l cs) (hk : ∀ b, b < w.heap.size → some b ≠ u.ownBlock → wN.heap[b]? = w.heap[b]?)
    (hu : u'.ownBlock = u.ownBlock ∨ ∀ g, u'.ownBlock = some g → w.heap.size ≤ g) {x : α} {c : List Value} (hc : c.length = sz) (hx : F (BF base u' wN) wN x c) : Rows sz (F (BF base u' wN) wN) (l ++ [x]) (cs ++ c) :=
  Rows.snoc hx hc (h.imp fun y d hy => Fgo _ _ _ _ y d (fun a v hb ha => (World.cell?_of_block (hk a.block hb.1.2.lt hb.2)).trans ha) (fun b hb => ⟨⟨hb.1.1, hb.1.2.same (hk b hb.1.2.lt hb.2)⟩, fun e => by
    rcases hu with h | h
    · exact hb.2 (e.trans h)
    · have := h b e.symm; have := hb.1.2.lt; omega⟩) hy)
theorem phis_lt {w : World} {A : Option Addr} {c : Nat} {xs : List PhiD} (h : SL w 2 RPhi A c xs) : ∀ x ∈ xs, I64 x.dst ∧ ∀ y ∈ x.args, I64 y := fun x hx => by
  obtain ⟨i, hi⟩ := List.getElem?_of_mem hx
  obtain ⟨_, _, h3⟩ := h
  obtain ⟨b, o, e, hr⟩ := h3 (by have := (List.getElem?_eq_some_iff.1 hi).1; omega)
  obtain ⟨hd, A', c', -, hs⟩ := hr i x hi
  refine ⟨hd.2, fun y hy => ?_⟩
  obtain ⟨j, hj⟩ := List.getElem?_of_mem hy
  obtain ⟨_, _, h4⟩ := hs
  obtain ⟨b', o', e', hr'⟩ := h4 (by have := (List.getElem?_eq_some_iff.1 hj).1; omega)
  exact (hr' j y hj).2
theorem argsT_len (r : Nat → Bool) (ahead args : List Int) : (argsT r ahead args).length ≤ args.length := by
  unfold argsT; split
  · exact keepA_len _ _ _
  · exact Nat.le_refl _
theorem cphi_go : ∀ (B B' : Nat → Prop) (w w' : World) (x : PhiD) (cs : List Value), KeptB B w w' → (∀ b, B b → B' b) → CPhi B w x cs → CPhi B' w' x cs := fun _ _ _ _ _ _ h1 h2 h3 => CPhi.go h1 h2 h3

def ToldP_ (r : Nat → Bool) (ahead : List Int) (phis : List PhiD) (w : World) (e : Ending) (w' : World) : Prop :=
  (∃ A c, e = .returned (.slice A (phis.map (phiT r ahead)).length c) ∧ SL w' 2 (RPhiB (BG w.heap.size w')) A c (phis.map (phiT r ahead))) ∧ Below w.heap.size w w'

set_option maxRecDepth 100000 in
set_option maxHeartbeats 8000000 in
theorem phisOf_any (H n : Nat) (r : Nat → Bool) (phis : List PhiD) (ahead : List Int) (vp vh : Value) (w : World) (hrow : w.rowIs H 4 n (fun x => .bool (r x))) (hp : VS w 2 RPhi vp phis) (hh : VS w 1 RInt vh ahead)
    (hin : ∀ a ∈ ahead, 0 ≤ a ∧ a < n) (hn : phis.length ≤ 1000) (ha : ∀ p ∈ phis, p.args.length ≤ 1000) :
    Calls Try.prog 33 #[vp, vh, .slice (some ⟨H, 0, none⟩) n n] w (ToldP_ r ahead phis w) := by
  obtain ⟨A, c, rfl, hs⟩ := hp
  have hh0 := hh
  obtain ⟨Ah, ch, rfl, -⟩ := hh
  have hsl := hs.len
  obtain ⟨i0, hi, hz0, hz1, hz2⟩ := info_parts Try.info61
  have HI := Lib.hid (And.intro hi (And.intro hz0 (And.intro hz1 hz2)))
  clear hi hz0 hz1 hz2
  have H64 := Lib.hid (phis_lt hs)
  have HIN := Lib.hid hin
  have HAL := Lib.hid ha
  clear hin ha
  go_enter Try.func33, Try.ntmps33
  go_wp2_with fail
  go_loopw [7, 12] (fun u i wr => ∃ (k : Nat) (cs : List Value), k ≤ phis.length ∧ i = .int .i64 k ∧ Below w.heap.size w wr ∧ wr.ownsRow w.heap.size 61 2 u k cs ∧ Rows 2 (CPhi (BF w.heap.size u wr) wr) ((phis.take k).map (phiT r ahead)) cs) (fun _ i _ => phis.length - (intOf i).toNat)
  case atStart => exact ⟨0, [], Nat.zero_le _, rfl, Below.refl _ _, World.ownsRow_nil _ _ _ _, rfl⟩
  case round =>
    obtain ⟨k, cs, hk, rfl, hb, hown, hrows⟩ := hrel
    have hz := hb.size
    have HB := Lib.hid hb
    have HOW := Lib.hid hown
    have HRW := Lib.hid hrows
    by_cases hlt : k < phis.length
    · obtain ⟨bp, op, p, rfl, hpk, ⟨hpd, -⟩, Aa, ca, hpa, hpas⟩ := (SPhis.keep (kept_of_below hb) hs).at_ hlt
      have hmem := List.mem_of_getElem? hpk.out
      have hal := HAL.out p hmem
      have HP64 := Lib.hid (H64.out p hmem)
      have HT : Hid ((phis.take (k + 1)).map (phiT r ahead) = (phis.take k).map (phiT r ahead) ++ [phiT r ahead p]) := Lib.hid (by rw [take_succ_of hpk.out, List.map_append]; rfl)
      obtain ⟨w1, hw1, hs1, hk1, hb1, hc1, hf1⟩ := named wr #[.int .i64 p.dst, .slice Aa p.args.length ca] 61
      have hbx : w1.heap[wr.heap.size]? = some (.cells #[.int .i64 p.dst, .slice Aa p.args.length ca] 61 (0, 0)) := by rw [hw1]; exact heap_alloc_new _ _
      have hpl := hpas.len
      clear hb hown hrows hmem
      go_upto_region 5 with fail
      rw [← hw1]
      clear hpd hpa hw1 hc1 hf1
      have x1 := cell_of_block hbx 1
      have xf1 := free_of_block hbx 1
      obtain ⟨P, hP⟩ : ∃ P, P = wr.heap.size := ⟨_, rfl⟩
      rw [← hP] at hbx x1 xf1 hs1 ⊢
      have HPP := Lib.hid hP
      have HB1 : Hid (Below w.heap.size w w1) := Lib.hid (HB.out.trans (hb1.mono hz))
      have HBP1 := Lib.hid hb1
      have HA := Lib.hid (argsOf_any H n r p.args ahead (.slice Aa p.args.length ca) _ w1 (hrow.of_block (HB1.out.block H hrow.lt)) ⟨Aa, ca, rfl, SInts.keep hk1 hpas⟩ (VInts.keep (kept_of_below HB1.out) hh0) HIN.out (by omega))
      clear hP hb1 hk1 hpas
      go_wp2_with fail
      refine HA.out.mono ?_
      rintro e w2 ⟨⟨va, rfl, ho⟩, hb2⟩
      obtain ⟨A2, c2, rfl, hs2⟩ := slG_of_own ho (fun x hx => HP64.out.2 x (argsT_mem hx)) (base' := w.heap.size) HB1.out.size
      have hz2 := hb2.size
      have hbx2 := (hb2.block P (by omega)).trans hbx
      have y1 := cell_of_block hbx2 1
      have yf1 := free_of_block hbx2 1
      have hbx3 := set_of_block (i := 1) (.slice A2 (argsT r ahead p.args).length c2) hbx2
      have hk3 : KeptB (BG w1.heap.size w2) w2 (w2.setCell ⟨P, 1, none⟩ (.slice A2 (argsT r ahead p.args).length c2)) := fun a v hb ha => (World.cell?_of_block (Below.heap_setCell _ _ _ _ (by show a.block ≠ P; have := hb.1; omega))).trans ha
      have hs3 : SL (w2.setCell ⟨P, 1, none⟩ (.slice A2 (argsT r ahead p.args).length c2)) 1 (RIntB (fun b => BG w1.heap.size (w2.setCell ⟨P, 1, none⟩ (.slice A2 (argsT r ahead p.args).length c2)) b)) A2 c2 (argsT r ahead p.args) := by
        obtain ⟨A2', c2', e2, hs2'⟩ := slG_of_own ho (fun x hx => HP64.out.2 x (argsT_mem hx)) (base' := w1.heap.size) (Nat.le_refl _)
        cases e2
        exact SIntsB.go hk3 (fun b hb => ⟨hb.1, hb.2.set _ _ _⟩) hs2'
      have HB3 : Hid (Below w.heap.size w (w2.setCell ⟨P, 1, none⟩ (.slice A2 (argsT r ahead p.args).length c2))) := Lib.hid ((HB1.out.trans (hb2.mono HB1.out.size)).setCell (by show w.heap.size ≤ P; rw [HPP.out]; exact hz) _)
      have HBP3 : Hid (Below wr.heap.size wr (w2.setCell ⟨P, 1, none⟩ (.slice A2 (argsT r ahead p.args).length c2))) := Lib.hid ((HBP1.out.trans (hb2.mono HBP1.out.size)).setCell (by show wr.heap.size ≤ P; rw [HPP.out]; exact Nat.le_refl _) _)
      have hz3 : w1.heap.size ≤ (w2.setCell ⟨P, 1, none⟩ (.slice A2 (argsT r ahead p.args).length c2)).heap.size := by simpa using hz2
      clear x1 xf1 ho hb2 hs2 hk3 hbx hbx2 hz2
      go_upto_region 6 with fail
      clear y1 yf1
      have HS3 := Lib.hid hs3
      have hlen3 := argsT_len r ahead p.args
      have HPT : Hid (phiT r ahead p = ⟨p.dst, argsT r ahead p.args⟩) := Lib.hid rfl
      clear hs3
      generalize w2.setCell ⟨P, 1, none⟩ (.slice A2 (argsT r ahead p.args).length c2) = w3 at *
      have u0 : w3.cell? ⟨P, 0, none⟩ = some (.int .i64 p.dst) := cell_of_block hbx3 0
      have u1 : w3.cell? ⟨P, 1, none⟩ = some (.slice A2 (argsT r ahead p.args).length c2) := cell_of_block hbx3 1
      have HOW3 := Lib.hid (ownsRow_block (w' := w3) HOW.out (fun g hg => HBP3.out.block g (HOW.out.lt g hg).2))
      have HZ3 := Lib.hid hz3
      have HS1 := Lib.hid hs1
      clear hbx3 hz3 hs1
      go_wp2_with (at_builtin; refine wpList_append_lies _ rfl (.tmp 22) (.tmp 24) 46 rfl w.heap.size 61 i0 (.agg #[.int .i64 0, .slice none 0 0]) 2 32 Try.underlying46 HI.out.1 HI.out.2.1 HI.out.2.2.1 HI.out.2.2.2 (by rfl) (by decide) _ _ _ rfl (HOW3.out.alloc _) ⟨w3.heap.size, 0, none⟩ 1 1 [.int .i64 p.dst, .slice A2 (argsT r ahead p.args).length c2] rfl rfl ?c1 ?c2 ?c0 ?c3 ?c4 ?c5 (w3.heap.size + 1) ?c6 ?_)
      case c1 => exact news_cells w3 #[.int .i64 p.dst, .slice A2 (argsT r ahead p.args).length c2] _ rfl
      case c2 => intro u hu; simp only [List.mem_cons, List.not_mem_nil, or_false] at hu; rcases hu with rfl | rfl <;> rfl
      case c0 => omega
      case c3 => unfold maxLen; omega
      case c4 => omega
      case c5 => have := HB3.out.size; simp; omega
      case c6 => simp
      intro g cap w4 hown4 hgrow4 hloc4 hlt4
      have hbel4 : Below w.heap.size w w4 := (HB3.out.alloc HB3.out.size _).grown hgrow4 (by have := HB3.out.size; simp; omega) (fun g hg => (HOW.out.lt g hg).1)
      have hsame : ∀ b, b < w3.heap.size → some b ≠ (Value.ownBlock _) → w4.heap[b]? = w3.heap[b]? := fun b hb hne => (hgrow4.block b (by simp; omega) hne).trans (Below.heap_alloc _ _ _ hb)
      have hz0 := HBP3.out.size
      have hrows4 : Rows 2 (CPhi (BF w.heap.size (.slice (some ⟨g, 0, none⟩) (k + 1) cap) w4) w4) ((phis.take (k + 1)).map (phiT r ahead)) (cs ++ [.int .i64 p.dst, .slice A2 (argsT r ahead p.args).length c2]) := by
        rw [HT.out]
        refine rows_grow (F := CPhi) cphi_go HRW.out (fun b hb hne => (hsame b (by omega) hne).trans (HBP3.out.block b hb)) ?_ rfl ?_
        · rcases hloc4 with h | h
          · exact .inl h.symm
          · right; intro g' hg'; have : g = g' := Option.some.inj hg'; omega
        · refine ⟨A2, c2, rfl, ?_, HP64.out.1⟩
          have hz1 := HS1.out
          have hPw := HPP.out
          refine SIntsB.go (B := BG w1.heap.size w3) (fun a v hb ha => (World.cell?_of_block (hsame a.block hb.2.lt (fun e => by have := (HOW.out.lt _ e.symm).2; have := hb.1; omega))).trans ha) (fun b hb => ⟨⟨by have := HB1.out.size; have := hb.1; omega, hb.2.same (hsame b hb.2.lt (fun e => by have := (HOW.out.lt _ e.symm).2; have := hb.1; omega))⟩, fun e => ?_⟩) HS3.out
          have hbg : b = g := Option.some.inj e
          have hb1 := hb.1
          have hb2 := hb.2.lt
          rcases hloc4 with h | h
          · have := (HOW.out.lt _ h).2; omega
          · omega
      have HB4 := Lib.hid hbel4
      have HO4 : Hid (w4.ownsRow w.heap.size 61 2 (.slice (some ⟨g, 0, none⟩) (k + 1) cap) (k + 1) (cs ++ [.int .i64 p.dst, .slice A2 (argsT r ahead p.args).length c2])) := Lib.hid hown4
      have HR4 := Lib.hid hrows4
      clear hown4 hgrow4 hloc4 hbel4 hsame hrows4 u0 u1 hz0
      go_wp2_with fail
      go_roundw
      case rel => exact ⟨k + 1, _, by omega, by go_num, HB4.out, HO4.out, HR4.out⟩
      case measure => simp [intOf]; omega
    · have hkk : phis.take k = phis := List.take_of_length_le (by omega)
      have hkl : k = (phis.map (phiT r ahead)).length := by simp; omega
      rw [hkk] at hrows
      rw [hkl] at hown
      have hrd := hrows.reads (R := RPhiB (BG w.heap.size wr)) hown (fun g o x c hg hb hx hc hcell => CPhi.reads ⟨hb, Fz.own hown hg⟩ (CPhi.go (fun _ _ _ h => h) (fun b hb => hb.1) hx) hcell)
      obtain ⟨Ar, cr, hu, hrs⟩ := hrd
      have HRS := Lib.hid hrs
      have HU := Lib.hid hu
      clear hb hown hrows hrs hu hkl hkk
      go_wp2_with fail
      go_ret
      exact ⟨⟨Ar, cr, by exact congrArg Ending.returned HU.out, HRS.out⟩, HB.out⟩
end Go.Proofs.Ytooblmiffgjmjaa
