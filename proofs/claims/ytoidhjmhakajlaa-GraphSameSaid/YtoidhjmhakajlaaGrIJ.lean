/- Trim's smaller functions: a block's phis. -/
import Derived.Test.YtoidhjmhakajlaaGrZJ
import Derived.Test.YtoidhjmhakajlaaGrMJ
namespace Go.Proofs.Ytoidhjmhakajlaa
open Go.ChangeShapes Go.WideShapes Go.RowKit Go.Deep
set_option linter.unusedVariables false

/-- A block of cells that may be written. -/
def Fz (w : World) (b : Nat) : Prop := ∃ cs t, w.heap[b]? = some (.cells cs t (0, 0))
theorem Fz.lt {w : World} {b : Nat} (h : Fz w b) : b < w.heap.size := by obtain ⟨_, _, h⟩ := h; exact block_lt h
theorem Fz.same {w w' : World} {b : Nat} (h : Fz w b) (e : w'.heap[b]? = w.heap[b]?) : Fz w' b := by obtain ⟨cs, t, h⟩ := h; exact ⟨cs, t, e.trans h⟩
theorem Fz.free {w : World} {b : Nat} (h : Fz w b) (o : Nat) : w.frozen? ⟨b, o, none⟩ = false := by obtain ⟨_, _, h⟩ := h; exact free_of_block h o
theorem Fz.set {w : World} {b : Nat} (h : Fz w b) (g i : Nat) (v : Value) : Fz (w.setCell ⟨g, i, none⟩ v) b := by
  obtain ⟨cs, t, h⟩ := h
  by_cases e : b = g
  · subst e; exact ⟨_, t, set_of_block v h⟩
  · exact ⟨cs, t, (Below.heap_setCell _ _ _ _ e).trans h⟩
theorem Fz.own {w : World} {base n size g : Nat} {e : TypeId} {v : Value} {xs : List Value} (h : w.ownsRow base e size v n xs) (hg : v.ownBlock = some g) : Fz w g := by
  rcases h.2 with ⟨rfl, _⟩ | ⟨g', cap, cur, rfl, _, hh, _⟩
  · cases hg
  · obtain rfl : g' = g := Option.some.inj hg
    exact ⟨_, _, hh⟩
/-- New, and it may be written. -/
def BG (base : Nat) (w : World) (b : Nat) : Prop := base ≤ b ∧ Fz w b
/-- So, and no row's own block. -/
def BF (base : Nat) (u : Value) (w : World) (b : Nat) : Prop := BG base w b ∧ some b ≠ u.ownBlock
theorem BG.below {base base' : Nat} {w w' : World} (h : Below w.heap.size w w') (hb : base' ≤ base) (b : Nat) (hB : BG base w b) : BG base' w' b := ⟨Nat.le_trans hb hB.1, hB.2.same (h.block b hB.2.lt)⟩
theorem keptBG {base : Nat} {w w' : World} (h : Below w.heap.size w w') : KeptB (BG base w) w w' := fun a v hb ha => (World.cell?_of_block (h.block a.block hb.2.lt)).trans ha
/-- A row that the call owns, in blocks that are new. -/
theorem slG_of_own {w : World} {base base' : Nat} {v : Value} {xs : List Int} (h : w.ownsRow base 3 1 v xs.length (xs.map (Value.int .i64))) (hx : ∀ x ∈ xs, I64 x) (hb : base' ≤ base) :
    ∃ A c, v = .slice A xs.length c ∧ SL w 1 (RIntB (BG base' w)) A c xs := by
  obtain ⟨A, c, e, hs⟩ := vs_of_own h hx
  obtain ⟨h1, h2, h3⟩ := hs
  refine ⟨A, c, e, h1, h2, fun hp => ?_⟩
  obtain ⟨b, o, e2, hr⟩ := h3 hp
  have hg : v.ownBlock = some b := by rw [e, e2]; rfl
  exact ⟨b, o, e2, fun i x hi => ⟨⟨Nat.le_trans hb (h.lt b hg).1, Fz.own h hg⟩, hr i x hi⟩⟩
/-- A row of elements grows by one. -/
theorem rows_grow {α : Type} {sz base : Nat} {F : (Nat → Prop) → World → α → List Value → Prop} (Fgo : ∀ (B B' : Nat → Prop) (w w' : World) (x : α) (cs : List Value), KeptB B w w' → (∀ b, B b → B' b) → F B w x cs → F B' w' x cs)
    {w wN : World} {u u' : Value} {l : List α} {cs : List Value} (h : Rows sz (F (BF base u w) w) l cs) (hk : ∀ b, b < w.heap.size → some b ≠ u.ownBlock → wN.heap[b]? = w.heap[b]?)
    (hu : u'.ownBlock = u.ownBlock ∨ ∀ g, u'.ownBlock = some g → w.heap.size ≤ g) {x : α} {c : List Value} (hc : c.length = sz) (hx : F (BF base u' wN) wN x c) : Rows sz (F (BF base u' wN) wN) (l ++ [x]) (cs ++ c) :=
  Rows.snoc hx hc (h.imp fun y d hy => Fgo _ _ _ _ y d (fun a v hb ha => (World.cell?_of_block (hk a.block hb.1.2.lt hb.2)).trans ha) (fun b hb => ⟨⟨hb.1.1, hb.1.2.same (hk b hb.1.2.lt hb.2)⟩, fun e => by
    rcases hu with h | h
    · exact hb.2 (e.trans h)
    · have := h b e.symm; have := hb.1.2.lt; omega⟩) hy)
theorem phis_lt {w : World} {A : Option Addr} {c : Nat} {xs : List PhiD} (h : SL w 2 RPhi A c xs) : ∀ x ∈ xs, I64 x.dst ∧ ∀ y ∈ x.args, I64 y := fun x hx => by
  obtain ⟨i, hi⟩ := List.getElem?_of_mem hx
  obtain ⟨_, _, h3⟩ := h
  obtain ⟨b, o, e, hr⟩ := h3 (by have := (List.getElem?_eq_some_iff.1 hi).1; omega)
  obtain ⟨hd, A', c', -, hs⟩ := hr i x hi
  refine ⟨hd.2, fun y hy => ?_⟩
  obtain ⟨j, hj⟩ := List.getElem?_of_mem hy
  obtain ⟨_, _, h4⟩ := hs
  obtain ⟨b', o', e', hr'⟩ := h4 (by have := (List.getElem?_eq_some_iff.1 hj).1; omega)
  exact (hr' j y hj).2
theorem argsT_len (r : Nat → Bool) (ahead args : List Int) : (argsT r ahead args).length ≤ args.length := by
  unfold argsT; split
  · exact keepA_len _ _ _
  · exact Nat.le_refl _
theorem cphi_go : ∀ (B B' : Nat → Prop) (w w' : World) (x : PhiD) (cs : List Value), KeptB B w w' → (∀ b, B b → B' b) → CPhi B w x cs → CPhi B' w' x cs := fun _ _ _ _ _ _ h1 h2 h3 => CPhi.go h1 h2 h3

def ToldP_ (r : Nat → Bool) (ahead : List Int) (phis : List PhiD) (w : World) (e : Ending) (w' : World) : Prop :=
  (∃ A c, e = .returned (.slice A (phis.map (phiT r ahead)).length c) ∧ SL w' 2 (RPhiB (BG w.heap.size w')) A c (phis.map (phiT r ahead))) ∧ Below w.heap.size w w'

set_option maxRecDepth 100000 in
set_option maxHeartbeats 8000000 in
theorem phisOf_any (H n : Nat) (r : Nat → Bool) (phis : List PhiD) (ahead : List Int) (vp vh : Value) (w : World) (hrow : w.rowIs H 4 n (fun x => .bool (r x))) (hp : VS w 2 RPhi vp phis) (hh : VS w 1 RInt vh ahead)
    (hin : ∀ a ∈ ahead, 0 ≤ a ∧ a < n) (hn : phis.length ≤ 1000) (ha : ∀ p ∈ phis, p.args.length ≤ 1000) :
    Calls Try.prog 30 #[vp, vh, .slice (some ⟨H, 0, none⟩) n n] w (ToldP_ r ahead phis w) := by
  obtain ⟨A, c, rfl, hs⟩ := hp
  have hh0 := hh
  obtain ⟨Ah, ch, rfl, -⟩ := hh
  have hsl := hs.len
  obtain ⟨i0, hi, hz0, hz1, hz2⟩ := info_parts Try.info60
  have HI := Lib.hid (And.intro hi (And.intro hz0 (And.intro hz1 hz2)))
  clear hi hz0 hz1 hz2
  have H64 := Lib.hid (phis_lt hs)
  have HIN := Lib.hid hin
  have HAL := Lib.hid ha
  clear hin ha
  go_enter Try.func30, Try.ntmps30
  go_wp2_with fail
  go_loopw [7, 12] (fun u i wr => ∃ (k : Nat) (cs : List Value), k ≤ phis.length ∧ i = .int .i64 k ∧ Below w.heap.size w wr ∧ wr.ownsRow w.heap.size 60 2 u k cs ∧ Rows 2 (CPhi (BF w.heap.size u wr) wr) ((phis.take k).map (phiT r ahead)) cs) (fun _ i _ => phis.length - (intOf i).toNat)
  case atStart => exact ⟨0, [], Nat.zero_le _, rfl, Below.refl _ _, World.ownsRow_nil _ _ _ _, rfl⟩
  case round =>
    obtain ⟨k, cs, hk, rfl, hb, hown, hrows⟩ := hrel
    have hz := hb.size
    have HB := Lib.hid hb
    have HOW := Lib.hid hown
    have HRW := Lib.hid hrows
    by_cases hlt : k < phis.length
    · obtain ⟨bp, op, p, rfl, hpk, ⟨hpd, -⟩, Aa, ca, hpa, hpas⟩ := (SPhis.keep (kept_of_below hb) hs).at_ hlt
      have hmem := List.mem_of_getElem? hpk.out
      have hal := HAL.out p hmem
      have HP64 := Lib.hid (H64.out p hmem)
      have HT : Hid ((phis.take (k + 1)).map (phiT r ahead) = (phis.take k).map (phiT r ahead) ++ [phiT r ahead p]) := Lib.hid (by rw [take_succ_of hpk.out, List.map_append]; rfl)
      obtain ⟨w1, hw1, hs1, hk1, hb1, hc1, hf1⟩ := named wr #[.int .i64 p.dst, .slice Aa p.args.length ca] 60
      have hbx : w1.heap[wr.heap.size]? = some (.cells #[.int .i64 p.dst, .slice Aa p.args.length ca] 60 (0, 0)) := by rw [hw1]; exact heap_alloc_new _ _
      have hpl := hpas.len
      clear hb hown hrows hmem
      go_upto_region 5 with fail
      rw [← hw1]
      clear hpd hpa hw1 hc1 hf1
      have x1 := cell_of_block hbx 1
      have xf1 := free_of_block hbx 1
      obtain ⟨P, hP⟩ : ∃ P, P = wr.heap.size := ⟨_, rfl⟩
      rw [← hP] at hbx x1 xf1 hs1 ⊢
      have HPP := Lib.hid hP
      have HB1 : Hid (Below w.heap.size w w1) := Lib.hid (HB.out.trans (hb1.mono hz))
      have HBP1 := Lib.hid hb1
      have HA := Lib.hid (argsOf_any H n r p.args ahead (.slice Aa p.args.length ca) _ w1 (hrow.of_block (HB1.out.block H hrow.lt)) ⟨Aa, ca, rfl, SInts.keep hk1 hpas⟩ (VInts.keep (kept_of_below HB1.out) hh0) HIN.out (by omega))
      clear hP hb1 hk1 hpas
      go_wp2_with fail
      refine HA.out.mono ?_
      rintro e w2 ⟨⟨va, rfl, ho⟩, hb2⟩
      obtain ⟨A2, c2, rfl, hs2⟩ := slG_of_own ho (fun x hx => HP64.out.2 x (argsT_mem hx)) (base' := w.heap.size) HB1.out.size
      have hz2 := hb2.size
      have hbx2 := (hb2.block P (by omega)).trans hbx
      have y1 := cell_of_block hbx2 1
      have yf1 := free_of_block hbx2 1
      have hbx3 := set_of_block (i := 1) (.slice A2 (argsT r ahead p.args).length c2) hbx2
      have hk3 : KeptB (BG w1.heap.size w2) w2 (w2.setCell ⟨P, 1, none⟩ (.slice A2 (argsT r ahead p.args).length c2)) := fun a v hb ha => (World.cell?_of_block (Below.heap_setCell _ _ _ _ (by show a.block ≠ P; have := hb.1; omega))).trans ha
      have hs3 : SL (w2.setCell ⟨P, 1, none⟩ (.slice A2 (argsT r ahead p.args).length c2)) 1 (RIntB (fun b => BG w1.heap.size (w2.setCell ⟨P, 1, none⟩ (.slice A2 (argsT r ahead p.args).length c2)) b)) A2 c2 (argsT r ahead p.args) := by
        obtain ⟨A2', c2', e2, hs2'⟩ := slG_of_own ho (fun x hx => HP64.out.2 x (argsT_mem hx)) (base' := w1.heap.size) (Nat.le_refl _)
        cases e2
        exact SIntsB.go hk3 (fun b hb => ⟨hb.1, hb.2.set _ _ _⟩) hs2'
      have HB3 : Hid (Below w.heap.size w (w2.setCell ⟨P, 1, none⟩ (.slice A2 (argsT r ahead p.args).length c2))) := Lib.hid ((HB1.out.trans (hb2.mono HB1.out.size)).setCell (by show w.heap.size ≤ P; rw [HPP.out]; exact hz) _)
      have HBP3 : Hid (Below wr.heap.size wr (w2.setCell ⟨P, 1, none⟩ (.slice A2 (argsT r ahead p.args).length c2))) := Lib.hid ((HBP1.out.trans (hb2.mono HBP1.out.size)).setCell (by show wr.heap.size ≤ P; rw [HPP.out]; exact Nat.le_refl _) _)
      have hz3 : w1.heap.size ≤ (w2.setCell ⟨P, 1, none⟩ (.slice A2 (argsT r ahead p.args).length c2)).heap.size := by simpa using hz2
      clear x1 xf1 ho hb2 hs2 hk3 hbx hbx2 hz2
      go_upto_region 6 with fail
      clear y1 yf1
      have HS3 := Lib.hid hs3
      have hlen3 := argsT_len r ahead p.args
      have HPT : Hid (phiT r ahead p = ⟨p.dst, argsT r ahead p.args⟩) := Lib.hid rfl
      clear hs3
      generalize w2.setCell ⟨P, 1, none⟩ (.slice A2 (argsT r ahead p.args).length c2) = w3 at *
      have u0 : w3.cell? ⟨P, 0, none⟩ = some (.int .i64 p.dst) := cell_of_block hbx3 0
      have u1 : w3.cell? ⟨P, 1, none⟩ = some (.slice A2 (argsT r ahead p.args).length c2) := cell_of_block hbx3 1
      have HOW3 := Lib.hid (ownsRow_block (w' := w3) HOW.out (fun g hg => HBP3.out.block g (HOW.out.lt g hg).2))
      have HZ3 := Lib.hid hz3
      have HS1 := Lib.hid hs1
      clear hbx3 hz3 hs1
      go_wp2_with (at_builtin; refine wpList_append_lies _ rfl (.tmp 22) (.tmp 24) 45 rfl w.heap.size 60 i0 (.agg #[.int .i64 0, .slice none 0 0]) 2 32 Try.underlying45 HI.out.1 HI.out.2.1 HI.out.2.2.1 HI.out.2.2.2 (by rfl) (by decide) _ _ _ rfl (HOW3.out.alloc _) ⟨w3.heap.size, 0, none⟩ 1 1 [.int .i64 p.dst, .slice A2 (argsT r ahead p.args).length c2] rfl rfl ?c1 ?c2 ?c0 ?c3 ?c4 ?c5 (w3.heap.size + 1) ?c6 ?_)
      case c1 => exact news_cells w3 #[.int .i64 p.dst, .slice A2 (argsT r ahead p.args).length c2] _ rfl
      case c2 => intro u hu; simp only [List.mem_cons, List.not_mem_nil, or_false] at hu; rcases hu with rfl | rfl <;> rfl
      case c0 => omega
      case c3 => unfold maxLen; omega
      case c4 => omega
      case c5 => have := HB3.out.size; simp; omega
      case c6 => simp
      intro g cap w4 hown4 hgrow4 hloc4 hlt4
      have hbel4 : Below w.heap.size w w4 := (HB3.out.alloc HB3.out.size _).grown hgrow4 (by have := HB3.out.size; simp; omega) (fun g hg => (HOW.out.lt g hg).1)
      have hsame : ∀ b, b < w3.heap.size → some b ≠ (Value.ownBlock _) → w4.heap[b]? = w3.heap[b]? := fun b hb hne => (hgrow4.block b (by simp; omega) hne).trans (Below.heap_alloc _ _ _ hb)
      have hz0 := HBP3.out.size
      have hrows4 : Rows 2 (CPhi (BF w.heap.size (.slice (some ⟨g, 0, none⟩) (k + 1) cap) w4) w4) ((phis.take (k + 1)).map (phiT r ahead)) (cs ++ [.int .i64 p.dst, .slice A2 (argsT r ahead p.args).length c2]) := by
        rw [HT.out]
        refine rows_grow (F := CPhi) cphi_go HRW.out (fun b hb hne => (hsame b (by omega) hne).trans (HBP3.out.block b hb)) ?_ rfl ?_
        · rcases hloc4 with h | h
          · exact .inl h.symm
          · right; intro g' hg'; have : g = g' := Option.some.inj hg'; omega
        · refine ⟨A2, c2, rfl, ?_, HP64.out.1⟩
          have hz1 := HS1.out
          have hPw := HPP.out
          refine SIntsB.go (B := BG w1.heap.size w3) (fun a v hb ha => (World.cell?_of_block (hsame a.block hb.2.lt (fun e => by have := (HOW.out.lt _ e.symm).2; have := hb.1; omega))).trans ha) (fun b hb => ⟨⟨by have := HB1.out.size; have := hb.1; omega, hb.2.same (hsame b hb.2.lt (fun e => by have := (HOW.out.lt _ e.symm).2; have := hb.1; omega))⟩, fun e => ?_⟩) HS3.out
          have hbg : b = g := Option.some.inj e
          have hb1 := hb.1
          have hb2 := hb.2.lt
          rcases hloc4 with h | h
          · have := (HOW.out.lt _ h).2; omega
          · omega
      have HB4 := Lib.hid hbel4
      have HO4 : Hid (w4.ownsRow w.heap.size 60 2 (.slice (some ⟨g, 0, none⟩) (k + 1) cap) (k + 1) (cs ++ [.int .i64 p.dst, .slice A2 (argsT r ahead p.args).length c2])) := Lib.hid hown4
      have HR4 := Lib.hid hrows4
      clear hown4 hgrow4 hloc4 hbel4 hsame hrows4 u0 u1 hz0
      go_wp2_with fail
      go_roundw
      case rel => exact ⟨k + 1, _, by omega, by go_num, HB4.out, HO4.out, HR4.out⟩
      case measure => simp [intOf]; omega
    · have hkk : phis.take k = phis := List.take_of_length_le (by omega)
      have hkl : k = (phis.map (phiT r ahead)).length := by simp; omega
      rw [hkk] at hrows
      rw [hkl] at hown
      have hrd := hrows.reads (R := RPhiB (BG w.heap.size wr)) hown (fun g o x c hg hb hx hc hcell => CPhi.reads ⟨hb, Fz.own hown hg⟩ (CPhi.go (fun _ _ _ h => h) (fun b hb => hb.1) hx) hcell)
      obtain ⟨Ar, cr, hu, hrs⟩ := hrd
      have HRS := Lib.hid hrs
      have HU := Lib.hid hu
      clear hb hown hrows hrs hu hkl hkk
      go_wp2_with fail
      go_ret
      exact ⟨⟨Ar, cr, by exact congrArg Ending.returned HU.out, HRS.out⟩, HB.out⟩
end Go.Proofs.Ytoidhjmhakajlaa

/- A trimmed function is small if it was. -/
namespace Go.Proofs.Ytoidhjmhakajlaa
open Go.ChangeShapes Go.WideShapes Go.RowKit Go.Deep
set_option linter.unusedVariables false

theorem small_trim {f : FunD} (h : SmallF f) : SmallF (trimF f) := by
  refine ⟨Nat.le_trans (blksT_few _) h.1, h.2.1, h.2.2.1, fun b hb => ?_⟩
  have hb : b ∈ blksT f.blocks := hb
  unfold blksT blksK at hb
  obtain ⟨p, hp, hpb⟩ := List.mem_filterMap.1 hb
  split at hpb
  · obtain rfl := Option.some.inj hpb
    obtain ⟨i, hi⟩ := List.getElem?_of_mem hp
    have hpm : p.1 ∈ f.blocks := by
      have := List.mem_of_mem_take hp
      obtain ⟨i, hi⟩ := List.getElem?_of_mem this
      rw [List.getElem?_zipIdx] at hi
      obtain ⟨y, hy, rfl⟩ := Option.map_eq_some_iff.1 hi
      exact List.mem_of_getElem? hy
    obtain ⟨h1, h2, h3, h4, h5⟩ := h.2.2.2 _ hpm
    refine ⟨h1, by simpa [blkT] using h2, by simpa [blkT] using h3, h4, fun x hx => ?_⟩
    have hx : x ∈ p.1.phis.map (phiT (reachF f.blocks) (aheadL f.blocks p.2)) := hx
    obtain ⟨y, hy, rfl⟩ := List.mem_map.1 hx
    exact Nat.le_trans (argsT_len _ _ _) (h5 y hy)
  · cases hpb

end Go.Proofs.Ytoidhjmhakajlaa

/- Trim's smaller functions: a block's instructions in new memory. -/
namespace Go.Proofs.Ytoidhjmhakajlaa
open Go.ChangeShapes Go.WideShapes Go.RowKit Go.Deep
set_option linter.unusedVariables false

theorem rows_len_ {α : Type} {sz : Nat} {F : α → List Value → Prop} : ∀ {l : List α} {cs : List Value}, Rows sz F l cs → cs.length = l.length * sz
  | [], cs, h => by rw [show cs = [] from h]; simp
  | x :: l, cs, ⟨c, r, e, h1, _, h3⟩ => by rw [e, List.length_append, h1, rows_len_ h3, List.length_cons, Nat.succ_mul]; omega
theorem cins_of {w : World} {b o : Nat} {x : InsD} (h : RIns w b o x) : ∃ cs, cs.length = 5 ∧ CIns (fun _ => True) w x cs ∧ (∀ j u, cs[j]? = some u → w.cell? ⟨b, o + j, none⟩ = some u) ∧ ∀ u ∈ cs, u.oneCell' = true := by
  obtain ⟨⟨h0, g0⟩, ⟨h1, g1⟩, ⟨A, c, h2, hs⟩, ⟨h3, g3⟩, ⟨h4, g4⟩⟩ := h
  refine ⟨[.int .i64 x.op, .int .i64 x.dst, .slice A x.args.length c, .int .i64 x.imm, .int .i64 x.fn], rfl, ⟨A, c, rfl, SL.imp (fun b o y hy => ⟨trivial, hy⟩) hs, g0, g1, g3, g4⟩, fun j u hu => ?_, fun u hu => ?_⟩
  · match j, hu with
    | 0, hu => obtain rfl := Option.some.inj hu; exact h0
    | 1, hu => obtain rfl := Option.some.inj hu; exact h1
    | 2, hu => obtain rfl := Option.some.inj hu; exact h2
    | 3, hu => obtain rfl := Option.some.inj hu; exact h3
    | 4, hu => obtain rfl := Option.some.inj hu; exact h4
  · simp only [List.mem_cons, List.not_mem_nil, or_false] at hu
    rcases hu with rfl | rfl | rfl | rfl | rfl <;> rfl
theorem ins_news {w : World} {b : Nat} : ∀ (xs : List InsD) (o : Nat), (∀ i x, xs[i]? = some x → RIns w b (o + i * 5) x) →
    ∃ cs, Rows 5 (CIns (fun _ => True) w) xs cs ∧ (∀ j u, cs[j]? = some u → w.cell? ⟨b, o + j, none⟩ = some u) ∧ ∀ u ∈ cs, u.oneCell' = true
  | [], o, _ => ⟨[], rfl, fun j u h => by simp at h, fun u h => by simp at h⟩
  | x :: xs, o, h => by
    obtain ⟨c, hl, hc, hcell, hone⟩ := cins_of (by simpa using h 0 x rfl)
    obtain ⟨cs, hr, hcell2, hone2⟩ := ins_news xs (o + 5) (fun i y hy => by have := h (i + 1) y (by simpa using hy); rwa [show o + (i + 1) * 5 = o + 5 + i * 5 by omega] at this)
    refine ⟨c ++ cs, ⟨c, cs, rfl, hl, hc, hr⟩, fun j u hu => ?_, fun u hu => ?_⟩
    · by_cases hj : j < 5
      · rw [List.getElem?_append_left (by omega)] at hu; exact hcell j u hu
      · rw [List.getElem?_append_right (by omega), hl] at hu
        have := hcell2 (j - 5) u hu
        rwa [show o + 5 + (j - 5) = o + j by omega] at this
    · rcases List.mem_append.1 hu with hu | hu
      · exact hone u hu
      · exact hone2 u hu

def ToldCI (xs : List InsD) (w : World) (e : Ending) (w' : World) : Prop :=
  (∃ v cs, e = .returned v ∧ w'.ownsRow w.heap.size 41 5 v xs.length cs ∧ Rows 5 (CIns (fun b => b < w.heap.size) w') xs cs) ∧ Below w.heap.size w w'

set_option maxRecDepth 100000 in
theorem cloneIns_any (xs : List InsD) (v : Value) (w : World) (hv : VS w 5 RIns v xs) (hn : xs.length ≤ 1000) : Calls Try.prog 45 #[v] w (ToldCI xs w) := by
  obtain ⟨A, c, rfl, hs⟩ := hv
  cases A with
  | none =>
    obtain rfl : xs = [] := by
      rcases Nat.eq_zero_or_pos xs.length with h0 | h0
      · exact List.length_eq_zero_iff.1 h0
      · obtain ⟨b, o, e, _⟩ := hs.2.2 h0; cases e
    obtain rfl : c = 0 := hs.2.1.2 rfl
    clear hs
    have heq := Lib.run_eql_slice_nil (P := Try.prog) w 44 41 none 0 0 0 0 Try.underlying44
    go_enter Try.func45, Try.ntmps45
    go_wp2_with (simp only [heq, Option.isNone])
    go_ret
    exact ⟨⟨_, [], rfl, World.ownsRow_nil _ _ _ _, rfl⟩, Below.refl _ _⟩
  | some ad =>
    have heq := Lib.run_eql_slice_nil (P := Try.prog) w 44 41 (some ad) xs.length c 0 0 Try.underlying44
    obtain ⟨i5, p1, p2, p3, p4⟩ := info_parts Try.info41
    have hown : (w.alloc (.cells #[] 41)).ownsRow w.heap.size 41 5 (.slice (some ⟨w.heap.size, 0, none⟩) 0 0) 0 [] :=
      ⟨rfl, .inr ⟨w.heap.size, 0, #[], rfl, Nat.le_refl _, heap_alloc_new w _, Nat.le_refl _, Nat.zero_le _, rfl, rfl⟩⟩
    obtain ⟨cs, hrows, hcells, hone⟩ : ∃ cs, Rows 5 (CIns (fun _ => True) w) xs cs ∧ (∀ j u, cs[j]? = some u → w.cell? (ad.add j) = some u) ∧ ∀ u ∈ cs, u.oneCell' = true := by
      rcases Nat.eq_zero_or_pos xs.length with h0 | h0
      · obtain rfl : xs = [] := List.length_eq_zero_iff.1 h0
        exact ⟨[], rfl, fun j u h => by simp at h, fun u h => by simp at h⟩
      · obtain ⟨b, o, e, hx⟩ := hs.2.2 h0
        obtain rfl := Option.some.inj e
        obtain ⟨cs, h1, h2, h3⟩ := ins_news xs o hx
        exact ⟨cs, h1, fun j u hu => by rw [show (⟨b, o, none⟩ : Addr).add j = ⟨b, o + j, none⟩ by unfold Addr.add; split <;> simp_all]; exact h2 j u hu, h3⟩
    obtain ⟨v', w', hr, h2, h3, _, h5⟩ := run_append_own_at (P := Try.prog) (w.alloc (.cells #[] 41)) w.heap.size 44 44 41 i5 _ 5 56 Try.underlying44 p1 p2 p3 p4 (by rfl) (by decide) _ 0 [] hown ad xs.length c
      cs (rows_len_ hrows) (fun j u hu => kept_alloc w _ _ _ (hcells j u hu)) hone (by unfold maxLen; omega) (by omega) (by simp)
    rw [Nat.zero_add, List.nil_append] at h2
    have hB : Below w.heap.size w w' := ((Below.refl w.heap.size w).alloc (Nat.le_refl _) (.cells #[] 41)).grown h3 (by simp) (fun k hk => by have := Option.some.inj (show some w.heap.size = some k from hk); omega)
    have hrows' : Rows 5 (CIns (fun b => b < w.heap.size) w') xs cs := hrows.imp fun x c hx => CIns.go (KeptB.of (kept_of_below hB)) (fun b hb => hb.2) (CIns.lt hx)
    have HF := Lib.hid (And.intro h2 (And.intro hrows' hB))
    clear h2 h3 h5 hB hown p1 p2 p3 p4 hs hrows hcells hone hrows'
    go_enter Try.func45, Try.ntmps45
    go_wp2_with (first | (at_builtin; refine wpList_append_runs rfl (.tmp 5) (.tmp 6) 44 44 rfl _ _ rfl rfl hr ?_) | simp only [heq, Option.isNone])
    go_ret
    exact ⟨⟨v', cs, rfl, HF.out.1, HF.out.2.1⟩, HF.out.2.2⟩

def ToldI_ (xs : List InsD) (w : World) (e : Ending) (w' : World) : Prop :=
  (∃ A c, e = .returned (.slice A xs.length c) ∧ SL w' 5 (RInsB (BG w.heap.size w')) A c xs) ∧ Below w.heap.size w w'

theorem setG_mid {cs r : List Value} {a b c d e v : Value} {k : Nat} (h : cs.length = k * 5) : (cs ++ ([a, b, c, d, e] ++ r)).set (k * 5 + 2) v = (cs ++ [a, b, v, d, e]) ++ r := by
  rw [List.set_append_right _ _ (by omega), show k * 5 + 2 - cs.length = 2 by omega, List.append_assoc]; rfl
theorem get_mid {cs r : List Value} {a b c d e : Value} {k : Nat} (h : cs.length = k * 5) : (cs ++ ([a, b, c, d, e] ++ r))[k * 5 + 2]? = some c := by
  rw [List.getElem?_append_right (by omega), show k * 5 + 2 - cs.length = 2 by omega]; rfl

set_option maxRecDepth 100000 in
set_option maxHeartbeats 8000000 in
theorem insOf_any (xs : List InsD) (v : Value) (w : World) (hv : VS w 5 RIns v xs) (hn : xs.length ≤ 1000) (ha : ∀ x ∈ xs, x.args.length ≤ 1000) : Calls Try.prog 31 #[v] w (ToldI_ xs w) := by
  have HC := Lib.hid (cloneIns_any xs v w hv hn)
  have HAL := Lib.hid ha
  obtain ⟨A, c, rfl, -⟩ := hv
  clear ha
  go_enter Try.func31, Try.ntmps31
  go_wp2_with fail
  refine HC.out.mono ?_
  rintro e w1 ⟨⟨vc, cs, rfl, ho, hr⟩, hb1⟩
  have hvc : ∃ A' c', vc = .slice A' xs.length c' := by
    rcases ho.2 with ⟨e, h0⟩ | ⟨g, c', cur, e, _⟩
    · exact ⟨none, 0, by rw [e, h0]⟩
    · exact ⟨_, _, e⟩
  obtain ⟨A', c', rfl⟩ := hvc
  have HB1 := Lib.hid hb1
  have HO1 := Lib.hid ho
  have HR1 := Lib.hid hr
  clear hb1 ho hr HC
  go_wp2_with fail
  go_loopw [9] (fun i wr => ∃ (k : Nat) (cs1 cs2 : List Value), k ≤ xs.length ∧ i = .int .i64 k ∧ Below w.heap.size w wr ∧ wr.ownsRow w.heap.size 41 5 (.slice A' xs.length c') xs.length (cs1 ++ cs2) ∧
    Rows 5 (CIns (BF w.heap.size (.slice A' xs.length c') wr) wr) (xs.take k) cs1 ∧ Rows 5 (CIns (fun b => b < w.heap.size) wr) (xs.drop k) cs2) (fun i _ => xs.length - (intOf i).toNat)
  case atStart => exact ⟨0, [], cs, Nat.zero_le _, rfl, HB1.out, HO1.out, rfl, HR1.out⟩
  case round =>
    obtain ⟨k, cs1, cs2, hk, rfl, hb, ho, hr1, hr2⟩ := hrel
    have HB := Lib.hid hb
    have HO := Lib.hid ho
    have HR := Lib.hid hr1
    by_cases hlt : k < xs.length
    · obtain ⟨x, hx⟩ : ∃ x, xs[k]? = some x := ⟨_, List.getElem?_eq_getElem hlt⟩
      have hd : xs.drop k = x :: xs.drop (k + 1) := by
        obtain ⟨_, rfl⟩ := List.getElem?_eq_some_iff.1 hx
        exact List.drop_eq_getElem_cons hlt
      rw [hd] at hr2
      obtain ⟨c0, r, rfl, -, ⟨Ax, cx, rfl, hax, g0, g1, g3, g4⟩, hrr⟩ := hr2
      obtain ⟨g, cap, hform, hg1, hg2⟩ := ho.form (by omega)
      cases hform
      have hl1 : cs1.length = k * 5 := by have := rows_len_ hr1; rw [List.length_take, Nat.min_eq_left (by omega)] at this; exact this
      have hc2 := ho.cellAt (k * 5 + 2) (by omega)
      rw [get_mid hl1] at hc2
      have hf2 := ho.frozenAt (k * 5 + 2)
      have hk0 : (0 : Int) ≤ k := by omega
      have hk1 : (k : Int) < xs.length := by omega
      have hxl := HAL.out x (List.mem_of_getElem? hx)
      have HCL := Lib.hid (cloneInts_any x.args (.slice Ax x.args.length cx) wr ⟨Ax, cx, rfl, SL.imp RIntB.plain hax⟩ (by omega))
      have HX := Lib.hid hx
      have H64 : Hid (∀ y ∈ x.args, I64 y) := Lib.hid (fun y hy => by
        obtain ⟨j, hj⟩ := List.getElem?_of_mem hy
        obtain ⟨_, _, h4⟩ := hax
        obtain ⟨b', o', e', hr'⟩ := h4 (by have := (List.getElem?_eq_some_iff.1 hj).1; omega)
        exact (hr' j y hj).2.2)
      have HI := Lib.hid (And.intro g0 (And.intro g1 (And.intro g3 g4)))
      have HL1 := Lib.hid hl1
      have HRR := Lib.hid hrr
      clear hb ho hr1 hd hax g0 g1 g3 g4 hx hrr hl1
      go_wp2_with fail
      refine HCL.out.mono ?_
      rintro e w2 ⟨⟨va, rfl, hoa⟩, hb2⟩
      obtain ⟨A2, c2, rfl, hs2⟩ := slG_of_own hoa H64.out (base' := wr.heap.size) (Nat.le_refl _)
      have hown2 := ownsRow_block (w' := w2) HO.out (fun g hg => hb2.block g (HO.out.lt g hg).2)
      have hcell2 : w2.cell? ⟨g, k * 5 + 2, none⟩ = some (.slice Ax x.args.length cx) := (hb2.cell (p := ⟨g, k * 5 + 2, none⟩) hg2).trans hc2
      have hfree2 : w2.frozen? ⟨g, k * 5 + 2, none⟩ = false := (hb2.frozen (p := ⟨g, k * 5 + 2, none⟩) hg2).trans hf2
      have hst := (hown2.stored (k * 5 + 2) (.slice A2 x.args.length c2)).1
      rw [setG_mid HL1.out] at hst
      have hset : ∀ b, b ≠ g → (w2.setCell ⟨g, k * 5 + 2, none⟩ (.slice A2 x.args.length c2)).heap[b]? = w2.heap[b]? := fun b hb => Below.heap_setCell _ _ _ _ hb
      have hrn : Rows 5 (CIns (BF w.heap.size (.slice (some ⟨g, 0, none⟩) xs.length c') (w2.setCell ⟨g, k * 5 + 2, none⟩ (.slice A2 x.args.length c2))) (w2.setCell ⟨g, k * 5 + 2, none⟩ (.slice A2 x.args.length c2))) (xs.take (k + 1)) (cs1 ++ [.int .i64 x.op, .int .i64 x.dst, .slice A2 x.args.length c2, .int .i64 x.imm, .int .i64 x.fn]) := by
        rw [take_succ_of HX.out]
        refine rows_grow (F := CIns) (fun _ _ _ _ _ _ h1 h2 h3 => CIns.go h1 h2 h3) HR.out (fun b hb hne => (hset b (fun e => hne (by rw [e]; rfl))).trans (hb2.block b hb)) (.inl rfl) rfl ?_
        refine ⟨A2, c2, rfl, ?_, HI.out.1, HI.out.2.1, HI.out.2.2.1, HI.out.2.2.2⟩
        exact SIntsB.go (B := BG wr.heap.size w2) (fun a v hb ha => (World.cell?_of_block (hset a.block (fun e => by have := hb.1; omega))).trans ha) (fun b hb => ⟨⟨by have := HB.out.size; have := hb.1; omega, hb.2.set _ _ _⟩, fun e => by have : b = g := Option.some.inj e; have := hb.1; omega⟩) hs2
      have hrr2 : Rows 5 (CIns (fun b => b < w.heap.size) (w2.setCell ⟨g, k * 5 + 2, none⟩ (.slice A2 x.args.length c2))) (xs.drop (k + 1)) r := HRR.out.imp fun y d hy => CIns.go (B := fun b => b < w.heap.size) (fun a v hb ha => (World.cell?_of_block ((hset a.block (fun e => by omega)).trans (hb2.block a.block (by have := HB.out.size; omega)))).trans ha) (fun b hb => hb) hy
      have HBN : Hid (Below w.heap.size w (w2.setCell ⟨g, k * 5 + 2, none⟩ (.slice A2 x.args.length c2))) := Lib.hid ((HB.out.trans (hb2.mono HB.out.size)).setCell (by show w.heap.size ≤ g; exact hg1) _)
      have HST := Lib.hid hst
      have HRN := Lib.hid hrn
      have HRR2 := Lib.hid hrr2
      clear hoa hb2 hs2 hown2 hst hset hrn hrr2 hc2 hf2 HCL
      go_wp2_with fail
      go_roundw
      case rel => exact ⟨k + 1, _, r, by omega, by go_num, HBN.out, HST.out, HRN.out, HRR2.out⟩
      case measure => simp [intOf]; omega
    · have hkk : xs.take k = xs := List.take_of_length_le (by omega)
      have hdd : xs.drop k = [] := List.drop_eq_nil_of_le (by omega)
      rw [hkk] at hr1
      rw [hdd] at hr2
      obtain rfl : cs2 = [] := hr2
      rw [List.append_nil] at ho
      have hrd := hr1.reads (R := RInsB (BG w.heap.size wr)) ho (fun g o x c hg hb hx hc hcell => CIns.reads ⟨hb, Fz.own ho hg⟩ (CIns.go (fun _ _ _ h => h) (fun b hb => hb.1) hx) hcell)
      obtain ⟨Ar, cr, hu, hrs⟩ := hrd
      cases hu
      have HRS := Lib.hid hrs
      clear hb ho hr1 hrs hkk hdd
      go_wp2_with fail
      go_ret
      exact ⟨⟨_, _, rfl, HRS.out⟩, HB.out⟩
end Go.Proofs.Ytoidhjmhakajlaa
