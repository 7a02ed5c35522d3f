/- The reference's reader: lists of numbers. -/
import Derived.Test.YtoidhjmhakajlaaGreatDoorRfSJ
import Derived.Test.YtoidhjmhakajlaaGreatDoorRdlJ
namespace Go.Proofs.YtoidhjmhakajlaaGreatDoor
open Go.ChangeShapes Go.WideShapes Go.RowKit Go.Deep
set_option linter.unusedVariables false

theorem rfl_step {α : Type} {sz N R : Nat} {T : TypeId} {F : (Nat → Prop) → World → α → List Value → Prop} (Fgo : ∀ (B B' : Nat → Prop) (w w' : World) (x : α) (cs : List Value), KeptB B w w' → (∀ b, B b → B' b) → F B w x cs → F B' w' x cs)
    (Flt : ∀ (B : Nat → Prop) (w : World) (x : α) (cs : List Value), F B w x cs → F (fun b => B b ∧ b < w.heap.size) w x cs) {bs : List UInt8} {wr w2 w3 : World} {u : Value} {l : List α} {cs c : List Value} {x : α} {s2 : St} {o : Obj} {g k n cap : Nat}
    (hN : R < N) (hNw : N ≤ wr.heap.size) (hown : wr.ownsRow N T sz u k cs) (hrows : Rows sz (F (fun b => N ≤ b ∧ some b ≠ u.ownBlock) wr) l cs)
    (hb2 : BB wr.heap.size R wr w2) (hr2 : Rf bs R w2 s2) (hx : F (fun b => wr.heap.size ≤ b) w2 x c) (hc : c.length = sz) (hgr : (w2.alloc o).grownBy w3 u.ownBlock) (hloc : u.ownBlock = some g ∨ g = w2.heap.size + 1) :
    Rf bs R w3 s2 ∧ BB N R wr w3 ∧ Rows sz (F (fun b => N ≤ b ∧ some b ≠ (Value.slice (some ⟨g, 0, none⟩) n cap).ownBlock) w3) (l ++ [x]) (cs ++ c) := by
  have hsz := hb2.size
  have hu : ∀ y, u.ownBlock = some y → N ≤ y ∧ y < wr.heap.size := fun y hy => hown.lt y hy
  have hown2 : (w2.alloc o).ownsRow N T sz u k cs := World.ownsRow.alloc (own_block hown (fun y hy => hb2.block y (hu y hy).2 (by have := (hu y hy).1; omega))) o
  have hr2' : Rf bs R (w2.alloc o) s2 := hr2.below ((Below.refl _ _).alloc (Nat.le_refl _) o)
  refine ⟨?_, ?_, ?_⟩
  · exact hr2'.keep (fun y hy hyR => hgr.block y hy (fun e => by have := (hu y e.symm).1; omega))
  · exact (hb2.mono hNw).trans (((BB.refl N R w2).alloc (by omega) o).grown hgr (by simp; omega) (fun y hy => .inr (hu y hy).1))
  · have hk1 : KeptB (fun b => (N ≤ b ∧ some b ≠ u.ownBlock) ∧ b < wr.heap.size) wr w3 :=
      ((hb2.kept.mono (fun b hb => ⟨hb.2, by omega⟩)).trans (KeptB.of (kept_alloc w2 o))).trans ((keptB_grown hgr).mono (fun b hb => hb.1.2))
    have hk2 : KeptB (fun b => wr.heap.size ≤ b ∧ b < w2.heap.size) w2 w3 :=
      (KeptB.of (kept_alloc w2 o)).trans ((keptB_grown hgr).mono (fun b hb e => by have := (hu b e.symm).2; omega))
    refine Rows.push Fgo Flt hrows hk1 (fun b h1 h2 h3 e => ?_) hc (Fgo _ _ _ _ _ _ hk2 (fun b hb => ⟨by omega, fun e => ?_⟩) (Flt _ _ _ _ hx))
    · have hbg : b = g := Option.some.inj e
      rcases hloc with h | h
      · exact h2 (by rw [h, hbg])
      · omega
    · have hbg : b = g := Option.some.inj e
      rcases hloc with h | h
      · have := (hu g h).2; omega
      · omega


theorem Inv.bad {α : Type} {p : Pr α} {n k : Nat} {s1 : St} {l : List α} {c : Int} {m : Nat} (h : Inv p n k s1 (.bad c m) l) (y : List α) : ToldS (repP p n) s1 y (.bad c m) := by
  have := h [] (.bad c m) rfl
  exact this.any
/-- Cell 2 of the reader: nothing is amiss, or something is. -/
theorem Rf.ok2 {bs : List UInt8} {R : Nat} {w : World} {r : List UInt8} (h : Rf bs R w (.ok r)) : w.cell? ⟨R, 2, none⟩ = some (.int .i64 0) := by
  obtain ⟨A, c, pos, bad, at_, h1, -, -, h4⟩ := h
  obtain ⟨rfl, -⟩ := h4
  exact cell_of_block h1 2
theorem Rf.bad2 {bs : List UInt8} {R : Nat} {w : World} {c : Int} {n : Nat} (h : Rf bs R w (.bad c n)) : w.cell? ⟨R, 2, none⟩ = some (.int .i64 c) ∧ (c == 0) = false ∧ (c != 0) = true := by
  obtain ⟨A, cc, pos, bad, at_, h1, -, -, h4⟩ := h
  obtain ⟨rfl, hcc, -⟩ := h4
  exact ⟨cell_of_block h1 2, by rcases hcc with h | h <;> subst h <;> rfl, by rcases hcc with h | h <;> subst h <;> rfl⟩

set_option maxRecDepth 100000 in
set_option maxHeartbeats 2000000 in
theorem nums_any (bs : List UInt8) (R : Nat) (w : World) (s : St) (hr : Rf bs R w s) (hbl : bs.length ≤ 1000000) :
    Calls Tryz.prog 33 #[.pointer (some ⟨R, 0, none⟩)] w (ToldQ bs R intsP (VL 1 RIntB) w s) := by
  obtain ⟨i0, p1, p2, p3, p4⟩ := info_parts Tryz.info3
  have HI := Lib.hid (And.intro p1 (And.intro p2 (And.intro p3 p4)))
  clear p1 p2 p3 p4
  have hlt := hr.lt
  go_enter Tryz.func33, Tryz.ntmps33
  go_wp2_with fail
  refine (manyF_any bs R 256 w s hr hbl (by omega)).mono ?_
  rintro e w1 ⟨v, n, s1, rfl, ⟨rfl, hn0, hn1⟩, ht, hr1, hb1⟩
  obtain ⟨n, rfl⟩ := Int.eq_ofNat_of_zero_le hn0
  have HT := Lib.hid ht
  have hn2 : n ≤ 256 := by omega
  clear hn0 hn1 ht
  go_wp2_with fail
  go_loopw [4, 5] (fun u i wr => ∃ (k : Nat) (l : List Int) (cs : List Value) (sk : St), k ≤ n ∧ l.length = k ∧ i = .int .i64 k ∧ wr.ownsRow w.heap.size 3 1 u k cs ∧ Rows 1 (CInt (fun b => w.heap.size ≤ b ∧ some b ≠ u.ownBlock) wr) l cs ∧ Rf bs R wr sk ∧ BB w.heap.size R w wr ∧ Hid (Inv numP n k s1 sk l)) (fun _ i _ => n - (intOf i).toNat)
  case atStart => exact ⟨0, [], [], s1, Nat.zero_le _, rfl, rfl, World.ownsRow_nil _ _ _ _, rfl, hr1, hb1, Lib.hid (Inv.zero _ _ _)⟩
  case round =>
    obtain ⟨wo, rfl⟩ : ∃ wo, wo = wr := ⟨wr, rfl⟩
    obtain ⟨k, l, cs, sk, hk, hlk, rfl, hown, hrows, hrd, hbw, hinv⟩ := hrel
    have HLK := Lib.hid hlk
    clear hlk
    have hsw := hbw.size
    by_cases hlt2 : k < n
    · cases sk with
      | ok r =>
        have y2 := hrd.ok2
        go_wp2_with fail
        refine (numF_any bs R wo (.ok r) hrd hbl).mono ?_
        rintro e w2 ⟨v, x, s2, rfl, ⟨rfl, hx⟩, ht2, hr2, hb2⟩
        have hs2 := hb2.size
        have hown2 : w2.ownsRow w.heap.size 3 1 u4 k cs := own_block hown (fun y hy => hb2.block y (hown.lt y hy).2 (by have := (hown.lt y hy).1; omega))
        have HT2 := Lib.hid ht2
        have HX : Hid (CInt (fun b => wo.heap.size ≤ b) w2 x [.int .i64 x]) := Lib.hid ⟨rfl, i64_of_ok hx⟩
        clear ht2 y2 hx
        go_wp2_with (at_builtin; refine wpList_append_lies _ rfl (.tmp 23) (.tmp 25) 54 rfl w.heap.size 3 i0 (.int .i64 0) 1 8 Tryz.underlying54 HI.out.1 HI.out.2.1 HI.out.2.2.1 HI.out.2.2.2 rfl (by decide) u4 k cs rfl (hown2.alloc _) ⟨w2.heap.size, 0, none⟩ 1 1 [.int .i64 x] rfl rfl (news_cells w2 #[.int .i64 x] _ rfl) (by simp [Value.oneCell']) (by decide) (by unfold maxLen; omega) (by omega) (by simp; omega) (w2.heap.size + 1) (by simp) ?_; intro g cap w3 hown3 hgr hloc hltg; obtain ⟨hr3, hb3, hrows3⟩ := rfl_step (n := k + 1) (cap := cap) (F := CInt) (fun _ _ _ _ _ _ h1 h2 h3 => CInt.go h3) (fun _ _ _ _ h => h) hlt hsw hown hrows hb2 hr2 HX.out rfl hgr hloc)
        go_roundw
        case rel => exact ⟨k + 1, l ++ [x], _, s2, by omega, by rw [List.length_append, HLK.out]; rfl, by go_num, hown3, hrows3, hr3, hbw.trans hb3, Lib.hid (hinv.out.next hlt2 HT2.out)⟩
        case measure => simp [intOf]; omega
      | bad c' n' =>
        obtain ⟨y2, y3, y4⟩ := hrd.bad2
        have HV := Lib.hid (Rows.reads (R := RIntB (fun b => w.heap.size ≤ b)) (hrows.imp (fun y d hy => CInt.go hy)) (by rw [HLK.out]; exact hown) (fun g o y d hg hb hF hl hc => CInt.reads (B := fun b => w.heap.size ≤ b) hb hF hc))
        clear hrows
        go_wp2_with fail
        go_ret
        exact ⟨_, l, .bad c' n', rfl, HV.out, told_list HT.out (hinv.out.bad l), hrd, hbw⟩
    · obtain rfl : k = n := by omega
      have HV := Lib.hid (Rows.reads (R := RIntB (fun b => w.heap.size ≤ b)) (hrows.imp (fun y d hy => CInt.go hy)) (by rw [HLK.out]; exact hown) (fun g o y d hg hb hF hl hc => CInt.reads (B := fun b => w.heap.size ≤ b) hb hF hc))
      clear hrows
      go_wp2_with fail
      go_ret
      exact ⟨_, l, sk, rfl, HV.out, told_list HT.out hinv.out.done, hrd, hbw⟩
end Go.Proofs.YtoidhjmhakajlaaGreatDoor
