/- The walk of ArithStays. -/
import Derived.Test.YthjplghkfijelaaUp
import Derived.Laws.AppendOwnNone
namespace Go.Proofs.Ythjplghkfijelaa
open Go.ChangeShapes Go.WideShapes Go.ChangeAt Go.RowKit

/-- Something came of it: a number and an error. -/
def Told (w : World) (e : Ending) (w' : World) : Prop := (∃ (v : Int) (x : Value), e = .returned (.tuple #[.int .i64 v, x])) ∧ Drawn w w'

theorem Drawn.same {w w' : World} (h : w = w') : Drawn w w' := ⟨0, by subst h; rfl⟩

theorem add_at (b off j : Nat) : (⟨b, off, none⟩ : Addr).add j = ⟨b, off + j, none⟩ := by unfold Addr.add; split <;> simp_all

/-- Whatever the operation, and whatever the arguments: an answer comes, and nothing is written. -/
theorem eval_some (op : Int) (p : Option Addr) (len cap : Nat) (w : World) (hc : ∀ i, i < len → ∃ k off a, p = some ⟨k, off, none⟩ ∧ w.cell? ⟨k, off + i, none⟩ = some (.int .i64 a)) :
    Calls Try.prog 16 #[.int .i64 op, .slice p len cap] w (Told w) := by
  by_cases hk : known op = true
  · by_cases hl : ((len : Int) != arity op) = true
    · exact (eval_count op p len cap w hk hl).mono fun e w' h => ⟨⟨_, _, h.1⟩, Drawn.same h.2⟩
    · have hl' : (len : Int) = arity op := by simpa using hl
      unfold known at hk
      simp only [decide_eq_true_eq] at hk
      by_cases h1 : op = 2 ∨ op = 14
      · have : arity op = 1 := by unfold arity; rw [if_pos h1]
        obtain rfl : len = 1 := by omega
        obtain ⟨k, off, a, rfl, c0⟩ := hc 0 (by omega)
        exact (eval_one op a k off cap w h1 c0).mono fun e w' h => ⟨⟨_, _, h.1⟩, Drawn.same h.2⟩
      · have : arity op = 2 := by unfold arity; rw [if_neg h1, if_pos (by omega)]
        obtain rfl : len = 2 := by omega
        obtain ⟨k, off, a, rfl, c0⟩ := hc 0 (by omega)
        obtain ⟨k', off', b, he, c1⟩ := hc 1 (by omega)
        simp only [Option.some.injEq, Addr.mk.injEq] at he
        obtain ⟨rfl, rfl, _⟩ := he
        by_cases h11 : op = 11 ∧ b = 0
        · obtain ⟨rfl, rfl⟩ := h11
          exact (eval_div0 k off cap w c1).mono fun e w' h => ⟨⟨_, _, h.1⟩, Drawn.same h.2⟩
        · exact (eval_two op a b k off cap w (by omega) (by omega) (fun h => by simp; omega) c0 c1).mono fun e w' h => ⟨⟨_, _, h.1⟩, h.2⟩
  · exact (eval_unknown op p len cap w (by simpa using hk)).mono fun e w' h => ⟨⟨_, _, h.1⟩, Drawn.same h.2⟩

theorem Try.info2 : (Try.prog.info? 2).map (fun i => (i.zero, i.size, i.bytes)) = some (some (.int .i64 0), 1, 8) := by kernel_rfl

set_option maxHeartbeats 1000000 in
/-- The arguments as they are handed in: none, or a row. -/
theorem stays_walk (op : Int) (p : Option Addr) (len cap : Nat) (zs : List Int) (w : World)
    (hp : (p = none ∧ len = 0 ∧ cap = 0 ∧ zs = []) ∨
      ∃ x, p = some x ∧ len ≤ cap ∧ cap ≤ maxLen ∧ zs.length = cap ∧ (∀ i, i < zs.length → w.cell? (x.add i) = some (.int .i64 (zs.getD i 0))) ∧ ∀ n ∈ zs, (Lit.int .i64 n).wf = true) :
    Calls Try.prog 8 #[.int .i64 op, .slice p len cap] w fun e w' => e = .returned (.bool true) ∧ Below w.heap.size w w' := by
  by_cases hlen : len > 100
  · go_enter Try.func8, Try.ntmps8
    go_wp2_with fail
    refine (up_any _).mono ?_
    rintro e w1 ⟨rfl, hb⟩
    go_wp2_with fail
    go_ret
    exact ⟨rfl, hb⟩
  · obtain ⟨i0, hi, hz0, hz1, hz2⟩ := info_parts Try.info2
    rcases hp with ⟨rfl, rfl, rfl, rfl⟩ | ⟨⟨b, off, spot⟩, rfl, hl, hm, hz, hcell, hwz⟩
    · clear hlen
      go_enter Try.func8, Try.ntmps8
      go_wp2_with fail
      refine (up_any _).mono ?_
      rintro e w1 ⟨rfl, hb⟩
      go_wp2_with fail
      refine (eval_some op _ 0 _ _ (fun i h => absurd h (by omega))).mono ?_
      rintro e w2 ⟨⟨v, x, rfl⟩, n, rfl⟩
      go_wp2_with fail
      go_loopw [7] (fun i wr => i = .int .i64 0 ∧ Below w.heap.size w wr) (fun _ _ => 0)
      case atStart => exact ⟨rfl, by repeat first | exact hb | refine below_drewN ?_ _ | refine Below.alloc ?_ (by first | exact hb.size | (simp; omega)) _⟩
      case round =>
        obtain ⟨rfl, hb⟩ := hrel
        go_wp2_with fail
        go_ret
        exact ⟨rfl, hb⟩
    · obtain ⟨g0, e0⟩ : ∃ g : Nat, g = w.heap.size := ⟨_, rfl⟩
      have hsp : ∀ i, i < len → spot = none ∧ b < w.heap.size ∧ w.cell? ⟨b, off + i, none⟩ = some (.int .i64 (zs.getD i 0)) := by
        intro i hi
        have hc := hcell i (by omega)
        have hspot : spot = none := by simpa [Addr.add] using World.cell?_spot (hcell 0 (by omega))
        subst hspot
        rw [add_at] at hc
        exact ⟨rfl, block_lt_of_cell hc, hc⟩
      have HC := Lib.hid hcell
      have HS := Lib.hid hsp
      clear hcell hsp hwz
      go_enter Try.func8, Try.ntmps8
      go_wp2_with fail
      refine (up_any _).mono ?_
      rintro e w1 ⟨rfl, hb⟩
      have hs1 := hb.size
      have hnews : Hid (∀ j u, ((zs.take len).map (Value.int .i64))[j]? = some u → w1.cell? ((⟨b, off, spot⟩ : Addr).add j) = some u) := by
        intro j u hu
        have hj : j < len := by
          have := (List.getElem?_eq_some_iff.1 hu).1
          simp at this; omega
        obtain ⟨h1, h2, h3⟩ := HS.out j hj
        subst h1
        rw [add_at, hb.cell (p := ⟨b, off + j, none⟩) h2, h3]
        rw [List.getElem?_map, List.getElem?_take_of_lt hj] at hu
        obtain ⟨y, hy, rfl⟩ := Option.map_eq_some_iff.1 hu
        rw [List.getD_eq_getElem?_getD, hy]; rfl
      go_wp2_with (at_builtin; refine wpList_append_own _ rfl (.tmp 13) (.tmp 14) 27 rfl w.heap.size 2 i0 (.int .i64 0) 1 8 Try.underlying27 hi hz0 hz1 hz2 rfl (by omega) (.slice (some ⟨w1.heap.size, 0, none⟩) 0 0) 0 [] rfl ?own ⟨b, off, spot⟩ len cap ((zs.take len).map (Value.int .i64)) rfl ?hl ?hnews ?h1 ?h63 ?hbytes ?hbase ?_)
      case own => exact World.ownsRow_made _ #[] 0 hs1 (by unfold maxLen; omega) rfl
      case hl => simp; omega
      case hnews =>
        intro j u hu
        have h3 := hnews.out j u hu
        rw [World.cell?_alloc_lt _ _ _ (block_lt_of_cell h3)]; exact h3
      case h1 => exact ints_oneCell _ _
      case h63 => unfold maxLen; omega
      case hbytes => omega
      case hbase => simp; omega
      intro v' w2 hown2 hgrow2 hnil
      have hb2 : Below w.heap.size w w2 := (hb.alloc hs1 _).grown hgrow2 (by simp; omega) (fun k hk => by cases hk; exact hs1)
      obtain ⟨g, c, hv, hc2⟩ : ∃ g c, v' = .slice (some ⟨g, 0, none⟩) len c ∧ ∀ i, i < len → w2.cell? ⟨g, i, none⟩ = some (.int .i64 (zs.getD i 0)) := by
        rcases hown2.2 with ⟨h, _⟩ | ⟨g, c, cur, h, _⟩
        · first | exact absurd h hnil | exact absurd (hnil.1 h).1 (by simp)
        · refine ⟨g, c, by first | exact h | simpa using h, fun i hi => ?_⟩
          have := hown2.cells (g := g) (by rw [h]; rfl) i (.int .i64 (zs.getD i 0)) (by
            first | rw [List.nil_append] | skip
            rw [← List.map_take, List.getElem?_map, List.getElem?_take_of_lt hi, List.getD_eq_getElem?_getD, List.getElem?_eq_getElem (by omega)]; rfl)
          rwa [add_at, Nat.zero_add] at this
      have HC2 := Lib.hid hc2
      clear hc2 hnil hown2 hgrow2 hnews
      rw [hv]
      clear hv
      have hs2 := hb2.size
      go_wp2_with fail
      refine (eval_some op _ len _ _ (fun i hi => ⟨g, 0, _, rfl, by rw [Nat.zero_add]; exact HC2.out i hi⟩)).mono ?_
      rintro e w3 ⟨⟨v, x, rfl⟩, n, rfl⟩
      go_wp2_with fail
      clear g0 e0
      go_loopw [7] (fun i wr => ∃ k n : Nat, k ≤ len ∧ i = .int .i64 k ∧ wr = w2.drewN n) (fun i _ => len - (intOf i).toNat)
      case atStart => exact ⟨0, n, by omega, rfl, rfl⟩
      case round =>
        obtain ⟨k, n', hk, rfl, rfl⟩ := hrel
        by_cases hlt : k < len
        · obtain ⟨rfl, hblk, hA⟩ := HS.out k hlt
          have hA2 : w2.cell? ⟨b, off + k, none⟩ = some (.int .i64 (zs.getD k 0)) := (hb2.cell (p := ⟨b, off + k, none⟩) hblk).trans hA
          have hB2 := HC2.out k hlt
          have hk0 : (0 : Int) ≤ k := by omega
          have hkl : (k : Int) < len := by omega
          clear hA
          go_wp2_with fail
          go_quiet (fail)
          go_wp2_with fail
          go_roundw
          case rel => exact ⟨k + 1, _, by omega, by go_num, rfl⟩
          case measure => simp [intOf]; omega
        · go_wp2_with fail
          go_ret
          exact ⟨rfl, below_drewN hb2 _⟩
end Go.Proofs.Ythjplghkfijelaa
