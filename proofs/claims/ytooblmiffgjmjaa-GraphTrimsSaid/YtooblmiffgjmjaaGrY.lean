/- Trim's smaller functions: the blocks ahead of each; a phi's Args; an end. -/
import Derived.Test.YtooblmiffgjmjaaGrV
import Derived.StillTailTactics
namespace Go.Proofs.Ytooblmiffgjmjaa
open Go.ChangeShapes Go.WideShapes Go.RowKit Go.Deep
set_option linter.unusedVariables false

/-! ### The blocks ahead -/
def AJ (bs : List BlkD) (k j i : Nat) : List Int := aheadL (bs.take k) i ++ (if i ∈ (nxF bs k).take j then [(k : Int)] else [])
theorem AJ_zero (bs : List BlkD) (k i : Nat) : AJ bs k 0 i = aheadL (bs.take k) i := by simp [AJ]
theorem AJ_all {bs : List BlkD} {k : Nat} (hk : k < bs.length) {i : Nat} (hi : i < bs.length) {j : Nat} (hj : (nxF bs k).length ≤ j) : AJ bs k j i = AJ bs (k + 1) 0 i := by
  rw [AJ_zero]
  have hb : bs[k]? = some bs[k] := List.getElem?_eq_getElem hk
  rw [aheadL_step i hb]
  unfold AJ
  rw [List.take_of_length_le hj]
  congr 1
  have : (i ∈ nxF bs k) ↔ hasTo i bs[k].term.to = true := by
    rw [nxF_mem hb]
    unfold hasTo
    rw [List.any_eq_true]
    constructor
    · rintro ⟨_, h⟩; exact ⟨_, h, by simp⟩
    · rintro ⟨x, hx, e⟩; rw [beq_iff_eq] at e; exact ⟨hi, e ▸ hx⟩
  by_cases h : i ∈ nxF bs k
  · rw [if_pos h, if_pos (this.1 h)]
  · rw [if_neg h, if_neg (fun e => h (this.2 e))]
theorem AJ_new {bs : List BlkD} {k j q : Nat} (hq : (nxF bs k)[j]? = some q) (i : Nat) : (if i = q then AJ bs k j q ++ [(k : Int)] else AJ bs k j i) = AJ bs k (j + 1) i := by
  have hnd : (nxF bs k).Nodup := by unfold nxF; split; exact nextN_nodup _ _; simp
  have hnot : q ∉ (nxF bs k).take j := by
    have := hnd
    rw [← List.take_append_drop j (nxF bs k), List.nodup_append] at this
    intro h
    refine this.2.2 q h q ?_ rfl
    have h2 : ((nxF bs k).drop j)[0]? = some q := by rw [List.getElem?_drop]; exact hq
    exact List.mem_of_getElem? h2
  unfold AJ
  rw [take_succ_of hq]
  by_cases e : i = q
  · subst e; rw [if_pos rfl, if_neg hnot, if_pos (by simp)]; simp
  · rw [if_neg e]
    congr 1
    by_cases h : i ∈ (nxF bs k).take j
    · rw [if_pos h, if_pos (by simp [h])]
    · rw [if_neg h, if_neg (by simp [h, e])]
theorem AJ_len (bs : List BlkD) (k j i : Nat) : (AJ bs k j i).length ≤ bs.length + 1 := by
  unfold AJ
  have := aheadK_len (bs.take k) 0 i
  rw [List.length_append, aheadL]
  have h2 : (bs.take k).length ≤ bs.length := by simp; omega
  split <;> simp <;> omega
theorem AJ_i64 (bs : List BlkD) (k j i : Nat) (hk : k ≤ 1000000) (h : bs.length ≤ 1000000) : ∀ x ∈ AJ bs k j i, I64 x := by
  intro x hx
  unfold AJ at hx
  rcases List.mem_append.1 hx with hx | hx
  · exact aheadL_i64 _ _ (by simp; omega) x hx
  · split at hx
    · rw [List.mem_singleton.1 hx]; unfold I64; omega
    · simp at hx

def ToldA_ (bs : List BlkD) (w : World) (e : Ending) (w' : World) : Prop :=
  (∃ V G K, e = .returned (.slice (some ⟨G, 0, none⟩) bs.length bs.length) ∧ w.heap.size ≤ G ∧ Gri w' G K bs.length V (fun i => aheadL bs i)) ∧ Below w.heap.size w w'

set_option maxRecDepth 100000 in
set_option maxHeartbeats 8000000 in
theorem aheadOf_any (f : FunD) (v : Value) (w : World) (hv : VFun w v f) (hn : f.blocks.length ≤ 1000) :
    Calls Try.prog 31 #[v] w (ToldA_ f.blocks w) := by
  have hv0 := hv
  obtain ⟨Ar, cr, A, c, rfl, -, -, -, -⟩ := hv
  have HV := Lib.hid hv0
  obtain ⟨i0, hi, hz0, hz1, hz2⟩ := info_parts Try.info3
  have HI := Lib.hid (And.intro hi (And.intro hz0 (And.intro hz1 hz2)))
  clear hi hz0 hz1 hz2 hv0
  have hmk := run_make_row' (P := Try.prog) 35 22 (.slice none 0 0) 24 Try.underlying35 Try.info22 rfl .i64 .i64 f.blocks.length (by omega) (by omega)
  go_enter Try.func31, Try.ntmps31
  go_upto_region 2 with fail
  clear hmk
  obtain ⟨w1, hw1, hs1, hk1, hbel1, hc1, -⟩ := named w #[.int .i64 f.params, .int .i64 f.result, .slice Ar f.regs.length cr, .slice A f.blocks.length c] 25
  rw [← hw1]
  obtain ⟨G, hG⟩ : ∃ G, G = w.heap.size + 1 := ⟨_, rfl⟩
  have hrow := World.rowIs_made w1 (.slice none 0 0) f.blocks.length 22
  have hb2 : Below w1.heap.size w1 (w1.alloc (.cells (madeCells #[.slice none 0 0] f.blocks.length) 22)) := (Below.refl _ _).alloc (Nat.le_refl _) _
  have hz2 : (w1.alloc (.cells (madeCells #[.slice none 0 0] f.blocks.length) 22)).heap.size = w1.heap.size + 1 := by simp
  rw [hs1, ← hG] at hrow hb2 hz2
  rw [← hG]
  generalize w1.alloc (.cells (madeCells #[.slice none 0 0] f.blocks.length) 22) = w2 at *
  have hk2 := kept_below hb2 (by omega)
  have c0 := hk2 _ _ (hc1 0 _ rfl)
  have c1 := hk2 _ _ (hc1 1 _ rfl)
  have c2 := hk2 _ _ (hc1 2 _ rfl)
  have c3 := hk2 _ _ (hc1 3 _ rfl)
  have hgw : w.heap.size < G := by omega
  have hg2 : G < w2.heap.size := by omega
  have HB2 : Hid (Below w.heap.size w w2) := Lib.hid (hbel1.trans (hb2.mono (by omega)))
  have HN := Lib.hid (next_any f _ w2 (VFun.keep (hk1.trans hk2) HV.out) (by omega))
  have HROW := Lib.hid hrow
  clear hw1 hs1 hk1 hbel1 hc1 hb2 hz2 hk2 hG hrow HV
  go_wp2_with fail
  refine HN.out.mono ?_
  rintro e w3 ⟨⟨Vn, Gn, rfl, hGn, hgn⟩, hb3⟩
  have hz3 := hb3.size
  have HB3 : Hid (Below w.heap.size w w3) := Lib.hid (HB2.out.trans (hb3.mono HB2.out.size))
  have hgr : Gri w3 G w3.heap.size f.blocks.length (fun _ => .slice none 0 0) (AJ f.blocks 0 0) :=
    ⟨HROW.out.of_block (hb3.block G HROW.out.lt), fun i hi => by rw [AJ_zero, List.take_zero]; exact World.ownsRow_nil _ _ _ _, fun _ _ _ _ _ => .inl rfl, by omega⟩
  have HGN := Lib.hid hgn
  have hGn2 : w2.heap.size ≤ Gn := hGn
  clear hgn hb3 hGn HN c0 c1 c2 c3
  go_wp2_with fail
  go_loopw [15] (fun i wr => ∃ (k : Nat) (V : Nat → Value), k ≤ f.blocks.length ∧ i = .int .i64 k ∧ BB w3.heap.size G w3 wr ∧ Gri wr G w3.heap.size f.blocks.length V (AJ f.blocks k 0)) (fun i _ => f.blocks.length - (intOf i).toNat)
  case atStart => exact ⟨0, _, Nat.zero_le _, rfl, BB.refl _ _ _, hgr⟩
  case round =>
    obtain ⟨k, V, hk, rfl, hbb, hg⟩ := hrel
    obtain ⟨wo, rfl⟩ : ∃ wo, wo = wr := ⟨wr, rfl⟩
    have hGnl := HGN.out.row.lt
    have hgnr : Gri wo Gn (Gn + 2) f.blocks.length Vn (fun i => zs (nxF f.blocks i)) := HGN.out.of_blocks (hbb.block Gn hGnl (by omega)) (fun g h1 h2 => hbb.block g h2 (by omega))
    have HG := Lib.hid hg
    have HBB := Lib.hid hbb
    clear hg hbb hgr
    by_cases hlt : k < f.blocks.length
    · have hrc := hgnr.row.cell hlt
      have hll : (nxF f.blocks k).length ≤ f.blocks.length := by unfold nxF; split; exact nextN_few _ _; simp
      obtain ⟨Al, cl, hvl, hsl⟩ := slB_of_own (B := fun g => Gn + 2 ≤ g ∧ g < w3.heap.size) (xs := zs (nxF f.blocks k)) (w := w3) (HGN.out.own k hlt) (fun y hy => by obtain ⟨q, hq, rfl⟩ := zs_mem hy; have := nxF_lt f.blocks k q hq; unfold I64; omega) (fun _ h1 h2 => ⟨h1, h2⟩)
      rw [hvl] at hrc
      rw [zs_len] at hrc
      have HSL := Lib.hid hsl
      clear hvl hsl hgnr
      go_wp2_with fail
      go_loopw [22] (fun i wr => ∃ (j : Nat) (V : Nat → Value), j ≤ (nxF f.blocks k).length ∧ i = .int .i64 j ∧ BB w3.heap.size G w3 wr ∧ Gri wr G w3.heap.size f.blocks.length V (AJ f.blocks k j)) (fun i _ => (nxF f.blocks k).length - (intOf i).toNat)
      case atStart => exact ⟨0, V, Nat.zero_le _, rfl, HBB.out, HG.out⟩
      case round =>
        obtain ⟨j, V', hj, rfl, hbi, hgi⟩ := hrel
        have HBI := Lib.hid hbi
        have hsr := SIntsB.go (B := fun g => Gn + 2 ≤ g ∧ g < w3.heap.size) (B' := fun _ => True) (w := w3) (w' := wr) (fun a v hb ha => (World.cell?_of_block (hbi.block a.block hb.2 (by have := hb.1; omega))).trans ha) (fun _ _ => trivial) HSL.out
        have hzi := hbi.size
        clear hbi
        by_cases hjl : j < (nxF f.blocks k).length
        · obtain ⟨bl, ol, y, rfl, hy, -, hyc, -⟩ := hsr.at_ (k := j) (by rw [zs_len]; exact hjl)
          obtain ⟨q, hq, rfl⟩ := zs_at hy.out
          have hqn : q < f.blocks.length := nxF_lt f.blocks k q (List.mem_of_getElem? hq)
          have hyc : wr.cell? ⟨bl, ol + j, none⟩ = some (.int .i64 (q : Int)) := by rw [Nat.mul_one] at hyc; exact hyc
          have hq0 : (0 : Int) ≤ q := by omega
          have hq1 : (q : Int) < f.blocks.length := by omega
          have hrow := hgi.row.cell hqn
          have hvs : VS wr 1 RInt (V' q) (AJ f.blocks k j q) := vs_of_own (hgi.own q hqn) (AJ_i64 _ _ _ _ (by omega) (by omega))
          have hla := AJ_len f.blocks k j q
          have HQ := Lib.hid hq
          clear hq hsr
          go_wp2_with (at_builtin; refine wpList_append_lies _ rfl (.tmp 31) (.tmp 33) 22 rfl w3.heap.size 3 i0 (.int .i64 0) 1 8 Try.underlying22 HI.out.1 HI.out.2.1 HI.out.2.2.1 HI.out.2.2.2 rfl (by decide) (V' q) _ _ rfl ((hgi.own q hqn).alloc _) ⟨wr.heap.size, 0, none⟩ 1 1 [.int .i64 k] rfl rfl ?c1 ?c2 ?c0 ?c3 ?c4 ?c5 (wr.heap.size + 1) ?c6 ?_)
          case c1 => exact news_one_add wr _ _ rfl
          case c2 => exact ints_oneCell .i64 [(k : Int)]
          case c0 => omega
          case c3 => unfold maxLen; omega
          case c4 => omega
          case c5 => simp; omega
          case c6 => simp
          intro g cap w4 hown4 hgrow4 hloc4 hlt4
          have hgp := (Gri.push (hgi.alloc _) hqn hown4 hgrow4 (by simpa using hloc4)).congr (fun i _ => AJ_new HQ.out i)
          have hG4 : w4.heap[G]? = (wr.alloc (.cells #[.int .i64 k] 3)).heap[G]? := hgrow4.block _ (by simp; omega) (fun e => by have := ((hgi.own q hqn).lt _ e.symm).1; omega)
          have hrow4 := (World.cell?_of_block (a := ⟨G, q, none⟩) hG4).trans ((hgi.row.alloc _).cell hqn)
          have hfr4 := (World.frozen?_of_block (a := ⟨G, q, none⟩) hG4).trans ((hgi.row.alloc _).frozen q)
          have HB4 : Hid (BB w3.heap.size G w3 w4) := Lib.hid ((HBI.out.alloc hzi _).grown hgrow4 (by simp; omega) (fun g hg => .inr (by have := ((hgi.own q hqn).lt g hg).1; omega)))
          have HGP := Lib.hid hgp
          clear hgp hown4 hgrow4 hloc4 hG4 hgi hrow hvs
          go_wp2_with fail
          go_roundw
          case rel => exact ⟨j + 1, _, by omega, by go_num, HB4.out.setCell (.inl rfl) _, HGP.out⟩
          case measure => simp [intOf]; omega
        · have HGF := Lib.hid (hgi.congr (fun i hi => AJ_all hlt hi (by omega)))
          clear hgi hsr
          go_wp2_with fail
          go_roundw
          case rel => exact ⟨k + 1, V', by omega, by go_num, HBI.out, HGF.out⟩
          case measure => simp [intOf]; omega
    · have hkk : f.blocks.take k = f.blocks := List.take_of_length_le (by omega)
      have HGF := Lib.hid (HG.out.congr (L' := fun i => aheadL f.blocks i) (fun i _ => by rw [AJ_zero, hkk]))
      clear hkk hgnr
      go_wp2_with fail
      go_ret
      exact ⟨⟨V, G, _, rfl, by omega, HGF.out⟩, HB3.out.trans (HBB.out.below HB3.out.size (by omega))⟩
end Go.Proofs.Ytooblmiffgjmjaa
