/- The document's first example of layer 8. -/
import Derived.Test.YtflbooopgjgkbaaLvKJ
import Derived.BigQuiet
import Derived.Test.YtflbooopgjgkbaaGrEJ
import Derived.Test.YtflbooopgjgkbaaArMJ
import Derived.ProofKit
namespace Go.Proofs.Ytflbooopgjgkbaa
open Go.ChangeShapes Go.WideShapes Go.RowKit Go.Deep
set_option linter.unusedVariables false

theorem sl_nil8 {α : Type} {w : World} {sz : Nat} {R : World → Nat → Nat → α → Prop} : SL w sz R none 0 [] := ⟨Nat.le_refl _, ⟨by unfold maxLen; omega, fun _ => rfl⟩, fun h => absurd h (by simp)⟩
def f8 : FunD := ⟨1, 1, [1], [⟨[], [], ⟨3, 0, []⟩⟩]⟩
theorem proper8 : Proper [f8] := by unfold Proper; decide
set_option maxRecDepth 100000 in
set_option maxHeartbeats 4000000 in
theorem up8_any (w : World) : Calls Try.prog 18 #[] w fun e w' => e = .returned (.bool true) ∧ Below w.heap.size w w' := by
  go_enter Try.func18, Try.ntmps18
  go_wp2_with fail
  obtain ⟨N, hN⟩ : ∃ N, N = w.heap.size := ⟨_, rfl⟩
  obtain ⟨W4, hW4⟩ : ∃ W4, W4 = (((w.alloc (.cells #[.int .i64 1] 3)).alloc (.cells #[.slice none 0 0, .slice none 0 0, .int .i64 3, .int .i64 0, .slice none 0 0] 52)).alloc (.cells #[.int .i64 1, .int .i64 1, .slice (some ⟨N, 0, none⟩) 1 1, .slice (some ⟨N + 1, 0, none⟩) 1 1] 25)).alloc (.cells #[.int .i64 1, .int .i64 1, .slice (some ⟨N, 0, none⟩) 1 1, .slice (some ⟨N + 1, 0, none⟩) 1 1] 25) := ⟨_, rfl⟩
  have hb : W4.heap[N]? = some (.cells #[.int .i64 1] 3) ∧ W4.heap[N + 1]? = some (.cells #[.slice none 0 0, .slice none 0 0, .int .i64 3, .int .i64 0, .slice none 0 0] 52) ∧ W4.heap[N + 1 + 1 + 1]? = some (.cells #[.int .i64 1, .int .i64 1, .slice (some ⟨N, 0, none⟩) 1 1, .slice (some ⟨N + 1, 0, none⟩) 1 1] 25) ∧ Below N w W4 := by
    subst hW4 hN
    have h0 := heap_alloc_new w (.cells #[.int .i64 1] 3)
    have h1 := heap_alloc_new (w.alloc (.cells #[.int .i64 1] 3)) (.cells #[.slice none 0 0, .slice none 0 0, .int .i64 3, .int .i64 0, .slice none 0 0] 52)
    have h3 := heap_alloc_new (((w.alloc (.cells #[.int .i64 1] 3)).alloc (.cells #[.slice none 0 0, .slice none 0 0, .int .i64 3, .int .i64 0, .slice none 0 0] 52)).alloc (.cells #[.int .i64 1, .int .i64 1, .slice (some ⟨w.heap.size, 0, none⟩) 1 1, .slice (some ⟨w.heap.size + 1, 0, none⟩) 1 1] 25)) (.cells #[.int .i64 1, .int .i64 1, .slice (some ⟨w.heap.size, 0, none⟩) 1 1, .slice (some ⟨w.heap.size + 1, 0, none⟩) 1 1] 25)
    refine ⟨?_, ?_, by simpa using h3, ((((Below.refl _ w).alloc (Nat.le_refl _) _).alloc (by simp) _).alloc (by first | (simp; done) | (simp; omega)) _).alloc (by first | (simp; done) | (simp; omega)) _⟩
    · exact (Below.heap_alloc _ _ _ (by first | (simp; done) | (simp; omega))).trans ((Below.heap_alloc _ _ _ (by first | (simp; done) | (simp; omega))).trans ((Below.heap_alloc _ _ _ (by simp)).trans h0))
    · exact (Below.heap_alloc _ _ _ (by first | (simp; done) | (simp; omega))).trans ((Below.heap_alloc _ _ _ (by simp)).trans (by simpa using h1))
  obtain ⟨b0, b1, b3, hbel⟩ := hb
  have i0 : I64 0 := by unfold I64; omega
  have i1 : I64 1 := by unfold I64; omega
  have i3 : I64 3 := by unfold I64; omega
  have hblk : RBlk W4 (N + 1) 0 ⟨[], [], ⟨3, 0, []⟩⟩ := ⟨⟨none, 0, cell_of_block b1 0, sl_nil8⟩, ⟨none, 0, cell_of_block b1 1, sl_nil8⟩, ⟨cell_of_block b1 2, i3⟩, ⟨cell_of_block b1 3, i0⟩, ⟨none, 0, cell_of_block b1 4, sl_nil8⟩⟩
  have hfun : RFun W4 (N + 1 + 1 + 1) 0 f8 := ⟨⟨cell_of_block b3 0, i1⟩, ⟨cell_of_block b3 1, i1⟩, ⟨some ⟨N, 0, none⟩, 1, cell_of_block b3 2, SL.one ⟨cell_of_block b0 0, i1⟩⟩, ⟨some ⟨N + 1, 0, none⟩, 1, cell_of_block b3 3, SL.one hblk⟩⟩
  have hsm : SmallM [f8] := ⟨by simp, fun f hf => by rw [List.mem_singleton.1 hf]; exact ⟨by simp [f8], by simp [f8], by simp [f8], fun b hb => by simp [f8] at hb; subst hb; exact ⟨by simp, by simp, by simp, by simp, by simp⟩⟩⟩
  have hlv := live_any [f8] 0 (.agg #[.slice (some ⟨N + 1 + 1 + 1, 0, none⟩) 1 1]) W4 ⟨_, _, rfl, SL.one hfun⟩ hsm
  have HLV := Lib.hid hlv
  have HBEL := Lib.hid hbel
  have HNN := Lib.hid hN
  rw [← hN, ← hW4]
  clear hlv hbel hsm hfun hblk b0 b1 b3 hW4 hN i0 i1 i3
  refine HLV.out.mono ?_
  rintro e w5 ⟨⟨va, vb, ve, rfl, hc⟩, hb5⟩
  have hc2 : ∃ (G3 G4 : Nat) (A E : Nat → Nat → Bool), va = .slice (some ⟨G3, 0, none⟩) 1 1 ∧ vb = .slice (some ⟨G4, 0, none⟩) 1 1 ∧ ve = .nilIface ∧ BG1 w5 G3 1 1 A ∧ BG1 w5 G4 1 1 E ∧ A 0 0 = true ∧ E 0 0 = false := by
    rcases hc with ⟨-, -, ⟨h, -⟩ | ⟨-, h, -⟩⟩ | ⟨-, h0, k, f, G3, G4, A, E, hk, hf, h1, h2, -, -, h3, h4, h5, h6, -⟩
    · exact absurd proper8 h
    · exact absurd ⟨by omega, by simp⟩ h
    · obtain rfl : k = 0 := by omega
      obtain rfl : f8 = f := by simpa using hf
      refine ⟨G3, G4, A, E, h1, h2, h0, h3, h4, ?_, ?_⟩
      · exact (h5 0 0).2 (.use (x := ⟨[], [], ⟨3, 0, []⟩⟩) rfl (by decide) rfl)
      · cases hE : E 0 0
        · rfl
        · exfalso
          have h7 := (h6 0 0).1 hE
          cases h7 with
          | along ha =>
            obtain ⟨x, hx, p, hp, -⟩ := ha
            have : x = ⟨[], [], ⟨3, 0, []⟩⟩ := List.mem_singleton.1 (List.mem_of_getElem? hx)
            rw [this] at hp; cases hp
          | back ht hb _ =>
            have ht1 := ht
            simp [f8] at ht1
            subst ht1
            exact absurd hb (by decide)
  obtain ⟨G3, G4, A, E, rfl, rfl, rfl, hA, hE, hA0, hE0⟩ := hc2
  obtain ⟨x1, x2, -⟩ := hA.at_ (a := 0) (r := 0) (by omega) (by omega)
  obtain ⟨y1, y2, -⟩ := hE.at_ (a := 0) (r := 0) (by omega) (by omega)
  rw [hA0] at x2
  rw [hE0] at y2
  have HB5 : Hid (Below w.heap.size w w5) := Lib.hid ((HNN.out ▸ HBEL.out).trans (hb5.mono (by have := HBEL.out.size; have := HNN.out; omega)))
  clear hc hb5 hA hE hA0 hE0
  go_wp2_with fail
  go_ret
  exact ⟨rfl, HB5.out⟩
end Go.Proofs.Ytflbooopgjgkbaa

/- The walk of LiveNone. -/
namespace Go.Proofs.Ytflbooopgjgkbaa
open Go.ChangeShapes Go.WideShapes Go.RowKit Go.Deep
set_option linter.unusedVariables false

theorem ctA_pos {l : List Int} {r : Nat} (h : (r : Int) ∈ l) : 0 < ctA l r := List.countP_pos_iff.2 ⟨_, h, by simp⟩
theorem ctF_mono {bs : List BlkD} {i j r : Nat} (h : i ≤ j) : ctF bs i r ≤ ctF bs j r := by
  induction j with
  | zero =>
    obtain rfl : i = 0 := by omega
    exact Nat.le_refl _
  | succ j ih =>
    by_cases e : i = j + 1
    · subst e; exact Nat.le_refl _
    · have h1 := ih (by omega)
      cases hk : bs[j]? with
      | none =>
        have e2 : bs.take (j + 1) = bs.take j := by
          have := List.getElem?_eq_none_iff.1 hk
          rw [List.take_of_length_le (by omega), List.take_of_length_le (by omega)]
        unfold ctF at h1 ⊢; rw [e2]; exact h1
      | some k => rw [ctF_succ hk]; omega
theorem ctF_ge {bs : List BlkD} {b r : Nat} {k : BlkD} (h : bs[b]? = some k) : ctK k r ≤ ctF bs bs.length r := by
  have h1 := ctF_mono (bs := bs) (r := r) (i := b + 1) (j := bs.length) (by have := (List.getElem?_eq_some_iff.1 h).1; omega)
  rw [ctF_succ h] at h1; omega
theorem sum_pos_of {l : List Nat} {x : Nat} (h : x ∈ l) (hx : 0 < x) : 0 < l.sum := by
  induction l with
  | nil => cases h
  | cons a l ih =>
    rw [List.sum_cons]
    rcases List.mem_cons.1 h with rfl | h
    · omega
    · have := ih h; omega
theorem ctI_pos {k : BlkD} {x : InsD} {r : Nat} (hx : x ∈ k.ins) (hr : (r : Int) ∈ x.args) : 0 < ctI k.ins k.ins.length r := by
  unfold ctI
  rw [List.take_length]
  exact sum_pos_of (List.mem_map.2 ⟨x, hx, rfl⟩) (ctA_pos hr)
theorem ctP_pos {k : BlkD} {x : PhiD} {r : Nat} (hx : x ∈ k.phis) (hr : (r : Int) ∈ x.args) : 0 < ctP k.phis k.phis.length r := by
  unfold ctP
  rw [List.take_length]
  exact sum_pos_of (List.mem_map.2 ⟨x, hx, rfl⟩) (ctA_pos hr)
theorem usK_named {R : Nat} {k : BlkD} (h : UseOk R k) {r : Nat} (i : Nat) (hr : r ∈ usK k.ins i) : ∃ x ∈ k.ins, (r : Int) ∈ x.args := by
  induction i with
  | zero => simp [usK] at hr
  | succ i ih =>
    cases hx : k.ins[i]? with
    | none =>
      have e : usK k.ins (i + 1) = usK k.ins i ++ [] := by show usK k.ins i ++ (match k.ins[i]? with | some x => _ | none => _) = _; rw [hx]
      rw [e, List.append_nil] at hr; exact ih hr
    | some x =>
      rw [usK_succ hx] at hr
      rcases List.mem_append.1 hr with hr | hr
      · exact ih hr
      · unfold usA at hr
        obtain ⟨a, ha, e⟩ := List.mem_map.1 (List.mem_filter.1 hr).1
        have h1 := (h.ins x (List.mem_of_getElem? hx)).1 a ha
        refine ⟨x, List.mem_of_getElem? hx, ?_⟩
        have : a = (r : Int) := by have := h1.1; omega
        rw [← this]; exact ha
theorem usB_named {R : Nat} {k : BlkD} (h : UseOk R k) {r : Nat} (hr : r ∈ usB k) : 0 < ctK k r := by
  unfold usB at hr
  unfold ctK
  rcases List.mem_append.1 hr with hr | hr
  · obtain ⟨x, hx, hm⟩ := usK_named h _ hr
    have := ctI_pos hx hm; omega
  · unfold usE at hr
    split at hr
    · rename_i h1
      have e := List.mem_singleton.1 hr
      rw [if_pos (by omega)]; omega
    · cases hr
theorem want_named {f : FunD} (h : LvOk f) {z : Bool} {b r : Nat} (hw : Want f.blocks z b r) : 0 < ctF f.blocks f.blocks.length r := by
  induction hw with
  | use hx hr _ => exact Nat.lt_of_lt_of_le (usB_named (h.use _ _ hx) hr) (ctF_ge hx)
  | thru _ _ _ _ ih => exact ih
  | along ha =>
    obtain ⟨x, hx, p, hp, hm⟩ := ha
    unfold prP at hm
    obtain ⟨y, hy, e⟩ := List.mem_map.1 hm
    have h1 := (List.of_mem_zip hy).2
    have h2 := ((h.phi _ _ hx).2 p hp).2.2 y.2 h1
    injection e with h3 h4
    subst h4
    refine Nat.lt_of_lt_of_le ?_ (ctF_ge hx)
    unfold ctK
    have := ctP_pos (r := y.2.toNat) hp (show ((y.2.toNat : Nat) : Int) ∈ p.args by rw [show ((y.2.toNat : Nat) : Int) = y.2 by have := h2.1; omega]; exact h1)
    omega
  | back _ _ _ ih => exact ih

set_option maxRecDepth 100000 in
set_option maxHeartbeats 16000000 in
theorem liveNone_walk (m : List FunD) (n : Int) (v : Value) (w : World) (hv : VMod w v m) :
    Calls Try.prog 7 #[v, .int .i64 n] w fun e w' => e = .returned (.bool true) ∧ Below w.heap.size w w' := by
  have hv0 := hv
  obtain ⟨Am, cm, rfl, hm⟩ := hv
  have HV := Lib.hid hv0
  clear hm hv0
  go_enter Try.func7, Try.ntmps7
  go_upto_region 1 with fail
  obtain ⟨w1, hw1, hs1, hk1, hbel1, hc1, -⟩ := named w #[.slice Am m.length cm] 38
  rw [← hw1]
  have c0 : w1.cell? ⟨w.heap.size, 0, none⟩ = some (.slice Am m.length cm) := hc1 0 _ rfl
  have HB1 := Lib.hid hbel1
  have HS1 : Hid (w1.heap.size = w.heap.size + 1) := Lib.hid hs1
  obtain ⟨N, hN⟩ : ∃ N, N = w.heap.size := ⟨_, rfl⟩
  have HN := Lib.hid hN
  rw [← hN] at c0 ⊢
  clear hw1 hs1 hk1 hc1 hbel1 hN
  go_wp2_with fail
  refine (up8_any w1).mono ?_
  rintro e w2 ⟨rfl, hb2⟩
  have c0 := kept_of_below hb2 _ _ c0
  have HB2 : Hid (Below w.heap.size w w2) := Lib.hid (HB1.out.trans (hb2.mono (by have := HS1.out; omega)))
  clear hb2
  go_wp2_with fail
  refine (small_any m _ w2 (VMod.keep (kept_of_below HB2.out) HV.out)).mono ?_
  rintro e w3 ⟨⟨bs, rfl, hsm⟩, hb3⟩
  have c0 := kept_of_below hb3 _ _ c0
  have HB3 : Hid (Below w.heap.size w w3) := Lib.hid (HB2.out.trans (hb3.mono HB2.out.size))
  cases bs
  · clear hb3 hsm
    go_wp2_with fail
    go_ret
    exact ⟨rfl, HB3.out⟩
  · have HSM := Lib.hid (hsm rfl)
    clear hb3 hsm
    go_wp2_with fail
    refine (live_any m n _ w3 (VMod.keep (kept_of_below HB3.out) HV.out) HSM.out).mono ?_
    rintro e w4 ⟨⟨va, vb, ve, rfl, hL⟩, hb4⟩
    have c0 := kept_of_below hb4 _ _ c0
    have HB4 : Hid (Below w.heap.size w w4) := Lib.hid (HB3.out.trans (hb4.mono HB3.out.size))
    have HL := Lib.hid hL
    clear hb4 hL
    go_wp2_with fail
    refine (count_any m n _ w4 (VMod.keep (kept_of_below HB4.out) HV.out) HSM.out).mono ?_
    rintro e w5 ⟨⟨vc, vf, rfl, hC⟩, hb5⟩
    have HB5 : Hid (Below w.heap.size w w5) := Lib.hid (HB4.out.trans (hb5.mono HB4.out.size))
    have HB45 := Lib.hid hb5
    have HC := Lib.hid hC
    clear hb5 hC c0
    rcases HL.out with ⟨rfl, rfl, hE⟩ | ⟨hp, rfl, k, f, G3, G4, A, E, rfl, hf, rfl, rfl, -, -, hA, hEE, hwA, hwE, hok⟩
    · obtain ⟨t1, x1, hve⟩ : ∃ t x, ve = .iface t x := by
        rcases hE with ⟨h1, h2⟩ | ⟨_, _, h2⟩
        · exact err_form h2 h1
        · exact ⟨_, _, h2⟩
      obtain ⟨t2, x2, hvf⟩ : ∃ t x, vf = .iface t x := by
        rcases HC.out with ⟨-, h⟩ | ⟨h1, -, k, f, G, h2, h3, -⟩
        · rcases h with ⟨h1, h2⟩ | ⟨_, _, h2⟩
          · exact err_form h2 h1
          · exact ⟨_, _, h2⟩
        · exfalso
          rcases hE with ⟨h4, _⟩ | ⟨_, h4, _⟩
          · exact h4 h1
          · have := (List.getElem?_eq_some_iff.1 h3).1
            exact h4 ⟨by omega, by omega⟩
      subst hve hvf
      clear hE
      go_wp2_with fail
      go_ret
      exact ⟨rfl, HB5.out⟩
    · have hkl := (List.getElem?_eq_some_iff.1 hf).1
      obtain ⟨G, rfl, rfl, hct⟩ : ∃ G, vc = .slice (some ⟨G, 0, none⟩) f.regs.length f.regs.length ∧ vf = .nilIface ∧ w5.rowIs G 3 f.regs.length (fun r => .int .i64 (ctF f.blocks f.blocks.length r : Int)) := by
        rcases HC.out with ⟨-, h⟩ | ⟨h1, h0, k2, f2, G, h2, h3, h4, -, h5, -⟩
        · exfalso
          rcases h with ⟨h4, _⟩ | ⟨_, h4, _⟩
          · exact h4 hp
          · exact h4 ⟨by omega, by omega⟩
        · obtain rfl : k = k2 := by omega
          obtain rfl : f = f2 := Option.some.inj (hf.symm.trans h3)
          exact ⟨G, h4, h0, h5⟩
      have hA5 := hA.of_blocks (w' := w5) (fun y h1 h2 => HB45.out.block y (by
        by_cases e : y = G3
        · subst e; exact hA.row.lt
        · obtain ⟨a, rfl⟩ : ∃ a, y = G3 + 1 + a := ⟨y - G3 - 1, by omega⟩
          exact (hA.cells a (by omega)).lt))
      have hE5 := hEE.of_blocks (w' := w5) (fun y h1 h2 => HB45.out.block y (by
        by_cases e : y = G4
        · subst e; exact hEE.row.lt
        · obtain ⟨a, rfl⟩ : ∃ a, y = G4 + 1 + a := ⟨y - G4 - 1, by omega⟩
          exact (hEE.cells a (by omega)).lt))
      have HA := Lib.hid hA5
      have HE := Lib.hid hE5
      have HCT := Lib.hid hct
      have HN0 : Hid (∀ b r, (A b r = true ∨ E b r = true) → ctF f.blocks f.blocks.length r ≠ 0) := Lib.hid (fun b r h e => by
        rcases h with h | h
        · have := want_named hok ((hwA b r).1 h); omega
        · have := want_named hok ((hwE b r).1 h); omega)
      have hnb := hok.nb
      have hnr := hok.nr
      have HCF := Lib.hid (fun r => ctF_le hok f.blocks.length r)
      obtain ⟨nb, hnbe⟩ : ∃ nb, f.blocks.length = nb := ⟨_, rfl⟩
      obtain ⟨R, hRe⟩ : ∃ R, f.regs.length = R := ⟨_, rfl⟩
      rw [hnbe] at hnb HA HE ⊢
      rw [hRe] at hnr HA HE HCT ⊢
      have HNE := Lib.hid hnbe
      clear hp hf hA hEE hwA hwE hok hkl hct hA5 hE5 hnbe hRe HC HL
      go_wp2_with fail
      go_loopw [12] (fun s12 wq => ∃ i : Nat, i ≤ nb ∧ s12 = .int .i64 (i : Int) ∧ wq = w5) (fun s12 _ => nb - (intOf s12).toNat)
      case atStart => exact ⟨0, Nat.zero_le _, rfl, rfl⟩
      case round =>
        obtain ⟨i, hi, rfl, hww⟩ := hrel
        subst hww
        by_cases hil : i < nb
        · have x1 := HA.out.row.cell hil
          have y1 := HE.out.row.cell hil
          have hi0 : (0 : Int) ≤ i := by omega
          have hi1 : (i : Int) < nb := by omega
          have hrr : ((R : Int) != R) = false := by simp
          go_wp2_with fail
          obtain ⟨w5, rfl⟩ : ∃ w5, w5 = wr := ⟨_, rfl⟩
          go_loopw [13] (fun s13 wq => ∃ r : Nat, r ≤ R ∧ s13 = .int .i64 (r : Int) ∧ wq = w5) (fun s13 _ => R - (intOf s13).toNat)
          case atStart => exact ⟨0, Nat.zero_le _, rfl, rfl⟩
          case round =>
            obtain ⟨r, hr, rfl, hww⟩ := hrel
            subst hww
            by_cases hrl : r < R
            · have x2 := (HA.out.cells i hil).cell hrl
              have y2 := (HE.out.cells i hil).cell hrl
              have z := HCT.out.cell hrl
              have HN1 := Lib.hid (HN0.out i r)
              have hr0 : (0 : Int) ≤ r := by omega
              have hr1 : (r : Int) < R := by omega
              rw [HNE.out] at HN1 z
              generalize ctF f.blocks nb r = q at *
              by_cases hq : q = 0
              · subst hq
                have ha : A i r = false := by cases h : A i r; rfl; exact absurd rfl (HN1.out (.inl h))
                have he : E i r = false := by cases h : E i r; rfl; exact absurd rfl (HN1.out (.inr h))
                rw [ha] at x2
                rw [he] at y2
                clear ha he
                go_wp2_with fail
                go_roundw
                case rel => exact ⟨r + 1, by omega, by go_num, trivial⟩
                case measure => simp [intOf]; omega
              · have hq1 : ((q : Int) == 0) = false := by rw [beq_eq_false_iff_ne]; omega
                clear hq x2 y2
                go_wp2_with fail
                go_roundw
                case rel => exact ⟨r + 1, by omega, by go_num, trivial⟩
                case measure => simp [intOf]; omega
            · obtain rfl : r = R := by omega
              go_wp2_with fail
              go_roundw
              case rel => exact ⟨i + 1, by omega, by go_num, trivial⟩
              case measure => simp [intOf]; omega
        · obtain rfl : i = nb := by omega
          go_wp2_with fail
          go_ret
          exact ⟨rfl, HB5.out⟩
end Go.Proofs.Ytflbooopgjgkbaa

/- Functions and modules that came in as arguments: what they read as. -/
namespace Go.Proofs.Ytflbooopgjgkbaa
open Go.ChangeShapes Go.WideShapes Go.RowKit Go.Deep
set_option linter.unusedVariables false

section
variable {H : Type} {enc : TypeId × Value → H} {P : Program} {w : World} {base : Nat} {spare : Nat → Bool} {held : Bool}

theorem struct_field {t : TypeId} {fs : Array Field} {fuel : Nat} {cs : List Value} {y : DataW H × List MemPlace} (ht : P.underlying t = some (.struct fs)) (h : DataW.trod enc P w base spare held fuel t cs = some y)
    (i : Nat) (f : Field) (hf : fs[i]? = some f) : ∃ n z, DataW.trod enc P w base spare held n f.type ((cs.drop f.offset).take (P.cellsOf f.type)) = some z := by
  obtain ⟨xs, n, _, _, _, hlen, hx⟩ := DataW.trod_struct ht h
  have hi : i < xs.length := by rw [hlen]; exact (Array.getElem?_eq_some_iff.1 hf).1
  exact ⟨n, xs[i], (hx i f hf).trans (List.getElem?_eq_getElem hi)⟩
theorem field_of {t : TypeId} {fs : Array Field} {fuel : Nat} {cs : List Value} {y : DataW H × List MemPlace} (ht : P.underlying t = some (.struct fs)) (h : DataW.trod enc P w base spare held fuel t cs = some y)
    (i : Nat) {f : Field} (hf : fs[i]? = some f) {t' : TypeId} {c k : Nat} (hft : f.type = t') (hk : f.offset = k) (hc : P.cellsOf t' = c) : ∃ n z, DataW.trod enc P w base spare held n t' ((cs.drop k).take c) = some z := by
  subst hft hk hc
  exact struct_field ht h i f hf
theorem drop_take_one {cs : List Value} {k : Nat} (hk : k < cs.length) : (cs.drop k).take 1 = [cs[k]] := by
  rw [List.drop_eq_getElem_cons hk]; rfl
theorem int_field {t : TypeId} {n k : Nat} {cs : List Value} {z : DataW H × List MemPlace} (ht : P.underlying t = some (.int .i64)) (hk : k < cs.length) (h : DataW.trod enc P w base spare held n t ((cs.drop k).take 1) = some z) :
    ∃ x, cs[k]? = some (.int .i64 x) ∧ I64 x := by
  rw [drop_take_one hk] at h
  obtain ⟨x, hx, _, hw⟩ := DataW.trod_int ht h
  exact ⟨x, by rw [List.getElem?_eq_getElem hk]; exact congrArg some (List.cons.inj hx).1, wf_i64 hw⟩
theorem slice_field {α : Type} [Inhabited α] {t e : TypeId} {sz : Nat} {R : World → Nat → Nat → α → Prop} {n k : Nat} {cs : List Value} {z : DataW H × List MemPlace} (ht : P.underlying t = some (.slice e)) (hsz : P.cellsOf e = sz) (hpos : 0 < sz)
    (hR : Opens enc P w base spare held e sz R) (hk : k < cs.length) (h : DataW.trod enc P w base spare held n t ((cs.drop k).take 1) = some z) : ∃ A c xs, cs[k]? = some (.slice A xs.length c) ∧ SL w sz R A c xs := by
  rw [drop_take_one hk] at h
  obtain ⟨xs, A, c, e, hs⟩ := open_vs ht hsz hpos hR h
  exact ⟨A, c, xs, by rw [List.getElem?_eq_getElem hk, e], hs⟩
end

theorem Try.cells3 : Try.prog.cellsOf 3 = 1 := by kernel_rfl
theorem Try.cells2 : Try.prog.cellsOf 2 = 1 := by kernel_rfl
theorem Try.cells22 : Try.prog.cellsOf 22 = 1 := by kernel_rfl
theorem Try.cells49 : Try.prog.cellsOf 49 = 1 := by kernel_rfl
theorem Try.cells50 : Try.prog.cellsOf 50 = 1 := by kernel_rfl
theorem Try.cells23 : Try.prog.cellsOf 23 = 1 := by kernel_rfl
theorem Try.cells36 : Try.prog.cellsOf 36 = 1 := by kernel_rfl
theorem Try.cells83 : Try.prog.cellsOf 83 = 2 := by kernel_rfl
theorem Try.cells55 : Try.prog.cellsOf 55 = 5 := by kernel_rfl
theorem Try.cells48 : Try.prog.cellsOf 48 = 3 := by kernel_rfl
theorem Try.cells52 : Try.prog.cellsOf 52 = 5 := by kernel_rfl
theorem Try.cells25 : Try.prog.cellsOf 25 = 4 := by kernel_rfl
theorem Try.cells38 : Try.prog.cellsOf 38 = 1 := by kernel_rfl

section
variable {H : Type} {enc : TypeId × Value → H} {w : World} {base : Nat} {spare : Nat → Bool} {held : Bool}

theorem opens_int : Opens enc Try.prog w base spare held 3 1 RInt := fun n b o cs y hlen hat h => by
  obtain ⟨x, rfl, _, hw⟩ := DataW.trod_int Try.underlying3 h
  exact ⟨x, (hat 0 (by omega)).trans rfl, wf_i64 hw⟩
theorem field_int {fs : Array Field} {t : TypeId} {fuel : Nat} {cs : List Value} {y : DataW H × List MemPlace} (ht : Try.prog.underlying t = some (.struct fs)) (h : DataW.trod enc Try.prog w base spare held fuel t cs = some y)
    (i : Nat) (f : Field) (hf : fs[i]? = some f) (hft : f.type = 3) (hk : f.offset < cs.length) : ∃ x, cs[f.offset]? = some (.int .i64 x) ∧ I64 x := by
  obtain ⟨n, z, hz⟩ := struct_field ht h i f hf
  rw [hft, Try.cells3] at hz
  exact int_field Try.underlying3 hk hz
theorem field_int64 {fs : Array Field} {t : TypeId} {fuel : Nat} {cs : List Value} {y : DataW H × List MemPlace} (ht : Try.prog.underlying t = some (.struct fs)) (h : DataW.trod enc Try.prog w base spare held fuel t cs = some y)
    (i : Nat) (f : Field) (hf : fs[i]? = some f) (hft : f.type = 2) (hk : f.offset < cs.length) : ∃ x, cs[f.offset]? = some (.int .i64 x) ∧ I64 x := by
  obtain ⟨n, z, hz⟩ := struct_field ht h i f hf
  rw [hft, Try.cells2] at hz
  exact int_field Try.underlying2 hk hz
theorem field_ints {fs : Array Field} {t : TypeId} {fuel : Nat} {cs : List Value} {y : DataW H × List MemPlace} (ht : Try.prog.underlying t = some (.struct fs)) (h : DataW.trod enc Try.prog w base spare held fuel t cs = some y)
    (i : Nat) (f : Field) (hf : fs[i]? = some f) (hft : f.type = 22) (hk : f.offset < cs.length) : ∃ A c, ∃ xs : List Int, cs[f.offset]? = some (.slice A xs.length c) ∧ SL w 1 RInt A c xs := by
  obtain ⟨n, z, hz⟩ := struct_field ht h i f hf
  rw [hft, Try.cells22] at hz
  exact slice_field Try.underlying22 Try.cells3 (by omega) opens_int hk hz
theorem opens_phi : Opens enc Try.prog w base spare held 83 2 RPhi := fun n b o cs y hlen hat h => by
  obtain ⟨x, h0, w0⟩ := field_int Try.underlying83 h 0 _ rfl rfl (by simp; omega)
  obtain ⟨A, c, xs, h1, w1⟩ := field_ints Try.underlying83 h 1 _ rfl rfl (by simp; omega)
  exact ⟨⟨x, xs⟩, ⟨(hat 0 (by omega)).trans h0, w0⟩, A, c, (hat 1 (by omega)).trans h1, w1⟩
theorem opens_ins : Opens enc Try.prog w base spare held 55 5 RIns := fun n b o cs y hlen hat h => by
  obtain ⟨x0, h0, w0⟩ := field_int Try.underlying55 h 0 _ rfl rfl (by simp; omega)
  obtain ⟨x1, h1, w1⟩ := field_int Try.underlying55 h 1 _ rfl rfl (by simp; omega)
  obtain ⟨A, c, xs, h2, w2⟩ := field_ints Try.underlying55 h 2 _ rfl rfl (by simp; omega)
  obtain ⟨x3, h3, w3⟩ := field_int64 Try.underlying55 h 3 _ rfl rfl (by simp; omega)
  obtain ⟨x4, h4, w4⟩ := field_int Try.underlying55 h 4 _ rfl rfl (by simp; omega)
  exact ⟨⟨x0, x1, xs, x3, x4⟩, ⟨(hat 0 (by omega)).trans h0, w0⟩, ⟨(hat 1 (by omega)).trans h1, w1⟩, ⟨A, c, (hat 2 (by omega)).trans h2, w2⟩, ⟨(hat 3 (by omega)).trans h3, w3⟩, ⟨(hat 4 (by omega)).trans h4, w4⟩⟩
theorem opens_blk : Opens enc Try.prog w base spare held 52 5 RBlk := fun n b o cs y hlen hat h => by
  obtain ⟨n0, z0, hz0⟩ := field_of Try.underlying52 h 0 rfl rfl rfl Try.cells49
  obtain ⟨A0, c0, ps, h0, w0⟩ := slice_field Try.underlying49 Try.cells83 (by omega) opens_phi (by simp; omega) hz0
  obtain ⟨n1, z1, hz1⟩ := field_of Try.underlying52 h 1 rfl rfl rfl Try.cells50
  obtain ⟨A1, c1, is, h1, w1⟩ := slice_field Try.underlying50 Try.cells55 (by omega) opens_ins (by simp; omega) hz1
  obtain ⟨n2, z2, hz2⟩ := field_of Try.underlying52 h 2 rfl rfl rfl Try.cells48
  have hl2 : ((cs.drop 2).take 3).length = 3 := by simp; omega
  obtain ⟨x2, h2, w2⟩ := field_int Try.underlying48 hz2 0 _ rfl rfl (by simp; omega)
  obtain ⟨x3, h3, w3⟩ := field_int Try.underlying48 hz2 1 _ rfl rfl (by simp; omega)
  obtain ⟨A4, c4, xs, h4, w4⟩ := field_ints Try.underlying48 hz2 2 _ rfl rfl (by simp; omega)
  have g (i : Nat) (hi : i < 3) : ((cs.drop 2).take 3)[i]? = cs[2 + i]? := by rw [List.getElem?_take_of_lt hi, List.getElem?_drop]
  exact ⟨⟨ps, is, ⟨x2, x3, xs⟩⟩, ⟨A0, c0, (hat 0 (by omega)).trans h0, w0⟩, ⟨A1, c1, (hat 1 (by omega)).trans h1, w1⟩, ⟨(hat 2 (by omega)).trans ((g 0 (by omega)).symm.trans h2), w2⟩, ⟨(hat 3 (by omega)).trans ((g 1 (by omega)).symm.trans h3), w3⟩, ⟨A4, c4, (hat 4 (by omega)).trans ((g 2 (by omega)).symm.trans h4), w4⟩⟩
theorem opens_fun : Opens enc Try.prog w base spare held 25 4 RFun := fun n b o cs y hlen hat h => by
  obtain ⟨x0, h0, w0⟩ := field_int Try.underlying25 h 0 _ rfl rfl (by simp; omega)
  obtain ⟨x1, h1, w1⟩ := field_int Try.underlying25 h 1 _ rfl rfl (by simp; omega)
  obtain ⟨A2, c2, xs, h2, w2⟩ := field_ints Try.underlying25 h 2 _ rfl rfl (by simp; omega)
  obtain ⟨n3, z3, hz3⟩ := field_of Try.underlying25 h 3 rfl rfl rfl Try.cells23
  obtain ⟨A3, c3, bs, h3, w3⟩ := slice_field Try.underlying23 Try.cells52 (by omega) opens_blk (by simp; omega) hz3
  exact ⟨⟨x0, x1, xs, bs⟩, ⟨(hat 0 (by omega)).trans h0, w0⟩, ⟨(hat 1 (by omega)).trans h1, w1⟩, ⟨A2, c2, (hat 2 (by omega)).trans h2, w2⟩, ⟨A3, c3, (hat 3 (by omega)).trans h3, w3⟩⟩

set_option maxRecDepth 100000 in
/-- A function by value. -/
theorem open_fun {r : Go.Reach} {b0 : Nat} {v : Value} {d : DataW H} {p : List MemPlace} (hv : Value.okWide Try.prog w r b0 25 v) (h : DataW.Trod enc Try.prog w base spare held 25 v d p) : ∃ f, VFun w v f := by
  obtain ⟨cs, rfl, hsz⟩ := okWide_struct Try.underlying25 hv
  rw [Try.cells25] at hsz
  obtain ⟨l⟩ := cs
  match l, hsz with
  | [a, b, c, d], _ =>
    obtain ⟨fuel, hf⟩ := h
    have hf : DataW.trod enc Try.prog w base spare held fuel 25 [a, b, c, d] = some (_, p) := hf
    obtain ⟨x0, h0, w0⟩ := field_int Try.underlying25 hf 0 _ rfl rfl (by simp)
    obtain ⟨x1, h1, w1⟩ := field_int Try.underlying25 hf 1 _ rfl rfl (by simp)
    obtain ⟨A2, c2, xs, h2, w2⟩ := field_ints Try.underlying25 hf 2 _ rfl rfl (by simp)
    obtain ⟨n3, z3, hz3⟩ := field_of Try.underlying25 hf 3 rfl rfl rfl Try.cells23
    obtain ⟨A3, c3, bs, h3, w3⟩ := slice_field Try.underlying23 Try.cells52 (by omega) opens_blk (by simp) hz3
    obtain rfl := Option.some.inj h0
    obtain rfl := Option.some.inj h1
    obtain rfl := Option.some.inj h2
    obtain rfl := Option.some.inj h3
    exact ⟨⟨x0, x1, xs, bs⟩, A2, c2, A3, c3, rfl, w2, w3, w0, w1⟩
set_option maxRecDepth 100000 in
/-- A module by value. -/
theorem open_mod {r : Go.Reach} {b0 : Nat} {v : Value} {d : DataW H} {p : List MemPlace} (hv : Value.okWide Try.prog w r b0 38 v) (h : DataW.Trod enc Try.prog w base spare held 38 v d p) : ∃ m, VMod w v m := by
  obtain ⟨cs, rfl, hsz⟩ := okWide_struct Try.underlying38 hv
  rw [Try.cells38] at hsz
  obtain ⟨l⟩ := cs
  match l, hsz with
  | [a], _ =>
    obtain ⟨fuel, hf⟩ := h
    have hf : DataW.trod enc Try.prog w base spare held fuel 38 [a] = some (_, p) := hf
    obtain ⟨n3, z3, hz3⟩ := field_of Try.underlying38 hf 0 rfl rfl rfl Try.cells36
    obtain ⟨A3, c3, bs, h3, w3⟩ := slice_field Try.underlying36 Try.cells25 (by omega) opens_fun (by simp) hz3
    obtain rfl := Option.some.inj h3
    exact ⟨bs, A3, c3, rfl, w3⟩
end
end Go.Proofs.Ytflbooopgjgkbaa
