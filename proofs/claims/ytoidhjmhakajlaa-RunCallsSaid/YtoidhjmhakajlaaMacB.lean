/- The machine's registers are set; a function is entered; a word of memory. -/
import Derived.Test.YtoidhjmhakajlaaMacA
import Derived.Laws.IdiomCopy
namespace Go.Proofs.Ytoidhjmhakajlaa
open Go.ChangeShapes Go.WideShapes Go.RowKit Go.Deep
set_option linter.unusedVariables false

def withR (s : St) (f : Nat → Int) : St := { s with cur := { s.cur with regs := f } }
def putR (r : Nat → Int) : Nat → List Int → (Nat → Int)
  | _, [] => r
  | n, v :: l => putR (upd r n v) (n + 1) l
theorem putR_at (l : List Int) : ∀ (r : Nat → Int) (n i : Nat), putR r n l i = if n ≤ i ∧ i < n + l.length then l.getD (i - n) 0 else r i := by
  induction l with
  | nil => intro r n i; simp [putR]; omega
  | cons v l ih =>
    intro r n i
    simp only [putR, ih, List.length_cons]
    by_cases h : i = n
    · subst h
      rw [if_neg (show ¬ (i + 1 ≤ i ∧ i < i + 1 + l.length) by omega), if_pos (show i ≤ i ∧ i < i + (l.length + 1) by omega)]
      simp [upd]
    · by_cases h2 : n + 1 ≤ i ∧ i < n + 1 + l.length
      · rw [if_pos h2, if_pos (show n ≤ i ∧ i < n + (l.length + 1) by omega), show i - n = (i - (n + 1)) + 1 by omega, List.getD_cons_succ]
      · rw [if_neg h2, if_neg (show ¬ (n ≤ i ∧ i < n + (l.length + 1)) by omega)]
        unfold upd; rw [if_neg h]
theorem MacB.withR {P : Nat} {w : World} {s : St} {q : MV} (h : MacB P w s q) {f : Nat → Int} (hf : ∀ i, i < 256 → f i = s.cur.regs i) : MacB P w (withR s f) q := by
  have e : macC s q = macC (Go.Proofs.Ytoidhjmhakajlaa.withR s f) q := by
    apply Array.ext
    · rw [macC_size, macC_size]
    · intro j h1 h2
      have hj : j < 332 := Nat.lt_of_lt_of_eq h1 (macC_size s q)
      simp only [macC, Array.getElem_ofFn]
      by_cases h1 : j < 3
      · rw [cellM_lo _ _ h1, cellM_lo _ _ h1]; rfl
      · by_cases h2 : j < 259
        · rw [cellM_regs _ _ (Nat.not_lt.1 h1) h2, cellM_regs _ _ (Nat.not_lt.1 h1) h2]
          show _ = Value.int .i64 (f (j - 3)); rw [hf (j - 3) (by omega)]
        · by_cases h3 : j < 268
          · rw [cellM_mid _ _ (Nat.not_lt.1 h2) h3, cellM_mid _ _ (Nat.not_lt.1 h2) h3]; rfl
          · rw [cellM_hi _ _ (Nat.not_lt.1 h3), cellM_hi _ _ (Nat.not_lt.1 h3)]; rfl
  exact Eq.trans h (by rw [e])
theorem mac_cells (K : Nat) {P : Nat} {q : MV} (hP : P < K) : ∀ (l : List Int) (n : Nat) (w : World) (s : St), MacB P w s q → n + l.length ≤ 256 →
    MacB P (w.setCells P (3 + n) (l.map (Value.int .i64))) (withR s (putR s.cur.regs n l)) q ∧ BB K P w (w.setCells P (3 + n) (l.map (Value.int .i64))) ∧ (w.setCells P (3 + n) (l.map (Value.int .i64))).heap.size = w.heap.size ∧
      ∀ k, k < w.heap.size → k ≠ P → (w.setCells P (3 + n) (l.map (Value.int .i64))).heap[k]? = w.heap[k]? := by
  intro l
  induction l with
  | nil => intro n w s h hn; exact ⟨h, BB.refl _ _ _, rfl, fun _ _ _ => rfl⟩
  | cons v l ih =>
    intro n w s h hn
    simp only [List.length_cons] at hn
    have h1 : MacB P (w.setCell ⟨P, 3 + n, none⟩ (.int .i64 v)) (withR s (upd s.cur.regs n v)) q := h.set (set_reg s q n v (by omega) rfl)
    obtain ⟨i1, i2, i3, i4⟩ := ih (n + 1) _ _ h1 (by omega)
    simp only [List.map_cons, World.setCells]
    rw [show 3 + n + 1 = 3 + (n + 1) by omega]
    have hsz : (w.setCell ⟨P, 3 + n, none⟩ (.int .i64 v)).heap.size = w.heap.size := by simp [World.setCell]
    refine ⟨i1, ((BB.refl K P w).setCell (p := ⟨P, 3 + n, none⟩) (.inl rfl) _).trans i2, by rw [i3, hsz], fun k hk hne => (i4 k (by rw [hsz]; exact hk) hne).trans (set_others k hk hne)⟩

theorem zero_cells (n : Nat) : (List.replicate n (0 : Int)).map (Value.int .i64) = List.replicate n (.int .i64 0) := by simp

theorem zero64 (w : World) : (zeroValue 2).run Try.prog w = .ok (.int .i64 0) w := by kernel_rfl
theorem Try.info2 : (Try.prog.info? 2).map (fun i => (i.zero, i.size, i.bytes)) = some (some (.int .i64 0), 1, 8) := by kernel_rfl
theorem size64 : (Try.prog.info? 2).map (·.size) = some 1 := by kernel_rfl
theorem ones (l : List Int) : ∀ v ∈ l.map (Value.int .i64), v.oneCell' = true := fun v hv => by
  obtain ⟨x, _, rfl⟩ := List.mem_map.1 hv; rfl
/-- Numbers are copied into the machine's registers. -/
theorem copy_regs {K P : Nat} {m : List FunD} {w : World} {s : St} {q : MV} (hb : MacB P w s q) {l : List Int} {A : Option Addr} {c : Nat} (hs : SL w 1 RW A c l) (hl : l.length ≤ 256) (ty : TypeId) :
    (Builtin.copy_ #[25, 25] ty #[.slice (some ⟨P, 3, none⟩) 256 256, .slice A l.length c]).run Try.prog w = .ok (goInt l.length) (w.setCells P 3 (l.map (Value.int .i64))) := by
  obtain ⟨hll, hc, hcs⟩ := hs
  by_cases h0 : l.length = 0
  · have : l = [] := List.length_eq_zero_iff.1 h0
    subst this
    exact run_copy_none w _ _ ty 2 _ A 256 256 0 c Try.underlying25 size64 (by simp)
  · obtain ⟨b, o, rfl, hx⟩ := hcs (by omega)
    have := run_copy_cells (P := Try.prog) w 25 25 ty 2 P 3 256 256 ⟨b, o, none⟩ l.length c (l.map (Value.int .i64)) Try.underlying25 size64 (by rw [List.length_map]; exact (Nat.min_eq_left hl).symm)
      (fun j v hj => by
        rw [List.getElem?_map] at hj
        obtain ⟨x, hx1, rfl⟩ := Option.map_eq_some_iff.1 hj
        rw [add_plain']
        have := hx j x hx1
        rwa [Nat.mul_one] at this)
      (fun j hj => by rw [List.length_map] at hj; rw [hb.cell (by omega)]; rfl) (fun j _ => hb.free _) (ones l)
    rwa [List.length_map] at this
/-- The rest of them is cleared. -/
theorem clear_regs {P n : Nat} {w : World} {s : St} {q : MV} (hb : MacB P w s q) (hn : n < 256) (c : Nat) (ty : TypeId) :
    (Builtin.clear_ #[25] ty #[.slice (some ⟨P, 3 + n, none⟩) (256 - n) c]).run Try.prog w = .ok (.tuple #[]) (w.setCells P (3 + n) ((List.replicate (256 - n) (0 : Int)).map (Value.int .i64))) := by
  rw [zero_cells]
  exact Lib.run_clear_slice w 25 2 ty (.int .i64 0) Try.underlying25 zero64 rfl rfl P (3 + n) (256 - n) c (by omega) (fun j hj => by rw [hb.cell (by omega)]; rfl) (fun j _ => hb.free _)
theorem clear_none {w : World} (A : Option Addr) (c : Nat) (ty : TypeId) : (Builtin.clear_ #[25] ty #[.slice A 0 c]).run Try.prog w = .ok (.tuple #[]) w := by
  cases A <;> simp [Builtin.clear_, run_underlying Try.underlying25]

set_option maxRecDepth 100000 in
set_option maxHeartbeats 4000000 in
theorem setRegs_any (K P : Nat) (m : List FunD) (w : World) (s : St) (rd l : List Int) (v : Value) (h : Mac K P m w s rd) (hv : VS w 1 RW v l) (hl : l.length ≤ 256) :
    Calls Try.prog 54 #[.pointer (some ⟨P, 0, none⟩), v] w (ToldM K P m w (withR s (firstR l)) rd) := by
  obtain ⟨q, hb, he, hd, hP, hK⟩ := h
  obtain ⟨A, c, rfl, hs⟩ := hv
  have HB := Lib.hid hb
  have HE := Lib.hid he
  have HD := Lib.hid hd
  have HL := Lib.hid hl
  obtain ⟨g1, g2, g3, g4⟩ := mac_cells K hP l 0 w s hb (by omega)
  have hcp := copy_regs (K := K) (m := m) hb hs hl
  have HG := Lib.hid (And.intro g1 (And.intro g2 (And.intro g3 g4)))
  clear hb he hd hs g1 g2 g3 g4
  obtain ⟨n, hn⟩ : ∃ n, l.length = n := ⟨_, rfl⟩
  have HN := Lib.hid hn
  simp only [hn] at hcp hl
  simp only [hn]
  clear hn
  by_cases h256 : n = 256
  · have hcl := fun (A : Option Addr) (c : Nat) (ty : TypeId) => clear_none (w := w.setCells P 3 (l.map (Value.int .i64))) A c ty
    subst h256
    clear hl
    go_enter Try.func54, Try.ntmps54
    go_wp2_with (simp only [hcp, hcl])
    go_end0
    obtain ⟨g1, g2, g3, g4⟩ := HG.out
    have g5 := g1.withR (f := firstR l) (fun i hi => by
      show firstR l i = putR s.cur.regs 0 l i
      rw [putR_at, if_pos (by rw [HN.out]; omega)]; rfl)
    exact ⟨rfl, mac_of g5 HE.out HD.out hP hK (Nat.le_of_eq g3.symm) g4 rfl rfl rfl, g2⟩
  · have hlt : n < 256 := by omega
    obtain ⟨g1, g2, g3, g4⟩ := HG.out
    obtain ⟨k1, k2, k3, k4⟩ := mac_cells K hP (List.replicate (256 - n) 0) n _ _ g1 (by rw [List.length_replicate]; omega)
    have hcl := fun (c : Nat) (ty : TypeId) => clear_regs g1 hlt c ty
    have HG2 := Lib.hid (And.intro k1 (And.intro k2 (And.intro k3 k4)))
    simp only [Nat.add_zero] at hcl
    clear g1 g2 g3 g4 k1 k2 k3 k4 h256
    have hn0 : (n : Int) ≤ 256 := by omega
    have hne : ¬ (256 - n = 0) := by omega
    go_enter Try.func54, Try.ntmps54
    go_wp2_with (simp only [hcp, hcl])
    go_end0
    rw [← zero_cells]
    obtain ⟨g1, g2, g3, g4⟩ := HG.out
    obtain ⟨k1, k2, k3, k4⟩ := HG2.out
    have g5 := k1.withR (f := firstR l) (fun i hi => by
      show firstR l i = putR (putR s.cur.regs 0 l) n (List.replicate (256 - n) 0) i
      rw [putR_at, putR_at]
      by_cases h : n ≤ i
      · rw [if_pos (by rw [List.length_replicate]; omega)]
        unfold firstR
        rw [List.getD_eq_getElem?_getD, List.getElem?_eq_none (by rw [HN.out]; omega), List.getD_eq_getElem?_getD, List.getElem?_replicate, if_pos (by omega)]; rfl
      · rw [if_neg (by omega), if_pos (by rw [HN.out]; omega)]; rfl)
    exact ⟨rfl, mac_of g5 HE.out HD.out hP hK (Nat.le_of_eq (k3.trans g3).symm) (fun k hk hne => (k4 k (Nat.lt_of_lt_of_eq hk g3.symm) hne).trans (g4 k hk hne)) rfl rfl rfl, g2.trans k2⟩

theorem word_yes (P k : Nat) (w : World) (hk : k < 64) : Calls Try.prog 67 #[.pointer (some ⟨P, 0, none⟩), .int .i64 k] w fun e w' => e = .returned (.pointer (some ⟨P, 268 + k, none⟩)) ∧ w = w' := by
  have HW := Lib.hid (within_any k 64 w)
  have hd : decide ((0 : Int) ≤ k ∧ (k : Int) < (64 : Nat)) = true := decide_eq_true (by omega)
  have h0 : (0 : Int) ≤ k := by omega
  have h1 : (k : Int) < 64 := by omega
  go_enter Try.func67, Try.ntmps67
  go_wp2_with fail
  refine HW.out.mono ?_
  rintro e w' ⟨rfl, rfl⟩
  rw [hd]
  go_wp2_with fail
  go_ret
  exact ⟨rfl, rfl⟩
theorem word_no (K P : Nat) (m : List FunD) (w : World) (s : St) (rd : List Int) (a : Int) (h : Mac K P m w s rd) (ha : ¬ (0 ≤ a ∧ a < 64)) :
    Calls Try.prog 67 #[.pointer (some ⟨P, 0, none⟩), .int .i64 a] w fun e w' => e = .returned (.pointer none) ∧ Mac K P m w' (trapS s 2) rd ∧ BB K P w w' := by
  have HW := Lib.hid (within_any a 64 w)
  have HT := Lib.hid (trap_any K P m w s rd 2 h)
  have hd : decide ((0 : Int) ≤ a ∧ a < (64 : Nat)) = false := decide_eq_false (by omega)
  clear ha h
  go_enter Try.func67, Try.ntmps67
  go_wp2_with fail
  refine HW.out.mono ?_
  rintro e w' ⟨rfl, rfl⟩
  rw [hd]
  go_wp2_with fail
  refine HT.out.mono ?_
  rintro e w' ⟨rfl, h1, h2⟩
  go_wp2_with fail
  go_ret
  exact ⟨rfl, h1, h2⟩

/-- The place is set. -/
theorem mac_place (K : Nat) {P : Nat} {w : World} {s : St} {q : MV} (hb : MacB P w s q) (f b a : Nat) :
    MacB P (((w.setCell ⟨P, 0, none⟩ (.int .i64 f)).setCell ⟨P, 1, none⟩ (.int .i64 b)).setCell ⟨P, 2, none⟩ (.int .i64 a)) { s with cur := ⟨f, b, a, s.cur.regs⟩ } q ∧
    BB K P w (((w.setCell ⟨P, 0, none⟩ (.int .i64 f)).setCell ⟨P, 1, none⟩ (.int .i64 b)).setCell ⟨P, 2, none⟩ (.int .i64 a)) ∧
    (((w.setCell ⟨P, 0, none⟩ (.int .i64 f)).setCell ⟨P, 1, none⟩ (.int .i64 b)).setCell ⟨P, 2, none⟩ (.int .i64 a)).heap.size = w.heap.size ∧
    ∀ k, k < w.heap.size → k ≠ P → (((w.setCell ⟨P, 0, none⟩ (.int .i64 f)).setCell ⟨P, 1, none⟩ (.int .i64 b)).setCell ⟨P, 2, none⟩ (.int .i64 a)).heap[k]? = w.heap[k]? := by
  have h0 : MacB P (w.setCell ⟨P, 0, none⟩ (.int .i64 f)) { s with cur := ⟨f, s.cur.blk, s.cur.at_, s.cur.regs⟩ } q :=
    hb.set (set_place (by omega) rfl (fun j _ hj => by unfold placeC; rw [if_neg hj, if_neg hj]) rfl rfl (fun _ => rfl))
  have h1 : MacB P ((w.setCell ⟨P, 0, none⟩ (.int .i64 f)).setCell ⟨P, 1, none⟩ (.int .i64 b)) { s with cur := ⟨f, b, s.cur.at_, s.cur.regs⟩ } q :=
    h0.set (set_place (by omega) rfl (fun j _ hj => by
      unfold placeC
      by_cases h : j = 0
      · rw [if_pos h, if_pos h]
      · rw [if_neg h, if_neg h, if_neg hj, if_neg hj]) rfl rfl (fun _ => rfl))
  have h2 : MacB P (((w.setCell ⟨P, 0, none⟩ (.int .i64 f)).setCell ⟨P, 1, none⟩ (.int .i64 b)).setCell ⟨P, 2, none⟩ (.int .i64 a)) { s with cur := ⟨f, b, a, s.cur.regs⟩ } q :=
    h1.set (set_place (by omega) rfl (fun j hj hne => by
      unfold placeC
      by_cases h : j = 0
      · rw [if_pos h, if_pos h]
      · rw [if_neg h, if_neg h, if_pos (by omega), if_pos (by omega)]) rfl rfl (fun _ => rfl))
  refine ⟨h2, (((BB.refl K P w).setCell (p := ⟨P, 0, none⟩) (.inl rfl) _).setCell (p := ⟨P, 1, none⟩) (.inl rfl) _).setCell (p := ⟨P, 2, none⟩) (.inl rfl) _, by simp [World.setCell], fun k hk hne => ?_⟩
  exact (set_others k (by simpa [World.setCell] using hk) hne).trans ((set_others k (by simpa [World.setCell] using hk) hne).trans (set_others k hk hne))
/-- What lies in other blocks reads as it did. -/
theorem vs_others {P : Nat} {w w' : World} {v : Value} {l : List Int} (h : VS w 1 (RWB (fun b => b ≠ P)) v l) (hk : ∀ k, k < w.heap.size → k ≠ P → w'.heap[k]? = w.heap[k]?) : VS w' 1 (RWB (fun b => b ≠ P)) v l := by
  obtain ⟨A, c, e, hs⟩ := h
  exact ⟨A, c, e, SL.imp (fun b o x hx => ⟨hx.1, (World.cell?_of_block (a := ⟨b, o, none⟩) (hk b (block_lt_of_cell hx.2) hx.1)).trans hx.2⟩) hs⟩
theorem vs_plain {B : Nat → Prop} {w : World} {v : Value} {l : List Int} (h : VS w 1 (RWB B) v l) : VS w 1 RW v l := by
  obtain ⟨A, c, e, hs⟩ := h
  exact ⟨A, c, e, SL.imp (fun b o x hx => hx.2) hs⟩

theorem enter_any (K P : Nat) (m : List FunD) (w : World) (s : St) (rd l : List Int) (v : Value) (f : Nat) (h : Mac K P m w s rd) (hv : VS w 1 (RWB (fun b => b ≠ P)) v l) (hl : l.length ≤ 256) :
    Calls Try.prog 39 #[.pointer (some ⟨P, 0, none⟩), .int .i64 f, v] w (ToldM K P m w (enterS s f l) rd) := by
  obtain ⟨q, hb, he, hd, hP, hK⟩ := h
  have HB := Lib.hid hb
  have HE := Lib.hid he
  have HD := Lib.hid hd
  have HV := Lib.hid hv
  have c0 : w.cell? ⟨P, 0, none⟩ = some (.int .i64 s.cur.fn) := hb.cell (by omega)
  have c1 : w.cell? ⟨P, 1, none⟩ = some (.int .i64 s.cur.blk) := hb.cell (by omega)
  have c2 : w.cell? ⟨P, 2, none⟩ = some (.int .i64 s.cur.at_) := hb.cell (by omega)
  have f0 := hb.free 0
  have f1 := hb.free 1
  have f2 := hb.free 2
  clear hb he hd hv
  go_enter Try.func39, Try.ntmps39
  go_wp2_with fail
  obtain ⟨g1, g2, g3, g4⟩ := mac_place K HB.out f 0 0
  have hm1 := mac_of g1 HE.out HD.out hP hK (Nat.le_of_eq g3.symm) g4 rfl rfl rfl
  have hv1 := vs_plain (vs_others HV.out g4)
  have hb1 := Lib.hid g2
  clear g1 g2 g3 g4
  refine (setRegs_any K P m _ _ rd l v hm1 hv1 hl).mono ?_
  rintro e w' ⟨rfl, h1, h2⟩
  go_wp2_with fail
  go_end0
  exact ⟨rfl, h1, hb1.out.trans h2⟩
end Go.Proofs.Ytoidhjmhakajlaa
