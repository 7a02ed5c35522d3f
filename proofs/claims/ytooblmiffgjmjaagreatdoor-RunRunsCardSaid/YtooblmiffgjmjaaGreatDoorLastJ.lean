/- The machine's registers are set; a function is entered; a word of memory. -/
import Derived.Test.YtooblmiffgjmjaaGreatDoorMacAJ
import Derived.Laws.IdiomCopy
import Derived.OrdersHeld
import Derived.RegionTactic
import Derived.Lib.Hide
namespace Go.Proofs.YtooblmiffgjmjaaGreatDoor
open Go.ChangeShapes Go.WideShapes Go.RowKit Go.Deep
set_option linter.unusedVariables false

def withR (s : St) (f : Nat → Int) : St := { s with cur := { s.cur with regs := f } }
def putR (r : Nat → Int) : Nat → List Int → (Nat → Int)
  | _, [] => r
  | n, v :: l => putR (upd r n v) (n + 1) l
theorem putR_at (l : List Int) : ∀ (r : Nat → Int) (n i : Nat), putR r n l i = if n ≤ i ∧ i < n + l.length then l.getD (i - n) 0 else r i := by
  induction l with
  | nil => intro r n i; simp [putR]; omega
  | cons v l ih =>
    intro r n i
    simp only [putR, ih, List.length_cons]
    by_cases h : i = n
    · subst h
      rw [if_neg (show ¬ (i + 1 ≤ i ∧ i < i + 1 + l.length) by omega), if_pos (show i ≤ i ∧ i < i + (l.length + 1) by omega)]
      simp [upd]
    · by_cases h2 : n + 1 ≤ i ∧ i < n + 1 + l.length
      · rw [if_pos h2, if_pos (show n ≤ i ∧ i < n + (l.length + 1) by omega), show i - n = (i - (n + 1)) + 1 by omega, List.getD_cons_succ]
      · rw [if_neg h2, if_neg (show ¬ (n ≤ i ∧ i < n + (l.length + 1)) by omega)]
        unfold upd; rw [if_neg h]
theorem MacB.withR {P : Nat} {w : World} {s : St} {q : MV} (h : MacB P w s q) {f : Nat → Int} (hf : ∀ i, i < 256 → f i = s.cur.regs i) : MacB P w (withR s f) q := by
  have e : macC s q = macC (Go.Proofs.YtooblmiffgjmjaaGreatDoor.withR s f) q := by
    apply Array.ext
    · rw [macC_size, macC_size]
    · intro j h1 h2
      have hj : j < 332 := Nat.lt_of_lt_of_eq h1 (macC_size s q)
      simp only [macC, Array.getElem_ofFn]
      by_cases h1 : j < 3
      · rw [cellM_lo _ _ h1, cellM_lo _ _ h1]; rfl
      · by_cases h2 : j < 259
        · rw [cellM_regs _ _ (Nat.not_lt.1 h1) h2, cellM_regs _ _ (Nat.not_lt.1 h1) h2]
          show _ = Value.int .i64 (f (j - 3)); rw [hf (j - 3) (by omega)]
        · by_cases h3 : j < 268
          · rw [cellM_mid _ _ (Nat.not_lt.1 h2) h3, cellM_mid _ _ (Nat.not_lt.1 h2) h3]; rfl
          · rw [cellM_hi _ _ (Nat.not_lt.1 h3), cellM_hi _ _ (Nat.not_lt.1 h3)]; rfl
  exact Eq.trans h (by rw [e])
theorem mac_cells (K : Nat) {P : Nat} {q : MV} (hP : P < K) : ∀ (l : List Int) (n : Nat) (w : World) (s : St), MacB P w s q → n + l.length ≤ 256 →
    MacB P (w.setCells P (3 + n) (l.map (Value.int .i64))) (withR s (putR s.cur.regs n l)) q ∧ BB K P w (w.setCells P (3 + n) (l.map (Value.int .i64))) ∧ (w.setCells P (3 + n) (l.map (Value.int .i64))).heap.size = w.heap.size ∧
      ∀ k, k < w.heap.size → k ≠ P → (w.setCells P (3 + n) (l.map (Value.int .i64))).heap[k]? = w.heap[k]? := by
  intro l
  induction l with
  | nil => intro n w s h hn; exact ⟨h, BB.refl _ _ _, rfl, fun _ _ _ => rfl⟩
  | cons v l ih =>
    intro n w s h hn
    simp only [List.length_cons] at hn
    have h1 : MacB P (w.setCell ⟨P, 3 + n, none⟩ (.int .i64 v)) (withR s (upd s.cur.regs n v)) q := h.set (set_reg s q n v (by omega) rfl)
    obtain ⟨i1, i2, i3, i4⟩ := ih (n + 1) _ _ h1 (by omega)
    simp only [List.map_cons, World.setCells]
    rw [show 3 + n + 1 = 3 + (n + 1) by omega]
    have hsz : (w.setCell ⟨P, 3 + n, none⟩ (.int .i64 v)).heap.size = w.heap.size := by simp [World.setCell]
    refine ⟨i1, ((BB.refl K P w).setCell (p := ⟨P, 3 + n, none⟩) (.inl rfl) _).trans i2, by rw [i3, hsz], fun k hk hne => (i4 k (by rw [hsz]; exact hk) hne).trans (set_others k hk hne)⟩

theorem zero_cells (n : Nat) : (List.replicate n (0 : Int)).map (Value.int .i64) = List.replicate n (.int .i64 0) := by simp

theorem zero64 (w : World) : (zeroValue 2).run Tryz.prog w = .ok (.int .i64 0) w := by kernel_rfl
theorem Tryz.info2 : (Tryz.prog.info? 2).map (fun i => (i.zero, i.size, i.bytes)) = some (some (.int .i64 0), 1, 8) := by kernel_rfl
theorem size64 : (Tryz.prog.info? 2).map (·.size) = some 1 := by kernel_rfl
theorem ones (l : List Int) : ∀ v ∈ l.map (Value.int .i64), v.oneCell' = true := fun v hv => by
  obtain ⟨x, _, rfl⟩ := List.mem_map.1 hv; rfl
/-- Numbers are copied into the machine's registers. -/
theorem copy_regs {K P : Nat} {m : List FunD} {w : World} {s : St} {q : MV} (hb : MacB P w s q) {l : List Int} {A : Option Addr} {c : Nat} (hs : SL w 1 RW A c l) (hl : l.length ≤ 256) (ty : TypeId) :
    (Builtin.copy_ #[25, 25] ty #[.slice (some ⟨P, 3, none⟩) 256 256, .slice A l.length c]).run Tryz.prog w = .ok (goInt l.length) (w.setCells P 3 (l.map (Value.int .i64))) := by
  obtain ⟨hll, hc, hcs⟩ := hs
  by_cases h0 : l.length = 0
  · have : l = [] := List.length_eq_zero_iff.1 h0
    subst this
    exact run_copy_none w _ _ ty 2 _ A 256 256 0 c Tryz.underlying25 size64 (by simp)
  · obtain ⟨b, o, rfl, hx⟩ := hcs (by omega)
    have := run_copy_cells (P := Tryz.prog) w 25 25 ty 2 P 3 256 256 ⟨b, o, none⟩ l.length c (l.map (Value.int .i64)) Tryz.underlying25 size64 (by rw [List.length_map]; exact (Nat.min_eq_left hl).symm)
      (fun j v hj => by
        rw [List.getElem?_map] at hj
        obtain ⟨x, hx1, rfl⟩ := Option.map_eq_some_iff.1 hj
        rw [add_plain']
        have := hx j x hx1
        rwa [Nat.mul_one] at this)
      (fun j hj => by rw [List.length_map] at hj; rw [hb.cell (by omega)]; rfl) (fun j _ => hb.free _) (ones l)
    rwa [List.length_map] at this
/-- The rest of them is cleared. -/
theorem clear_regs {P n : Nat} {w : World} {s : St} {q : MV} (hb : MacB P w s q) (hn : n < 256) (c : Nat) (ty : TypeId) :
    (Builtin.clear_ #[25] ty #[.slice (some ⟨P, 3 + n, none⟩) (256 - n) c]).run Tryz.prog w = .ok (.tuple #[]) (w.setCells P (3 + n) ((List.replicate (256 - n) (0 : Int)).map (Value.int .i64))) := by
  rw [zero_cells]
  exact Lib.run_clear_slice w 25 2 ty (.int .i64 0) Tryz.underlying25 zero64 rfl rfl P (3 + n) (256 - n) c (by omega) (fun j hj => by rw [hb.cell (by omega)]; rfl) (fun j _ => hb.free _)
theorem clear_none {w : World} (A : Option Addr) (c : Nat) (ty : TypeId) : (Builtin.clear_ #[25] ty #[.slice A 0 c]).run Tryz.prog w = .ok (.tuple #[]) w := by
  cases A <;> simp [Builtin.clear_, run_underlying Tryz.underlying25]

set_option maxRecDepth 100000 in
set_option maxHeartbeats 4000000 in
theorem setRegs_any (K P : Nat) (m : List FunD) (w : World) (s : St) (rd l : List Int) (v : Value) (h : Mac K P m w s rd) (hv : VS w 1 RW v l) (hl : l.length ≤ 256) :
    Calls Tryz.prog 46 #[.pointer (some ⟨P, 0, none⟩), v] w (ToldM K P m w (withR s (firstR l)) rd) := by
  obtain ⟨q, hb, he, hd, hP, hK⟩ := h
  obtain ⟨A, c, rfl, hs⟩ := hv
  have HB := Lib.hid hb
  have HE := Lib.hid he
  have HD := Lib.hid hd
  have HL := Lib.hid hl
  obtain ⟨g1, g2, g3, g4⟩ := mac_cells K hP l 0 w s hb (by omega)
  have hcp := copy_regs (K := K) (m := m) hb hs hl
  have HG := Lib.hid (And.intro g1 (And.intro g2 (And.intro g3 g4)))
  clear hb he hd hs g1 g2 g3 g4
  obtain ⟨n, hn⟩ : ∃ n, l.length = n := ⟨_, rfl⟩
  have HN := Lib.hid hn
  simp only [hn] at hcp hl
  simp only [hn]
  clear hn
  by_cases h256 : n = 256
  · have hcl := fun (A : Option Addr) (c : Nat) (ty : TypeId) => clear_none (w := w.setCells P 3 (l.map (Value.int .i64))) A c ty
    subst h256
    clear hl
    go_enter Tryz.func46, Tryz.ntmps46
    go_wp2_with (simp only [hcp, hcl])
    go_end0
    obtain ⟨g1, g2, g3, g4⟩ := HG.out
    have g5 := g1.withR (f := firstR l) (fun i hi => by
      show firstR l i = putR s.cur.regs 0 l i
      rw [putR_at, if_pos (by rw [HN.out]; omega)]; rfl)
    exact ⟨rfl, mac_of g5 HE.out HD.out hP hK (Nat.le_of_eq g3.symm) g4 rfl rfl rfl, g2⟩
  · have hlt : n < 256 := by omega
    obtain ⟨g1, g2, g3, g4⟩ := HG.out
    obtain ⟨k1, k2, k3, k4⟩ := mac_cells K hP (List.replicate (256 - n) 0) n _ _ g1 (by rw [List.length_replicate]; omega)
    have hcl := fun (c : Nat) (ty : TypeId) => clear_regs g1 hlt c ty
    have HG2 := Lib.hid (And.intro k1 (And.intro k2 (And.intro k3 k4)))
    simp only [Nat.add_zero] at hcl
    clear g1 g2 g3 g4 k1 k2 k3 k4 h256
    have hn0 : (n : Int) ≤ 256 := by omega
    have hne : ¬ (256 - n = 0) := by omega
    go_enter Tryz.func46, Tryz.ntmps46
    go_wp2_with (simp only [hcp, hcl])
    go_end0
    rw [← zero_cells]
    obtain ⟨g1, g2, g3, g4⟩ := HG.out
    obtain ⟨k1, k2, k3, k4⟩ := HG2.out
    have g5 := k1.withR (f := firstR l) (fun i hi => by
      show firstR l i = putR (putR s.cur.regs 0 l) n (List.replicate (256 - n) 0) i
      rw [putR_at, putR_at]
      by_cases h : n ≤ i
      · rw [if_pos (by rw [List.length_replicate]; omega)]
        unfold firstR
        rw [List.getD_eq_getElem?_getD, List.getElem?_eq_none (by rw [HN.out]; omega), List.getD_eq_getElem?_getD, List.getElem?_replicate, if_pos (by omega)]; rfl
      · rw [if_neg (by omega), if_pos (by rw [HN.out]; omega)]; rfl)
    exact ⟨rfl, mac_of g5 HE.out HD.out hP hK (Nat.le_of_eq (k3.trans g3).symm) (fun k hk hne => (k4 k (Nat.lt_of_lt_of_eq hk g3.symm) hne).trans (g4 k hk hne)) rfl rfl rfl, g2.trans k2⟩

theorem word_yes (P k : Nat) (w : World) (hk : k < 64) : Calls Tryz.prog 63 #[.pointer (some ⟨P, 0, none⟩), .int .i64 k] w fun e w' => e = .returned (.pointer (some ⟨P, 268 + k, none⟩)) ∧ w = w' := by
  have HW := Lib.hid (within_any k 64 w)
  have hd : decide ((0 : Int) ≤ k ∧ (k : Int) < (64 : Nat)) = true := decide_eq_true (by omega)
  have h0 : (0 : Int) ≤ k := by omega
  have h1 : (k : Int) < 64 := by omega
  go_enter Tryz.func63, Tryz.ntmps63
  go_wp2_with fail
  refine HW.out.mono ?_
  rintro e w' ⟨rfl, rfl⟩
  rw [hd]
  go_wp2_with fail
  go_ret
  exact ⟨rfl, rfl⟩
theorem word_no (K P : Nat) (m : List FunD) (w : World) (s : St) (rd : List Int) (a : Int) (h : Mac K P m w s rd) (ha : ¬ (0 ≤ a ∧ a < 64)) :
    Calls Tryz.prog 63 #[.pointer (some ⟨P, 0, none⟩), .int .i64 a] w fun e w' => e = .returned (.pointer none) ∧ Mac K P m w' (trapS s 2) rd ∧ BB K P w w' := by
  have HW := Lib.hid (within_any a 64 w)
  have HT := Lib.hid (trap_any K P m w s rd 2 h)
  have hd : decide ((0 : Int) ≤ a ∧ a < (64 : Nat)) = false := decide_eq_false (by omega)
  clear ha h
  go_enter Tryz.func63, Tryz.ntmps63
  go_wp2_with fail
  refine HW.out.mono ?_
  rintro e w' ⟨rfl, rfl⟩
  rw [hd]
  go_wp2_with fail
  refine HT.out.mono ?_
  rintro e w' ⟨rfl, h1, h2⟩
  go_wp2_with fail
  go_ret
  exact ⟨rfl, h1, h2⟩

/-- The place is set. -/
theorem mac_place (K : Nat) {P : Nat} {w : World} {s : St} {q : MV} (hb : MacB P w s q) (f b a : Nat) :
    MacB P (((w.setCell ⟨P, 0, none⟩ (.int .i64 f)).setCell ⟨P, 1, none⟩ (.int .i64 b)).setCell ⟨P, 2, none⟩ (.int .i64 a)) { s with cur := ⟨f, b, a, s.cur.regs⟩ } q ∧
    BB K P w (((w.setCell ⟨P, 0, none⟩ (.int .i64 f)).setCell ⟨P, 1, none⟩ (.int .i64 b)).setCell ⟨P, 2, none⟩ (.int .i64 a)) ∧
    (((w.setCell ⟨P, 0, none⟩ (.int .i64 f)).setCell ⟨P, 1, none⟩ (.int .i64 b)).setCell ⟨P, 2, none⟩ (.int .i64 a)).heap.size = w.heap.size ∧
    ∀ k, k < w.heap.size → k ≠ P → (((w.setCell ⟨P, 0, none⟩ (.int .i64 f)).setCell ⟨P, 1, none⟩ (.int .i64 b)).setCell ⟨P, 2, none⟩ (.int .i64 a)).heap[k]? = w.heap[k]? := by
  have h0 : MacB P (w.setCell ⟨P, 0, none⟩ (.int .i64 f)) { s with cur := ⟨f, s.cur.blk, s.cur.at_, s.cur.regs⟩ } q :=
    hb.set (set_place (by omega) rfl (fun j _ hj => by unfold placeC; rw [if_neg hj, if_neg hj]) rfl rfl (fun _ => rfl))
  have h1 : MacB P ((w.setCell ⟨P, 0, none⟩ (.int .i64 f)).setCell ⟨P, 1, none⟩ (.int .i64 b)) { s with cur := ⟨f, b, s.cur.at_, s.cur.regs⟩ } q :=
    h0.set (set_place (by omega) rfl (fun j _ hj => by
      unfold placeC
      by_cases h : j = 0
      · rw [if_pos h, if_pos h]
      · rw [if_neg h, if_neg h, if_neg hj, if_neg hj]) rfl rfl (fun _ => rfl))
  have h2 : MacB P (((w.setCell ⟨P, 0, none⟩ (.int .i64 f)).setCell ⟨P, 1, none⟩ (.int .i64 b)).setCell ⟨P, 2, none⟩ (.int .i64 a)) { s with cur := ⟨f, b, a, s.cur.regs⟩ } q :=
    h1.set (set_place (by omega) rfl (fun j hj hne => by
      unfold placeC
      by_cases h : j = 0
      · rw [if_pos h, if_pos h]
      · rw [if_neg h, if_neg h, if_pos (by omega), if_pos (by omega)]) rfl rfl (fun _ => rfl))
  refine ⟨h2, (((BB.refl K P w).setCell (p := ⟨P, 0, none⟩) (.inl rfl) _).setCell (p := ⟨P, 1, none⟩) (.inl rfl) _).setCell (p := ⟨P, 2, none⟩) (.inl rfl) _, by simp [World.setCell], fun k hk hne => ?_⟩
  exact (set_others k (by simpa [World.setCell] using hk) hne).trans ((set_others k (by simpa [World.setCell] using hk) hne).trans (set_others k hk hne))
/-- What lies in other blocks reads as it did. -/
theorem vs_others {P : Nat} {w w' : World} {v : Value} {l : List Int} (h : VS w 1 (RWB (fun b => b ≠ P)) v l) (hk : ∀ k, k < w.heap.size → k ≠ P → w'.heap[k]? = w.heap[k]?) : VS w' 1 (RWB (fun b => b ≠ P)) v l := by
  obtain ⟨A, c, e, hs⟩ := h
  exact ⟨A, c, e, SL.imp (fun b o x hx => ⟨hx.1, (World.cell?_of_block (a := ⟨b, o, none⟩) (hk b (block_lt_of_cell hx.2) hx.1)).trans hx.2⟩) hs⟩
theorem vs_plain {B : Nat → Prop} {w : World} {v : Value} {l : List Int} (h : VS w 1 (RWB B) v l) : VS w 1 RW v l := by
  obtain ⟨A, c, e, hs⟩ := h
  exact ⟨A, c, e, SL.imp (fun b o x hx => hx.2) hs⟩

theorem enter_any (K P : Nat) (m : List FunD) (w : World) (s : St) (rd l : List Int) (v : Value) (f : Nat) (h : Mac K P m w s rd) (hv : VS w 1 (RWB (fun b => b ≠ P)) v l) (hl : l.length ≤ 256) :
    Calls Tryz.prog 24 #[.pointer (some ⟨P, 0, none⟩), .int .i64 f, v] w (ToldM K P m w (enterS s f l) rd) := by
  obtain ⟨q, hb, he, hd, hP, hK⟩ := h
  have HB := Lib.hid hb
  have HE := Lib.hid he
  have HD := Lib.hid hd
  have HV := Lib.hid hv
  have c0 : w.cell? ⟨P, 0, none⟩ = some (.int .i64 s.cur.fn) := hb.cell (by omega)
  have c1 : w.cell? ⟨P, 1, none⟩ = some (.int .i64 s.cur.blk) := hb.cell (by omega)
  have c2 : w.cell? ⟨P, 2, none⟩ = some (.int .i64 s.cur.at_) := hb.cell (by omega)
  have f0 := hb.free 0
  have f1 := hb.free 1
  have f2 := hb.free 2
  clear hb he hd hv
  go_enter Tryz.func24, Tryz.ntmps24
  go_wp2_with fail
  obtain ⟨g1, g2, g3, g4⟩ := mac_place K HB.out f 0 0
  have hm1 := mac_of g1 HE.out HD.out hP hK (Nat.le_of_eq g3.symm) g4 rfl rfl rfl
  have hv1 := vs_plain (vs_others HV.out g4)
  have hb1 := Lib.hid g2
  clear g1 g2 g3 g4
  refine (setRegs_any K P m _ _ rd l v hm1 hv1 hl).mono ?_
  rintro e w' ⟨rfl, h1, h2⟩
  go_wp2_with fail
  go_end0
  exact ⟨rfl, h1, hb1.out.trans h2⟩
end Go.Proofs.YtooblmiffgjmjaaGreatDoor

/- A region that draws its order, whose last operation waits for all others: the others first, in whatever order, with a condition on the world that need not hold behind the last one. Over any program. -/
namespace Go.Proofs.YtooblmiffgjmjaaGreatDoor
open Go
set_option linter.unusedVariables false

section
variable {P : Program} {ops : Array Oper} {Q : Exit → Act → World → Prop} {md : Region.Mode} {S : World → Prop}

/-- Edges lead to what stands ahead in the text. -/
def downB (md : Region.Mode) (ops : Array Oper) : Bool :=
  (List.range ops.size).all fun i => ((ops[i]?).map fun o => o.after.all fun e => !Region.binds md e || decide (e.on < i)).getD true
/-- Each but number L is waited for by one behind it. -/
def feedsB (md : Region.Mode) (ops : Array Oper) (L : Nat) : Bool :=
  (List.range L).all fun i => (List.range (L + 1)).any fun j => decide (i < j) && ((ops[j]?).map fun o => o.after.any fun e => Region.binds md e && decide (e.on = i)).getD false

theorem downB_spec (h : downB md ops = true) {i : Nat} {o : Oper} (ho : ops[i]? = some o) : ∀ e ∈ o.after, Region.binds md e = true → e.on < i := by
  intro e he hb
  unfold downB at h
  have hi : i < ops.size := (Array.getElem?_eq_some_iff.1 ho).1
  have h1 := List.all_eq_true.1 h i (List.mem_range.2 hi)
  rw [ho] at h1
  simp only [Option.map_some, Option.getD_some, Array.all_eq_true_iff_forall_mem] at h1
  have h2 := h1 e he
  simpa [hb] using h2
theorem feedsB_spec {L : Nat} (h : feedsB md ops L = true) {i : Nat} (hi : i < L) : ∃ j o e, i < j ∧ j ≤ L ∧ ops[j]? = some o ∧ e ∈ o.after ∧ Region.binds md e = true ∧ e.on = i := by
  unfold feedsB at h
  have h1 := List.all_eq_true.1 h i (List.mem_range.2 hi)
  obtain ⟨j, hj, h2⟩ := List.any_eq_true.1 h1
  rw [Bool.and_eq_true] at h2
  obtain ⟨h3, h4⟩ := h2
  cases ho : ops[j]? with
  | none => rw [ho] at h4; simp at h4
  | some o =>
    rw [ho] at h4
    simp only [Option.map_some, Option.getD_some, Array.any_eq_true'] at h4
    obtain ⟨e, he, hb⟩ := h4
    rw [Bool.and_eq_true] at hb
    exact ⟨j, o, e, of_decide_eq_true h3, by have := List.mem_range.1 hj; omega, ho, he, hb.1, of_decide_eq_true hb.2⟩

/-- What has come up had all that it waits for. -/
def Closed (md : Region.Mode) (ops : Array Oper) (listed : Array Bool) : Prop :=
  ∀ i o, ops[i]? = some o → listed.getD i true = true → ∀ e ∈ o.after, Region.binds md e = true → listed.getD e.on false = true

theorem getD_two {l : Array Bool} {i : Nat} (h : i < l.size) (a b : Bool) : l.getD i a = l.getD i b := by
  simp [Array.getD, h]
theorem getD_set_self {l : Array Bool} {i : Nat} (h : i < l.size) (d : Bool) : (l.setIfInBounds i true).getD i d = true := by
  simp [Array.getD, h]

theorem Closed.set {listed : Array Bool} (hc : Closed md ops listed) (hs : listed.size = ops.size) {i : Nat} (hi : i ∈ Region.ready md ops listed) : Closed md ops (listed.setIfInBounds i true) := by
  intro j o ho hj e he hb
  by_cases hji : j = i
  · subst hji
    obtain ⟨_, o', ho', hall⟩ := mem_ready.1 hi
    rw [ho] at ho'
    cases ho'
    exact getD_set_true (hall e he hb)
  · rw [getD_set_ne true (Ne.symm hji)] at hj
    exact getD_set_true (hc j o ho hj e he hb)

/-- When the last one may come up, all others have. -/
theorem all_of_last {L : Nat} {listed : Array Bool} (hsz : ops.size = L + 1) (hs : listed.size = ops.size) (hf : feedsB md ops L = true) (hc : Closed md ops listed) (hL : L ∈ Region.ready md ops listed) : ∀ i, i < L → listed.getD i true = true := by
  have key : ∀ n i, L - i ≤ n → i < L → listed.getD i true = true := by
    intro n
    induction n with
    | zero => intro i h1 h2; omega
    | succ n ih =>
      intro i h1 h2
      obtain ⟨j, o, e, hij, hjL, ho, he, hb, hei⟩ := feedsB_spec hf h2
      have h3 : listed.getD e.on false = true := by
        by_cases hj : j = L
        · subst hj
          obtain ⟨_, o', ho', hall⟩ := mem_ready.1 hL
          rw [ho] at ho'
          cases ho'
          exact hall e he hb
        · exact hc j o ho (ih j (by omega) (by omega)) e he hb
      rw [hei] at h3
      rw [getD_two (by omega) true false]
      exact h3
  exact fun i hi => key (L - i) i (Nat.le_refl _) hi
/-- While the last one has not come up, one may. -/
theorem ready_some {L : Nat} {listed : Array Bool} (hsz : ops.size = L + 1) (hs : listed.size = ops.size) (hd : downB md ops = true) (hL : listed.getD L true = false) : Region.ready md ops listed ≠ [] := by
  have key : ∀ n i, i ≤ n → i ≤ L → listed.getD i true = false → ∃ k, k ∈ Region.ready md ops listed := by
    intro n
    induction n with
    | zero =>
      intro i h1 h2 h3
      obtain rfl : i = 0 := by omega
      have ho : ops[0]? = some ops[0] := Array.getElem?_eq_getElem (by omega)
      exact ⟨0, mem_ready.2 ⟨h3, _, ho, fun e he hb => absurd (downB_spec hd ho e he hb) (by omega)⟩⟩
    | succ n ih =>
      intro i h1 h2 h3
      have ho : ops[i]? = some ops[i] := Array.getElem?_eq_getElem (by omega)
      by_cases hall : ∀ e ∈ ops[i].after, Region.binds md e = true → listed.getD e.on false = true
      · exact ⟨i, mem_ready.2 ⟨h3, _, ho, hall⟩⟩
      · simp only [Classical.not_forall] at hall
        obtain ⟨e, he, hb, hno⟩ := hall
        have hlt := downB_spec hd ho e he hb
        refine ih e.on (by omega) (by omega) ?_
        rw [getD_two (by omega) true false]
        simpa using hno
  obtain ⟨k, hk⟩ := key L L (Nat.le_refl _) (Nat.le_refl _) hL
  intro h0
  rw [h0] at hk
  cases hk

/-- The post behind all but the last: the last one's turn. -/
def LastQ (P : Program) (ops : Array Oper) (Q : Exit → Act → World → Prop) (L : Nat) : Exit → Act → World → Prop
  | .normal, a, w => wpOp P ops Q L (Q .normal) a w
  | e, a, w => Q e a w

theorem upon_last {L : Nat} {o : Oper} {a : Act} {K : Act → World → Prop} {r : Result Next} (h : o.upon P a K (LastQ P ops Q L) r) : o.upon P a K Q r := by
  cases r with
  | ok n w' =>
    cases n <;> simp only [Oper.upon] at h ⊢ <;> exact h
  | halt x w' => cases x <;> simp only [Oper.upon] at h ⊢ <;> exact h
theorem wpOp_last {L i : Nat} {K : Act → World → Prop} {a : Act} {w : World} (h : wpOp P ops (LastQ P ops Q L) i K a w) : wpOp P ops Q i K a w := by
  unfold wpOp at *
  split
  · rename_i ho; simp only [ho] at h; exact h
  · rename_i o ho
    simp only [ho] at h
    split
    · rename_i hw; simp only [hw, if_true] at h; exact h.imp (fun h => by unfold Oper.wp at *; exact upon_last h) (fun h => ⟨h.1, h.2⟩)
    · rename_i hw; simp only [hw] at h; exact h

theorem wpAny_last {L : Nat} (hsz : ops.size = L + 1) (hd : downB md ops = true) (hf : feedsB md ops L = true) :
    ∀ (fuel : Nat) (listed : Array Bool) (a : Act) (w : World), listed.size = ops.size → Closed md ops listed → listed.getD L true = false →
      wpAnyH P md ops (LastQ P ops Q L) S fuel (listed.setIfInBounds L true) a w → wpAny P md ops Q (fuel + 1) listed a w := by
  intro fuel
  induction fuel with
  | zero =>
    intro listed a w hs hc hL H
    refine ⟨fun h0 => absurd h0 (ready_some hsz hs hd hL), fun i hi => ?_⟩
    by_cases hiL : i = L
    · subst hiL
      exact wpOp_mono (fun a' w' h' => ⟨H.1, h'⟩) (show wpOp P ops Q i (Q .normal) a w from H.2)
    · have := ready_mono hi hiL
      rw [H.1] at this
      cases this
  | succ fuel ih =>
    intro listed a w hs hc hL H
    refine ⟨fun h0 => absurd h0 (ready_some hsz hs hd hL), fun i hi => ?_⟩
    by_cases hiL : i = L
    · subst hiL
      have hall := all_of_last hsz hs hf hc hi
      have hr : Region.ready md ops (listed.setIfInBounds i true) = [] := by
        rw [List.eq_nil_iff_forall_not_mem]
        intro k hk
        obtain ⟨h0, o, ho, _⟩ := mem_ready.1 hk
        have hkl : k < ops.size := (Array.getElem?_eq_some_iff.1 ho).1
        by_cases hki : k = i
        · subst hki
          rw [getD_set_self (by omega)] at h0
          cases h0
        · rw [getD_set_ne true (Ne.symm hki), hall k (by omega)] at h0
          cases h0
      exact wpOp_mono (fun a' w' h' => wpAny_done hr h' _) (show wpOp P ops Q i (Q .normal) a w from H.1 hr)
    · have h1 := wpOp_last (H.2 i (ready_mono hi hiL))
      refine wpOp_mono (fun a' w' h' => ih (listed.setIfInBounds i true) a' w' (by simpa using hs) (hc.set hs hi) ?_ ?_) h1
      · rw [getD_set_ne true hiL]; exact hL
      · rw [Array.setIfInBounds_comm _ _ hiL]; exact h'.2

/-- THE LAW. -/
theorem wp_region_last {id L : Nat} {a : Act} {w : World} (hm : P.follows .mixedOrders = true) (hsz : ops.size = L + 1) (hd : downB .any ops = true) (hf : feedsB .any ops L = true)
    (h : wpAnyH P .any ops (LastQ P ops Q L) S L ((Array.replicate ops.size false).setIfInBounds L true) a { w with drawn := w.drawn + 1 }) : (Code.region id ops true).wp P Q a w := by
  refine wp_region_any hm ?_
  have h2 := wpAny_last (md := .any) (Q := Q) (S := S) hsz hd hf L (Array.replicate ops.size false) a { w with drawn := w.drawn + 1 } (by simp) (fun i o ho hi => ?_) (by simp [Array.getD, hsz]) h
  · rwa [← hsz] at h2
  · have hlt := (Array.getElem?_eq_some_iff.1 ho).1
    simp [Array.getD, hlt] at hi

/-- Take number i first: what it writes to is said by the caller. -/
theorem takeH {i : Nat} (d : Option Tmp) {v : Value} {fuel : Nat} {listed : Array Bool} {a : Act} {w : World} (hd : (ops[i]?).map (·.dst) = some d)
    (hs : Region.noSelect ops = true) (hf : Region.free md ops listed i = true) (hr : (Region.ready md ops listed).contains i = true)
    (hQ : ∀ c a w, Q (.panic c) (a.put d v) w → Q (.panic c) a w) (hS : S w) (hy : ∀ o, ops[i]? = some o → YieldsIf P ops S o v a)
    (h : wpAnyH P md ops Q S fuel (listed.setIfInBounds i true) (a.put d v) w) : wpAnyH P md ops Q S (fuel + 1) listed a w := by
  cases ho : ops[i]? with
  | none => rw [ho] at hd; cases hd
  | some o =>
    rw [ho] at hd
    obtain rfl := Option.some.inj hd
    exact wpAnyH_take ho hs hf hr hQ (hy o ho) hS h
/-- Number i alone may come up. -/
theorem oneH {i : Nat} {fuel : Nat} {listed : Array Bool} {a : Act} {w : World} (hr : Region.ready md ops listed = [i])
    (h : ∀ o, ops[i]? = some o → ∀ K : Act → World → Prop, RowKit.Hid (∀ a' w', S w' → wpAnyH P md ops Q S fuel (listed.setIfInBounds i true) a' w' → K a' w') → if Region.wanted o (yielded ops a.tmps) = true then Oper.wp P o a w K Q else K (a.put o.dst undef) w) :
    wpAnyH P md ops Q S (fuel + 1) listed a w := by
  refine wpAnyH_all hr (by simp) fun k hk => ?_
  obtain rfl := List.mem_singleton.1 hk
  unfold wpOp
  split
  · rename_i ho
    have : k ∈ Region.ready md ops listed := by rw [hr]; simp
    obtain ⟨_, o, ho', _⟩ := mem_ready.1 this
    rw [ho] at ho'; cases ho'
  · rename_i o ho
    have := h o ho (fun a' w' => S w' ∧ wpAnyH P md ops Q S fuel (listed.setIfInBounds k true) a' w') (Lib.hid (fun a' w' h1 h2 => ⟨h1, h2⟩))
    split
    · rename_i hw; rw [if_pos hw] at this; exact .inl this
    · rename_i hw; rw [if_neg hw] at this; exact this
/-- The last one. -/
theorem lastH {L : Nat} {a : Act} {w : World} (hL : L < ops.size)
    (h : ∀ o, ops[L]? = some o → ∀ K : Act → World → Prop, RowKit.Hid (∀ a' w', Q .normal a' w' → K a' w') → if Region.wanted o (yielded ops a.tmps) = true then Oper.wp P o a w K Q else K (a.put o.dst undef) w) : LastQ P ops Q L .normal a w := by
  show wpOp P ops Q L (Q .normal) a w
  have ho : ops[L]? = some ops[L] := Array.getElem?_eq_getElem hL
  have := h _ ho (Q .normal) (Lib.hid (fun a' w' h1 => h1))
  unfold wpOp
  simp only [ho]
  split
  · rename_i hw; rw [if_pos hw] at this; exact .inl this
  · rename_i hw; rw [if_neg hw] at this; exact this
end
end Go.Proofs.YtooblmiffgjmjaaGreatDoor
