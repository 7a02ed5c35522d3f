/- The machine reads registers. (Written by gen/genmacc.py.) -/
import Derived.Test.YtoidhjmhakajlaaLastJ
namespace Go.Proofs.Ytoidhjmhakajlaa
open Go.ChangeShapes Go.WideShapes Go.RowKit Go.Deep
set_option linter.unusedVariables false

/-- Of all that was there only the block of v may have changed; the value v' lies in that of v, or is new. -/
structure Gro (w w' : World) (v v' : Value) : Prop where
  os : w'.os = w.os
  tape : w'.tape = w.tape
  output : w'.output = w.output
  size : w.heap.size ≤ w'.heap.size
  block : ∀ k, k < w.heap.size → v.ownBlock ≠ some k → w'.heap[k]? = w.heap[k]?
  own : ∀ g, v'.ownBlock = some g → v.ownBlock = some g ∨ w.heap.size ≤ g
/-- One append of one element, which first lies in a block of its own. -/
theorem gro_append {w w1 : World} {o : Obj} {v : Value} {g n cap : Nat} (hg : (w.alloc o).drew.grownBy w1 v.ownBlock) (hl : v.ownBlock = some g ∨ g = w.heap.size + 1) : Gro w w1 v (.slice (some ⟨g, 0, none⟩) n cap) :=
  ⟨hg.os, hg.tape, hg.output, Nat.le_trans (by simp) hg.size, fun k hk hv => (hg.block k (by simp; omega) (fun e => hv e.symm)).trans (Below.heap_alloc _ _ _ hk),
   fun x hx => by
    obtain rfl : g = x := Option.some.inj hx
    rcases hl with h | h
    · exact .inl h
    · exact .inr (by omega)⟩
theorem gro_block {P : Nat} {w w' : World} {v v' : Value} {s : St} {q : MV} (h : Gro w w' v v') (hb : MacB P w s q) (hP : v.ownBlock ≠ some P) : MacB P w' s q := (h.block P hb.lt hP).trans hb
theorem owns_of_gro {w w' : World} {v v' u : Value} {base n size : Nat} {e : TypeId} {xs : List Value} (h : Gro w w' v v') (hu : w.ownsRow base e size u n xs) (hne : u.ownBlock = none ∨ u.ownBlock ≠ v.ownBlock) : w'.ownsRow base e size u n xs :=
  owns_keep hu (fun g hg _ hl => h.block g hl (fun e => by
    rcases hne with h1 | h1
    · rw [h1] at hg; cases hg
    · exact h1 (hg.trans e.symm)))
/-- What is apart from a row is apart from the row that comes of it. -/
theorem apart_of_gro {w w' : World} {v v' u : Value} {base n size : Nat} {e : TypeId} {xs : List Value} (h : Gro w w' v v') (hu : w.ownsRow base e size u n xs) (hne : u.ownBlock = none ∨ u.ownBlock ≠ v.ownBlock) : u.ownBlock = none ∨ u.ownBlock ≠ v'.ownBlock := by
  rcases hne with h1 | h1
  · exact .inl h1
  · cases hub : u.ownBlock with
    | none => exact .inl rfl
    | some g =>
      right
      intro e
      rcases h.own g e.symm with h2 | h2
      · exact h1 (hub.trans h2.symm)
      · have := (hu.lt g hub).2; omega
theorem apart_symm {u v : Value} (h : u.ownBlock = none ∨ u.ownBlock ≠ v.ownBlock) : v.ownBlock = none ∨ v.ownBlock ≠ u.ownBlock := by
  rcases h with h | h
  · cases hv : v.ownBlock with
    | none => exact .inl rfl
    | some g => right; rw [h]; intro e; cases e
  · exact .inr (Ne.symm h)
/-- What was read last is another list. -/
theorem mac_read {K P : Nat} {m : List FunD} {w w1 : World} {s : St} {q : MV} {rd rd' : List Int} {v' : Value} (hb : MacB P w s q) (he : Env K P w m q) (hd : Dyn K w s q rd) (hP : P < K) (hK : K ≤ w.heap.size)
    (hg : Gro w w1 q.vr v') (hown : w1.ownsRow K 2 1 v' rd'.length (rd'.map (Value.int .i64))) : Mac K P m (w1.setCell ⟨P, 262, none⟩ v') s rd' ∧ BB K P w (w1.setCell ⟨P, 262, none⟩ v') := by
  obtain ⟨a1, a2, ⟨cc, a3, a4⟩, a5, a6, a7⟩ := hd
  have hPv : q.vr.ownBlock ≠ some P := fun e => by have := (a1.lt P e).1; omega
  have hb1 : MacB P (w1.setCell ⟨P, 262, none⟩ v') s { q with vr := v' } := (gro_block hg hb hPv).set (set_mid (by omega) (by omega) rfl rfl rfl
    (mid_cases (fun _ => rfl) (fun _ => rfl) (fun _ => rfl) (fun h => absurd rfl h) (fun _ => rfl) (fun _ => rfl) (fun _ => rfl) (fun _ => rfl) (fun _ => rfl)))
  have hsz : (w1.setCell ⟨P, 262, none⟩ v').heap.size = w1.heap.size := by simp [World.setCell]
  have hS : ∀ k, k < w1.heap.size → k ≠ P → (w1.setCell ⟨P, 262, none⟩ v').heap[k]? = w1.heap[k]? := fun k hk hne => set_others k hk hne
  have hkeep : ∀ {base n size : Nat} {e : TypeId} {u : Value} {xs : List Value}, K ≤ base → w1.ownsRow base e size u n xs → (w1.setCell ⟨P, 262, none⟩ v').ownsRow base e size u n xs := fun hbase h =>
    owns_keep h (fun g _ hb hl => hS g hl (by omega))
  have hsize := hg.size
  refine ⟨⟨{ q with vr := v' }, hb1, env_set he rfl rfl (fun k h1 h2 h3 => (hS k (by omega) h2).trans (hg.block k h3 (fun e => by have := (a1.lt k e).1; omega))),
    ⟨hkeep (Nat.le_refl _) hown, hkeep (Nat.le_refl _) (owns_of_gro hg a2 (apart_symm a5)), ⟨cc, hkeep (Nat.le_refl _) (owns_of_gro hg a3 (apart_symm a6)), ?_⟩, apart_symm (apart_of_gro hg a2 (apart_symm a5)), apart_symm (apart_of_gro hg a3 (apart_symm a6)), a7⟩, hP, by omega⟩, ?_⟩
  · refine a4.imp fun fr cs hc => CCal.go (fun a v hB hv => ?_) (fun b hB => ⟨hB.1.1, fun e => ?_, hB.1.2.2⟩) hc.lt
    · rw [World.cell?_of_block ((hS a.block (by omega) (by omega)).trans (hg.block a.block hB.2 (fun e => hB.1.2.1 e.symm)))]; exact hv
    · rcases hg.own b e.symm with h | h
      · exact hB.1.2.1 h.symm
      · omega
  · exact BB.setCell (p := ⟨P, 262, none⟩) ⟨hg.os, hg.tape, hg.output, hg.size, fun k hk hne => hg.block k (by omega) (fun e => by have := (a1.lt k e).1; omega)⟩ (.inl rfl) v'

/-- A block that is none of the machine's own. -/
def ApartM (P : Nat) (w : World) (k : Nat) : Prop := k ≠ P ∧ ∀ i u, i = 259 ∨ i = 262 ∨ i = 266 → w.cell? ⟨P, i, none⟩ = some u → u.ownBlock ≠ some k
/-- Such blocks stay. -/
def FrM (P : Nat) (w w' : World) : Prop := w.heap.size ≤ w'.heap.size ∧ ∀ k, k < w.heap.size → ApartM P w k → w'.heap[k]? = w.heap[k]? ∧ ApartM P w' k
theorem FrM.refl (P : Nat) (w : World) : FrM P w w := ⟨Nat.le_refl _, fun k _ h => ⟨rfl, h⟩⟩
theorem FrM.trans {P : Nat} {a b c : World} (h : FrM P a b) (k : FrM P b c) : FrM P a c :=
  ⟨Nat.le_trans h.1 k.1, fun i hi ha => by
    obtain ⟨h1, h2⟩ := h.2 i hi ha
    obtain ⟨h3, h4⟩ := k.2 i (Nat.lt_of_lt_of_le hi h.1) h2
    exact ⟨h3.trans h1, h4⟩⟩
theorem mac_read_fr {P : Nat} {w w1 : World} {s : St} {q : MV} {v' : Value} (hb : MacB P w s q) (hPv : q.vr.ownBlock ≠ some P) (hg : Gro w w1 q.vr v') : FrM P w (w1.setCell ⟨P, 262, none⟩ v') := by
  have hb1 : MacB P (w1.setCell ⟨P, 262, none⟩ v') s { q with vr := v' } := (gro_block hg hb hPv).set (set_mid (by omega) (by omega) rfl rfl rfl
    (mid_cases (fun _ => rfl) (fun _ => rfl) (fun _ => rfl) (fun h => absurd rfl h) (fun _ => rfl) (fun _ => rfl) (fun _ => rfl) (fun _ => rfl) (fun _ => rfl)))
  refine ⟨Nat.le_trans hg.size (by simp [World.setCell]), fun k hk ha => ?_⟩
  have hvr := ha.2 262 q.vr (.inr (.inl rfl)) (hb.cell (by omega))
  refine ⟨(set_others k (Nat.lt_of_lt_of_le hk hg.size) ha.1).trans (hg.block k hk hvr), ha.1, fun i u hi hu e => ?_⟩
  rcases hi with rfl | rfl | rfl
  · have h1 : some u = some q.vc := hu.symm.trans (hb1.cell (by omega))
    exact ha.2 259 q.vc (.inl rfl) (hb.cell (by omega)) ((Option.some.inj h1) ▸ e)
  · have h1 : some u = some v' := hu.symm.trans (hb1.cell (by omega))
    rcases hg.own k ((Option.some.inj h1) ▸ e) with h2 | h2
    · exact hvr h2
    · omega
  · have h1 : some u = some q.vo := hu.symm.trans (hb1.cell (by omega))
    exact ha.2 266 q.vo (.inr (.inr rfl)) (hb.cell (by omega)) ((Option.some.inj h1) ▸ e)

theorem argsV_len (r : Nat → Int) (l : List Int) : (argsV r l).length = l.length := by simp [argsV]
/-- A row of nothing yet, over the same cells. -/
theorem owns_zero {w : World} {base n cap g : Nat} {e : TypeId} {xs : List Value} (h : w.ownsRow base e 1 (.slice (some ⟨g, 0, none⟩) n cap) n xs) : w.ownsRow base e 1 (.slice (some ⟨g, 0, none⟩) 0 cap) 0 [] := by
  refine ⟨by simp, ?_⟩
  rcases h.2 with ⟨h1, _⟩ | ⟨g', cap', cur, h1, h2, h3, h4, h5, h6, h7⟩
  · cases h1
  · simp only [Value.slice.injEq, Option.some.injEq, Addr.mk.injEq, and_true, true_and] at h1
    obtain ⟨rfl, rfl⟩ := h1
    exact .inr ⟨g, cap, cur, rfl, h2, h3, Nat.zero_le _, h5, h6, by simp⟩
theorem gro_same {w : World} {v v' : Value} (h : v'.ownBlock = v.ownBlock) : Gro w w v v' := ⟨rfl, rfl, rfl, Nat.le_refl _, fun _ _ _ => rfl, fun g hg => .inl (h ▸ hg)⟩

set_option maxRecDepth 100000 in
set_option maxHeartbeats 8000000 in
theorem readAll_any (K P : Nat) (m : List FunD) (w : World) (s : St) (rd l : List Int) (v : Value) (h : Mac K P m w s rd) (hv : VS w 1 (RIntB (Old K P)) v l) (hl : l.length ≤ 1000) (hin : ∀ r ∈ l, InR 256 r) :
    Calls Try.prog 66 #[.pointer (some ⟨P, 0, none⟩), v] w fun e w' => e = .returned (.tuple #[]) ∧ Mac K P m w' s (argsV s.cur.regs l) ∧ BB K P w w' ∧ FrM P w w' := by
  obtain ⟨q0, hb0, he0, hd0, hP, hK⟩ := h
  obtain ⟨A, c, rfl, hs0⟩ := hv
  obtain ⟨i64, p1, p2, p3, p4⟩ := info_parts Try.info2
  have HI := Lib.hid (And.intro p1 (And.intro p2 (And.intro p3 p4)))
  clear p1 p2 p3 p4
  have HIN := Lib.hid hin
  have c0 : w.cell? ⟨P, 262, none⟩ = some q0.vr := hb0.cell (by omega)
  have f0 := hb0.free 262
  have HB := Lib.hid hb0
  have HE := Lib.hid he0
  have HD := Lib.hid hd0
  have hlen := hs0.1
  -- the row that is begun anew
  have hnew : ∃ v0, (∃ A0 c0, q0.vr = .slice A0 rd.length c0 ∧ v0 = .slice A0 0 c0) ∧ v0.ownBlock = q0.vr.ownBlock ∧ w.ownsRow K 2 1 v0 0 [] := by
    have h1 := hd0.rdv
    rcases h1.2 with ⟨h2, h3⟩ | ⟨g, cap, cur, h2, _⟩
    · exact ⟨.slice none 0 0, ⟨none, 0, by rw [h2, h3], rfl⟩, by rw [h2], World.ownsRow_nil _ _ _ _⟩
    · rw [h2] at h1
      exact ⟨.slice (some ⟨g, 0, none⟩) 0 cap, ⟨_, _, h2, rfl⟩, by rw [h2]; rfl, owns_zero h1⟩
  obtain ⟨v0, ⟨A0, cp0, hvr, rfl⟩, hv0, hown0⟩ := hnew
  rw [hvr] at c0
  have HM1 := Lib.hid (mac_read (rd' := argsV s.cur.regs (l.take 0)) HB.out HE.out HD.out hP hK (gro_same hv0) (by simpa [argsV] using hown0))
  have HFR := Lib.hid (mac_read_fr HB.out (fun e => by have := (HD.out.rdv.lt P e).1; omega) (gro_same (v' := .slice A0 0 cp0) hv0))
  have HV0 := Lib.hid hv0
  have HS0 := Lib.hid hs0
  clear hb0 he0 hd0 hin hown0 hvr hv0 hs0
  go_enter Try.func66, Try.ntmps66
  go_wp2_with fail
  go_loopw [16] (fun i wr => ∃ j : Nat, j ≤ l.length ∧ i = .int .i64 j ∧ Mac K P m wr s (argsV s.cur.regs (l.take j)) ∧ BB K P w wr ∧ FrM P w wr) (fun i _ => l.length - (intOf i).toNat)
  case atStart => exact ⟨0, Nat.zero_le _, rfl, HM1.out.1, HM1.out.2, HFR.out⟩
  case round =>
    obtain ⟨j, hj, rfl, hm, hbb, hfr⟩ := hrel
    have HFW := Lib.hid hfr
    clear c0 f0 hfr
    by_cases hjt : j < l.length
    · obtain ⟨q, hb, he, hd, hP', hK0⟩ := hm
      clear hP'
      have hsr := SIntsB.go (hbb.kept) (fun _ h => h) HS0.out
      obtain ⟨b, o, x, rfl, hx, ⟨hbo, hcell, -⟩⟩ := hsr.at_ hjt
      rw [Nat.mul_one] at hcell
      have hxin := HIN.out x (List.mem_of_getElem? hx.out)
      obtain ⟨r, hrx⟩ : ∃ r : Nat, x = r := ⟨x.toNat, by have := hxin.1; omega⟩
      subst hrx
      have hr256 : r < 256 := by have := hxin.2; omega
      have HX := hx
      have hr0 : (0 : Int) ≤ r := by omega
      have hr1 : (r : Int) < 256 := by omega
      have hj0 : (0 : Int) ≤ j := by omega
      have hj1 : (j : Int) < l.length := by omega
      have cv : wr.cell? ⟨P, 262, none⟩ = some q.vr := hb.cell (by omega)
      have creg : wr.cell? ⟨P, 3 + r, none⟩ = some (.int .i64 (s.cur.regs r)) := hb.reg hr256
      have HOW : Hid (wr.ownsRow K 2 1 q.vr j ((argsV s.cur.regs (l.take j)).map (Value.int .i64))) := Lib.hid (by have := hd.rdv; rwa [argsV_len, List.length_take, Nat.min_eq_left hj] at this)
      have HTL : Hid ((l.take (j + 1)).length = j + 1) := Lib.hid (by rw [List.length_take]; omega)
      have hlt : j ≤ 1000 := by omega
      have HMB := Lib.hid hb
      have HME := Lib.hid he
      have HMD := Lib.hid hd
      clear hb he hd hsr hbo hxin hx
      go_wp2_with fail
      refine wp_region_last (L := 15) (S := fun w' => w'.cell? ⟨P, 262, none⟩ = some q.vr ∧ w'.cell? ⟨P, 3 + r, none⟩ = some (.int .i64 (s.cur.regs r))) (by kernel_rfl) (by rfl) (by kernel_rfl) (by kernel_rfl) ?_
      change wpAnyH _ _ _ _ _ _ _ _ (World.drew _)
      have hS : ∀ w', Below wr.heap.size wr w' → w'.cell? ⟨P, 262, none⟩ = some q.vr ∧ w'.cell? ⟨P, 3 + r, none⟩ = some (.int .i64 (s.cur.regs r)) := fun w' h => ⟨kept_of_below h _ _ cv, kept_of_below h _ _ creg⟩
      have hS0 := hS wr.drew (Below.refl _ _).drew
      clear cv creg hcell
      refine takeH (i := 0) (some 20) (v := ?_) rfl (by kernel_rfl) (by kernel_rfl) (by kernel_rfl) (fun _ _ _ h => h) hS0 (fun o ho => ?_) ?_
      rotate_left
      · simp only [List.getElem?_toArray, List.getElem?_cons_zero, Option.some.injEq] at ho; subst ho; refine Or.inl ⟨by rfl, fun w' hSw => ?_⟩; (try dsimp only at hSw); go_simp; try with_reducible rfl
      simp only [Act.put, List.setIfInBounds_toArray, List.set_cons_zero, List.set_cons_succ]
      refine takeH (i := 1) (some 21) (v := ?_) rfl (by kernel_rfl) (by kernel_rfl) (by kernel_rfl) (fun _ _ _ h => h) hS0 (fun o ho => ?_) ?_
      rotate_left
      · simp only [List.getElem?_toArray, List.getElem?_cons_zero, List.getElem?_cons_succ, Option.some.injEq] at ho; subst ho; refine Or.inl ⟨by rfl, fun w' hSw => ?_⟩; (try dsimp only at hSw); go_simp; try with_reducible rfl
      simp only [Act.put, List.setIfInBounds_toArray, List.set_cons_zero, List.set_cons_succ]
      refine takeH (i := 2) (some 22) (v := ?_) rfl (by kernel_rfl) (by kernel_rfl) (by kernel_rfl) (fun _ _ _ h => h) hS0 (fun o ho => ?_) ?_
      rotate_left
      · simp only [List.getElem?_toArray, List.getElem?_cons_zero, List.getElem?_cons_succ, Option.some.injEq] at ho; subst ho; refine Or.inl ⟨by rfl, fun w' hSw => ?_⟩; (try dsimp only at hSw); go_simp; try with_reducible rfl
      simp only [Act.put, List.setIfInBounds_toArray, List.set_cons_zero, List.set_cons_succ]
      refine takeH (i := 3) (some 23) (v := ?_) rfl (by kernel_rfl) (by kernel_rfl) (by kernel_rfl) (fun _ _ _ h => h) hS0 (fun o ho => ?_) ?_
      rotate_left
      · simp only [List.getElem?_toArray, List.getElem?_cons_zero, List.getElem?_cons_succ, Option.some.injEq] at ho; subst ho; refine Or.inl ⟨by rfl, fun w' hSw => ?_⟩; (try dsimp only at hSw); go_simp; try with_reducible rfl
      simp only [Act.put, List.setIfInBounds_toArray, List.set_cons_zero, List.set_cons_succ]
      refine takeH (i := 4) (some 24) (v := ?_) rfl (by kernel_rfl) (by kernel_rfl) (by kernel_rfl) (fun _ _ _ h => h) hS0 (fun o ho => ?_) ?_
      rotate_left
      · simp only [List.getElem?_toArray, List.getElem?_cons_zero, List.getElem?_cons_succ, Option.some.injEq] at ho; subst ho; refine Or.inl ⟨by rfl, fun w' hSw => ?_⟩; (try dsimp only at hSw); go_simp; try with_reducible rfl
      simp only [Act.put, List.setIfInBounds_toArray, List.set_cons_zero, List.set_cons_succ]
      refine takeH (i := 5) (some 25) (v := ?_) rfl (by kernel_rfl) (by kernel_rfl) (by kernel_rfl) (fun _ _ _ h => h) hS0 (fun o ho => ?_) ?_
      rotate_left
      · simp only [List.getElem?_toArray, List.getElem?_cons_zero, List.getElem?_cons_succ, Option.some.injEq] at ho; subst ho; refine Or.inl ⟨by rfl, fun w' hSw => ?_⟩; (try dsimp only at hSw); go_simp; try with_reducible rfl
      simp only [Act.put, List.setIfInBounds_toArray, List.set_cons_zero, List.set_cons_succ]
      refine takeH (i := 6) (some 26) (v := ?_) rfl (by kernel_rfl) (by kernel_rfl) (by kernel_rfl) (fun _ _ _ h => h) hS0 (fun o ho => ?_) ?_
      rotate_left
      · simp only [List.getElem?_toArray, List.getElem?_cons_zero, List.getElem?_cons_succ, Option.some.injEq] at ho; subst ho; refine Or.inl ⟨by rfl, fun w' hSw => ?_⟩; (try dsimp only at hSw); go_simp; try with_reducible rfl
      simp only [Act.put, List.setIfInBounds_toArray, List.set_cons_zero, List.set_cons_succ]
      refine takeH (i := 7) (some 27) (v := ?_) rfl (by kernel_rfl) (by kernel_rfl) (by kernel_rfl) (fun _ _ _ h => h) hS0 (fun o ho => ?_) ?_
      rotate_left
      · simp only [List.getElem?_toArray, List.getElem?_cons_zero, List.getElem?_cons_succ, Option.some.injEq] at ho; subst ho; refine Or.inl ⟨by rfl, fun w' hSw => ?_⟩; (try dsimp only at hSw); go_simp; try with_reducible rfl
      simp only [Act.put, List.setIfInBounds_toArray, List.set_cons_zero, List.set_cons_succ]
      refine takeH (i := 8) (some 28) (v := ?_) rfl (by kernel_rfl) (by kernel_rfl) (by kernel_rfl) (fun _ _ _ h => h) hS0 (fun o ho => ?_) ?_
      rotate_left
      · simp only [List.getElem?_toArray, List.getElem?_cons_zero, List.getElem?_cons_succ, Option.some.injEq] at ho; subst ho; refine Or.inl ⟨by rfl, fun w' hSw => ?_⟩; (try dsimp only at hSw); go_simp; try with_reducible rfl
      simp only [Act.put, List.setIfInBounds_toArray, List.set_cons_zero, List.set_cons_succ]
      refine takeH (i := 9) (some 29) (v := ?_) rfl (by kernel_rfl) (by kernel_rfl) (by kernel_rfl) (fun _ _ _ h => h) hS0 (fun o ho => ?_) ?_
      rotate_left
      · simp only [List.getElem?_toArray, List.getElem?_cons_zero, List.getElem?_cons_succ, Option.some.injEq] at ho; subst ho; refine Or.inl ⟨by rfl, fun w' hSw => ?_⟩; (try dsimp only at hSw); go_simp; try with_reducible rfl
      simp only [Act.put, List.setIfInBounds_toArray, List.set_cons_zero, List.set_cons_succ]
      refine takeH (i := 10) (some 30) (v := ?_) rfl (by kernel_rfl) (by kernel_rfl) (by kernel_rfl) (fun _ _ _ h => h) hS0 (fun o ho => ?_) ?_
      rotate_left
      · simp only [List.getElem?_toArray, List.getElem?_cons_zero, List.getElem?_cons_succ, Option.some.injEq] at ho; subst ho; refine Or.inl ⟨by rfl, fun w' hSw => ?_⟩; (try dsimp only at hSw); go_simp; try with_reducible rfl
      simp only [Act.put, List.setIfInBounds_toArray, List.set_cons_zero, List.set_cons_succ]
      refine oneH (i := 11) (by kernel_rfl) (fun o ho K' hK => ?_)
      simp only [List.getElem?_toArray, List.getElem?_cons_zero, List.getElem?_cons_succ, Option.some.injEq] at ho; subst ho
      go_simp
      have hb8 : Below wr.heap.size wr (wr.alloc (.cells #[.int .i64 (s.cur.regs r)] 2)).drew := ((Below.refl _ wr).alloc (Nat.le_refl _) _).drew
      refine hK.out _ _ (hS _ hb8) ?_
      clear hK K'
      refine oneH (i := 12) (by kernel_rfl) (fun o ho K' hK => ?_)
      simp only [List.getElem?_toArray, List.getElem?_cons_zero, List.getElem?_cons_succ, Option.some.injEq] at ho; subst ho
      refine step_append_lies _ (by rfl) _ _ _ (by rfl) K 2 i64 (.int .i64 0) 1 8 Try.underlying25 HI.out.1 HI.out.2.1 HI.out.2.2.1 HI.out.2.2.2 rfl (by decide) q.vr j _ (by rfl) (HOW.out.alloc _)
        ⟨wr.heap.size, 0, none⟩ 1 1 [.int .i64 (s.cur.regs r)] (by rfl) (by rfl) (cell_one_new _ _ _) (by intro u hu; rw [List.mem_singleton.1 hu]; rfl) (by decide) (by unfold maxLen; omega) (by omega) (by simp; omega) (wr.heap.size + 1) (by simp) ?_
      intro g cap wC hownC hgrowC hlocC hltC
      have hGR : Hid (Gro wr wC q.vr (.slice (some ⟨g, 0, none⟩) (j + 1) cap)) := Lib.hid (gro_append (w := wr) hgrowC hlocC)
      have hmC := (mac_read HMB.out HME.out HMD.out hP hK0 hGR.out (rd' := argsV s.cur.regs (l.take (j + 1))) (by
        rw [argsV_len, HTL.out]
        have e : (argsV s.cur.regs (l.take (j + 1))).map (Value.int .i64) = (argsV s.cur.regs (l.take j)).map (Value.int .i64) ++ [.int .i64 (s.cur.regs r)] := by
          rw [take_succ_of HX.out]; unfold argsV; simp
        rw [e]; exact hownC))
      have HMC := Lib.hid hmC
      have HFC := Lib.hid (HFW.out.trans (mac_read_fr HMB.out (fun e => by have := (HOW.out.lt P e).1; omega) hGR.out))
      clear hmC
      have xc : wC.cell? ⟨P, 262, none⟩ = some q.vr := (gro_block hGR.out HMB.out (by intro e; have := (HOW.out.lt P e).1; omega)).cell (by omega)
      have xf : wC.frozen? ⟨P, 262, none⟩ = false := (gro_block hGR.out HMB.out (by intro e; have := (HOW.out.lt P e).1; omega)).free 262
      have xr : wC.cell? ⟨P, 3 + r, none⟩ = some (.int .i64 (s.cur.regs r)) := (gro_block hGR.out HMB.out (by intro e; have := (HOW.out.lt P e).1; omega)).reg hr256
      have hSC : wC.cell? ⟨P, 262, none⟩ = some q.vr ∧ wC.cell? ⟨P, 3 + r, none⟩ = some (.int .i64 (s.cur.regs r)) := ⟨xc, xr⟩
      refine hK.out _ _ hSC ?_
      clear hK K'
      simp only [Act.put, List.setIfInBounds_toArray, List.set_cons_zero, List.set_cons_succ]
      refine takeH (i := 13) (some 33) (v := ?_) rfl (by kernel_rfl) (by kernel_rfl) (by kernel_rfl) (fun _ _ _ h => h) hSC (fun o ho => ?_) ?_
      rotate_left
      · simp only [List.getElem?_toArray, List.getElem?_cons_zero, List.getElem?_cons_succ, Option.some.injEq] at ho; subst ho; refine Or.inl ⟨by rfl, fun w' hSw => ?_⟩; (try dsimp only at hSw); go_simp; try with_reducible rfl
      simp only [Act.put, List.setIfInBounds_toArray, List.set_cons_zero, List.set_cons_succ]
      refine takeH (i := 14) (some 34) (v := ?_) rfl (by kernel_rfl) (by kernel_rfl) (by kernel_rfl) (fun _ _ _ h => h) hSC (fun o ho => ?_) ?_
      rotate_left
      · simp only [List.getElem?_toArray, List.getElem?_cons_zero, List.getElem?_cons_succ, Option.some.injEq] at ho; subst ho; refine Or.inl ⟨by rfl, fun w' hSw => ?_⟩; (try dsimp only at hSw); go_simp; try with_reducible rfl
      simp only [Act.put, List.setIfInBounds_toArray, List.set_cons_zero, List.set_cons_succ]
      refine wpAnyH_done (by kernel_rfl) ?_ _
      refine lastH (by decide) (fun o ho K' hK => ?_)
      simp only [List.getElem?_toArray, List.getElem?_cons_zero, List.getElem?_cons_succ, Option.some.injEq] at ho; subst ho
      go_simp
      refine hK.out _ _ ?_
      clear hK K'
      go_wp2_with fail
      go_roundw
      case rel => exact ⟨j + 1, by omega, by go_num, HMC.out.1, hbb.trans HMC.out.2, HFC.out⟩
      case measure => simp [intOf]; omega
    · have e : l.take j = l := List.take_of_length_le (by omega)
      rw [e] at hm
      go_wp2_with fail
      go_end0
      exact ⟨rfl, hm, hbb, HFW.out⟩
end Go.Proofs.Ytoidhjmhakajlaa
