/- The machine reads registers. (Written by gen/genmacc.py.) -/
import Derived.Test.YtcjmhdneelmbhaaMacBJ
import Derived.Test.YtcjmhdneelmbhaaLvTJ
namespace Go.Proofs.Ytcjmhdneelmbhaa
open Go.ChangeShapes Go.WideShapes Go.RowKit Go.Deep
set_option linter.unusedVariables false

/-- Of all that was there only the block of v may have changed; the value v' lies in that of v, or is new. -/
structure Gro (w w' : World) (v v' : Value) : Prop where
  os : w'.os = w.os
  tape : w'.tape = w.tape
  output : w'.output = w.output
  size : w.heap.size ≤ w'.heap.size
  block : ∀ k, k < w.heap.size → v.ownBlock ≠ some k → w'.heap[k]? = w.heap[k]?
  own : ∀ g, v'.ownBlock = some g → v.ownBlock = some g ∨ w.heap.size ≤ g
/-- One append of one element, which first lies in a block of its own. -/
theorem gro_append {w w1 : World} {o : Obj} {v : Value} {g n cap : Nat} (hg : (w.alloc o).drew.grownBy w1 v.ownBlock) (hl : v.ownBlock = some g ∨ g = w.heap.size + 1) : Gro w w1 v (.slice (some ⟨g, 0, none⟩) n cap) :=
  ⟨hg.os, hg.tape, hg.output, Nat.le_trans (by simp) hg.size, fun k hk hv => (hg.block k (by simp; omega) (fun e => hv e.symm)).trans (Below.heap_alloc _ _ _ hk),
   fun x hx => by
    obtain rfl : g = x := Option.some.inj hx
    rcases hl with h | h
    · exact .inl h
    · exact .inr (by omega)⟩
theorem gro_block {P : Nat} {w w' : World} {v v' : Value} {s : St} {q : MV} (h : Gro w w' v v') (hb : MacB P w s q) (hP : v.ownBlock ≠ some P) : MacB P w' s q := (h.block P hb.lt hP).trans hb
theorem owns_of_gro {w w' : World} {v v' u : Value} {base n size : Nat} {e : TypeId} {xs : List Value} (h : Gro w w' v v') (hu : w.ownsRow base e size u n xs) (hne : u.ownBlock = none ∨ u.ownBlock ≠ v.ownBlock) : w'.ownsRow base e size u n xs :=
  owns_keep hu (fun g hg _ hl => h.block g hl (fun e => by
    rcases hne with h1 | h1
    · rw [h1] at hg; cases hg
    · exact h1 (hg.trans e.symm)))
/-- What is apart from a row is apart from the row that comes of it. -/
theorem apart_of_gro {w w' : World} {v v' u : Value} {base n size : Nat} {e : TypeId} {xs : List Value} (h : Gro w w' v v') (hu : w.ownsRow base e size u n xs) (hne : u.ownBlock = none ∨ u.ownBlock ≠ v.ownBlock) : u.ownBlock = none ∨ u.ownBlock ≠ v'.ownBlock := by
  rcases hne with h1 | h1
  · exact .inl h1
  · cases hub : u.ownBlock with
    | none => exact .inl rfl
    | some g =>
      right
      intro e
      rcases h.own g e.symm with h2 | h2
      · exact h1 (hub.trans h2.symm)
      · have := (hu.lt g hub).2; omega
theorem apart_symm {u v : Value} (h : u.ownBlock = none ∨ u.ownBlock ≠ v.ownBlock) : v.ownBlock = none ∨ v.ownBlock ≠ u.ownBlock := by
  rcases h with h | h
  · cases hv : v.ownBlock with
    | none => exact .inl rfl
    | some g => right; rw [h]; intro e; cases e
  · exact .inr (Ne.symm h)
/-- What was read last is another list. -/
theorem mac_read {K P : Nat} {m : List FunD} {w w1 : World} {s : St} {q : MV} {rd rd' : List Int} {v' : Value} (hb : MacB P w s q) (he : Env K P w m q) (hd : Dyn K w s q rd) (hP : P < K) (hK : K ≤ w.heap.size)
    (hg : Gro w w1 q.vr v') (hown : w1.ownsRow K 2 1 v' rd'.length (rd'.map (Value.int .i64))) : Mac K P m (w1.setCell ⟨P, 262, none⟩ v') s rd' ∧ BB K P w (w1.setCell ⟨P, 262, none⟩ v') := by
  obtain ⟨a1, a2, ⟨cc, a3, a4⟩, a5, a6, a7⟩ := hd
  have hPv : q.vr.ownBlock ≠ some P := fun e => by have := (a1.lt P e).1; omega
  have hb1 : MacB P (w1.setCell ⟨P, 262, none⟩ v') s { q with vr := v' } := (gro_block hg hb hPv).set (set_mid (by omega) (by omega) rfl rfl rfl
    (mid_cases (fun _ => rfl) (fun _ => rfl) (fun _ => rfl) (fun h => absurd rfl h) (fun _ => rfl) (fun _ => rfl) (fun _ => rfl) (fun _ => rfl) (fun _ => rfl)))
  have hsz : (w1.setCell ⟨P, 262, none⟩ v').heap.size = w1.heap.size := by simp [World.setCell]
  have hS : ∀ k, k < w1.heap.size → k ≠ P → (w1.setCell ⟨P, 262, none⟩ v').heap[k]? = w1.heap[k]? := fun k hk hne => set_others k hk hne
  have hkeep : ∀ {base n size : Nat} {e : TypeId} {u : Value} {xs : List Value}, K ≤ base → w1.ownsRow base e size u n xs → (w1.setCell ⟨P, 262, none⟩ v').ownsRow base e size u n xs := fun hbase h =>
    owns_keep h (fun g _ hb hl => hS g hl (by omega))
  have hsize := hg.size
  refine ⟨⟨{ q with vr := v' }, hb1, env_set he rfl rfl (fun k h1 h2 h3 => (hS k (by omega) h2).trans (hg.block k h3 (fun e => by have := (a1.lt k e).1; omega))),
    ⟨hkeep (Nat.le_refl _) hown, hkeep (Nat.le_refl _) (owns_of_gro hg a2 (apart_symm a5)), ⟨cc, hkeep (Nat.le_refl _) (owns_of_gro hg a3 (apart_symm a6)), ?_⟩, apart_symm (apart_of_gro hg a2 (apart_symm a5)), apart_symm (apart_of_gro hg a3 (apart_symm a6)), a7⟩, hP, by omega⟩, ?_⟩
  · refine a4.imp fun fr cs hc => CCal.go (fun a v hB hv => ?_) (fun b hB => ⟨hB.1.1, fun e => ?_, hB.1.2.2⟩) hc.lt
    · rw [World.cell?_of_block ((hS a.block (by omega) (by omega)).trans (hg.block a.block hB.2 (fun e => hB.1.2.1 e.symm)))]; exact hv
    · rcases hg.own b e.symm with h | h
      · exact hB.1.2.1 h.symm
      · omega
  · exact BB.setCell (p := ⟨P, 262, none⟩) ⟨hg.os, hg.tape, hg.output, hg.size, fun k hk hne => hg.block k (by omega) (fun e => by have := (a1.lt k e).1; omega)⟩ (.inl rfl) v'

/-- A block that is none of the machine's own. -/
def ApartM (P : Nat) (w : World) (k : Nat) : Prop := k ≠ P ∧ ∀ i u, i = 259 ∨ i = 262 ∨ i = 266 → w.cell? ⟨P, i, none⟩ = some u → u.ownBlock ≠ some k
/-- Such blocks stay. -/
def FrM (P : Nat) (w w' : World) : Prop := w.heap.size ≤ w'.heap.size ∧ ∀ k, k < w.heap.size → ApartM P w k → w'.heap[k]? = w.heap[k]? ∧ ApartM P w' k
theorem FrM.refl (P : Nat) (w : World) : FrM P w w := ⟨Nat.le_refl _, fun k _ h => ⟨rfl, h⟩⟩
theorem FrM.trans {P : Nat} {a b c : World} (h : FrM P a b) (k : FrM P b c) : FrM P a c :=
  ⟨Nat.le_trans h.1 k.1, fun i hi ha => by
    obtain ⟨h1, h2⟩ := h.2 i hi ha
    obtain ⟨h3, h4⟩ := k.2 i (Nat.lt_of_lt_of_le hi h.1) h2
    exact ⟨h3.trans h1, h4⟩⟩
theorem mac_read_fr {P : Nat} {w w1 : World} {s : St} {q : MV} {v' : Value} (hb : MacB P w s q) (hPv : q.vr.ownBlock ≠ some P) (hg : Gro w w1 q.vr v') : FrM P w (w1.setCell ⟨P, 262, none⟩ v') := by
  have hb1 : MacB P (w1.setCell ⟨P, 262, none⟩ v') s { q with vr := v' } := (gro_block hg hb hPv).set (set_mid (by omega) (by omega) rfl rfl rfl
    (mid_cases (fun _ => rfl) (fun _ => rfl) (fun _ => rfl) (fun h => absurd rfl h) (fun _ => rfl) (fun _ => rfl) (fun _ => rfl) (fun _ => rfl) (fun _ => rfl)))
  refine ⟨Nat.le_trans hg.size (by simp [World.setCell]), fun k hk ha => ?_⟩
  have hvr := ha.2 262 q.vr (.inr (.inl rfl)) (hb.cell (by omega))
  refine ⟨(set_others k (Nat.lt_of_lt_of_le hk hg.size) ha.1).trans (hg.block k hk hvr), ha.1, fun i u hi hu e => ?_⟩
  rcases hi with rfl | rfl | rfl
  · have h1 : some u = some q.vc := hu.symm.trans (hb1.cell (by omega))
    exact ha.2 259 q.vc (.inl rfl) (hb.cell (by omega)) ((Option.some.inj h1) ▸ e)
  · have h1 : some u = some v' := hu.symm.trans (hb1.cell (by omega))
    rcases hg.own k ((Option.some.inj h1) ▸ e) with h2 | h2
    · exact hvr h2
    · omega
  · have h1 : some u = some q.vo := hu.symm.trans (hb1.cell (by omega))
    exact ha.2 266 q.vo (.inr (.inr rfl)) (hb.cell (by omega)) ((Option.some.inj h1) ▸ e)

theorem argsV_len (r : Nat → Int) (l : List Int) : (argsV r l).length = l.length := by simp [argsV]
/-- A row of nothing yet, over the same cells. -/
theorem owns_zero {w : World} {base n cap g : Nat} {e : TypeId} {xs : List Value} (h : w.ownsRow base e 1 (.slice (some ⟨g, 0, none⟩) n cap) n xs) : w.ownsRow base e 1 (.slice (some ⟨g, 0, none⟩) 0 cap) 0 [] := by
  refine ⟨by simp, ?_⟩
  rcases h.2 with ⟨h1, _⟩ | ⟨g', cap', cur, h1, h2, h3, h4, h5, h6, h7⟩
  · cases h1
  · simp only [Value.slice.injEq, Option.some.injEq, Addr.mk.injEq, and_true, true_and] at h1
    obtain ⟨rfl, rfl⟩ := h1
    exact .inr ⟨g, cap, cur, rfl, h2, h3, Nat.zero_le _, h5, h6, by simp⟩
theorem gro_same {w : World} {v v' : Value} (h : v'.ownBlock = v.ownBlock) : Gro w w v v' := ⟨rfl, rfl, rfl, Nat.le_refl _, fun _ _ _ => rfl, fun g hg => .inl (h ▸ hg)⟩

set_option maxRecDepth 100000 in
set_option maxHeartbeats 8000000 in
theorem readAll_any (K P : Nat) (m : List FunD) (w : World) (s : St) (rd l : List Int) (v : Value) (h : Mac K P m w s rd) (hv : VS w 1 (RIntB (Old K P)) v l) (hl : l.length ≤ 1000) (hin : ∀ r ∈ l, InR 256 r) :
    Calls Try.prog 81 #[.pointer (some ⟨P, 0, none⟩), v] w fun e w' => e = .returned (.tuple #[]) ∧ Mac K P m w' s (argsV s.cur.regs l) ∧ BB K P w w' ∧ FrM P w w' := by
  obtain ⟨q0, hb0, he0, hd0, hP, hK⟩ := h
  obtain ⟨A, c, rfl, hs0⟩ := hv
  obtain ⟨i64, p1, p2, p3, p4⟩ := info_parts Try.info2
  have HI := Lib.hid (And.intro p1 (And.intro p2 (And.intro p3 p4)))
  clear p1 p2 p3 p4
  have HIN := Lib.hid hin
  have c0 : w.cell? ⟨P, 262, none⟩ = some q0.vr := hb0.cell (by omega)
  have f0 := hb0.free 262
  have HB := Lib.hid hb0
  have HE := Lib.hid he0
  have HD := Lib.hid hd0
  have hlen := hs0.1
  -- the row that is begun anew
  have hnew : ∃ v0, (∃ A0 c0, q0.vr = .slice A0 rd.length c0 ∧ v0 = .slice A0 0 c0) ∧ v0.ownBlock = q0.vr.ownBlock ∧ w.ownsRow K 2 1 v0 0 [] := by
    have h1 := hd0.rdv
    rcases h1.2 with ⟨h2, h3⟩ | ⟨g, cap, cur, h2, _⟩
    · exact ⟨.slice none 0 0, ⟨none, 0, by rw [h2, h3], rfl⟩, by rw [h2], World.ownsRow_nil _ _ _ _⟩
    · rw [h2] at h1
      exact ⟨.slice (some ⟨g, 0, none⟩) 0 cap, ⟨_, _, h2, rfl⟩, by rw [h2]; rfl, owns_zero h1⟩
  obtain ⟨v0, ⟨A0, cp0, hvr, rfl⟩, hv0, hown0⟩ := hnew
  rw [hvr] at c0
  have HM1 := Lib.hid (mac_read (rd' := argsV s.cur.regs (l.take 0)) HB.out HE.out HD.out hP hK (gro_same hv0) (by simpa [argsV] using hown0))
  have HFR := Lib.hid (mac_read_fr HB.out (fun e => by have := (HD.out.rdv.lt P e).1; omega) (gro_same (v' := .slice A0 0 cp0) hv0))
  have HV0 := Lib.hid hv0
  have HS0 := Lib.hid hs0
  clear hb0 he0 hd0 hin hown0 hvr hv0 hs0
  go_enter Try.func81, Try.ntmps81
  go_wp2_with fail
  go_loopw [16] (fun i wr => ∃ j : Nat, j ≤ l.length ∧ i = .int .i64 j ∧ Mac K P m wr s (argsV s.cur.regs (l.take j)) ∧ BB K P w wr ∧ FrM P w wr) (fun i _ => l.length - (intOf i).toNat)
  case atStart => exact ⟨0, Nat.zero_le _, rfl, HM1.out.1, HM1.out.2, HFR.out⟩
  case round =>
    obtain ⟨j, hj, rfl, hm, hbb, hfr⟩ := hrel
    have HFW := Lib.hid hfr
    clear c0 f0 hfr
    by_cases hjt : j < l.length
    · obtain ⟨q, hb, he, hd, hP', hK0⟩ := hm
      clear hP'
      have hsr := SIntsB.go (hbb.kept) (fun _ h => h) HS0.out
      obtain ⟨b, o, x, rfl, hx, ⟨hbo, hcell, -⟩⟩ := hsr.at_ hjt
      rw [Nat.mul_one] at hcell
      have hxin := HIN.out x (List.mem_of_getElem? hx.out)
      obtain ⟨r, hrx⟩ : ∃ r : Nat, x = r := ⟨x.toNat, by have := hxin.1; omega⟩
      subst hrx
      have hr256 : r < 256 := by have := hxin.2; omega
      have HX := hx
      have hr0 : (0 : Int) ≤ r := by omega
      have hr1 : (r : Int) < 256 := by omega
      have hj0 : (0 : Int) ≤ j := by omega
      have hj1 : (j : Int) < l.length := by omega
      have cv : wr.cell? ⟨P, 262, none⟩ = some q.vr := hb.cell (by omega)
      have creg : wr.cell? ⟨P, 3 + r, none⟩ = some (.int .i64 (s.cur.regs r)) := hb.reg hr256
      have HOW : Hid (wr.ownsRow K 2 1 q.vr j ((argsV s.cur.regs (l.take j)).map (Value.int .i64))) := Lib.hid (by have := hd.rdv; rwa [argsV_len, List.length_take, Nat.min_eq_left hj] at this)
      have HTL : Hid ((l.take (j + 1)).length = j + 1) := Lib.hid (by rw [List.length_take]; omega)
      have hlt : j ≤ 1000 := by omega
      have HMB := Lib.hid hb
      have HME := Lib.hid he
      have HMD := Lib.hid hd
      clear hb he hd hsr hbo hxin hx
      go_wp2_with fail
      refine wp_region_last (L := 15) (S := fun w' => w'.cell? ⟨P, 262, none⟩ = some q.vr ∧ w'.cell? ⟨P, 3 + r, none⟩ = some (.int .i64 (s.cur.regs r))) (by kernel_rfl) (by rfl) (by kernel_rfl) (by kernel_rfl) ?_
      change wpAnyH _ _ _ _ _ _ _ _ (World.drew _)
      have hS : ∀ w', Below wr.heap.size wr w' → w'.cell? ⟨P, 262, none⟩ = some q.vr ∧ w'.cell? ⟨P, 3 + r, none⟩ = some (.int .i64 (s.cur.regs r)) := fun w' h => ⟨kept_of_below h _ _ cv, kept_of_below h _ _ creg⟩
      have hS0 := hS wr.drew (Below.refl _ _).drew
      clear cv creg hcell
      refine takeH (i := 0) (some 20) (v := ?_) rfl (by kernel_rfl) (by kernel_rfl) (by kernel_rfl) (fun _ _ _ h => h) hS0 (fun o ho => ?_) ?_
      rotate_left
      · simp only [List.getElem?_toArray, List.getElem?_cons_zero, Option.some.injEq] at ho; subst ho; refine Or.inl ⟨by rfl, fun w' hSw => ?_⟩; (try dsimp only at hSw); go_simp; try with_reducible rfl
      simp only [Act.put, List.setIfInBounds_toArray, List.set_cons_zero, List.set_cons_succ]
      refine takeH (i := 1) (some 21) (v := ?_) rfl (by kernel_rfl) (by kernel_rfl) (by kernel_rfl) (fun _ _ _ h => h) hS0 (fun o ho => ?_) ?_
      rotate_left
      · simp only [List.getElem?_toArray, List.getElem?_cons_zero, List.getElem?_cons_succ, Option.some.injEq] at ho; subst ho; refine Or.inl ⟨by rfl, fun w' hSw => ?_⟩; (try dsimp only at hSw); go_simp; try with_reducible rfl
      simp only [Act.put, List.setIfInBounds_toArray, List.set_cons_zero, List.set_cons_succ]
      refine takeH (i := 2) (some 22) (v := ?_) rfl (by kernel_rfl) (by kernel_rfl) (by kernel_rfl) (fun _ _ _ h => h) hS0 (fun o ho => ?_) ?_
      rotate_left
      · simp only [List.getElem?_toArray, List.getElem?_cons_zero, List.getElem?_cons_succ, Option.some.injEq] at ho; subst ho; refine Or.inl ⟨by rfl, fun w' hSw => ?_⟩; (try dsimp only at hSw); go_simp; try with_reducible rfl
      simp only [Act.put, List.setIfInBounds_toArray, List.set_cons_zero, List.set_cons_succ]
      refine takeH (i := 3) (some 23) (v := ?_) rfl (by kernel_rfl) (by kernel_rfl) (by kernel_rfl) (fun _ _ _ h => h) hS0 (fun o ho => ?_) ?_
      rotate_left
      · simp only [List.getElem?_toArray, List.getElem?_cons_zero, List.getElem?_cons_succ, Option.some.injEq] at ho; subst ho; refine Or.inl ⟨by rfl, fun w' hSw => ?_⟩; (try dsimp only at hSw); go_simp; try with_reducible rfl
      simp only [Act.put, List.setIfInBounds_toArray, List.set_cons_zero, List.set_cons_succ]
      refine takeH (i := 4) (some 24) (v := ?_) rfl (by kernel_rfl) (by kernel_rfl) (by kernel_rfl) (fun _ _ _ h => h) hS0 (fun o ho => ?_) ?_
      rotate_left
      · simp only [List.getElem?_toArray, List.getElem?_cons_zero, List.getElem?_cons_succ, Option.some.injEq] at ho; subst ho; refine Or.inl ⟨by rfl, fun w' hSw => ?_⟩; (try dsimp only at hSw); go_simp; try with_reducible rfl
      simp only [Act.put, List.setIfInBounds_toArray, List.set_cons_zero, List.set_cons_succ]
      refine takeH (i := 5) (some 25) (v := ?_) rfl (by kernel_rfl) (by kernel_rfl) (by kernel_rfl) (fun _ _ _ h => h) hS0 (fun o ho => ?_) ?_
      rotate_left
      · simp only [List.getElem?_toArray, List.getElem?_cons_zero, List.getElem?_cons_succ, Option.some.injEq] at ho; subst ho; refine Or.inl ⟨by rfl, fun w' hSw => ?_⟩; (try dsimp only at hSw); go_simp; try with_reducible rfl
      simp only [Act.put, List.setIfInBounds_toArray, List.set_cons_zero, List.set_cons_succ]
      refine takeH (i := 6) (some 26) (v := ?_) rfl (by kernel_rfl) (by kernel_rfl) (by kernel_rfl) (fun _ _ _ h => h) hS0 (fun o ho => ?_) ?_
      rotate_left
      · simp only [List.getElem?_toArray, List.getElem?_cons_zero, List.getElem?_cons_succ, Option.some.injEq] at ho; subst ho; refine Or.inl ⟨by rfl, fun w' hSw => ?_⟩; (try dsimp only at hSw); go_simp; try with_reducible rfl
      simp only [Act.put, List.setIfInBounds_toArray, List.set_cons_zero, List.set_cons_succ]
      refine takeH (i := 7) (some 27) (v := ?_) rfl (by kernel_rfl) (by kernel_rfl) (by kernel_rfl) (fun _ _ _ h => h) hS0 (fun o ho => ?_) ?_
      rotate_left
      · simp only [List.getElem?_toArray, List.getElem?_cons_zero, List.getElem?_cons_succ, Option.some.injEq] at ho; subst ho; refine Or.inl ⟨by rfl, fun w' hSw => ?_⟩; (try dsimp only at hSw); go_simp; try with_reducible rfl
      simp only [Act.put, List.setIfInBounds_toArray, List.set_cons_zero, List.set_cons_succ]
      refine takeH (i := 8) (some 28) (v := ?_) rfl (by kernel_rfl) (by kernel_rfl) (by kernel_rfl) (fun _ _ _ h => h) hS0 (fun o ho => ?_) ?_
      rotate_left
      · simp only [List.getElem?_toArray, List.getElem?_cons_zero, List.getElem?_cons_succ, Option.some.injEq] at ho; subst ho; refine Or.inl ⟨by rfl, fun w' hSw => ?_⟩; (try dsimp only at hSw); go_simp; try with_reducible rfl
      simp only [Act.put, List.setIfInBounds_toArray, List.set_cons_zero, List.set_cons_succ]
      refine takeH (i := 9) (some 29) (v := ?_) rfl (by kernel_rfl) (by kernel_rfl) (by kernel_rfl) (fun _ _ _ h => h) hS0 (fun o ho => ?_) ?_
      rotate_left
      · simp only [List.getElem?_toArray, List.getElem?_cons_zero, List.getElem?_cons_succ, Option.some.injEq] at ho; subst ho; refine Or.inl ⟨by rfl, fun w' hSw => ?_⟩; (try dsimp only at hSw); go_simp; try with_reducible rfl
      simp only [Act.put, List.setIfInBounds_toArray, List.set_cons_zero, List.set_cons_succ]
      refine takeH (i := 10) (some 30) (v := ?_) rfl (by kernel_rfl) (by kernel_rfl) (by kernel_rfl) (fun _ _ _ h => h) hS0 (fun o ho => ?_) ?_
      rotate_left
      · simp only [List.getElem?_toArray, List.getElem?_cons_zero, List.getElem?_cons_succ, Option.some.injEq] at ho; subst ho; refine Or.inl ⟨by rfl, fun w' hSw => ?_⟩; (try dsimp only at hSw); go_simp; try with_reducible rfl
      simp only [Act.put, List.setIfInBounds_toArray, List.set_cons_zero, List.set_cons_succ]
      refine oneH (i := 11) (by kernel_rfl) (fun o ho K' hK => ?_)
      simp only [List.getElem?_toArray, List.getElem?_cons_zero, List.getElem?_cons_succ, Option.some.injEq] at ho; subst ho
      go_simp
      have hb8 : Below wr.heap.size wr (wr.alloc (.cells #[.int .i64 (s.cur.regs r)] 2)).drew := ((Below.refl _ wr).alloc (Nat.le_refl _) _).drew
      refine hK.out _ _ (hS _ hb8) ?_
      clear hK K'
      refine oneH (i := 12) (by kernel_rfl) (fun o ho K' hK => ?_)
      simp only [List.getElem?_toArray, List.getElem?_cons_zero, List.getElem?_cons_succ, Option.some.injEq] at ho; subst ho
      refine step_append_lies _ (by rfl) _ _ _ (by rfl) K 2 i64 (.int .i64 0) 1 8 Try.underlying25 HI.out.1 HI.out.2.1 HI.out.2.2.1 HI.out.2.2.2 rfl (by decide) q.vr j _ (by rfl) (HOW.out.alloc _)
        ⟨wr.heap.size, 0, none⟩ 1 1 [.int .i64 (s.cur.regs r)] (by rfl) (by rfl) (cell_one_new _ _ _) (by intro u hu; rw [List.mem_singleton.1 hu]; rfl) (by decide) (by unfold maxLen; omega) (by omega) (by simp; omega) (wr.heap.size + 1) (by simp) ?_
      intro g cap wC hownC hgrowC hlocC hltC
      have hGR : Hid (Gro wr wC q.vr (.slice (some ⟨g, 0, none⟩) (j + 1) cap)) := Lib.hid (gro_append (w := wr) hgrowC hlocC)
      have hmC := (mac_read HMB.out HME.out HMD.out hP hK0 hGR.out (rd' := argsV s.cur.regs (l.take (j + 1))) (by
        rw [argsV_len, HTL.out]
        have e : (argsV s.cur.regs (l.take (j + 1))).map (Value.int .i64) = (argsV s.cur.regs (l.take j)).map (Value.int .i64) ++ [.int .i64 (s.cur.regs r)] := by
          rw [take_succ_of HX.out]; unfold argsV; simp
        rw [e]; exact hownC))
      have HMC := Lib.hid hmC
      have HFC := Lib.hid (HFW.out.trans (mac_read_fr HMB.out (fun e => by have := (HOW.out.lt P e).1; omega) hGR.out))
      clear hmC
      have xc : wC.cell? ⟨P, 262, none⟩ = some q.vr := (gro_block hGR.out HMB.out (by intro e; have := (HOW.out.lt P e).1; omega)).cell (by omega)
      have xf : wC.frozen? ⟨P, 262, none⟩ = false := (gro_block hGR.out HMB.out (by intro e; have := (HOW.out.lt P e).1; omega)).free 262
      have xr : wC.cell? ⟨P, 3 + r, none⟩ = some (.int .i64 (s.cur.regs r)) := (gro_block hGR.out HMB.out (by intro e; have := (HOW.out.lt P e).1; omega)).reg hr256
      have hSC : wC.cell? ⟨P, 262, none⟩ = some q.vr ∧ wC.cell? ⟨P, 3 + r, none⟩ = some (.int .i64 (s.cur.regs r)) := ⟨xc, xr⟩
      refine hK.out _ _ hSC ?_
      clear hK K'
      simp only [Act.put, List.setIfInBounds_toArray, List.set_cons_zero, List.set_cons_succ]
      refine takeH (i := 13) (some 33) (v := ?_) rfl (by kernel_rfl) (by kernel_rfl) (by kernel_rfl) (fun _ _ _ h => h) hSC (fun o ho => ?_) ?_
      rotate_left
      · simp only [List.getElem?_toArray, List.getElem?_cons_zero, List.getElem?_cons_succ, Option.some.injEq] at ho; subst ho; refine Or.inl ⟨by rfl, fun w' hSw => ?_⟩; (try dsimp only at hSw); go_simp; try with_reducible rfl
      simp only [Act.put, List.setIfInBounds_toArray, List.set_cons_zero, List.set_cons_succ]
      refine takeH (i := 14) (some 34) (v := ?_) rfl (by kernel_rfl) (by kernel_rfl) (by kernel_rfl) (fun _ _ _ h => h) hSC (fun o ho => ?_) ?_
      rotate_left
      · simp only [List.getElem?_toArray, List.getElem?_cons_zero, List.getElem?_cons_succ, Option.some.injEq] at ho; subst ho; refine Or.inl ⟨by rfl, fun w' hSw => ?_⟩; (try dsimp only at hSw); go_simp; try with_reducible rfl
      simp only [Act.put, List.setIfInBounds_toArray, List.set_cons_zero, List.set_cons_succ]
      refine wpAnyH_done (by kernel_rfl) ?_ _
      refine lastH (by decide) (fun o ho K' hK => ?_)
      simp only [List.getElem?_toArray, List.getElem?_cons_zero, List.getElem?_cons_succ, Option.some.injEq] at ho; subst ho
      go_simp
      refine hK.out _ _ ?_
      clear hK K'
      go_wp2_with fail
      go_roundw
      case rel => exact ⟨j + 1, by omega, by go_num, HMC.out.1, hbb.trans HMC.out.2, HFC.out⟩
      case measure => simp [intOf]; omega
    · have e : l.take j = l := List.take_of_length_le (by omega)
      rw [e] at hm
      go_wp2_with fail
      go_end0
      exact ⟨rfl, hm, hbb, HFW.out⟩
end Go.Proofs.Ytcjmhdneelmbhaa

/- The machine lays its registers aside, and reckons. -/
namespace Go.Proofs.Ytcjmhdneelmbhaa
open Go.ChangeShapes Go.WideShapes Go.RowKit Go.Deep
set_option linter.unusedVariables false

/-- 'append', where its run is known by an equation. -/
theorem wpList_append_run {P : Program} (w : World) {ops : Array Oper} {rest : List Oper} {o : Oper} {a : Act} {Q : Exit → Act → World → Prop} (hgd : o.guard = none) (d s : Operand) (t t' : TypeId)
    (ho : o.op = .call { callee := .builtin .append, args := #[d, s], argTypes := #[t, t'] }) (v u : Value) (hd : a.eval d = v) (hs : a.eval s = u) {v' : Value} {w' : World}
    (hr : (Builtin.append_ #[t, t'] o.type #[v, u]).run P w = .ok v' w') (h : wpList P ops Q rest (a.put o.dst v') w') : wpList P ops Q (o :: rest) a w :=
  wpList_plain hgd fun _ hK => by
    unfold Oper.wp execOp
    simp only [ho, resolve, invoke, builtin, Sem.run_bind, Sem.run_pure, Result.andThen_ok, List.map_toArray, List.map_cons, List.map_nil, hd, hs, hr]
    exact hK _ _ h
theorem Env.fun_ {K P : Nat} {w : World} {m : List FunD} {q : MV} (h : Env K P w m q) {k : Nat} (hk : k < m.length) :
    ∃ b o c f, q.vf = .slice (some ⟨b, o, none⟩) m.length c ∧ Hid (m[k]? = some f) ∧ RFunB (Old K P) w b (o + k * 4) f := by
  obtain ⟨⟨A, c, e, h1⟩, _⟩ := h
  obtain ⟨b, o, f, rfl, hf, hr⟩ := h1.at_ hk
  exact ⟨b, o, c, f, e, hf, hr⟩
theorem Env.ah {K P : Nat} {w : World} {m : List FunD} {q : MV} (h : Env K P w m q) {k : Nat} (hk : k < m.length) :
    ∃ b o c f, q.va = .slice (some ⟨b, o, none⟩) m.length c ∧ Hid (m[k]? = some f) ∧ RAhB (Old K P) w b (o + k) f := by
  obtain ⟨_, A, c, e, h1⟩ := h
  obtain ⟨b, o, f, rfl, hf, hr⟩ := h1.at_ hk
  rw [Nat.mul_one] at hr
  exact ⟨b, o, c, f, e, hf, hr⟩
theorem getD_of {α : Type} [Inhabited α] {l : List α} {k : Nat} {x : α} (h : l[k]? = some x) : l.getD k default = x := by rw [List.getD_eq_getElem?_getD, h]; rfl

set_option maxRecDepth 100000 in
/-- 'slices.Clone' of the machine's first registers. -/
theorem clone_any (P n : Nat) (w : World) (xs : List Int) (hl : xs.length = n) (hn : n ≤ 256) (hx : ∀ (j : Nat) (x : Int), xs[j]? = some x → w.cell? ⟨P, 3 + j, none⟩ = some (.int .i64 x)) (cap : Nat) :
    Calls Try.prog 97 #[.slice (some ⟨P, 3, none⟩) n cap] w fun e w' => (∃ v, e = .returned v ∧ w'.ownsRow w.heap.size 2 1 v n (xs.map (Value.int .i64))) ∧ Below w.heap.size w w' := by
  obtain ⟨i64, p1, p2, p3, p4⟩ := info_parts Try.info2
  have hown : (w.alloc (.cells #[] 2)).ownsRow w.heap.size 2 1 (.slice (some ⟨w.heap.size, 0, none⟩) 0 0) 0 [] :=
    ⟨rfl, .inr ⟨w.heap.size, 0, #[], rfl, Nat.le_refl _, heap_alloc_new w _, Nat.le_refl _, Nat.zero_le _, rfl, rfl⟩⟩
  obtain ⟨v', w', hr, h2, h3, _, h5⟩ := run_append_own_at (P := Try.prog) (w.alloc (.cells #[] 2)) w.heap.size 25 25 2 i64 (.int .i64 0) 1 8 Try.underlying25 p1 p2 p3 p4 rfl (by decide) _ 0 [] hown ⟨P, 3, none⟩ n cap
    (xs.map (Value.int .i64)) (by rw [List.length_map, hl, Nat.mul_one]) (fun j u hu => by
      rw [List.getElem?_map] at hu
      obtain ⟨x, hx1, rfl⟩ := Option.map_eq_some_iff.1 hu
      rw [add_plain']
      exact kept_alloc w _ _ _ (hx j x hx1)) (ones xs) (by unfold maxLen; omega) (by omega) (by simp)
  rw [Nat.zero_add, List.nil_append] at h2
  have hB : Below w.heap.size w w' := by
    have h6 : Below w.heap.size w (w.alloc (.cells #[] 2)) := (Below.refl _ _).alloc (Nat.le_refl _) _
    exact h6.grown h3 (by simp) (fun k hk => by have := Option.some.inj (show some w.heap.size = some k from hk); omega)
  have heq := Lib.run_eql_slice_nil (P := Try.prog) w 25 2 (some ⟨P, 3, none⟩) n cap 0 0 Try.underlying25
  have HF := Lib.hid (And.intro h2 hB)
  clear h2 h3 h5 hB hown p1 p2 p3 p4 hx
  go_enter Try.func97, Try.ntmps97
  go_wp2_with (first | (at_builtin; refine wpList_append_run _ rfl (.tmp 5) (.tmp 6) 25 25 rfl _ _ rfl rfl hr ?_) | simp only [heq, Option.isNone])
  go_ret
  exact ⟨⟨v', rfl, HF.out.1⟩, HF.out.2⟩

/-- The registers as a caller keeps them. -/
def ToldV (w : World) (regs : Nat → Int) (e : Ending) (w' : World) : Prop :=
  (∃ A c l, e = .returned (.slice A l.length c) ∧ SL w' 1 (RWB (fun b => w.heap.size ≤ b)) A c l ∧ l.length ≤ 256 ∧ ∀ i, regs i = l.getD i 0) ∧ Below w.heap.size w w'
theorem sl_of_own {w : World} {base : Nat} {e : TypeId} {v : Value} {xs : List Int} {n : Nat} (h : w.ownsRow base e 1 v n (xs.map (Value.int .i64))) (hn : xs.length = n) : ∃ A c, v = .slice A xs.length c ∧ SL w 1 (RWB (fun b => base ≤ b)) A c xs := by
  subst hn
  rcases h.2 with ⟨rfl, h0⟩ | ⟨g, c, cur, rfl, hb, hh, hn, hc, hsz, ht⟩
  · have : xs = [] := List.length_eq_zero_iff.1 h0
    subst this
    exact ⟨none, 0, rfl, Nat.le_refl _, ⟨by unfold maxLen; omega, fun _ => rfl⟩, fun hp => absurd hp (by simp)⟩
  · refine ⟨some ⟨g, 0, none⟩, c, rfl, hn, ⟨hc, fun e => by cases e⟩, fun _ => ⟨g, 0, rfl, fun i x hi => ⟨hb, ?_⟩⟩⟩
    have := h.cells (g := g) rfl i (.int .i64 x) (by rw [List.getElem?_map, hi]; rfl)
    rw [Nat.mul_one]
    rwa [add_plain'] at this

set_option maxRecDepth 100000 in
set_option maxHeartbeats 4000000 in
theorem aside_any (K P : Nat) (m : List FunD) (w : World) (s : St) (rd : List Int) (f : FunD) (h : Mac K P m w s rd) (hf : m[s.cur.fn]? = some f) (hr : f.regs.length ≤ 256) (hz : ∀ i, f.regs.length ≤ i → s.cur.regs i = 0) :
    Calls Try.prog 83 #[.pointer (some ⟨P, 0, none⟩)] w (ToldV w s.cur.regs) := by
  obtain ⟨q, hb, he, hd, hP, hK⟩ := h
  obtain ⟨b, o, c, f', hvf, hf', ⟨-, ⟨-, -⟩, -, ⟨Ar, cr, hreg, -⟩, -⟩⟩ := he.fun_ (List.getElem?_eq_some_iff.1 hf).1
  obtain rfl : f = f' := Option.some.inj (hf.symm.trans hf'.out)
  have hk1 : (s.cur.fn : Int) < m.length := by have := (List.getElem?_eq_some_iff.1 hf).1; omega
  have hk0 : (0 : Int) ≤ s.cur.fn := by omega
  have c0 : w.cell? ⟨P, 0, none⟩ = some (.int .i64 s.cur.fn) := hb.cell (by omega)
  have cf : w.cell? ⟨P, 260, none⟩ = some q.vf := hb.cell (by omega)
  rw [hvf] at cf
  have HB := Lib.hid hb
  have HZ := Lib.hid hz
  have HR := Lib.hid hr
  clear hvf hf' hf hb he hd hz
  go_enter Try.func83, Try.ntmps83
  go_wp2_with fail
  go_quiet (fail)
  go_wp2_with fail
  clear c0 cf hreg
  go_loopw [3] (fun i wr => ∃ n k : Nat, n ≤ f.regs.length ∧ i = .int .i64 n ∧ Hid (∀ i, n ≤ i → s.cur.regs i = 0) ∧ wr = w.drewN k) (fun i _ => (intOf i).toNat)
  case atStart => exact ⟨_, _, Nat.le_refl _, rfl, HZ, rfl⟩
  case round =>
    obtain ⟨n, k, hn, rfl, hzn, rfl⟩ := hrel
    have HBk := Lib.hid (show MacB P (w.drewN k) s q from HB.out)
    have HQ := Lib.hid (fun (hw : ∀ i, n ≤ i → s.cur.regs i = 0) => clone_any P n (w.drewN k) ((List.range n).map s.cur.regs) (by simp) (by have := HR.out; omega) (fun j x hx => by
      rw [List.getElem?_map] at hx
      obtain ⟨y, hy, rfl⟩ := Option.map_eq_some_iff.1 hx
      obtain ⟨hyl, rfl⟩ := List.getElem?_eq_some_iff.1 hy
      rw [List.length_range] at hyl
      rw [HBk.out.reg (by have := HR.out; omega)]; simp) 256)
    have HE : Hid (∀ v w', (∃ v', (Ending.returned v) = .returned v' ∧ w'.ownsRow (w.drewN k).heap.size 2 1 v' n (((List.range n).map s.cur.regs).map (Value.int .i64))) ∧ Below (w.drewN k).heap.size (w.drewN k) w' → ToldV w s.cur.regs (.returned v) w') := Lib.hid (fun v w' h => by
      obtain ⟨⟨v', e, h1⟩, h2⟩ := h
      cases e
      obtain ⟨A, c, e, h3⟩ := sl_of_own h1 (by simp)
      subst e
      refine ⟨⟨A, c, _, rfl, h3, by have := HR.out; simp; omega, fun i => ?_⟩, (below_drewN (Below.refl _ _) k).trans h2⟩
      by_cases hi : i < n
      · rw [List.getD_eq_getElem?_getD, List.getElem?_map, List.getElem?_range hi]; rfl
      · rw [List.getD_eq_getElem?_getD, List.getElem?_eq_none (by simp; omega)]; exact hzn.out i (by omega))
    have hr256 := HR.out
    by_cases h0 : n = 0
    · subst h0
      go_wp2_with fail
      refine (HQ.out hzn.out).mono ?_
      rintro e w1 h1
      obtain ⟨⟨v', rfl, h2⟩, h3⟩ := h1
      have h4 := HE.out _ _ ⟨⟨v', rfl, h2⟩, h3⟩
      go_wp2_with fail
      go_ret
      exact h4
    · obtain ⟨n', rfl⟩ : ∃ n', n = n' + 1 := ⟨n - 1, by omega⟩
      have creg : (w.drewN k).cell? ⟨P, 3 + n', none⟩ = some (.int .i64 (s.cur.regs n')) := HBk.out.reg (by omega)
      have hn1 : (n' : Int) < 256 := by omega
      have hn0 : (0 : Int) ≤ n' := by omega
      by_cases hv : s.cur.regs n' = 0
      · rw [hv] at creg
        go_wp2_with fail
        go_roundw
        case rel => exact ⟨n', k, by omega, by go_num, Lib.hid (fun i hi => by
          by_cases h : i = n'
          · subst h; exact hv
          · exact hzn.out i (by omega)), rfl⟩
        case measure => simp [intOf]
      · have hvb : (s.cur.regs n' == 0) = false := by simp [hv]
        have hn2 : ((n' + 1 : Nat) : Int) ≤ 256 := by omega
        have hn4 : (n' : Int) + 1 ≤ 256 := by omega
        have hn5 : (0 : Int) ≤ (n' : Int) + 1 := by omega
        have hn6 : n' + 1 ≤ 256 := by omega
        go_wp2_with fail
        refine (HQ.out hzn.out).mono ?_
        rintro e w1 h1
        obtain ⟨⟨v', rfl, h2⟩, h3⟩ := h1
        have h4 := HE.out _ _ ⟨⟨v', rfl, h2⟩, h3⟩
        go_wp2_with fail
        go_ret
        exact h4
end Go.Proofs.Ytcjmhdneelmbhaa

/- The machine reckons; a caller goes on; a function gives back. -/
namespace Go.Proofs.Ytcjmhdneelmbhaa
open Go.ChangeShapes Go.WideShapes Go.RowKit Go.Deep
set_option linter.unusedVariables false

theorem len_one {l : List Int} (h : l.length = 1) : ∃ a, l = [a] := by
  match l, h with
  | [a], _ => exact ⟨a, rfl⟩
theorem len_two {l : List Int} (h : l.length = 2) : ∃ a b, l = [a, b] := by
  match l, h with
  | [a, b], _ => exact ⟨a, b, rfl⟩
theorem eval_some (op : Int) (l : List Int) (v : Int) (g cap : Nat) (w : World) (hop : 2 ≤ op ∧ op ≤ 14) (hl : (l.length : Int) = opArity op) (hc : ∀ (j : Nat) (x : Int), l[j]? = some x → w.cell? ⟨g, j, none⟩ = some (.int .i64 x)) (he : evalV op l = some v) :
    Calls Try.prog 98 #[.int .i64 op, .slice (some ⟨g, 0, none⟩) l.length cap] w fun e w' => e = .returned (.tuple #[.int .i64 v, .nilIface]) ∧ Drawn w w' := by
  unfold evalV at he
  by_cases h1 : op = 2 ∨ op = 14
  · rw [if_pos h1] at he
    obtain rfl := Option.some.inj he
    have : l.length = 1 := by unfold opArity at hl; rw [if_pos h1] at hl; omega
    obtain ⟨a, rfl⟩ := len_one this
    exact (eval_one op a g 0 cap w h1 (hc 0 a rfl)).mono fun e w' h => ⟨h.1, 0, h.2.symm⟩
  · rw [if_neg h1] at he
    have : l.length = 2 := by unfold opArity at hl; rw [if_neg h1, if_pos (by omega)] at hl; omega
    obtain ⟨a, b, rfl⟩ := len_two this
    by_cases h2 : op = 11 ∧ ([a, b] : List Int).getD 1 0 = 0
    · rw [if_pos h2] at he; cases he
    · rw [if_neg h2] at he
      obtain rfl := Option.some.inj he
      refine eval_two op a b g 0 cap w (by omega) (by omega) (fun h => ?_) (hc 0 a rfl) (hc 1 b rfl)
      rw [beq_eq_false_iff_ne]
      exact fun hb => h2 ⟨h, hb⟩
theorem eval_none (op : Int) (l : List Int) (g cap : Nat) (w : World) (hop : 2 ≤ op ∧ op ≤ 14) (hl : (l.length : Int) = opArity op) (hc : ∀ (j : Nat) (x : Int), l[j]? = some x → w.cell? ⟨g, j, none⟩ = some (.int .i64 x)) (he : evalV op l = none) :
    Calls Try.prog 98 #[.int .i64 op, .slice (some ⟨g, 0, none⟩) l.length cap] w fun e w' => e = .returned (.tuple #[.int .i64 0, .iface 57 (.int .i64 7)]) ∧ Drawn w w' := by
  unfold evalV at he
  by_cases h1 : op = 2 ∨ op = 14
  · rw [if_pos h1] at he; cases he
  · rw [if_neg h1] at he
    have : l.length = 2 := by unfold opArity at hl; rw [if_neg h1, if_pos (by omega)] at hl; omega
    obtain ⟨a, b, rfl⟩ := len_two this
    by_cases h2 : op = 11 ∧ ([a, b] : List Int).getD 1 0 = 0
    · obtain ⟨rfl, hb⟩ := h2
      obtain rfl : b = 0 := hb
      exact (eval_div0 g 0 cap w (hc 1 0 rfl)).mono fun e w' h => ⟨h.1, 0, h.2.symm⟩
    · rw [if_neg h2] at he; cases he

/-- What was read last, as it lies. -/
theorem Dyn.read {K : Nat} {w : World} {s : St} {q : MV} {rd : List Int} (h : Dyn K w s q rd) (hn : 0 < rd.length) : ∃ g cap, q.vr = .slice (some ⟨g, 0, none⟩) rd.length cap ∧ ∀ (j : Nat) (x : Int), rd[j]? = some x → w.cell? ⟨g, j, none⟩ = some (.int .i64 x) := by
  have h1 := h.rdv
  rcases h1.2 with ⟨_, h0⟩ | ⟨g, c, cur, e, _⟩
  · omega
  · rw [e] at h1
    refine ⟨g, c, e, fun j x hx => ?_⟩
    have := h1.cells (g := g) rfl j (.int .i64 x) (by rw [List.getElem?_map, hx]; rfl)
    rwa [add_plain', Nat.zero_add] at this

def reckS (s : St) (x : InsD) (rd : List Int) : St := match evalV x.op rd with
  | some v => setR s x.dst v
  | none => trapS s 1

/-- A register is set, by its number. -/
theorem mac_setR {K P : Nat} {m : List FunD} {w : World} {s : St} {rd : List Int} (h : Mac K P m w s rd) {r : Nat} (hr : r < 256) (v : Int) : Mac K P m (w.setCell ⟨P, 3 + r, none⟩ (.int .i64 v)) (setR s r v) rd ∧ BB K P w (w.setCell ⟨P, 3 + r, none⟩ (.int .i64 v)) := by
  obtain ⟨q, hb, he, hd, hP, hK⟩ := h
  have hb1 : MacB P (w.setCell ⟨P, 3 + r, none⟩ (.int .i64 v)) (setR s r v) q := hb.set (set_reg s q r v hr (by simp))
  exact ⟨mac_of hb1 he hd hP hK (by simp [World.setCell]) (fun k hk hne => set_others k hk hne) rfl rfl rfl, (BB.refl K P w).setCell (p := ⟨P, 3 + r, none⟩) (.inl rfl) _⟩

set_option maxRecDepth 100000 in
set_option maxHeartbeats 4000000 in
theorem reckon_any (K P : Nat) (m : List FunD) (w : World) (s : St) (rd : List Int) (x : InsD) (v : Value) (h : Mac K P m w s rd) (hv : VIns w v x) (hop : 2 ≤ x.op ∧ x.op ≤ 14) (hl : (rd.length : Int) = opArity x.op) (hdst : InR 256 x.dst) :
    Calls Try.prog 84 #[.pointer (some ⟨P, 0, none⟩), v] w (ToldM K P m w (reckS s x rd) rd) := by
  obtain ⟨Ax, cx, rfl, -, -⟩ := hv
  obtain ⟨r, hr⟩ : ∃ r : Nat, x.dst = r := ⟨x.dst.toNat, by have := hdst.1; omega⟩
  have hr256 : r < 256 := by have := hdst.2; omega
  have hr0 : (0 : Int) ≤ r := by omega
  have hr1 : (r : Int) < 256 := by omega
  have hpos : 0 < rd.length := by unfold opArity at hl; split at hl <;> first | omega | (split at hl <;> omega)
  obtain ⟨w1, hw1, hs1, hk1, hB1, hc1, hf1⟩ := named w #[.int .i64 x.op, .int .i64 x.dst, .slice Ax x.args.length cx, .int .i64 x.imm, .int .i64 x.fn] 46
  have hm1 := h.below hB1
  have hbb1 : BB K P w w1 := by obtain ⟨q, _, _, _, _, hK⟩ := h; exact BB.of_below hB1 hK
  have b0 : w1.cell? ⟨w.heap.size, 0, none⟩ = some (.int .i64 x.op) := hc1 0 _ rfl
  have b1 : w1.cell? ⟨w.heap.size, 1, none⟩ = some (.int .i64 x.dst) := hc1 1 _ rfl
  rw [hr] at b1
  have HR := Lib.hid hr
  have HM := Lib.hid hm1
  obtain ⟨q, hb, he, hd, hP, hK⟩ := hm1
  obtain ⟨g, cap, hvr, hcells⟩ := hd.read hpos
  have cv : w1.cell? ⟨P, 262, none⟩ = some (.slice (some ⟨g, 0, none⟩) rd.length cap) := (hb.cell (by omega)).trans (congrArg some hvr)
  have creg : w1.cell? ⟨P, 3 + r, none⟩ = some (.int .i64 (s.cur.regs r)) := hb.reg hr256
  have freg := hb.free (3 + r)
  have HC := Lib.hid hcells
  have HOP := Lib.hid hop
  have HL := Lib.hid hl
  have hlt : w.heap.size < w1.heap.size := by omega
  clear hb he hd hvr hcells hc1 hf1 hop hl hpos hdst h hr
  cases hev : evalV x.op rd with
  | some u =>
    have HS : Hid (reckS s x rd = setR s r u) := Lib.hid (by unfold reckS; rw [hev, ← HR.out])
    have HE := Lib.hid (fun n => eval_some x.op rd u g cap (w1.drewN n) HOP.out HL.out HC.out hev)
    rw [HS.out]
    clear hev
    go_enter Try.func84, Try.ntmps84
    go_wp2_with fail
    rw [← hw1]
    clear hw1
    go_quiet ((go_at_call 98; exact Calls.quiet_of (HE.out _)))
    go_wp2_with fail
    have b1q : (w1.drewN nq).cell? ⟨w.heap.size, 1, none⟩ = some (.int .i64 r) := b1
    have cq : (w1.drewN nq).cell? ⟨P, 3 + r, none⟩ = some (.int .i64 (s.cur.regs r)) := creg
    have fq : (w1.drewN nq).frozen? ⟨P, 3 + r, none⟩ = false := freg
    have HMQ := Lib.hid (HM.out.drewN nq)
    have HBQ := Lib.hid (hbb1.drewN nq)
    clear HM hbb1 hB1 hk1 hs1 hlt b0 b1 cv creg freg HC HE
    generalize w1.drewN nq = w2 at *
    go_still_tail 7, (by kernel_rfl)
    change wpList _ _ _ _ _ w2.drew
    go_wp2_with fail
    go_end0
    obtain ⟨g1, g2⟩ := mac_setR HMQ.out hr256 u
    exact ⟨rfl, g1.drewN 1, (HBQ.out.trans g2).drewN 1⟩
  | none =>
    have HS : Hid (reckS s x rd = trapS s 1) := Lib.hid (by unfold reckS; rw [hev])
    have HE := Lib.hid (fun n => eval_none x.op rd g cap (w1.drewN n) HOP.out HL.out HC.out hev)
    rw [HS.out]
    clear hev
    go_enter Try.func84, Try.ntmps84
    go_wp2_with fail
    rw [← hw1]
    clear hw1
    go_quiet ((go_at_call 98; exact Calls.quiet_of (HE.out _)))
    go_wp2_with fail
    refine (trap_any K P m _ s rd 1 (HM.out.drewN nq)).mono ?_
    rintro e w' ⟨rfl, h1, h2⟩
    go_wp2_with fail
    go_end0
    exact ⟨rfl, h1, (hbb1.drewN nq).trans h2⟩
end Go.Proofs.Ytcjmhdneelmbhaa
