/- A register more does no harm to a proper module, within the limit: plain mathematics. -/
import Derived.Test.YtfgbmmbkjgdndaaDoorIns
namespace Go.Proofs.YtfgbmmbkjgdndaaDoor
open Go.RowKit
set_option linter.unusedVariables false

def more (f : FunD) (kd : Int) : FunD := { f with regs := f.regs ++ [kd] }
theorem more_len (f : FunD) (kd : Int) : (more f kd).regs.length = f.regs.length + 1 := by simp [more]
theorem isIn_more {n : Nat} {a : Int} (h : isIn n a = true) : isIn (n + 1) a = true := by
  unfold isIn at *; have := of_decide_eq_true h; exact decide_eq_true (by omega)
theorem reg_more {f : FunD} {kd r : Int} (h0 : 0 ≤ r) (h1 : r < f.regs.length) : reg (more f kd).regs r = reg f.regs r := by
  unfold reg more
  rw [List.getD_eq_getElem?_getD, List.getD_eq_getElem?_getD, List.getElem?_append_left (by omega)]
theorem areAt_more {l : List Int} {n : Nat} (h : areAtB l n = true) : areAtB l ((n + 1 : Nat) : Int) = true := by
  unfold areAtB at *
  rw [List.all_eq_true] at *
  intro x hx
  have := of_decide_eq_true (h x hx)
  exact decide_eq_true (by omega)
theorem areAt_mem {l : List Int} {n : Int} (h : areAtB l n = true) : ∀ a ∈ l, 0 ≤ a ∧ a < n := fun a ha => by
  unfold areAtB at h; rw [List.all_eq_true] at h; exact of_decide_eq_true (h a ha)

theorem phiE_more {f : FunD} {kd : Int} {p : PhiD} (h : phiE f p = 0) : phiE (more f kd) p = 0 := by
  unfold phiE at *
  split at h
  · rename_i h1
    rw [Bool.and_eq_true] at h1
    obtain ⟨h1, h2⟩ := h1
    have h1 := of_decide_eq_true h1
    split at h
    · rename_i h3
      rw [more_len, if_pos (by rw [Bool.and_eq_true]; exact ⟨decide_eq_true (by omega), areAt_more h2⟩), if_pos]
      rw [List.all_eq_true] at h3 ⊢
      intro a ha
      have hb := areAt_mem h2 a ha
      rw [reg_more hb.1 hb.2, reg_more h1.1 h1.2]
      exact h3 a ha
    · cases h
  · cases h
theorem termE_more {f : FunD} {kd : Int} {t : TermD} (h : termE f t = 0) : termE (more f kd) t = 0 := by
  unfold termE at *
  have hw : wantOf (more f kd) t = wantOf f t := rfl
  rw [hw]
  split at h
  · rename_i h1; rw [if_pos h1]; exact h
  · rename_i h1
    rw [if_neg h1]
    split at h
    · rename_i h2
      rw [more_len, if_pos (by omega), reg_more h2.1 h2.2]
      exact h
    · cases h
theorem types_more {f : FunD} {kd : Int} : ∀ {l ts : List Int}, areAtB l f.regs.length = true → typesB (more f kd).regs l ts = typesB f.regs l ts := by
  intro l
  induction l with
  | nil => intro ts _; simp [typesB]
  | cons a l ih =>
    intro ts h
    cases ts with
    | nil => simp [typesB]
    | cons t ts =>
      have ha := areAt_mem h a (by simp)
      have hl : areAtB l f.regs.length = true := by unfold areAtB at *; rw [List.all_cons, Bool.and_eq_true] at h; exact h.2
      simp only [typesB, reg_more ha.1 ha.2, ih hl]
theorem restE_more {f : FunD} {kd : Int} {x : InsD} {ts : List Int} {d : Int} {bad : Bool} (h : restE f x ts d bad = 0) : restE (more f kd) x ts d bad = 0 ∧ (d = 0 ∨ isIn f.regs.length x.dst = true) := by
  unfold restE at *
  split at h
  · rename_i h1
    rw [Bool.and_eq_true, Bool.or_eq_true] at h1
    obtain ⟨h1, h2⟩ := h1
    have hd : d = 0 ∨ isIn f.regs.length x.dst = true := h2.imp of_decide_eq_true id
    refine ⟨?_, hd⟩
    rw [more_len, if_pos (by rw [Bool.and_eq_true, Bool.or_eq_true]; exact ⟨areAt_more h1, h2.imp id isIn_more⟩), types_more h1]
    by_cases h0 : d = 0
    · simp only [if_pos h0] at h ⊢; exact h
    · simp only [if_neg h0] at h ⊢
      have hr : isIn f.regs.length x.dst = true := hd.resolve_left h0
      have hr := of_decide_eq_true hr
      rw [reg_more hr.1 hr.2]
      exact h
  · cases h
theorem insE_more {m : List FunD} {f : FunD} {kd : Int} {x : InsD} (h : insE m f x = 0) : insE m (more f kd) x = 0 := by
  unfold insE at *
  by_cases h17 : x.op = 17
  · simp only [if_pos h17] at h ⊢
    split at h
    · rename_i h1
      split at h
      · rename_i h2; rw [if_pos h1, if_pos h2]; exact (restE_more h).1
      · cases h
    · cases h
  · simp only [if_neg h17] at h ⊢
    have hsig : isIn f.regs.length x.dst = true → sigOf (more f kd) x = sigOf f x := fun hi => by
      have hdt : dstT (more f kd) x = dstT f x := by
        have hr := of_decide_eq_true hi
        unfold dstT
        rw [more_len, if_pos (isIn_more hi), if_pos hi, reg_more hr.1 hr.2]
      unfold sigOf
      rw [hdt]
    have hsig2 : x.op ≠ 1 → x.op ≠ 2 → sigOf (more f kd) x = sigOf f x := fun h1 h2 => by
      unfold sigOf
      simp only [if_neg h1, if_neg h2]
    have hdst : (x.op = 1 ∨ x.op = 2) → isIn f.regs.length x.dst = false → ∃ ts, sigOf f x = some (ts, 1) := fun ho hi => by
      have hdt : dstT f x = 1 := by unfold dstT; rw [hi]; rfl
      rcases ho with ho | ho
      · exact ⟨_, by unfold sigOf; rw [if_pos ho, hdt]⟩
      · exact ⟨_, by unfold sigOf; rw [if_neg (by omega), if_pos ho, hdt]⟩
    have hs : sigOf (more f kd) x = sigOf f x := by
      by_cases ho : x.op = 1 ∨ x.op = 2
      · cases hi : isIn f.regs.length x.dst
        · exfalso
          obtain ⟨ts, e⟩ := hdst ho hi
          rw [e] at h
          simp only at h
          split at h
          · rcases (restE_more (kd := kd) h).2 with h1 | h1
            · cases h1
            · rw [hi] at h1; cases h1
          · cases h
        · exact hsig hi
      · exact hsig2 (fun e => ho (.inl e)) (fun e => ho (.inr e))
    rw [hs]
    split at h
    · cases h
    · rename_i ts d e
      split at h
      · rename_i h1; rw [if_pos h1]; exact (restE_more h).1
      · cases h

/-- What calls of function n ask for stays. -/
theorem insE_set {m : List FunD} {n : Nat} {fn : FunD} {kd : Int} (hn : m[n]? = some fn) (ho : oddB fn = false) (f : FunD) (x : InsD) : insE (m.set n (more fn kd)) f x = insE m f x := by
  unfold insE
  by_cases h17 : x.op = 17
  · simp only [if_pos h17, List.length_set]
    cases hi : isIn m.length x.fn
    · rfl
    · have hi := of_decide_eq_true hi
      by_cases e : x.fn.toNat = n
      · have hlt : n < m.length := (List.getElem?_eq_some_iff.1 hn).1
        have h1 : funAt (m.set n (more fn kd)) x.fn = more fn kd := by
          unfold funAt; rw [e, List.getD_eq_getElem?_getD, List.getElem?_set_self hlt]; rfl
        have h2 : funAt m x.fn = fn := by unfold funAt; rw [e, List.getD_eq_getElem?_getD, hn]; rfl
        have hp : ¬ (fn.params < 0 ∨ (fn.regs.length : Int) < fn.params) := of_decide_eq_false ho
        have ho' : oddB (more fn kd) = false := decide_eq_false (by rw [more_len]; show ¬ (fn.params < 0 ∨ ((fn.regs.length + 1 : Nat) : Int) < fn.params); omega)
        have ht : (more fn kd).regs.take (more fn kd).params.toNat = fn.regs.take fn.params.toNat := by
          show (fn.regs ++ [kd]).take fn.params.toNat = _
          rw [List.take_append_of_le_length (by omega)]
        rw [h1, h2, ho, ho', ht]
        rfl
      · have h1 : funAt (m.set n (more fn kd)) x.fn = funAt m x.fn := by
          unfold funAt; rw [List.getD_eq_getElem?_getD, List.getD_eq_getElem?_getD, List.getElem?_set_ne (fun e2 => e e2.symm)]
        rw [h1]
  · simp only [if_neg h17]
theorem blockE_set {m : List FunD} {n : Nat} {fn : FunD} {kd : Int} (hn : m[n]? = some fn) (ho : oddB fn = false) (f : FunD) (b : BlkD) : blockE (m.set n (more fn kd)) f b = blockE m f b := by
  have : insE (m.set n (more fn kd)) f = insE m f := funext (insE_set hn ho f)
  unfold blockE; rw [this]
theorem funE_set {m : List FunD} {n : Nat} {fn : FunD} {kd : Int} (hn : m[n]? = some fn) (ho : oddB fn = false) (f : FunD) : funE (m.set n (more fn kd)) f = funE m f := by
  have : blockE (m.set n (more fn kd)) f = blockE m f := funext (blockE_set hn ho f)
  unfold funE; rw [this]
theorem blockE_more {m : List FunD} {f : FunD} {kd : Int} {b : BlkD} (h : blockE m f b = 0) : blockE m (more f kd) b = 0 := by
  unfold blockE at *
  split at h
  · rename_i h1
    split at h
    · rename_i h2
      rw [if_pos, if_pos]
      · exact termE_more h
      · rw [firstE_zero] at h2 ⊢
        intro y hy
        obtain ⟨x, hx, rfl⟩ := List.mem_map.1 hy
        exact insE_more (h2 _ (List.mem_map_of_mem hx))
      · rw [firstE_zero] at h1 ⊢
        intro y hy
        obtain ⟨x, hx, rfl⟩ := List.mem_map.1 hy
        exact phiE_more (h1 _ (List.mem_map_of_mem hx))
    · rename_i h2; exact absurd h h2
  · rename_i h1; exact absurd h h1
theorem outer_of_fun {m : List FunD} {f : FunD} (h : funE m f = 0) : outerE f = 0 ∧ firstE (f.blocks.map (blockE m f)) = 0 := by
  unfold funE at h
  split at h
  · rename_i h1; exact ⟨h1, h⟩
  · rename_i h1; exact absurd h h1
theorem outer_parts {f : FunD} (h : outerE f = 0) : withinB f = true ∧ typedB f = true ∧ (endsWellB f && meetB f) = true := by
  unfold outerE at h
  cases h1 : withinB f <;> rw [h1] at h
  · cases h
  · cases h2 : typedB f <;> rw [h2] at h
    · cases h
    · cases h3 : (endsWellB f && meetB f) <;> rw [h3] at h
      · cases h
      · exact ⟨rfl, rfl, rfl⟩
theorem not_odd {m : List FunD} {f : FunD} (h : funE m f = 0) : oddB f = false := by
  have ht := (outer_parts (outer_of_fun h).1).2.1
  unfold typedB at ht
  rw [Bool.and_eq_true, Bool.and_eq_true] at ht
  have := of_decide_eq_true ht.1.2
  exact decide_eq_false (by omega)
theorem funE_more {m : List FunD} {f : FunD} {kd : Int} (h : funE m f = 0) (hk : kd = 1 ∨ kd = 2) : funE m (more f kd) = if f.regs.length = 256 then 5 else 0 := by
  obtain ⟨h1, h2⟩ := outer_of_fun h
  obtain ⟨h3, h4, h5⟩ := outer_parts h1
  have hw := of_decide_eq_true h3
  by_cases hl : f.regs.length = 256
  · rw [if_pos hl]
    have : withinB (more f kd) = false := decide_eq_false (by rw [more_len]; omega)
    unfold funE outerE
    rw [this]
    rfl
  · rw [if_neg hl]
    have hw' : withinB (more f kd) = true := decide_eq_true (by rw [more_len]; exact ⟨hw.1, hw.2.1, by omega, hw.2.2.2⟩)
    have ht' : typedB (more f kd) = true := by
      unfold typedB at *
      rw [Bool.and_eq_true, Bool.and_eq_true] at h4 ⊢
      obtain ⟨⟨q1, q2⟩, q3⟩ := h4
      have q2 := of_decide_eq_true q2
      refine ⟨⟨?_, decide_eq_true ?_⟩, q3⟩
      · show (f.regs ++ [kd]).all isTy = true
        rw [List.all_append, q1]
        simp only [List.all_cons, List.all_nil, Bool.and_true, Bool.true_and]
        exact decide_eq_true hk
      · rw [more_len]; show 0 ≤ f.params ∧ f.params ≤ 8 ∧ f.params ≤ ((f.regs.length + 1 : Nat) : Int); omega
    have ho : outerE (more f kd) = 0 := by
      unfold outerE
      rw [hw', ht', show (endsWellB (more f kd) && meetB (more f kd)) = true from h5]
      rfl
    unfold funE
    rw [if_pos ho]
    rw [firstE_zero] at h2 ⊢
    intro y hy
    obtain ⟨b, hb, rfl⟩ := List.mem_map.1 hy
    exact blockE_more (h2 _ (List.mem_map_of_mem hb))

/-- A register more for function n. -/
theorem modE_more {m : List FunD} {n : Nat} {fn : FunD} {kd : Int} (hn : m[n]? = some fn) (h : (modE m).1 = 0) (hk : kd = 1 ∨ kd = 2) : modE (m.set n (more fn kd)) = if fn.regs.length = 256 then (5, (n : Int)) else (0, -1) := by
  have hlt : n < m.length := (List.getElem?_eq_some_iff.1 hn).1
  have h32 : ¬ 32 < m.length := fun e => by unfold modE at h; rw [if_pos e] at h; cases h
  have hK : (modK m m 0).1 = 0 := by unfold modE at h; rwa [if_neg h32] at h
  have hall := modK_zero.1 hK
  have hfn := hall fn (List.mem_of_getElem? hn)
  have hodd := not_odd hfn
  have hF := funE_set (kd := kd) hn hodd
  have hmore := funE_more (m := m) (kd := kd) hfn hk
  have hz : ∀ g ∈ m, funE (m.set n (more fn kd)) g = 0 := fun g hg => by rw [hF]; exact hall g hg
  unfold modE
  rw [List.length_set, if_neg h32]
  have hset : (m.set n (more fn kd))[n]? = some (more fn kd) := List.getElem?_set_self hlt
  by_cases hl : fn.regs.length = 256
  · rw [if_pos hl] at hmore ⊢
    have htk : (modK (m.set n (more fn kd)) ((m.set n (more fn kd)).take n) 0).1 = 0 := by
      rw [modK_zero]
      intro g hg
      rw [List.take_set_of_le (Nat.le_refl _)] at hg
      exact hz g (List.mem_of_mem_take hg)
    have := modK_stop hset htk (by rw [hF, hmore]; decide)
    rw [this, hF, hmore]
  · rw [if_neg hl] at hmore ⊢
    refine modK_ok (modK_zero.2 fun g hg => ?_)
    rcases List.mem_or_eq_of_mem_set hg with hg | rfl
    · exact hz g hg
    · rw [hF]; exact hmore
end Go.Proofs.YtfgbmmbkjgdndaaDoor
