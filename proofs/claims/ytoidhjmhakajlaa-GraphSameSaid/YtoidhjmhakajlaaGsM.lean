/- A function of a proper module trimmed: the module stays proper, and all functions do the same, step by step; in mathematics. No condition. -/
import Derived.Test.YtoidhjmhakajlaaGrMJ
import Derived.Test.YtoidhjmhakajlaaRunEJ
namespace Go.Proofs.Ytoidhjmhakajlaa
open Go.RowKit
set_option linter.unusedVariables false

/-! ### Blocks ahead, renumbered -/
def newA (r : Nat → Bool) (l : List Int) : List Int := l.filterMap fun a => if r a.toNat = true then some ((cnt r a.toNat : Nat) : Int) else none
theorem newA_append (r : Nat → Bool) (a b : List Int) : newA r (a ++ b) = newA r a ++ newA r b := List.filterMap_append
theorem newA_cons (r : Nat → Bool) (a : Int) (l : List Int) : newA r (a :: l) = (if r a.toNat = true then [((cnt r a.toNat : Nat) : Int)] else []) ++ newA r l := by
  unfold newA; rw [List.filterMap_cons]; split <;> rename_i h <;> split at h <;> simp_all
theorem cnt_inj {r : Nat → Bool} {a b : Nat} (ha : r a = true) (hb : r b = true) (h : cnt r a = cnt r b) : a = b := by
  rcases Nat.lt_trichotomy a b with hl | hl | hl
  · have := cnt_lt hl ha; omega
  · exact hl
  · have := cnt_lt hl hb; omega
theorem keepA_lenN (r : Nat → Bool) : ∀ (rs xs : List Int), rs.length = xs.length → (keepA r rs xs).length = (newA r rs).length
  | [], [], _ => rfl
  | [], _ :: _, h => by simp at h
  | _ :: _, [], h => by simp at h
  | a :: rs, x :: xs, h => by
    rw [newA_cons]
    simp only [keepA, List.length_append]
    rw [keepA_lenN r rs xs (by simpa using h)]
    split <;> rfl
theorem keepA_sub {r : Nat → Bool} : ∀ {rs xs : List Int} {y : Int}, y ∈ keepA r rs xs → y ∈ xs
  | [], _, _, h => by simp [keepA] at h
  | _ :: _, [], _, h => by simp [keepA] at h
  | a :: rs, x :: xs, y, h => by
    simp only [keepA, List.mem_append] at h
    rcases h with h | h
    · split at h
      · rw [List.mem_singleton.1 h]; exact List.mem_cons_self ..
      · cases h
    · exact List.mem_cons_of_mem _ (keepA_sub h)
/-- What stood for a block that stays stands for its new number. -/
theorem keepA_at {r : Nat → Bool} {b : Nat} (hb : r b = true) : ∀ (rs xs : List Int), rs.length = xs.length → (∀ a ∈ rs, 0 ≤ a) → (b : Int) ∈ rs → (keepA r rs xs).getD ((newA r rs).idxOf ((cnt r b : Nat) : Int)) 0 = xs.getD (rs.idxOf (b : Int)) 0
  | [], _, _, _, h => by simp at h
  | _ :: _, [], h, _, _ => by simp at h
  | a :: rs, x :: xs, h, h0, hm => by
    rw [newA_cons]
    simp only [keepA]
    by_cases hab : a = (b : Int)
    · subst hab
      rw [Int.toNat_natCast, if_pos hb, if_pos hb]
      simp
    · have hm2 : (b : Int) ∈ rs := by
        rcases List.mem_cons.1 hm with e | e
        · exact absurd e.symm hab
        · exact e
      have ih := keepA_at hb rs xs (by simpa using h) (fun c hc => h0 c (List.mem_cons_of_mem _ hc)) hm2
      have ha0 := h0 a (List.mem_cons_self ..)
      have e1 : (a :: rs).idxOf (b : Int) = rs.idxOf (b : Int) + 1 := by rw [List.idxOf_cons, show (a == (b : Int)) = false by simpa using hab]; rfl
      rw [e1]
      by_cases hr : r a.toNat = true
      · have hne : ((cnt r a.toNat : Nat) : Int) ≠ ((cnt r b : Nat) : Int) := fun e => hab (by have := cnt_inj hr hb (by omega); omega)
        rw [if_pos hr, if_pos hr]
        simp only [List.singleton_append]
        have e2 : (((cnt r a.toNat : Nat) : Int) :: newA r rs).idxOf ((cnt r b : Nat) : Int) = (newA r rs).idxOf ((cnt r b : Nat) : Int) + 1 := by rw [List.idxOf_cons, show (((cnt r a.toNat : Nat) : Int) == ((cnt r b : Nat) : Int)) = false by simpa using hne]; rfl
        rw [e2, List.getD_cons_succ, List.getD_cons_succ]
        exact ih
      · rw [if_neg hr, if_neg hr]
        simp only [List.nil_append, List.getD_cons_succ]
        exact ih
theorem hasTo_iff {x : Int} {l : List Int} : hasTo x l = true ↔ x ∈ l := by unfold hasTo; rw [List.any_eq_true]; simp
theorem toT_eq {bs : List BlkD} {k i : Nat} {b : BlkD} (hn : bs.length ≠ 0) (hb : bs[k]? = some b) (hk : reachF bs k = true) (hi : reachF bs i = true) {t : Int} (ht : t ∈ b.term.to) : toT (reachF bs) bs.length t = ((cnt (reachF bs) i : Nat) : Int) ↔ t = (i : Int) := by
  have hil := reachF_lt hi
  unfold toT
  split
  · rename_i hr
    have hrt : reachF bs t.toNat = true := (reachF_iff hn).2 (.step ((reachF_iff hn).1 hk) ((nxF_mem hb).2 ⟨by omega, by rw [show ((t.toNat : Nat) : Int) = t by omega]; exact ht⟩))
    rw [numB_cnt hrt]
    constructor
    · intro e; have := cnt_inj hrt hi (by omega); omega
    · intro e; rw [e, Int.toNat_natCast]
  · rename_i hr
    have := cnt_le (reachF bs) i
    constructor
    · intro e; omega
    · intro e; omega
theorem ahead_new {bs : List BlkD} (hn : bs.length ≠ 0) {i : Nat} (hi : reachF bs i = true) : ∀ k, k ≤ bs.length → aheadL (blksK bs (reachF bs) k) ((cnt (reachF bs) i : Nat) : Int) = newA (reachF bs) (aheadL (bs.take k) (i : Int)) := by
  intro k
  induction k with
  | zero => intro _; rw [blksK_zero, List.take_zero]; rfl
  | succ k ih =>
    intro hk
    have hb : bs[k]? = some bs[k] := List.getElem?_eq_getElem (by omega)
    have hl := (blksK_facts (reachF bs) k (by omega : k ≤ bs.length)).1
    rw [blksK_succ hb, aheadL_step _ hb, newA_append, ← ih (by omega)]
    by_cases hr : reachF bs k = true
    · rw [if_pos hr]
      show aheadK (_ ++ [_]) 0 _ = _
      rw [aheadK_snoc, hl, Nat.zero_add]
      show aheadL (blksK bs (reachF bs) k) _ ++ _ = _
      congr 1
      have he : hasTo ((cnt (reachF bs) i : Nat) : Int) (blkT bs (reachF bs) k bs[k]).term.to = hasTo (i : Int) bs[k].term.to := by
        rw [Bool.eq_iff_iff, hasTo_iff, hasTo_iff]
        show _ ∈ bs[k].term.to.map _ ↔ _
        rw [List.mem_map]
        constructor
        · rintro ⟨t, ht, e⟩; rw [← (toT_eq hn hb hr hi ht).1 e]; exact ht
        · intro h; exact ⟨_, h, (toT_eq hn hb hr hi h).2 rfl⟩
      rw [he]
      split
      · rw [newA_cons, Int.toNat_natCast, if_pos hr]; rfl
      · rfl
    · rw [if_neg hr, List.append_nil]
      split
      · rw [newA_cons, Int.toNat_natCast, if_neg hr]; simp [newA]
      · simp [newA]
theorem aheadT {bs : List BlkD} (hn : bs.length ≠ 0) {i : Nat} (hi : reachF bs i = true) : aheadL (blksT bs) ((cnt (reachF bs) i : Nat) : Int) = newA (reachF bs) (aheadL bs (i : Int)) := by
  have := ahead_new hn hi bs.length (Nat.le_refl _)
  rwa [List.take_length] at this

/-! ### The run -/
def renF (n : Nat) (r : Nat → Bool) (fr : Fr) : Fr := { fr with blk := if fr.fn = n then cnt r fr.blk else fr.blk }
def renS (n : Nat) (r : Nat → Bool) (s : St) : St := { s with cur := renF n r s.cur, stack := s.stack.map (renF n r) }
/-- It stands in a block that is reached. -/
def InF (n : Nat) (r : Nat → Bool) (fr : Fr) : Prop := fr.fn = n → r fr.blk = true
def InS (n : Nat) (r : Nat → Bool) (s : St) : Prop := InF n r s.cur ∧ ∀ c ∈ s.stack, InF n r c
/-- The module with that function trimmed. -/
def trimM (m : List FunD) (n : Nat) (f : FunD) : List FunD := m.set n (trimF f)

theorem trimM_at {m : List FunD} {n : Nat} {f : FunD} (hf : m[n]? = some f) (i : Nat) : (trimM m n f).getD i default = if i = n then trimF f else m.getD i default := by
  have hl := (List.getElem?_eq_some_iff.1 hf).1
  unfold trimM
  rw [List.getD_eq_getElem?_getD, List.getD_eq_getElem?_getD, List.getElem?_set]
  by_cases h : i = n
  · subst h; simp [hl]
  · rw [if_neg (fun e => h e.symm), if_neg h]
theorem blkT_at {bs : List BlkD} {i : Nat} {b : BlkD} (hb : bs[i]? = some b) (hi : reachF bs i = true) : (blksT bs)[cnt (reachF bs) i]? = some (blkT bs (reachF bs) i b) :=
  (blksK_facts (reachF bs) bs.length (Nat.le_refl _)).2.1 i b (List.getElem?_eq_some_iff.1 hb).1 hi hb
theorem blk_same {m : List FunD} {n : Nat} {f g : FunD} {fr : Fr} {b : BlkD} (hf : m[n]? = some f) (hg : m[fr.fn]? = some g) (hb : g.blocks[fr.blk]? = some b) (hi : InF n (reachF f.blocks) fr) :
    blkOf m fr = b ∧ blkOf (trimM m n f) (renF n (reachF f.blocks) fr) = if fr.fn = n then blkT f.blocks (reachF f.blocks) fr.blk b else b := by
  have e0 : blkOf m fr = b := by unfold blkOf blkAt; rw [getD_of hg, getD_of hb]
  refine ⟨e0, ?_⟩
  unfold blkOf renF
  dsimp only
  rw [trimM_at hf]
  by_cases h : fr.fn = n
  · obtain rfl : f = g := by rw [h] at hg; exact Option.some.inj (hf.symm.trans hg)
    simp only [if_pos h]
    exact getD_of (blkT_at hb (hi h))
  · simp only [if_neg h]
    exact e0
theorem ins_same {m : List FunD} {n : Nat} {f g : FunD} {fr : Fr} {b : BlkD} (hf : m[n]? = some f) (hg : m[fr.fn]? = some g) (hb : g.blocks[fr.blk]? = some b) (hi : InF n (reachF f.blocks) fr) :
    (blkOf (trimM m n f) (renF n (reachF f.blocks) fr)).ins = b.ins := by
  rw [(blk_same hf hg hb hi).2]; split <;> rfl

theorem doS_ren (n : Nat) (r : Nat → Bool) (s : St) (x : InsD) : doS (renS n r s) x = renS n r (doS s x) := by
  have hs : ∀ d v, setR (renS n r s) d v = renS n r (setR s d v) := fun _ _ => rfl
  have ht : ∀ t, trapS (renS n r s) t = renS n r (trapS s t) := fun _ => rfl
  have h0 : ∀ f l, renF n r ⟨f, 0, 0, firstR l⟩ = ⟨f, 0, 0, firstR l⟩ := fun f l => by unfold renF; simp [cnt_zero]
  have he : ∀ f l, enterS { renS n r s with stack := (renS n r s).cur :: (renS n r s).stack } f l = renS n r (enterS { s with stack := s.cur :: s.stack } f l) := fun f l => by
    unfold enterS renS; simp [h0]
  unfold doS
  simp only [show (renS n r s).cur.regs = s.cur.regs from rfl, show (renS n r s).mem = s.mem from rfl, show (renS n r s).out = s.out from rfl, hs, ht]
  repeat' split
  all_goals first | rfl | exact he _ _
theorem doS_in {n : Nat} {r : Nat → Bool} {s : St} {x : InsD} (h : InS n r s) (h0 : r 0 = true) : InS n r (doS s x) := by
  unfold doS
  repeat' split
  all_goals first
    | exact h
    | exact ⟨fun _ => h0, fun c hc => by
        rcases List.mem_cons.1 hc with rfl | hc
        · exact h.1
        · exact h.2 c hc⟩
theorem resume_ren {m : List FunD} {n : Nat} {f : FunD} {c : Fr} (hf : m[n]? = some f) (hw : Waits m c) (hi : InF n (reachF f.blocks) c) (v : Int) : resumeF (trimM m n f) (renF n (reachF f.blocks) c) v = renF n (reachF f.blocks) (resumeF m c v) := by
  obtain ⟨g, kb, x, a, ha, hg, hb, hx, -⟩ := hw
  have e1 : callOf (trimM m n f) (renF n (reachF f.blocks) c) = callOf m c := by
    show (blkOf (trimM m n f) (renF n (reachF f.blocks) c)).ins.getD (c.at_ - 1) default = (blkOf m c).ins.getD (c.at_ - 1) default
    rw [ins_same hf hg hb hi, (blk_same hf hg hb hi).1]
  unfold resumeF
  rw [e1]
  split <;> rfl
theorem give_ren {m : List FunD} {n : Nat} {f : FunD} {s : St} (hf : m[n]? = some f) (h : OkS m s) (hi : InS n (reachF f.blocks) s) (v : Int) : giveS (trimM m n f) (renS n (reachF f.blocks) s) v = renS n (reachF f.blocks) (giveS m s v) := by
  unfold giveS
  cases hs : s.stack with
  | nil => simp [renS, hs]
  | cons c q =>
    have e : (renS n (reachF f.blocks) s).stack = renF n (reachF f.blocks) c :: q.map (renF n (reachF f.blocks)) := by unfold renS; rw [hs]; rfl
    rw [e]
    dsimp only
    rw [resume_ren hf (h.stack c (by rw [hs]; exact List.mem_cons_self ..)) (hi.2 c (by rw [hs]; exact List.mem_cons_self ..))]
    rfl
theorem resume_blk (m : List FunD) (c : Fr) (v : Int) : (resumeF m c v).fn = c.fn ∧ (resumeF m c v).blk = c.blk := by unfold resumeF; split <;> exact ⟨rfl, rfl⟩
theorem give_in {m : List FunD} {n : Nat} {r : Nat → Bool} {s : St} (hi : InS n r s) (v : Int) : InS n r (giveS m s v) := by
  unfold giveS
  cases hs : s.stack with
  | nil => exact ⟨hi.1, fun c hc => by cases (show c ∈ ([] : List Fr) from hc)⟩
  | cons c q =>
    have hc := hi.2 c (by rw [hs]; exact List.mem_cons_self ..)
    refine ⟨fun e => ?_, fun d hd => hi.2 d (by rw [hs]; exact List.mem_cons_of_mem _ hd)⟩
    have := resume_blk m c v
    show r (resumeF m c v).blk = true
    rw [this.2]
    exact hc (this.1.symm.trans e)
theorem goTo_ren {m : List FunD} {n : Nat} {f g : FunD} {s : St} {kb : BlkD} (hf : m[n]? = some f) (hF : FunOk m g) (h : OkC m s.cur g kb) (hi : InF n (reachF f.blocks) s.cur) {x y : Int} (hx : x ∈ kb.term.to) (hy : y = if s.cur.fn = n then toT (reachF f.blocks) f.blocks.length x else x) :
    goToF ((trimM m n f).getD s.cur.fn default) (renF n (reachF f.blocks) s.cur) y.toNat = renF n (reachF f.blocks) (goToF (m.getD s.cur.fn default) s.cur x.toNat) ∧ InF n (reachF f.blocks) (goToF (m.getD s.cur.fn default) s.cur x.toNat) := by
  rw [trimM_at hf]
  by_cases hn : s.cur.fn = n
  · obtain rfl : f = g := by have := h.hf; rw [hn] at this; exact Option.some.inj (hf.symm.trans this)
    have hri := hi hn
    have hto := hF.to kb (List.mem_of_getElem? h.hb) x hx
    have hn0 : f.blocks.length ≠ 0 := by omega
    have hrt : reachF f.blocks x.toNat = true := (reachF_iff hn0).2 (.step ((reachF_iff hn0).1 hri) ((nxF_mem h.hb).2 ⟨by omega, by rw [show ((x.toNat : Nat) : Int) = x by omega]; exact hx⟩))
    have hyn : y.toNat = cnt (reachF f.blocks) x.toNat := by
      rw [hy, if_pos hn]
      unfold toT
      rw [if_pos ⟨by omega, by omega⟩, numB_cnt hrt, Int.toNat_natCast]
    rw [if_pos hn, getD_of (by rw [hn]; exact hf), hyn]
    refine ⟨?_, fun _ => hrt⟩
    have hkt : f.blocks[x.toNat]? = some f.blocks[x.toNat] := List.getElem?_eq_getElem (by omega)
    have e1 : blkAt f x.toNat = f.blocks[x.toNat] := getD_of hkt
    have e2 : blkAt (trimF f) (cnt (reachF f.blocks) x.toNat) = blkT f.blocks (reachF f.blocks) x.toNat f.blocks[x.toNat] := getD_of (blkT_at hkt hrt)
    have hdst : (blkT f.blocks (reachF f.blocks) x.toNat f.blocks[x.toNat]).phis.map PhiD.dst = f.blocks[x.toNat].phis.map PhiD.dst := by
      show (f.blocks[x.toNat].phis.map _).map _ = _
      rw [List.map_map]; rfl
    have hah : (((s.cur.blk : Nat) : Int)) ∈ aheadL f.blocks ((x.toNat : Nat) : Int) := by
      have := ahead_has h.hb hx
      rwa [show x = ((x.toNat : Nat) : Int) by omega] at this
    have hvals : phiVals (trimF f) (renF n (reachF f.blocks) s.cur) (cnt (reachF f.blocks) x.toNat) = phiVals f s.cur x.toNat := by
      unfold phiVals
      rw [e1, e2]
      show (f.blocks[x.toNat].phis.map _).map _ = _
      rw [List.map_map]
      refine List.map_congr_left fun p hp => ?_
      show s.cur.regs ((phiT (reachF f.blocks) (aheadL f.blocks ((x.toNat : Nat) : Int)) p).args.getD ((aheadL (blksT f.blocks) _).idxOf (((if s.cur.fn = n then cnt (reachF f.blocks) s.cur.blk else s.cur.blk) : Nat) : Int)) 0).toNat = _
      rw [if_pos hn, aheadT hn0 hrt]
      have hl := (hF.phis x.toNat _ hkt p hp).1
      show s.cur.regs ((argsT (reachF f.blocks) (aheadL f.blocks ((x.toNat : Nat) : Int)) p.args).getD _ 0).toNat = _
      unfold argsT
      rw [if_pos hl, keepA_at hri _ _ hl.symm (fun a ha => by have := aheadK_mem f.blocks 0 _ a ha; omega) hah]
    unfold goToF
    rw [hvals, e1, e2, hdst]
    unfold renF
    simp [hn]
  · rw [if_neg hn, hy, if_neg hn]
    refine ⟨?_, fun e => absurd e hn⟩
    unfold goToF phiVals renF
    simp [hn]
theorem len_at {l : List Int} {n i : Nat} (h : l.length = n) (hi : i < n) : l.getD i 0 ∈ l := by
  rw [List.getD_eq_getElem?_getD, List.getElem?_eq_getElem (by omega)]; exact List.getElem_mem (by omega)
theorem step_ren {m : List FunD} {n : Nat} {f : FunD} {s : St} (hP : Proper m) (hf : m[n]? = some f) (h : OkS m s) (hi : InS n (reachF f.blocks) s) :
    stepS (trimM m n f) (renS n (reachF f.blocks) s) = renS n (reachF f.blocks) (stepS m s) ∧ InS n (reachF f.blocks) (stepS m s) := by
  obtain ⟨h32, hall⟩ := proper_ok hP
  obtain ⟨g, kb, hc⟩ := h.cur
  have hF := hall g (List.mem_of_getElem? hc.hf)
  have hFf := hall f (List.mem_of_getElem? hf)
  have h0 : reachF f.blocks 0 = true := (reachF_iff (by have := hFf.nb.1; omega)).2 .refl
  obtain ⟨e1, e2⟩ := blk_same hf hc.hf hc.hb hi.1
  have e3 := ins_same hf hc.hf hc.hb hi.1
  unfold stepS
  rw [show (renS n (reachF f.blocks) s).cur = renF n (reachF f.blocks) s.cur from rfl, e3, e1, show (renF n (reachF f.blocks) s.cur).at_ = s.cur.at_ from rfl]
  by_cases hat : s.cur.at_ = kb.ins.length
  · rw [if_pos hat, if_pos hat]
    have hk : (blkOf (trimM m n f) (renF n (reachF f.blocks) s.cur)).term.kind = kb.term.kind := by rw [e2]; split <;> rfl
    have ha : (blkOf (trimM m n f) (renF n (reachF f.blocks) s.cur)).term.arg = kb.term.arg := by rw [e2]; split <;> rfl
    have hto : ∀ i, i < kb.term.to.length → (blkOf (trimM m n f) (renF n (reachF f.blocks) s.cur)).term.to.getD i 0 = if s.cur.fn = n then toT (reachF f.blocks) f.blocks.length (kb.term.to.getD i 0) else kb.term.to.getD i 0 := fun i hl => by
      rw [e2]
      split
      · show (kb.term.to.map _).getD i 0 = _
        rw [List.getD_eq_getElem?_getD, List.getD_eq_getElem?_getD, List.getElem?_map, List.getElem?_eq_getElem hl]; rfl
      · rfl
    unfold endS
    rw [hk, ha]
    rw [show (renS n (reachF f.blocks) s).cur = renF n (reachF f.blocks) s.cur from rfl, show (renF n (reachF f.blocks) s.cur).regs = s.cur.regs from rfl, show (renF n (reachF f.blocks) s.cur).fn = s.cur.fn from rfl]
    by_cases hk3 : kb.term.kind = 3
    · rw [if_pos hk3, if_pos hk3]
      exact ⟨give_ren hf h hi _, give_in hi _⟩
    · rw [if_neg hk3, if_neg hk3]
      have hkind := hF.kind kb (List.mem_of_getElem? hc.hb)
      by_cases h2 : kb.term.kind = 2 ∧ s.cur.regs kb.term.arg.toNat = 0
      · rw [if_pos h2, if_pos h2]
        have hl : kb.term.to.length = 2 := by omega
        obtain ⟨g1, g2⟩ := goTo_ren (x := kb.term.to.getD 1 0) hf hF hc hi.1 (len_at hl (by omega)) (hto 1 (by omega))
        refine ⟨?_, g2, hi.2⟩
        rw [g1]; rfl
      · rw [if_neg h2, if_neg h2]
        have hl : ∃ q, kb.term.to.length = q + 1 := ⟨kb.term.to.length - 1, by omega⟩
        obtain ⟨q, hl⟩ := hl
        obtain ⟨g1, g2⟩ := goTo_ren (x := kb.term.to.getD 0 0) hf hF hc hi.1 (len_at hl (by omega)) (hto 0 (by omega))
        refine ⟨?_, g2, hi.2⟩
        rw [g1]; rfl
  · rw [if_neg hat, if_neg hat]
    exact ⟨doS_ren n _ { s with cur := { s.cur with at_ := s.cur.at_ + 1 } } _, doS_in (s := { s with cur := { s.cur with at_ := s.cur.at_ + 1 } }) hi h0⟩
theorem loop_ren {m : List FunD} {n : Nat} {f : FunD} (hP : Proper m) (hf : m[n]? = some f) : ∀ (k : Nat) (s : St), OkS m s → InS n (reachF f.blocks) s → loopS (trimM m n f) k (renS n (reachF f.blocks) s) = renS n (reachF f.blocks) (loopS m k s) := by
  intro k
  induction k with
  | zero => intro s _ _; rfl
  | succ k ih =>
    intro s h hi
    have e : (renS n (reachF f.blocks) s).done = s.done := rfl
    by_cases hd : s.done = true
    · rw [loopS_done (e.trans hd), loopS_done hd]
    · have hd' : ¬ (renS n (reachF f.blocks) s).done = true := by rw [e]; exact hd
      simp only [loopS, hd, hd', if_false, Bool.false_eq_true]
      obtain ⟨h1, h2⟩ := step_ren (s := tickS s) hP hf (tick_ok h) hi
      rw [show tickS (renS n (reachF f.blocks) s) = renS n (reachF f.blocks) (tickS s) from rfl, h1]
      exact ih _ (step_ok hP (tick_ok h)) h2
/-- The same, but for where it stands. -/
theorem run_ren {m : List FunD} {n a : Nat} {f g : FunD} {args : List Int} (hP : Proper m) (hf : m[n]? = some f) (hg : m[a]? = some g) (ha : (args.length : Int) = g.params) (k : Nat) : runS (trimM m n f) a args k = renS n (reachF f.blocks) (runS m a args k) := by
  have hFf := (proper_ok hP).2 f (List.mem_of_getElem? hf)
  have hF := (proper_ok hP).2 g (List.mem_of_getElem? hg)
  have h0 : reachF f.blocks 0 = true := (reachF_iff (by have := hFf.nb.1; omega)).2 .refl
  have hb0 : 0 < g.blocks.length := hF.nb.1
  have hok : OkS m (startS a args) := ⟨⟨g, g.blocks[0], hg, List.getElem?_eq_getElem hb0, Nat.zero_le _, firstR_zero (by have := hF.par.2.2; omega)⟩, fun c hc => by cases hc⟩
  have := loop_ren hP hf k (startS a args) hok ⟨fun _ => h0, fun c hc => by cases hc⟩
  have e : renS n (reachF f.blocks) (startS a args) = startS a args := by
    unfold renS renF startS; simp [cnt_zero]
  rw [e] at this
  exact this

/-! ### It stays proper -/
theorem items_sum {bs : List BlkD} (r : Nat → Bool) : ∀ k, k ≤ bs.length → itemsK (blksK bs r k) ≤ itemsK (bs.take k) := by
  intro k
  induction k with
  | zero => intro _; rw [blksK_zero, List.take_zero]; exact Nat.le_refl _
  | succ k ih =>
    intro hk
    have hb : bs[k]? = some bs[k] := List.getElem?_eq_getElem (by omega)
    rw [blksK_succ hb, itemsK_step hb]
    have h := ih (by omega)
    have e : ∀ a b : List BlkD, itemsK (a ++ b) = itemsK a + itemsK b := fun a b => by unfold itemsK; rw [List.map_append, List.sum_append]
    rw [e]
    split
    · have : itemsK [blkT bs r k bs[k]] = bs[k].phis.length + bs[k].ins.length := by unfold itemsK blkT; simp
      omega
    · have : itemsK ([] : List BlkD) = 0 := rfl
      omega
theorem meetK_of {bs : List BlkD} : ∀ (l : List BlkD) (i : Nat), (∀ k b, l[k]? = some b → ∀ p ∈ b.phis, p.args.length = (aheadL bs ((i + k : Nat) : Int)).length) → meetK bs l i = true
  | [], _, _ => rfl
  | b :: l, i, h => by
    simp only [meetK, Bool.and_eq_true]
    refine ⟨List.all_eq_true.2 fun p hp => decide_eq_true (h 0 b rfl p hp), meetK_of l (i + 1) fun k c hk p hp => ?_⟩
    have := h (k + 1) c hk p hp
    rwa [show i + (k + 1) = i + 1 + k by omega] at this
theorem blkT_all {bs : List BlkD} {c : BlkD} {j : Nat} (h : (blksT bs)[j]? = some c) : ∃ i b, bs[i]? = some b ∧ reachF bs i = true ∧ j = cnt (reachF bs) i ∧ c = blkT bs (reachF bs) i b := by
  obtain ⟨i, hi, hr, rfl⟩ := (blksK_facts (reachF bs) bs.length (Nat.le_refl _)).2.2 j (List.getElem?_eq_some_iff.1 h).1
  have hb : bs[i]? = some bs[i] := List.getElem?_eq_getElem hi
  exact ⟨i, _, hb, hr, rfl, Option.some.inj (h.symm.trans (blkT_at hb hr))⟩
theorem sig_same {m : List FunD} {n : Nat} {f : FunD} (hf : m[n]? = some f) (i : Int) : (funAt (trimM m n f) i).params = (funAt m i).params ∧ (funAt (trimM m n f) i).result = (funAt m i).result ∧ (funAt (trimM m n f) i).regs = (funAt m i).regs := by
  unfold funAt
  rw [trimM_at hf]
  by_cases h : i.toNat = n
  · rw [if_pos h, getD_of (by rw [h]; exact hf)]; exact ⟨rfl, rfl, rfl⟩
  · rw [if_neg h]; exact ⟨rfl, rfl, rfl⟩
theorem insE_trim {m : List FunD} {n : Nat} {f : FunD} (hf : m[n]? = some f) (g : FunD) (x : InsD) : insE (trimM m n f) g x = insE m g x := by
  obtain ⟨h1, h2, h3⟩ := sig_same hf x.fn
  have ho : oddB (funAt (trimM m n f) x.fn) = oddB (funAt m x.fn) := by unfold oddB; rw [h1, h3]
  have hl : (trimM m n f).length = m.length := by unfold trimM; exact List.length_set
  unfold insE
  rw [ho, h1, h2, h3, hl]
theorem blockE_trimM {m : List FunD} {n : Nat} {f : FunD} (hf : m[n]? = some f) (g : FunD) (b : BlkD) : blockE (trimM m n f) g b = blockE m g b := by
  unfold blockE
  rw [show insE (trimM m n f) g = insE m g from funext fun x => insE_trim hf g x]
theorem funE_trimM {m : List FunD} {n : Nat} {f : FunD} (hf : m[n]? = some f) (g : FunD) : funE (trimM m n f) g = funE m g := by
  unfold funE
  rw [show blockE (trimM m n f) g = blockE m g from funext fun x => blockE_trimM hf g x]
theorem funE_trim {m : List FunD} {f : FunD} (h : funE m f = 0) : funE m (trimF f) = 0 := by
  have hF := fun_ok h
  have hn0 : f.blocks.length ≠ 0 := by have := hF.nb.1; omega
  obtain ⟨ho, hb⟩ := funE_zero.1 h
  obtain ⟨h1, h2, h3, h4⟩ := outer_four ho
  have hlen := blksT_few f.blocks
  have h0 : reachF f.blocks 0 = true := (reachF_iff hn0).2 .refl
  have hc1 : 1 ≤ (blksT f.blocks).length := by
    have := (List.getElem?_eq_some_iff.1 (blkT_at (List.getElem?_eq_getElem (by omega) : f.blocks[0]? = some f.blocks[0]) h0)).1
    omega
  rw [funE_zero]
  constructor
  · unfold outerE
    have hw1 : withinB (trimF f) = true := by
      unfold withinB at h1 ⊢
      have h1 := of_decide_eq_true h1
      have h5 := items_sum (bs := f.blocks) (reachF f.blocks) f.blocks.length (Nat.le_refl _)
      rw [List.take_length] at h5
      refine decide_eq_true ⟨hc1, by show (blksT f.blocks).length ≤ 64; omega, h1.2.2.1, ?_⟩
      show (blksT f.blocks).length + itemsK (blksT f.blocks) ≤ 256
      have : itemsK (blksT f.blocks) ≤ itemsK f.blocks := h5
      omega
    have hw3 : endsWellB (trimF f) = true := by
      unfold endsWellB at h3 ⊢
      refine List.all_eq_true.2 fun c hc => ?_
      obtain ⟨j, hj⟩ := List.getElem?_of_mem hc
      obtain ⟨i, b, hbi, hr, rfl, rfl⟩ := blkT_all hj
      have hs := List.all_eq_true.1 h3 b (List.mem_of_getElem? hbi)
      unfold shapeB at hs ⊢
      rw [Bool.and_eq_true] at hs ⊢
      obtain ⟨hs1, hs2⟩ := hs
      have hall : ∀ t ∈ b.term.to, ∃ q : Nat, t = q ∧ 0 < q ∧ reachF f.blocks q = true ∧ toT (reachF f.blocks) f.blocks.length t = ((cnt (reachF f.blocks) q : Nat) : Int) := fun t ht => by
        have := of_decide_eq_true (List.all_eq_true.1 hs2 t ht)
        have hrt : reachF f.blocks t.toNat = true := (reachF_iff hn0).2 (.step ((reachF_iff hn0).1 hr) ((nxF_mem hbi).2 ⟨by omega, by rw [show ((t.toNat : Nat) : Int) = t by omega]; exact ht⟩))
        exact ⟨t.toNat, by omega, by omega, hrt, (toT_eq hn0 hbi hr hrt ht).2 (by omega)⟩
      constructor
      · unfold tosB at hs1 ⊢
        show (if b.term.kind = 1 then decide ((b.term.to.map _).length = 1) else if b.term.kind = 2 then decide ((b.term.to.map _).length = 2) && decide ((b.term.to.map _).getD 0 0 ≠ (b.term.to.map _).getD 1 0) else if b.term.kind = 3 then decide ((b.term.to.map _).length = 0) else false) = true
        rw [List.length_map]
        split at hs1
        · rename_i k; rw [if_pos k]; exact hs1
        · rename_i k
          rw [if_neg k]
          split at hs1
          · rename_i k2
            rw [if_pos k2]
            rw [Bool.and_eq_true] at hs1 ⊢
            refine ⟨hs1.1, decide_eq_true ?_⟩
            have hl := of_decide_eq_true hs1.1
            have hne := of_decide_eq_true hs1.2
            have hm : ∀ i, i < 2 → (b.term.to.map (toT (reachF f.blocks) f.blocks.length)).getD i 0 = toT (reachF f.blocks) f.blocks.length (b.term.to.getD i 0) := fun i hi => by
              rw [List.getD_eq_getElem?_getD, List.getD_eq_getElem?_getD, List.getElem?_map, List.getElem?_eq_getElem (by omega)]; rfl
            rw [hm 0 (by omega), hm 1 (by omega)]
            obtain ⟨q1, a1, a2, a3, a4⟩ := hall _ (len_at hl (by omega : 0 < 2))
            obtain ⟨q2, b1, b2, b3, b4⟩ := hall _ (len_at hl (by omega : 1 < 2))
            rw [a4, b4]
            intro e
            have := cnt_inj a3 b3 (by omega)
            omega
          · rename_i k2
            rw [if_neg k2]
            exact hs1
      · refine List.all_eq_true.2 fun y hy => ?_
        obtain ⟨t, ht, rfl⟩ := List.mem_map.1 hy
        obtain ⟨q, rfl, hq0, hrq, e⟩ := hall t ht
        rw [e]
        have hp := cnt_lt hq0 h0
        have hq := cnt_lt (reachF_lt hrq) hrq
        rw [cnt_zero] at hp
        have hlT := blksT_len f.blocks
        exact decide_eq_true ⟨by omega, by omega, by show _ < ((blksT f.blocks).length : Int); omega⟩
    have hw4 : meetB (trimF f) = true := by
      refine meetK_of _ _ fun j c hj p hp => ?_
      obtain ⟨i, b, hbi, hr, rfl, rfl⟩ := blkT_all (bs := f.blocks) hj
      obtain ⟨p0, hp0, rfl⟩ := List.mem_map.1 hp
      rw [Nat.zero_add]
      show (argsT (reachF f.blocks) (aheadL f.blocks (i : Int)) p0.args).length = (aheadL (blksT f.blocks) _).length
      have hl := (hF.phis i b hbi p0 hp0).1
      unfold argsT
      rw [if_pos hl, aheadT hn0 hr]
      exact keepA_lenN _ _ _ hl.symm
    have hw2 : typedB (trimF f) = true := h2
    rw [if_pos hw1, if_pos hw2, hw3, hw4]; rfl
  · intro c hc
    obtain ⟨j, hj⟩ := List.getElem?_of_mem hc
    obtain ⟨i, b, hbi, hr, rfl, rfl⟩ := blkT_all (bs := f.blocks) hj
    have hz := hb b (List.mem_of_getElem? hbi)
    rw [blockE_zero] at hz ⊢
    obtain ⟨z1, z2, z3⟩ := hz
    refine ⟨fun p hp => ?_, z2, z3⟩
    obtain ⟨p0, hp0, rfl⟩ := List.mem_map.1 hp
    have hz := z1 p0 hp0
    have hl := (hF.phis i b hbi p0 hp0).1
    unfold phiE at hz ⊢
    obtain ⟨k1, hz⟩ := ite_zero (by decide) hz
    obtain ⟨k2, -⟩ := ite_zero (by decide) hz
    rw [Bool.and_eq_true] at k1
    have hsub : ∀ y ∈ (phiT (reachF f.blocks) (aheadL f.blocks (i : Int)) p0).args, y ∈ p0.args := fun y hy => by
      have hy : y ∈ argsT (reachF f.blocks) (aheadL f.blocks (i : Int)) p0.args := hy
      unfold argsT at hy
      rw [if_pos hl] at hy
      exact keepA_sub hy
    have j1 : areAtB (phiT (reachF f.blocks) (aheadL f.blocks (i : Int)) p0).args ((trimF f).regs.length : Int) = true := List.all_eq_true.2 fun y hy => List.all_eq_true.1 k1.2 y (hsub y hy)
    rw [if_pos (by rw [Bool.and_eq_true]; exact ⟨k1.1, j1⟩)]
    exact if_pos (List.all_eq_true.2 fun y hy => List.all_eq_true.1 k2 y (hsub y hy))
theorem trim_proper {m : List FunD} {n : Nat} {f : FunD} (hP : Proper m) (hf : m[n]? = some f) : Proper (trimM m n f) := by
  obtain ⟨h32, hall⟩ := proper_iff.1 hP
  rw [proper_iff]
  refine ⟨by unfold trimM; rw [List.length_set]; exact h32, fun g hg => ?_⟩
  rw [funE_trimM hf]
  unfold trimM at hg
  rcases List.mem_or_eq_of_mem_set hg with h | rfl
  · exact hall g h
  · exact funE_trim (hall f (List.mem_of_getElem? hf))
theorem may_trim {m : List FunD} {n : Nat} {f : FunD} (hf : m[n]? = some f) (a : Int) (args : List Int) (steps : Int) : mayB (trimM m n f) a args steps = mayB m a args steps := by
  obtain ⟨h1, -, h3⟩ := sig_same hf a
  unfold mayB takesB
  rw [h1, h3, show (trimM m n f).length = m.length from List.length_set]
/-- What is told of it is the same. -/
theorem same_trim {m : List FunD} {n : Nat} {f : FunD} {a : Int} {args : List Int} {steps : Int} (hP : Proper m) (hf : m[n]? = some f) (hm : mayB m a args steps = true) (k : Nat) : sameS (runS m a.toNat args k) (runS (trimM m n f) a.toNat args k) = true := by
  unfold mayB takesB at hm
  simp only [Bool.and_eq_true, decide_eq_true_eq] at hm
  obtain ⟨⟨ha0, ha1⟩, ⟨hl, -⟩, -⟩ := hm
  have hg : m[a.toNat]? = some (funAt m a) := (funAt_get ⟨ha0, ha1⟩).1
  rw [run_ren hP hf hg hl k]
  unfold sameS
  exact decide_eq_true ⟨rfl, rfl, rfl, rfl, rfl, rfl⟩
end Go.Proofs.Ytoidhjmhakajlaa
