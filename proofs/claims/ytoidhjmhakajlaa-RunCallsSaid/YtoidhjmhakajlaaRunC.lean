/- A function that calls one with its own parameters: what a run of it does. Mathematics. -/
import Derived.Test.YtoidhjmhakajlaaMacS
namespace Go.Proofs.Ytoidhjmhakajlaa
open Go.RowKit
set_option linter.unusedVariables false

def callW (g : FunD) (f : Nat) : InsD := ⟨17, if g.result = 0 then -1 else g.params, (List.range g.params.toNat).map (fun i : Nat => (i : Int)), 0, f⟩
def termW (g : FunD) : TermD := ⟨3, if g.result = 0 then -1 else g.params, []⟩
def wrapF (g : FunD) (f : Nat) : FunD := ⟨g.params, g.result, g.regs.take g.params.toNat ++ (if g.result = 0 then [] else [g.result]), [⟨[], [callW g f], termW g⟩]⟩
/-- The frame of the one that calls, below all others. -/
def liftS (c0 : Fr) (s : St) : St := { s with stack := s.stack ++ [c0], steps := s.steps + 1 }

theorem doS_lift (c0 : Fr) (s : St) (x : InsD) : doS (liftS c0 s) x = liftS c0 (doS s x) := by
  unfold doS
  simp only [show (liftS c0 s).cur = s.cur from rfl, show (liftS c0 s).mem = s.mem from rfl, show (liftS c0 s).out = s.out from rfl]
  repeat' split
  all_goals rfl
theorem app_get {m : List FunD} {w f : FunD} {i : Nat} (h : m[i]? = some f) : (m ++ [w]).getD i default = m.getD i default := by
  have hl := (List.getElem?_eq_some_iff.1 h).1
  rw [List.getD_eq_getElem?_getD, List.getD_eq_getElem?_getD, List.getElem?_append_left hl]
/-- The step is the last one of the run: a return, with nothing that waits. -/
def lastStep (m : List FunD) (s : St) : Prop := s.stack = [] ∧ s.cur.at_ = (blkOf m s.cur).ins.length ∧ (blkOf m s.cur).term.kind = 3
theorem step_lift {m : List FunD} {w : FunD} {s : St} (c0 : Fr) (h : OkS m s) (hl : ¬ lastStep m s) : stepS (m ++ [w]) (liftS c0 s) = liftS c0 (stepS m s) := by
  obtain ⟨f, kb, hc⟩ := h.cur
  have hcur : (liftS c0 s).cur = s.cur := rfl
  have hg : (m ++ [w]).getD s.cur.fn default = m.getD s.cur.fn default := app_get hc.hf
  have hb : blkOf (m ++ [w]) s.cur = blkOf m s.cur := by unfold blkOf; rw [hg]
  unfold stepS
  rw [hcur, hb]
  by_cases hat : s.cur.at_ = (blkOf m s.cur).ins.length
  · rw [if_pos hat, if_pos hat]
    unfold endS
    rw [hcur, hg]
    by_cases hk : (blkOf m s.cur).term.kind = 3
    · rw [if_pos hk, if_pos hk]
      unfold giveS
      cases hs : s.stack with
      | nil => exact absurd ⟨hs, hat, hk⟩ hl
      | cons c r =>
        have e : (liftS c0 s).stack = c :: (r ++ [c0]) := by unfold liftS; rw [hs]; rfl
        rw [e]
        obtain ⟨f2, kb2, x2, a2, -, hf2, -⟩ := h.stack c (by rw [hs]; exact List.mem_cons_self ..)
        have hr : ∀ v, resumeF (m ++ [w]) c v = resumeF m c v := fun v => by unfold resumeF callOf; rw [app_get hf2]
        simp only [hr]
        rfl
    · rw [if_neg hk, if_neg hk]
      split <;> rfl
  · rw [if_neg hat, if_neg hat]
    exact doS_lift c0 { s with cur := { s.cur with at_ := s.cur.at_ + 1 } } _
/-- Whose run it is: the function of the frame below all others. -/
def rootOf (s : St) : Option Nat := (s.cur.fn :: s.stack.map Fr.fn).getLast?
theorem root_step {m : List FunD} {s : St} (h : OkS m s) (hl : ¬ lastStep m s) : rootOf (stepS m s) = rootOf s := by
  unfold stepS
  by_cases hat : s.cur.at_ = (blkOf m s.cur).ins.length
  · rw [if_pos hat]
    unfold endS
    by_cases hk : (blkOf m s.cur).term.kind = 3
    · rw [if_pos hk]
      unfold giveS
      cases hs : s.stack with
      | nil => exact absurd ⟨hs, hat, hk⟩ hl
      | cons c r =>
        have hr : ∀ v, (resumeF m c v).fn = c.fn := fun v => by unfold resumeF; split <;> rfl
        unfold rootOf
        simp only [hs, hr, List.map_cons]
        rw [List.getLast?_cons_cons]
    · rw [if_neg hk]
      split <;> rfl
  · rw [if_neg hat]
    unfold doS setR trapS enterS
    repeat' split
    all_goals first | rfl | (unfold rootOf; simp only [List.map_cons]; rw [List.getLast?_cons_cons])
theorem trap_step {m : List FunD} {s : St} (h : s.trap = 0) (hd : (stepS m s).done = false) (h0 : s.done = false) : (stepS m s).trap = 0 := by
  revert hd
  unfold stepS endS giveS doS setR trapS enterS
  repeat' split
  all_goals first | exact fun _ => h | (intro hd; cases hd)
theorem done_step {m : List FunD} {s : St} (h : s.trap = 0) (h0 : s.done = false) (hd : (stepS m s).done = true) (hl : ¬ lastStep m s) : (stepS m s).trap ≠ 0 := by
  revert hd
  unfold stepS
  by_cases hat : s.cur.at_ = (blkOf m s.cur).ins.length
  · rw [if_pos hat]
    unfold endS
    by_cases hk : (blkOf m s.cur).term.kind = 3
    · rw [if_pos hk]
      unfold giveS
      cases hs : s.stack with
      | nil => exact absurd ⟨hs, hat, hk⟩ hl
      | cons c r => intro hd; rw [show s.done = true from hd] at h0; cases h0
    · rw [if_neg hk]
      split
      · intro hd; rw [show s.done = true from hd] at h0; cases h0
      · intro hd; rw [show s.done = true from hd] at h0; cases h0
  · rw [if_neg hat]
    unfold doS setR trapS enterS
    repeat' split
    all_goals first | (intro hd; rw [show s.done = true from hd] at h0; cases h0) | exact fun _ => (show (2 : Int) ≠ 0 by decide) | exact fun _ => (show (1 : Int) ≠ 0 by decide)
/-- What a run of the one that calls is like, where it ends. -/
def FarS (s y : St) : Prop := y.done = true ∧ y.trap = s.trap ∧ y.value = s.value ∧ y.mem = s.mem ∧ y.out = s.out ∧ y.steps = s.steps + (if s.trap = 0 then 2 else 1)
def frW (n : Nat) (args : List Int) : Fr := ⟨n, 0, 1, firstR args⟩
theorem value_step {m : List FunD} {s : St} (hl : ¬ lastStep m s) : (stepS m s).value = s.value := by
  unfold stepS
  by_cases hat : s.cur.at_ = (blkOf m s.cur).ins.length
  · rw [if_pos hat]
    unfold endS
    by_cases hk : (blkOf m s.cur).term.kind = 3
    · rw [if_pos hk]
      unfold giveS
      cases hs : s.stack with
      | nil => exact absurd ⟨hs, hat, hk⟩ hl
      | cons c r => rfl
    · rw [if_neg hk]
      split <;> rfl
  · rw [if_neg hat]
    unfold doS setR trapS enterS
    repeat' split
    all_goals rfl
theorem last_two {m : List FunD} {g : FunD} {f : Nat} {args : List Int} {s : St} (hP : Proper m) (hg : m[f]? = some g) (h : OkS m s) (hl : lastStep m s) (hr : rootOf s = some f) (ht : s.trap = 0) (h0 : s.done = false) :
    (stepS m s).done = true ∧ (stepS m s).trap = 0 ∧ (stepS (m ++ [wrapF g f]) (liftS (frW m.length args) s)).done = false ∧
    FarS (stepS m s) (stepS (m ++ [wrapF g f]) (tickS (stepS (m ++ [wrapF g f]) (liftS (frW m.length args) s)))) := by
  obtain ⟨hs, hat, hk⟩ := hl
  obtain ⟨f2, kb, hc⟩ := h.cur
  have hfn : s.cur.fn = f := by unfold rootOf at hr; rw [hs] at hr; exact Option.some.inj hr
  have hf2 := hc.hf
  rw [hfn, hg] at hf2
  obtain rfl := Option.some.inj hf2
  have hkb : blkOf m s.cur = kb := by unfold blkOf blkAt; rw [getD_of hc.hf, getD_of hc.hb]
  have hgm : g ∈ m := List.mem_of_getElem? hg
  have hFE := (proper_iff.1 hP).2 g hgm
  have hF := fun_ok hFE
  have hkm : kb ∈ g.blocks := List.mem_of_getElem? hc.hb
  have hT := (blockE_zero.1 ((funE_zero.1 hFE).2 kb hkm)).2.2
  have hcur : (liftS (frW m.length args) s).cur = s.cur := rfl
  have hgd : (m ++ [wrapF g f]).getD s.cur.fn default = m.getD s.cur.fn default := app_get hc.hf
  have hb : blkOf (m ++ [wrapF g f]) s.cur = kb := by rw [← hkb]; unfold blkOf; rw [hgd]
  rw [hkb] at hat hk
  have hw : (m ++ [wrapF g f]).getD m.length default = wrapF g f := by simp [List.getD_eq_getElem?_getD]
  have e1 : stepS m s = { s with done := true, value := if 0 ≤ kb.term.arg then s.cur.regs kb.term.arg.toNat else 0 } := by
    unfold stepS
    rw [hkb, if_pos hat]
    unfold endS
    rw [if_pos hk]
    unfold giveS
    simp only [hs]
  have hls : (liftS (frW m.length args) s).stack = [frW m.length args] := by unfold liftS; rw [hs]; rfl
  have e2 : ∀ v, v = (if 0 ≤ kb.term.arg then s.cur.regs kb.term.arg.toNat else 0) → stepS (m ++ [wrapF g f]) (liftS (frW m.length args) s) = { liftS (frW m.length args) s with cur := resumeF (m ++ [wrapF g f]) (frW m.length args) v, stack := [] } := by
    intro v hv
    unfold stepS
    rw [hcur, hb, if_pos hat]
    unfold endS
    rw [if_pos hk, hcur, ← hv]
    unfold giveS
    simp only [hls]
  have hcall : callOf (m ++ [wrapF g f]) (frW m.length args) = callW g f := by
    unfold callOf blkAt
    rw [show (frW m.length args).fn = m.length from rfl, hw]; rfl
  have hblk : ∀ r, blkOf (m ++ [wrapF g f]) ⟨m.length, 0, 1, r⟩ = ⟨[], [callW g f], termW g⟩ := fun r => by
    unfold blkOf blkAt
    rw [show (Fr.mk m.length 0 1 r).fn = m.length from rfl, hw]; rfl
  -- the step behind it
  have e3 : ∀ (r : Nat → Int) (t : St), t.cur = ⟨m.length, 0, 1, r⟩ → t.stack = [] → stepS (m ++ [wrapF g f]) t = { t with done := true, value := if 0 ≤ (termW g).arg then r (termW g).arg.toNat else 0 } := by
    intro r t hc1 hs1
    unfold stepS
    rw [hc1, hblk, if_pos (show (Fr.mk m.length 0 1 r).at_ = (BlkD.mk [] [callW g f] (termW g)).ins.length from rfl)]
    unfold endS
    rw [if_pos (show (termW g).kind = 3 from rfl)]
    unfold giveS
    simp only [hs1, hc1]
  obtain ⟨v, hv⟩ : ∃ v, v = (if 0 ≤ kb.term.arg then s.cur.regs kb.term.arg.toNat else 0) := ⟨_, rfl⟩
  rw [e1, e2 v hv, ← hv]
  refine ⟨rfl, ht, h0, ?_⟩
  have fin : ∀ (r : Nat → Int) (t : St), t.cur = ⟨m.length, 0, 1, r⟩ → t.stack = [] → t.trap = 0 → t.mem = s.mem → t.out = s.out → t.steps = s.steps + 1 → (if 0 ≤ (termW g).arg then r (termW g).arg.toNat else 0) = v →
      FarS { s with done := true, value := v } (stepS (m ++ [wrapF g f]) (tickS t)) := by
    intro r t hc1 hs1 ht1 hm1 ho1 hst1 hv1
    rw [e3 r (tickS t) hc1 hs1, hv1]
    refine ⟨rfl, ?_, rfl, hm1, ho1, ?_⟩
    · show t.trap = s.trap; rw [ht1, ht]
    · show t.steps + 1 = s.steps + (if s.trap = 0 then 2 else 1)
      rw [if_pos ht]; omega
  unfold resumeF
  rw [hcall]
  by_cases hz : g.result = 0
  · have hd : ¬ (0 : Int) ≤ (callW g f).dst := by unfold callW; simp only [if_pos hz]; decide
    rw [if_neg hd]
    refine fin (firstR args) _ rfl rfl ht rfl rfl rfl ?_
    have ha : (termW g).arg = -1 := by unfold termW; simp only [if_pos hz]
    rw [ha, if_neg (by decide), hv]
    have hw0 : wantOf g kb.term = 0 := by
      unfold wantOf
      rw [if_neg (by rw [hk]; decide), if_pos hk]; exact hz
    unfold termE at hT
    rw [if_pos hw0] at hT
    have := (ite_zero (by decide) hT).1
    rw [this, if_neg (by decide)]
  · have hd : (callW g f).dst = g.params := by unfold callW; simp only [if_neg hz]
    have ha : (termW g).arg = g.params := by unfold termW; simp only [if_neg hz]
    have h0p := hF.par.1
    rw [hd, if_pos h0p]
    refine fin (upd (firstR args) g.params.toNat v) _ rfl rfl ht rfl rfl rfl ?_
    rw [ha, if_pos h0p]
    unfold upd; rw [if_pos rfl]
theorem args_back {args : List Int} {n : Nat} (h : args.length = n) : argsV (firstR args) ((List.range n).map (fun i : Nat => (i : Int))) = args := by
  unfold argsV
  rw [List.map_map]
  apply List.ext_getElem?
  intro i
  rw [List.getElem?_map]
  by_cases hi : i < n
  · rw [List.getElem?_range hi]
    show some (firstR args (i : Int).toNat) = args[i]?
    rw [Int.toNat_natCast, List.getElem?_eq_getElem (by omega)]
    unfold firstR
    rw [List.getD_eq_getElem?_getD, List.getElem?_eq_getElem (by omega)]; rfl
  · rw [List.getElem?_eq_none (by simp; omega), List.getElem?_eq_none (by omega)]; rfl
theorem starts_ok {m : List FunD} {g : FunD} {f : Nat} {args : List Int} (hP : Proper m) (hg : m[f]? = some g) (ha : (args.length : Int) = g.params) : OkS m (startS f args) := by
  have hF := (proper_ok hP).2 g (List.mem_of_getElem? hg)
  have hb0 : 0 < g.blocks.length := hF.nb.1
  refine ⟨⟨g, g.blocks[0], hg, List.getElem?_eq_getElem hb0, Nat.zero_le _, firstR_zero (by have := hF.par.2.2; omega)⟩, fun c hc => by cases hc⟩
theorem first_step {m : List FunD} {g : FunD} {f : Nat} {args : List Int} (ha : args.length = g.params.toNat) : runS (m ++ [wrapF g f]) m.length args 1 = liftS (frW m.length args) (startS f args) := by
  have hw : (m ++ [wrapF g f]).getD m.length default = wrapF g f := by simp [List.getD_eq_getElem?_getD]
  show loopS (m ++ [wrapF g f]) (0 + 1) (startS m.length args) = _
  rw [loopS_succ]
  show (if (startS m.length args).done = true then startS m.length args else stepS (m ++ [wrapF g f]) (tickS (startS m.length args))) = _
  rw [if_neg (by show ¬ false = true; decide)]
  have hb : blkOf (m ++ [wrapF g f]) (tickS (startS m.length args)).cur = ⟨[], [callW g f], termW g⟩ := by
    unfold blkOf blkAt
    rw [show (tickS (startS m.length args)).cur.fn = m.length from rfl, hw]; rfl
  unfold stepS
  rw [hb, if_neg (by show ¬ (0 : Nat) = 1; decide)]
  show doS _ (callW g f) = _
  unfold doS
  rw [if_neg (by show ¬ (17 : Int) = 1; decide), if_neg (by show ¬ (17 : Int) = 15; decide), if_neg (by show ¬ (17 : Int) = 16; decide), if_neg (by show ¬ (17 : Int) = 18; decide), if_pos (by rfl)]
  show enterS _ (callW g f).fn.toNat (argsV (firstR args) (callW g f).args) = _
  rw [show (callW g f).args = (List.range g.params.toNat).map (fun i : Nat => (i : Int)) from rfl, args_back ha]
  rfl
theorem calls_all {m : List FunD} {g : FunD} {f : Nat} {args : List Int} (hP : Proper m) (hg : m[f]? = some g) (ha : (args.length : Int) = g.params) (k : Nat) :
    OkS m (runS m f args k) ∧ ((runS m f args k).done = false → (runS m f args k).trap = 0 ∧ rootOf (runS m f args k) = some f ∧ runS (m ++ [wrapF g f]) m.length args (k + 1) = liftS (frW m.length args) (runS m f args k)) ∧
    ((runS m f args k).done = true → FarS (runS m f args k) (runS (m ++ [wrapF g f]) m.length args (k + 2))) := by
  induction k with
  | zero => exact ⟨starts_ok hP hg ha, fun _ => ⟨rfl, rfl, first_step (by omega)⟩, (fun h => by cases h)⟩
  | succ k ih =>
    obtain ⟨hok, hgo, hend⟩ := ih
    have es : runS m f args (k + 1) = if (runS m f args k).done then runS m f args k else stepS m (tickS (runS m f args k)) := loopS_succ m k _
    have e2 : ∀ j, runS (m ++ [wrapF g f]) m.length args (j + 1) = if (runS (m ++ [wrapF g f]) m.length args j).done then runS (m ++ [wrapF g f]) m.length args j else stepS (m ++ [wrapF g f]) (tickS (runS (m ++ [wrapF g f]) m.length args j)) := fun j => loopS_succ _ j _
    by_cases hd : (runS m f args k).done = true
    · rw [if_pos hd] at es
      rw [es]
      have hf := hend hd
      refine ⟨hok, (fun h => by rw [hd] at h; cases h), fun _ => ?_⟩
      rw [show k + 1 + 2 = k + 2 + 1 by omega, e2, if_pos hf.1]; exact hf
    · have hd0 : (runS m f args k).done = false := by simpa using hd
      obtain ⟨ht, hr, hl⟩ := hgo hd0
      rw [if_neg hd] at es
      have hokt : OkS m (tickS (runS m f args k)) := ⟨hok.cur, hok.stack⟩
      have ey : runS (m ++ [wrapF g f]) m.length args (k + 2) = stepS (m ++ [wrapF g f]) (liftS (frW m.length args) (tickS (runS m f args k))) := by
        rw [e2 (k + 1), hl, if_neg (by show ¬ (runS m f args k).done = true; exact hd)]; rfl
      rw [es]
      refine ⟨step_ok hP hokt, ?_⟩
      by_cases hls : lastStep m (tickS (runS m f args k))
      · obtain ⟨a1, a2, a3, a4⟩ := last_two (args := args) hP hg hokt hls hr ht hd0
        refine ⟨(fun h => by rw [a1] at h; cases h), fun _ => ?_⟩
        rw [show k + 1 + 2 = k + 2 + 1 by omega, e2, ey, if_neg (by rw [a3]; decide)]
        exact a4
      · rw [step_lift _ hokt hls] at ey
        refine ⟨fun h => ⟨trap_step ht h hd0, (root_step hokt hls).trans hr, ey⟩, fun h => ?_⟩
        have htn := done_step (s := tickS (runS m f args k)) ht hd0 h hls
        rw [show k + 1 + 2 = k + 2 + 1 by omega, e2, ey, if_pos (by exact h)]
        refine ⟨h, rfl, rfl, rfl, rfl, ?_⟩
        rw [if_neg htn]; rfl
/-- What a run of the one that calls puts out begins likewise, where the called one's run has not ended. -/
theorem calls_begins {m : List FunD} {g : FunD} {f : Nat} {args : List Int} (hP : Proper m) (hg : m[f]? = some g) (ha : (args.length : Int) = g.params) {k : Nat} (hd : (runS m f args k).done = false) :
    ∃ r, (runS (m ++ [wrapF g f]) m.length args (k + 2)).out = (runS m f args k).out ++ r := by
  obtain ⟨-, h, -⟩ := calls_all hP hg ha k
  rw [runS_more _ _ _ (k + 1) 1, (h hd).2.2]
  exact loopS_out _ 1 _

/-! ### With it the module is proper -/
theorem typesB_range (R : List Int) : ∀ (l : List Int) (j : Nat), (∀ i, i < l.length → R.getD (j + i) 0 = l.getD i 0) → typesB R ((List.range' j l.length).map (fun i : Nat => (i : Int))) l = true := by
  intro l
  induction l with
  | nil => intro j _; rfl
  | cons t l ih =>
    intro j h
    have h0 := h 0 (by simp)
    rw [List.length_cons, List.range'_succ, List.map_cons]
    unfold typesB
    rw [Bool.and_eq_true]
    refine ⟨decide_eq_true ?_, ih (j + 1) (fun i hi => ?_)⟩
    · unfold reg
      rw [Int.toNat_natCast]
      simpa using h0
    · have h1 := h (i + 1) (by simp; omega)
      rw [show j + (i + 1) = j + 1 + i by omega] at h1
      simpa using h1
theorem insE_app {m : List FunD} {w h : FunD} {x : InsD} (he : insE m h x = 0) : insE (m ++ [w]) h x = 0 := by
  unfold insE at he ⊢
  by_cases h17 : x.op = 17
  · rw [if_pos h17] at he ⊢
    obtain ⟨h1, he⟩ := ite_zero (by decide) he
    have hin := inR_of h1
    have hf : funAt (m ++ [w]) x.fn = funAt m x.fn := app_get (funAt_get hin).1
    have hin2 : isIn (m ++ [w]).length x.fn = true := decide_eq_true ⟨hin.1, by have := hin.2; rw [List.length_append]; omega⟩
    rw [if_pos hin2, hf]
    exact he
  · rw [if_neg h17] at he ⊢; exact he
theorem funE_app {m : List FunD} {w h : FunD} (he : funE m h = 0) : funE (m ++ [w]) h = 0 := by
  rw [funE_zero] at he ⊢
  refine ⟨he.1, fun b hb => ?_⟩
  have h1 := he.2 b hb
  rw [blockE_zero] at h1 ⊢
  exact ⟨h1.1, fun x hx => insE_app (h1.2.1 x hx), h1.2.2⟩
theorem wrap_proper {m : List FunD} {g : FunD} {f : Nat} (hP : Proper m) (hg : m[f]? = some g) (h31 : m.length ≤ 31) : Proper (m ++ [wrapF g f]) := by
  have hgm : g ∈ m := List.mem_of_getElem? hg
  have hall := (proper_iff.1 hP).2
  have hFE := hall g hgm
  have hF := fun_ok hFE
  obtain ⟨p0, p8, pr⟩ := hF.par
  obtain ⟨ho, -⟩ := funE_zero.1 hFE
  obtain ⟨-, h2, -, -⟩ := outer_four ho
  unfold typedB at h2
  rw [Bool.and_eq_true, Bool.and_eq_true] at h2
  have hty := h2.1.1
  have hres := of_decide_eq_true h2.2
  obtain ⟨P, hPn⟩ : ∃ P : Nat, g.params = P := ⟨g.params.toNat, by omega⟩
  have hfl : f < m.length := (List.getElem?_eq_some_iff.1 hg).1
  have htl : (g.regs.take g.params.toNat).length = P := by rw [List.length_take]; omega
  have hwl : (wrapF g f).regs.length = P + (if g.result = 0 then 0 else 1) := by
    show (g.regs.take g.params.toNat ++ _).length = _
    rw [List.length_append, htl]; split <;> rfl
  have hty' : (wrapF g f).regs.all isTy = true := by
    show (g.regs.take g.params.toNat ++ _).all isTy = true
    rw [List.all_append, Bool.and_eq_true]
    refine ⟨List.all_eq_true.2 fun x hx => List.all_eq_true.1 hty x (List.mem_of_mem_take hx), ?_⟩
    split
    · rfl
    · rename_i hz
      simp only [List.all_cons, List.all_nil, Bool.and_true]
      unfold isTy; exact decide_eq_true (by omega)
  have hlow : ∀ i, i < P → (wrapF g f).regs.getD i 0 = (g.regs.take g.params.toNat).getD i 0 := fun i hi => by
    show (g.regs.take g.params.toNat ++ _).getD i 0 = _
    rw [List.getD_eq_getElem?_getD, List.getD_eq_getElem?_getD, List.getElem?_append_left (by omega)]
  have htop : g.result ≠ 0 → reg (wrapF g f).regs g.params = g.result := fun hz => by
    unfold reg
    show (g.regs.take g.params.toNat ++ (if g.result = 0 then [] else [g.result])).getD g.params.toNat 0 = _
    rw [if_neg hz, List.getD_eq_getElem?_getD, List.getElem?_append_right (by omega), htl]
    simp [hPn]
  rw [proper_iff]
  refine ⟨by rw [List.length_append]; simp; omega, fun h hh => ?_⟩
  rcases List.mem_append.1 hh with hh | hh
  · exact funE_app (hall h hh)
  obtain rfl := List.mem_singleton.1 hh
  rw [funE_zero]
  refine ⟨?_, fun b hb => ?_⟩
  · unfold outerE
    have hw1 : withinB (wrapF g f) = true := by
      unfold withinB
      refine decide_eq_true ⟨Nat.le_refl _, by show 1 ≤ 64; omega, ?_, ?_⟩
      · rw [hwl]; split <;> omega
      · show 1 + itemsK [⟨[], [callW g f], termW g⟩] ≤ 256
        show 1 + (0 + 1 + 0) ≤ 256
        omega
    have hw2 : typedB (wrapF g f) = true := by
      unfold typedB
      rw [Bool.and_eq_true, Bool.and_eq_true]
      refine ⟨⟨hty', decide_eq_true ⟨p0, p8, ?_⟩⟩, h2.2⟩
      show g.params ≤ ((wrapF g f).regs.length : Int)
      rw [hwl]; split <;> omega
    rw [if_pos hw1, if_pos hw2, if_pos (by rfl)]
  · obtain rfl := List.mem_singleton.1 hb
    rw [blockE_zero]
    refine ⟨(fun p hp => by cases hp), fun x hx => ?_, ?_⟩
    · obtain rfl := List.mem_singleton.1 hx
      unfold insE
      have hfa : funAt (m ++ [wrapF g f]) (callW g f).fn = g := by
        show (m ++ [wrapF g f]).getD ((f : Int)).toNat default = g
        rw [Int.toNat_natCast, app_get hg, getD_of hg]
      have hob : oddB g = false := by unfold oddB; rw [decide_eq_false]; omega
      have hal : (callW g f).args.length = P := by show ((List.range g.params.toNat).map _).length = P; simp; omega
      have hin2 : isIn (m ++ [wrapF g f]).length (callW g f).fn = true := decide_eq_true ⟨by show (0 : Int) ≤ (f : Int); omega, by show (f : Int) < _; rw [List.length_append]; omega⟩
      rw [if_pos (show (callW g f).op = 17 from rfl), if_pos hin2, hfa, if_pos (by rw [hal, hPn]), hob]
      simp only [Bool.false_eq_true, if_false]
      unfold restE
      have ha1 : areAtB (callW g f).args ((wrapF g f).regs.length : Int) = true := by
        unfold areAtB
        refine List.all_eq_true.2 fun a ha => ?_
        obtain ⟨i, hi, rfl⟩ := List.mem_map.1 ha
        have := List.mem_range.1 hi
        refine decide_eq_true ⟨by omega, ?_⟩
        rw [hwl]; split <;> omega
      have ha2 : (decide (g.result = 0) || isIn (wrapF g f).regs.length (callW g f).dst) = true := by
        by_cases hz : g.result = 0
        · rw [decide_eq_true hz]; rfl
        · rw [Bool.or_eq_true]
          refine .inr (decide_eq_true ?_)
          show 0 ≤ (if g.result = 0 then -1 else g.params) ∧ (if g.result = 0 then -1 else g.params) < _
          rw [if_neg hz, hwl, if_neg hz]; omega
      have ha3 : typesB (wrapF g f).regs (callW g f).args (g.regs.take g.params.toNat) = true := by
        have h := typesB_range (wrapF g f).regs (g.regs.take g.params.toNat) 0 (fun i hi => by rw [Nat.zero_add]; exact hlow i (by omega))
        rw [htl] at h
        show typesB _ ((List.range g.params.toNat).map (fun i : Nat => (i : Int))) _ = true
        rw [List.range_eq_range', show g.params.toNat = P by omega]
        rw [show g.params.toNat = P by omega] at h
        exact h
      have ha4 : (if g.result = 0 then decide ((callW g f).dst = -1) else decide (0 < g.result ∧ reg (wrapF g f).regs (callW g f).dst = g.result)) = true := by
        by_cases hz : g.result = 0
        · rw [if_pos hz]
          refine decide_eq_true ?_
          show (if g.result = 0 then -1 else g.params) = -1
          rw [if_pos hz]
        · rw [if_neg hz]
          refine decide_eq_true ⟨by omega, ?_⟩
          show reg (wrapF g f).regs (if g.result = 0 then -1 else g.params) = _
          rw [if_neg hz]; exact htop hz
      rw [ha1, ha2, ha3, ha4]
      rfl
    · unfold termE
      have hwt : wantOf (wrapF g f) (termW g) = g.result := rfl
      show (if wantOf (wrapF g f) (termW g) = 0 then (if (termW g).arg = -1 then 0 else 3) else if 0 ≤ (termW g).arg ∧ (termW g).arg < _ then (if reg _ (termW g).arg = wantOf (wrapF g f) (termW g) then 0 else 3) else (4 : Int)) = 0
      rw [hwt]
      by_cases hz : g.result = 0
      · have ha : (termW g).arg = -1 := by unfold termW; simp only [if_pos hz]
        rw [if_pos hz, if_pos ha]
      · have ha : (termW g).arg = g.params := by unfold termW; simp only [if_neg hz]
        rw [if_neg hz, ha, if_pos ⟨p0, by rw [hwl, if_neg hz]; omega⟩, if_pos (htop hz)]
theorem wrap_takes {m : List FunD} {g : FunD} {f : Nat} {args : List Int} (h : takesB g args = true) (hg : m[f]? = some g) (hp : 0 ≤ g.params ∧ g.params ≤ g.regs.length) : takesB (funAt (m ++ [wrapF g f]) m.length) args = true := by
  have hw : funAt (m ++ [wrapF g f]) m.length = wrapF g f := by unfold funAt; rw [Int.toNat_natCast]; simp [List.getD_eq_getElem?_getD]
  rw [hw]
  unfold takesB at h ⊢
  rw [Bool.and_eq_true] at h ⊢
  refine ⟨h.1, ?_⟩
  have hl := of_decide_eq_true h.1
  have e : (wrapF g f).regs.zip args = g.regs.zip args := by
    show (g.regs.take g.params.toNat ++ _).zip args = _
    have htl : (g.regs.take g.params.toNat).length = args.length := by rw [List.length_take]; omega
    rw [show args = args ++ [] by simp, List.zip_append htl, List.zip_nil_right, List.append_nil, List.append_nil]
    conv => rhs; rw [← List.take_append_drop g.params.toNat g.regs, show args = args ++ [] by simp, List.zip_append htl, List.zip_nil_right, List.append_nil]
  rw [e]; exact h.2
end Go.Proofs.Ytoidhjmhakajlaa
