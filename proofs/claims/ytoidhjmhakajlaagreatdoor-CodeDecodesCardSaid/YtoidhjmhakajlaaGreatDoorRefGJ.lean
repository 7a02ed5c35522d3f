/- The reference's Instr: what is amiss with an instruction, as the reference tells it. -/
import Derived.Test.YtoidhjmhakajlaaGreatDoorRefFJ
import Derived.Deep.DeepCutAuto
namespace Go.Proofs.YtoidhjmhakajlaaGreatDoor
open Go.ChangeShapes Go.WideShapes Go.RowKit Go.Deep
set_option linter.unusedVariables false

def oddF (o : Bool) (l : List Int) : Bool := o || l.any fun t => decide (t < 0)
def tsF : Bool → List Int → List Int
  | _, [] => []
  | o, t :: l => (if o then -1 else t) :: tsF (o || decide (t < 0)) l
theorem tsF_snoc (o : Bool) (l : List Int) (t : Int) : tsF o (l ++ [t]) = tsF o l ++ [if oddF o l then -1 else t] := by
  induction l generalizing o with
  | nil => simp [tsF, oddF]
  | cons a l ih => simp only [List.cons_append, tsF, ih]; simp [oddF, Bool.or_assoc]
theorem tsF_len (o : Bool) (l : List Int) : (tsF o l).length = l.length := by
  induction l generalizing o with
  | nil => rfl
  | cons a l ih => simp [tsF, ih]
theorem tsF_step {o : Bool} {P : List Int} {j : Nat} {p : Int} (h : P[j]? = some p) : tsF o (P.take (j + 1)) = tsF o (P.take j) ++ [if oddF o (P.take j) then -1 else p] := by rw [take_succ_of h, tsF_snoc]
theorem oddF_step {o : Bool} {P : List Int} {j : Nat} {p : Int} (h : P[j]? = some p) : oddF o (P.take (j + 1)) = (oddF o (P.take j) || decide (p < 0)) := by
  rw [take_succ_of h]; unfold oddF; simp [Bool.or_assoc]

def callP (g : FunD) : List Int := if oddB g then List.replicate g.params.toNat 0 else g.regs.take g.params.toNat
def foldB (regs : List Int) (l : List (Int × Int)) : Int := l.foldl (fun b p => worstE b (isE regs p.1 p.2)) 0
theorem foldB_step {regs : List Int} {l : List (Int × Int)} {j : Nat} {a t : Int} (h : l[j]? = some (a, t)) : foldB regs (l.take (j + 1)) = worstE (foldB regs (l.take j)) (isE regs a t) := by
  unfold foldB; rw [take_succ_of h, List.foldl_append]; rfl
def b1R (f : FunD) (dst d b0 : Int) : Int := if d = 0 then (if dst = -1 then b0 else worstE b0 3) else if d < 0 then worstE b0 (worstE (isE f.regs dst (-1)) 3) else worstE b0 (isE f.regs dst d)
def wrongB (x : InsD) (odd : Bool) : Bool := ((x.op != 1) && (x.imm != 0)) || ((x.op != 17) && (x.fn != 0)) || odd
def b2R (x : InsD) (odd : Bool) (b1 : Int) : Int := if wrongB x odd then worstE b1 3 else b1
def b3R (f : FunD) (x : InsD) (b2 : Int) : Int := if x.op = 1 ∧ b2 = 0 ∧ reg f.regs x.dst = 2 ∧ x.imm ≠ 0 ∧ x.imm ≠ 1 then 3 else b2
def restR (f : FunD) (x : InsD) (ts : List Int) (d : Int) (odd : Bool) : Int := b3R f x (b2R x odd (b1R f x.dst d (foldB f.regs (x.args.zip ts))))
def tailR (f : FunD) (x : InsD) (ts : List Int) (d : Int) (ok odd : Bool) : Int := if ok then (if x.args.length = ts.length then restR f x ts d odd else 6) else 6
def insR (m : List FunD) (f : FunD) (x : InsD) : Int :=
  if x.op = 17 then
    (if isIn m.length x.fn then (if (x.args.length : Int) = (funAt m x.fn).params then tailR f x (tsF (oddB (funAt m x.fn)) (callP (funAt m x.fn))) (funAt m x.fn).result true (oddF (oddB (funAt m x.fn)) (callP (funAt m x.fn))) else 6) else 4)
  else tailR f x (kL f x) (kD f x) (kO f x) false

theorem worstE_zero {a b : Int} (h : worstE a b = 0) : a = 0 ∧ b = 0 := by
  unfold worstE at h
  split at h
  · omega
  · split at h <;> omega
theorem isE_in {regs : List Int} {r t : Int} (h : isE regs r t = 0) : isIn regs.length r = true := by
  unfold isE at h
  split at h
  · exact decide_eq_true ‹_›
  · omega
theorem b1_in {f : FunD} {dst d b0 : Int} (hd : 0 < d) (h : b1R f dst d b0 = 0) : isIn f.regs.length dst = true := by
  unfold b1R at h
  rw [if_neg (by omega), if_neg (by omega)] at h
  exact isE_in (worstE_zero h).2
theorem b2_zero {x : InsD} {odd : Bool} {b1 : Int} (h : b2R x odd b1 = 0) : b1 = 0 := by
  unfold b2R at h
  split at h
  · exact (worstE_zero h).1
  · exact h
theorem reg_ty {regs : List Int} (h : ∀ t ∈ regs, t = 1 ∨ t = 2) (r : Int) : reg regs r = 0 ∨ reg regs r = 1 ∨ reg regs r = 2 := by
  unfold reg
  rw [List.getD_eq_getElem?_getD]
  cases hr : regs[r.toNat]? with
  | none => exact .inl rfl
  | some t => exact .inr (h t (List.mem_of_getElem? hr))
theorem reg_ty' {regs : List Int} (h : ∀ t ∈ regs, t = 1 ∨ t = 2) {r : Int} (hr : isIn regs.length r = true) : reg regs r = 1 ∨ reg regs r = 2 := by
  have hr := of_decide_eq_true hr
  have hl : r.toNat < regs.length := by omega
  unfold reg
  rw [List.getD_eq_getElem?_getD, List.getElem?_eq_getElem hl]
  exact h _ (List.getElem_mem hl)
theorem dstT_ty {f : FunD} (h : ∀ t ∈ f.regs, t = 1 ∨ t = 2) (x : InsD) : dstT f x = 1 ∨ dstT f x = 2 := by
  unfold dstT
  split
  · exact reg_ty' h ‹_›
  · exact .inl rfl
theorem kD_ty {f : FunD} (h : ∀ t ∈ f.regs, t = 1 ∨ t = 2) (x : InsD) : kD f x = 0 ∨ kD f x = 1 ∨ kD f x = 2 := by
  have hd := dstT_ty h x
  unfold kD sigOf
  repeat' split
  all_goals simp
  all_goals omega
theorem kD_i64 {f : FunD} (h : ∀ t ∈ f.regs, t = 1 ∨ t = 2) {x : InsD} : I64 (kD f x) := by
  have := kD_ty h x; unfold I64; omega
theorem kD_pos {f : FunD} (h : ∀ t ∈ f.regs, t = 1 ∨ t = 2) {op dst imm fn : Int} {args : List Int} : op = 1 → kO f ⟨op, dst, args, imm, fn⟩ = true → 0 < kD f ⟨op, dst, args, imm, fn⟩ := fun h1 _ => by
  have hd := dstT_ty h ⟨op, dst, args, imm, fn⟩
  subst h1
  have : kD f ⟨1, dst, args, imm, fn⟩ = dstT f ⟨1, dst, args, imm, fn⟩ := by unfold kD sigOf; simp
  rw [this]; omega

end Go.Proofs.YtoidhjmhakajlaaGreatDoor
