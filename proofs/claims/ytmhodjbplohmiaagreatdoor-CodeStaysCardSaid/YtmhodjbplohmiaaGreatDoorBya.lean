/- Bytes that came in as an argument; bytes appended to bytes. -/
import Derived.Test.YtmhodjbplohmiaaGreatDoorUp3
import Derived.Test.YtmhodjbplohmiaaGreatDoorOpenM
namespace Go.Proofs.YtmhodjbplohmiaaGreatDoor
open Go.ChangeShapes Go.WideShapes Go.RowKit Go.Deep
set_option linter.unusedVariables false

def VBytes (w : World) (v : Value) (l : List UInt8) : Prop := VS w 1 RByte v l
theorem Tryz.cells5 : Tryz.prog.cellsOf 5 = 1 := by kernel_rfl
theorem wf_byte {x : Int} (h : (Lit.int .u8 x).wf = true) : x = (UInt8.ofNat x.toNat).toNat := by
  have h' := h
  simp only [Lit.wf, Bool.and_eq_true, decide_eq_true_eq] at h'
  have hmin : IntKind.u8.min = 0 := rfl
  have hmax : IntKind.u8.max = 255 := rfl
  rw [byte_of (by omega)]
  omega
section
variable {H : Type} {enc : TypeId × Value → H} {w : World} {base : Nat} {spare : Nat → Bool} {held : Bool}
set_option maxRecDepth 100000 in
theorem opens_byte : Opens enc Tryz.prog w base spare held 5 1 RByte := fun n b o cs y hlen hat h => by
  obtain ⟨x, rfl, _, hw⟩ := DataW.trod_int Tryz.underlying5 h
  refine ⟨UInt8.ofNat x.toNat, ?_⟩
  unfold RByte bv
  rw [← wf_byte hw]
  exact (hat 0 (by omega)).trans rfl
set_option maxRecDepth 100000 in
theorem open_bytesV {r : Reach} {b0 : Nat} {v : Value} {d : DataW H} {p : List MemPlace} (hv : Value.okWide Tryz.prog w r b0 27 v) (h : DataW.Trod enc Tryz.prog w base spare held 27 v d p) : ∃ l, VBytes w v l := by
  obtain ⟨a, len, cap, rfl⟩ := okWide_slice Tryz.underlying27 hv
  obtain ⟨fuel, hf⟩ := h
  exact open_vs Tryz.underlying27 Tryz.cells5 (by omega) opens_byte hf
end
theorem VBytes.keep {w w' : World} (h : Kept w w') {v : Value} {l : List UInt8} (hv : VBytes w v l) : VBytes w' v l := VS.keep h (fun b o x hx => h _ _ hx) hv

/-- append(x, y...), of bytes. -/
theorem run_append_bytes (ty : TypeId) {w : World} {base : Nat} {v : Value} {xs ys : List UInt8} {A : Option Addr} {c : Nat} (hown : w.ownsRow base 5 1 v xs.length (xs.map bv)) (hsl : SL w 1 RByte A c ys) (hb : base ≤ w.heap.size) (hn : xs.length + ys.length ≤ 140737488355328) :
    ∃ v' w', (Builtin.append_ #[27, 27] ty #[v, .slice A ys.length c]).run Tryz.prog w = .ok v' w' ∧ w'.ownsRow base 5 1 v' (xs ++ ys).length ((xs ++ ys).map bv) ∧ w.grownBy w' v.ownBlock ∧ (v'.ownBlock = v.ownBlock ∨ v'.ownBlock = some w.heap.size) := by
  obtain ⟨i0, hi, hz0, hz1, hz2⟩ := info_parts Tryz.info5
  cases A with
  | none =>
    obtain rfl : c = 0 := hsl.2.1.2 rfl
    obtain rfl : ys = [] := List.length_eq_zero_iff.1 (by have := hsl.1; omega)
    exact ⟨v, w, run_append_owned_none (P := Tryz.prog) (w := w) base 27 ty 5 i0 1 Tryz.underlying27 hi v _ _ hown, by rw [List.append_nil]; exact hown, ⟨rfl, rfl, rfl, Nat.le_refl _, fun _ _ _ => rfl⟩, .inl rfl⟩
  | some ad =>
    have hnews : ∀ j u, (ys.map bv)[j]? = some u → w.cell? (ad.add j) = some u := by
      intro j u hu
      rw [List.getElem?_map] at hu
      obtain ⟨x, hx, rfl⟩ := Option.map_eq_some_iff.1 hu
      obtain ⟨_, _, h3⟩ := hsl
      obtain ⟨b, o, e, hr⟩ := h3 (by have := (List.getElem?_eq_some_iff.1 hx).1; omega)
      obtain rfl := Option.some.inj e
      have := hr j x hx
      rw [Nat.mul_one] at this
      rwa [add_plain']
    obtain ⟨v', w', hr, h2, h3, _, hat⟩ := run_append_own_at (P := Tryz.prog) w base 27 ty 5 i0 (.int .u8 0) 1 1 Tryz.underlying27 hi hz0 hz1 hz2 rfl (by decide) v xs.length (xs.map bv) hown ad ys.length c (ys.map bv) (by simp) hnews
      (fun u hu => by obtain ⟨x, _, rfl⟩ := List.mem_map.1 hu; rfl) (by unfold maxLen; omega) (by omega) hb
    exact ⟨v', w', hr, by rw [List.length_append, List.map_append]; exact h2, h3, hat⟩
theorem wpList_append_bytes {ops : Array Oper} {rest : List Oper} {o : Oper} {a : Act} {w : World} {Q : Exit → Act → World → Prop} (hgd : o.guard = none) (s x : Operand)
    (ho : o.op = .call { callee := .builtin .append, args := #[s, x], argTypes := #[27, 27] }) (base : Nat) (v : Value) (xs ys : List UInt8) (A : Option Addr) (len c : Nat) (hs : a.eval s = v) (hx : a.eval x = .slice A len c)
    (hown : w.ownsRow base 5 1 v xs.length (xs.map bv)) (hsl : SL w 1 RByte A c ys) (hlen : len = ys.length) (hb : base ≤ w.heap.size) (hn : xs.length + ys.length ≤ 140737488355328)
    (h : ∀ v' w', w'.ownsRow base 5 1 v' (xs ++ ys).length ((xs ++ ys).map bv) → w.grownBy w' v.ownBlock → (v'.ownBlock = v.ownBlock ∨ v'.ownBlock = some w.heap.size) → wpList Tryz.prog ops Q rest (a.put o.dst v') w') : wpList Tryz.prog ops Q (o :: rest) a w := by
  subst hlen
  refine wpList_plain hgd fun K hK => ?_
  obtain ⟨v', w', hr, h2, h3, h4⟩ := run_append_bytes o.type hown hsl hb hn
  unfold Oper.wp execOp
  simp only [ho, resolve, invoke, builtin, Sem.run_bind, Sem.run_pure, Result.andThen_ok, List.map_toArray, List.map_cons, List.map_nil, hs, hx, hr]
  exact hK _ _ (h v' w' h2 h3 h4)

/-! ### What is told of a module's bytes -/
/-- All that is amiss has one of two numbers. -/
def Errs {α : Type} (p : Pr α) : Prop := ∀ l e, p l = .error e → e.1 = 2 ∨ e.1 = 5
theorem errs_any : Errs anyP := fun l e h => by
  unfold anyP at h
  split at h
  · cases h; exact .inl rfl
  · cases h
theorem errs_num : Errs numP := fun l e h => by
  unfold numP at h
  split at h
  · rename_i e' he; cases h; exact errs_any _ _ he
  · split at h
    · cases h; exact .inl rfl
    · cases h
theorem errs_many (lim : Nat) : Errs (manyP lim) := fun l e h => by
  unfold manyP at h
  split at h
  · rename_i e' he; cases h; exact errs_num _ _ he
  · split at h
    · cases h; exact .inr rfl
    · cases h
theorem errs_ret {α : Type} (x : α) : Errs (retP x) := fun l e h => by cases h
theorem errs_and {α β : Type} {p : Pr α} {q : α → Pr β} (hp : Errs p) (hq : ∀ x, Errs (q x)) : Errs (andP p q) := fun l e h => by
  unfold andP at h
  split at h
  · rename_i e' he; cases h; exact hp _ _ he
  · exact hq _ _ _ h
theorem errs_rep {α : Type} {p : Pr α} (hp : Errs p) : ∀ n, Errs (repP p n)
  | 0 => errs_ret _
  | n + 1 => errs_and hp (fun _ => errs_and (errs_rep hp n) (fun _ => errs_ret _))
theorem errs_list {α : Type} {p : Pr α} (hp : Errs p) (lim : Nat) : Errs (listP p lim) := errs_and (errs_many lim) (fun _ => errs_rep hp _)
theorem errs_ints : Errs intsP := errs_list errs_num _
theorem errs_phi : Errs phiP := errs_and errs_num (fun _ => errs_and errs_ints (fun _ => errs_ret _))
theorem errs_ins : Errs insP := errs_and errs_num (fun _ => errs_and errs_num (fun _ => errs_and errs_ints (fun _ => errs_and errs_any (fun _ => errs_and errs_num (fun _ => errs_ret _)))))
theorem errs_term : Errs termP := errs_and errs_num (fun _ => errs_and errs_num (fun _ => errs_and errs_ints (fun _ => errs_ret _)))
theorem errs_blk : Errs blkP := errs_and (errs_list errs_phi _) (fun _ => errs_and (errs_list errs_ins _) (fun _ => errs_and errs_term (fun _ => errs_ret _)))
theorem errs_fun : Errs funP := errs_and errs_num (fun _ => errs_and errs_num (fun _ => errs_and errs_ints (fun _ => errs_and (errs_list errs_blk _) (fun _ => errs_ret _))))
theorem read_err {l : List UInt8} {e : Int × Nat} (h : readP l = .error e) : e.1 = 2 ∨ e.1 = 5 := by
  unfold readP at h
  split at h
  · split at h
    · rename_i e' he; cases h; exact errs_list errs_fun _ _ _ he
    · split at h
      · cases h
      · cases h; exact .inl rfl
  · cases h; exact .inl rfl
theorem dec_of_mod {m : List FunD} (h : okMod m) (hp : (modE m).1 = 0) : decE (modB m) = modE m ∧ decM (modB m) = m := by
  unfold decE decM
  rw [read_mod h]
  exact ⟨rfl, if_pos hp⟩
theorem dec_ok {l : List UInt8} (h : (decE l).1 = 0) : ∃ m, readP l = .ok m ∧ okMod m ∧ l = modB m ∧ (modE m).1 = 0 ∧ decM l = m := by
  unfold decE at h
  cases hr : readP l with
  | error e =>
    rw [hr] at h
    exfalso
    have h : e.1 = 0 := h
    have := read_err hr
    omega
  | ok m =>
    rw [hr] at h
    obtain ⟨h1, h2⟩ := read_back hr
    exact ⟨m, rfl, h2, h1, h, by unfold decM; rw [hr]; exact if_pos h⟩
end Go.Proofs.YtmhodjbplohmiaaGreatDoor
