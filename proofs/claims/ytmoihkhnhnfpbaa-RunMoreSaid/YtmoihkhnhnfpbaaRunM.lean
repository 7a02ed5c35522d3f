/- The walk of RunMore. -/
import Derived.Test.YtmoihkhnhnfpbaaRunU
namespace Go.Proofs.Ytmoihkhnhnfpbaa
open Go.ChangeShapes Go.WideShapes Go.RowKit Go.Deep
set_option linter.unusedVariables false

/-- A run, told for a caller. -/
def ToldR (m : List FunD) (f : Int) (args : List Int) (steps : Int) (w : World) (e : Ending) (w' : World) : Prop :=
  ∃ s A c err, e = .returned (.tuple #[.agg (outC s (.slice A s.out.length c)), err]) ∧ Below w.heap.size w w' ∧ SL w' 1 RW A c s.out ∧
    ((∃ t x, err = .iface t x) ∧ ¬ (Proper m ∧ mayB m f args steps = true) ∨ err = .nilIface ∧ Proper m ∧ mayB m f args steps = true ∧ s = runS m f.toNat args steps.toNat)
theorem run_told {m : List FunD} {f : Int} {args : List Int} {steps : Int} {w : World} {e : Ending} {w' : World} (h : ToldRun m f args steps w e w') : ToldR m f args steps w e w' := by
  obtain ⟨o, err, rfl, hb, ⟨hp, he, rfl⟩ | ⟨hp, hm, rfl, rfl⟩ | ⟨hp, hm, rfl, A, c, rfl, hs⟩⟩ := h
  · exact ⟨zeroS, none, 0, err, rfl, hb, SL.nil, .inl ⟨he.iface hp, fun h => hp h.1⟩⟩
  · exact ⟨zeroS, none, 0, _, rfl, hb, SL.nil, .inl ⟨⟨_, _, rfl⟩, fun h => by rw [hm] at h; cases h.2⟩⟩
  · exact ⟨_, A, c, _, rfl, hb, SL.imp (fun b o x hx => hx.2) hs, .inr ⟨rfl, hp, hm, rfl⟩⟩
/-- An outcome in a block of its own. -/
def OutAt (w : World) (g : Nat) (s : St) (A : Option Addr) (c : Nat) : Prop :=
  (∀ i, i < 69 → w.cell? ⟨g, i, none⟩ = some (cellM s ⟨.slice none 0 0, .slice none 0 0, .slice none 0 0, .slice none 0 0, .slice A s.out.length c⟩ (263 + i))) ∧ SL w 1 RW A c s.out
theorem OutAt.keep {w w' : World} {g : Nat} {s : St} {A : Option Addr} {c : Nat} (h : OutAt w g s A c) (hk : Kept w w') : OutAt w' g s A c :=
  ⟨fun i hi => hk _ _ (h.1 i hi), SL.keep hk (fun b o x hx => hk _ _ hx) h.2⟩
theorem OutAt.new {w w' : World} {s : St} {A : Option Addr} {c : Nat} (hw : w' = w.alloc (.cells (outC s (.slice A s.out.length c)) 31)) (h : SL w 1 RW A c s.out) : OutAt w' w.heap.size s A c := by
  subst hw
  have hk : Kept w (w.alloc (.cells (outC s (.slice A s.out.length c)) 31)) := kept_of_below ((Below.refl w.heap.size w).alloc (Nat.le_refl _) _)
  exact ⟨fun i hi => (cell_of_block (heap_alloc_new w _) i).trans (outC_get s ⟨_, _, _, _, _⟩ hi), SL.keep hk (fun b o x hx => hk _ _ hx) h⟩
theorem OutAt.load {w : World} {g : Nat} {s : St} {A : Option Addr} {c : Nat} (h : OutAt w g s A c) :
    (Instr.loadAt 31 (.pointer (some ⟨g, 0, none⟩))).run Try.prog w = .ok (.agg (outC s (.slice A s.out.length c))) w := by
  have hl := run_loadCells_list (P := Try.prog) (w := w) ⟨g, 0, none⟩ (outC s (.slice A s.out.length c)).toList (fun j v hv => by
    rw [add_plain']
    have hj : j < 69 := by have := (List.getElem?_eq_some_iff.1 hv).1; rwa [Array.length_toList, outC_size] at this
    rw [Array.getElem?_toList] at hv
    rw [Nat.zero_add, h.1 j hj, ← hv]
    exact (outC_get s ⟨_, _, _, _, _⟩ hj).symm)
  rw [Array.length_toList, outC_size, Array.toArray_toList] at hl
  have hagg : (isAgg 31).run Try.prog w = .ok true w := by
    unfold isAgg
    rw [Sem.run_bind, run_underlying Try.underlying31 w]
    rfl
  have hsz : (sizeOf 31).run Try.prog w = .ok 69 w := by
    have := out_size
    cases hq : Try.prog.info? 31 with
    | none => simp [hq] at this
    | some i => simp [hq] at this; simp [sizeOf, typeInfo, hq, this]
  simp only [Instr.loadAt, Instr.sureAddr, loadVar, Sem.run_bind, Sem.run_pure, Result.andThen_ok, hagg, hsz, hl, if_true]
theorem OutAt.cells {w : World} {g : Nat} {s : St} {A : Option Addr} {c : Nat} (h : OutAt w g s A c) :
    w.cell? ⟨g, 0, none⟩ = some (.bool s.done) ∧ w.cell? ⟨g, 3, none⟩ = some (.slice A s.out.length c) ∧ w.cell? ⟨g, 4, none⟩ = some (.int .i64 s.steps) :=
  ⟨h.1 0 (by omega), h.1 3 (by omega), h.1 4 (by omega)⟩
theorem begins_app (a r : List Int) : beginsB a (a ++ r) = true := by
  unfold beginsB
  simp
theorem same_refl (s : St) : sameS s s = true := by unfold sameS; simp
theorem same_none (m : List FunD) (f : Nat) (args : List Int) : sameS (runS m f args 0) zeroS = true := by
  unfold sameS
  exact decide_eq_true ⟨rfl, rfl, rfl, rfl, rfl, rfl⟩
/-- What more steps make of a run. -/
theorem more_facts (m : List FunD) (f : Nat) (args : List Int) (k n : Nat) :
    (runS m f args k).steps ≤ k ∧ (runS m f args k).steps ≤ (runS m f args (k + n)).steps ∧ ((runS m f args k).done = true → runS m f args (k + n) = runS m f args k) ∧
    ((runS m f args k).done = false → (runS m f args k).steps = k) ∧ ∃ r, (runS m f args (k + n)).out = (runS m f args k).out ++ r := by
  have h0 : (startS f args).steps = 0 := rfl
  obtain ⟨a1, a2, a3⟩ := loopS_steps m k (startS f args)
  rw [runS_more]
  obtain ⟨b1, b2, b3⟩ := loopS_steps m n (runS m f args k)
  refine ⟨?_, b1, fun h => loopS_done h, fun h => ?_, loopS_out m n _⟩
  · show (loopS m k (startS f args)).steps ≤ k; omega
  · have := a3 h; show (loopS m k (startS f args)).steps = k; omega
end Go.Proofs.Ytmoihkhnhnfpbaa
