/- The walk of RunCalls. -/
import Derived.Test.YtoidhjmhakajlaaRunC
import Derived.Test.YtoidhjmhakajlaaRunM
import Derived.Test.YtoidhjmhakajlaaSmall
import Derived.Test.YtoidhjmhakajlaaCopyR
import Derived.Deep.RegionHeld
import Derived.Deep.MidRow
namespace Go.Proofs.Ytoidhjmhakajlaa
open Go.ChangeShapes Go.WideShapes Go.RowKit Go.Deep
set_option linter.unusedVariables false
set_option linter.unusedSimpArgs false

theorem step_append_run {P : Program} {ops : Array Oper} {o : Oper} {a : Act} {w : World} {K : Act → World → Prop} {Q : Exit → Act → World → Prop} {E : Prop} (hgd : o.guard = none) (d s : Operand) (t t' : TypeId)
    (ho : o.op = .call { callee := .builtin .append, args := #[d, s], argTypes := #[t, t'] }) (v u : Value) (hd : a.eval d = v) (hs : a.eval s = u) {v' : Value} {w' : World}
    (hr : (Builtin.append_ #[t, t'] o.type #[v, u]).run P w = .ok v' w') (h : K (a.put o.dst v') w') : if Region.wanted o (yielded ops a.tmps) = true then Oper.wp P o a w K Q else E := by
  have hw : Region.wanted o (yielded ops a.tmps) = true := by simp [Region.wanted, hgd]
  rw [if_pos hw]
  unfold Oper.wp execOp
  simp only [ho, resolve, invoke, builtin, Sem.run_bind, Sem.run_pure, Result.andThen_ok, List.map_toArray, List.map_cons, List.map_nil, hd, hs, hr]
  exact h
theorem rc_i64 {w : World} {A : Option Addr} {c : Nat} {xs : List Int} (h : SL w 1 RInt A c xs) : ∀ x ∈ xs, I64 x := fun x hx => by
  obtain ⟨i, hi⟩ := List.getElem?_of_mem hx
  obtain ⟨_, _, h3⟩ := h
  obtain ⟨b, o, e, hr⟩ := h3 (by have := (List.getElem?_eq_some_iff.1 hi).1; omega)
  exact (hr i x hi).2
/-- append(x, y...), of ints. -/
theorem run_append_ints (ty : TypeId) {w : World} {base : Nat} {v : Value} {xs ys : List Int} {A : Option Addr} {c : Nat} (hown : w.ownsRow base 3 1 v xs.length (xs.map (Value.int .i64))) (hsl : SL w 1 RW A c ys) (hb : base ≤ w.heap.size) (hn : xs.length + ys.length ≤ 17592186044416) :
    ∃ v' w', (Builtin.append_ #[36, 36] ty #[v, .slice A ys.length c]).run Try.prog w = .ok v' w' ∧ w'.ownsRow base 3 1 v' (xs ++ ys).length ((xs ++ ys).map (Value.int .i64)) ∧ w.grownBy w' v.ownBlock ∧ (v'.ownBlock = v.ownBlock ∨ v'.ownBlock = some w.heap.size) := by
  obtain ⟨i0, hi, hz0, hz1, hz2⟩ := info_parts Try.info3
  cases A with
  | none =>
    obtain rfl : c = 0 := hsl.2.1.2 rfl
    obtain rfl : ys = [] := List.length_eq_zero_iff.1 (by have := hsl.1; omega)
    exact ⟨v, w, run_append_owned_none (P := Try.prog) (w := w) base 36 ty 3 i0 1 Try.underlying36 hi v _ _ hown, by rw [List.append_nil]; exact hown, ⟨rfl, rfl, rfl, Nat.le_refl _, fun _ _ _ => rfl⟩, .inl rfl⟩
  | some ad =>
    have hnews : ∀ j u, (ys.map (Value.int .i64))[j]? = some u → w.cell? (ad.add j) = some u := by
      intro j u hu
      rw [List.getElem?_map] at hu
      obtain ⟨x, hx, rfl⟩ := Option.map_eq_some_iff.1 hu
      obtain ⟨_, _, h3⟩ := hsl
      obtain ⟨b, o, e, hr⟩ := h3 (by have := (List.getElem?_eq_some_iff.1 hx).1; omega)
      obtain rfl := Option.some.inj e
      have := hr j x hx
      rw [Nat.mul_one] at this
      rwa [add_plain']
    obtain ⟨v', w', hr, h2, h3, _, hat⟩ := run_append_own_at (P := Try.prog) w base 36 ty 3 i0 (.int .i64 0) 1 8 Try.underlying36 hi hz0 hz1 hz2 rfl (by decide) v xs.length (xs.map (Value.int .i64)) hown ad ys.length c (ys.map (Value.int .i64)) (by simp) hnews
      (fun u hu => by obtain ⟨x, _, rfl⟩ := List.mem_map.1 hu; rfl) (by unfold maxLen; omega) (by omega) hb
    exact ⟨v', w', hr, by rw [List.length_append, List.map_append]; exact h2, h3, hat⟩
theorem rc_few {s : Int} (h : fewZ s < 1048577) : fewZ s ≤ 1000 := by
  by_cases hc : 1000 < s ∧ s ≤ 1048576
  · unfold fewZ; rw [if_pos hc]; omega
  · unfold fewZ at h ⊢; rw [if_neg hc] at h ⊢; omega

theorem own_type {w : World} {base n size : Nat} {e : TypeId} {v : Value} {xs : List Value} (h : w.ownsRow base e size v n xs) {x : Nat} (hx : v.ownBlock = some x) : ∃ cur, w.heap[x]? = some (.cells cur e (0, 0)) := by
  rcases h.2 with ⟨rfl, -⟩ | ⟨g, c, cur, rfl, -, hh, -⟩
  · cases hx
  · obtain rfl : g = x := Option.some.inj hx
    exact ⟨cur, hh⟩
theorem own_not {w : World} {base n size W : Nat} {e t : TypeId} {v : Value} {xs : List Value} {cs : Array Value} {fr : Nat × Nat} (h : w.ownsRow base e size v n xs) (hW : w.heap[W]? = some (.cells cs t fr)) (ht : e ≠ t) : ∀ x, v.ownBlock = some x → x ≠ W := fun x hx e' => by
  obtain ⟨cur, hh⟩ := own_type h hx
  subst e'
  rw [hW] at hh
  simp only [Option.some.injEq, Obj.cells.injEq] at hh
  exact ht hh.2.1.symm
/-- What the blocks of the function that was made read as, once it has its row of blocks. -/
theorem wrap_reads {w7 wx w12 : World} {g : FunD} {n j W N7 N9 : Nat} {Ay Av : Option Addr} {cy cv : Nat}
    (hw : w12 = ((wx.setCell ⟨W, 3, none⟩ (.slice (some ⟨wx.heap.size + 1, 0, none⟩) 1 1)).alloc (.cells #[.int .i64 17, .int .i64 (callW g n).dst, .slice Av j cv, .int .i64 0, .int .i64 n] 41)).alloc
      (.cells #[.slice none 0 0, .slice (some ⟨wx.heap.size, 0, none⟩) 1 1, .int .i64 3, .int .i64 (termW g).arg, .slice none 0 0] 47))
    (hx : Below w7.heap.size w7 wx) (h7 : w7.heap.size ≤ W) (hp : g.params = j) (hj : j ≤ 8)
    (hW : wx.heap[W]? = some (.cells #[.int .i64 j, .int .i64 g.result, .slice Ay (wrapF g n).regs.length cy, .slice none 0 0] 39 (0, 0)))
    (hoy : wx.ownsRow N7 3 1 (.slice Ay (wrapF g n).regs.length cy) (wrapF g n).regs.length ((wrapF g n).regs.map (Value.int .i64)))
    (hov : wx.ownsRow N9 3 1 (.slice Av j cv) j (((List.range j).map fun q : Nat => (q : Int)).map (Value.int .i64))) (hreg : ∀ x ∈ g.regs, I64 x) (hres : I64 g.result) (hn : I64 n) :
    w12.heap[W]? = some (.cells #[.int .i64 j, .int .i64 g.result, .slice Ay (wrapF g n).regs.length cy, .slice (some ⟨wx.heap.size + 1, 0, none⟩) 1 1] 39 (0, 0)) ∧ Below w7.heap.size w7 w12 ∧
      SL w12 1 RInt Ay cy (wrapF g n).regs ∧ SL w12 5 RBlk (some ⟨wx.heap.size + 1, 0, none⟩) 1 (wrapF g n).blocks := by
  have hWlt := block_lt hW
  have hzz : (wx.setCell ⟨W, 3, none⟩ (.slice (some ⟨wx.heap.size + 1, 0, none⟩) 1 1)).heap.size = wx.heap.size := by simp
  have hB : Below w7.heap.size w7 w12 := by
    rw [hw]
    exact ((hx.setCell h7 _).alloc (by have := hx.size; simp; omega) _).alloc (by have := hx.size; simp; omega) _
  have hblk : ∀ y, y < wx.heap.size → y ≠ W → w12.heap[y]? = wx.heap[y]? := fun y h1 h2 => by
    rw [hw]
    exact (Below.heap_alloc _ _ _ (by simp; omega)).trans ((Below.heap_alloc _ _ _ (by simp; omega)).trans (Below.heap_setCell _ _ _ _ h2))
  have hWW : w12.heap[W]? = some (.cells #[.int .i64 j, .int .i64 g.result, .slice Ay (wrapF g n).regs.length cy, .slice (some ⟨wx.heap.size + 1, 0, none⟩) 1 1] 39 (0, 0)) := by
    rw [hw]
    exact (Below.heap_alloc _ _ _ (by simp; omega)).trans ((Below.heap_alloc _ _ _ (by simp; omega)).trans (set_of_block (i := 3) _ hW))
  have hI : w12.heap[wx.heap.size]? = some (.cells #[.int .i64 17, .int .i64 (callW g n).dst, .slice Av j cv, .int .i64 0, .int .i64 n] 41 (0, 0)) := by
    rw [hw]
    have h := heap_alloc_new (wx.setCell ⟨W, 3, none⟩ (.slice (some ⟨wx.heap.size + 1, 0, none⟩) 1 1)) (.cells #[.int .i64 17, .int .i64 (callW g n).dst, .slice Av j cv, .int .i64 0, .int .i64 n] 41)
    rw [hzz] at h
    exact (Below.heap_alloc _ _ _ (by simp)).trans h
  have hK : w12.heap[wx.heap.size + 1]? = some (.cells #[.slice none 0 0, .slice (some ⟨wx.heap.size, 0, none⟩) 1 1, .int .i64 3, .int .i64 (termW g).arg, .slice none 0 0] 47 (0, 0)) := by
    rw [hw]
    have h := heap_alloc_new ((wx.setCell ⟨W, 3, none⟩ (.slice (some ⟨wx.heap.size + 1, 0, none⟩) 1 1)).alloc (.cells #[.int .i64 17, .int .i64 (callW g n).dst, .slice Av j cv, .int .i64 0, .int .i64 n] 41)) (.cells #[.slice none 0 0, .slice (some ⟨wx.heap.size, 0, none⟩) 1 1, .int .i64 3, .int .i64 (termW g).arg, .slice none 0 0] 47)
    rwa [show ((wx.setCell ⟨W, 3, none⟩ (.slice (some ⟨wx.heap.size + 1, 0, none⟩) 1 1)).alloc (.cells #[.int .i64 17, .int .i64 (callW g n).dst, .slice Av j cv, .int .i64 0, .int .i64 n] 41)).heap.size = wx.heap.size + 1 by simp] at h
  have hgr : ∀ x ∈ (wrapF g n).regs, I64 x := fun x hx => by
    have hx : x ∈ g.regs.take g.params.toNat ++ (if g.result = 0 then [] else [g.result]) := hx
    rcases List.mem_append.1 hx with h | h
    · exact hreg x (List.mem_of_mem_take h)
    · split at h
      · cases h
      · rw [List.mem_singleton.1 h]; exact hres
  have hoy12 := cp_owns (w' := w12) hoy (fun x hx => hblk x (hoy.lt x hx).2 (own_not hoy hW (by decide) x hx)) (Nat.le_refl _)
  have hov12 := cp_owns (w' := w12) hov (fun x hx => hblk x (hov.lt x hx).2 (own_not hov hW (by decide) x hx)) (Nat.le_refl _)
  obtain ⟨A1, c1, e1, hr1⟩ := vs_of_own hoy12 hgr
  simp only [Value.slice.injEq] at e1
  obtain ⟨rfl, -, rfl⟩ := e1
  have ea : (callW g n).args = (List.range j).map fun q : Nat => (q : Int) := by unfold callW; rw [hp, Int.toNat_natCast]
  have hl : ((List.range j).map fun q : Nat => (q : Int)).length = j := by simp
  obtain ⟨A2, c2, e2, hr2⟩ := vs_of_own (xs := (List.range j).map fun q : Nat => (q : Int)) (by rw [hl]; exact hov12) (fun x hx => by
    obtain ⟨q, hq, rfl⟩ := List.mem_map.1 hx
    have := List.mem_range.1 hq
    unfold I64; omega)
  simp only [Value.slice.injEq] at e2
  obtain ⟨rfl, -, rfl⟩ := e2
  rw [← ea] at hr2
  have hal : (callW g n).args.length = j := by rw [ea, hl]
  have hd64 : I64 (callW g n).dst := by
    unfold callW I64; dsimp only; split <;> omega
  have ht64 : I64 (termW g).arg := by
    unfold termW I64; dsimp only; split <;> omega
  refine ⟨hWW, hB, hr1, ?_⟩
  have hi : RIns w12 wx.heap.size 0 (callW g n) := ⟨⟨cell_of_block hI 0, by show I64 17; unfold I64; omega⟩, ⟨cell_of_block hI 1, hd64⟩, ⟨Av, cv, by rw [hal]; exact cell_of_block hI 2, hr2⟩, ⟨cell_of_block hI 3, by show I64 0; unfold I64; omega⟩, ⟨cell_of_block hI 4, hn⟩⟩
  exact SL.one ⟨⟨none, 0, cell_of_block hK 0, SL.nil⟩, ⟨some ⟨wx.heap.size, 0, none⟩, 1, cell_of_block hK 1, SL.one hi⟩, ⟨cell_of_block hK 2, by show I64 3; unfold I64; omega⟩, ⟨cell_of_block hK 3, ht64⟩, none, 0, cell_of_block hK 4, SL.nil⟩
/-- append(x, f), of functions. -/
theorem run_append_fun (ty : TypeId) {w : World} {base g0 k : Nat} {u c0 c1 c2 c3 : Value} {cs : List Value} (hown : w.ownsRow base 39 4 u k cs) (hnew : w.heap[g0]? = some (.cells #[c0, c1, c2, c3] 39 (0, 0)))
    (h1 : ∀ x ∈ [c0, c1, c2, c3], x.oneCell' = true) (hb : base ≤ w.heap.size) (hn : k ≤ 1000) :
    ∃ v' w', (Builtin.append_ #[22, 22] ty #[u, .slice (some ⟨g0, 0, none⟩) 1 1]).run Try.prog w = .ok v' w' ∧ w'.ownsRow base 39 4 v' (k + 1) (cs ++ [c0, c1, c2, c3]) ∧ w.grownBy w' u.ownBlock ∧ (v'.ownBlock = u.ownBlock ∨ v'.ownBlock = some w.heap.size) := by
  obtain ⟨i0, hi, hz0, hz1, hz2⟩ := info_parts Try.info39
  obtain ⟨v', w', hr, h2, h3, _, hat⟩ := run_append_own_at (P := Try.prog) w base 22 ty 39 i0 (.agg #[.int .i64 0, .int .i64 0, .slice none 0 0, .slice none 0 0]) 4 64 Try.underlying22 hi hz0 hz1 hz2 rfl (by decide) u k cs hown ⟨g0, 0, none⟩ 1 1 [c0, c1, c2, c3] (by simp)
    (fun j x hx => by rw [add_plain', Nat.zero_add]; exact (cell_of_block hnew j).trans (by rw [← hx]; simp)) h1 (by unfold maxLen; omega) (by omega) hb
  exact ⟨v', w', hr, h2, h3, hat⟩
theorem wrap_small {m : List FunD} {g : FunD} {n j : Nat} (hp : g.params = j) (hj : (j : Int) ≤ 8) (hF : FunOk m g) : SmallF (wrapF g n) := by
  have hr := hF.nr
  refine ⟨by show 1 ≤ 70; omega, ?_, by show g.params ≤ 1000; omega, fun b hb => ?_⟩
  · show (g.regs.take g.params.toNat ++ (if g.result = 0 then [] else [g.result])).length ≤ 300
    rw [List.length_append, List.length_take]
    split <;> simp <;> omega
  · obtain rfl := List.mem_singleton.1 hb
    refine ⟨by show 1 ≤ 300; omega, by show 0 ≤ 300; omega, by show 0 ≤ 70; omega, fun x hx => ?_, fun x hx => by cases hx⟩
    have hx : x ∈ [callW g n] := hx
    rw [List.mem_singleton.1 hx]
    show ((List.range g.params.toNat).map (fun i : Nat => (i : Int))).length ≤ 300
    simp; omega
/-- The module with the function that was made. -/
theorem wrap_mod {m : List FunD} {g : FunD} {n j M : Nat} {w12 w13 w15 w16 : World} {u v' : Value} {cs : List Value} {Ay Ab : Option Addr} {cy cb : Nat} (hb13 : Below w12.heap.size w12 w13)
    (hrows : Rows 4 (CFun (fun b => w12.heap.size ≤ b ∧ some b ≠ u.ownBlock) w13) m cs) (hM : M = w13.heap.size) (hs15 : w15.heap.size = M + 2) (h15 : ∀ y, y < w13.heap.size → w15.heap[y]? = w13.heap[y]?) (hb15 : Below w12.heap.size w12 w15)
    (hg : w15.grownBy w16 u.ownBlock) (hu : ∀ x, u.ownBlock = some x → w12.heap.size ≤ x ∧ x < w13.heap.size)
    (hown : w16.ownsRow w12.heap.size 39 4 v' (m.length + 1) (cs ++ [.int .i64 j, .int .i64 g.result, .slice Ay (wrapF g n).regs.length cy, .slice Ab 1 cb])) (hloc : v'.ownBlock = u.ownBlock ∨ v'.ownBlock = some w15.heap.size)
    (hp : g.params = j) (hr : SL w12 1 RInt Ay cy (wrapF g n).regs) (hbk : SL w12 5 RBlk Ab cb (wrapF g n).blocks) (hj : j ≤ 8) (hres : I64 g.result) :
    VMod (w16.setCell ⟨M, 0, none⟩ v') (.agg #[v']) (m ++ [wrapF g n]) ∧ Below w12.heap.size w12 (w16.setCell ⟨M, 0, none⟩ v') := by
  have hs13 := hb13.size
  have hB16 : Below w12.heap.size w12 w16 := hb15.grown hg (by omega) (fun k hk => (hu k hk).1)
  have hBF : Below w12.heap.size w12 (w16.setCell ⟨M, 0, none⟩ v') := hB16.setCell (by show _ ≤ M; omega) _
  refine ⟨?_, hBF⟩
  have hK := kept_of_below hBF
  have hKB : KeptB (fun b => w12.heap.size ≤ b ∧ some b ≠ u.ownBlock) w13 (w16.setCell ⟨M, 0, none⟩ v') := fun a x hb ha => by
    have hlt := block_lt_of_cell ha
    refine (World.cell?_of_block ?_).trans ha
    exact (Below.heap_setCell _ _ _ _ (by show a.block ≠ M; omega)).trans ((hg.block a.block (by omega) hb.2).trans (h15 a.block hlt))
  have hownF : (w16.setCell ⟨M, 0, none⟩ v').ownsRow w12.heap.size 39 4 v' (m.length + 1) (cs ++ [.int .i64 j, .int .i64 g.result, .slice Ay (wrapF g n).regs.length cy, .slice Ab 1 cb]) :=
    cp_owns hown (fun x hx => Below.heap_setCell _ _ _ _ (by
      show x ≠ M
      rcases hloc with h | h
      · have := hu x (h.symm.trans hx); omega
      · have := Option.some.inj (hx.symm.trans h); omega)) (Nat.le_refl _)
  let F : FunD → List Value → Prop := fun x c => ∃ Ar cr Aq cq, c = [.int .i64 x.params, .int .i64 x.result, .slice Ar x.regs.length cr, .slice Aq x.blocks.length cq] ∧ SL (w16.setCell ⟨M, 0, none⟩ v') 1 RInt Ar cr x.regs ∧ SL (w16.setCell ⟨M, 0, none⟩ v') 5 RBlk Aq cq x.blocks ∧ I64 x.params ∧ I64 x.result
  have hR : Rows 4 F (m ++ [wrapF g n]) (cs ++ [.int .i64 j, .int .i64 g.result, .slice Ay (wrapF g n).regs.length cy, .slice Ab 1 cb]) := by
    refine Rows.snoc (sz := 4) (F := F) ?_ rfl (hrows.imp fun x c hx => ?_)
    · refine ⟨Ay, cy, Ab, cb, ?_, SInts.keep hK hr, SBlks.keep hK hbk, ?_, hres⟩
      · show _ = [Value.int .i64 g.params, _, _, _]
        rw [hp]; rfl
      · show I64 g.params
        rw [hp]; unfold I64; omega
    · obtain ⟨Ar, cr, Aq, cq, e, g1, g2, g3, g4⟩ := hx
      exact ⟨Ar, cr, Aq, cq, e, SL.imp (fun b o x hx => RIntB.plain b o x (RIntB.go hKB (fun _ h => h) b o x hx)) g1, SL.imp (fun b o x hx => RBlkB.plain b o x (RBlkB.go hKB (fun _ h => h) b o x hx)) g2, g3, g4⟩
  have hV : VS (w16.setCell ⟨M, 0, none⟩ v') 4 RFun v' (m ++ [wrapF g n]) := hR.reads (by rw [List.length_append]; exact hownF) (fun y o x c h1 h2 hx hl hc => by
    obtain ⟨Ar, cr, Aq, cq, rfl, g1, g2, g3, g4⟩ := hx
    exact ⟨⟨hc 0 _ rfl, g3⟩, ⟨hc 1 _ rfl, g4⟩, ⟨Ar, cr, hc 2 _ rfl, g1⟩, ⟨Aq, cq, hc 3 _ rfl, g2⟩⟩)
  obtain ⟨A, c, e, hs⟩ := hV
  exact ⟨A, c, by rw [e], hs⟩

set_option maxRecDepth 100000 in
set_option maxHeartbeats 16000000 in
theorem runCalls_walk (m : List FunD) (v : Value) (f : Int) (args : List Int) (va : Value) (steps : Int) (w : World) (hm : VMod w v m) (hargs : VS w 1 RInt va args) (hf : I64 f) (hst : I64 steps) :
    Calls Try.prog 3 #[v, .int .i64 f, va, .int .i64 steps] w fun e w' => e = .returned (.bool true) ∧ Below w.heap.size w w' := by
  have hm0 := hm
  obtain ⟨A, c, rfl, hms⟩ := hm
  obtain ⟨Aa, ca, rfl, ha⟩ := hargs
  have hml := hms.len
  have hal := ha.len
  have HMS := Lib.hid hms
  clear hms
  have HF := Lib.hid hf
  have HST := Lib.hid hst
  clear hf hst
  go_enter Try.func3, Try.ntmps3
  go_wp2_with fail
  obtain ⟨w1, hw1, hs1, hk1, hB1, hc1, -⟩ := named w #[.slice A m.length c] 24
  rw [← hw1]
  have q0 : w1.cell? ⟨w.heap.size, 0, none⟩ = some (.slice A m.length c) := hc1 0 _ rfl
  clear hw1 hc1 hs1
  refine (up_any _).mono ?_
  rintro e w2 ⟨rfl, hb2⟩
  have hB2 : Below w.heap.size w w2 := hB1.trans (hb2.mono hB1.size)
  have q0 := kept_of_below hb2 _ _ q0
  go_wp2_with fail
  refine (small_any m _ _ (VMod.keep (kept_of_below hB2) hm0)).mono ?_
  rintro e w3 ⟨⟨bs, rfl, hsm⟩, hb3⟩
  have hB3 : Below w.heap.size w w3 := hB2.trans (hb3.mono hB2.size)
  have q0 := kept_of_below hb3 _ _ q0
  clear hb2 hb3 hB1 hB2 hk1
  cases bs
  · go_wp2_with fail
    go_ret
    exact ⟨rfl, hB3⟩
  · have HS := Lib.hid (hsm rfl)
    clear hsm
    by_cases hlen : 300 < args.length
    · have hlen' : (300 : Int) < args.length := by omega
      go_wp2_with fail
      go_ret
      exact ⟨rfl, hB3⟩
    · have hlen' : ¬ (300 : Int) < args.length := by omega
      have HLEN : Hid (args.length ≤ 300) := Lib.hid (by omega)
      by_cases hmn : 31 < m.length
      · have hmn' : (31 : Int) < m.length := by omega
        go_wp2_with fail
        go_ret
        exact ⟨rfl, hB3⟩
      · have hmn' : ¬ (31 : Int) < m.length := by omega
        have HMN : Hid (m.length ≤ 31) := Lib.hid (by omega)
        go_wp2_with fail
        refine (few_any steps _ HST.out).mono ?_
        rintro e w4 ⟨rfl, rfl⟩
        have HZ : Hid (I64 (fewZ steps)) := Lib.hid (by have := HST.out; unfold I64 at this ⊢; unfold fewZ; split <;> omega)
        have HR1 := Lib.hid (run_any m f args (fewZ steps) _ Aa ca w4 (VMod.keep (kept_of_below hB3) hm0) (SInts.keep (kept_of_below hB3) ha) HS.out HF.out HZ.out)
        have HB3 := Lib.hid hB3
        have HA := Lib.hid ha
        have HM0 := Lib.hid hm0
        clear hB3 ha hm0 hlen hlen' hmn hmn'
        go_wp2_with fail
        refine HR1.out.mono ?_
        rintro e w5 h5
        obtain ⟨s, As, cs, err, rfl, hb5, hso, hcase⟩ := run_told h5
        have q0 := kept_of_below hb5 _ _ q0
        have HB5 : Hid (Below w.heap.size w w5) := Lib.hid (HB3.out.trans (hb5.mono HB3.out.size))
        have hst := store_new w5 s (.slice As s.out.length cs) rfl
        obtain ⟨w6, hw6⟩ : ∃ w6, w6 = w5.alloc (.cells (outC s (.slice As s.out.length cs)) 31) := ⟨_, rfl⟩
        rw [← hw6] at hst
        have HO := Lib.hid (OutAt.new hw6 hso)
        have HB56 : Hid (Below w5.heap.size w5 w6) := Lib.hid (by rw [hw6]; exact (Below.refl _ _).alloc (Nat.le_refl _) _)
        have HB6 : Hid (Below w.heap.size w w6) := Lib.hid (HB5.out.trans (HB56.out.mono HB5.out.size))
        have q6 := kept_of_below HB56.out _ _ q0
        have HCASE := Lib.hid hcase
        have HQ6 := Lib.hid q6
        clear h5 hb5 hso HR1 hw6 hcase q0 q6
        dsimp only
        go_step
        iterate 4 (first | (go_step; go_simp; go_step) | (go_step; go_step))
        refine wpList_store_any _ rfl 31 (.tmp 11) (.tmp 47) rfl _ _ (by rfl) (by rfl) hst ?_
        have q6 := HQ6.out
        clear hst HQ6
        rcases HCASE.out with ⟨⟨te, xe, rfl⟩, -⟩ | ⟨rfl, hp, hmay, hs⟩
        · go_wp2_with fail
          go_ret
          exact ⟨rfl, HB6.out⟩
        · have hmay0 := hmay
          unfold mayB at hmay0
          simp only [Bool.and_eq_true, decide_eq_true_eq] at hmay0
          obtain ⟨⟨hf0, hf1⟩, htk, hz0, hz1⟩ := hmay0
          obtain ⟨n, rfl⟩ : ∃ n : Nat, f = n := ⟨f.toNat, by omega⟩
          have hz2 := rc_few hz1
          obtain ⟨k, hk⟩ : ∃ k : Nat, fewZ steps = k := ⟨(fewZ steps).toNat, by omega⟩
          rw [hk] at hs ⊢
          rw [Int.toNat_natCast, Int.toNat_natCast] at hs
          have hk1 : k ≤ 1000 := by omega
          have hnl : n < m.length := by omega
          have HSR := Lib.hid hs
          have HP := Lib.hid hp
          have hnf0 : ¬ (n : Int) < 0 := by omega
          have hnf1 : ¬ (m.length : Int) ≤ n := by omega
          obtain ⟨b, o, g, rfl, hg, ⟨g0, z0⟩, ⟨g1, z1⟩, ⟨Ar, cr, g2, hr⟩, Ab, cb, g3, hbk⟩ := (SFuns.keep (kept_of_below HB6.out) HMS.out).at_ hnl
          have hga : funAt m (n : Int) = g := by unfold funAt; rw [Int.toNat_natCast]; exact getD_of hg.out
          rw [hga] at htk
          have HTK := Lib.hid htk
          have hn0 : (0 : Int) ≤ n := by omega
          have hn1 : (n : Int) < m.length := by omega
          clear hmay htk hs hp HCASE HST HZ hz0 hz1 hz2 hf0 hf1 hga
          go_upto_region 10 with fail
          obtain ⟨w7, hw7, hs7, hk7, hb7, hc7, -⟩ := named w6 #[.int .i64 g.params, .int .i64 g.result, .slice Ar g.regs.length cr, .slice Ab g.blocks.length cb] 39
          rw [← hw7]
          obtain ⟨G, hG⟩ : ∃ G, G = w6.heap.size := ⟨_, rfl⟩
          rw [← hG] at hc7 hs7 ⊢
          have x0 := hc7 0 _ rfl
          have x1 := hc7 1 _ rfl
          have x2 := hc7 2 _ rfl
          have q7 := hk7 _ _ q6
          have HQ7 := Lib.hid q7
          have HZ1 := Lib.hid z1
          have HO7 := Lib.hid (HO.out.keep hk7)
          have HB7 : Hid (Below w.heap.size w w7) := Lib.hid (HB6.out.trans (hb7.mono HB6.out.size))
          have HRG : Hid (SL w7 1 RW Ar cr g.regs) := Lib.hid (SL.imp (fun b o x hx => hk7 _ _ hx.1) hr)
          have HGR : Hid (∀ x ∈ g.regs, I64 x) := Lib.hid (rc_i64 hr)
          have hrl := hr.len
          have hrc := hr.1
          have HFO := Lib.hid ((proper_ok HP.out).2 g (List.mem_of_getElem? hg.out))
          obtain ⟨p0, p8, pr⟩ := HFO.out.par
          obtain ⟨p, hpp⟩ : ∃ p : Nat, g.params = p := ⟨g.params.toNat, by omega⟩
          rw [hpp] at x0 ⊢
          have HPP := Lib.hid hpp
          rw [hpp] at pr p8
          have HS7 := Lib.hid hs7
          have HTR := Lib.hid (SL.takeN (n := p) HRG.out (by omega))
          have htl : (g.regs.take p).length = p := by rw [List.length_take]; omega
          have HTL := Lib.hid htl
          clear hw7 hk7 hb7 hc7 hG hr hbk z0 z1 g0 g1 g2 g3 p0 q6 hpp hs7 htl
          have hS : ∀ w' : World, Below w7.heap.size w7 w' → w'.cell? ⟨G, 0, none⟩ = some (.int .i64 p) ∧ w'.cell? ⟨G, 1, none⟩ = some (.int .i64 g.result) ∧ w'.cell? ⟨G, 2, none⟩ = some (.slice Ar g.regs.length cr) := fun w' h => ⟨kept_of_below h _ _ x0, kept_of_below h _ _ x1, kept_of_below h _ _ x2⟩
          have HS10 := Lib.hid hS
          have hp0 : (0 : Int) ≤ p := by omega
          have hpc : (p : Int) ≤ cr := by omega
          go_cut [14] (fun s14 wx => ∃ W Ax cx, s14 = .pointer (some ⟨W, 0, none⟩) ∧ Hid (w7.heap.size ≤ W ∧ Below w7.heap.size w7 wx) ∧ wx.heap[W]? = some (.cells #[.int .i64 p, .int .i64 g.result, .slice Ax p cx, .slice none 0 0] 39 (0, 0)) ∧ Hid (wx.ownsRow w7.heap.size 3 1 (.slice Ax p cx) p ((g.regs.take p).map (Value.int .i64)) ∧ (Value.slice Ax p cx).ownBlock ≠ some W))
          case first =>
            refine wp_region_last (L := 13) (S := fun w' => w'.cell? ⟨G, 0, none⟩ = some (.int .i64 p) ∧ w'.cell? ⟨G, 1, none⟩ = some (.int .i64 g.result) ∧ w'.cell? ⟨G, 2, none⟩ = some (.slice Ar g.regs.length cr)) (by kernel_rfl) (by rfl) (by kernel_rfl) (by kernel_rfl) ?_
            change wpAnyH _ _ _ _ _ _ _ _ (World.drew _)
            have hS0 := hS w7.drew (Below.refl _ _).drew
            clear x0 x1 x2
            refine takeH (i := 0) (some 72) (v := ?_) rfl (by kernel_rfl) (by kernel_rfl) (by kernel_rfl) (fun _ _ _ h => h) hS0 (fun o ho => ?_) ?_
            rotate_left
            · simp only [List.getElem?_toArray, List.getElem?_cons_zero, Option.some.injEq] at ho; subst ho; refine Or.inl ⟨by rfl, fun w' hSw => ?_⟩; (try dsimp only at hSw); go_simp; try with_reducible rfl
            simp only [Act.put, List.setIfInBounds_toArray, List.set_cons_zero, List.set_cons_succ]
            refine takeH (i := 1) (some 73) (v := ?_) rfl (by kernel_rfl) (by kernel_rfl) (by kernel_rfl) (fun _ _ _ h => h) hS0 (fun o ho => ?_) ?_
            rotate_left
            · simp only [List.getElem?_toArray, List.getElem?_cons_zero, List.getElem?_cons_succ, Option.some.injEq] at ho; subst ho; refine Or.inl ⟨by rfl, fun w' hSw => ?_⟩; (try dsimp only at hSw); go_simp; try with_reducible rfl
            simp only [Act.put, List.setIfInBounds_toArray, List.set_cons_zero, List.set_cons_succ]
            refine takeH (i := 2) (some 74) (v := ?_) rfl (by kernel_rfl) (by kernel_rfl) (by kernel_rfl) (fun _ _ _ h => h) hS0 (fun o ho => ?_) ?_
            rotate_left
            · simp only [List.getElem?_toArray, List.getElem?_cons_zero, List.getElem?_cons_succ, Option.some.injEq] at ho; subst ho; refine Or.inl ⟨by rfl, fun w' hSw => ?_⟩; (try dsimp only at hSw); go_simp; try with_reducible rfl
            simp only [Act.put, List.setIfInBounds_toArray, List.set_cons_zero, List.set_cons_succ]
            refine takeH (i := 3) (some 75) (v := ?_) rfl (by kernel_rfl) (by kernel_rfl) (by kernel_rfl) (fun _ _ _ h => h) hS0 (fun o ho => ?_) ?_
            rotate_left
            · simp only [List.getElem?_toArray, List.getElem?_cons_zero, List.getElem?_cons_succ, Option.some.injEq] at ho; subst ho; refine Or.inl ⟨by rfl, fun w' hSw => ?_⟩; (try dsimp only at hSw); go_simp; try with_reducible rfl
            simp only [Act.put, List.setIfInBounds_toArray, List.set_cons_zero, List.set_cons_succ]
            refine takeH (i := 5) (some 77) (v := ?_) rfl (by kernel_rfl) (by kernel_rfl) (by kernel_rfl) (fun _ _ _ h => h) hS0 (fun o ho => ?_) ?_
            rotate_left
            · simp only [List.getElem?_toArray, List.getElem?_cons_zero, List.getElem?_cons_succ, Option.some.injEq] at ho; subst ho; refine Or.inl ⟨by rfl, fun w' hSw => ?_⟩; (try dsimp only at hSw); go_simp; try with_reducible rfl
            simp only [Act.put, List.setIfInBounds_toArray, List.set_cons_zero, List.set_cons_succ]
            refine takeH (i := 6) (some 78) (v := ?_) rfl (by kernel_rfl) (by kernel_rfl) (by kernel_rfl) (fun _ _ _ h => h) hS0 (fun o ho => ?_) ?_
            rotate_left
            · simp only [List.getElem?_toArray, List.getElem?_cons_zero, List.getElem?_cons_succ, Option.some.injEq] at ho; subst ho; refine Or.inl ⟨by rfl, fun w' hSw => ?_⟩; (try dsimp only at hSw); go_simp; try with_reducible rfl
            simp only [Act.put, List.setIfInBounds_toArray, List.set_cons_zero, List.set_cons_succ]
            refine takeH (i := 7) (some 79) (v := ?_) rfl (by kernel_rfl) (by kernel_rfl) (by kernel_rfl) (fun _ _ _ h => h) hS0 (fun o ho => ?_) ?_
            rotate_left
            · simp only [List.getElem?_toArray, List.getElem?_cons_zero, List.getElem?_cons_succ, Option.some.injEq] at ho; subst ho; refine Or.inl ⟨by rfl, fun w' hSw => ?_⟩; (try dsimp only at hSw); go_simp; try with_reducible rfl
            simp only [Act.put, List.setIfInBounds_toArray, List.set_cons_zero, List.set_cons_succ]
            refine takeH (i := 8) (some 80) (v := ?_) rfl (by kernel_rfl) (by kernel_rfl) (by kernel_rfl) (fun _ _ _ h => h) hS0 (fun o ho => ?_) ?_
            rotate_left
            · simp only [List.getElem?_toArray, List.getElem?_cons_zero, List.getElem?_cons_succ, Option.some.injEq] at ho; subst ho; refine Or.inl ⟨by rfl, fun w' hSw => ?_⟩; (try dsimp only at hSw); go_simp; try with_reducible rfl
            simp only [Act.put, List.setIfInBounds_toArray, List.set_cons_zero, List.set_cons_succ]
            refine takeH (i := 9) (some 81) (v := ?_) rfl (by kernel_rfl) (by kernel_rfl) (by kernel_rfl) (fun _ _ _ h => h) hS0 (fun o ho => ?_) ?_
            rotate_left
            · simp only [List.getElem?_toArray, List.getElem?_cons_zero, List.getElem?_cons_succ, Option.some.injEq] at ho; subst ho; refine Or.inl ⟨by rfl, fun w' hSw => ?_⟩; (try dsimp only at hSw); go_simp; try with_reducible rfl
            simp only [Act.put, List.setIfInBounds_toArray, List.set_cons_zero, List.set_cons_succ]
            refine wpAnyH_ready (rs := [4, 12]) (by kernel_rfl) (by simp) ?_
            refine AllReadyH.cons (by rfl) (fun K hK => ?_) (AllReadyH.cons (by rfl) (fun K hK => ?_) AllReadyH.nil)
            · go_simp
              have hbA : Below w7.heap.size w7 ((w7.alloc (.cells #[] 3)).drew) := ((Below.refl _ w7).alloc (Nat.le_refl _) _).drew
              have hownA : ((w7.alloc (.cells #[] 3)).drew).ownsRow w7.heap.size 3 1 (.slice (some ⟨w7.heap.size, 0, none⟩) 0 0) ([] : List Int).length (([] : List Int).map (Value.int .i64)) := ⟨rfl, .inr ⟨w7.heap.size, 0, #[], rfl, Nat.le_refl _, heap_alloc_new _ _, Nat.le_refl _, Nat.zero_le _, rfl, rfl⟩⟩
              refine hK.out _ _ (hS _ hbA) (fun _ => ?_)
              clear hK K
              try simp only [Act.put, List.setIfInBounds_toArray, List.set_cons_zero, List.set_cons_succ]
              refine wpAnyH_ready (rs := [10, 12]) (by kernel_rfl) (by simp) ?_
              refine AllReadyH.cons (by rfl) (fun K hK => ?_) (AllReadyH.cons (by rfl) (fun K hK => ?_) AllReadyH.nil)
              · have hslA : SL ((w7.alloc (.cells #[] 3)).drew) 1 RW Ar cr (g.regs.take p) := SL.imp (fun b o x hx => kept_of_below hbA _ _ hx) HTR.out
                obtain ⟨vx, wB, hrB, hownB, hgB, hlocB⟩ := run_append_ints 36 hownA hslA (by first | (simp; done) | (simp; omega)) (by rw [HTL.out]; simp; omega)
                rw [List.nil_append] at hownB
                obtain ⟨Ax, cx, hvx, -⟩ := sl_of_own hownB rfl
                subst hvx
                rw [HTL.out] at hrB hownB hlocB
                have hbB : Below w7.heap.size w7 wB := (hbA).grown hgB (by first | (simp; done) | (simp; omega)) (fun k hk => by have := Option.some.inj (show some (w7.heap.size) = some k from hk); omega)
                refine step_append_run (by rfl) (.tmp 76) (.tmp 81) 36 36 (by rfl) _ _ (by rfl) (by rfl) hrB ?_
                refine hK.out _ _ (hS _ hbB) (fun _ => ?_)
                clear hK K hrB
                simp only [Act.put, List.setIfInBounds_toArray, List.set_cons_zero, List.set_cons_succ]
                refine takeH (i := 11) (some 83) (v := ?_) rfl (by kernel_rfl) (by kernel_rfl) (by kernel_rfl) (fun _ _ _ h => h) (hS _ hbB) (fun o ho => ?_) ?_
                rotate_left
                · simp only [List.getElem?_toArray, List.getElem?_cons_zero, List.getElem?_cons_succ, Option.some.injEq] at ho; subst ho; refine Or.inl ⟨by rfl, fun w' hSw => ?_⟩; (try dsimp only at hSw); go_simp; try with_reducible rfl
                simp only [Act.put, List.setIfInBounds_toArray, List.set_cons_zero, List.set_cons_succ]
                refine oneH (i := 12) (by kernel_rfl) (fun o ho K hK => ?_)
                simp only [List.getElem?_toArray, List.getElem?_cons_zero, List.getElem?_cons_succ, Option.some.injEq] at ho; subst ho
                go_simp
                have hbC : Below w7.heap.size w7 (wB.alloc (.cells #[.int .i64 0, .int .i64 0, .slice none 0 0, .slice none 0 0] 39)) := hbB.alloc hbB.size _
                refine hK.out _ _ (hS _ hbC) ?_
                clear hK K
                refine wpAnyH_done (by kernel_rfl) ?_ _
                refine lastH (by decide) (fun o ho K hK => ?_)
                simp only [List.getElem?_toArray, List.getElem?_cons_zero, List.getElem?_cons_succ, Option.some.injEq] at ho; subst ho
                go_simp
                refine hK.out _ _ ?_
                clear hK K
                have hne : (Value.slice Ax p cx).ownBlock ≠ some wB.heap.size := fun e => by have := (hownB.lt _ e).2; omega
                have HX := Lib.hid (And.intro (hownB.alloc (.cells #[.int .i64 p, .int .i64 g.result, .slice Ax p cx, .slice none 0 0] 39)) hne)
                have HY : Hid (w7.heap.size ≤ wB.heap.size ∧ Below w7.heap.size w7 (wB.alloc (.cells #[.int .i64 p, .int .i64 g.result, .slice Ax p cx, .slice none 0 0] 39))) := Lib.hid ⟨hbB.size, hbB.alloc hbB.size _⟩
                go_wp2_with fail
                go_meet
                exact ⟨_, Ax, cx, rfl, HY, heap_alloc_new wB _, HX⟩
              · go_simp
                have hbC : Below w7.heap.size w7 (((w7.alloc (.cells #[] 3)).drew).alloc (.cells #[.int .i64 0, .int .i64 0, .slice none 0 0, .slice none 0 0] 39)) := hbA.alloc (by simp) _
                refine hK.out _ _ (hS _ hbC) (fun _ => ?_)
                clear hK K
                try simp only [Act.put, List.setIfInBounds_toArray, List.set_cons_zero, List.set_cons_succ]
                refine oneH (i := 10) (by kernel_rfl) (fun o ho K hK => ?_)
                simp only [List.getElem?_toArray, List.getElem?_cons_zero, List.getElem?_cons_succ, Option.some.injEq] at ho; subst ho
                have hslA : SL (((w7.alloc (.cells #[] 3)).drew).alloc (.cells #[.int .i64 0, .int .i64 0, .slice none 0 0, .slice none 0 0] 39)) 1 RW Ar cr (g.regs.take p) := SL.imp (fun b o x hx => kept_of_below hbC _ _ hx) HTR.out
                obtain ⟨vx, wB, hrB, hownB, hgB, hlocB⟩ := run_append_ints 36 (hownA.alloc (.cells #[.int .i64 0, .int .i64 0, .slice none 0 0, .slice none 0 0] 39)) hslA (by first | (simp; done) | (simp; omega)) (by rw [HTL.out]; simp; omega)
                rw [List.nil_append] at hownB
                obtain ⟨Ax, cx, hvx, -⟩ := sl_of_own hownB rfl
                subst hvx
                rw [HTL.out] at hrB hownB hlocB
                have hbB : Below w7.heap.size w7 wB := (hbC).grown hgB (by first | (simp; done) | (simp; omega)) (fun k hk => by have := Option.some.inj (show some (w7.heap.size) = some k from hk); omega)
                have hneB : (Value.slice Ax p cx).ownBlock ≠ some (w7.heap.size + 1) := fun e => by
                  rcases hlocB with h | h
                  · rw [e] at h; have h2 : some (w7.heap.size + 1) = some w7.heap.size := h; have := Option.some.inj h2; omega
                  · rw [e] at h; have := Option.some.inj h; simp at this
                have hbx0 : wB.heap[w7.heap.size + 1]? = some (.cells #[.int .i64 0, .int .i64 0, .slice none 0 0, .slice none 0 0] 39 (0, 0)) := (hgB.block (w7.heap.size + 1) (by simp) (fun e => by have := Option.some.inj (show some w7.heap.size = some (w7.heap.size + 1) from e.symm ▸ rfl); omega)).trans (by
                  have := heap_alloc_new ((w7.alloc (.cells #[] 3)).drew) (.cells #[.int .i64 0, .int .i64 0, .slice none 0 0, .slice none 0 0] 39)
                  simpa using this)
                refine step_append_run (by rfl) (.tmp 76) (.tmp 81) 36 36 (by rfl) _ _ (by rfl) (by rfl) hrB ?_
                refine hK.out _ _ (hS _ hbB) ?_
                clear hK K hrB
                simp only [Act.put, List.setIfInBounds_toArray, List.set_cons_zero, List.set_cons_succ]
                refine takeH (i := 11) (some 83) (v := ?_) rfl (by kernel_rfl) (by kernel_rfl) (by kernel_rfl) (fun _ _ _ h => h) (hS _ hbB) (fun o ho => ?_) ?_
                rotate_left
                · simp only [List.getElem?_toArray, List.getElem?_cons_zero, List.getElem?_cons_succ, Option.some.injEq] at ho; subst ho; refine Or.inl ⟨by rfl, fun w' hSw => ?_⟩; (try dsimp only at hSw); go_simp; try with_reducible rfl
                simp only [Act.put, List.setIfInBounds_toArray, List.set_cons_zero, List.set_cons_succ]
                have hbxB : wB.heap[w7.heap.size + 1]? = some (.cells #[.int .i64 0, .int .i64 0, .slice none 0 0, .slice none 0 0] 39 (0, 0)) := hbx0
                have y0 := cell_of_block hbxB 0
                have y1 := cell_of_block hbxB 1
                have y2 := cell_of_block hbxB 2
                have y3 := cell_of_block hbxB 3
                have f0 := free_of_block hbxB 0
                have f1 := free_of_block hbxB 1
                have f2 := free_of_block hbxB 2
                have f3 := free_of_block hbxB 3
                refine wpAnyH_done (by kernel_rfl) ?_ _
                refine lastH (by decide) (fun o ho K hK => ?_)
                simp only [List.getElem?_toArray, List.getElem?_cons_zero, List.getElem?_cons_succ, Option.some.injEq] at ho; subst ho
                go_simp
                refine hK.out _ _ ?_
                clear hK K
                have hset : ∀ (y : Nat), y ≠ w7.heap.size + 1 → ((((wB.setCell ⟨w7.heap.size + 1, 0, none⟩ (.int .i64 p)).setCell ⟨w7.heap.size + 1, 1, none⟩ (.int .i64 g.result)).setCell ⟨w7.heap.size + 1, 2, none⟩ (.slice Ax p cx)).setCell ⟨w7.heap.size + 1, 3, none⟩ (.slice none 0 0)).heap[y]? = wB.heap[y]? := fun y hy => (((Below.heap_setCell _ _ _ _ hy).trans (Below.heap_setCell _ _ _ _ hy)).trans (Below.heap_setCell _ _ _ _ hy)).trans (Below.heap_setCell _ _ _ _ hy)
                have HX := Lib.hid (And.intro (cp_owns hownB (fun x hx => hset x (fun e => hneB (e ▸ hx))) (Nat.le_refl _)) hneB)
                have HY : Hid (w7.heap.size ≤ w7.heap.size + 1 ∧ Below w7.heap.size w7 ((((wB.setCell ⟨w7.heap.size + 1, 0, none⟩ (.int .i64 p)).setCell ⟨w7.heap.size + 1, 1, none⟩ (.int .i64 g.result)).setCell ⟨w7.heap.size + 1, 2, none⟩ (.slice Ax p cx)).setCell ⟨w7.heap.size + 1, 3, none⟩ (.slice none 0 0))) := Lib.hid ⟨by omega, (((hbB.setCell (by simp) _).setCell (by simp) _).setCell (by simp) _).setCell (by simp) _⟩
                have HZ4 := Lib.hid (set_of_block (i := 3) (.slice none 0 0) (set_of_block (i := 2) (.slice Ax p cx) (set_of_block (i := 1) (.int .i64 g.result) (set_of_block (i := 0) (.int .i64 p) hbxB))))
                go_wp2_with fail
                go_meet
                exact ⟨_, Ax, cx, rfl, HY, HZ4.out, HX⟩
            · go_simp
              have hbC : Below w7.heap.size w7 ((w7.alloc (.cells #[.int .i64 0, .int .i64 0, .slice none 0 0, .slice none 0 0] 39)).drew) := ((Below.refl _ w7).alloc (Nat.le_refl _) _).drew
              refine hK.out _ _ (hS _ hbC) (fun _ => ?_)
              clear hK K
              try simp only [Act.put, List.setIfInBounds_toArray, List.set_cons_zero, List.set_cons_succ]
              refine oneH (i := 4) (by kernel_rfl) (fun o ho K hK => ?_)
              simp only [List.getElem?_toArray, List.getElem?_cons_zero, List.getElem?_cons_succ, Option.some.injEq] at ho; subst ho
              go_simp
              have hbD : Below w7.heap.size w7 (((w7.alloc (.cells #[.int .i64 0, .int .i64 0, .slice none 0 0, .slice none 0 0] 39)).drew).alloc (.cells #[] 3)) := hbC.alloc (by simp) _
              have hownD : (((w7.alloc (.cells #[.int .i64 0, .int .i64 0, .slice none 0 0, .slice none 0 0] 39)).drew).alloc (.cells #[] 3)).ownsRow w7.heap.size 3 1 (.slice (some ⟨w7.heap.size + 1, 0, none⟩) 0 0) ([] : List Int).length (([] : List Int).map (Value.int .i64)) := ⟨rfl, .inr ⟨w7.heap.size + 1, 0, #[], rfl, Nat.le_succ _, (by have := heap_alloc_new ((w7.alloc (.cells #[.int .i64 0, .int .i64 0, .slice none 0 0, .slice none 0 0] 39)).drew) (.cells #[] 3); simpa using this), Nat.le_refl _, Nat.zero_le _, rfl, rfl⟩⟩
              refine hK.out _ _ (hS _ hbD) ?_
              clear hK K
              try simp only [Act.put, List.setIfInBounds_toArray, List.set_cons_zero, List.set_cons_succ]
              refine oneH (i := 10) (by kernel_rfl) (fun o ho K hK => ?_)
              simp only [List.getElem?_toArray, List.getElem?_cons_zero, List.getElem?_cons_succ, Option.some.injEq] at ho; subst ho
              have hslA : SL (((w7.alloc (.cells #[.int .i64 0, .int .i64 0, .slice none 0 0, .slice none 0 0] 39)).drew).alloc (.cells #[] 3)) 1 RW Ar cr (g.regs.take p) := SL.imp (fun b o x hx => kept_of_below hbD _ _ hx) HTR.out
              obtain ⟨vx, wB, hrB, hownB, hgB, hlocB⟩ := run_append_ints 36 hownD hslA (by first | (simp; done) | (simp; omega)) (by rw [HTL.out]; simp; omega)
              rw [List.nil_append] at hownB
              obtain ⟨Ax, cx, hvx, -⟩ := sl_of_own hownB rfl
              subst hvx
              rw [HTL.out] at hrB hownB hlocB
              have hbB : Below w7.heap.size w7 wB := (hbD).grown hgB (by first | (simp; done) | (simp; omega)) (fun k hk => by have := Option.some.inj (show some (w7.heap.size + 1) = some k from hk); omega)
              have hneB : (Value.slice Ax p cx).ownBlock ≠ some w7.heap.size := fun e => by
                rcases hlocB with h | h
                · rw [e] at h; have h2 : some w7.heap.size = some (w7.heap.size + 1) := h; have := Option.some.inj h2; omega
                · rw [e] at h; have := Option.some.inj h; simp at this; try omega
              have hbx0 : wB.heap[w7.heap.size]? = some (.cells #[.int .i64 0, .int .i64 0, .slice none 0 0, .slice none 0 0] 39 (0, 0)) := (hgB.block w7.heap.size (by simp; try omega) (fun e => by have := Option.some.inj (show some (w7.heap.size + 1) = some w7.heap.size from e.symm ▸ rfl); omega)).trans ((Below.heap_alloc _ _ _ (by simp)).trans (heap_alloc_new w7 _))
              refine step_append_run (by rfl) (.tmp 76) (.tmp 81) 36 36 (by rfl) _ _ (by rfl) (by rfl) hrB ?_
              refine hK.out _ _ (hS _ hbB) ?_
              clear hK K hrB
              simp only [Act.put, List.setIfInBounds_toArray, List.set_cons_zero, List.set_cons_succ]
              refine takeH (i := 11) (some 83) (v := ?_) rfl (by kernel_rfl) (by kernel_rfl) (by kernel_rfl) (fun _ _ _ h => h) (hS _ hbB) (fun o ho => ?_) ?_
              rotate_left
              · simp only [List.getElem?_toArray, List.getElem?_cons_zero, List.getElem?_cons_succ, Option.some.injEq] at ho; subst ho; refine Or.inl ⟨by rfl, fun w' hSw => ?_⟩; (try dsimp only at hSw); go_simp; try with_reducible rfl
              simp only [Act.put, List.setIfInBounds_toArray, List.set_cons_zero, List.set_cons_succ]
              have hbxB : wB.heap[w7.heap.size]? = some (.cells #[.int .i64 0, .int .i64 0, .slice none 0 0, .slice none 0 0] 39 (0, 0)) := hbx0
              have y0 := cell_of_block hbxB 0
              have y1 := cell_of_block hbxB 1
              have y2 := cell_of_block hbxB 2
              have y3 := cell_of_block hbxB 3
              have f0 := free_of_block hbxB 0
              have f1 := free_of_block hbxB 1
              have f2 := free_of_block hbxB 2
              have f3 := free_of_block hbxB 3
              refine wpAnyH_done (by kernel_rfl) ?_ _
              refine lastH (by decide) (fun o ho K hK => ?_)
              simp only [List.getElem?_toArray, List.getElem?_cons_zero, List.getElem?_cons_succ, Option.some.injEq] at ho; subst ho
              go_simp
              refine hK.out _ _ ?_
              clear hK K
              have hset : ∀ (y : Nat), y ≠ w7.heap.size → ((((wB.setCell ⟨w7.heap.size, 0, none⟩ (.int .i64 p)).setCell ⟨w7.heap.size, 1, none⟩ (.int .i64 g.result)).setCell ⟨w7.heap.size, 2, none⟩ (.slice Ax p cx)).setCell ⟨w7.heap.size, 3, none⟩ (.slice none 0 0)).heap[y]? = wB.heap[y]? := fun y hy => (((Below.heap_setCell _ _ _ _ hy).trans (Below.heap_setCell _ _ _ _ hy)).trans (Below.heap_setCell _ _ _ _ hy)).trans (Below.heap_setCell _ _ _ _ hy)
              have HX := Lib.hid (And.intro (cp_owns hownB (fun x hx => hset x (fun e => hneB (e ▸ hx))) (Nat.le_refl _)) hneB)
              have HY : Hid (w7.heap.size ≤ w7.heap.size ∧ Below w7.heap.size w7 ((((wB.setCell ⟨w7.heap.size, 0, none⟩ (.int .i64 p)).setCell ⟨w7.heap.size, 1, none⟩ (.int .i64 g.result)).setCell ⟨w7.heap.size, 2, none⟩ (.slice Ax p cx)).setCell ⟨w7.heap.size, 3, none⟩ (.slice none 0 0))) := Lib.hid ⟨by omega, (((hbB.setCell (by simp) _).setCell (by simp) _).setCell (by simp) _).setCell (by simp) _⟩
              have HZ4 := Lib.hid (set_of_block (i := 3) (.slice none 0 0) (set_of_block (i := 2) (.slice Ax p cx) (set_of_block (i := 1) (.int .i64 g.result) (set_of_block (i := 0) (.int .i64 p) hbxB))))
              go_wp2_with fail
              go_meet
              exact ⟨_, Ax, cx, rfl, HY, HZ4.out, HX⟩
          case rest =>
            obtain ⟨W, Ax, cx, rfl, hW, hbx, hox⟩ := hcut
            obtain ⟨w8, rfl⟩ : ∃ w8, w8 = wc := ⟨wc, rfl⟩
            have HBX := Lib.hid hbx
            have HB8 : Hid (Below w.heap.size w w8) := Lib.hid (HB7.out.trans (hW.out.2.mono HB7.out.size))
            obtain ⟨x0, x1, x2⟩ := HS10.out w8 hW.out.2
            have hWs : W < w8.heap.size := block_lt hbx
            have HW7 : Hid (w7.heap.size ≤ W) := Lib.hid hW.out.1
            clear hbx hS q7
            go_upto_region 12 with fail
            obtain ⟨w9, hw9, hs9, hk9, hb9, hc9, -⟩ := named w8 #[.int .i64 17, .int .i64 (-1), .slice none 0 0, .int .i64 0, .int .i64 n] 41
            have hbk9 : w9.heap[w8.heap.size]? = some (.cells #[.int .i64 17, .int .i64 (-1), .slice none 0 0, .int .i64 0, .int .i64 n] 41 (0, 0)) := by rw [hw9]; exact heap_alloc_new _ _
            rw [← hw9]
            obtain ⟨C, hC⟩ : ∃ C, C = w8.heap.size := ⟨_, rfl⟩
            rw [← hC] at hbk9 hs9 ⊢
            have HC8 := Lib.hid hC
            have HS9 := Lib.hid hs9
            have HB89 := Lib.hid hb9
            have x0 := hk9 _ _ x0
            have HBK9 := Lib.hid hbk9
            have hC9 : C < w9.heap.size := by omega
            have hG9 : G < C := by have h : G < w8.heap.size := block_lt_of_cell x1; omega
            clear hw9 hk9 hc9 hC hs9 hb9 hbk9 x1 x2
            go_wp2_with fail
            go_loopw [16] (fun i wr => ∃ (j : Nat) (va : Value), j ≤ p ∧ i = .int .i64 j ∧ BB w9.heap.size C w9 wr ∧ wr.heap[C]? = some (.cells #[.int .i64 17, .int .i64 (-1), va, .int .i64 0, .int .i64 n] 41 (0, 0)) ∧ Hid (wr.ownsRow w9.heap.size 3 1 va j (((List.range j).map fun q : Nat => (q : Int)).map (Value.int .i64)))) (fun i _ => p - (intOf i).toNat)
            case atStart => exact ⟨0, _, Nat.zero_le _, rfl, BB.refl _ _ _, HBK9.out, Lib.hid (World.ownsRow_nil _ _ _ _)⟩
            case round =>
              obtain ⟨j, va, hj, rfl, hbb, hbc, how⟩ := hrel
              have y0 : wr.cell? ⟨G, 0, none⟩ = some (.int .i64 p) := (World.cell?_of_block (a := ⟨G, 0, none⟩) (hbb.block G (by omega) (by omega))).trans x0
              by_cases hjp : j < p
              · obtain ⟨xs, hxs⟩ : ∃ xs : List Int, xs = (List.range j).map fun q : Nat => (q : Int) := ⟨_, rfl⟩
                rw [← hxs] at how
                have hxl : xs.length = j := by rw [hxs]; simp
                have HXS := Lib.hid hxs
                have how := how.out
                rw [← hxl] at how
                obtain ⟨Av, cv, hva, -⟩ := sl_of_own how rfl
                subst hva
                have hsz := hbb.size
                have hsl : SL (wr.alloc (.cells #[.int .i64 (j : Int)] 3)) 1 RW (some ⟨wr.heap.size, 0, none⟩) 1 [(j : Int)] := ⟨by simp, ⟨by unfold maxLen; omega, fun e => by cases e⟩, fun _ => ⟨_, 0, rfl, fun i x hi => by
                  match i, hi with
                  | 0, hi => obtain rfl := Option.some.inj hi; exact cell_of_block (heap_alloc_new wr _) 0
                  | i + 1, hi => simp at hi⟩⟩
                obtain ⟨v', wA, hrA, hownA, hgA, -⟩ := run_append_ints 36 (how.alloc (.cells #[.int .i64 (j : Int)] 3)) hsl (by simp; omega) (by simp; omega)
                have hgl := how.lt
                have hneC : (Value.slice Av xs.length cv).ownBlock ≠ some C := fun e => by have := (hgl C e).1; omega
                have hbcA : wA.heap[C]? = some (.cells #[.int .i64 17, .int .i64 (-1), .slice Av xs.length cv, .int .i64 0, .int .i64 n] 41 (0, 0)) := (hgA.block C (by simp; omega) (fun e => hneC e.symm)).trans ((Below.heap_alloc _ _ _ (by omega)).trans hbc)
                have y2 : wr.cell? ⟨C, 2, none⟩ = some (.slice Av xs.length cv) := cell_of_block hbc 2
                have z2 : wA.cell? ⟨C, 2, none⟩ = some (.slice Av xs.length cv) := cell_of_block hbcA 2
                have f2 : wA.frozen? ⟨C, 2, none⟩ = false := free_of_block hbcA 2
                obtain ⟨Aw, cw, hvw, -⟩ := sl_of_own hownA rfl
                subst hvw
                have hla : (xs ++ [(j : Int)]).length = xs.length + 1 := by simp
                rw [hla] at hrA hownA
                have hjj : (j : Int) < p := by omega
                have HBA := Lib.hid (((hbb.alloc hsz (.cells #[.int .i64 (j : Int)] 3)).grown hgA (by simp; omega) (fun k hk => .inr (hgl k hk).1)))
                have HOA := Lib.hid hownA
                have HCA := Lib.hid hbcA
                have HXL := Lib.hid hxl
                clear how hgA hownA hbcA hbc hgl hneC hsl hbb hxs hxl
                go_wp2_with (first | (at_builtin; refine wpList_append_run _ rfl (.tmp 93) (.tmp 95) 36 36 rfl _ _ rfl rfl hrA ?_))
                have hxn : xs ++ [(j : Int)] = (List.range (j + 1)).map fun q : Nat => (q : Int) := by rw [HXS.out, List.range_succ, List.map_append]; rfl
                have HN := Lib.hid (cp_owns (w' := wA.setCell ⟨C, 2, none⟩ (.slice Aw (xs.length + 1) cw)) HOA.out (fun x hx => Below.heap_setCell _ _ _ _ (by have := (HOA.out.lt x hx).1; show x ≠ C; omega)) (Nat.le_refl _))
                have HBF := Lib.hid (set_of_block (i := 2) (.slice Aw (xs.length + 1) cw) HCA.out)
                go_roundw
                case rel => exact ⟨j + 1, _, by omega, by go_num, HBA.out.setCell (.inl rfl) _, HBF.out, Lib.hid (by have h := HN.out; rw [hxn, HXL.out] at h; rw [HXL.out]; exact h)⟩
                case measure => simp [intOf]; omega
              · obtain rfl : j = p := by omega
                obtain ⟨Av, cv, hva, -⟩ := sl_of_own how.out (by simp)
                rw [show ((List.range j).map fun q : Nat => (q : Int)).length = j by simp] at hva
                subst hva
                have hsz := hbb.size
                have hBr : Below w8.heap.size w8 wr := HB89.out.trans (hbb.below (by have := HC8.out; omega) (by have := HC8.out; omega))
                have HBr : Hid (Below w.heap.size w wr) := Lib.hid (HB8.out.trans (hBr.mono HB8.out.size))
                have H7r : Hid (Below w7.heap.size w7 wr) := Lib.hid (hW.out.2.trans (hBr.mono hW.out.2.size))
                have HWr : Hid (wr.heap[W]? = some (.cells #[.int .i64 j, .int .i64 g.result, .slice Ax j cx, .slice none 0 0] 39 (0, 0))) := Lib.hid ((hBr.block W hWs).trans HBX.out)
                have HXr := Lib.hid (cp_owns hox.out.1 (fun x hx => hBr.block x (hox.out.1.lt x hx).2) (Nat.le_refl _))
                have HXw := Lib.hid hox.out.2
                have HXC : Hid (∀ x, (Value.slice Ax j cx).ownBlock = some x → x < C) := Lib.hid (fun x hx => by have := (hox.out.1.lt x hx).2; have := HC8.out; omega)
                have HVC : Hid (∀ x, (Value.slice Av j cv).ownBlock = some x → C < x ∧ x < wr.heap.size) := Lib.hid (fun x hx => by have := how.out.lt x hx; omega)
                have x1 : wr.cell? ⟨G, 1, none⟩ = some (.int .i64 g.result) := kept_of_below hBr _ _ (HS10.out w8 hW.out.2).2.1
                have HCr := Lib.hid hbc
                clear hbb hbc hBr hox hj hjp
                go_upto_region 17 with fail
                obtain ⟨w11, hw11, hs11, hk11, hb11, hc11, -⟩ := named wr #[.int .i64 3, .int .i64 (-1), .slice none 0 0] 43
                have hbk11 : w11.heap[wr.heap.size]? = some (.cells #[.int .i64 3, .int .i64 (-1), .slice none 0 0] 43 (0, 0)) := by rw [hw11]; exact heap_alloc_new _ _
                rw [← hw11]
                obtain ⟨T, hT⟩ : ∃ T, T = wr.heap.size := ⟨_, rfl⟩
                rw [← hT] at hbk11 hs11 ⊢
                have x0 := hk11 _ _ y0
                have x1 := hk11 _ _ x1
                have HBT := Lib.hid hbk11
                have hbW : w11.heap[W]? = some (.cells #[.int .i64 j, .int .i64 g.result, .slice Ax j cx, .slice none 0 0] 39 (0, 0)) := (hb11.block W (block_lt HWr.out)).trans HWr.out
                have hbC : w11.heap[C]? = some (.cells #[.int .i64 17, .int .i64 (-1), .slice Av j cv, .int .i64 0, .int .i64 n] 41 (0, 0)) := (hb11.block C (block_lt HCr.out)).trans HCr.out
                have HXT := Lib.hid (cp_owns HXr.out (fun x hx => hb11.block x (HXr.out.lt x hx).2) (Nat.le_refl _))
                have HVT := Lib.hid (cp_owns how.out (fun x hx => hb11.block x (how.out.lt x hx).2) (Nat.le_refl _))
                have HB11 : Hid (Below w.heap.size w w11) := Lib.hid (HBr.out.trans (hb11.mono HBr.out.size))
                have H711 : Hid (Below w7.heap.size w7 w11) := Lib.hid (H7r.out.trans (hb11.mono H7r.out.size))
                have HWC : Hid (W < C ∧ C < T ∧ G < C ∧ T < w11.heap.size ∧ T = wr.heap.size) := Lib.hid ⟨by have := HC8.out; omega, by have := block_lt HCr.out; omega, hG9, by omega, hT⟩
                clear hw11 hk11 hs11 hc11 hb11 hT y0
                have w0 := cell_of_block hbW 2
                have wf := free_of_block hbW 2
                have v0 := cell_of_block hbC 1
                have vf := free_of_block hbC 1
                have t0 := cell_of_block hbk11 1
                have tf := free_of_block hbk11 1
                go_upto_if 101 with (fail)
                go_cut [] from 99 to 114 (fun wx => ∃ Ay cy, wx.heap[W]? = some (.cells #[.int .i64 j, .int .i64 g.result, .slice Ay (wrapF g n).regs.length cy, .slice none 0 0] 39 (0, 0)) ∧
                    wx.heap[C]? = some (.cells #[.int .i64 17, .int .i64 (callW g n).dst, .slice Av j cv, .int .i64 0, .int .i64 n] 41 (0, 0)) ∧ wx.heap[T]? = some (.cells #[.int .i64 3, .int .i64 (termW g).arg, .slice none 0 0] 43 (0, 0)) ∧
                    Hid (wx.ownsRow w7.heap.size 3 1 (.slice Ay (wrapF g n).regs.length cy) (wrapF g n).regs.length ((wrapF g n).regs.map (Value.int .i64))) ∧ Hid (wx.ownsRow w9.heap.size 3 1 (.slice Av j cv) j (((List.range j).map fun q : Nat => (q : Int)).map (Value.int .i64))) ∧ Hid (Below w7.heap.size w7 wx))
                case first =>
                  have hpj : g.params.toNat = j := by rw [HPP.out, Int.toNat_natCast]
                  by_cases hz : g.result = 0
                  · have e1 : (wrapF g n).regs = g.regs.take j := by
                      show g.regs.take g.params.toNat ++ (if g.result = 0 then [] else [g.result]) = _
                      rw [hpj, if_pos hz, List.append_nil]
                    have e2 : (callW g n).dst = -1 := by unfold callW; simp only [if_pos hz]
                    have e3 : (termW g).arg = -1 := by unfold termW; simp only [if_pos hz]
                    have R1 := Lib.hid e1
                    have R2 := Lib.hid e2
                    have R3 := Lib.hid e3
                    have HbW := Lib.hid hbW
                    have HbC := Lib.hid hbC
                    have hz2 : (g.result != 0) = false := by simp [hz]
                    clear e1 e2 e3 hpj hbW hbC hbk11
                    go_wp2_with fail
                    go_meet
                    refine ⟨Ax, cx, ?_, ?_, ?_, Lib.hid ?_, HVT, H711⟩
                    · rw [R1.out, HTL.out]; exact HbW.out
                    · rw [R2.out]; exact HbC.out
                    · rw [R3.out]; exact HBT.out
                    · rw [R1.out, HTL.out]; exact HXT.out
                  · have e1 : (wrapF g n).regs = g.regs.take j ++ [g.result] := by
                      show g.regs.take g.params.toNat ++ (if g.result = 0 then [] else [g.result]) = _
                      rw [hpj, if_neg hz]
                    have e2 : (callW g n).dst = (j : Int) := by unfold callW; simp only [if_neg hz]; exact HPP.out
                    have e3 : (termW g).arg = (j : Int) := by unfold termW; simp only [if_neg hz]; exact HPP.out
                    have R1 := Lib.hid e1
                    have R2 := Lib.hid e2
                    have R3 := Lib.hid e3
                    have hz2 : (g.result != 0) = true := by simp [hz]
                    obtain ⟨xs, hxs⟩ : ∃ xs, xs = g.regs.take j := ⟨_, rfl⟩
                    have hxl : xs.length = j := by rw [hxs]; exact HTL.out
                    have hown := HXT.out
                    rw [← hxs] at hown
                    rw [← hxl] at hown
                    have hsl : SL (w11.alloc (.cells #[.int .i64 g.result] 3)) 1 RW (some ⟨w11.heap.size, 0, none⟩) 1 [g.result] := ⟨by simp, ⟨by unfold maxLen; omega, fun e => by cases e⟩, fun _ => ⟨_, 0, rfl, fun i x hi => by
                      match i, hi with
                      | 0, hi => obtain rfl := Option.some.inj hi; exact cell_of_block (heap_alloc_new w11 _) 0
                      | i + 1, hi => simp at hi⟩⟩
                    obtain ⟨v', wA, hrA, hownA, hgA, hlocA⟩ := run_append_ints 36 (hown.alloc (.cells #[.int .i64 g.result] 3)) hsl (by have := HB11.out.size; have h1 := HW7.out; have h2 := HWC.out; simp; omega) (by simp; omega)
                    obtain ⟨Ay, cy, hvy, -⟩ := sl_of_own hownA rfl
                    subst hvy
                    have hla : (xs ++ [g.result]).length = j + 1 := by simp [hxl]
                    rw [hla] at hrA hownA hlocA
                    rw [hxl] at hrA hgA hlocA
                    obtain ⟨o1, o2, o3, o4, o5⟩ := HWC.out
                    have hXC := HXC.out
                    have hXW := HXw.out
                    have hst : ∀ y, y < w11.heap.size → (y = W ∨ C ≤ y) → wA.heap[y]? = w11.heap[y]? := fun y h1 h2 => (hgA.block y (by simp; omega) (fun e => by
                      rcases h2 with rfl | h2
                      · exact hXW e.symm
                      · have := hXC y e.symm; omega)).trans (Below.heap_alloc _ _ _ h1)
                    have hbWA := (hst W (by omega) (.inl rfl)).trans hbW
                    have hbCA := (hst C (by omega) (.inr (Nat.le_refl _))).trans hbC
                    have hbTA := (hst T o4 (.inr (by omega))).trans hbk11
                    have hy : ∀ z, (Value.slice Ay (j + 1) cy).ownBlock = some z → z ≠ W ∧ z ≠ C ∧ z ≠ T := fun z hzz => by
                      rcases hlocA with h | h
                      · have hx : (Value.slice Ax j cx).ownBlock = some z := h.symm.trans hzz
                        have := hXC z hx
                        exact ⟨fun e => hXW (e ▸ hx), by omega, by omega⟩
                      · have h2 : some z = some (w11.alloc (.cells #[.int .i64 g.result] 3)).heap.size := hzz.symm.trans h
                        have := Option.some.inj h2
                        simp at this
                        omega
                    have HGA := Lib.hid hgA
                    have HY := Lib.hid hy
                    have HST := Lib.hid hst
                    have HBW := Lib.hid hbWA
                    have HBC := Lib.hid hbCA
                    have HBTA := Lib.hid hbTA
                    have HOA := Lib.hid hownA
                    have HXL := Lib.hid hxs
                    have w0 := cell_of_block hbWA 2
                    have wf := free_of_block hbWA 2
                    have v0 := cell_of_block hbCA 1
                    have vf := free_of_block hbCA 1
                    have t0 := cell_of_block hbTA 1
                    have tf := free_of_block hbTA 1
                    have w2 := cell_of_block hbW 2
                    have hne1 : C ≠ W := by omega
                    have hne2 : T ≠ W := by omega
                    have hne3 : T ≠ C := by omega
                    have HRL : Hid ((wrapF g n).regs.length = j + 1) := Lib.hid (by rw [R1.out, List.length_append, HTL.out]; rfl)
                    have HBF : Hid (Below w7.heap.size w7 wA) := Lib.hid ((H711.out.alloc H711.out.size (.cells #[.int .i64 g.result] 3)).grown hgA (by have := H711.out.size; simp; omega) (fun k hk => (HXT.out.lt k hk).1))
                    have HWB : Hid (w7.heap.size ≤ W) := HW7
                    have HVA := Lib.hid (cp_owns HVT.out (fun x hx => hst x (by have := (HVT.out.lt x hx).2; omega) (.inr (by have := (HVC.out x hx).1; omega))) (Nat.le_refl _))
                    have HVN : Hid (∀ x, (Value.slice Av j cv).ownBlock = some x → x ≠ W ∧ x ≠ C ∧ x ≠ T) := Lib.hid (fun x hx => by have := HVC.out x hx; omega)
                    have xA : wA.cell? ⟨G, 0, none⟩ = some (.int .i64 j) := (World.cell?_of_block (a := ⟨G, 0, none⟩) ((hgA.block G (by simp; omega) (fun e => by have := (HXT.out.lt G e.symm).1; have := HS7.out; omega)).trans (Below.heap_alloc _ _ _ (by omega)))).trans x0
                    clear o1 o2 o3 o4 o5
                    clear e1 e2 e3 hpj hbW hbC hbk11 hst hy hXC hXW hbWA hbCA hbTA hown hsl hgA hlocA hownA hla hxs
                    go_wp2_with (first | (at_builtin; refine wpList_append_run _ rfl (.tmp 103) (.tmp 106) 36 36 rfl _ _ rfl rfl hrA ?_))
                    go_meet
                    have N1 := hne1
                    have hW4 : ∀ (y : Nat), y ≠ W → y ≠ C → y ≠ T → (((wA.setCell ⟨W, 2, none⟩ (.slice Ay (j + 1) cy)).setCell ⟨C, 1, none⟩ (.int .i64 j)).setCell ⟨T, 1, none⟩ (.int .i64 j)).heap[y]? = wA.heap[y]? := fun y h1 h2 h3 => ((Below.heap_setCell _ _ _ _ h3).trans (Below.heap_setCell _ _ _ _ h2)).trans (Below.heap_setCell _ _ _ _ h1)
                    refine ⟨Ay, cy, ?_, ?_, ?_, Lib.hid ?_, Lib.hid ?_, Lib.hid ?_⟩
                    · rw [HRL.out]
                      exact ((Below.heap_setCell _ _ _ _ (fun e => hne2 e.symm)).trans (Below.heap_setCell _ _ _ _ (fun e => hne1 e.symm))).trans (set_of_block (i := 2) _ HBW.out)
                    · rw [R2.out]
                      exact (Below.heap_setCell _ _ _ _ (fun e => hne3 e.symm)).trans (set_of_block (i := 1) _ ((Below.heap_setCell _ _ _ _ hne1).trans HBC.out))
                    · rw [R3.out]
                      exact set_of_block (i := 1) _ ((Below.heap_setCell _ _ _ _ hne3).trans ((Below.heap_setCell _ _ _ _ hne2).trans HBTA.out))
                    · rw [HRL.out, R1.out, ← HXL.out]
                      exact cp_owns HOA.out (fun x hx => hW4 x (HY.out x hx).1 (HY.out x hx).2.1 (HY.out x hx).2.2) (Nat.le_refl _)
                    · exact cp_owns HVA.out (fun x hx => hW4 x (HVN.out x hx).1 (HVN.out x hx).2.1 (HVN.out x hx).2.2) (Nat.le_refl _)
                    · have h1 := HWB.out
                      have h2 := HWC.out
                      exact ((HBF.out.setCell (by show _ ≤ W; omega) _).setCell (by show _ ≤ C; omega) _).setCell (by show _ ≤ T; omega) _
                case rest =>
                  obtain ⟨Ay, cy, hWx, hCx, hTx, hoy, hov, H7x⟩ := hcut
                  obtain ⟨wx, rfl⟩ : ∃ wx, wx = wc := ⟨wc, rfl⟩
                  have hWlt := block_lt hWx
                  have hClt := block_lt hCx
                  have hTlt := block_lt hTx
                  have a0 := cell_of_block hCx 0
                  have a1 := cell_of_block hCx 1
                  have a2 := cell_of_block hCx 2
                  have a3 := cell_of_block hCx 3
                  have a4 := cell_of_block hCx 4
                  have t0 := cell_of_block hTx 0
                  have t1 := cell_of_block hTx 1
                  have t2 := cell_of_block hTx 2
                  have e3 := cell_of_block hWx 3
                  have f3 := free_of_block hWx 3
                  have HWX := Lib.hid hWx
                  have HOY := hoy
                  have HOV := Lib.hid hov.out
                  clear hWx hCx hTx hov hoy
                  go_upto_region 22 with fail
                  obtain ⟨w12, hw12⟩ : ∃ w12, w12 = ((wx.setCell ⟨W, 3, none⟩ (.slice (some ⟨wx.heap.size + 1, 0, none⟩) 1 1)).alloc (.cells #[.int .i64 17, .int .i64 (callW g n).dst, .slice Av j cv, .int .i64 0, .int .i64 n] 41)).alloc (.cells #[.slice none 0 0, .slice (some ⟨wx.heap.size, 0, none⟩) 1 1, .int .i64 3, .int .i64 (termW g).arg, .slice none 0 0] 47) := ⟨_, rfl⟩
                  rw [← hw12]
                  obtain ⟨hW12, h712, hr12, hk12⟩ := wrap_reads hw12 H7x.out HW7.out HPP.out (by omega) HWX.out HOY.out HOV.out HGR.out HZ1.out HF.out
                  obtain ⟨B2, hB2⟩ : ∃ B2, B2 = wx.heap.size + 1 := ⟨_, rfl⟩
                  rw [← hB2] at hW12 hk12
                  have HB12 : Hid (Below w.heap.size w w12) := Lib.hid (HB7.out.trans (h712.mono HB7.out.size))
                  have q12 := kept_of_below h712 _ _ HQ7.out
                  have HO12 := Lib.hid (HO7.out.keep (kept_of_below h712))
                  have HR12 := Lib.hid hr12
                  have H712 := Lib.hid h712
                  have HK12 := Lib.hid hk12
                  have HW12 := Lib.hid hW12
                  have HM12 := Lib.hid (VMod.keep (kept_of_below HB12.out) HM0.out)
                  clear hw12 hW12 h712 hr12 hk12 hB2 a0 a1 a2 a3 a4 t0 t1 t2 e3 f3 hWlt hClt hTlt
                  go_wp2_with fail
                  refine (copy_row m _ w12 HM12.out HS.out).mono ?_
                  rintro e w13 ⟨⟨u, cs2, rfl, hown, hrows⟩, hb13⟩
                  have HOWN := Lib.hid hown
                  have HU : Hid (∀ x, u.ownBlock = some x → w12.heap.size ≤ x ∧ x < w13.heap.size) := Lib.hid (fun x hx => hown.lt x hx)
                  obtain ⟨Au, cu, hu, -⟩ : VS w13 4 (RFunB (fun x => w12.heap.size ≤ x)) u m := hrows.reads hown (fun g o x c h1 h2 h3 _ h4 => CFun.reads (B := fun x => w12.heap.size ≤ x) h2 (CFun.go (KeptB.of (Kept.refl _)) (fun _ h => h.1) h3) h4)
                  subst hu
                  have HROWS := Lib.hid hrows
                  have HB13 := Lib.hid hb13
                  have HW13 := Lib.hid ((hb13.block W (block_lt HW12.out)).trans HW12.out)
                  have q13 := kept_of_below hb13 _ _ q12
                  clear hown hrows hb13 q12
                  go_upto_region 23 with fail
                  obtain ⟨w14, hw14, hs14, hk14, hb14, -, -⟩ := named w13 #[.slice Au m.length cu] 24
                  have hM14 : w14.heap[w13.heap.size]? = some (.cells #[.slice Au m.length cu] 24 (0, 0)) := by rw [hw14]; exact heap_alloc_new _ _
                  rw [← hw14]
                  obtain ⟨M, hM⟩ : ∃ M, M = w13.heap.size := ⟨_, rfl⟩
                  rw [← hM] at hM14 hs14 ⊢
                  have HM := Lib.hid hM
                  have hW14 := (hb14.block W (block_lt HW13.out)).trans HW13.out
                  have q14 := hk14 _ _ q13
                  obtain ⟨w15, hw15⟩ : ∃ w15, w15 = w14.alloc (.cells #[.int .i64 j, .int .i64 g.result, .slice Ay (wrapF g n).regs.length cy, .slice (some ⟨B2, 0, none⟩) 1 1] 39) := ⟨_, rfl⟩
                  have hs15 : w15.heap.size = M + 2 := by rw [hw15]; simp; omega
                  have hb15 : Below w14.heap.size w14 w15 := by rw [hw15]; exact (Below.refl _ _).alloc (Nat.le_refl _) _
                  have hn15 : w15.heap[w14.heap.size]? = some (.cells #[.int .i64 j, .int .i64 g.result, .slice Ay (wrapF g n).regs.length cy, .slice (some ⟨B2, 0, none⟩) 1 1] 39 (0, 0)) := by rw [hw15]; exact heap_alloc_new _ _
                  have h15 : ∀ y, y < w13.heap.size → w15.heap[y]? = w13.heap[y]? := fun y hy => (hb15.block y (by omega)).trans (hb14.block y hy)
                  have hB15 : Below w12.heap.size w12 w15 := (HB13.out.trans (hb14.mono HB13.out.size)).trans (hb15.mono (by have := HB13.out.size; omega))
                  have hown15 := cp_owns HOWN.out (fun x hx => h15 x (HU.out x hx).2) (Nat.le_refl _)
                  obtain ⟨v', w16, hrA, hownA, hgA, hlocA⟩ := run_append_fun 22 hown15 hn15 (by simp [Value.oneCell']) hB15.size (by have := HMN.out; omega)
                  obtain ⟨⟨A5, c5, e5, hs5⟩, hbF⟩ := wrap_mod (M := M) (g := g) (n := n) HB13.out HROWS.out HM.out hs15 h15 hB15 hgA HU.out hownA hlocA HPP.out HR12.out HK12.out (by omega) HZ1.out
                  simp only [Value.agg.injEq, Array.mk.injEq, List.cons.injEq, and_true] at e5
                  subst e5
                  have HVM := Lib.hid (show VMod _ _ _ from ⟨A5, c5, rfl, hs5⟩)
                  have hM16 : w16.heap[M]? = some (.cells #[.slice Au m.length cu] 24 (0, 0)) := (hgA.block M (by omega) (fun e => by have := (HU.out M e.symm).2; have := HM.out; omega)).trans ((hb15.block M (by omega)).trans hM14)
                  have q16 : w16.cell? ⟨w.heap.size, 0, none⟩ = some (.slice (some ⟨b, o, none⟩) m.length c) := (World.cell?_of_block (a := ⟨w.heap.size, 0, none⟩) ((hgA.block w.heap.size (by have := block_lt_of_cell q13; have h : w.heap.size < w13.heap.size := this; omega) (fun e => by have h1 := (HU.out w.heap.size e.symm).1; have h2 : w.heap.size < w7.heap.size := block_lt_of_cell HQ7.out; have h3 := H712.out.size; omega)).trans (h15 _ (block_lt_of_cell q13)))).trans q13
                  have hO16 : OutAt (w16.setCell ⟨M, 0, none⟩ (.slice A5 (m ++ [wrapF g n]).length c5)) w5.heap.size s As cs := HO12.out.keep (kept_of_below hbF)
                  have HOF := Lib.hid hO16
                  have HBF : Hid (Below w.heap.size w (w16.setCell ⟨M, 0, none⟩ (.slice A5 (m ++ [wrapF g n]).length c5))) := Lib.hid (HB12.out.trans (hbF.mono HB12.out.size))
                  have HAF := Lib.hid (SInts.keep (kept_of_below HBF.out) HA.out)
                  obtain ⟨mm, hmm⟩ : ∃ mm, mm = m ++ [wrapF g n] := ⟨_, rfl⟩
                  have HMM := Lib.hid hmm
                  have hmml : mm.length = m.length + 1 := by rw [hmm]; simp
                  rw [← hmm] at HVM HBF HOF HAF hrA
                  have HML := Lib.hid hmml
                  have hsmm : SmallM mm := by
                    rw [hmm]
                    refine ⟨by have := HMN.out; rw [List.length_append]; simp; omega, fun f hf => ?_⟩
                    rcases List.mem_append.1 hf with h | h
                    · exact HS.out.2 f h
                    · rw [List.mem_singleton.1 h]
                      exact wrap_small HPP.out p8 HFO.out
                  have HSMM := Lib.hid hsmm
                  have hMF : (w16.setCell ⟨M, 0, none⟩ (.slice A5 mm.length c5)).heap[M]? = some (.cells #[.slice A5 mm.length c5] 24 (0, 0)) := set_of_block (i := 0) _ hM16
                  have hqF : (w16.setCell ⟨M, 0, none⟩ (.slice A5 mm.length c5)).cell? ⟨w.heap.size, 0, none⟩ = some (.slice (some ⟨b, o, none⟩) m.length c) := (World.cell?_of_block (a := ⟨w.heap.size, 0, none⟩) (Below.heap_setCell _ _ _ _ (by show w.heap.size ≠ M; have h : w.heap.size < w13.heap.size := block_lt_of_cell q13; have := HM.out; omega))).trans q16
                  have HMF := Lib.hid hMF
                  have HQF := Lib.hid hqF
                  have m0 := cell_of_block hM14 0
                  have x0 := cell_of_block hW14 0
                  have x1 := cell_of_block hW14 1
                  have x2 := cell_of_block hW14 2
                  have x3 := cell_of_block hW14 3
                  have z0 := cell_of_block hM16 0
                  have zf := free_of_block hM16 0
                  rw [hw15] at hrA
                  clear hw14 hs14 hk14 hb14 hM14 hM hW14 hw15 hs15 hb15 hn15 h15 hB15 hown15 hownA hgA hlocA hbF hs5 hM16 q16 hO16 hmm hmml hsmm hMF hqF q13 q14
                  go_upto_region 24 with (first | (at_builtin; refine wpList_append_run _ rfl (.tmp 124) (.tmp 126) 22 22 rfl _ _ rfl rfl hrA ?_))
                  obtain ⟨wF, hwF⟩ : ∃ wF, wF = w16.setCell ⟨M, 0, none⟩ (.slice A5 mm.length c5) := ⟨_, rfl⟩
                  rw [← hwF] at HVM HBF HOF HAF HMF HQF ⊢
                  have HR2 := Lib.hid (run_any mm m.length args ((k : Int) + 2) _ Aa ca wF HVM.out HAF.out HSMM.out (by unfold I64; omega) (by unfold I64; omega))
                  have HP2 : Hid (Proper mm) := Lib.hid (by rw [HMM.out]; exact wrap_proper HP.out hg.out HMN.out)
                  have HMAY2 : Hid (mayB mm m.length args ((k : Int) + 2) = true) := Lib.hid (by
                    have h1 := wrap_takes HTK.out hg.out ⟨HFO.out.par.1, HFO.out.par.2.2⟩
                    have h2 := HML.out
                    rw [← HMM.out] at h1
                    unfold mayB
                    rw [h1]
                    simp only [Bool.and_eq_true, decide_eq_true_eq, true_and]
                    omega)
                  have HAL : Hid ((args.length : Int) = g.params) := Lib.hid (by have := HTK.out; unfold takesB at this; simp only [Bool.and_eq_true, decide_eq_true_eq] at this; exact this.1)
                  have hy0 : runS mm ((m.length : Int)).toNat args ((k : Int) + 2).toNat = runS (m ++ [wrapF g n]) m.length args (k + 2) := by rw [HMM.out, Int.toNat_natCast, show ((k : Int) + 2).toNat = k + 2 by omega]
                  have HY0 := Lib.hid hy0
                  have m0 := cell_of_block HMF.out 0
                  have q0 := HQF.out
                  clear hwF hy0 z0 zf x0 x1 x2 x3 hrA
                  go_wp2_with fail
                  refine HR2.out.mono ?_
                  rintro e w20 h20
                  obtain ⟨y, A6, c6, err2, rfl, hb20, hyo, hcase2⟩ := run_told h20
                  rcases hcase2 with ⟨-, hno⟩ | ⟨rfl, -, -, hy⟩
                  · exact absurd ⟨HP2.out, HMAY2.out⟩ hno
                  rw [HY0.out] at hy
                  have hst := store_new w20 y (.slice A6 y.out.length c6) rfl
                  obtain ⟨w21, hw21⟩ : ∃ w21, w21 = w20.alloc (.cells (outC y (.slice A6 y.out.length c6)) 31) := ⟨_, rfl⟩
                  rw [← hw21] at hst
                  have HO2 := Lib.hid (OutAt.new hw21 hyo)
                  have HB2021 : Hid (Below w20.heap.size w20 w21) := Lib.hid (by rw [hw21]; exact (Below.refl _ _).alloc (Nat.le_refl _) _)
                  have hBF21 : Below wF.heap.size wF w21 := hb20.trans (HB2021.out.mono hb20.size)
                  have HB21 : Hid (Below w.heap.size w w21) := Lib.hid (HBF.out.trans (hBF21.mono HBF.out.size))
                  have HO1 := Lib.hid (HOF.out.keep (kept_of_below hBF21))
                  have HY := Lib.hid hy
                  clear h20 hb20 hyo HR2 hw21 m0 q0 hBF21 hy
                  dsimp only
                  go_step
                  iterate 4 (first | (go_step; go_simp; go_step) | (go_step; go_step))
                  refine wpList_store_any _ rfl 31 (.tmp 19) (.tmp 138) rfl _ _ (by rfl) (by rfl) hst ?_
                  clear hst
                  obtain ⟨Y, hYs⟩ : ∃ Y, Y = w20.heap.size := ⟨_, rfl⟩
                  rw [← hYs] at HO2 ⊢
                  clear hYs
                  obtain ⟨X, hX⟩ : ∃ X, X = w5.heap.size := ⟨_, rfl⟩
                  rw [← hX] at HO1 ⊢
                  clear hX
                  obtain ⟨h0, h3, h4⟩ := HO1.out.cells
                  go_upto_region 27 with fail
                  by_cases hd : s.done = true
                  · have hfar := (calls_all HP.out hg.out HAL.out k).2.2 (by rw [← HSR.out]; exact hd)
                    rw [← HSR.out, ← HY.out] at hfar
                    obtain ⟨y1, y2, y3, y4, y5, y6⟩ := hfar
                    have hsk : s.steps ≤ 1000 := by
                      have := (more_facts m n args k 0).1
                      rw [← HSR.out] at this
                      omega
                    have LX := Lib.hid (load_mem (g := X) (o := 5) (w := w21) (s := s) (fun i hi => (HO1.out.1 (5 + i) (by omega)).trans (by rw [show 263 + (5 + i) = 268 + i by omega, cellM_mem _ _ hi])))
                    have LY := Lib.hid (load_mem (g := Y) (o := 5) (w := w21) (s := y) (fun i hi => (HO2.out.1 (5 + i) (by omega)).trans (by rw [show 263 + (5 + i) = 268 + i by omega, cellM_mem _ _ hi])))
                    have hmc : memC y = memC s := by unfold memC memL; rw [y4]
                    rw [hmc] at LY
                    have heq := eq_mem s s w21
                    rw [show (memL s == memL s) = true by simp] at heq
                    have HALK := Lib.hid (alike_any s.out y.out As A6 cs c6 w21 HO1.out.2 HO2.out.2)
                    have HEQ : Hid (decide (s.out = y.out) = true) := Lib.hid (by rw [y5]; simp)
                    have h1 : w21.cell? ⟨X, 1, none⟩ = some (.int .i64 s.trap) := HO1.out.1 1 (by omega)
                    have h2 : w21.cell? ⟨X, 2, none⟩ = some (.int .i64 s.value) := HO1.out.1 2 (by omega)
                    have d0 : w21.cell? ⟨Y, 0, none⟩ = some (.bool true) := by rw [← y1]; exact HO2.out.1 0 (by omega)
                    have d1 : w21.cell? ⟨Y, 1, none⟩ = some (.int .i64 s.trap) := by rw [← y2]; exact HO2.out.1 1 (by omega)
                    have d2 : w21.cell? ⟨Y, 2, none⟩ = some (.int .i64 s.value) := by rw [← y3]; exact HO2.out.1 2 (by omega)
                    have d3 : w21.cell? ⟨Y, 3, none⟩ = some (.slice A6 y.out.length c6) := HO2.out.1 3 (by omega)
                    have d4 : w21.cell? ⟨Y, 4, none⟩ = some (.int .i64 (y.steps : Int)) := HO2.out.1 4 (by omega)
                    rw [hd] at h0
                    have hcs : (((s.trap != 0) = false) ∧ y.steps = s.steps + 2) ∨ (((s.trap != 0) = true) ∧ y.steps = s.steps + 1) := by
                      by_cases ht : s.trap = 0
                      · rw [if_pos ht] at y6; exact .inl ⟨by simp [ht], y6⟩
                      · rw [if_neg ht] at y6; exact .inr ⟨by simp [ht], y6⟩
                    clear hd y1 y2 y3 y4 y5 y6 hmc
                    rcases hcs with ⟨ht, hst⟩ | ⟨ht, hst⟩
                    all_goals
                      rw [hst] at d4
                      clear hst
                      go_upto_region 32 with fail
                      go_step
                      iterate 21 (first | (go_step; go_simp; go_step) | (go_step; go_step))
                      refine wpList_load_w w21 (by rfl) 29 (.tmp 176) rfl _ (by rfl) LY.out ?_
                      (first | (go_step; go_simp; go_step) | (go_step; go_step))
                      refine wpList_load_w w21 (by rfl) 29 (.tmp 178) rfl _ (by rfl) LX.out ?_
                      go_wp2_with fail
                      refine HALK.out.mono ?_
                      rintro e w22 ⟨rfl, q, rfl⟩
                      rw [HEQ.out]
                      go_wp2_with fail
                      go_ret
                      exact ⟨rfl, below_drewN HB21.out q⟩
                  · have hd' : s.done = false := by simpa using hd
                    obtain ⟨r, hr⟩ := calls_begins HP.out hg.out HAL.out (k := k) (by rw [← HSR.out]; exact hd')
                    rw [← HSR.out, ← HY.out] at hr
                    have HBG := Lib.hid (begins_any s.out y.out As A6 cs c6 w21 HO1.out.2 HO2.out.2)
                    have HBB : Hid (beginsB s.out y.out = true) := Lib.hid (by rw [hr]; exact begins_app _ _)
                    have d3 : w21.cell? ⟨Y, 3, none⟩ = some (.slice A6 y.out.length c6) := HO2.out.1 3 (by omega)
                    rw [hd'] at h0
                    clear hd hd' hr
                    go_wp2_with fail
                    refine HBG.out.mono ?_
                    rintro e w22 ⟨rfl, q, rfl⟩
                    rw [HBB.out]
                    go_wp2_with fail
                    go_ret
                    exact ⟨rfl, below_drewN HB21.out q⟩
end Go.Proofs.Ytoidhjmhakajlaa
