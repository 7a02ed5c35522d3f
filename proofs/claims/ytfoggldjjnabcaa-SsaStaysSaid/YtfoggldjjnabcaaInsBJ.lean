/- askedOf, askedOfCall, fits, ofInstr. -/
import Derived.Test.YtfoggldjjnabcaaInsAJ
import Derived.Test.YtfoggldjjnabcaaGrNmJ
import Derived.Laws.Rows
import Derived.Laws.ResultCell
import Derived.StillTailTactics
namespace Go.Proofs.Ytfoggldjjnabcaa
open Go.ChangeShapes Go.WideShapes Go.RowKit Go.Deep
set_option linter.unusedVariables false
theorem qH {P:Program} {fn:Func} {p u:Tmp} {ty:TypeId} (h:fn.results=#[.cell p ty,.tmp u]) (tmps:Array Value) (w:World) (g:Nat) (t:TypeId) (cs:Array Value) (fr:Nat × Nat) (d:TypeDesc)
    (hp:tmps.getD p undef=.pointer (some ⟨g,0,none⟩)) (hg:w.heap[g]?=some (.cells cs t fr))
    (hu:P.underlying ty=some d) (hd:(match d with | .struct _ | .array _ _=>true | _=>false)=true) (hi:(P.info? ty).map (·.size)=some cs.size) :
    (results fn tmps).run P w=.ok (.tuple #[.agg cs,tmps.getD u undef]) w:=by
  (have hp':tmps[p]?.getD undef=.pointer (some ⟨g,0,none⟩):=by simpa using hp);rw [results_cell_tmp h];simp [hp',asAddr,run_loadVar_row w g t ty cs fr d hg hu hd hi,Result.andThen]
def VAsk (w:World) (v:Value) (many:Int) (ts:List Int) (d:Int):Prop:=∃ A c,v=.agg #[.int .i64 many,.slice A ts.length c,.int .i64 d]∧SL w 1 RInt A c ts∧I64 many∧I64 d
set_option maxRecDepth 100000 in
theorem asks_any (d:Int) (A:Option Addr) (n c:Nat) (w:World) :
    Calls Try.prog 84 #[.int .i64 d,.slice A n c] w fun e w'=>e=.returned (.agg #[.int .i64 n,.slice A n c,.int .i64 d])∧Below w.heap.size w w':=by
  (go_enter Try.func84,Try.ntmps84);(go_wp2_with fail);refine bodyPost_ret (results_cell_row rfl _ _ w.heap.size 128 #[.int .i64 n,.slice A n c,.int .i64 d] (0,0) _ (by rfl) (heap_alloc_new w _) Try.underlying128 (by rfl) (by kernel_rfl)) rfl ?_;exact ⟨rfl,(Below.refl _ w).alloc (Nat.le_refl _) _⟩
set_option maxRecDepth 100000 in
theorem askedOfCall_none (m:List FunD) (vm:Value) (n:Int) (w:World) (hm:VMod w vm m) (hn:I64 n) (hat:isAtB n m.length=false) :
    Calls Try.prog 87 #[vm,.int .i64 n] w fun e w'=>e=.returned (.tuple #[.agg #[.int .i64 0,.slice none 0 0,.int .i64 0],errV 4])∧Below w.heap.size w w':=by
  obtain ⟨Am,cm,rfl,hms⟩:=hm;have hml:=hms.len;have HA:=Lib.hid hat;clear hat;(go_enter Try.func87,Try.ntmps87);(go_wp2_with fail);refine (qx _ _ _).mono ?_;rintro e w' ⟨rfl,rfl⟩;rw [HA.out]
  (go_wp2_with fail);refine bodyPost_ret (qH rfl _ _ (w.heap.size+1) 128 #[.int .i64 0,.slice none 0 0,.int .i64 0] (0,0) _ (by rfl) (heap_alloc2_new w _ _) Try.underlying128 (by rfl) (by kernel_rfl)) rfl ?_;exact ⟨rfl,((Below.refl _ w).alloc (Nat.le_refl _) _).alloc (by simp) _⟩
def qa (g:FunD):Nat:=min g.params.toNat g.regs.length
theorem SL.takeN {α:Type} {w:World} {sz c n:Nat} {R:World→Nat→Nat→α→Prop} {A:Option Addr} {xs:List α} (h:SL w sz R A c xs) (hn:n≤xs.length):SL w sz R A c (xs.take n):=by
  obtain ⟨h1,h2,h3⟩:=h;(refine ⟨by rw [List.length_take];omega,h2,fun hp=>?_⟩);rw [List.length_take] at hp;obtain ⟨b,o,e,hx⟩:=h3 (by omega);refine ⟨b,o,e,fun i x hi=>hx i x ?_⟩;rw [List.getElem?_take] at hi
  split at hi
  · exact hi
  · cases hi
theorem qM {w:World} {g:Nat} {a b c:Value} {t:TypeId} (h:w.heap[g]?=some (.cells #[a,b,c] t (0,0))) (v0 v1 v2:Value) :
    (((w.setCell ⟨g,0,none⟩ v0).setCell ⟨g,1,none⟩ v1).setCell ⟨g,2,none⟩ v2).heap[g]?=some (.cells #[v0,v1,v2] t (0,0)) :=
  qG v2 (qG v1 (qG v0 h))
theorem qA {w:World} {g:Nat} {cs:Array Value} {t:TypeId} (h:w.heap[g]?=some (.cells cs t (0,0))) (i:Nat):w.frozen? ⟨g,i,none⟩=false:=by
  unfold World.frozen?;simp [h]
set_option maxRecDepth 100000 in
set_option maxHeartbeats 4000000 in
theorem askedOfCall_some (m:List FunD) (vm:Value) (k:Nat) (g:FunD) (w0 w:World) (hm0:VMod w0 vm m) (hK0:Kept w0 w) (hg:m[k]?=some g) :
    Calls Try.prog 87 #[vm,.int .i64 k] w fun e w'=>(∃ v,e=.returned (.tuple #[v,.nilIface])∧VAsk w0 v g.params (g.regs.take (qa g)) g.result)∧Below w.heap.size w w':=by
  obtain ⟨Am,cm,rfl,hms0⟩:=hm0;have hms:=SFuns.keep hK0 hms0;have hml:=hms.len;have hk:k<m.length:=(List.getElem?_eq_some_iff.1 hg).1;have HA:Hid (isAtB k m.length=true):=Lib.hid (decide_eq_true (by omega));have HG:=Lib.hid hg;clear hg;(have hk1:(k:Int)<m.length:=by omega);obtain ⟨b,o,g',rfl,hx,⟨h0,z0⟩,⟨h1,z1⟩,⟨Ar,cr,h2,z2⟩,Ab,cb,h3,z3⟩:=hms0.at_ hk
  obtain rfl:g=g':=Option.some.inj (HG.out.symm.trans hx.out);have hrl:=z2.len;have hrc:=z2.1;obtain ⟨gp,gr,gs,gb⟩:=g;dsimp only at *;(go_enter Try.func87,Try.ntmps87);(go_wp2_with fail);refine (qx _ _ _).mono ?_;rintro e w' ⟨rfl,rfl⟩
  rw [HA.out];obtain ⟨wa,hwa,hsa,hka,hba,hca,-⟩:=named w #[.slice (some ⟨b,o,none⟩) m.length cm] 24;obtain ⟨w1,hw1,hs1,hk1',hb1,hc1,-⟩:=named wa #[.int .i64 0,.slice none 0 0,.int .i64 0] 128;have hB1:Below w.heap.size w w1:=hba.trans (hb1.mono (by omega));(have hbk1:w1.heap[wa.heap.size]?=some (.cells #[.int .i64 0,.slice none 0 0,.int .i64 0] 128 (0,0)):=by rw [hw1];exact heap_alloc_new _ _);rw [← hwa,← hw1];rw [hsa] at hc1 hbk1;have q0:w1.cell? ⟨w.heap.size,0,none⟩=some (.slice (some ⟨b,o,none⟩) m.length cm):=hk1' _ _ (hca 0 _ rfl);have r0:w1.cell? ⟨w.heap.size+1,0,none⟩=some (.int .i64 0):=hc1 0 _ rfl
  have r1:w1.cell? ⟨w.heap.size+1,1,none⟩=some (.slice none 0 0):=hc1 1 _ rfl;have r2:w1.cell? ⟨w.heap.size+1,2,none⟩=some (.int .i64 0):=hc1 2 _ rfl;(have hs2:w.heap.size+1<w1.heap.size:=by omega);have hK:=hka.trans hk1';clear hwa hw1 hsa hca hc1 hka hk1' hba hb1 hs1;have h0:=hK _ _ (hK0 _ _ h0);have h1:=hK _ _ (hK0 _ _ h1);have h2:=hK _ _ (hK0 _ _ h2);have h3:=hK _ _ (hK0 _ _ h3)
  by_cases hlow:gp<0
  · cases Ar with
    | none =>
      obtain rfl:cr=0:=z2.2.1.2 rfl;(have hcut:Hid (gs.take (qa ⟨gp,gr,gs,gb⟩)=gs.take (0)):=Lib.hid (by congr 1;unfold qa;dsimp only;omega));(have hcutn:Hid ((gs.take (0)).length=(0)):=Lib.hid (by rw [List.length_take];omega));(go_wp2_with fail);obtain ⟨w2,hw2,hs3,hk2,hb2,hc2,-⟩:=named w1 #[.int .i64 (gp),.int .i64 gr,.slice none gs.length 0,.slice Ab gb.length cb] 31;have hB2:Below w.heap.size w w2:=hB1.trans (hb2.mono hB1.size);have hbk2:w2.heap[w.heap.size+1]?=some (.cells #[.int .i64 0,.slice none 0 0,.int .i64 0] 128 (0,0)):=(hb2.block _ hs2).trans hbk1;rw [← hw2];have g0:w2.cell? ⟨w1.heap.size,0,none⟩=some (.int .i64 (gp)):=hc2 0 _ rfl
      have g1:w2.cell? ⟨w1.heap.size,1,none⟩=some (.int .i64 gr):=hc2 1 _ rfl;have g2:w2.cell? ⟨w1.heap.size,2,none⟩=some (.slice none gs.length 0):=hc2 2 _ rfl;have r0:=hk2 _ _ r0;have r1:=hk2 _ _ r1;have r2:=hk2 _ _ r2;(have hn2:w.heap.size+1<w2.heap.size:=by omega);have f0:=qA hbk2 0;have f1:=qA hbk2 1;have f2:=qA hbk2 2
      clear hw2 hs3 hc2;(go_still_tail 9,(by kernel_rfl));change wpList _ _ _ _ _ w2.drew;(go_wp2_with fail);have hwF:Below w.heap.size w (((w2.setCell ⟨w.heap.size+1,0,none⟩ (.int .i64 (gp))).setCell ⟨w.heap.size+1,1,none⟩ (.slice none (0) 0)).setCell ⟨w.heap.size+1,2,none⟩ (.int .i64 gr)) :=
        ((hB2.setCell (by show _≤w.heap.size+1;omega) _).setCell (by show _≤w.heap.size+1;omega) _).setCell (by show _≤w.heap.size+1;omega) _
      have hbkF:=qM (w:=w2) hbk2 (.int .i64 (gp)) (.slice none (0) 0) (.int .i64 gr);generalize (((w2.setCell ⟨w.heap.size+1,0,none⟩ (.int .i64 (gp))).setCell ⟨w.heap.size+1,1,none⟩ (.slice none (0) 0)).setCell ⟨w.heap.size+1,2,none⟩ (.int .i64 gr))=wF at *;refine bodyPost_ret (qH rfl _ _ (w.heap.size+1) 128 #[.int .i64 (gp),.slice none (0) 0,.int .i64 gr] (0,0) _ (by rfl) hbkF Try.underlying128 (by rfl) (by kernel_rfl)) rfl ?_;refine ⟨⟨_,rfl,none,0,?_,?_,z0,z1⟩,hwF.drew⟩
      · rw [hcut.out,hcutn.out]
      · rw [hcut.out];exact z2.takeN (by omega)
    | some a =>
      (have hcut:Hid (gs.take (qa ⟨gp,gr,gs,gb⟩)=gs.take (0)):=Lib.hid (by congr 1;unfold qa;dsimp only;omega));(have hcutn:Hid ((gs.take (0)).length=(0)):=Lib.hid (by rw [List.length_take];omega));(go_wp2_with fail);obtain ⟨w2,hw2,hs3,hk2,hb2,hc2,-⟩:=named w1 #[.int .i64 (gp),.int .i64 gr,.slice (some a) gs.length cr,.slice Ab gb.length cb] 31;have hB2:Below w.heap.size w w2:=hB1.trans (hb2.mono hB1.size);have hbk2:w2.heap[w.heap.size+1]?=some (.cells #[.int .i64 0,.slice none 0 0,.int .i64 0] 128 (0,0)):=(hb2.block _ hs2).trans hbk1;rw [← hw2];have g0:w2.cell? ⟨w1.heap.size,0,none⟩=some (.int .i64 (gp)):=hc2 0 _ rfl;have g1:w2.cell? ⟨w1.heap.size,1,none⟩=some (.int .i64 gr):=hc2 1 _ rfl
      have g2:w2.cell? ⟨w1.heap.size,2,none⟩=some (.slice (some a) gs.length cr):=hc2 2 _ rfl;have r0:=hk2 _ _ r0;have r1:=hk2 _ _ r1;have r2:=hk2 _ _ r2;(have hn2:w.heap.size+1<w2.heap.size:=by omega);have f0:=qA hbk2 0;have f1:=qA hbk2 1;have f2:=qA hbk2 2;clear hw2 hs3 hc2
      (go_still_tail 9,(by kernel_rfl));change wpList _ _ _ _ _ w2.drew;(go_wp2_with fail);have hwF:Below w.heap.size w (((w2.setCell ⟨w.heap.size+1,0,none⟩ (.int .i64 (gp))).setCell ⟨w.heap.size+1,1,none⟩ (.slice (some a) (0) cr)).setCell ⟨w.heap.size+1,2,none⟩ (.int .i64 gr)) :=
        ((hB2.setCell (by show _≤w.heap.size+1;omega) _).setCell (by show _≤w.heap.size+1;omega) _).setCell (by show _≤w.heap.size+1;omega) _
      have hbkF:=qM (w:=w2) hbk2 (.int .i64 (gp)) (.slice (some a) (0) cr) (.int .i64 gr);generalize (((w2.setCell ⟨w.heap.size+1,0,none⟩ (.int .i64 (gp))).setCell ⟨w.heap.size+1,1,none⟩ (.slice (some a) (0) cr)).setCell ⟨w.heap.size+1,2,none⟩ (.int .i64 gr))=wF at *;refine bodyPost_ret (qH rfl _ _ (w.heap.size+1) 128 #[.int .i64 (gp),.slice (some a) (0) cr,.int .i64 gr] (0,0) _ (by rfl) hbkF Try.underlying128 (by rfl) (by kernel_rfl)) rfl ?_;refine ⟨⟨_,rfl,(some a),cr,?_,?_,z0,z1⟩,hwF.drew⟩
      · rw [hcut.out,hcutn.out]
      · rw [hcut.out];exact z2.takeN (by omega)
  · obtain ⟨p,rfl⟩:=Int.eq_ofNat_of_zero_le (Int.not_lt.1 hlow);clear hlow
    by_cases hp:p≤gs.length
    · by_cases hp0:0<p
      · (have hp1:(0:Int)<p:=by omega);(have hpc:p≤cr:=by omega);(have hpc1:(p:Int)≤cr:=by omega);obtain ⟨br,or_,xr,rfl,-,-,-⟩:=z2.int (k:=0) (by omega);(have hcut:Hid (gs.take (qa ⟨p,gr,gs,gb⟩)=gs.take (p)):=Lib.hid (by congr 1;unfold qa;dsimp only;omega));(have hcutn:Hid ((gs.take (p)).length=(p)):=Lib.hid (by rw [List.length_take];omega));(go_wp2_with fail);obtain ⟨w2,hw2,hs3,hk2,hb2,hc2,-⟩:=named w1 #[.int .i64 (p),.int .i64 gr,.slice (some ⟨br,or_,none⟩) gs.length cr,.slice Ab gb.length cb] 31;have hB2:Below w.heap.size w w2:=hB1.trans (hb2.mono hB1.size)
        have hbk2:w2.heap[w.heap.size+1]?=some (.cells #[.int .i64 0,.slice none 0 0,.int .i64 0] 128 (0,0)):=(hb2.block _ hs2).trans hbk1;rw [← hw2];have g0:w2.cell? ⟨w1.heap.size,0,none⟩=some (.int .i64 (p)):=hc2 0 _ rfl;have g1:w2.cell? ⟨w1.heap.size,1,none⟩=some (.int .i64 gr):=hc2 1 _ rfl;have g2:w2.cell? ⟨w1.heap.size,2,none⟩=some (.slice (some ⟨br,or_,none⟩) gs.length cr):=hc2 2 _ rfl;have r0:=hk2 _ _ r0;have r1:=hk2 _ _ r1;have r2:=hk2 _ _ r2;have hn2:w.heap.size+1<w2.heap.size:=by omega
        have f0:=qA hbk2 0;have f1:=qA hbk2 1;have f2:=qA hbk2 2;clear hw2 hs3 hc2;(go_still_tail 9,(by kernel_rfl));change wpList _ _ _ _ _ w2.drew;(go_wp2_with fail);have hwF:Below w.heap.size w (((w2.setCell ⟨w.heap.size+1,0,none⟩ (.int .i64 (p))).setCell ⟨w.heap.size+1,1,none⟩ (.slice (some ⟨br,or_,none⟩) (p) cr)).setCell ⟨w.heap.size+1,2,none⟩ (.int .i64 gr)) :=
          ((hB2.setCell (by show _≤w.heap.size+1;omega) _).setCell (by show _≤w.heap.size+1;omega) _).setCell (by show _≤w.heap.size+1;omega) _
        have hbkF:=qM (w:=w2) hbk2 (.int .i64 (p)) (.slice (some ⟨br,or_,none⟩) (p) cr) (.int .i64 gr);generalize (((w2.setCell ⟨w.heap.size+1,0,none⟩ (.int .i64 (p))).setCell ⟨w.heap.size+1,1,none⟩ (.slice (some ⟨br,or_,none⟩) (p) cr)).setCell ⟨w.heap.size+1,2,none⟩ (.int .i64 gr))=wF at *;refine bodyPost_ret (qH rfl _ _ (w.heap.size+1) 128 #[.int .i64 (p),.slice (some ⟨br,or_,none⟩) (p) cr,.int .i64 gr] (0,0) _ (by rfl) hbkF Try.underlying128 (by rfl) (by kernel_rfl)) rfl ?_;refine ⟨⟨_,rfl,(some ⟨br,or_,none⟩),cr,?_,?_,z0,z1⟩,hwF.drew⟩
        · rw [hcut.out,hcutn.out]
        · rw [hcut.out];exact z2.takeN (by omega)
      · cases Ar with
        | none =>
          obtain rfl:cr=0:=z2.2.1.2 rfl;(have hcut:Hid (gs.take (qa ⟨p,gr,gs,gb⟩)=gs.take (0)):=Lib.hid (by congr 1;unfold qa;dsimp only;omega));(have hcutn:Hid ((gs.take (0)).length=(0)):=Lib.hid (by rw [List.length_take];omega));(go_wp2_with fail);obtain ⟨w2,hw2,hs3,hk2,hb2,hc2,-⟩:=named w1 #[.int .i64 (p),.int .i64 gr,.slice none gs.length 0,.slice Ab gb.length cb] 31;have hB2:Below w.heap.size w w2:=hB1.trans (hb2.mono hB1.size);have hbk2:w2.heap[w.heap.size+1]?=some (.cells #[.int .i64 0,.slice none 0 0,.int .i64 0] 128 (0,0)):=(hb2.block _ hs2).trans hbk1;rw [← hw2];have g0:w2.cell? ⟨w1.heap.size,0,none⟩=some (.int .i64 (p)):=hc2 0 _ rfl
          have g1:w2.cell? ⟨w1.heap.size,1,none⟩=some (.int .i64 gr):=hc2 1 _ rfl;have g2:w2.cell? ⟨w1.heap.size,2,none⟩=some (.slice none gs.length 0):=hc2 2 _ rfl;have r0:=hk2 _ _ r0;have r1:=hk2 _ _ r1;have r2:=hk2 _ _ r2;(have hn2:w.heap.size+1<w2.heap.size:=by omega);have f0:=qA hbk2 0;have f1:=qA hbk2 1;have f2:=qA hbk2 2
          clear hw2 hs3 hc2;(go_still_tail 9,(by kernel_rfl));change wpList _ _ _ _ _ w2.drew;(go_wp2_with fail);have hwF:Below w.heap.size w (((w2.setCell ⟨w.heap.size+1,0,none⟩ (.int .i64 (p))).setCell ⟨w.heap.size+1,1,none⟩ (.slice none (0) 0)).setCell ⟨w.heap.size+1,2,none⟩ (.int .i64 gr)) :=
            ((hB2.setCell (by show _≤w.heap.size+1;omega) _).setCell (by show _≤w.heap.size+1;omega) _).setCell (by show _≤w.heap.size+1;omega) _
          have hbkF:=qM (w:=w2) hbk2 (.int .i64 (p)) (.slice none (0) 0) (.int .i64 gr);generalize (((w2.setCell ⟨w.heap.size+1,0,none⟩ (.int .i64 (p))).setCell ⟨w.heap.size+1,1,none⟩ (.slice none (0) 0)).setCell ⟨w.heap.size+1,2,none⟩ (.int .i64 gr))=wF at *;refine bodyPost_ret (qH rfl _ _ (w.heap.size+1) 128 #[.int .i64 (p),.slice none (0) 0,.int .i64 gr] (0,0) _ (by rfl) hbkF Try.underlying128 (by rfl) (by kernel_rfl)) rfl ?_;refine ⟨⟨_,rfl,none,0,?_,?_,z0,z1⟩,hwF.drew⟩
          · rw [hcut.out,hcutn.out]
          · rw [hcut.out];exact z2.takeN (by omega)
        | some a =>
          (have hcut:Hid (gs.take (qa ⟨p,gr,gs,gb⟩)=gs.take (0)):=Lib.hid (by congr 1;unfold qa;dsimp only;omega));(have hcutn:Hid ((gs.take (0)).length=(0)):=Lib.hid (by rw [List.length_take];omega));(go_wp2_with fail);obtain ⟨w2,hw2,hs3,hk2,hb2,hc2,-⟩:=named w1 #[.int .i64 (p),.int .i64 gr,.slice (some a) gs.length cr,.slice Ab gb.length cb] 31;have hB2:Below w.heap.size w w2:=hB1.trans (hb2.mono hB1.size);have hbk2:w2.heap[w.heap.size+1]?=some (.cells #[.int .i64 0,.slice none 0 0,.int .i64 0] 128 (0,0)):=(hb2.block _ hs2).trans hbk1;rw [← hw2];have g0:w2.cell? ⟨w1.heap.size,0,none⟩=some (.int .i64 (p)):=hc2 0 _ rfl;have g1:w2.cell? ⟨w1.heap.size,1,none⟩=some (.int .i64 gr):=hc2 1 _ rfl
          have g2:w2.cell? ⟨w1.heap.size,2,none⟩=some (.slice (some a) gs.length cr):=hc2 2 _ rfl;have r0:=hk2 _ _ r0;have r1:=hk2 _ _ r1;have r2:=hk2 _ _ r2;(have hn2:w.heap.size+1<w2.heap.size:=by omega);have f0:=qA hbk2 0;have f1:=qA hbk2 1;have f2:=qA hbk2 2;clear hw2 hs3 hc2
          (go_still_tail 9,(by kernel_rfl));change wpList _ _ _ _ _ w2.drew;(go_wp2_with fail);have hwF:Below w.heap.size w (((w2.setCell ⟨w.heap.size+1,0,none⟩ (.int .i64 (p))).setCell ⟨w.heap.size+1,1,none⟩ (.slice (some a) (0) cr)).setCell ⟨w.heap.size+1,2,none⟩ (.int .i64 gr)) :=
            ((hB2.setCell (by show _≤w.heap.size+1;omega) _).setCell (by show _≤w.heap.size+1;omega) _).setCell (by show _≤w.heap.size+1;omega) _
          have hbkF:=qM (w:=w2) hbk2 (.int .i64 (p)) (.slice (some a) (0) cr) (.int .i64 gr);generalize (((w2.setCell ⟨w.heap.size+1,0,none⟩ (.int .i64 (p))).setCell ⟨w.heap.size+1,1,none⟩ (.slice (some a) (0) cr)).setCell ⟨w.heap.size+1,2,none⟩ (.int .i64 gr))=wF at *;refine bodyPost_ret (qH rfl _ _ (w.heap.size+1) 128 #[.int .i64 (p),.slice (some a) (0) cr,.int .i64 gr] (0,0) _ (by rfl) hbkF Try.underlying128 (by rfl) (by kernel_rfl)) rfl ?_;refine ⟨⟨_,rfl,(some a),cr,?_,?_,z0,z1⟩,hwF.drew⟩
          · rw [hcut.out,hcutn.out]
          · rw [hcut.out];exact z2.takeN (by omega)
    · have hp1:(gs.length:Int)<p:=by omega
      by_cases hp0:0<gs.length
      · (have hg1:(0:Int)<gs.length:=by omega);(have hpc1:(gs.length:Int)≤cr:=by omega);obtain ⟨br,or_,xr,rfl,-,-,-⟩:=z2.int (k:=0) (by omega);(have hcut:Hid (gs.take (qa ⟨p,gr,gs,gb⟩)=gs.take (gs.length)):=Lib.hid (by congr 1;unfold qa;dsimp only;omega));(have hcutn:Hid ((gs.take (gs.length)).length=(gs.length)):=Lib.hid (by rw [List.length_take];omega));(go_wp2_with fail);obtain ⟨w2,hw2,hs3,hk2,hb2,hc2,-⟩:=named w1 #[.int .i64 (p),.int .i64 gr,.slice (some ⟨br,or_,none⟩) gs.length cr,.slice Ab gb.length cb] 31;have hB2:Below w.heap.size w w2:=hB1.trans (hb2.mono hB1.size);have hbk2:w2.heap[w.heap.size+1]?=some (.cells #[.int .i64 0,.slice none 0 0,.int .i64 0] 128 (0,0)):=(hb2.block _ hs2).trans hbk1
        rw [← hw2];have g0:w2.cell? ⟨w1.heap.size,0,none⟩=some (.int .i64 (p)):=hc2 0 _ rfl;have g1:w2.cell? ⟨w1.heap.size,1,none⟩=some (.int .i64 gr):=hc2 1 _ rfl;have g2:w2.cell? ⟨w1.heap.size,2,none⟩=some (.slice (some ⟨br,or_,none⟩) gs.length cr):=hc2 2 _ rfl;have r0:=hk2 _ _ r0;have r1:=hk2 _ _ r1;have r2:=hk2 _ _ r2;(have hn2:w.heap.size+1<w2.heap.size:=by omega);have f0:=qA hbk2 0
        have f1:=qA hbk2 1;have f2:=qA hbk2 2;clear hw2 hs3 hc2;(go_still_tail 9,(by kernel_rfl));change wpList _ _ _ _ _ w2.drew;(go_wp2_with fail);have hwF:Below w.heap.size w (((w2.setCell ⟨w.heap.size+1,0,none⟩ (.int .i64 (p))).setCell ⟨w.heap.size+1,1,none⟩ (.slice (some ⟨br,or_,none⟩) (gs.length) cr)).setCell ⟨w.heap.size+1,2,none⟩ (.int .i64 gr)) :=
          ((hB2.setCell (by show _≤w.heap.size+1;omega) _).setCell (by show _≤w.heap.size+1;omega) _).setCell (by show _≤w.heap.size+1;omega) _
        have hbkF:=qM (w:=w2) hbk2 (.int .i64 (p)) (.slice (some ⟨br,or_,none⟩) (gs.length) cr) (.int .i64 gr);generalize (((w2.setCell ⟨w.heap.size+1,0,none⟩ (.int .i64 (p))).setCell ⟨w.heap.size+1,1,none⟩ (.slice (some ⟨br,or_,none⟩) (gs.length) cr)).setCell ⟨w.heap.size+1,2,none⟩ (.int .i64 gr))=wF at *;refine bodyPost_ret (qH rfl _ _ (w.heap.size+1) 128 #[.int .i64 (p),.slice (some ⟨br,or_,none⟩) (gs.length) cr,.int .i64 gr] (0,0) _ (by rfl) hbkF Try.underlying128 (by rfl) (by kernel_rfl)) rfl ?_;refine ⟨⟨_,rfl,(some ⟨br,or_,none⟩),cr,?_,?_,z0,z1⟩,hwF.drew⟩
        · rw [hcut.out,hcutn.out]
        · rw [hcut.out];exact z2.takeN (by omega)
      · (have hg0:gs.length=0:=by omega);(have hg1:(gs.length:Int)≤0:=by omega);cases Ar with
        | none =>
          obtain rfl:cr=0:=z2.2.1.2 rfl;(have hcut:Hid (gs.take (qa ⟨p,gr,gs,gb⟩)=gs.take (0)):=Lib.hid (by congr 1;unfold qa;dsimp only;omega));(have hcutn:Hid ((gs.take (0)).length=(0)):=Lib.hid (by rw [List.length_take];omega));(go_wp2_with fail);obtain ⟨w2,hw2,hs3,hk2,hb2,hc2,-⟩:=named w1 #[.int .i64 (p),.int .i64 gr,.slice none 0 0,.slice Ab gb.length cb] 31;have hB2:Below w.heap.size w w2:=hB1.trans (hb2.mono hB1.size);have hbk2:w2.heap[w.heap.size+1]?=some (.cells #[.int .i64 0,.slice none 0 0,.int .i64 0] 128 (0,0)):=(hb2.block _ hs2).trans hbk1;rw [← hw2];have g0:w2.cell? ⟨w1.heap.size,0,none⟩=some (.int .i64 (p)):=hc2 0 _ rfl
          have g1:w2.cell? ⟨w1.heap.size,1,none⟩=some (.int .i64 gr):=hc2 1 _ rfl;have g2:w2.cell? ⟨w1.heap.size,2,none⟩=some (.slice none 0 0):=hc2 2 _ rfl;have r0:=hk2 _ _ r0;have r1:=hk2 _ _ r1;have r2:=hk2 _ _ r2;(have hn2:w.heap.size+1<w2.heap.size:=by omega);have f0:=qA hbk2 0;have f1:=qA hbk2 1;have f2:=qA hbk2 2
          clear hw2 hs3 hc2;(go_still_tail 9,(by kernel_rfl));change wpList _ _ _ _ _ w2.drew;(go_wp2_with fail);have hwF:Below w.heap.size w (((w2.setCell ⟨w.heap.size+1,0,none⟩ (.int .i64 (p))).setCell ⟨w.heap.size+1,1,none⟩ (.slice none (0) 0)).setCell ⟨w.heap.size+1,2,none⟩ (.int .i64 gr)) :=
            ((hB2.setCell (by show _≤w.heap.size+1;omega) _).setCell (by show _≤w.heap.size+1;omega) _).setCell (by show _≤w.heap.size+1;omega) _
          have hbkF:=qM (w:=w2) hbk2 (.int .i64 (p)) (.slice none (0) 0) (.int .i64 gr);generalize (((w2.setCell ⟨w.heap.size+1,0,none⟩ (.int .i64 (p))).setCell ⟨w.heap.size+1,1,none⟩ (.slice none (0) 0)).setCell ⟨w.heap.size+1,2,none⟩ (.int .i64 gr))=wF at *;refine bodyPost_ret (qH rfl _ _ (w.heap.size+1) 128 #[.int .i64 (p),.slice none (0) 0,.int .i64 gr] (0,0) _ (by rfl) hbkF Try.underlying128 (by rfl) (by kernel_rfl)) rfl ?_;refine ⟨⟨_,rfl,none,0,?_,?_,z0,z1⟩,hwF.drew⟩
          · rw [hcut.out,hcutn.out]
          · rw [hcut.out];exact z2.takeN (by omega)
        | some a =>
          (have hcut:Hid (gs.take (qa ⟨p,gr,gs,gb⟩)=gs.take (0)):=Lib.hid (by congr 1;unfold qa;dsimp only;omega));(have hcutn:Hid ((gs.take (0)).length=(0)):=Lib.hid (by rw [List.length_take];omega));(go_wp2_with fail);obtain ⟨w2,hw2,hs3,hk2,hb2,hc2,-⟩:=named w1 #[.int .i64 (p),.int .i64 gr,.slice (some a) 0 cr,.slice Ab gb.length cb] 31;have hB2:Below w.heap.size w w2:=hB1.trans (hb2.mono hB1.size);have hbk2:w2.heap[w.heap.size+1]?=some (.cells #[.int .i64 0,.slice none 0 0,.int .i64 0] 128 (0,0)):=(hb2.block _ hs2).trans hbk1;rw [← hw2];have g0:w2.cell? ⟨w1.heap.size,0,none⟩=some (.int .i64 (p)):=hc2 0 _ rfl;have g1:w2.cell? ⟨w1.heap.size,1,none⟩=some (.int .i64 gr):=hc2 1 _ rfl
          have g2:w2.cell? ⟨w1.heap.size,2,none⟩=some (.slice (some a) 0 cr):=hc2 2 _ rfl;have r0:=hk2 _ _ r0;have r1:=hk2 _ _ r1;have r2:=hk2 _ _ r2;(have hn2:w.heap.size+1<w2.heap.size:=by omega);have f0:=qA hbk2 0;have f1:=qA hbk2 1;have f2:=qA hbk2 2;clear hw2 hs3 hc2
          (go_still_tail 9,(by kernel_rfl));change wpList _ _ _ _ _ w2.drew;(go_wp2_with fail);have hwF:Below w.heap.size w (((w2.setCell ⟨w.heap.size+1,0,none⟩ (.int .i64 (p))).setCell ⟨w.heap.size+1,1,none⟩ (.slice (some a) (0) cr)).setCell ⟨w.heap.size+1,2,none⟩ (.int .i64 gr)) :=
            ((hB2.setCell (by show _≤w.heap.size+1;omega) _).setCell (by show _≤w.heap.size+1;omega) _).setCell (by show _≤w.heap.size+1;omega) _
          have hbkF:=qM (w:=w2) hbk2 (.int .i64 (p)) (.slice (some a) (0) cr) (.int .i64 gr);generalize (((w2.setCell ⟨w.heap.size+1,0,none⟩ (.int .i64 (p))).setCell ⟨w.heap.size+1,1,none⟩ (.slice (some a) (0) cr)).setCell ⟨w.heap.size+1,2,none⟩ (.int .i64 gr))=wF at *;refine bodyPost_ret (qH rfl _ _ (w.heap.size+1) 128 #[.int .i64 (p),.slice (some a) (0) cr,.int .i64 gr] (0,0) _ (by rfl) hbkF Try.underlying128 (by rfl) (by kernel_rfl)) rfl ?_;refine ⟨⟨_,rfl,(some a),cr,?_,?_,z0,z1⟩,hwF.drew⟩
          · rw [hcut.out,hcutn.out]
          · rw [hcut.out];exact z2.takeN (by omega)
end Go.Proofs.Ytfoggldjjnabcaa
