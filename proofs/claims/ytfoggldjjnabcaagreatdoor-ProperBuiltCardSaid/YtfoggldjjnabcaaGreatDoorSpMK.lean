/- The program's nameArgs. -/
import Derived.Test.YtfoggldjjnabcaaGreatDoorModAK
import Derived.Test.YtfoggldjjnabcaaGreatDoorSpNK
import Derived.Test.YtfoggldjjnabcaaGreatDoorDmEK
import Derived.Test.YtfoggldjjnabcaaGreatDoorChkDK
import Derived.Test.YtfoggldjjnabcaaGreatDoorLtDK
set_option linter.unusedVariables false
set_option linter.unusedSimpArgs false
namespace Go.Proofs.YtfoggldjjnabcaaGreatDoor
open Go.ChangeShapes Go.WideShapes Go.RowKit Go.Deep
def Mv (w w':World) (lab lab':Nat->Nat) (t:Nat):Prop:=∀ y,y<w.heap.size->lab y=t->w'.heap[y]?=w.heap[y]?/\lab' y=t
section
variable {w w':World} {K t sz n:Nat} {lab lab':Nat->Nat} {ty:TypeId} {v:Value} {xs:List Value} {l:List qN} {ys:List (qN × Value)} {li:List Int}
theorem LRw.mv (h:LRw w K lab t ty sz v n xs) (hm:Mv w w' lab lab' t):LRw w' K lab' t ty sz v n xs :=
 ⟨qJ h.own λ g hg=>(hm g (h.own.lt g hg).2 (h.lb g hg)).1,λ g hg=>(hm g (h.own.lt g hg).2 (h.lb g hg)).2⟩
theorem RdV.mv (h:RdV w lab v li) (hm:Mv w w' lab lab' 0):RdV w' lab' v li:=h.go λ y hy hl=>hm y hy hl
theorem InsO.mv (h:InsO w K lab t v l ys) (hm:Mv w w' lab lab' t) (h0:Mv w w' lab lab' 0):InsO w' K lab' t v l ys:=⟨h.row.mv hm,h.are,λ y hy=>(h.rd y hy).mv h0⟩
end
def x8 (p:Int) (R:Nat):List Int:=(List.range R).map λ r:Nat=>if (r:Int)<p then (r:Int) else (-1:Int)
def y5 (F:qB) (ph:Nat->List Nat) (b:Nat) (al:List Int):Nat->List Int
 | 0=>al
 | k+1=>(y5 F ph b al k).set ((ph b).getD k 0) ((bsO F ph b+k:Nat):Int)
theorem js (F:qB) (ph:Nat->List Nat) (b:Nat) (al:List Int):∀ k,(y5 F ph b al k).length=al.length
 | 0=>rfl
 | k+1=>by unfold y5;rw [List.length_set,js F ph b al k]
theorem q2T {F:qB} {ph:Nat->List Nat} {b:Nat} {al:List Int} (h:∀ z∈al,I64 z) (hb:bsO F ph b<=1000000):∀ k,k<=1000->∀ z∈y5 F ph b al k,I64 z
 | 0,_=>h
 | k+1,hk=>by
  intro z hz;unfold y5 at hz;rcases List.mem_or_eq_of_mem_set hz with h1 | h1
  ·exact q2T h hb k (by omega) z h1
  ·rw [h1];unfold I64;omega
structure NmA (F:qB) (ph:Nat->List Nat) (AE:Nat->List Int->Prop) (X:Nat->List qN) (Y:Nat->Int) (A:Nat->Nat->Nat->Int):Prop where
 order:∀ i b,(qV F.blocks)[i]?=some b->b<F.blocks.length/\(0<=qZ F.blocks b->∃ j a:Nat,j<i/\(qV F.blocks)[j]?=some a/\qZ F.blocks b=(a:Int))
 all:∀ b,b<F.blocks.length->b∈qV F.blocks
 few:(qV F.blocks).length<=1000
 ae:∀ b al,AE b al->al.length=F.regs.length/\∀ z∈al,I64 z
 step:∀ b al0,b<F.blocks.length->(if 0<=qZ F.blocks b then AE (qZ F.blocks b).toNat al0 else al0=x8 F.params F.regs.length) ->
  AE b (alK (y5 F ph b al0 (ph b).length) (qR F b) (qd F ph b) (qd F ph b).length)/\(qd F ph b).mapIdx (nmI (y5 F ph b al0 (ph b).length) (qR F b) (qd F ph b))=X b /\
  (if 0<=(qP F b).term.arg then atV (alK (y5 F ph b al0 (ph b).length) (qR F b) (qd F ph b) (qd F ph b).length) (qP F b).term.arg else (qP F b).term.arg)=Y b
 phi:∀ (b p r:Nat) (al:List Int),b<F.blocks.length->(p:Int)∈qH F.blocks b->r∈ph b->AE p al->atV al (r:Int)=A b p r
structure NmS (wA wq:World) (K:Nat) (labA lab:Nat->Nat) (F:qB) (ph:Nat->List Nat) (AE:Nat->List Int->Prop) (X:Nat->List qN) (Y:Nat->Int) (vB:Value) (PV IV TV:Nat->Value) (G:Nat) (VE:Nat->Value) (dn:List Nat):Prop where
 chg:Chg wA wq labA (λ k=>3<=k)
 ext:∀ y,y<wA.heap.size->lab y=labA y
 rB:LRw wq K lab 3 51 5 vB F.blocks.length ((List.range F.blocks.length).flatMap λ b=>bkC (PV b) (IV b) (qP F b).term.kind (if b∈dn then Y b else (qP F b).term.arg) (TV b))
 rP:∀ b,b<F.blocks.length->LRw wq K lab (100+2 * b) 55 2 (PV b) (ph b).length ((zy F ph b).flatMap phC)
 rI:∀ b,b<F.blocks.length->∃ ys,InsO wq K lab (101+2 * b) (IV b) (if b∈dn then X b else qd F ph b) ys
 rT:∀ b,b<F.blocks.length->RdV wq lab (TV b) (qP F b).term.to
 rG:wq.rowIs G 27 F.blocks.length (λ b=>if b∈dn then VE b else .slice none 0 0)
 lG:lab G=20
 rE:∀ b,b<F.blocks.length->b∈dn->∃ al,AE b al/\LRw wq K lab (10000+b) 3 1 (VE b) F.regs.length (al.map (Value.int .i64))
section
variable {wA w w':World} {K:Nat} {labA lab lab':Nat->Nat} {F:qB} {ph:Nat->List Nat} {AE:Nat->List Int->Prop} {X:Nat->List qN} {Y:Nat->Int} {vB:Value} {PV IV TV VE:Nat->Value} {G:Nat} {dn:List Nat} {S:Nat->Prop}
theorem NmS.mv (h:NmS wA w K labA lab F ph AE X Y vB PV IV TV G VE dn) (hc:Chg w w' lab S) (hl:∀ y,y<w.heap.size->lab' y=lab y) (hS:∀ k,S k->3<=k) (hn:∀ t,S t->t=40\/(10000<=t/\∀ b∈dn,t≠10000+b)) (hF:F.blocks.length<=500) :
  NmS wA w' K labA lab' F ph AE X Y vB PV IV TV G VE dn:=by
 (have mv:∀ t,¬ S t->Mv w w' lab lab' t:=λ t ht y hy wO=>⟨hc.block y hy (by rw [wO];exact ht),by rw [hl y hy];exact wO⟩);(have no:∀ t,t≠40->t<10000->¬ S t:=λ t h1 h2 e=>by rcases hn t e with h | h <;> omega);have hG:=h.rG.lt;refine ⟨?_,λ y hy=>by rw [hl y (by have:=h.chg.size;omega)];exact h.ext y hy,h.rB.mv (mv 3 (no 3 (by omega) (by omega))),λ b hb=>(h.rP b hb).mv (mv _ (no _ (by omega) (by omega))),λ b hb=>?_,λ b hb=>(h.rT b hb).mv (mv 0 (no 0 (by omega) (by omega))),h.rG.of_block (hc.block G hG (by rw [h.lG];exact no 20 (by omega) (by omega))),by rw [hl G hG];exact h.lG,λ b hb hd=>?_⟩
 ·exact ⟨hc.os.trans h.chg.os,hc.tape.trans h.chg.tape,hc.output.trans h.chg.output,Nat.le_trans h.chg.size hc.size,λ y hy hk=>(hc.block y (Nat.lt_of_lt_of_le hy h.chg.size) (λ e=>hk (by have e':=hS _ e;rwa [h.ext y hy] at e'))).trans (h.chg.block y hy hk)⟩
 ·obtain ⟨ys,hy⟩:=h.rI b hb;exact ⟨ys,hy.mv (mv _ (no _ (by omega) (by omega))) (mv 0 (no 0 (by omega) (by omega)))⟩
 ·obtain ⟨al,h1,h2⟩:=h.rE b hb hd;refine ⟨al,h1,h2.mv (mv _ λ e=>?_)⟩;rcases hn _ e with h3 | h3
  ·omega
  ·exact h3.2 b hd rfl
theorem NmS.below (h:NmS wA w K labA lab F ph AE X Y vB PV IV TV G VE dn) (hb:Below w.heap.size w w') (hl:∀ y,y<w.heap.size->lab' y=lab y) (hF:F.blocks.length<=500):NmS wA w' K labA lab' F ph AE X Y vB PV IV TV G VE dn :=
 h.mv (S:=λ _=>False) (Chg.of_below hb) hl (λ _ e=>e.elim) (λ _ e=>e.elim) hF
end
theorem q6R {w:World} {K G n:Nat} {ty:TypeId} {V:Nat->Value} (h:w.rowIs G ty n V) (hK:K<=G) (hn:n<=1000000):w.ownsRow K ty 1 (.slice (some ⟨G,0,none⟩) n n) n ((List.range n).map V):=by
 obtain ⟨cs,h1,h2,h3⟩:=h;(refine ⟨by simp,.inr ⟨G,n,cs,rfl,hK,h1,J4 _,by unfold maxLen;omega,by omega,?_⟩⟩);apply List.ext_getElem?;intro i
 by_cases hi:i<n
 ·rw [List.getElem?_take,if_pos (by omega),Array.getElem?_toList,h3 i hi];simp [hi]
 ·rw [List.getElem?_take,if_neg (by omega)];simp [hi]
theorem q2m {f f':Nat->List Value} {sz b j:Nat} {u:Value} (hf:∀ x,(f x).length=sz) (hj:j<sz) (e:f' b=(f b).set j u) (ne:∀ x,x≠b->f' x=f x):∀ n,b<n->((List.range n).flatMap f).set (b * sz+j) u=(List.range n).flatMap f':=by
 intro n;(have tr:∀ m,((List.range m).flatMap f).length=m * sz:=λ m=>by rw [q3w hf];simp);have wW:∀ m,m<=b->(List.range m).flatMap f'=(List.range m).flatMap f:=λ m hm=>by
  simp only [List.flatMap_def];(congr 1);exact List.map_congr_left λ x hx=>ne x (by have:=List.mem_range.1 hx;omega)
 induction n with
 | zero=>intro h;omega
 | succ n ih =>
  intro hb;rw [List.range_succ,List.flatMap_append,List.flatMap_append,List.flatMap_singleton,List.flatMap_singleton]
  by_cases wj:b<n
  ·rw [List.set_append_left _ _ (by rw [tr];have:(b+1) * sz<=n * sz:=Nat.mul_le_mul_right _ wj;rw [Nat.succ_mul] at this;omega),ih wj,ne n (by omega)]
  ·(obtain rfl:b=n:=by omega);(rw [List.set_append_right _ _ (by rw [tr];omega),tr,wW b (J4 _),e]);(congr 2);omega
theorem NmS.done {wA w w8:World} {K b gB cB:Nat} {labA lab:Nat->Nat} {F:qB} {ph:Nat->List Nat} {AE:Nat->List Int->Prop} {X:Nat->List qN} {Y:Nat->Int} {PV IV TV VE:Nat->Value} {G:Nat} {dn:List Nat} {vat:Value}
  (h:NmS wA w K labA lab F ph AE X Y (.slice (some ⟨gB,0,none⟩) F.blocks.length cB) PV IV TV G VE dn) (hb:b<F.blocks.length) (oE:b ∉ dn) (hF:F.blocks.length<=500) (hc:Chg w w8 lab (λ k=>k=3\/k=101+2 * b\/k=10000+b))
  (hI:∃ ys,InsO w8 K (qk lab w.heap.size 0) (101+2 * b) (IV b) (X b) ys) (hA:∃ al,AE b al/\LRw w8 K (qk lab w.heap.size 0) (10000+b) 3 1 vat F.regs.length (al.map (Value.int .i64)))
  (hB:(w8.heap[gB]?=(w.setCell ⟨gB,b * 5+3,none⟩ (.int .i64 (Y b))).heap[gB]?)\/(Y b=(qP F b).term.arg/\w8.heap[gB]?=w.heap[gB]?)) :
  NmS wA (w8.setCell ⟨G,b,none⟩ vat) K labA (qk lab w.heap.size 0) F ph AE X Y (.slice (some ⟨gB,0,none⟩) F.blocks.length cB) PV IV TV G (qM VE b vat) (dn++[b]):=by
 have hG:=h.rG.lt;(have pj:qk lab w.heap.size 0 G=20:=by rw [qT hG];exact h.lG);have c2:Chg w8 (w8.setCell ⟨G,b,none⟩ vat) (qk lab w.heap.size 0) (λ k=>k=20):=Chg.set (λ k=>k=20) pj b vat;have c12:Chg w (w8.setCell ⟨G,b,none⟩ vat) lab (λ k=>k=3\/k=101+2 * b\/k=10000+b\/k=20):=(Chg.mono hc λ k e=>by omega).then_ (Chg.mono c2 λ k e=>by omega);(have mv:∀ t,¬ (t=3\/t=101+2 * b\/t=10000+b\/t=20)->Mv w (w8.setCell ⟨G,b,none⟩ vat) lab (qk lab w.heap.size 0) t:=λ t ht y hy wO=>⟨c12.block y hy (by rw [wO];exact ht),by rw [qT hy];exact wO⟩);(have wm:∀ x,x∈dn++[b]↔x∈dn\/x=b:=λ x=>by rw [List.mem_append,List.mem_singleton]);have hgB:gB<w.heap.size:=(h.rB.own.lt gB rfl).2;(have hgG:gB≠G:=λ e=>by have h1:=h.rB.lb gB rfl;rw [e,h.lG] at h1;omega);refine ⟨?_,λ y hy=>by rw [qT (by have:=h.chg.size;omega)];exact h.ext y hy,?_,λ q hq=>(h.rP q hq).mv (mv _ (by omega)),λ q hq=>?_,λ q hq=>(h.rT q hq).mv (mv 0 (by omega)),?_,pj,λ q hq hd=>?_⟩
 ·exact ⟨c12.os.trans h.chg.os,c12.tape.trans h.chg.tape,c12.output.trans h.chg.output,Nat.le_trans h.chg.size c12.size,λ y hy hk=>(c12.block y (Nat.lt_of_lt_of_le hy h.chg.size) (λ e=>hk (by
   have e':lab y=3\/lab y=101+2 * b\/lab y=10000+b\/lab y=20:=e;rw [h.ext y hy] at e';show 3<=labA y
   omega))).trans (h.chg.block y hy hk)⟩
 ·have h9:(w8.setCell ⟨G,b,none⟩ vat).heap[gB]?=w8.heap[gB]?:=JQ _ _ _ _ hgG;have pg:∀ g,(Value.slice (some ⟨gB,0,none⟩) F.blocks.length cB).ownBlock=some g->qk lab w.heap.size 0 g=3:=λ g hg=>by
   rw [qT (h.rB.own.lt g hg).2];exact h.rB.lb g hg
  have pu:∀ x,x≠b->(if x∈dn++[b] then Y x else (qP F x).term.arg)=(if x∈dn then Y x else (qP F x).term.arg):=λ x hx=>by
   by_cases hd:x∈dn
   ·rw [if_pos hd,if_pos ((wm x).2 (.inl hd))]
   ·rw [if_neg hd,if_neg (λ e=>by rcases (wm x).1 e with h1 | h1;exact hd h1;exact hx h1)]
  have pw:(if b∈dn++[b] then Y b else (qP F b).term.arg)=Y b:=if_pos ((wm b).2 (.inr rfl));rcases hB with hB | ⟨hY,hB⟩
  ·have hp:=h.rB.put (b * 5+3) (.int .i64 (Y b));rw [q2m (sz:=5) (f:=λ x=>bkC (PV x) (IV x) (qP F x).term.kind (if x∈dn then Y x else (qP F x).term.arg) (TV x)) (f':=λ x=>bkC (PV x) (IV x) (qP F x).term.kind (if x∈dn++[b] then Y x else (qP F x).term.arg) (TV x)) (λ _=>rfl) (by omega) (by show bkC _ _ _ (if b∈dn++[b] then Y b else (qP F b).term.arg) _=_;rw [pw];rfl) (λ x hx=>by show bkC _ _ _ (if x∈dn++[b] then Y x else (qP F x).term.arg) _=_;rw [pu x hx]) _ hb] at hp
   exact ⟨qJ hp.own (λ g hg=>by
    obtain rfl:gB=g:=J3 hg
    exact h9.trans hB),pg⟩
  ·have he:((List.range F.blocks.length).flatMap λ x=>bkC (PV x) (IV x) (qP F x).term.kind (if x∈dn++[b] then Y x else (qP F x).term.arg) (TV x))=(List.range F.blocks.length).flatMap λ x=>bkC (PV x) (IV x) (qP F x).term.kind (if x∈dn then Y x else (qP F x).term.arg) (TV x):=by
    simp only [List.flatMap_def];(congr 1);refine List.map_congr_left λ x _=>?_
    by_cases hx:x=b
    ·subst hx;rw [pw,if_neg oE,hY]
    ·rw [pu x hx]
   rw [he]
   exact ⟨qJ h.rB.own (λ g hg=>by
    obtain rfl:gB=g:=J3 hg
    exact h9.trans hB),pg⟩
 ·by_cases e:q=b
  ·subst e;obtain ⟨ys,hy⟩:=hI;refine ⟨ys,?_⟩;rw [if_pos ((wm q).2 (.inr rfl))];exact hy.chg0' c2 (by omega) (by omega)
  ·obtain ⟨ys,hy⟩:=h.rI q hq;refine ⟨ys,?_⟩;have hm:(if q∈dn++[b] then X q else qd F ph q)=(if q∈dn then X q else qd F ph q):=by
    by_cases hd:q∈dn
    ·rw [if_pos hd,if_pos ((wm q).2 (.inl hd))]
    ·rw [if_neg hd,if_neg (λ e2=>by rcases (wm q).1 e2 with h1 | h1;exact hd h1;exact e h1)]
   rw [hm];exact hy.mv (mv _ (by omega)) (mv 0 (by omega))
 ·(have o8:w8.rowIs G 27 F.blocks.length (λ q=>if q∈dn then VE q else .slice none 0 0):=h.rG.of_block (hc.block G hG (by rw [h.lG];omega)));refine (o8.set b vat).congr λ q hq=>?_
  by_cases e:q=b
  ·subst e;simp [qM,wm]
  ·(have hm:(q∈dn++[b])↔q∈dn:=by rw [wm];exact ⟨λ h1=>h1.resolve_right e,.inl⟩);simp only [hm,q8 _ _ e];simp [e]
 ·by_cases e:q=b
  ·subst e;obtain ⟨al,h1,h2⟩:=hA;exact ⟨al,h1,by rw [qF];exact h2.chg0 c2 (by omega)⟩
  ·have oC:q∈dn:=((wm q).1 hd).resolve_right e;obtain ⟨al,h1,h2⟩:=h.rE q hq oC;exact ⟨al,h1,by rw [q8 _ _ e];exact h2.mv (mv _ (by omega))⟩
def phF (F:qB) (ph:Nat->List Nat) (A:Nat->Nat->Nat->Int) (b k:Nat):PhiD:=⟨((bsO F ph b+k:Nat):Int),(qH F.blocks b).map λ p=>A b p.toNat ((ph b).getD k 0)⟩
def phD (y:PhiD × Value):List Value:=[.int .i64 y.1.dst,y.2]
theorem q0K (y:PhiD × Value):(phD y).length=2:=rfl
structure PhiO (w:World) (K:Nat) (lab:Nat->Nat) (t:Nat) (v:Value) (l:List PhiD) (ys:List (PhiD × Value)):Prop where
 row:LRw w K lab t 55 2 v ys.length (ys.flatMap phD)
 are:ys.map (·.1)=l
 rd:∀ y∈ys,RdV w lab y.2 y.1.args
def ysP (F:qB) (ph:Nat->List Nat) (A:Nat->Nat->Nat->Int) (b:Nat) (VV:Nat->Value) (i:Nat):List (PhiD × Value) :=
 (List.range (ph b).length).map λ q=>if q<i then (phF F ph A b q,VV q) else (⟨((bsO F ph b+q:Nat):Int),[]⟩,.slice none 0 0)
theorem q7X (F:qB) (ph:Nat->List Nat) (A:Nat->Nat->Nat->Int) (b:Nat) (VV:Nat->Value):(ysP F ph A b VV 0).flatMap phD=(zy F ph b).flatMap phC:=by
 unfold ysP zy;rw [List.flatMap_map,List.flatMap_map]
 rfl
theorem q2K (F:qB) (ph:Nat->List Nat) (A:Nat->Nat->Nat->Int) (b:Nat) (VV:Nat->Value) (i:Nat):(ysP F ph A b VV i).length=(ph b).length:=by unfold ysP;simp
theorem qAO {F:qB} {ph:Nat->List Nat} {A:Nat->Nat->Nat->Int} {b:Nat} {VV:Nat->Value} {i:Nat} (h:i<(ph b).length):(ysP F ph A b VV i)[i]?=some (⟨((bsO F ph b+i:Nat):Int),[]⟩,.slice none 0 0):=by unfold ysP;simp [h]
theorem q9M {F:qB} {ph:Nat->List Nat} {A:Nat->Nat->Nat->Int} {b:Nat} {VV:Nat->Value} {i:Nat} (v:Value):(ysP F ph A b VV i).set i (phF F ph A b i,v)=ysP F ph A b (qM VV i v) (i+1):=by
 unfold ysP;apply List.ext_getElem?;intro q;rw [List.getElem?_set]
 by_cases e:i=q
 ·subst e;rw [if_pos rfl]
  by_cases h:i<(ph b).length
  ·simp [h,qM]
  ·simp [h]
 ·rw [if_neg e]
  by_cases h:q<(ph b).length
  ·by_cases h1:q<i
   ·simp [h,h1,qM,Ne.symm e,Nat.lt_succ_of_lt h1]
   ·simp [h,h1,show ¬ q<i+1 by omega]
  ·simp [h]
def SP (k:Nat):Prop:=100<=k/\k<10000/\k % 2=0
structure PhS (wA wq:World) (K:Nat) (labB lab:Nat->Nat) (F:qB) (ph:Nat->List Nat) (A:Nat->Nat->Nat->Int) (PV:Nat->Value) (b:Nat):Prop where
 chg:Chg wA wq labB SP
 ext:∀ y,y<wA.heap.size->lab y=labB y
 old:∀ q,q<b->∃ ys,PhiO wq K lab (100+2 * q) (PV q) ((List.range (ph q).length).map (phF F ph A q)) ys
 new:∀ q,b<q->q<F.blocks.length->LRw wq K lab (100+2 * q) 55 2 (PV q) (ph q).length ((zy F ph q).flatMap phC)
structure PhI (w:World) (K:Nat) (lab:Nat->Nat) (F:qB) (ph:Nat->List Nat) (A:Nat->Nat->Nat->Int) (vP:Value) (b:Nat) (VV:Nat->Value) (i:Nat):Prop where
 row:LRw w K lab (100+2 * b) 55 2 vP (ph b).length ((ysP F ph A b VV i).flatMap phD)
 rd:∀ q,q<i->RdV w lab (VV q) (phF F ph A b q).args
section
variable {wA w w':World} {K:Nat} {labB lab lab':Nat->Nat} {F:qB} {ph:Nat->List Nat} {A:Nat->Nat->Nat->Int} {PV:Nat->Value} {b:Nat} {S:Nat->Prop}
theorem q0B (L:Nat->Nat):∀ n,∃ T,20000<=T/\∀ y,y<n->L y<T
 | 0=>⟨20000,J4 _,λ y hy=>by omega⟩
 | n+1=>by
  obtain ⟨T,h1,h2⟩:=q0B L n;refine ⟨T+L n+1,by omega,λ y hy=>?_⟩
  by_cases e:y=n
  ·subst e;omega
  ·have:=h2 y (by omega);omega
theorem PhS.mv {T:Nat} (hT:20000<=T) (h:PhS wA w K labB lab F ph A PV b) (hc:Chg w w' lab S) (hl:∀ y,y<w.heap.size->lab y≠T->lab' y=lab y) (he:∀ y,y<wA.heap.size->lab' y=lab y) (hS:∀ k,S k->k=T\/k=100+2 * b) (sj:∀ y,y<wA.heap.size->lab y≠T) (hF:b<F.blocks.length) (hn:F.blocks.length<=500):PhS wA w' K labB lab' F ph A PV b:=by
 have mv:∀ t,t≠T->t≠100+2 * b->Mv w w' lab lab' t:=λ t h1 h2 y hy wO=>⟨hc.block y hy (by rw [wO];intro e;rcases hS t e with h | h;exact h1 h;exact h2 h),by rw [hl y hy (by rw [wO];exact h1)];exact wO⟩
 refine ⟨⟨hc.os.trans h.chg.os,hc.tape.trans h.chg.tape,hc.output.trans h.chg.output,Nat.le_trans h.chg.size hc.size,λ y hy hk=>(hc.block y (Nat.lt_of_lt_of_le hy h.chg.size) (λ e=>hk (by
   have e':=hS _ e;have h4:=sj y hy;rw [h.ext y hy] at e' h4;show SP (labB y)
   unfold SP;omega))).trans (h.chg.block y hy hk)⟩,λ y hy=>(he y hy).trans (h.ext y hy),λ q hq=>?_,λ q hq sX=>(h.new q hq sX).mv (mv _ (by omega) (by omega))⟩
 obtain ⟨ys,hy⟩:=h.old q hq;exact ⟨ys,hy.row.mv (mv _ (by omega) (by omega)),hy.are,λ y pU=>(hy.rd y pU).mv (mv 0 (by omega) (by omega))⟩
end
theorem kA {w:World} {K n g c:Nat} {lab:Nat->Nat} {PV IV TV:Nat->Value} {kd ar:Nat->Int} (h:LRw w K lab 3 51 5 (.slice (some ⟨g,0,none⟩) n c) n ((List.range n).flatMap λ b=>bkC (PV b) (IV b) (kd b) (ar b) (TV b))) {b j:Nat} {u:Value} (hb:b<n) (hj:j<5) (hu:(bkC (PV b) (IV b) (kd b) (ar b) (TV b))[j]?=some u):w.cell? ⟨g,b * 5+j,none⟩=some u:=by
 refine h.cell ?_ (by omega);rw [yX (f:=λ b=>bkC (PV b) (IV b) (kd b) (ar b) (TV b)) (sz:=5) (λ _=>rfl) (x:=b) (by simp [hb]) hj];exact hu
def qBG (F:qB) (ph:Nat->List Nat) (X:Nat->List qN) (Y:Nat->Int) (A:Nat->Nat->Nat->Int) (K:Nat) (lab:Nat->Nat) (vB:Value) (PV IV TV:Nat->Value) (w:World) (e:Ending) (w':World):Prop :=
 e=.returned (.tuple #[])/\Chg w w' lab (λ k=>3<=k)/\∃ lab',(∀ y,y<w.heap.size->lab' y=lab y)/\LRw w' K lab' 3 51 5 vB F.blocks.length ((List.range F.blocks.length).flatMap λ b=>bkC (PV b) (IV b) (qP F b).term.kind (Y b) (TV b)) /\
  (∀ b,b<F.blocks.length->∃ ys,PhiO w' K lab' (100+2 * b) (PV b) ((List.range (ph b).length).map (phF F ph A b)) ys)/\(∀ b,b<F.blocks.length->∃ ys,InsO w' K lab' (101+2 * b) (IV b) (X b) ys)/\(∀ b,b<F.blocks.length->RdV w' lab' (TV b) (qP F b).term.to)
set_option maxRecDepth 100000 in
set_option maxHeartbeats 32000000 in
theorem q2a (wb w:World) (F:qB) (ph:Nat->List Nat) (AE:Nat->List Int->Prop) (X:Nat->List qN) (Y:Nat->Int) (A:Nat->Nat->Nat->Int) (K:Nat) (lab:Nat->Nat) (vO vR vB:Value) (PV IV TV:Nat->Value) (YS:Nat->List (qN × Value)) (Gp Kp:Nat) (Vp:Nat->Value)
  (hN:NmA F ph AE X Y A) (hv:VFun wb vO F) (hp:Gri wb Gp Kp F.blocks.length Vp (λ b=>zs (ph b))) (hb:Below wb.heap.size wb w) (wW:∀ k,k<wb.heap.size->lab k<=1) (hKw:K<=w.heap.size)
  (hO:OutS w K lab F ph F.blocks.length vB PV IV TV YS)
  (h0:0<F.blocks.length) (hn:F.blocks.length<=500) (hRg:F.regs.length<=1000) (tV:0<=F.params/\F.params<=F.regs.length)
  (p7:∀ b,b<F.blocks.length->(ph b).length<=300/\∀ r∈ph b,r<F.regs.length) (hl:∀ b∈F.blocks,b.ins.length<=900/\(∀ x∈b.ins,I64 x.dst/\x.dst<F.regs.length/\x.args.length<=1000/\∀ a∈x.args,0<=a/\a<F.regs.length)/\b.term.arg<F.regs.length) :
  Calls Tryz.prog 26 #[.agg #[.int .i64 F.params,.int .i64 F.result,vR,vB],vO,.slice (some ⟨Gp,0,none⟩) F.blocks.length F.blocks.length] w (qBG F ph X Y A K lab vB PV IV TV w):=by
 have rX:=hv;obtain ⟨Ar,cr,Ab,cb,rfl,pZ,pA,-,-⟩:=hv;have HV:=Jj rX;have nB:=Jj pA;have tp:=Jj hN;have sr:=Jj hp;have tC:=Jj hb;have rJ:=Jj wW;have nk:=Jj hKw
 have HO:=Jj hO;have sn:=Jj tV;have sK:=Jj p7;have HL:=Jj hl;obtain ⟨gB,cB,rfl⟩:=hO.rB.form h0;have ow:=run_make_row' (P:=Tryz.prog) 65 27 (.slice none 0 0) 24 Tryz.underlying65 Tryz.info27 rfl .i64 .i64 F.blocks.length (by omega) (by omega);clear rX pZ pA hN hp hb wW hKw hO tV p7 hl;(go_enter Tryz.func26,Tryz.ntmps26);go_upto_region 1 with fail
 obtain ⟨w1,tG⟩:∃ w1,w1=(w.alloc (.cells #[.int .i64 F.params,.int .i64 F.result,vR,.slice (some ⟨gB,0,none⟩) F.blocks.length cB] 30)).alloc (.cells #[.int .i64 F.params,.int .i64 F.result,.slice Ar F.regs.length cr,.slice Ab F.blocks.length cb] 30):=⟨_,rfl⟩;(have th:Below w.heap.size w w1:=by rw [tG];exact ((J5 _ w).alloc (J4 _) _).alloc (by simp) _);(have b3:w1.heap[w.heap.size]?=some (.cells #[.int .i64 F.params,.int .i64 F.result,vR,.slice (some ⟨gB,0,none⟩) F.blocks.length cB] 30):=by rw [tG];exact xG w _ _);(have b4:w1.heap[w.heap.size+1]?=some (.cells #[.int .i64 F.params,.int .i64 F.result,.slice Ar F.regs.length cr,.slice Ab F.blocks.length cb] 30):=by rw [tG];simpa using heap_alloc_new (w.alloc _) _);(have sU:w1.heap.size=w.heap.size+2:=by rw [tG];simp);obtain ⟨N,hN⟩:∃ N,N=w.heap.size:=⟨_,rfl⟩;rw [<- tG];rw [<- hN] at b3 b4 sU ⊢;have c3:=q6 b4 3
 have rN:=Jj b3;have tE:=Jj b4;have wv:Hid (w1.heap.size=N+2/\N=w.heap.size):=Jj ⟨sU,hN⟩;have wk:=Jj th;clear tG th b3 b4 sU hN;(go_upto_region 2 with fail);clear ow c3;obtain ⟨G,hG⟩:∃ G,G=w1.heap.size:=⟨_,rfl⟩;obtain ⟨w2,tS⟩:∃ w2,w2=w1.alloc (.cells (madeCells #[.slice none 0 0] F.blocks.length) 27):=⟨_,rfl⟩
 (have tj:Below w1.heap.size w1 w2:=by rw [tS];exact (J5 _ _).alloc (J4 _) _);(have nv:Hid (w2.rowIs G 27 F.blocks.length (λ _=>.slice none 0 0)):=Jj (by rw [tS,hG];exact World.rowIs_made w1 _ _ _));(have wM:Hid (G=N+2/\w2.heap.size=G+1):=Jj ⟨by rw [hG];exact wv.out.1,by rw [tS,hG];simp⟩);have rO:=Jj tj;have x40:=(q7 tj) _ _ (q6 tE.out 0);have x41:=(q7 tj) _ _ (q6 tE.out 1);have x42:=(q7 tj) _ _ (q6 tE.out 2);have x43:=(q7 tj) _ _ (q6 tE.out 3);rw [<- tS,<- hG]
 clear tS hG tj;(have pE:Hid (∀ W,Below w1.heap.size w1 W->VFun W (.agg #[.int .i64 F.params,.int .i64 F.result,.slice Ar F.regs.length cr,.slice Ab F.blocks.length cb]) F):=Jj (λ W hW=>VFun.keep (q7 (tC.out.trans ((wk.out.mono tC.out.size).trans (hW.mono (by have:=tC.out.size;have:=wk.out.size;omega))))) HV.out));(go_wp2_with fail);refine (jv F _ w2 (pE.out _ rO.out) (by omega)).mono ?_;rintro e w3 ⟨⟨H,rfl,hH,pb,-⟩,tx⟩;have tF:Hid (Below w1.heap.size w1 w3):=Jj (rO.out.trans (tx.mono rO.out.size));(have sq:=Jj (nv.out.of_block (tx.block G (by have:=wM.out;omega))));have rH:=Jj pb;have rL:Hid (G<H):=Jj (by have:=wM.out;omega)
 have x40:=(q7 tx) _ _ x40;have x41:=(q7 tx) _ _ x41;have x42:=(q7 tx) _ _ x42;have x43:=(q7 tx) _ _ x43;clear tx pb hH;(go_wp2_with fail);refine (q1k F _ w3 (pE.out _ tF.out) (by omega)).mono ?_;rintro e w4 ⟨⟨vO,rfl,ho⟩,sI⟩;obtain ⟨ln,sC⟩:∃ ln,(qV F.blocks).length=ln:=⟨_,rfl⟩
 rw [sC] at ho;have pK:=Jj sC;obtain ⟨AO,cO,rfl⟩:=qX ho;have wg:Hid (Below w1.heap.size w1 w4):=Jj (tF.out.trans (sI.mono tF.out.size));have rM:=Jj (sq.out.of_block (sI.block G sq.out.lt));have sp:=Jj (rH.out.of_block (sI.block H rH.out.lt));have rF:=Jj ho;(have rD:Hid (∀ g,(Value.slice AO ln cO).ownBlock=some g->G<g/\g<w4.heap.size):=Jj (λ g hg=>by have h:=ho.lt g hg;have:=wM.out;have:=rL.out;have:=rH.out.lt;omega));have hln1:ln<=1000:=by rw [<- sC];exact tp.out.few
 clear sI ho sC x40 x41 x42 x43;obtain ⟨labA,hlabA⟩:∃ labA:Nat->Nat,labA=λ k=>if k<w.heap.size then lab k else if k=G then 20 else 0:=⟨_,rfl⟩;(have wQ:∀ t,Mv w w4 lab labA t:=λ t y hy hl=>⟨(wg.out.block y (by have:=wk.out.size;omega)).trans (wk.out.block y hy),by rw [hlabA];show (if y<w.heap.size then _ else _)=_;rw [if_pos hy];exact hl⟩);have nj:Hid (labA=λ k=>if k<w.heap.size then lab k else if k=G then 20 else 0):=Jj hlabA;(have pL:Hid (∀ k,w.heap.size<=k->k≠G->labA k=0):=Jj (λ k h1 h2=>by rw [hlabA];show (if k<w.heap.size then _ else _)=_;rw [if_neg (by omega),if_neg h2]));have nh:Hid (labA G=20):=Jj (by rw [hlabA];show (if G<w.heap.size then _ else _)=_;rw [if_neg (by have:=wM.out;have:=wv.out;omega),if_pos rfl])
 have ng:Hid (NmS w4 w4 K labA labA F ph AE X Y (.slice (some ⟨gB,0,none⟩) F.blocks.length cB) PV IV TV G (λ _=>.bool false) []):=Jj (by
  refine ⟨FrX.refl _ _,λ _ _=>rfl,(HO.out.rB.mv (wQ 3)),λ b hb=>(HO.out.rP b hb).mv (wQ _),λ b hb=>⟨YS b,(HO.out.rI b hb).mv (wQ _) (wQ 0)⟩,λ b hb=>(HO.out.rT b hb).mv (wQ 0),rM.out,nh.out,λ b hb h=>by cases h⟩)
 (have tB:Hid (∀ k,k<wb.heap.size->labA k<=1):=Jj (λ k hk=>by rw [hlabA];show (if k<w.heap.size then _ else _)<=1;rw [if_pos (by have:=tC.out.size;omega)];exact rJ.out k hk));(have wJ:Hid (Below wb.heap.size wb w4):=Jj (tC.out.trans ((wk.out.mono tC.out.size).trans (wg.out.mono (by have:=tC.out.size;have:=wk.out.size;omega)))));(have sJ:Hid (∀ wq,Chg w4 wq labA (λ k=>3<=k)->Below wb.heap.size wb wq/\(∀ y,N<=y->y≠G->y<w4.heap.size->wq.heap[y]?=w4.heap[y]?)):=Jj (λ wq hc=>⟨wJ.out.trans ⟨hc.os,hc.tape,hc.output,hc.size,λ y hy=>hc.block y (by have:=wJ.out.size;omega) (by have h1:=tB.out y hy;show ¬ 3<=labA y;omega)⟩,λ y h1 h2 h3=>hc.block y h3 (by rw [pL.out y (by have:=wv.out;omega) h2];omega)⟩));(have hKw4:K<=w4.heap.size:=by have:=wg.out.size;have:=wk.out.size;have:=nk.out;omega);clear hlabA wQ;go_wp2_with fail
 go_loopw [29] (λ s29 wq=>∃ (i:Nat) (lab':Nat->Nat) (VE:Nat->Value),i<=ln/\s29=.int .i64 (i:Int)/\NmS w4 wq K labA lab' F ph AE X Y (.slice (some ⟨gB,0,none⟩) F.blocks.length cB) PV IV TV G VE ((qV F.blocks).take i)) (λ s29 _=>ln - (intOf s29).toNat)
 case atStart=>exact ⟨0,labA,_,Nat.zero_le _,rfl,ng.out⟩
 case round =>
  obtain ⟨i,lab',VE,hi,rfl,hS⟩:=hrel;have HS:=Jj hS;obtain ⟨wu,wh⟩:=sJ.out wr hS.chg;have HBW:=Jj wu;have nw:=Jj wh
  by_cases tu:i<ln
  ·obtain ⟨gO,capO,uO,hvO,huO,hcO,-,hKO,hsO⟩:=vH rF.out tu;(obtain ⟨hAO,-⟩:AO=some ⟨gO,0,none⟩/\cO=capO:=by simpa using hvO);subst hAO;(obtain ⟨b,sG⟩:∃ b,(qV F.blocks)[i]?=some b:=⟨_,Jq (by rw [pK.out];exact tu)⟩);obtain rfl:.int .i64 (b:Int)=uO:=by
    (have h:(((zs (qV F.blocks)).map (Value.int .i64)))[i]?=some (.int .i64 (b:Int)):=by rw [List.getElem?_map,zs,List.getElem?_map,sG];rfl);rw [h] at huO;exact J3 huO
   (have oj:=(JK (a:=⟨gO,i,none⟩) (wh gO (by have:=rD.out gO rfl;have:=wM.out;omega) (by have:=rD.out gO rfl;omega) (rD.out gO rfl).2)).trans hcO);obtain ⟨wj,tf⟩:=tp.out.order i b sG;(have oH:(0:Int)<=b:=by omega);(have oG:(b:Int)<F.blocks.length:=by omega);(have sB:=(JK (a:=⟨H,b,none⟩) (wh H (by have:=rL.out;have:=wM.out;omega) (by have:=rL.out;omega) sp.out.lt)).trans (sp.out.cell wj));(have hbN:wr.heap[N+1]?=some (.cells #[.int .i64 F.params,.int .i64 F.result,.slice Ar F.regs.length cr,.slice Ab F.blocks.length cb] 30 (0,0)):=(wh (N+1) (by omega) (by have:=wM.out;omega) (by have:=wg.out.size;have:=wv.out;omega)).trans ((wg.out.block (N+1) (by have:=wv.out;omega)).trans tE.out));(have hbN3:wr.heap[N]?=some (.cells #[.int .i64 F.params,.int .i64 F.result,vR,.slice (some ⟨gB,0,none⟩) F.blocks.length cB] 30 (0,0)):=(wh N (by omega) (by have:=wM.out;omega) (by have:=wg.out.size;have:=wv.out;omega)).trans ((wg.out.block N (by have:=wv.out;omega)).trans rN.out));have x40:=q6 hbN 0;have x41:=q6 hbN 1
   have x42:=q6 hbN 2;have x43:=q6 hbN 3;have nz:=Jj (q42 F (.agg #[.int .i64 F.params,.int .i64 F.result,.slice Ar F.regs.length cr,.slice Ab F.blocks.length cb]) wr (VFun.keep (q7 wu) HV.out) hRg);have pQ:=Jj sG;have nc:=Jj tf;have HBN:=Jj hbN;have tc:=Jj hbN3;have pG:Hid (w4.heap.size<=wr.heap.size):=Jj hS.chg.size;have hHr:=block_lt_of_cell sB
   clear hS wu wh hvO huO hcO hKO hsO sG tf hbN hbN3;(go_upto_if 39 with (go_at_call 62;refine nz.out.mono ?_;rintro e w5 ⟨⟨G5,rfl,hG5,rZ⟩,tK⟩;have sB:=(q7 tK) _ _ sB;have pN:=Jj (And.intro hG5 rZ);have wV:=Jj tK;clear hG5 rZ tK));clear x40 x41 x42 x43 oj;have r9:=sB;go_cut [10,29] (λ s10 s29 wc=>∃ (Aat:Option Addr) (cat:Nat) (al0:List Int),s29=.int .i64 (i:Int)/\s10=.slice Aat F.regs.length cat/\wc.ownsRow wr.heap.size 3 1 (.slice Aat F.regs.length cat) F.regs.length (al0.map (Value.int .i64))/\al0.length=F.regs.length/\(∀ z∈al0,I64 z)/\(if 0<=qZ F.blocks b then AE (qZ F.blocks b).toNat al0 else al0=x8 F.params F.regs.length)/\Below wr.heap.size wr wc)
   case first =>
    by_cases pc:0<=qZ F.blocks b
    ·obtain ⟨j,a,po,rh,pe⟩:=nc.out pc;(have rm:a∈(qV F.blocks).take i:=Jz (i:=j) (by rw [List.getElem?_take,if_pos po];exact rh));have pD:=(tp.out.order j a rh).1;(have oJ:(0:Int)<=a:=by omega);(have ha1:(a:Int)<F.blocks.length:=by omega);have pt:=(q7 wV.out) _ _ (HS.out.rG.cell pD);rw [if_pos rm] at pt;obtain ⟨al,tz,ww⟩:=HS.out.rE a pD rm;obtain ⟨tm,tL⟩:=tp.out.ae a al tz
     (have ss:=Jj (zj al (VE a) w5 (ql (by rw [tm];exact qJ ww.own (λ g hg=>wV.out.block g (ww.own.lt g hg).2)) tL) (by omega)));rw [pe] at r9;obtain ⟨Ave,cve,tH⟩:=qX ww.own;rw [tH] at pt ss;have sM:Hid (AE a al/\al.length=F.regs.length/\∀ z∈al,I64 z):=Jj ⟨tz,tm,tL⟩;have nf:=Jj pe;clear tz ww tm tL tH rh rm pc;(go_wp2_with (go_at_call 49;refine ss.out.mono ?_;rintro e w6 ⟨⟨v6,rfl,sy⟩,pC⟩;rw [sM.out.2.1] at sy;obtain ⟨A6,c6,rfl⟩:=qX sy;have oZ:=Jj sy;have nD:=Jj pC;clear sy pC));go_meet
     exact ⟨A6,c6,al,rfl,rfl,zw oZ.out wV.out.size,sM.out.2.1,sM.out.2.2,by rw [nf.out,if_pos oJ,Int.toNat_natCast];exact sM.out.1,wV.out.trans (nD.out.mono wV.out.size)⟩
    ·(have hnb':qZ F.blocks b<0:=by omega);(go_wp2_with fail);(go_meet);refine ⟨some ⟨G5,0,none⟩,F.regs.length,x8 F.params F.regs.length,rfl,rfl,?_,by simp [x8],λ z hz=>?_,by rw [if_neg (by omega)],wV.out⟩
     ·have h:=q6R pN.out.2 pN.out.1 (by omega);unfold x8;rw [List.map_map];exact h
     ·unfold x8 at hz;obtain ⟨r,hr,rfl⟩:=List.mem_map.1 hz;rw [List.mem_range] at hr;unfold I64;split <;> omega
   case rest =>
    obtain ⟨Aat,cat,al0,rfl,rfl,sZ,sh,si,tT,pB⟩:=hcut;obtain ⟨labC,hlabC⟩:∃ labC,labC=qk lab' wr.heap.size (10000+b):=⟨_,rfl⟩;have sd:b ∉ (qV F.blocks).take i:=λ hm=>by
     obtain ⟨j,hj⟩:=List.getElem?_of_mem hm;rw [List.getElem?_take] at hj
     split at hj
     ·rename_i po;have h1:=(Jk hj);have h2:=(Jk pQ.out);obtain ⟨h1l,oL⟩:=h1;obtain ⟨h2l,oK⟩:=h2;have:=(List.getElem_inj (kE F.blocks)).1 (oL.trans oK.symm);omega
     ·cases hj
    have ta:=Jj sd;(have pH:Hid (NmS w4 wc K labA labC F ph AE X Y (.slice (some ⟨gB,0,none⟩) F.blocks.length cB) PV IV TV G VE ((qV F.blocks).take i)):=Jj (HS.out.below pB (λ y hy=>by rw [hlabC];exact qT hy) hn));(have nG:Hid (LRw wc K labC (10000+b) 3 1 (.slice Aat F.regs.length cat) F.regs.length ((y5 F ph b al0 0).map (Value.int .i64))):=Jj ⟨zw sZ (by have:=pG.out;omega),λ g hg=>by rw [hlabC];exact ze (sZ.lt g hg).1⟩);have sN:=Jj (And.intro sh (And.intro si tT));(have ni:Hid (∀ y,y<wr.heap.size->labC y=lab' y):=Jj (λ y hy=>by rw [hlabC];exact qT hy));obtain ⟨oh,tq⟩:=sK.out b wj;have tw:=q1A (λ b hb=>(sK.out b hb).1) (λ b hb=>(HL.out b hb).1) b (by omega);(have rt:bsO F ph b<=700000:=by have:=sn.out;omega);obtain ⟨Aq,cq,hVq,tU⟩:=ql (sr.out.own b wj) (λ y hy=>by obtain ⟨x,hx,rfl⟩:=y4 hy;have:=tq x hx;unfold I64;omega)
    obtain ⟨sb,rl⟩:=sJ.out wc pH.out.chg;have ww:=(q7 sb) _ _ (sr.out.row.cell wj);rw [hVq,qg] at ww;have rz:=Jj tU;have rC:=Jj tq;clear hlabC sd sZ sh si tT pB tq tU hVq sb rl tw;(go_wp2_with fail);clear ww
    go_loopw [53] (λ s53 wq=>∃ k:Nat,k<=(ph b).length/\s53=.int .i64 (k:Int)/\NmS w4 wq K labA labC F ph AE X Y (.slice (some ⟨gB,0,none⟩) F.blocks.length cB) PV IV TV G VE ((qV F.blocks).take i)/\LRw wq K labC (10000+b) 3 1 (.slice Aat F.regs.length cat) F.regs.length ((y5 F ph b al0 k).map (Value.int .i64))) (λ s53 _=>(ph b).length - (intOf s53).toNat)
    case atStart=>exact ⟨0,Nat.zero_le _,rfl,pH.out,nG.out⟩
    case round =>
     obtain ⟨k,hk,rfl,hS,hA⟩:=hrel;have oT:=Jj hS;have pS:=Jj hA;obtain ⟨wu,wh⟩:=sJ.out wr hS.chg;(have hbN3:wr.heap[N]?=some (.cells #[.int .i64 F.params,.int .i64 F.result,vR,.slice (some ⟨gB,0,none⟩) F.blocks.length cB] 30 (0,0)):=(wh N (by omega) (by have:=wM.out;omega) (by have:=wg.out.size;have:=wv.out;omega)).trans ((wg.out.block N (by have:=wv.out;omega)).trans rN.out));have x33:=q6 hbN3 3;have y0:wr.cell? ⟨gB,b * 5,none⟩=some (PV b):=by simpa using kA (b:=b) (j:=0) hS.rB wj (by omega) rfl
     by_cases pk:k<(ph b).length
     ·(obtain ⟨bq,oq,xq,rfl,tR,rU,-⟩:=(SInts.keep (q7 wu) rz.out).int (k:=k) (by rw [qg];exact pk));obtain ⟨r,hr,rfl⟩:=jD tR.out;have hrR:=rC.out r (Jz hr);(have oc:(0:Int)<=r:=by omega);(have o9:(r:Int)<F.regs.length:=by omega);(have hk0:(0:Int)<=k:=by omega);(have hk1:(k:Int)<(ph b).length:=by omega);obtain ⟨gP,cP,hPV⟩:=(hS.rP b wj).form (by omega);have hP:=hS.rP b wj
      rw [hPV] at y0 hP;have z0:wr.cell? ⟨gP,k * 2,none⟩=some (.int .i64 ((bsO F ph b+k:Nat):Int)):=by
       (have h:=hP.cell (i:=k * 2+0) (u:=.int .i64 ((bsO F ph b+k:Nat):Int)) (by rw [yX q9d (q3R pk) (by omega)];rfl) (by omega));simpa using h
      obtain ⟨gA,cA,hAat⟩:=hA.form (by omega);(obtain ⟨hAat1,-⟩:Aat=some ⟨gA,0,none⟩/\cat=cA:=by simpa using hAat);subst hAat1;(have tm:(y5 F ph b al0 k).length=F.regs.length:=by rw [js];exact sN.out.1);obtain ⟨za,rQ⟩:∃ za,(y5 F ph b al0 k)[r]?=some za:=⟨_,Jq (by omega)⟩;(have a1:wr.cell? ⟨gA,r,none⟩=some (.int .i64 za):=hA.cell (by rw [List.getElem?_map,rQ];rfl) (by omega));have a2:wr.frozen? ⟨gA,r,none⟩=false:=hA.own.frozenAt r
      have oS:Hid (y5 F ph b al0 (k+1)=(y5 F ph b al0 k).set r ((bsO F ph b+k:Nat):Int)):=Jj (by
       show (y5 F ph b al0 k).set ((ph b).getD k 0) _=_
       rw [JJ,hr];rfl)
      clear hS hA wu wh hbN3 tR hr hPV hP hAat tm rQ;go_wp2_with fail
      go_roundw
      case rel =>
       have tZ:=pS.out.chgPut r (.int .i64 ((bsO F ph b+k:Nat):Int));refine ⟨k+1,by omega,by go_num,oT.out.mv tZ (λ _ _=>rfl) (λ q e=>by omega) (λ q e=>.inr ⟨by omega,λ b' oI=>?_⟩) hn,?_⟩
       ·intro e2;(have:b=b':=by omega);subst this;exact ta.out oI
       ·rw [oS.out,List.map_set];exact pS.out.put r _
      case measure=>simp [intOf];omega
     ·(have oy:k=(ph b).length:=by omega);subst oy;(have hbN:=(wh (N+1) (by omega) (by have:=wM.out;omega) (by have:=wg.out.size;have:=wv.out;omega)).trans ((wg.out.block (N+1) (by have:=wv.out;omega)).trans tE.out));have x43:=q6 hbN 3;obtain ⟨bb,ob,kb,hAb,sE,⟨Ap,cp,k0,-⟩,⟨Ai,ci,k1,rY⟩,⟨k2,-⟩,⟨k3,-⟩,⟨At,ct,k4,-⟩⟩:=nB.out.at_ wj;subst hAb;have k0:=(q7 wu) _ _ k0;have k1:=(q7 wu) _ _ k1;have k2:=(q7 wu) _ _ k2
      have k3:=(q7 wu) _ _ k3;have k4:=(q7 wu) _ _ k4;obtain ⟨ys,hI⟩:=hS.rI b wj;rw [if_neg ta.out] at hI;obtain ⟨Av,cv,hIV⟩:=qX hI.row.own;have hIl:=hI.len;rw [hIl] at hIV;have tW:qR F b=kb.ins:=qe sE.out;have p9:(qd F ph b).length=kb.ins.length:=by unfold qd;rw [List.length_mapIdx,tW]
      (have sS:(qP F b).term.arg=kb.term.arg:=by unfold qP;rw [JJ,sE.out];rfl);obtain ⟨hL1,hL2,hL3⟩:=HL.out kb (Jz sE.out);(have z1:wr.cell? ⟨gB,b * 5+1,none⟩=some (.slice Av (qd F ph b).length cv):=by rw [<- hIV];exact kA (b:=b) (j:=1) hS.rB wj (by omega) rfl);have z3:wr.cell? ⟨gB,b * 5+3,none⟩=some (.int .i64 kb.term.arg):=by
       have h:=kA (b:=b) (j:=3) hS.rB wj (by omega) rfl;rw [if_neg ta.out,sS] at h;exact h
      have hdB:Below wr.heap.size wr wr.drew:=(J5 _ wr).drew;have oP:=Jj (And.intro hS.rB (And.intro (wu.drew) hI));have hpA:(y5 F ph b al0 (ph b).length).length=F.regs.length:=by rw [js];exact sN.out.1
      have pJ:=Jj (q0m wb wr.drew K gB (b * 5) (101+2 * b) (10000+b) cat Aat labC kb.ins (qd F ph b) ys (y5 F ph b al0 (ph b).length) kb.term.arg kb.term.arg kb.term.kind Av Ap Ai At cv kb.phis.length cp ci kb.term.to.length ct
       z1 z3 (λ j=>hS.rB.own.frozenAt j) (hS.rB.lb gB rfl) ⟨⟨by rw [<- hIV];exact hI.row.own,by rw [<- hIV];exact hI.row.lb⟩,hI.are,hI.rd⟩ rY wu.drew (λ y hy=>by
        rw [ni.out y (by have:=wu.size;have:=pG.out;have:=wJ.out.size;omega),HS.out.ext y (by have:=wJ.out.size;omega)];exact tB.out y hy)
       ⟨by rw [hpA];exact hA.own,by rw [hpA];exact hA.lb⟩ (by omega) ⟨by omega,by omega⟩ p9.symm (by omega) (by omega) (q2T sN.out.2.1 (by omega) _ (by omega)) (λ x hx=>by
        unfold qd at hx;obtain ⟨q,hq⟩:=List.getElem?_of_mem hx;rw [List.getElem?_mapIdx] at hq;obtain ⟨x0,rW,rfl⟩:=Option.map_eq_some_iff.1 hq;rw [tW] at rW;have h:=hL2 x0 (Jz rW);rw [hpA]
        exact ⟨h.2.2.1,h.2.2.2⟩) (λ q x y hx hy=>by
        unfold qd at hx;rw [List.getElem?_mapIdx,tW,hy] at hx;obtain rfl:=J3 hx;have h:=hL2 y (Jz hy);have hq:=(Jk hy).1;have hd:=xv ((qR F b).take q);rw [List.length_take] at hd;rw [hpA];show I64 (if 0<=y.dst then _ else _)/\(0<=(if 0<=y.dst then _ else _:Int)->_)
        by_cases e:0<=y.dst
        ·rw [if_pos e];exact ⟨by unfold I64;omega,λ _=>⟨e,h.2.1⟩⟩
        ·rw [if_neg e];exact ⟨h.1,λ e2=>absurd e2 e⟩) (Nat.le_trans hKw4 hS.chg.size) (by rw [hpA];exact hL3))
      have sL:=Jj (And.intro tW (And.intro sS hIV));have hfG:=hS.rG.frozen b;have hcG:=hS.rG.cell wj;have rA:=Jj (hS.below hdB (λ _ _=>rfl) hn);clear hS hA wu wh hbN3 hbN sE rY hI hIl hL1 hL2 hL3 oP p9 sS tW;(go_upto_region 14 with fail);(go_still_tail 10,(by kernel_rfl));change wpList _ _ _ _ _ wr.drew;rw [hpA] at pJ
      have hlG:=rA.out.lG;have hGl:=rA.out.rG.lt;go_wp2_with (go_at_call 63;refine pJ.out.mono ?_;rintro e w8 ⟨rfl,rp,⟨ys8,hI8⟩,hA8,hB8⟩;have hG8:=rp.block G hGl (by rw [hlG];omega);have s8:=(JK (a:=⟨G,b,none⟩) hG8).trans hcG;have t8:=(World.frozen?_of_block (a:=⟨G,b,none⟩) hG8).trans hfG;have nA:=Jj rp;have ns:=Jj hI8;have nH:=Jj hA8;have nC:=Jj hB8;clear rp hI8 hA8 hB8 hG8)
      go_roundw
      case rel =>
       obtain ⟨q1,q2,q3⟩:=tp.out.step b al0 wj sN.out.2.2;rw [sL.out.1] at q1 q2 q3;rw [sL.out.2.1] at q3
       refine ⟨i+1,_,_,by omega,by go_num,by
        rw [qG pQ.out]
        exact rA.out.done wj ta.out hn nA.out ⟨_,by rw [sL.out.2.2,<- q2];exact ns.out⟩ ⟨_,q1,by have h:=nH.out;rw [hpA] at h;exact h⟩ (by
         rcases nC.out with ⟨h1,h2⟩ | ⟨h1,h2⟩
         ·left;rw [<- q3,if_pos h1];exact h2
         ·right;exact ⟨by rw [<- q3,if_neg (by omega),sL.out.2.1],h2⟩)⟩
      case measure=>simp [intOf];omega
  ·(have ri:i=ln:=by omega);subst ri;(have pW:(qV F.blocks).take i=qV F.blocks:=List.take_of_length_le (by rw [pK.out];exact J4 _));rw [pW] at hS;(have hbN:wr.heap[N+1]?=some (.cells #[.int .i64 F.params,.int .i64 F.result,.slice Ar F.regs.length cr,.slice Ab F.blocks.length cb] 30 (0,0)):=(wh (N+1) (by omega) (by have:=wM.out;omega) (by have:=wg.out.size;have:=wv.out;omega)).trans ((wg.out.block (N+1) (by have:=wv.out;omega)).trans tE.out));(have hbN3:wr.heap[N]?=some (.cells #[.int .i64 F.params,.int .i64 F.result,vR,.slice (some ⟨gB,0,none⟩) F.blocks.length cB] 30 (0,0)):=(wh N (by omega) (by have:=wM.out;omega) (by have:=wg.out.size;have:=wv.out;omega)).trans ((wg.out.block N (by have:=wv.out;omega)).trans rN.out));have x40:=q6 hbN 0;have x41:=q6 hbN 1;have x42:=q6 hbN 2
   have x43:=q6 hbN 3;have nF:=Jj (xM F (.agg #[.int .i64 F.params,.int .i64 F.result,.slice Ar F.regs.length cr,.slice Ab F.blocks.length cb]) wr (VFun.keep (q7 wu) HV.out) (by omega));have sm:=Jj hS;have tc:=Jj hbN3;(have na:Hid (lab' N=0):=Jj (by rw [hS.ext N (by have:=wg.out.size;have:=wv.out;omega)];exact pL.out N (by have:=wv.out;omega) (by have:=wM.out;omega)));clear hS wu wh hbN hbN3;(go_wp2_with (go_at_call 64;refine nF.out.mono ?_;rintro e w5 ⟨⟨VA,GA,rfl,hGA,pq⟩,tK⟩;have tP:=Jj (And.intro hGA pq);have wV:=Jj tK;clear hGA pq tK));clear x40 x41 x42 x43;obtain ⟨labB,hlabB⟩:∃ labB,labB=qk lab' wr.heap.size 0:=⟨_,rfl⟩
   (have wl:Hid (NmS w4 w5 K labA labB F ph AE X Y (.slice (some ⟨gB,0,none⟩) F.blocks.length cB) PV IV TV G VE (qV F.blocks)):=Jj (sm.out.below wV.out (λ y hy=>by rw [hlabB];exact qT hy) hn));(have tO:Hid ((∀ y,y<wr.heap.size->labB y=lab' y)/\∀ y,wr.heap.size<=y->labB y=0):=Jj ⟨λ y hy=>by rw [hlabB];exact qT hy,λ y hy=>by rw [hlabB];exact ze hy⟩);(have tD:Hid (w5.heap[N]?=some (.cells #[.int .i64 F.params,.int .i64 F.result,vR,.slice (some ⟨gB,0,none⟩) F.blocks.length cB] 30 (0,0))/\labB N=0):=Jj ⟨(wV.out.block N (zG tc.out)).trans tc.out,by rw [tO.out.1 N (zG tc.out)];exact na.out⟩);obtain ⟨sc,-⟩:=sJ.out w5 wl.out.chg;have wZ:=Jj sc
   have sk:Hid (∀ k,k<wb.heap.size->labB k<=1):=Jj (λ k hk=>by
    have h1:=wJ.out.size;have h2:=sm.out.chg.size
    rw [tO.out.1 k (by omega),sm.out.ext k (by omega)];exact tB.out k hk)
   have pO:Hid (∀ b,b<F.blocks.length->b∈qV F.blocks):=Jj tp.out.all;have hP0:PhS w5 w5 K labB labB F ph A PV 0:=⟨FrX.refl _ _,λ _ _=>rfl,λ q hq=>by omega,λ q hq sX=>wl.out.rP q sX⟩;have hR0:LRw w5 K labB (100+2 * 0) 55 2 (PV 0) (ph 0).length ((zy F ph 0).flatMap phC):=wl.out.rP 0 h0;have pI:=Jj (And.intro hP0 hR0);obtain ⟨T,hT1,hT2⟩:=q0B labB w5.heap.size;have HT:=Jj (And.intro hT1 hT2);clear hlabB sc hP0 hR0 hT2
   go_loopw [91] (λ s91 wq=>∃ (b:Nat) (lab:Nat->Nat),b<=F.blocks.length/\s91=.int .i64 (b:Int)/\PhS w5 wq K labB lab F ph A PV b/\(b<F.blocks.length->LRw wq K lab (100+2 * b) 55 2 (PV b) (ph b).length ((zy F ph b).flatMap phC))/\(∀ y,lab y≠T)) (λ s91 _=>F.blocks.length - (intOf s91).toNat)
   case atStart=>exact ⟨0,labB,Nat.zero_le _,rfl,pI.out.1,λ _=>pI.out.2,λ y=>by
    by_cases hy:y<w5.heap.size
    ·have:=HT.out.2 y hy;omega
    ·rw [tO.out.2 y (by have:=wV.out.size;omega)];omega⟩
   case round =>
    obtain ⟨b,lab3,hbl,rfl,hS3,hR3,sj⟩:=hrel;have wU:=Jj hS3;have HR3:=Jj hR3;have nI:=Jj sj
    by_cases wj:b<F.blocks.length
    ·(have oH:(0:Int)<=b:=by omega);(have oG:(b:Int)<F.blocks.length:=by omega);have wh:∀ y,y<w5.heap.size->¬ SP (labB y)->wr.heap[y]?=w5.heap[y]?:=λ y hy hs=>hS3.chg.block y hy hs;have nw:=Jj wh;(have rk:=(JK (a:=⟨GA,b,none⟩) (wh GA tP.out.2.row.lt (by rw [tO.out.2 GA tP.out.1];unfold SP;omega))).trans (tP.out.2.row.cell wj));obtain ⟨AV,cV,hVA⟩:=qX (tP.out.2.own b wj);obtain ⟨la,sD⟩:∃ la,(qH F.blocks (b:Nat)).length=la:=⟨_,rfl⟩;(have hla1:la<=500:=by rw [<- sD];have:=vU F.blocks 0 (b:Nat);unfold qH;omega);rw [hVA] at rk
     have wX:=Jj sD;have pr:wr.cell? ⟨Gp,b,none⟩=some (Vp b):=by
      have h1:=sr.out.row.lt;have h2:=wZ.out.size;have h3:=wJ.out.size;exact (JK (a:=⟨Gp,b,none⟩) (wh Gp (by omega) (by have h4:=sk.out Gp h1;unfold SP;omega))).trans ((q7 wZ.out) _ _ (sr.out.row.cell wj))
     obtain ⟨oh,tq⟩:=sK.out b wj;(obtain ⟨Aq,cq,hVq,tU⟩:=ql (sr.out.own b wj) (λ y hy=>by obtain ⟨x,hx,rfl⟩:=y4 hy;have:=tq x hx;unfold I64;omega));rw [hVq,qg] at pr;have rz:=Jj tU;have rC:=Jj tq;have oQ:=Jj hVA;have tw:=q1A (λ b hb=>(sK.out b hb).1) (λ b hb=>(HL.out b hb).1) b (by omega);(have rt:bsO F ph b<=700000:=by have:=sn.out;omega);have hRb:=hR3 wj
     (have nu:Hid (PhI wr K lab3 F ph A (PV b) b (λ _=>.bool false) 0):=Jj ⟨by rw [q7X];exact hRb,λ q hq=>by omega⟩);rw [sD] at rk;clear hS3 hR3 sj wh hVA sD tq tU hVq tw hRb;(go_wp2_with fail);clear rk pr
     go_loopw [101] (λ s101 wq=>∃ (i:Nat) (lab4:Nat->Nat) (VV:Nat->Value),i<=(ph b).length/\s101=.int .i64 (i:Int)/\PhS w5 wq K labB lab4 F ph A PV b/\PhI wq K lab4 F ph A (PV b) b VV i/\(∀ y,lab4 y≠T)) (λ s101 _=>(ph b).length - (intOf s101).toNat)
     case atStart=>exact ⟨0,lab3,_,Nat.zero_le _,rfl,wU.out,nu.out,nI.out⟩
     case round =>
      obtain ⟨i,lab4,VV,hi,rfl,hS4,hI4,rx⟩:=hrel;have tN:=Jj hS4;have rK:=Jj hI4;have pT:=Jj rx;have wh:∀ y,y<w5.heap.size->¬ SP (labB y)->wr.heap[y]?=w5.heap[y]?:=λ y hy hs=>hS4.chg.block y hy hs
      by_cases tu:i<(ph b).length
      ·(have py:Below wb.heap.size wb wr:=wZ.out.trans ⟨hS4.chg.os,hS4.chg.tape,hS4.chg.output,hS4.chg.size,λ y hy=>hS4.chg.block y (by have:=wZ.out.size;omega) (by have h4:=sk.out y hy;show ¬ SP (labB y);unfold SP;omega)⟩);(obtain ⟨bq,oq,xq,rfl,tR,rU,-⟩:=(SInts.keep (q7 py) rz.out).int (k:=i) (by rw [qg];exact tu));obtain ⟨r,hr,rfl⟩:=jD tR.out;have hrR:=rC.out r (Jz hr);(have oc:(0:Int)<=r:=by omega);(have o9:(r:Int)<F.regs.length:=by omega);(have hi0:(0:Int)<=i:=by omega);(have hi1:(i:Int)<(ph b).length:=by omega);have ov:=q6 ((wh N (zG tD.out.1) (by rw [tD.out.2];unfold SP;omega)).trans tD.out.1) 3
       have hgBl:=(wl.out.rB.own.lt gB rfl).2;have y0:wr.cell? ⟨gB,b * 5,none⟩=some (PV b):=by
        have h:=kA (b:=b) (j:=0) wl.out.rB wj (by omega) rfl;rw [Nat.add_zero] at h;exact (JK (a:=⟨gB,b * 5,none⟩) (wh gB hgBl (by rw [wl.out.rB.lb gB rfl];unfold SP;omega))).trans h
       obtain ⟨gP,cP,hPV⟩:=hI4.row.form (by omega);rw [hPV] at y0;have oX:=Jj hPV;have HR:=Jj (Jz hr);have oU:Hid ((ph b).getD i 0=r):=Jj (by rw [JJ,hr];rfl)
       have nl:Hid (LRw wr K lab4 (100+2 * b) 55 2 (.slice (some ⟨gP,0,none⟩) (ph b).length cP) (ph b).length (((ysP F ph A b VV i).set i (⟨((bsO F ph b+i:Nat):Int),((qH F.blocks (b:Nat)).take 0).map λ p=>A b p.toNat r⟩,.slice none 0 0)).flatMap phD)):=Jj (by
        have h:=hI4.row;rw [hPV] at h;have he:(ysP F ph A b VV i).set i (⟨((bsO F ph b+i:Nat):Int),((qH F.blocks (b:Nat)).take 0).map λ p=>A b p.toNat r⟩,.slice none 0 0)=ysP F ph A b VV i:=by
         apply List.ext_getElem?;intro q;rw [List.getElem?_set]
         by_cases e:i=q
         ·subst e;rw [if_pos rfl,if_pos (by rw [q2K];exact tu),qAO tu];rfl
         ·rw [if_neg e]
        rw [he];exact h)
       clear hS4 hI4 rx wh py tR hr hPV hrR;(go_wp2_with fail);clear rU ov y0;obtain ⟨i0,hi_,hz0_,hz1_,hz2_⟩:=info_parts Tryz.info3;have wY:=Jj (And.intro hi_ (And.intro hz0_ (And.intro hz1_ hz2_)));clear hi_ hz0_ hz1_ hz2_
       go_loopw [116] (λ s116 wq=>∃ (j:Nat) (lab5:Nat->Nat) (v:Value),j<=la/\s116=.int .i64 (j:Int)/\PhS w5 wq K labB lab5 F ph A PV b/\LRw wq K lab5 (100+2 * b) 55 2 (.slice (some ⟨gP,0,none⟩) (ph b).length cP) (ph b).length (((ysP F ph A b VV i).set i (⟨((bsO F ph b+i:Nat):Int),((qH F.blocks (b:Nat)).take j).map λ p=>A b p.toNat r⟩,v)).flatMap phD)/\(∀ q,q<i->RdV wq lab5 (VV q) (phF F ph A b q).args)/\LRw wq K lab5 T 3 1 v j ((((qH F.blocks (b:Nat)).take j).map λ p=>A b p.toNat r).map (Value.int .i64))/\(∀ y,y<w5.heap.size->lab5 y≠T)/\∀ z∈((qH F.blocks (b:Nat)).take j).map λ p=>A b p.toNat r,I64 z) (λ s116 _=>la - (intOf s116).toNat)
       case atStart=>exact ⟨0,lab4,_,Nat.zero_le _,rfl,tN.out,nl.out,rK.out.rd,LRw.nil _ _ _ _ _ _,λ y _=>pT.out y,λ z hz=>by simp at hz⟩
       case round =>
        obtain ⟨j,lab5,v,hj,rfl,hS5,hR5,hD5,hV5,rv,tQ⟩:=hrel;have tM:=Jj hS5;have oW:=Jj hR5;have pP:=Jj hD5;have ry:=Jj hV5;have sO:=Jj rv;have oN:=Jj tQ
        by_cases pm:j<la
        ·have wh:∀ y,y<w5.heap.size->¬ SP (labB y)->wr.heap[y]?=w5.heap[y]?:=λ y hy hs=>hS5.chg.block y hy hs;(obtain ⟨gv,cgv,uv,tH,sR,px,-,hKv,pY⟩:=vH (tP.out.2.own b wj) (i:=j) (by rw [wX.out];exact pm));rw [oQ.out] at tH;(obtain ⟨hAV,-⟩:AV=some ⟨gv,0,none⟩/\cV=cgv:=by simpa using tH);subst hAV;(obtain ⟨pz,sw⟩:∃ pz,(qH F.blocks (b:Nat))[j]?=some pz:=⟨_,Jq (by rw [wX.out];exact pm)⟩);(obtain rfl:.int .i64 pz=uv:=by rw [List.getElem?_map,sw] at sR;exact J3 sR);have sY:=Jz sw;obtain ⟨hp0,hp1⟩:0<=pz/\pz<F.blocks.length:=by have:=qw F.blocks 0 (b:Nat) pz sY;simp at this;omega
         obtain ⟨q,rfl⟩:∃ q:Nat,pz=(q:Int):=⟨pz.toNat,by omega⟩;(have sV:q<F.blocks.length:=by omega);(have pV:=(JK (a:=⟨gv,j,none⟩) (wh gv pY (by rw [tO.out.2 gv (by have:=tP.out.1;omega)];unfold SP;omega))).trans px);have sW:=pO.out q sV;have hGl:=wl.out.rG.lt;have tY:wr.cell? ⟨G,q,none⟩=some (VE q):=by
          have h:=wl.out.rG.cell sV;rw [if_pos sW] at h;exact (JK (a:=⟨G,q,none⟩) (wh G hGl (by rw [wl.out.lG];unfold SP;omega))).trans h
         obtain ⟨al,tz,tJ⟩:=wl.out.rE q sV sW;obtain ⟨ge,ce,hVE⟩:=tJ.form (by omega);rw [hVE] at tY tJ;obtain ⟨ru,tL⟩:=tp.out.ae q al tz;obtain ⟨z,hz⟩:∃ z,al[r]?=some z:=⟨_,Jq (by omega)⟩;have tX:=(tJ.own.lt ge rfl).2;have hgeL:=tJ.lb ge rfl;(have sF:wr.cell? ⟨ge,r,none⟩=some (.int .i64 z):=(JK (a:=⟨ge,r,none⟩) (wh ge tX (by rw [hgeL];unfold SP;omega))).trans (tJ.cell (by rw [List.getElem?_map,hz];rfl) (by omega)));have pR:Hid (A b q r=z/\I64 z):=Jj ⟨by rw [<- tp.out.phi b q r al wj sY HR.out tz];unfold atV;rw [Int.toNat_natCast,JJ,hz];rfl,tL z (Jz hz)⟩
         obtain ⟨Av,cv,rfl⟩:=qX hV5.own;(have sQ:((ysP F ph A b VV i).set i (⟨((bsO F ph b+i:Nat):Int),((qH F.blocks (b:Nat)).take j).map λ p=>A b p.toNat r⟩,.slice Av j cv))[i]?=some (⟨((bsO F ph b+i:Nat):Int),((qH F.blocks (b:Nat)).take j).map λ p=>A b p.toNat r⟩,.slice Av j cv):=by rw [List.getElem?_set,if_pos rfl,if_pos (by rw [q2K];exact tu)]);(have sx:wr.cell? ⟨gP,i * 2+1,none⟩=some (.slice Av j cv):=hR5.cell (by rw [yX q0K sQ (by omega)];rfl) (by omega));have p8:wr.frozen? ⟨gP,i * 2+1,none⟩=false:=hR5.own.frozenAt _;have oO:=Jj sQ;have pF:Hid (((qH F.blocks (b:Nat)).take (j+1)).map (λ p=>A b p.toNat r)=((qH F.blocks (b:Nat)).take j).map (λ p=>A b p.toNat r)++[z]):=Jj (by rw [qG sw,List.map_append,List.map_singleton,Int.toNat_natCast,pR.out.1]);have hgPl:=hR5.own.lt gP rfl;have hgPL:=hR5.lb gP rfl
         have su:Hid (∀ y,y=gP\/y=G\/y=ge->y<wr.heap.size/\(Value.slice Av j cv).ownBlock≠some y):=Jj (λ y hy=>by
          have pX:=hS5.chg.size;have hT1:=HT.out.1;(refine ⟨by rcases hy with h | h | h <;> omega,λ e=>?_⟩);have h1:=hV5.lb y e;rcases hy with rfl | rfl | rfl
          ·rw [hgPL] at h1;omega
          ·rw [hS5.ext y hGl,wl.out.lG] at h1;omega
          ·rw [hS5.ext y tX,hgeL] at h1;omega)
         (have hq0:(0:Int)<=q:=by omega);(have hj0:(0:Int)<=j:=by omega);(have hj1:(j:Int)<la:=by omega);clear hS5 hR5 hD5 hV5 rv tQ wh tH sR px sw sY sW tz tJ hVE ru tL hz sQ hgPL hgeL;(go_upto_region 27 with fail);have hS0:wr.drew.cell? ⟨gP,i * 2+1,none⟩=some (.slice Av j cv)/\wr.drew.cell? ⟨G,q,none⟩=some (.slice (some ⟨ge,0,none⟩) F.regs.length ce)/\wr.drew.cell? ⟨ge,r,none⟩=some (.int .i64 z):=⟨sx,tY,sF⟩;clear pV;refine qS (L:=16) (S:=λ w':World=>w'.cell? ⟨gP,i * 2+1,none⟩=some (.slice Av j cv)/\w'.cell? ⟨G,q,none⟩=some (.slice (some ⟨ge,0,none⟩) F.regs.length ce)/\w'.cell? ⟨ge,r,none⟩=some (.int .i64 z)) (by kernel_rfl) (by rfl) (by kernel_rfl) (by kernel_rfl) ?_;change wpAnyH _ _ _ _ _ _ _ _ (World.drew _)
         refine tk 0 120 hS0 ?_;simp only [J6,aS,J1,J2];refine tk 1 121 hS0 ?_;simp only [J6,aS,J1,J2];refine tk 2 122 hS0 ?_;simp only [J6,aS,J1,J2];refine tk 3 123 hS0 ?_;simp only [J6,aS,J1,J2];refine tk 4 124 hS0 ?_
         simp only [J6,aS,J1,J2];refine tk 5 125 hS0 ?_;simp only [J6,aS,J1,J2];refine tk 6 126 hS0 ?_;simp only [J6,aS,J1,J2];refine tk 7 127 hS0 ?_;simp only [J6,aS,J1,J2];refine tk 8 128 hS0 ?_;simp only [J6,aS,J1,J2]
         refine tk 9 129 hS0 ?_;simp only [J6,aS,J1,J2];refine tk 10 130 hS0 ?_;simp only [J6,aS,J1,J2];refine tk 11 131 hS0 ?_;simp only [J6,aS,J1,J2];refine zk (i:=12) (by kernel_rfl) (λ o ho K' hK=>?_);(simp only [JZ,JX,JY,J0] at ho;subst ho);go_simp
         have sH:Below wr.heap.size wr (wr.alloc (.cells #[.int .i64 z] 3)).drew:=((J5 _ wr).alloc (J4 _) _).drew;refine hK.out _ _ ⟨(sH.cell (p:=⟨gP,i * 2+1,none⟩) (su.out gP (.inl rfl)).1).trans sx,(sH.cell (p:=⟨G,q,none⟩) (su.out G (.inr (.inl rfl))).1).trans tY,(sH.cell (p:=⟨ge,r,none⟩) (su.out ge (.inr (.inr rfl))).1).trans sF⟩ ?_;clear hK K';refine zk (i:=13) (by kernel_rfl) (λ o ho K' hK=>?_);(simp only [JZ,JX,JY,J0] at ho;subst ho);refine step_append_lies _ (by rfl) _ _ _ (by rfl) K 3 i0 (.int .i64 0) 1 8 Tryz.underlying27 wY.out.1 wY.out.2.1 wY.out.2.2.1 wY.out.2.2.2 rfl (by decide) (.slice Av j cv) _ _ (by rfl) (ry.out.own.alloc _)
          ⟨wr.heap.size,0,none⟩ 1 1 [.int .i64 z] (by rfl) (by rfl) (zE _ #[.int .i64 z] _ (by simp)) (by simp [Value.oneCell']) (by decide) (by unfold maxLen;omega) (by have:=tM.out.chg.size;have:=wl.out.chg.size;simp;omega) (by have:=tM.out.chg.size;have:=wl.out.chg.size;simp;omega) (wr.heap.size+1) (by simp) ?_
         intro g' cap w7 td wR tg rc;have rj:GroD wr w7 (.slice Av j cv) (.slice (some ⟨g',0,none⟩) (j+1) cap):=yC (qq wR tg);have sf:∀ y,y=gP\/y=G\/y=ge->w7.heap[y]?=wr.heap[y]?:=λ y hy=>rj.block y (su.out y hy).1 (su.out y hy).2;have hS7:w7.cell? ⟨gP,i * 2+1,none⟩=some (.slice Av j cv)/\w7.cell? ⟨G,q,none⟩=some (.slice (some ⟨ge,0,none⟩) F.regs.length ce)/\w7.cell? ⟨ge,r,none⟩=some (.int .i64 z):=⟨(JK (a:=⟨gP,i * 2+1,none⟩) (sf gP (.inl rfl))).trans sx,(JK (a:=⟨G,q,none⟩) (sf G (.inr (.inl rfl)))).trans tY,(JK (a:=⟨ge,r,none⟩) (sf ge (.inr (.inr rfl)))).trans sF⟩;have oB:w7.frozen? ⟨gP,i * 2+1,none⟩=false:=(World.frozen?_of_block (a:=⟨gP,i * 2+1,none⟩) (sf gP (.inl rfl))).trans p8;have pM:=Jj rj;have oY:=Jj td;refine hK.out _ _ hS7 ?_;clear hK K' rj td wR tg rc sH sf sx tY sF p8
         (try simp only [J6,aS,J1,J2]);refine tk 14 134 hS7 ?_;simp only [J6,aS,J1,J2];refine tk 15 135 hS7 ?_;simp only [J6,aS,J1,J2];refine wpAnyH_done (by kernel_rfl) ?_ _;refine vL (by decide) (λ o ho K' hK=>?_);(simp only [JZ,JX,JY,J0] at ho;subst ho);have rn:=hS7.1
         (go_simp);refine hK.out _ _ ?_;clear hK K' hS7 hS0 oB rn;go_wp2_with fail
         go_roundw
         case rel =>
          have hT1:=HT.out.1;have rq:Chg wr w7 lab5 (λ k=>k=T):=ry.out.chgGro pM.out;have hR7:LRw w7 K (qk lab5 wr.heap.size T) (100+2 * b) 55 2 (.slice (some ⟨gP,0,none⟩) (ph b).length cP) (ph b).length _:=oW.out.chg rq (by omega);(have hV7:=ry.out.gro (xs':=(((qH F.blocks (b:Nat)).take (j+1)).map λ p=>A b p.toNat r).map (Value.int .i64)) pM.out (by rw [pF.out,List.map_append];exact oY.out));have tZ:=hR7.chgPut (i * 2+1) (.slice (some ⟨g',0,none⟩) (j+1) cap);have hR8:=hR7.put (i * 2+1) (.slice (some ⟨g',0,none⟩) (j+1) cap);rw [q0y q0K oO.out (by omega) (x':=(⟨((bsO F ph b+i:Nat):Int),((qH F.blocks (b:Nat)).take (j+1)).map λ p=>A b p.toNat r⟩,.slice (some ⟨g',0,none⟩) (j+1) cap)) rfl,List.set_set] at hR8;have oD:Chg wr (w7.setCell ⟨gP,i * 2+1,none⟩ (.slice (some ⟨g',0,none⟩) (j+1) cap)) lab5 (λ k=>k=T\/k=100+2 * b):=(Chg.mono rq λ k e=>.inl e).then_ (Chg.mono tZ λ k e=>.inr e);refine ⟨j+1,qk lab5 wr.heap.size T,_,by omega,by go_num,tM.out.mv hT1 oD (λ y hy _=>qT hy) (λ y hy=>qT (by have:=tM.out.chg.size;omega)) (λ k e=>e) sO.out wj hn,hR8,λ q' oe=>((pP.out q' oe).chg rq (by omega)).chg0 tZ (by omega),hV7.chg0 tZ (by omega),λ y hy=>by rw [qT (by have:=tM.out.chg.size;omega)];exact sO.out y hy,λ z' rS=>?_⟩
          rw [pF.out,List.mem_append,List.mem_singleton] at rS;rcases rS with h1 | h1
          ·exact oN.out z' h1
          ·rw [h1];exact pR.out.2
         case measure=>simp [intOf];omega
        ·(have pn:(qH F.blocks (b:Nat)).take j=qH F.blocks (b:Nat):=List.take_of_length_le (by rw [wX.out];omega));(have rg:j=la:=by omega);subst rg;(have wT:(⟨((bsO F ph b+i:Nat):Int),(qH F.blocks (b:Nat)).map λ p=>A b p.toNat r⟩:PhiD)=phF F ph A b i:=by unfold phF;rw [oU.out]);rw [pn] at hR5 hV5 tQ;rw [wT,q9M] at hR5;(have tm:((qH F.blocks (b:Nat)).map λ p=>A b p.toNat r).length=j:=by rw [List.length_map];exact wX.out);have oV:=Jj hR5;have oR:=Jj hV5
         have oM:=Jj tQ;have nE:=Jj tm;have ny:=Jj wT;clear hS5 hR5 hD5 hV5 rv tQ pn tm wT;go_wp2_with fail
         go_roundw
         case rel =>
          have hT1:=HT.out.1;refine ⟨i+1,q3J lab5 T,qM VV i v,by omega,by go_num,tM.out.mv hT1 (S:=λ _=>False) (FrX.refl _ _) (λ y hy r8=>if_neg r8) (λ y hy=>if_neg (sO.out y hy)) (λ k e=>e.elim) sO.out wj hn,⟨by rw [oX.out];exact oV.out.rel (by omega),λ q hq=>?_⟩,λ y e=>?_⟩
          ·by_cases e:q=i
           ·subst e;rw [qF];(have h:=RdV.of_own (l:=(qH F.blocks (b:Nat)).map λ p=>A b p.toNat r) (by have h2:=oR.out.rel0;rw [<- nE.out] at h2;exact h2) oM.out);have hf:=congrArg PhiD.args ny.out;rw [<- hf];exact h
           ·rw [q8 _ _ e];exact (pP.out q (by omega)).rel (by omega)
          ·unfold q3J at e
           split at e
           ·omega
           ·rename_i r8;exact r8 e
         case measure=>simp [intOf];omega
      ·(have ri:i=(ph b).length:=by omega);subst ri;clear hS4 hI4 rx wh;go_wp2_with fail
       go_roundw
       case rel =>
        refine ⟨b+1,lab4,by omega,by go_num,⟨tN.out.chg,tN.out.ext,λ q hq=>?_,λ q h1 h2=>tN.out.new q (by omega) h2⟩,λ tj=>tN.out.new (b+1) (by omega) tj,pT.out⟩
        by_cases e:q=b
        ·subst e;refine ⟨ysP F ph A q VV (ph q).length,by rw [q2K];exact rK.out.row,?_,λ y hy=>?_⟩
         ·unfold ysP;rw [List.map_map];refine List.map_congr_left λ x hx=>?_;show (if x<(ph q).length then _ else _:PhiD × Value).1=_;rw [if_pos (List.mem_range.1 hx)]
         ·unfold ysP at hy;obtain ⟨x,hx,rfl⟩:=List.mem_map.1 hy;rw [if_pos (List.mem_range.1 hx)];exact rK.out.rd x (List.mem_range.1 hx)
        ·exact tN.out.old q (by omega)
       case measure=>simp [intOf];omega
    ·(have oF:b=F.blocks.length:=by omega);subst oF;clear hS3 hR3 sj;(go_wp2_with fail);(go_end0);have pX:=wl.out.chg.size;have hsz1:=wg.out.size;have hsz2:=wk.out.size;have wQ:∀ t,¬ SP t->t<10000->Mv w5 wr labB lab3 t:=λ t ht ht2 y hy wO=>⟨wU.out.chg.block y hy (by rw [wO];exact ht),by rw [wU.out.ext y hy];exact wO⟩
     have pp:∀ b,b<F.blocks.length->b∈qV F.blocks:=pO.out;(have pf:∀ y,y<w.heap.size->labA y=lab y:=λ y hy=>by rw [nj.out];show (if y<w.heap.size then _ else _)=_;rw [if_pos hy]);have pi:∀ y,y<w.heap.size->labB y=lab y:=λ y hy=>by
      have h2:=sm.out.chg.size;rw [tO.out.1 y (by omega),sm.out.ext y (by omega)];exact pf y hy
     refine ⟨rfl,?_,lab3,λ y hy=>by rw [wU.out.ext y (by omega)];exact pi y hy,?_,λ q hq=>wU.out.old q hq,λ q hq=>?_,λ q hq=>(wl.out.rT q hq).mv (wQ 0 (by unfold SP;omega) (by omega))⟩
     ·(refine ⟨wU.out.chg.os.trans (wl.out.chg.os.trans (wg.out.os.trans wk.out.os)),wU.out.chg.tape.trans (wl.out.chg.tape.trans (wg.out.tape.trans wk.out.tape)),wU.out.chg.output.trans (wl.out.chg.output.trans (wg.out.output.trans wk.out.output)),by have:=wU.out.chg.size;omega,λ y hy hk=>?_⟩);have oA:¬ 3<=lab y:=hk;exact (wU.out.chg.block y (by omega) (by show ¬ SP (labB y);rw [pi y hy];unfold SP;omega)).trans ((wl.out.chg.block y (by omega) (by show ¬ 3<=labA y;rw [pf y hy];exact oA)).trans ((wg.out.block y (by omega)).trans (wk.out.block y hy)))
     ·(have h:=wl.out.rB.mv (wQ 3 (by unfold SP;omega) (by omega)));have he:((List.range F.blocks.length).flatMap λ b=>bkC (PV b) (IV b) (qP F b).term.kind (if b∈qV F.blocks then Y b else (qP F b).term.arg) (TV b))=(List.range F.blocks.length).flatMap λ b=>bkC (PV b) (IV b) (qP F b).term.kind (Y b) (TV b):=by
       simp only [List.flatMap_def];(congr 1);exact List.map_congr_left λ x hx=>by rw [if_pos (pp x (List.mem_range.1 hx))]
      rw [he] at h;exact h
     ·obtain ⟨ys,hy⟩:=wl.out.rI q hq;rw [if_pos (pp q hq)] at hy;exact ⟨ys,hy.mv (wQ _ (by unfold SP;omega) (by omega)) (wQ 0 (by unfold SP;omega) (by omega))⟩
end Go.Proofs.YtfoggldjjnabcaaGreatDoor
