/- Of a proper module without phis: what the program's Build leans on. -/
import Derived.Test.YtfoggldjjnabcaaGreatDoorModAK
import Derived.Test.YtfoggldjjnabcaaGreatDoorSpUK
import Derived.Test.YtfoggldjjnabcaaGreatDoorGsPK
import Derived.Test.YtfoggldjjnabcaaGreatDoorPpIK
import Derived.Test.YtfoggldjjnabcaaGreatDoorDmMK
import Derived.Test.YtfoggldjjnabcaaGreatDoorAheadGK
set_option linter.unusedVariables false
set_option linter.unusedSimpArgs false
namespace Go.Proofs.YtfoggldjjnabcaaGreatDoor
open Go.ChangeShapes Go.WideShapes Go.RowKit Go.Deep
theorem q02:∀ (l:List qB) (i:Nat),(yk l i).1=0->∀ f∈l,q03 f=true
 | [],_,_,f,hf=>by cases hf
 | g::r,i,h,f,hf=>by
  have h:(if q03 g then yk r (i+1) else (6,(i:Int))).1=0:=h;cases hg:q03 g with
  | false=>rw [hg,if_neg (by simp)] at h;exact absurd (show (6:Int)=0 from h) (by decide)
  | true =>
   rw [hg,if_pos rfl] at h;rcases List.mem_cons.1 hf with rfl | hf
   ·exact hg
   ·exact q02 r (i+1) h f hf
theorem jr {m:List qB} (h:(v8 m).1=0):zx m/\∀ f∈m,∀ b∈f.blocks,b.phis=[]:=by
 unfold v8 at h
 by_cases hp:(jV m).1=0
 ·rw [if_pos hp] at h;refine ⟨hp,λ f hf b hb=>?_⟩;have:=q02 m 0 h f hf;unfold q03 at this;rw [List.all_eq_true] at this;have:=of_decide_eq_true (this b hb);exact List.length_eq_zero_iff.1 this
 ·rw [if_neg hp] at h;exact absurd h hp
structure BdF (m:List qB) (g:qB):Prop where
 ok:SsOk m (q9 g) (DBl g.blocks) (y7 g.blocks)
 re:∀ b,b<g.blocks.length->qI g.blocks b=true
 ins:∀ b∈g.blocks,(∀ x∈b.ins,(∀ a∈x.args,InR g.regs.length a)/\(x.dst=-1\/InR g.regs.length x.dst))/\(b.term.arg=-1\/InR g.regs.length b.term.arg)
 small:jC g
theorem q93 {m:List qB} {f:qB} (hP:(v8 m).1=0) (hs:yF m) (hf:f∈m):BdF m (qL f):=by
 obtain ⟨hp,wj⟩:=jr hP;have h0:zh m f=0:=(proper_iff.1 hp).2 f hf;obtain ⟨-,hb⟩:=funE_zero.1 (kg h0);refine ⟨q6M h0 (wj f hf),λ b hb=>kV hb,λ b wh=>⟨λ x hx=>q2h ((blockE_zero.1 (hb b wh)).2.1 x hx),q0X (blockE_zero.1 (hb b wh)).2.2⟩,q0Y (hs.2 f hf)⟩
variable {m:List qB} {g:qB}
theorem BdF.nb (h:BdF m g):1<=g.blocks.length/\g.blocks.length<=64:=h.ok.fn.nb
theorem BdF.nr (h:BdF m g):g.regs.length<=256:=h.ok.fn.nr
theorem BdF.par (h:BdF m g):0<=g.params/\g.params<=8/\g.params<=g.regs.length:=h.ok.fn.par
theorem BdF.ph (h:BdF m g) (b:Nat):(phL (q9 g) b).length<=256/\∀ r∈phL (q9 g) b,r<g.regs.length:=by
 refine ⟨?_,λ r hr=>(mem_phL.1 hr).1⟩;have h1:(phL (q9 g) b).length<=g.regs.length:=by
  unfold phL;have:=List.length_filter_le (λ r=>(q9 g).W b r && (q9 g).C b r) (List.range g.regs.length);rw [List.length_range] at this;exact this
 have:=h.nr;omega
theorem BdF.zr (h:BdF m g):(zrL (q9 g)).length<=256/\∀ r∈zrL (q9 g),r<g.regs.length:=by
 refine ⟨?_,λ r hr=>(mem_zrL.1 hr).1⟩;have h1:(zrL (q9 g)).length<=g.regs.length:=by
  unfold zrL;have:=List.length_filter_le (λ r:Nat=>decide (g.params<=(r:Int)) && (q9 g).W 0 r) (List.range g.regs.length);rw [List.length_range] at this;exact this
 have:=h.nr;omega
theorem BdF.blk (h:BdF m g):∀ b∈(zF (q9 g)).blocks,b.ins.length<=512/\(∀ x∈b.ins,I64 x.dst/\x.dst<g.regs.length/\x.args.length<=1000/\∀ a∈x.args,0<=a/\a<g.regs.length)/\b.term.arg<g.regs.length:=by
 have hnr:=h.nr;have wg:∀ k∈g.blocks,k.ins.length<=256/\(∀ x∈k.ins,I64 x.dst/\x.dst<g.regs.length/\x.args.length<=1000/\∀ a∈x.args,0<=a/\a<g.regs.length)/\k.term.arg<g.regs.length:=λ k hk=>by
  obtain ⟨h1,h2⟩:=h.ins k hk;(refine ⟨by have:=h.ok.fn.items k hk;omega,λ x hx=>?_,by rcases h2 with h2 | ⟨-,h2⟩ <;> omega⟩);obtain ⟨h3,h4⟩:=h1 x hx;(refine ⟨by unfold I64;rcases h4 with h4 | ⟨h4,h5⟩ <;> omega,by rcases h4 with h4 | ⟨-,h4⟩ <;> omega,?_,h3⟩);have:=(h.small.2.2.2 k hk).2.2.2.1 x hx;omega
 intro b hb;obtain ⟨i,hi⟩:=List.mem_iff_getElem?.1 hb
 by_cases e:i=0
 ·subst e;have h0:0<g.blocks.length:=h.nb.1;rw [q2J (P:=q9 g) h0] at hi;obtain rfl:=J3 hi;have hk:qP g 0∈g.blocks:=by
   (have:g.blocks[0]?=some (qP g 0):=by unfold qP;rw [JJ,Jq h0];rfl);exact Jz this
  obtain ⟨h1,h2,h3⟩:=wg _ hk;refine ⟨?_,λ x hx=>?_,h3⟩
  ·show ((zrL (q9 g)).map zI++(qP g 0).ins).length<=512;rw [List.length_append,List.length_map];have:=h.zr.1;omega
  ·rcases List.mem_append.1 (show x∈(zrL (q9 g)).map zI++(qP g 0).ins from hx) with hx | hx
   ·obtain ⟨r,hr,rfl⟩:=List.mem_map.1 hx;have:=h.zr.2 r hr;exact ⟨by unfold I64 zI;simp only [];omega,by unfold zI;simp only [];omega,by unfold zI;simp,λ a ha=>by unfold zI at ha;cases ha⟩
   ·exact h2 x hx
 ·rw [q0I (P:=q9 g) e] at hi;obtain ⟨h1,h2,h3⟩:=wg b (Jz hi);exact ⟨by omega,h2,h3⟩
theorem BdF.bs (h:BdF m g) {b:Nat} (hb:b<=g.blocks.length):bsO (zF (q9 g)) (phL (q9 g)) b<=100000:=by
 (have h1:=q1A (F:=zF (q9 g)) (ph:=phL (q9 g)) (λ b _=>by have:=(h.ph b).1;omega) (λ b hb=>by have:=(h.blk b hb).1;omega) b (by rw [yO];exact hb));have h2:=h.par;have h3:=h.nb;(have:(zF (q9 g)).params.toNat<=8:=by show g.params.toNat<=8;omega);omega
theorem BdF.nm (h:BdF m g):NmA (zF (q9 g)) (phL (q9 g)) (AEp (q9 g)) (λ b=>(vw (q9 g) b).ins) (λ b=>(kO (q9 g) b).arg) (Ap (q9 g)):=by
 (refine qAc h.ok h.re h.ins (λ b hb=>by have:=h.bs (Nat.le_of_lt hb);omega) (λ b i x hb hx=>?_) (λ b=>by have:=(h.ph b).1;omega) (by have:=h.nr;omega));have wk:=(Jk hx).1;rw [<- h.ok.num h.nb.1 (Nat.le_of_lt wk)];have h1:=h.bs (Nat.le_of_lt hb);have h2:=(h.ph b).1;have h3:=xv ((qR (zF (q9 g)) b).take (zN (q9 g) b+i));have h4:(qR (zF (q9 g)) b).length<=512:=by
  (obtain ⟨kb,hk⟩:∃ kb,(zF (q9 g)).blocks[b]?=some kb:=⟨_,Jq (show b<(zF (q9 g)).blocks.length by rw [yO];exact hb)⟩);rw [qe hk];exact (h.blk _ (Jz hk)).1
 (have h5:((qR (zF (q9 g)) b).take (zN (q9 g) b+i)).length<=512:=by rw [List.length_take];omega);omega
end Go.Proofs.YtfoggldjjnabcaaGreatDoor

namespace Go.Proofs.YtfoggldjjnabcaaGreatDoor
open Go.ChangeShapes Go.WideShapes Go.RowKit Go.Deep
def q1J (x:qN):Prop:=I64 x.op/\I64 x.dst/\I64 x.imm/\I64 x.fn
section
variable {w:World} {K t:Nat} {lab:Nat->Nat} {v:Value} {B:Nat->Prop}
theorem RdV.toB {l:List Int} (h:RdV w lab v l) (hB:∀ g,lab g=0->Fz w g->B g):VS w 1 (RIntB B) v l:=by
 obtain ⟨A,c,e,h1⟩:=h;exact ⟨A,c,e,SL.imp (λ b o x hx=>⟨hB b hx.1.1 hx.1.2,hx.2⟩) h1⟩
theorem qAY {α:Type} {sz n g c:Nat} {ty:TypeId} {xs:List Value} {R:World->Nat->Nat->α->Prop} {l:List α} (h:LRw w K lab t ty sz (.slice (some ⟨g,0,none⟩) n c) n xs) (hn:l.length=n) (hr:∀ (i:Nat) (x:α),l[i]?=some x->R w g (i * sz) x):SL w sz R (some ⟨g,0,none⟩) c l:=by
 have ww:n<=c/\c<=maxLen:=by
  rcases h.own.2 with ⟨h1,-⟩ | ⟨g',c',cur,h1,-,-,h2,h3,-,-⟩
  ·simp at h1
  ·simp only [Value.slice.injEq] at h1;obtain ⟨-,-,rfl⟩:=h1;exact ⟨h2,h3⟩
 exact ⟨by omega,⟨ww.2,λ e=>by cases e⟩,λ _=>⟨g,0,rfl,λ i x hi=>by rw [Nat.zero_add];exact hr i x hi⟩⟩
theorem q2U {α:Type} {sz n:Nat} {ty:TypeId} {xs:List Value} {R:World->Nat->Nat->α->Prop} {l:List α} (h:LRw w K lab t ty sz v n xs) (hn:l.length=n) (hr:∀ g c,v=.slice (some ⟨g,0,none⟩) n c->∀ (i:Nat) (x:α),l[i]?=some x->R w g (i * sz) x):VS w sz R v l:=by
 by_cases h0:n=0
 ·subst h0;have hl:l=[]:=List.length_eq_zero_iff.1 hn;subst hl;rcases h.own.2 with ⟨rfl,-⟩ | ⟨g,c,cur,rfl,-,-,h2,h3,-,-⟩
  ·exact ⟨none,0,rfl,J4 _,⟨by unfold maxLen;omega,λ _=>rfl⟩,λ hp=>absurd hp (by simp)⟩
  ·exact ⟨some ⟨g,0,none⟩,c,rfl,Nat.zero_le _,⟨h3,λ e=>by cases e⟩,λ hp=>absurd hp (by simp)⟩
 ·obtain ⟨g,c,hv⟩:=h.form (by omega);subst hv;exact ⟨some ⟨g,0,none⟩,c,by rw [hn],qAY h hn (hr g c rfl)⟩
theorem q36 {α:Type} {sz b o:Nat} {R:World->Nat->Nat->α->Prop} {l:List α} (h:VS w sz R v l) (hc:w.cell? ⟨b,o,none⟩=some v):CS w b o sz R l:=by
 obtain ⟨A,c,rfl,hs⟩:=h;exact ⟨A,c,hc,hs⟩
theorem PhiO.vs {l:List PhiD} {ys:List (PhiD × Value)} (h:PhiO w K lab t v l ys) (wj:∀ p∈l,I64 p.dst) (hB:∀ g,lab g=0->Fz w g->B g) (hO:∀ g,K<=g->Fz w g->B g):VS w 2 (RPhiB B) v l:=by
 (have hl:l.length=ys.length:=by have:=congrArg List.length h.are;rw [List.length_map] at this;omega);refine q2U h.row hl λ g c hv i x hx=>?_;have wg:=h.row;rw [hv] at wg;rw [<- h.are,List.getElem?_map] at hx;obtain ⟨y,hy,rfl⟩:=Option.map_eq_some_iff.1 hx;have wk:=(Jk hy).1;(have hm:y.1∈l:=by rw [<- h.are];exact List.mem_map_of_mem (Jz hy));have hgB:B g:=hO g (wg.own.lt g rfl).1 (Fz.own wg.own rfl)
 refine ⟨hgB,⟨?_,wj _ hm⟩,q36 (v:=y.2) ((h.rd y (Jz hy)).toB hB) ?_⟩
 ·(have:=wg.cell (i:=i * 2+0) (u:=.int .i64 y.1.dst) (by rw [yX q0K hy (by omega)];rfl) (by omega));simpa using this
 ·exact wg.cell (i:=i * 2+1) (u:=y.2) (by rw [yX q0K hy (by omega)];rfl) (by omega)
theorem InsO.vs {l:List qN} {ys:List (qN × Value)} (h:InsO w K lab t v l ys) (wj:∀ x∈l,q1J x) (hB:∀ g,lab g=0->Fz w g->B g) (hO:∀ g,K<=g->Fz w g->B g):VS w 5 (RInsB B) v l:=by
 have hl:l.length=ys.length:=h.len.symm;refine q2U h.row hl λ g c hv i x hx=>?_;have wg:=h.row;rw [hv] at wg;rw [<- h.are,List.getElem?_map] at hx;obtain ⟨y,hy,rfl⟩:=Option.map_eq_some_iff.1 hx;have wk:=(Jk hy).1;(have hm:y.1∈l:=by rw [<- h.are];exact List.mem_map_of_mem (Jz hy));obtain ⟨q1,q2,q3,q4⟩:=wj _ hm
 (have hc:∀ j u,j<5->(inC y)[j]?=some u->w.cell? ⟨g,i * 5+j,none⟩=some u:=λ j u hj hu=>wg.cell (by rw [yX q0O hy hj];exact hu) (by omega));have hgB:B g:=hO g (wg.own.lt g rfl).1 (Fz.own wg.own rfl);exact ⟨hgB,⟨by simpa using hc 0 _ (by omega) rfl,q1⟩,⟨hc 1 _ (by omega) rfl,q2⟩,q36 ((h.rd y (Jz hy)).toB hB) (hc 2 _ (by omega) rfl),⟨hc 3 _ (by omega) rfl,q3⟩,⟨hc 4 _ (by omega) rfl,q4⟩⟩
end
theorem q1z {w:World} {K n:Nat} {lab:Nat->Nat} {B:Nat->Prop} {vR vB:Value} {PV IV TV:Nat->Value} {regs:List Int} {phs:Nat->List PhiD} {ins:Nat->List qN} {kd ar:Nat->Int} {to_:Nat->List Int}
  (hR:LRw w K lab 2 3 1 vR regs.length (regs.map (Value.int .i64))) (hBk:LRw w K lab 3 51 5 vB n ((List.range n).flatMap λ b=>bkC (PV b) (IV b) (kd b) (ar b) (TV b)))
  (hP:∀ b,b<n->∃ ys,PhiO w K lab (100+2 * b) (PV b) (phs b) ys) (hI:∀ b,b<n->∃ ys,InsO w K lab (101+2 * b) (IV b) (ins b) ys) (hT:∀ b,b<n->RdV w lab (TV b) (to_ b))
  (h1:∀ z∈regs,I64 z) (h2:∀ b,b<n->(∀ p∈phs b,I64 p.dst)/\(∀ x∈ins b,q1J x)/\I64 (kd b)/\I64 (ar b)) (hB:∀ g,lab g=0->Fz w g->B g) (hO:∀ g,K<=g->Fz w g->B g) :
  ∃ Ar cr Ab cb,vR=.slice Ar regs.length cr/\vB=.slice Ab n cb/\SL w 1 (RIntB B) Ar cr regs/\SL w 5 (RBlkB B) Ab cb ((List.range n).map λ b=>(⟨phs b,ins b,⟨kd b,ar b,to_ b⟩⟩:qE)):=by
 have hr:VS w 1 (RIntB B) vR regs:=by
  refine q2U hR rfl λ g c hv i x hx=>?_;rw [hv] at hR;have wk:=(Jk hx).1;refine ⟨hO g (hR.own.lt g rfl).1 (Fz.own hR.own rfl),?_,h1 x (Jz hx)⟩;rw [Nat.mul_one];exact hR.cell (by rw [List.getElem?_map,hx];rfl) (by omega)
 obtain ⟨Ar,cr,wl,wu⟩:=hr;have hb:VS w 5 (RBlkB B) vB ((List.range n).map λ b=>(⟨phs b,ins b,⟨kd b,ar b,to_ b⟩⟩:qE)):=by
  refine q2U hBk (by simp) λ g c hv b x hx=>?_;(have wh:b<n:=by have:=(Jk hx).1;simpa using this);rw [List.getElem?_map,List.getElem?_range wh] at hx;obtain rfl:=J3 hx;rw [hv] at hBk;have hc:∀ j u,j<5->(bkC (PV b) (IV b) (kd b) (ar b) (TV b))[j]?=some u->w.cell? ⟨g,b * 5+j,none⟩=some u:=λ j u hj hu=>kA hBk wh hj hu;obtain ⟨ys,hp⟩:=hP b wh;obtain ⟨zs_,hi⟩:=hI b wh;obtain ⟨q1,q2,q3,q4⟩:=h2 b wh
  exact ⟨hO g (hBk.own.lt g rfl).1 (Fz.own hBk.own rfl),q36 (hp.vs q1 hB hO) (by simpa using hc 0 _ (by omega) rfl),q36 (hi.vs q2 hB hO) (hc 1 _ (by omega) rfl),⟨hc 2 _ (by omega) rfl,q3⟩,⟨hc 3 _ (by omega) rfl,q4⟩,q36 ((hT b wh).toB hB) (hc 4 _ (by omega) rfl)⟩
 obtain ⟨Ab,cb,wm,wv⟩:=hb;exact ⟨Ar,cr,Ab,cb,wl,by rw [wm];simp,wu,wv⟩
theorem q82 {w:World} {K t n:Nat} {lab:Nat->Nat} {v:Value} {l:List Int} (h:LRw w K lab t 55 2 v n (l.flatMap phC)) (hn:n=l.length):∃ ys,PhiO w K lab t v (l.map λ d=>⟨d,[]⟩) ys:=by
 refine ⟨l.map λ d=>(⟨d,[]⟩,.slice none 0 0),?_,by rw [List.map_map];rfl,λ y hy=>?_⟩
 ·rw [List.length_map,<- hn,List.flatMap_map];exact h
 ·obtain ⟨d,-,rfl⟩:=List.mem_map.1 hy;exact ⟨none,0,rfl,J4 _,⟨by unfold maxLen;omega,λ _=>rfl⟩,λ hp=>absurd hp (by simp)⟩
end Go.Proofs.YtfoggldjjnabcaaGreatDoor

namespace Go.Proofs.YtfoggldjjnabcaaGreatDoor
open Go.ChangeShapes Go.WideShapes Go.RowKit Go.Deep
variable {m:List qB} {g:qB}
structure F64 (g:qB):Prop where
 regs:∀ z∈g.regs,I64 z
 blk:∀ b∈g.blocks,(∀ x∈b.ins,q1J x)/\I64 b.term.kind/\I64 b.term.arg
theorem q8i {w:World} {v:Value} (h:VFun w v g):F64 g:=by
 obtain ⟨Ar,cr,Ab,cb,-,h1,h2,-,-⟩:=h;refine ⟨λ z hz=>?_,λ b hb=>?_⟩
 ·obtain ⟨i,hi⟩:=List.mem_iff_getElem?.1 hz;(obtain ⟨b,o,e,hr⟩:=h1.2.2 (by have:=(Jk hi).1;omega));exact (hr i z hi).2
 ·obtain ⟨i,hi⟩:=List.mem_iff_getElem?.1 hb;(obtain ⟨b',o,e,hr⟩:=h2.2.2 (by have:=(Jk hi).1;omega));obtain ⟨-,⟨Ai,ci,-,hs⟩,⟨-,k1⟩,⟨-,k2⟩,-⟩:=hr i b hi;refine ⟨λ x hx=>?_,k1,k2⟩;obtain ⟨j,hj⟩:=List.mem_iff_getElem?.1 hx;(obtain ⟨b2,o2,e2,wu⟩:=hs.2.2 (by have:=(Jk hj).1;omega));obtain ⟨⟨-,q0⟩,⟨-,q1⟩,-,⟨-,q3⟩,⟨-,q4⟩⟩:=wu j x hj;exact ⟨q0,q1,q3,q4⟩
theorem I64.nat {n:Nat} (h:n<=1000000):I64 (n:Int):=by unfold I64;omega
theorem q7s (h:∀ z∈g.regs,I64 z) (r:Nat):I64 (g.regs.getD r 0):=by
 rw [JJ];cases e:g.regs[r]? with
 | none=>exact ⟨by decide,by decide⟩
 | some z=>exact h z (Jz e)
theorem BdF.out64 (h:BdF m g) (hf:F64 (zF (q9 g))) {b:Nat} (hb:b<g.blocks.length):(∀ p∈(zy (zF (q9 g)) (phL (q9 g)) b).map (λ d=>(⟨d,[]⟩:PhiD)),I64 p.dst)/\(∀ x∈qd (zF (q9 g)) (phL (q9 g)) b,q1J x)/\I64 (qP (zF (q9 g)) b).term.kind/\I64 (qP (zF (q9 g)) b).term.arg:=by
 (obtain ⟨kb,hk⟩:∃ kb,(zF (q9 g)).blocks[b]?=some kb:=⟨_,Jq (show b<(zF (q9 g)).blocks.length by rw [yO];exact hb)⟩);have wh:=Jz hk;have wj:qP (zF (q9 g)) b=kb:=qv hk;have ww:=h.bs (Nat.le_of_lt hb);have wv:=(h.ph b).1;(have hil:(qR (zF (q9 g)) b).length<=512:=by rw [qe hk];exact (h.blk _ wh).1);obtain ⟨f1,f2,f3⟩:=hf.blk kb wh;refine ⟨λ p hp=>?_,λ x hx=>?_,by rw [wj];exact f2,by rw [wj];exact f3⟩
 ·obtain ⟨d,hd,rfl⟩:=List.mem_map.1 hp;unfold zy at hd;obtain ⟨k,wm,rfl⟩:=List.mem_map.1 hd;rw [List.mem_range] at wm;exact I64.nat (by omega)
 ·unfold qd at hx;obtain ⟨i,hi⟩:=List.mem_iff_getElem?.1 hx;rw [List.getElem?_mapIdx] at hi;obtain ⟨y,hy,rfl⟩:=Option.map_eq_some_iff.1 hi;(have wk:y∈kb.ins:=by rw [qe hk] at hy;exact Jz hy);obtain ⟨q0,q1,q2,q3⟩:=f1 y wk;refine ⟨q0,?_,q2,q3⟩;show I64 (if 0<=y.dst then _ else y.dst)
  split
  ·refine I64.nat ?_;have h3:=xv ((qR (zF (q9 g)) b).take i);have h4:=List.length_take_le i (qR (zF (q9 g)) b);(have h5:((qR (zF (q9 g)) b).take i).length<=(qR (zF (q9 g)) b).length:=by rw [List.length_take];omega);omega
  ·exact q1
theorem BdF.olds_len (h:BdF m g):(vI (q9 g)).length<=100000:=by
 rw [<- h.ok.olds h.nb.1,Go.Proofs.YtfoggldjjnabcaaGreatDoor.olds_len,yO];exact h.bs (J4 _)
theorem BdF.dsN_le (h:BdF m g) {b i:Nat} (hb:b<g.blocks.length) (hi:i<=(qR g b).length):dsN (q9 g) b i<=200000:=by
 rw [<- h.ok.num h.nb.1 hi];have h1:=h.bs (Nat.le_of_lt hb);have h2:=(h.ph b).1;have h3:=xv ((qR (zF (q9 g)) b).take (zN (q9 g) b+i));have h4:(qR (zF (q9 g)) b).length<=512:=by
  (obtain ⟨kb,hk⟩:∃ kb,(zF (q9 g)).blocks[b]?=some kb:=⟨_,Jq (show b<(zF (q9 g)).blocks.length by rw [yO];exact hb)⟩);rw [qe hk];exact (h.blk _ (Jz hk)).1
 (have h5:((qR (zF (q9 g)) b).take (zN (q9 g) b+i)).length<=512:=by rw [List.length_take];omega);omega
theorem BdF.fin64 (h:BdF m g) (hf:F64 g) (hz:F64 (zF (q9 g))) {b:Nat} (hb:b<g.blocks.length) :
  (∀ p∈(List.range (phL (q9 g) b).length).map (phF (zF (q9 g)) (phL (q9 g)) (Ap (q9 g)) b),I64 p.dst)/\(∀ x∈(vw (q9 g) b).ins,q1J x)/\I64 (qP (zF (q9 g)) b).term.kind/\I64 (kO (q9 g) b).arg:=by
 have ww:=h.bs (Nat.le_of_lt hb);have wv:=(h.ph b).1;have wg:g.blocks[b]?=some g.blocks[b]:=Jq hb;generalize hkk:g.blocks[b]=kb at wg;have wh:=Jz wg;obtain ⟨f1,f2,f3⟩:=hf.blk kb wh;refine ⟨λ p hp=>?_,λ x hx=>?_,(h.out64 hz hb).2.2.1,?_⟩
 ·obtain ⟨k,wm,rfl⟩:=List.mem_map.1 hp;rw [List.mem_range] at wm;exact I64.nat (by omega)
 ·rcases List.mem_append.1 (show x∈zt (q9 g) b++(qR (q9 g).f b).mapIdx (q1C (q9 g) b) from hx) with hx | hx
  ·unfold zt at hx
   split at hx
   ·obtain ⟨r,hr,rfl⟩:=List.mem_map.1 hx;have h1:=List.idxOf_lt_length_of_mem hr;have h2:=h.zr.1;have h3:=h.par;refine ⟨show I64 (1:Int) from ⟨by decide,by decide⟩,I64.nat ?_,show I64 (0:Int) from ⟨by decide,by decide⟩,show I64 (0:Int) from ⟨by decide,by decide⟩⟩;show (q9 g).f.params.toNat+(zrL (q9 g)).idxOf r<=_;(have:(q9 g).f.params.toNat<=8:=by show g.params.toNat<=8;omega);omega
   ·cases hx
  ·obtain ⟨i,hi⟩:=List.mem_iff_getElem?.1 hx;rw [List.getElem?_mapIdx] at hi;obtain ⟨y,hy,rfl⟩:=Option.map_eq_some_iff.1 hi;have wl:(qR g b)[i]?=some y:=hy;(have wk:y∈kb.ins:=by rw [qe wg] at wl;exact Jz wl);obtain ⟨q0,q1,q2,q3⟩:=f1 y wk;refine ⟨q0,?_,q2,q3⟩;show I64 (if 0<=y.dst then ((dsN (q9 g) b i:Nat):Int) else -1)
   split
   ·exact I64.nat (by have:=h.dsN_le hb (Nat.le_of_lt (Jk wl).1);omega)
   ·exact ⟨by decide,by decide⟩
 ·show I64 (if 0<=(qP g b).term.arg then ((vr (q9 g) (qP g b).term.arg.toNat b (qR g b).length:Nat):Int) else -1);have wj:qP g b=kb:=qv wg;rw [wj]
  split
  ·rename_i h0;(have hr:kb.term.arg<g.regs.length:=by rcases (h.ins kb wh).2 with h1 | h1;{ omega };exact h1.2);(have hv:=h.ok.old (r:=kb.term.arg.toNat) (b:=b) (i:=kb.ins.length) (k:=kb) (by show _<g.regs.length;omega) wg (J4 _) ((zg wg).2 (.inl (by omega))));rw [qe wg];have:=(Jk hv).1;have:=h.olds_len;exact I64.nat (by omega)
  ·exact ⟨by decide,by decide⟩
theorem BdF.phi_eq (h:BdF m g) (b:Nat) (hb:b<g.blocks.length):(List.range (phL (q9 g) b).length).map (phF (zF (q9 g)) (phL (q9 g)) (Ap (q9 g)) b)=(phL (q9 g) b).map (q1B (q9 g) b):=by
 apply List.ext_getElem?;intro i;rw [List.getElem?_map,List.getElem?_map]
 by_cases hi:i<(phL (q9 g) b).length
 ·rw [List.getElem?_range hi,Jq hi];have wJ:b≠0:=by
   (intro e;subst e);rw [h.ok.no_first h.nb.1] at hi;simp at hi
  (have hg:(phL (q9 g) b).getD i 0=(phL (q9 g) b)[i]:=by rw [JJ,Jq hi];rfl);show some (phF _ _ _ b i)=some (q1B _ b _);(congr 1);unfold phF q1B phN;rw [h.ok.bs h.nb.1 wJ,hg,(show (phL (q9 g) b).Nodup from List.nodup_range.filter _).idxOf_getElem,show qH (zF (q9 g)).blocks b=qH g.blocks b by unfold qH;exact xD (q4V (P:=q9 g) h.nb.1) _ _]
  rfl
 ·rw [List.getElem?_eq_none (by rw [List.length_range];omega),List.getElem?_eq_none (by omega)]
  rfl
def jK (g:qB) (P:SsP):List qE:=(List.range (zF P).blocks.length).map λ b=>(⟨(zy (zF P) (phL P) b).map (λ d=>(⟨d,[]⟩:PhiD)),qd (zF P) (phL P) b,⟨(qP (zF P) b).term.kind,(qP (zF P) b).term.arg,(qP (zF P) b).term.to⟩⟩:qE)
theorem BdF.fin_eq (h:BdF m g):((List.range (zF (q9 g)).blocks.length).map λ b=>(⟨(List.range (phL (q9 g) b).length).map (phF (zF (q9 g)) (phL (q9 g)) (Ap (q9 g)) b),(vw (q9 g) b).ins,⟨(qP (zF (q9 g)) b).term.kind,(kO (q9 g) b).arg,(qP (zF (q9 g)) b).term.to⟩⟩:qE))=(qU (q9 g)).blocks:=by
 rw [yO];show _=(List.range (q9 g).f.blocks.length).map (vw (q9 g));refine List.map_congr_left λ b hb=>?_;rw [List.mem_range] at hb;rw [h.phi_eq b hb,q5b (P:=q9 g) h.nb.1]
 rfl
theorem BdF.regs_eq (h:BdF m g):(zL (zF (q9 g)) (phL (q9 g)) (zF (q9 g)).blocks.length).map (rgT (zF (q9 g)))=(qU (q9 g)).regs:=by
 rw [h.ok.olds h.nb.1];rfl
theorem BdF.out_items (h:BdF m g):zR (jK g (q9 g))=zR (qU (q9 g)).blocks/\(jK g (q9 g)).length=(qU (q9 g)).blocks.length:=by
 have hl:(zF (q9 g)).blocks.length=(q9 g).f.blocks.length:=yO;constructor
 ·unfold zR jK;show _=(((List.range (q9 g).f.blocks.length).map (vw (q9 g))).map λ b=>b.phis.length+b.ins.length).sum;rw [List.map_map,List.map_map,hl];(congr 1);refine List.map_congr_left λ b hb=>?_;show ((zy _ _ b).map _).length+(qd _ _ b).length=((phL (q9 g) b).map _).length+(zt (q9 g) b++(qR (q9 g).f b).mapIdx (q1C (q9 g) b)).length;(have h1:(qd (zF (q9 g)) (phL (q9 g)) b).length=zN (q9 g) b+(qR (q9 g).f b).length:=by unfold qd;rw [List.length_mapIdx,ye (P:=q9 g) h.nb.1,List.length_append,xS]);(have h2:(zt (q9 g) b).length=zN (q9 g) b:=by unfold zt zN;split <;> simp);rw [List.length_map,List.length_map,List.length_append,List.length_mapIdx,h1,h2]
  unfold zy;rw [List.length_map,List.length_range]
 ·unfold jK;show _=((List.range (q9 g).f.blocks.length).map (vw (q9 g))).length;rw [List.length_map,List.length_map,List.length_range,List.length_range,hl]
end Go.Proofs.YtfoggldjjnabcaaGreatDoor

namespace Go.Proofs.YtfoggldjjnabcaaGreatDoor
open Go.ChangeShapes Go.WideShapes Go.RowKit Go.Deep
theorem xF {α:Type} {sz:Nat} {F:α->List Value->Prop}:∀ {l:List α} {cs:List Value},Rows sz F l cs->cs.length=l.length * sz
 | [],cs,h=>by rw [show cs=[] from h];simp
 | x::l,cs,⟨c,r,e,h1,_,h3⟩=>by rw [e,List.length_append,h1,xF h3,List.length_cons,Nat.succ_mul];omega
theorem qA8 {w:World} {b o:Nat} {x:qN} (h:RIns w b o x):∃ cs,cs.length=5/\CIns (λ _=>True) w x cs/\(∀ j u,cs[j]?=some u->w.cell? ⟨b,o+j,none⟩=some u)/\∀ u∈cs,u.oneCell'=true:=by
 obtain ⟨⟨h0,g0⟩,⟨h1,g1⟩,⟨A,c,h2,hs⟩,⟨h3,g3⟩,⟨h4,g4⟩⟩:=h;refine ⟨[.int .i64 x.op,.int .i64 x.dst,.slice A x.args.length c,.int .i64 x.imm,.int .i64 x.fn],rfl,⟨A,c,rfl,SL.imp (λ b o y hy=>⟨trivial,hy⟩) hs,g0,g1,g3,g4⟩,λ j u hu=>?_,λ u hu=>?_⟩
 ·match j,hu with
  | 0,hu=>obtain rfl:=J3 hu;exact h0
  | 1,hu=>obtain rfl:=J3 hu;exact h1
  | 2,hu=>obtain rfl:=J3 hu;exact h2
  | 3,hu=>obtain rfl:=J3 hu;exact h3
  | 4,hu=>obtain rfl:=J3 hu;exact h4
 ·simp only [List.mem_cons,List.not_mem_nil,or_false] at hu;rcases hu with rfl | rfl | rfl | rfl | rfl <;> rfl
theorem q3p {w:World} {b:Nat}:∀ (xs:List qN) (o:Nat),(∀ i x,xs[i]?=some x->RIns w b (o+i * 5) x) ->
  ∃ cs,Rows 5 (CIns (λ _=>True) w) xs cs/\(∀ j u,cs[j]?=some u->w.cell? ⟨b,o+j,none⟩=some u)/\∀ u∈cs,u.oneCell'=true
 | [],o,_=>⟨[],rfl,λ j u h=>by simp at h,λ u h=>by simp at h⟩
 | x::xs,o,h=>by
  obtain ⟨c,hl,hc,wl,wu⟩:=qA8 (by simpa using h 0 x rfl);(obtain ⟨cs,hr,wk,wQ⟩:=q3p xs (o+5) (λ i y hy=>by have:=h (i+1) y (by simpa using hy);rwa [show o+(i+1) * 5=o+5+i * 5 by omega] at this));refine ⟨c++cs,⟨c,cs,rfl,hl,hc,hr⟩,λ j u hu=>?_,λ u hu=>?_⟩
  ·by_cases hj:j<5
   ·rw [List.getElem?_append_left (by omega)] at hu;exact wl j u hu
   ·rw [List.getElem?_append_right (by omega),hl] at hu;have:=wk (j - 5) u hu
    rwa [show o+5+(j - 5)=o+j by omega] at this
  ·rcases List.mem_append.1 hu with hu | hu
   ·exact wu u hu
   ·exact wQ u hu
def qBS (xs:List qN) (w:World) (e:Ending) (w':World):Prop :=
 (∃ v cs,e=.returned v/\w'.ownsRow w.heap.size 53 5 v xs.length cs/\Rows 5 (CIns (λ b=>b<w.heap.size) w') xs cs)/\Below w.heap.size w w'
set_option maxRecDepth 100000 in
theorem q2u (xs:List qN) (v:Value) (w:World) (hv:VS w 5 RIns v xs) (hn:xs.length<=1000):Calls Tryz.prog 92 #[v] w (qBS xs w):=by
 obtain ⟨A,c,rfl,hs⟩:=hv;cases A with
 | none =>
  obtain rfl:xs=[]:=by
   rcases Nat.eq_zero_or_pos xs.length with h0 | h0
   ·exact List.length_eq_zero_iff.1 h0
   ·obtain ⟨b,o,e,_⟩:=hs.2.2 h0;cases e
  obtain rfl:c=0:=hs.2.1.2 rfl;clear hs;have wW:=Lib.run_eql_slice_nil (P:=Tryz.prog) w 49 53 none 0 0 0 0 Tryz.underlying49;(go_enter Tryz.func92,Tryz.ntmps92);(go_wp2_with (simp only [wW,Option.isNone]));(go_ret);exact ⟨⟨_,[],rfl,World.ownsRow_nil _ _ _ _,rfl⟩,J5 _ _⟩
 | some ad =>
  have wW:=Lib.run_eql_slice_nil (P:=Tryz.prog) w 49 53 (some ad) xs.length c 0 0 Tryz.underlying49;obtain ⟨i5,p1,p2,p3,p4⟩:=info_parts Tryz.info53;have wO:(w.alloc (.cells #[] 53)).ownsRow w.heap.size 53 5 (.slice (some ⟨w.heap.size,0,none⟩) 0 0) 0 [] :=
   ⟨rfl,.inr ⟨w.heap.size,0,#[],rfl,J4 _,heap_alloc_new w _,J4 _,Nat.zero_le _,rfl,rfl⟩⟩
  obtain ⟨cs,wh,wj,wu⟩:∃ cs,Rows 5 (CIns (λ _=>True) w) xs cs/\(∀ j u,cs[j]?=some u->w.cell? (ad.add j)=some u)/\∀ u∈cs,u.oneCell'=true:=by
   rcases Nat.eq_zero_or_pos xs.length with h0 | h0
   ·obtain rfl:xs=[]:=List.length_eq_zero_iff.1 h0;exact ⟨[],rfl,λ j u h=>by simp at h,λ u h=>by simp at h⟩
   ·obtain ⟨b,o,e,hx⟩:=hs.2.2 h0;obtain rfl:=J3 e;obtain ⟨cs,h1,h2,h3⟩:=q3p xs o hx;exact ⟨cs,h1,λ j u hu=>by rw [show (⟨b,o,none⟩:Addr).add j=⟨b,o+j,none⟩ by unfold Addr.add;split <;> simp_all];exact h2 j u hu,h3⟩
  obtain ⟨v',w',hr,h2,h3,_,h5⟩:=run_append_own_at (P:=Tryz.prog) (w.alloc (.cells #[] 53)) w.heap.size 49 49 53 i5 _ 5 56 Tryz.underlying49 p1 p2 p3 p4 (by rfl) (by decide) _ 0 [] wO ad xs.length c
   cs (xF wh) (λ j u hu=>qc w _ _ _ (wj j u hu)) wu (by unfold maxLen;omega) (by omega) (by simp)
  rw [Nat.zero_add,List.nil_append] at h2;(have hB:Below w.heap.size w w':=((J5 w.heap.size w).alloc (J4 _) (.cells #[] 53)).grown h3 (by simp) (λ k hk=>by have:=J3 (show some w.heap.size=some k from hk);omega));have wg:Rows 5 (CIns (λ b=>b<w.heap.size) w') xs cs:=wh.imp λ x c hx=>CIns.go (KeptB.of (q7 hB)) (λ b hb=>hb.2) (CIns.lt hx);have HF:=Jj (And.intro h2 (And.intro wg hB));clear h2 h3 h5 hB wO p1 p2 p3 p4 hs wh wj wu wg;(go_enter Tryz.func92,Tryz.ntmps92);(go_wp2_with (first | (at_builtin;refine vT rfl (.tmp 5) (.tmp 6) 49 49 rfl _ _ rfl rfl hr ?_) | simp only [wW,Option.isNone]));(go_ret);exact ⟨⟨v',cs,rfl,HF.out.1,HF.out.2.1⟩,HF.out.2.2⟩
def qBL (xs:List qN) (w:World) (e:Ending) (w':World):Prop :=
 (∃ A c,e=.returned (.slice A xs.length c)/\SL w' 5 (RInsB (BG w.heap.size w')) A c xs)/\Below w.heap.size w w'
theorem q7o {cs r:List Value} {a b c d e v:Value} {k:Nat} (h:cs.length=k * 5):(cs++([a,b,c,d,e]++r)).set (k * 5+2) v=(cs++[a,b,v,d,e])++r:=by
 rw [List.set_append_right _ _ (by omega),show k * 5+2 - cs.length=2 by omega,List.append_assoc];rfl
theorem qA0 {cs r:List Value} {a b c d e:Value} {k:Nat} (h:cs.length=k * 5):(cs++([a,b,c,d,e]++r))[k * 5+2]?=some c:=by
 rw [List.getElem?_append_right (by omega),show k * 5+2 - cs.length=2 by omega];rfl
set_option maxRecDepth 100000 in
set_option maxHeartbeats 8000000 in
theorem q6w (xs:List qN) (v:Value) (w:World) (hv:VS w 5 RIns v xs) (hn:xs.length<=1000) (ha:∀ x∈xs,x.args.length<=1000):Calls Tryz.prog 51 #[v] w (qBL xs w):=by
 have HC:=Jj (q2u xs v w hv hn);have tN:=Jj ha;obtain ⟨A,c,rfl,-⟩:=hv;clear ha;(go_enter Tryz.func51,Tryz.ntmps51);(go_wp2_with fail);refine HC.out.mono ?_;rintro e w1 ⟨⟨vc,cs,rfl,ho,hr⟩,tr⟩;have tw:∃ A' c',vc=.slice A' xs.length c':=by
  rcases ho.2 with ⟨e,h0⟩ | ⟨g,c',cur,e,_⟩
  ·exact ⟨none,0,by rw [e,h0]⟩
  ·exact ⟨_,_,e⟩
 obtain ⟨A',c',rfl⟩:=tw;have tM:=Jj tr;have tJ:=Jj ho;have tH:=Jj hr;clear tr ho hr HC;go_wp2_with fail
 go_loopw [9] (λ i wr=>∃ (k:Nat) (cs1 cs2:List Value),k<=xs.length/\i=.int .i64 k/\Below w.heap.size w wr/\wr.ownsRow w.heap.size 53 5 (.slice A' xs.length c') xs.length (cs1++cs2) /\
  Rows 5 (CIns (BF w.heap.size (.slice A' xs.length c') wr) wr) (xs.take k) cs1/\Rows 5 (CIns (λ b=>b<w.heap.size) wr) (xs.drop k) cs2) (λ i _=>xs.length - (intOf i).toNat)
 case atStart=>exact ⟨0,[],cs,Nat.zero_le _,rfl,tM.out,tJ.out,rfl,tH.out⟩
 case round =>
  obtain ⟨k,cs1,cs2,hk,rfl,hb,ho,wJ,wT⟩:=hrel;have HB:=Jj hb;have HO:=Jj ho;have HR:=Jj wJ
  by_cases th:k<xs.length
  ·obtain ⟨x,hx⟩:∃ x,xs[k]?=some x:=⟨_,Jq th⟩;have hd:xs.drop k=x::xs.drop (k+1):=by
    obtain ⟨_,rfl⟩:=Jk hx;exact List.drop_eq_getElem_cons th
   rw [hd] at wT;obtain ⟨c0,r,rfl,-,⟨Ax,cx,rfl,wY,g0,g1,g3,g4⟩,td⟩:=wT;obtain ⟨g,cap,wR,tC,tm⟩:=ho.form (by omega);cases wR;(have wV:cs1.length=k * 5:=by have:=xF wJ;rw [List.length_take,Nat.min_eq_left (by omega)] at this;exact this);have wX:=ho.cellAt (k * 5+2) (by omega);rw [qA0 wV] at wX;have tp:=ho.frozenAt (k * 5+2);have hk0:(0:Int)<=k:=by omega
   (have hk1:(k:Int)<xs.length:=by omega);have hxl:=tN.out x (Jz hx);have tu:=Jj (zj x.args (.slice Ax x.args.length cx) wr ⟨Ax,cx,rfl,SL.imp RIntB.plain wY⟩ (by omega));have HX:=Jj hx
   have tO:Hid (∀ y∈x.args,I64 y):=Jj (λ y hy=>by
    obtain ⟨j,hj⟩:=List.getElem?_of_mem hy;obtain ⟨_,_,h4⟩:=wY;obtain ⟨b',o',e',tz⟩:=h4 (by have:=(Jk hj).1;omega)
    exact (tz j y hj).2.2)
   have HI:=Jj (And.intro g0 (And.intro g1 (And.intro g3 g4)));have tK:=Jj wV;have tF:=Jj td;clear hb ho wJ hd wY g0 g1 g3 g4 hx td wV;(go_wp2_with fail);refine tu.out.mono ?_;rintro e w2 ⟨⟨va,rfl,tg⟩,ww⟩;obtain ⟨A2,c2,rfl,ta⟩:=yf tg tO.out (base':=wr.heap.size) (J4 _);have wv:=qJ (w':=w2) HO.out (λ g hg=>ww.block g (HO.out.lt g hg).2)
   have wk:w2.cell? ⟨g,k * 5+2,none⟩=some (.slice Ax x.args.length cx):=(ww.cell (p:=⟨g,k * 5+2,none⟩) tm).trans wX;have hfree2:w2.frozen? ⟨g,k * 5+2,none⟩=false:=(ww.frozen (p:=⟨g,k * 5+2,none⟩) tm).trans tp;have wU:=(wv.stored (k * 5+2) (.slice A2 x.args.length c2)).1;rw [q7o tK.out] at wU;have wm:∀ b,b≠g->(w2.setCell ⟨g,k * 5+2,none⟩ (.slice A2 x.args.length c2)).heap[b]?=w2.heap[b]?:=λ b hb=>JQ _ _ _ _ hb;have tf:Rows 5 (CIns (BF w.heap.size (.slice (some ⟨g,0,none⟩) xs.length c') (w2.setCell ⟨g,k * 5+2,none⟩ (.slice A2 x.args.length c2))) (w2.setCell ⟨g,k * 5+2,none⟩ (.slice A2 x.args.length c2))) (xs.take (k+1)) (cs1++[.int .i64 x.op,.int .i64 x.dst,.slice A2 x.args.length c2,.int .i64 x.imm,.int .i64 x.fn]):=by
    rw [qG HX.out];(refine q1g (F:=CIns) (λ _ _ _ _ _ _ h1 h2 h3=>CIns.go h1 h2 h3) HR.out (λ b hb tB=>(wm b (λ e=>tB (by rw [e];rfl))).trans (ww.block b hb)) (.inl rfl) rfl ?_);refine ⟨A2,c2,rfl,?_,HI.out.1,HI.out.2.1,HI.out.2.2.1,HI.out.2.2.2⟩;exact SIntsB.go (B:=BG wr.heap.size w2) (λ a v hb ha=>(JK (wm a.block (λ e=>by have:=hb.1;omega))).trans ha) (λ b hb=>⟨⟨by have:=HB.out.size;have:=hb.1;omega,hb.2.set _ _ _⟩,λ e=>by have:b=g:=J3 e;have:=hb.1;omega⟩) ta
   (have wM:Rows 5 (CIns (λ b=>b<w.heap.size) (w2.setCell ⟨g,k * 5+2,none⟩ (.slice A2 x.args.length c2))) (xs.drop (k+1)) r:=tF.out.imp λ y d hy=>CIns.go (B:=λ b=>b<w.heap.size) (λ a v hb ha=>(JK ((wm a.block (λ e=>by omega)).trans (ww.block a.block (by have:=HB.out.size;omega)))).trans ha) (λ b hb=>hb) hy);(have tL:Hid (Below w.heap.size w (w2.setCell ⟨g,k * 5+2,none⟩ (.slice A2 x.args.length c2))):=Jj ((HB.out.trans (ww.mono HB.out.size)).setCell (by show w.heap.size<=g;exact tC) _));have tD:=Jj wU;have tG:=Jj tf;have wZ:=Jj wM;clear tg ww ta wv wU wm tf wM wX tp tu;go_wp2_with fail
   go_roundw
   case rel=>exact ⟨k+1,_,r,by omega,by go_num,tL.out,tD.out,tG.out,wZ.out⟩
   case measure=>simp [intOf];omega
  ·have tj:xs.take k=xs:=List.take_of_length_le (by omega);have tq:xs.drop k=[]:=List.drop_eq_nil_of_le (by omega);rw [tj] at wJ;rw [tq] at wT;obtain rfl:cs2=[]:=wT;rw [List.append_nil] at ho;have tx:=wJ.reads (R:=RInsB (BG w.heap.size wr)) ho (λ g o x c hg hb hx hc wl=>CIns.reads ⟨hb,Fz.own ho hg⟩ (CIns.go (λ _ _ _ h=>h) (λ b hb=>hb.1) hx) wl);obtain ⟨Ar,cr,hu,tc⟩:=tx;cases hu
   have tE:=Jj tc;clear hb ho wJ tc tj tq;(go_wp2_with fail);(go_ret);exact ⟨⟨_,_,rfl,tE.out⟩,HB.out⟩
theorem q70 {w:World} {b o:Nat} {f:qB} (h:RFun w b o f):∃ cs:List Value,cs.length=4/\(∀ j u,cs[j]?=some u->w.cell? ⟨b,o+j,none⟩=some u)/\(∀ u∈cs,u.oneCell'=true) /\
  ∀ W b' o',Kept w W->(∀ j u,cs[j]?=some u->W.cell? ⟨b',o'+j,none⟩=some u)->RFun W b' o' f:=by
 obtain ⟨⟨h0,g0⟩,⟨h1,g1⟩,⟨Ar,cr,h2,g2⟩,Ab,cb,h3,g3⟩:=h;refine ⟨[.int .i64 f.params,.int .i64 f.result,.slice Ar f.regs.length cr,.slice Ab f.blocks.length cb],rfl,λ j u hu=>?_,λ u hu=>?_,λ W b' o' hk hc=>?_⟩
 ·match j,hu with
  | 0,hu=>obtain rfl:=J3 hu;exact h0
  | 1,hu=>obtain rfl:=J3 hu;exact h1
  | 2,hu=>obtain rfl:=J3 hu;exact h2
  | 3,hu=>obtain rfl:=J3 hu;exact h3
 ·simp only [List.mem_cons,List.not_mem_nil,or_false] at hu;rcases hu with rfl | rfl | rfl | rfl <;> rfl
 ·exact ⟨⟨hc 0 _ rfl,g0⟩,⟨hc 1 _ rfl,g1⟩,⟨Ar,cr,hc 2 _ rfl,SInts.keep hk g2⟩,Ab,cb,hc 3 _ rfl,SBlks.keep hk g3⟩
theorem q0u {w:World} {b:Nat}:∀ (xs:List qB) (o:Nat),(∀ i x,xs[i]?=some x->RFun w b (o+i * 4) x) ->
  ∃ cs:List Value,cs.length=xs.length * 4/\(∀ j u,cs[j]?=some u->w.cell? ⟨b,o+j,none⟩=some u)/\(∀ u∈cs,u.oneCell'=true) /\
   ∀ (i:Nat) (f:qB),xs[i]?=some f->∀ W b' o',Kept w W->(∀ j u,j<4->cs[i * 4+j]?=some u->W.cell? ⟨b',o'+j,none⟩=some u)->RFun W b' o' f
 | [],o,_=>⟨[],rfl,λ j u h=>by simp at h,λ u h=>by simp at h,λ i f h=>by simp at h⟩
 | x::xs,o,h=>by
  obtain ⟨c,hl,wM,wj,wk⟩:=q70 (by simpa using h 0 x rfl);(obtain ⟨cs,tE,wl,ww,wV⟩:=q0u xs (o+4) (λ i y hy=>by have:=h (i+1) y (by simpa using hy);rwa [show o+(i+1) * 4=o+4+i * 4 by omega] at this));refine ⟨c++cs,by rw [List.length_append,hl,tE,List.length_cons];omega,λ j u hu=>?_,λ u hu=>?_,λ i f hf W b' o' hk hc=>?_⟩
  ·by_cases hj:j<4
   ·rw [List.getElem?_append_left (by omega)] at hu;exact wM j u hu
   ·rw [List.getElem?_append_right (by omega),hl] at hu;have:=wl (j - 4) u hu
    rwa [show o+4+(j - 4)=o+j by omega] at this
  ·rcases List.mem_append.1 hu with hu | hu
   ·exact wj u hu
   ·exact ww u hu
  ·cases i with
   | zero =>
    (obtain rfl:x=f:=by simpa using hf);(refine wk W b' o' hk λ j u hu=>hc j u (by have:=(Jk hu).1;omega) ?_);rw [Nat.zero_mul,Nat.zero_add,List.getElem?_append_left (by have:=(Jk hu).1;omega)];exact hu
   | succ i =>
    refine wV i f (by simpa using hf) W b' o' hk λ j u hj hu=>hc j u hj ?_;rw [List.getElem?_append_right (by omega),hl,show (i+1) * 4+j - 4=i * 4+j by omega];exact hu
def qBQ (xs:List qB) (w:World) (e:Ending) (w':World):Prop :=
 (∃ g c cs,e=.returned (.slice (some ⟨g,0,none⟩) xs.length c)/\w'.ownsRow w.heap.size 30 4 (.slice (some ⟨g,0,none⟩) xs.length c) xs.length cs /\
  ∀ (i:Nat) (f:qB),xs[i]?=some f->∀ W b' o',Kept w W->(∀ j u,j<4->cs[i * 4+j]?=some u->W.cell? ⟨b',o'+j,none⟩=some u)->RFun W b' o' f)/\Below w.heap.size w w'
set_option maxRecDepth 100000 in
theorem q1Y (xs:List qB) (ad:Addr) (c:Nat) (w:World) (hs:SL w 4 RFun (some ad) c xs) (tf:0<xs.length) (hn:xs.length<=1000):Calls Tryz.prog 53 #[.slice (some ad) xs.length c] w (qBQ xs w):=by
 have tL:=Lib.run_eql_slice_nil (P:=Tryz.prog) w 22 30 (some ad) xs.length c 0 0 Tryz.underlying22;obtain ⟨i5,p1,p2,p3,p4⟩:=info_parts Tryz.info30;have wv:(w.alloc (.cells #[] 30)).ownsRow w.heap.size 30 4 (.slice (some ⟨w.heap.size,0,none⟩) 0 0) 0 [] :=
  ⟨rfl,.inr ⟨w.heap.size,0,#[],rfl,J4 _,heap_alloc_new w _,J4 _,Nat.zero_le _,rfl,rfl⟩⟩
 obtain ⟨b,o,e,hx⟩:=hs.2.2 tf;obtain rfl:=J3 e;obtain ⟨cs,wX,wh,wj,wk⟩:=q0u xs o hx;obtain ⟨v',w',hr,h2,h3,_,h5⟩:=run_append_own_at (P:=Tryz.prog) (w.alloc (.cells #[] 30)) w.heap.size 22 22 30 i5 _ 4 64 Tryz.underlying22 p1 p2 p3 p4 (by rfl) (by decide) _ 0 [] wv ⟨b,o,none⟩ xs.length c
  cs wX (λ j u hu=>by rw [show (⟨b,o,none⟩:Addr).add j=⟨b,o+j,none⟩ by unfold Addr.add;split <;> simp_all];exact qc w _ _ _ (wh j u hu)) wj (by unfold maxLen;omega) (by omega) (by simp)
 rw [Nat.zero_add,List.nil_append] at h2;(have hB:Below w.heap.size w w':=((J5 w.heap.size w).alloc (J4 _) (.cells #[] 30)).grown h3 (by simp) (λ k hk=>by have:=J3 (show some w.heap.size=some k from hk);omega));obtain ⟨g,cap,rfl,-,-⟩:=h2.form tf;have HF:=Jj (And.intro h2 (And.intro wk hB));clear h2 h3 h5 hB wv p1 p2 p3 p4 hs wh wj wk hx;(go_enter Tryz.func53,Tryz.ntmps53);(go_wp2_with (first | (at_builtin;refine vT rfl (.tmp 5) (.tmp 6) 22 22 rfl _ _ rfl rfl hr ?_) | simp only [tL,Option.isNone]));(go_ret);exact ⟨⟨g,cap,cs,rfl,HF.out.1,HF.out.2.1⟩,HF.out.2.2⟩
def qB2 (m:List qB) (n:Nat) (f:qB) (w:World) (e:Ending) (w':World):Prop :=
 (∃ (G:Nat) (A:Nat->Nat->Bool),e=.returned (.tuple #[.slice (some ⟨G,0,none⟩) f.blocks.length f.blocks.length,.nilIface])/\w.heap.size<=G/\BG1 w' G f.blocks.length f.regs.length A/\∀ b r,A b r=true↔vJ f.blocks false b r)/\Below w.heap.size w w'
set_option maxRecDepth 100000 in
set_option maxHeartbeats 8000000 in
theorem q2M (m:List qB) (n:Nat) (f:qB) (vm vf:Value) (w:World) (hm:VMod w vm m) (hf:VFun w vf f) (hn:n<m.length) (wT:yF (m.set n f)) (hP:zx (m.set n f)) :
  Calls Tryz.prog 20 #[vm,.int .i64 (n:Int),vf] w (qB2 m n f w):=by
 have wO:=hf;obtain ⟨Am,cm,rfl,wW⟩:=hm;obtain ⟨Ar,cr,Ab,cb,rfl,-,-,-,-⟩:=hf;(obtain ⟨ad,hAd⟩:∃ ad,Am=some ad:=by obtain ⟨b,o,x,e,-,-⟩:=wW.at_ hn;exact ⟨_,e⟩);subst hAd;(have hml:m.length<=40:=by have:=wT.1;rwa [List.length_set] at this);have tQ:=Jj wW;have HF:=Jj wO;have tO:=Jj wT
 have HP:=Jj hP;(have hn0:(0:Int)<=n:=by omega);(have hn1:(n:Int)<m.length:=by omega);clear wW wO wT hP;(go_enter Tryz.func20,Tryz.ntmps20);(go_upto_region 1 with fail);obtain ⟨w1,wm⟩:∃ w1,w1=(w.alloc (.cells #[.slice (some ad) m.length cm] 24)).alloc (.cells #[.int .i64 f.params,.int .i64 f.result,.slice Ar f.regs.length cr,.slice Ab f.blocks.length cb] 30):=⟨_,rfl⟩;(have tw:Below w.heap.size w w1:=by rw [wm];exact ((J5 _ w).alloc (J4 _) _).alloc (by simp) _);have b0:w1.heap[w.heap.size]?=some (.cells #[.slice (some ad) m.length cm] 24):=by rw [wm];exact xG w _ _
 (have b1:w1.heap[w.heap.size+1]?=some (.cells #[.int .i64 f.params,.int .i64 f.result,.slice Ar f.regs.length cr,.slice Ab f.blocks.length cb] 30):=by rw [wm];simpa using heap_alloc_new (w.alloc _) _);(have wU:w1.heap.size=w.heap.size+2:=by rw [wm];simp);obtain ⟨N,hN⟩:∃ N,N=w.heap.size:=⟨_,rfl⟩;rw [<- wm];rw [<- hN] at b0 b1 wU ⊢;have c0:=q6 b0 0;have td:=Jj tw;have tT:=Jj b1;have ta:Hid (w1.heap.size=N+2/\N=w.heap.size):=Jj ⟨wU,hN⟩
 clear wm tw b0 b1 wU hN;have tS:=Jj (q1Y m ad cm w1 (SFuns.keep (q7 td.out) tQ.out) (by omega) (by omega));(go_upto_region 2 with (go_at_call 53;refine tS.out.mono ?_;rintro e w2 ⟨⟨g,c,cs,rfl,tg,wk⟩,tu⟩;have tB:=Jj tg;have tP:=Jj wk;have wR:=Jj tu;clear tg wk tu));clear c0;obtain ⟨N8,hN8⟩:∃ N8,N8=w2.heap.size:=⟨_,rfl⟩;obtain ⟨w3,wu⟩:∃ w3,w3=w2.alloc (.cells #[.slice (some ⟨g,0,none⟩) m.length c] 24):=⟨_,rfl⟩;(have wZ:Below w2.heap.size w2 w3:=by rw [wu];exact (J5 _ _).alloc (J4 _) _);(have b8:w3.heap[N8]?=some (.cells #[.slice (some ⟨g,0,none⟩) m.length c] 24):=by rw [wu,hN8];exact heap_alloc_new _ _);have wg:w3.ownsRow w1.heap.size 30 4 (.slice (some ⟨g,0,none⟩) m.length c) m.length cs:=by rw [wu];exact tB.out.alloc _
 have tF:=tB.out.lt g rfl;(have hN3:=(wZ.block (N+1) (by have:=ta.out;have:=wR.out.size;omega)).trans ((wR.out.block (N+1) (by have:=ta.out;omega)).trans tT.out));(have wQ:Hid (g<N8/\N+1<g/\N8<w3.heap.size/\w2.heap.size=N8):=Jj (by have:=ta.out;have h:=zG b8;omega));have e0:=q6 hN3 0;have e1:=q6 hN3 1;have e2:=q6 hN3 2;have e3:=q6 hN3 3;have d8:=q6 b8 0;have tM:=wg.1
 have tq:=wg.cellAt (n * 4) (by omega);have tp:=wg.cellAt (n * 4+1) (by omega);have tm:=wg.cellAt (n * 4+2) (by omega);have tj:=wg.cellAt (n * 4+3) (by omega);rw [Jq (by omega)] at tq tp tm tj;have wO:=wg.frozenAt (n * 4);have tK:=wg.frozenAt (n * 4+1);have tJ:=wg.frozenAt (n * 4+2);have tH:=wg.frozenAt (n * 4+3)
 have tz:=Jj wg;have tC:Hid (Below w1.heap.size w1 w3):=Jj (wR.out.trans (wZ.mono wR.out.size));have tU:=Jj b8;have HK12:=Jj (q7 tC.out);rw [<- wu,<- hN8];clear wu hN8 wZ b8 wg hN3 tF;(go_upto_region 3 with fail);have s1:=(tz.out.stored (n * 4) (.int .i64 f.params)).1;have s2:=(s1.stored (n * 4+1) (.int .i64 f.result)).1
 have s3:=(s2.stored (n * 4+2) (.slice Ar f.regs.length cr)).1;have s4:=(s3.stored (n * 4+3) (.slice Ab f.blocks.length cb)).1;have wJ:=(tz.out.lt g rfl).1;have hB4:Below w1.heap.size w1 ((((w3.setCell ⟨g,n * 4,none⟩ (.int .i64 f.params)).setCell ⟨g,n * 4+1,none⟩ (.int .i64 f.result)).setCell ⟨g,n * 4+2,none⟩ (.slice Ar f.regs.length cr)).setCell ⟨g,n * 4+3,none⟩ (.slice Ab f.blocks.length cb)) :=
  (((tC.out.setCell (p:=⟨g,n * 4,none⟩) wJ _).setCell (p:=⟨g,n * 4+1,none⟩) wJ _).setCell (p:=⟨g,n * 4+2,none⟩) wJ _).setCell (p:=⟨g,n * 4+3,none⟩) wJ _
 have tx:((((w3.setCell ⟨g,n * 4,none⟩ (.int .i64 f.params)).setCell ⟨g,n * 4+1,none⟩ (.int .i64 f.result)).setCell ⟨g,n * 4+2,none⟩ (.slice Ar f.regs.length cr)).setCell ⟨g,n * 4+3,none⟩ (.slice Ab f.blocks.length cb)).heap[N8]?=w3.heap[N8]? :=
  (JQ _ _ _ _ (by show N8≠g;have:=wQ.out;omega)).trans ((JQ _ _ _ _ (by show N8≠g;have:=wQ.out;omega)).trans ((JQ _ _ _ _ (by show N8≠g;have:=wQ.out;omega)).trans (JQ _ _ _ _ (by show N8≠g;have:=wQ.out;omega))))
 clear s1 s2 s3 tq tp tm tj wO tK tJ tH e0 e1 e2 e3;generalize ((((w3.setCell ⟨g,n * 4,none⟩ (.int .i64 f.params)).setCell ⟨g,n * 4+1,none⟩ (.int .i64 f.result)).setCell ⟨g,n * 4+2,none⟩ (.slice Ar f.regs.length cr)).setCell ⟨g,n * 4+3,none⟩ (.slice Ab f.blocks.length cb))=w4 at *;have hBw:Below w.heap.size w w4:=td.out.trans (hB4.mono td.out.size);have tc:=Jj hBw;have d8:=q6 (tx.trans tU.out) 0
 have tN:Hid (VMod w4 (.agg #[.slice (some ⟨g,0,none⟩) m.length c]) (m.set n f)):=Jj (by
  have th:m.length<=c/\c<=maxLen:=by
   rcases s4.2 with ⟨h1,-⟩ | ⟨g',c',cur,h1,-,-,h2,h3,-,-⟩
   ·simp at h1
   ·simp only [Value.slice.injEq] at h1;obtain ⟨-,-,rfl⟩:=h1;exact ⟨h2,h3⟩
  (refine ⟨some ⟨g,0,none⟩,c,by rw [List.length_set],by rw [List.length_set];exact th.1,⟨th.2,λ e=>by cases e⟩,λ _=>⟨g,0,rfl,λ i x hi=>?_⟩⟩);(have hil:i<m.length:=by have:=(Jk hi).1;rwa [List.length_set] at this);rw [List.getElem?_set] at hi;rw [Nat.zero_add]
  by_cases e:n=i
  ·subst e;rw [if_pos rfl,if_pos hn] at hi;obtain rfl:=J3 hi;obtain ⟨Ar',cr',Ab',cb',he,g1,g2,g3,g4⟩:=HF.out;simp only [Value.agg.injEq,Array.mk.injEq,List.cons.injEq,Value.slice.injEq,and_true,true_and] at he;obtain ⟨⟨rfl,rfl⟩,rfl,rfl⟩:=he;refine ⟨⟨?_,g3⟩,⟨?_,g4⟩,⟨Ar,cr,?_,SInts.keep (q7 hBw) g1⟩,Ab,cb,?_,SBlks.keep (q7 hBw) g2⟩
   ·rw [s4.cellAt _ (by omega)];simp [List.getElem?_set];omega
   ·rw [s4.cellAt _ (by omega)];simp [List.getElem?_set];omega
   ·rw [s4.cellAt _ (by omega)];simp [List.getElem?_set];omega
   ·rw [s4.cellAt _ (by omega)];simp [List.getElem?_set];omega
  ·rw [if_neg e] at hi
   have h:=tP.out i x hi w4 g (i * 4) (q7 hB4) (λ j u hj hu=>by
    rw [s4.cellAt _ (by omega),List.getElem?_set,if_neg (by omega),List.getElem?_set,if_neg (by omega),List.getElem?_set,if_neg (by omega),List.getElem?_set,if_neg (by omega)];exact hu)
   exact h)
 have tR:=Jj (q8R (m.set n f) (n:Int) _ w4 tN.out tO.out);clear s4 wJ hB4 tx hBw tM
 go_wp2_with (go_at_call 54;refine tR.out.mono ?_;rintro e w5 ⟨⟨va,vb,ve,rfl,hh⟩,tr⟩;obtain ⟨rfl,k,f',G3,G4,A,E,tD,wY,rfl,rfl,hG3,-,hA,-,hAW,-,-⟩:ve=.nilIface/\∃ (k:Nat) (f':qB) (G3 G4:Nat) (A E:Nat->Nat->Bool),(n:Int)=(k:Int)/\(m.set n f)[k]?=some f'/\va=.slice (some ⟨G3,0,none⟩) f'.blocks.length f'.blocks.length/\vb=.slice (some ⟨G4,0,none⟩) f'.blocks.length f'.blocks.length/\w4.heap.size<=G3/\G3+f'.blocks.length<G4/\BG1 w5 G3 f'.blocks.length f'.regs.length A/\BG1 w5 G4 f'.blocks.length f'.regs.length E/\(∀ b r,A b r=true↔vJ f'.blocks false b r)/\(∀ b r,E b r=true↔vJ f'.blocks true b r)/\qAF f':=(by
   rcases hh with ⟨-,-,⟨h1,-⟩ | ⟨-,h1,-⟩⟩ | ⟨-,h1,h2⟩
   ·exact absurd HP.out h1
   ·exact absurd (show (0:Int)<=n/\(n:Int)<((m.set n f).length:Int) from ⟨by omega,by rw [List.length_set];omega⟩) h1
   ·exact ⟨h1,h2⟩);have tG:f'=f:=(by
   have hk:n=k:=(by omega);rw [<- hk,List.getElem?_set,if_pos rfl,if_pos hn] at wY
   exact (J3 wY).symm);subst tG;have HR:=Jj (And.intro hG3 (And.intro hA (And.intro hAW tr)));clear hh tr hG3 hA hAW wY tD)
 (go_ret2);exact ⟨⟨G3,A,rfl,by have:=HR.out.1;have:=tc.out.size;omega,HR.out.2.1,HR.out.2.2.1⟩,tc.out.trans (HR.out.2.2.2.mono tc.out.size)⟩
end Go.Proofs.YtfoggldjjnabcaaGreatDoor
