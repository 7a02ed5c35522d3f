/- A function of that form passes proper.Form; what is built does. Plain mathematics. -/
import Derived.Test.YtfoggldjjnabcaaGreatDoorModAK
import Derived.Test.YtfoggldjjnabcaaGreatDoorEqEK
import Derived.Test.YtfoggldjjnabcaaGreatDoorLtDK
import Derived.Test.YtfoggldjjnabcaaGreatDoorSsIK
import Derived.Test.YtfoggldjjnabcaaGreatDoorGrNK
import Derived.Test.YtfoggldjjnabcaaGreatDoorAheadGK
import Derived.Test.YtfoggldjjnabcaaGreatDoorDmPK
import Derived.Test.YtfoggldjjnabcaaGreatDoorDmAK
import Derived.Test.YtfoggldjjnabcaaGreatDoorDmMK
import Derived.Test.YtfoggldjjnabcaaGreatDoorPpIK
import Derived.Deep.AppendLies
import Derived.Test.YtfoggldjjnabcaaGreatDoorLvSK
set_option linter.unusedVariables false
set_option linter.unusedSimpArgs false
namespace Go.Proofs.YtfoggldjjnabcaaGreatDoor
open Go.ChangeShapes Go.WideShapes Go.RowKit Go.Deep
theorem mem_mkBs:∀ {l:List qE} {i:Nat} {e:Mk},e∈y9 l i↔∃ k b,l[k]?=some b/\e.b=((i+k:Nat):Int)/\((e.a=-1/\∃ p∈b.phis,p.dst=e.r)\/∃ (j:Nat) (x:qN),e.a=(j:Int)/\b.ins[j]?=some x/\x.dst=e.r)
 | [],i,e=>by
  constructor
  ·intro h;cases h
  ·rintro ⟨k,b,h,-⟩;simp at h
 | b::l,i,e=>by
  show e∈(jM i b.phis++xN i b.ins)++y9 l (i+1)↔_;rw [List.mem_append,List.mem_append,mem_mkBs (l:=l)];constructor
  ·rintro ((h | h) | ⟨k,b',h1,h2,h3⟩)
   ·obtain ⟨p,hp,rfl⟩:=List.mem_map.1 h;exact ⟨0,b,rfl,rfl,.inl ⟨rfl,p,hp,rfl⟩⟩
   ·obtain ⟨j,hj,rfl⟩:=List.mem_mapIdx.1 h;exact ⟨0,b,rfl,rfl,.inr ⟨j,b.ins[j],rfl,Jq hj,rfl⟩⟩
   ·exact ⟨k+1,b',by simpa using h1,by rw [h2];congr 1;omega,h3⟩
  ·rintro ⟨k,b',h1,h2,h3⟩;cases k with
   | zero =>
    (obtain rfl:b=b':=by simpa using h1);obtain ⟨r,eb,ea⟩:=e;left;rcases h3 with ⟨h,p,hp,e1⟩ | ⟨j,x,h,hx,e1⟩
    ·left;refine List.mem_map.2 ⟨p,hp,?_⟩;simp only [Mk.mk.injEq];exact ⟨e1,h2.symm,h.symm⟩
    ·right;have hj:=(Jk hx);refine List.mem_mapIdx.2 ⟨j,hj.1,?_⟩;rw [hj.2];simp only [Mk.mk.injEq];exact ⟨e1,h2.symm,h.symm⟩
   | succ k=>exact .inr ⟨k,b',by simpa using h1,by rw [h2];congr 1;omega,h3⟩
theorem q1o {f:qB} {e:Mk} (h:e∈y9 f.blocks 0) (h0:0<=e.r):∃ c:Nat,e.b=(c:Int)/\MkA f e.r c e.a:=by
 obtain ⟨k,b,h1,h2,h3⟩:=mem_mkBs.1 h;rw [Nat.zero_add] at h2;refine ⟨k,h2,b,h1,?_⟩;rcases h3 with h3 | ⟨j,x,g1,g2,g3⟩
 ·exact .inl h3
 ·exact .inr ⟨j,x,g1,g2,g3,h0⟩
theorem q6r {f:qB} {v:Int} {c:Nat} {a:Int} (h:MkA f v c a):(⟨v,(c:Int),a⟩:Mk)∈y9 f.blocks 0:=by
 obtain ⟨k,h1,h2⟩:=h;refine mem_mkBs.2 ⟨c,k,h1,by rw [Nat.zero_add],?_⟩;rcases h2 with h2 | ⟨j,x,g1,g2,g3,-⟩
 ·exact .inl h2
 ·exact .inr ⟨j,x,g1,g2,g3⟩
theorem mem_mkPar {n:Nat} {e:Mk}:e∈vK n↔∃ r:Nat,r<n/\e=⟨(r:Int),-1,-2⟩:=by
 unfold vK;rw [List.mem_map];constructor
 ·rintro ⟨r,h,rfl⟩;exact ⟨r,List.mem_range.1 h,rfl⟩
 ·rintro ⟨r,h,rfl⟩;exact ⟨r,List.mem_range.2 h,rfl⟩
def Apt (e e':Mk):Prop:=0<=e.r->e.r≠e'.r
theorem q99 {f:qB} {D:Nat->Nat->Prop} (F:q1K f D):∀ (l:List qE) (i:Nat),(∀ k b,l[k]?=some b->f.blocks[i+k]?=some b)->(y9 l i).Pairwise Apt
 | [],_,_=>List.Pairwise.nil
 | b::l,i,h=>by
  (have hb:f.blocks[i]?=some b:=by have:=h 0 b rfl;simpa using this);show ((jM i b.phis++xN i b.ins)++y9 l (i+1)).Pairwise Apt;have wm:∀ e∈jM i b.phis,MkA f e.r i e.a/\e.a=-1:=λ e he=>by
   obtain ⟨p,hp,rfl⟩:=List.mem_map.1 he;exact ⟨⟨b,hb,.inl ⟨rfl,p,hp,rfl⟩⟩,rfl⟩
  have wv:∀ e∈xN i b.ins,0<=e.r->MkA f e.r i e.a/\0<=e.a:=λ e he h0=>by
   obtain ⟨j,hj,rfl⟩:=List.mem_mapIdx.1 he;exact ⟨⟨b,hb,.inr ⟨j,b.ins[j],rfl,Jq hj,rfl,h0⟩⟩,by show (0:Int)<=(j:Int);omega⟩
  rw [List.pairwise_append,List.pairwise_append];refine ⟨⟨?_,?_,?_⟩,q99 F l (i+1) (λ k b' hk=>by have:=h (k+1) b' (by simpa using hk);rw [show i+1+k=i+(k+1) by omega];exact this),?_⟩
  ·have hn:=F.phs b (Jz hb);unfold jM;rw [List.pairwise_map];unfold List.Nodup at hn;rw [List.pairwise_map] at hn;refine hn.imp ?_;intro a b h _;exact h
  ·unfold xN;rw [List.pairwise_iff_getElem];intro p q hp hq hpq h0 he;rw [List.length_mapIdx] at hp hq;simp only [List.getElem_mapIdx] at h0 he;have h1:MkA f b.ins[p].dst i (p:Int):=⟨b,hb,.inr ⟨p,b.ins[p],rfl,Jq hp,rfl,h0⟩⟩;have h2:MkA f b.ins[p].dst i (q:Int):=⟨b,hb,.inr ⟨q,b.ins[q],rfl,Jq hq,he.symm,h0⟩⟩;have:=(F.one _ _ _ _ _ h1 h2).2;omega
  ·intro e he e' wj h0 wg;obtain ⟨h1,h2⟩:=wm e he;obtain ⟨h3,h4⟩:=wv e' wj (wg ▸ h0);rw [<- wg] at h3;have:=(F.one _ _ _ _ _ h1 h3).2;omega
  ·intro e he e' wj h0 wg;have h1:MkA f e.r i e.a:=by
    rcases List.mem_append.1 he with he | he
    ·exact (wm e he).1
    ·exact (wv e he h0).1
   obtain ⟨k,b',g1,g2,g3⟩:=mem_mkBs.1 wj;have wQ:=h (k+1) b' (by simpa using g1);have h2:MkA f e.r (i+(k+1)) e'.a:=by
    refine ⟨b',wQ,?_⟩;rw [wg];rcases g3 with g3 | ⟨j,x,q1,q2,q3⟩
    ·exact .inl g3
    ·exact .inr ⟨j,x,q1,q2,q3,wg ▸ h0⟩
   have:=(F.one _ _ _ _ _ h1 h2).1;omega
theorem q83 (f:qB) (hp:0<=f.params) {r:Nat} (h:r<jI f):(r:Int)<f.params:=by
 unfold jI at h;have:=Nat.min_le_left f.params.toNat f.regs.length;omega
theorem qAB {f:qB} {D:Nat->Nat->Prop} (F:q1K f D) (hp:0<=f.params):(mkL f).Pairwise Apt:=by
 unfold mkL;rw [List.pairwise_append];refine ⟨?_,q99 F f.blocks 0 (λ k b h=>by rw [Nat.zero_add];exact h),?_⟩
 ·unfold vK;rw [List.pairwise_map];refine List.Pairwise.imp ?_ (show (List.range (jI f)).Pairwise (·≠·) from List.nodup_range);intro a b h _ e;have e:((a:Nat):Int)=((b:Nat):Int):=e;exact h (by omega)
 ·intro e he e' wj h0 wg;obtain ⟨r,hr,rfl⟩:=mem_mkPar.1 he;(obtain ⟨c,-,hm⟩:=q1o wj (by rw [<- wg];exact h0));have h1:=F.par _ _ _ hm;have h2:=q83 f hp hr;have h3:(r:Int)=e'.r:=wg;omega
theorem q8x (j:Nat):∀ l:List Mk,l.Pairwise Apt->vN l j<=1
 | [],_=>by unfold vN;simp
 | e::l,h=>by
  rw [List.pairwise_cons] at h;unfold vN;rw [List.countP_cons]
  by_cases he:e.r=(j:Int)
  ·have h0:l.countP (λ e=>decide (e.r=(j:Int)))=0:=by
    rw [List.countP_eq_zero];intro x hx;have:=h.1 x hx (by omega);simp;omega
   rw [h0];simp [he]
  ·have:=q8x j l h.2;unfold vN at this;simp [he];exact this
theorem qA6 {f:qB} {D:Nat->Nat->Prop} (F:q1K f D) (hp:0<=f.params) (j:Nat):vN (evL f) j<=1 :=
 q8x j _ ((qAB F hp).filter _)
theorem qAl {f:qB} {D:Nat->Nat->Prop} (F:q1K f D) (hp:0<=f.params) {r:Nat} (hr:r<f.regs.length) (wh:f.params<=(r:Int)) {c:Nat} {a:Int} (h:MkA f (r:Int) c a):yy (evL f) r=⟨(r:Int),(c:Int),a⟩:=by
 have hm:(⟨(r:Int),(c:Int),a⟩:Mk)∈evL f:=by
  unfold evL flM;rw [List.mem_filter];refine ⟨?_,?_⟩
  ·unfold mkL;exact List.mem_append_right _ (q6r h)
  ·unfold q2i;rw [Bool.and_eq_true];exact ⟨decide_eq_true (show (0:Int)<=(r:Int) by omega),decide_eq_true (show (r:Int)<f.regs.length by omega)⟩
 unfold yy;cases hf:(evL f).find? λ e=>decide (e.r=(r:Int)) with
 | none =>
  have:=List.find?_eq_none.1 hf _ hm;simp at this
 | some e =>
  have h1:=List.mem_of_find?_eq_some hf;(have h2:e.r=(r:Int):=by have:=List.find?_some hf;simpa using this);have h3:=(List.mem_filter.1 h1).1;rcases List.mem_append.1 h3 with h3 | h3
  ·obtain ⟨q,hq,rfl⟩:=mem_mkPar.1 h3;have:=q83 f hp hq;have:(q:Int)=(r:Int):=h2;omega
  ·(obtain ⟨c',g1,g2⟩:=q1o h3 (by rw [h2];omega));rw [h2] at g2;obtain ⟨rfl,rfl⟩:=F.one _ _ _ _ _ g2 h;obtain ⟨er,eb,ea⟩:=e;show (⟨er,eb,ea⟩:Mk)=_;have g1:eb=(c':Int):=g1;have h2:er=(r:Int):=h2;rw [g1,h2]
theorem q8D {f:qB} {D:Nat->Nat->Prop} (F:q1K f D) (hargs:∀ (b:Nat) (k:qE),f.blocks[b]?=some k->∀ p∈k.phis,p.args.length=(qH f.blocks (b:Int)).length) {e:Mk} (he:e∈nmL f):∃ c:Nat,e.b=(c:Int)/\c<f.blocks.length/\AhA f D e.r c e.a:=by
 have key:∀ (l:List qE) (i:Nat),(∀ k b,l[k]?=some b->f.blocks[i+k]?=some b)->e∈vt f l i->∃ c:Nat,e.b=(c:Int)/\c<f.blocks.length/\AhA f D e.r c e.a:=by
  intro l
  induction l with
  | nil=>intro i _ h;cases h
  | cons b l ih =>
   intro i h he;(have hb:f.blocks[i]?=some b:=by have:=h 0 b rfl;simpa using this);have ww:=(Jk hb).1;have he:e∈(y8 f i b.phis++jL i b.ins++nmT i b)++vt f l (i+1):=he;rcases List.mem_append.1 he with he | he
   ·rcases List.mem_append.1 he with he | he
    ·rcases List.mem_append.1 he with he | he
     ·obtain ⟨p,hp,he⟩:=List.mem_flatMap.1 he;obtain ⟨n,hn,rfl⟩:=List.mem_mapIdx.1 he;have hq:=qw f.blocks 0 (i:Int) _ (List.getElem_mem hn);have hl:=hargs i b hb p hp;(have wu:n<p.args.length:=by rw [hl];exact hn);simp only [Nat.zero_add,Int.natCast_zero] at hq;refine ⟨((qH f.blocks (i:Int))[n]).toNat,?_,?_,?_⟩
      ·show (qH f.blocks (i:Int))[n]=_;have:=hq.1;unfold qH at *;omega
      ·have h1:=hq.1;have h2:=hq.2;unfold qH at *;omega
      ·exact F.ahP i b hb p hp n _ _ (Jq hn) (by rw [Jq wu,JJ,Jq wu];rfl)
     ·obtain ⟨l2,wM,he⟩:=List.mem_flatten.1 he;obtain ⟨j,hj,rfl⟩:=List.mem_mapIdx.1 wM;obtain ⟨a,ha,rfl⟩:=List.mem_map.1 he;exact ⟨i,rfl,ww,F.ahI i b hb j _ (Jq hj) a ha⟩
    ·unfold nmT at he
     split at he
     ·rename_i h0;(rw [List.mem_singleton] at he;subst he);exact ⟨i,rfl,ww,F.ahT i b hb h0⟩
     ·cases he
   ·refine ih (i+1) (λ k b' hk=>?_) he;have:=h (k+1) b' (by simpa using hk);rw [show i+1+k=i+(k+1) by omega];exact this
 exact key f.blocks 0 (λ k b h=>by rw [Nat.zero_add];exact h) he
theorem q73 {f:qB} (F:q1K f (DBl f.blocks)) (hp:0<=f.params) (wk:∀ b,b<f.blocks.length->qI f.blocks b=true) (hargs:∀ (b:Nat) (k:qE),f.blocks[b]?=some k->∀ p∈k.phis,p.args.length=(qH f.blocks (b:Int)).length):yK f=(0,-1):=by
 (have h1:qs f.blocks.length (λ j=>qI f.blocks j == false)=-1:=j5 λ i hi=>by rw [wk i hi];rfl);have h2:qs f.regs.length (λ j=>yv f j == true)=-1:=j5 λ i hi=>by
  (have:yv f i=false:=by unfold yv;exact decide_eq_false (by have:=qA6 F hp i;omega));rw [this];rfl
 have h3:qs f.regs.length (λ j=>jf f j == true)=-1:=j5 λ i hi=>by
  have:jf f i=false:=by
   unfold jf;rw [List.any_eq_false];intro e he;rw [Bool.and_eq_true,not_and];intro wl;have wl:e.r=(i:Int):=of_decide_eq_true wl;obtain ⟨c,hc,hcl,ha⟩:=q8D F hargs he;unfold q7I;rw [Bool.and_eq_true,not_and]
   intro wh;have wh:f.params<=e.r:=of_decide_eq_true wh;rw [Bool.not_eq_true',Bool.not_eq_false];rcases ha with h | ⟨d,a,hm,h⟩
   ·omega
   ·rw [wl] at hm wh;rw [show e.r.toNat=i by omega,qAl F hp hi wh hm];unfold ahB
    by_cases wJ:d=c
    ·subst wJ;rcases h with ⟨-,h⟩ | ⟨h,-⟩
     ·rw [if_pos (show ((d:Nat):Int)=e.b from hc.symm)];exact decide_eq_true h
     ·exact absurd rfl h
    ·rcases h with ⟨h,-⟩ | ⟨-,h⟩
     ·exact absurd h wJ
     ·(rw [if_neg (show ¬ ((d:Nat):Int)=e.b by rw [hc];omega)]);rw [Bool.and_eq_true];exact ⟨decide_eq_true (show (0:Int)<=(d:Int) by omega),by show dmB f.blocks d e.b.toNat=true;rw [hc,Int.toNat_natCast];exact h.2.2⟩
  rw [this];rfl
 unfold yK;rw [h1,h2,h3]
 rfl
theorem q0i {bs cs:List qE} (h:bs.map (λ b=>b.term.to)=cs.map (λ b=>b.term.to)):nxF bs=nxF cs/\bs.length=cs.length:=by
 (have hl:bs.length=cs.length:=by have:=congrArg List.length h;simpa using this);refine ⟨funext λ a=>?_,hl⟩;unfold nxF;have ha:=congrArg (λ l=>l[a]?) h;simp only [List.getElem?_map] at ha;cases hb:bs[a]? with
 | none =>
  (have:cs[a]?=none:=by rw [List.getElem?_eq_none_iff] at hb ⊢;omega);rw [this]
 | some b =>
  rw [hb] at ha;cases hc:cs[a]? with
  | none=>rw [hc] at ha;cases ha
  | some c =>
   rw [hc] at ha;(have:b.term.to=c.term.to:=by simpa using ha);rw [hl];show zH cs.length b.term.to=zH cs.length c.term.to;rw [this]
theorem q0w {bs cs:List qE} (h:bs.map (λ b=>b.term.to)=cs.map (λ b=>b.term.to)):qi bs=qi cs:=by
 obtain ⟨h1,h2⟩:=q0i h;(funext b w x);unfold qi;rw [h1,h2]
theorem q8q {bs cs:List qE} (h:bs.map (λ b=>b.term.to)=cs.map (λ b=>b.term.to)):dmB bs=dmB cs:=by
 (funext a b);unfold dmB;rw [q0w h]
theorem q3L {bs cs:List qE} (h:bs.map (λ b=>b.term.to)=cs.map (λ b=>b.term.to)) (b:Nat):qI bs b=qI cs b:=by
 rw [<- qY,<- qY,q0w h]
theorem q7Q {bs cs:List qE} (h:bs.map (λ b=>b.term.to)=cs.map (λ b=>b.term.to)):DBl bs=DBl cs:=by
 (funext a b);unfold DBl;rw [q8q h,(q0i h).2]
theorem q7E (P:SsP):(qU P).blocks.map (λ b=>b.term.to)=P.f.blocks.map (λ b=>b.term.to):=by
 refine List.ext_getElem? λ i=>?_;rw [List.getElem?_map,List.getElem?_map]
 by_cases hi:i<P.f.blocks.length
 ·rw [zo hi,Jq hi];show some (qP P.f i).term.to=some P.f.blocks[i].term.to;rw [show qP P.f i=P.f.blocks[i] from qv (Jq hi)]
 ·rw [List.getElem?_eq_none (by show ((List.range P.f.blocks.length).map (vw P)).length<=i;simp;omega),List.getElem?_eq_none (by omega)]
theorem q5H {m t:List qB} {n:Nat} {P:SsP} {ord:Nat->Nat} (T:SsT m t n P (DBl P.f.blocks) ord) (wk:∀ b,b<P.f.blocks.length->qI P.f.blocks b=true):yK (qU P)=(0,-1):=by
 have ht:=q7E P;have hl:=(q0i ht).2;refine q73 ?_ (show 0<=P.f.params from T.ok.fn.par.1) (λ b hb=>?_) (λ b k hk p hp=>?_)
 ·rw [q7Q ht];exact T.form
 ·rw [q3L ht];exact wk b (by omega)
 ·(have wO:b<P.f.blocks.length:=by have:=(Jk hk).1;omega);rw [zo wO] at hk;injection hk with hk;subst hk;obtain ⟨r,hr,rfl⟩:=List.mem_map.1 (show p∈(phL P b).map (q1B P b) from hp);rw [x9];show (List.map _ (qH P.f.blocks (b:Int))).length=_;rw [List.length_map]
def atV (l:List Int) (a:Int):Int:=l.getD a.toNat 0
def xV (l xs:List Int):List Int:=xs.map (atV l)
theorem q6G {l xs:List Int} {i:Nat} {x:Int} (h:xs[i]?=some x):xV l (xs.take (i+1))=xV l (xs.take i)++[atV l x]:=by
 unfold xV;rw [qG h,List.map_append];rfl
def qB4 (l xs:List Int) (w:World) (e:Ending) (w':World):Prop :=
 (∃ v,e=.returned v/\w'.ownsRow w.heap.size 3 1 v xs.length ((xV l xs).map (Value.int .i64)))/\Below w.heap.size w w'
set_option maxRecDepth 100000 in
set_option maxHeartbeats 4000000 in
theorem q2N (xs l:List Int) (vx vl:Value) (w:World) (hx:VS w 1 RInt vx xs) (hl:VS w 1 RInt vl l) (td:∀ a∈xs,0<=a/\a<l.length) (hn:xs.length<=1000) :
  Calls Tryz.prog 100 #[vx,vl] w (qB4 l xs w):=by
 obtain ⟨i0,hi,wY,wX,wW⟩:=info_parts Tryz.info3;have HI:=Jj (And.intro hi (And.intro wY (And.intro wX wW)));clear hi wY wX wW;obtain ⟨A,c,rfl,hs⟩:=hx;obtain ⟨Al,cl,rfl,ww⟩:=hl;have HS:=Jj hs;have HL:=Jj ww;have HN:=Jj td;have hll:=ww.len
 clear hs ww td;(go_enter Tryz.func100,Tryz.ntmps100);go_wp2_with fail
 go_loopw [5,10] (λ s5 s10 wr=>∃ (i:Nat) (vo:Value),i<=xs.length/\s10=.int .i64 (i:Int)/\s5=vo/\wr.ownsRow w.heap.size 3 1 vo i ((xV l (xs.take i)).map (Value.int .i64))/\Below w.heap.size w wr) (λ _ s10 _=>xs.length - (intOf s10).toNat)
 case atStart=>exact ⟨0,_,Nat.zero_le _,rfl,rfl,World.ownsRow_nil _ _ _ _,J5 _ _⟩
 case round =>
  obtain ⟨i,vo,hi,rfl,rfl,wm,wh⟩:=hrel;have wT:=Jj wm;have wl:=Jj wh
  by_cases wO:i<xs.length
  ·obtain ⟨bt,ot,x,rfl,hx,hxc,-⟩:=(SInts.keep (q7 wh) HS.out).int wO;have tf:=HN.out x (Jz hx.out);obtain ⟨q,rfl⟩:∃ q:Nat,x=q:=⟨x.toNat,by omega⟩;(have hq:q<l.length:=by omega);(have hq0:(0:Int)<=q:=by omega);(have hq1:(q:Int)<l.length:=by omega);obtain ⟨bl,ol,y,rfl,hy,hyc,-⟩:=(SInts.keep (q7 wh) HL.out).int hq
   have tu:Hid (xV l (xs.take (i+1))=xV l (xs.take i)++[y]):=Jj (by
    rw [q6G hx.out];unfold atV;rw [Int.toNat_natCast,JJ,hy.out];rfl)
   clear tf hx wm wh hy;go_wp2_with (at_builtin;refine wpList_append_lies _ rfl (.tmp 14) (.tmp 19) 27 rfl w.heap.size 3 i0 (.int .i64 0) 1 8 Tryz.underlying27 HI.out.1 HI.out.2.1 HI.out.2.2.1 HI.out.2.2.2 rfl (by decide) _ _ _ rfl (wT.out.alloc _) ⟨wr.heap.size,0,none⟩ 1 1 [.int .i64 y] rfl rfl ?e1 ?e2 (by decide) ?e3 ?e4 ?e5 (wr.heap.size+1) ?e6 ?_)
   case e1=>exact qm wr _ _ rfl
   case e2=>exact ints_oneCell .i64 [y]
   case e3=>unfold maxLen;omega
   case e4=>omega
   case e5=>have:=wl.out.size;simp;omega
   case e6=>simp
   intro g cap w6 wj wg wu wM;(have tD:Hid (Below w.heap.size w w6):=Jj ((wl.out.alloc wl.out.size _).grown wg (by have:=wl.out.size;simp;omega) (λ g' tq=>(wT.out.lt g' tq).1)));have tz:=Jj wj;clear wj wg wu wM;go_wp2_with fail
   go_roundw
   case rel=>exact ⟨i+1,_,by omega,by go_num,rfl,by rw [tu.out,List.map_append];exact tz.out,tD.out⟩
   case measure=>simp [intOf];omega
  ·have tp:xs.take i=xs:=List.take_of_length_le (by omega);(have tm:i=xs.length:=by omega);subst tm;clear wm wh;(go_wp2_with fail);(go_ret);exact ⟨⟨_,rfl,by have h:=wT.out;rwa [tp] at h⟩,wl.out⟩
def qBN (p:Int) (n:Nat) (w:World) (e:Ending) (w':World):Prop :=
 (∃ G,e=.returned (.slice (some ⟨G,0,none⟩) n n)/\w.heap.size<=G/\w'.rowIs G 3 n (λ r=>.int .i64 (if (r:Int)<p then (r:Int) else -1)))/\Below w.heap.size w w'
def enR (p:Int) (j r:Nat):Int:=if r<j then (if (r:Int)<p then (r:Int) else -1) else 0
theorem q8k (p:Int) (r:Nat):enR p 0 r=0:=by unfold enR;rw [if_neg (by omega)]
theorem q43 (p:Int) (j r:Nat):(if r=j then (if (j:Int)<p then (j:Int) else -1) else enR p j r)=enR p (j+1) r:=by
 unfold enR
 by_cases e:r=j
 ·subst e;rw [if_pos rfl,if_pos (show r<r+1 by omega)]
 ·rw [if_neg e]
  by_cases h:r<j
  ·rw [if_pos h,if_pos (show r<j+1 by omega)]
  ·rw [if_neg h,if_neg (show ¬ r<j+1 by omega)]
set_option maxRecDepth 100000 in
set_option maxHeartbeats 4000000 in
theorem q42 (f:qB) (v:Value) (w:World) (hv:VFun w v f) (hn:f.regs.length<=1000):Calls Tryz.prog 62 #[v] w (qBN f.params f.regs.length w):=by
 obtain ⟨Ar,cr,A,c,rfl,-,-,-,-⟩:=hv;have th:=run_make_row' (P:=Tryz.prog) 27 3 (.int .i64 0) 8 Tryz.underlying27 Tryz.info3 rfl .i64 .i64 f.regs.length (by omega) (by omega);(go_enter Tryz.func62,Tryz.ntmps62);(go_upto_region 1 with fail);obtain ⟨w1,wZ,tc,tj,wk,wQ,-⟩:=named w #[.int .i64 f.params,.int .i64 f.result,.slice Ar f.regs.length cr,.slice A f.blocks.length c] 30;rw [<- wZ];have c0:w1.cell? ⟨w.heap.size,0,none⟩=some (.int .i64 f.params):=wQ 0 _ rfl;have c2:w1.cell? ⟨w.heap.size,2,none⟩=some (.slice Ar f.regs.length cr):=wQ 2 _ rfl;have wV:=Jj wk
 have tw:=Jj tc;obtain ⟨N,hN⟩:∃ N,N=w.heap.size:=⟨_,rfl⟩;have tB:=Jj hN;rw [<- hN] at c0 c2 ⊢;clear wZ tc wk wQ tj hN;(go_upto_region 2 with fail);clear th c2;obtain ⟨Q,hQ⟩:∃ Q,Q=w1.heap.size:=⟨_,rfl⟩;obtain ⟨w2,wv⟩:∃ w2,w2=w1.alloc (.cells (madeCells #[.int .i64 0] f.regs.length) 3):=⟨_,rfl⟩
 (have tr:Below w1.heap.size w1 w2:=by rw [wv];exact (J5 _ _).alloc (J4 _) _);have wJ:w2.rowIs Q 3 f.regs.length (λ x=>.int .i64 (enR f.params 0 x)):=by
  rw [wv,hQ];exact (World.rowIs_made w1 (.int .i64 0) f.regs.length 3).congr λ i _=>by rw [q8k]
 have wU:=Jj tr;have tC:=Jj c0;(have HQ:Hid (w.heap.size<=Q/\N<Q/\Q=w1.heap.size):=Jj ⟨by rw [hQ];exact wV.out.size,by rw [hQ,tB.out];have:=tw.out;omega,hQ⟩);rw [<- wv,<- hQ];clear wv hQ c0;go_wp2_with fail
 go_loopw [11] (λ s11 wr=>∃ i:Nat,i<=f.regs.length/\s11=.int .i64 (i:Int)/\wr.rowIs Q 3 f.regs.length (λ x=>.int .i64 (enR f.params i x))/\Below w1.heap.size w1 wr) (λ s11 _=>f.regs.length - (intOf s11).toNat)
 case atStart=>exact ⟨0,Nat.zero_le _,rfl,wJ,wU.out⟩
 case round =>
  obtain ⟨i,hi,rfl,hr,wh⟩:=hrel;have c0:wr.cell? ⟨N,0,none⟩=some (.int .i64 f.params):=(q7 wh) _ _ tC.out
  by_cases wO:i<f.regs.length
  ·(have hi0:(0:Int)<=i:=by omega);(have hi1:(i:Int)<f.regs.length:=by omega);have d1:=hr.cell wO;have d2:=hr.frozen i;have HR:=Jj hr;have wl:=Jj wh;(have tx:Hid (N≠Q):=Jj (by have:=HQ.out;omega));have hcN:∀ u,(wr.setCell ⟨Q,i,none⟩ u).cell? ⟨N,0,none⟩=some (.int .i64 f.params):=λ u=>by
    rw [World.cell?_setCell_other _ _ _ _ (λ e=>tx.out (by injection e with e1 _ _;exact e1.symm))];exact c0
   have hcN':=hcN (.int .i64 (-1));have ta:∀ u,(wr.setCell ⟨Q,i,none⟩ u).cell? ⟨Q,i,none⟩=some u:=λ u=>World.cell?_setCell_same _ _ _ d1;have hsz':=ta (.int .i64 (-1));(have hfz':(wr.setCell ⟨Q,i,none⟩ (.int .i64 (-1))).frozen? ⟨Q,i,none⟩=false:=by rw [World.frozen?_setCell];exact d2);clear hr wh hcN ta
   by_cases hp:(i:Int)<f.params
   ·go_wp2_with fail
    go_roundw
    case rel =>
     refine ⟨i+1,by omega,by go_num,((HR.out.set i (.int .i64 (-1))).set i (.int .i64 i)).congr λ x hx=>?_,?_⟩
     ·have h:=q43 f.params i x;rw [if_pos hp] at h;rw [<- h]
      by_cases e:x=i <;> simp [e]
     ·exact (wl.out.setCell (p:=⟨Q,i,none⟩) (by show w1.heap.size<=Q;rw [HQ.out.2.2];exact J4 _) _).setCell (p:=⟨Q,i,none⟩) (by show w1.heap.size<=Q;rw [HQ.out.2.2];exact J4 _) _
    case measure=>simp [intOf];omega
   ·go_wp2_with fail
    go_roundw
    case rel =>
     refine ⟨i+1,by omega,by go_num,(HR.out.set i (.int .i64 (-1))).congr λ x hx=>?_,?_⟩
     ·have h:=q43 f.params i x;rw [if_neg hp] at h;rw [<- h]
      by_cases e:x=i <;> simp [e]
     ·exact wl.out.setCell (p:=⟨Q,i,none⟩) (by show w1.heap.size<=Q;rw [HQ.out.2.2];exact J4 _) _
    case measure=>simp [intOf];omega
  ·have wR:=Jj wh;have tg:=Jj hr;clear wh hr;(go_wp2_with fail);(go_ret);refine ⟨⟨Q,rfl,HQ.out.1,tg.out.congr λ x hx=>?_⟩,wV.out.trans (wR.out.mono wV.out.size)⟩;unfold enR;rw [if_pos (by omega)]
def zrK (p:Int) (M:Nat->Bool) (j:Nat):List Nat:=(List.range j).filter λ r=>decide (p<=(r:Int)) && M r
theorem q7T {p:Int} (M:Nat->Bool) {j:Nat} (h:(j:Int)<=p):zrK p M j=[]:=by
 unfold zrK;rw [List.filter_eq_nil_iff];intro r hr;rw [List.mem_range] at hr;(have:decide (p<=(r:Int))=false:=by rw [decide_eq_false_iff_not];omega);rw [this];simp
theorem q7U {p:Int} {M:Nat->Bool} {j:Nat} (h:p<=(j:Int)):zrK p M (j+1)=zrK p M j++(if M j=true then [j] else []):=by
 unfold zrK;rw [List.range_succ,List.filter_append];have:decide (p<=(j:Int))=true:=decide_eq_true h;cases hm:M j <;> simp [this,hm]
theorem q2I (p:Int) (M:Nat->Bool) (j:Nat):(zrK p M j).length<=j:=by
 unfold zrK;have:=List.length_filter_le (λ r:Nat=>decide (p<=(r:Int)) && M r) (List.range j);simpa using this
def zC (r:Nat):List Value:=[.int .i64 1,.int .i64 (r:Int),.slice none 0 0,.int .i64 0,.int .i64 0]
def zI (r:Nat):qN:=⟨1,(r:Int),[],0,0⟩
def zCs (l:List Nat):List Value:=l.flatMap zC
theorem q7W (l:List Nat) (r:Nat):zCs (l++[r])=zCs l++zC r:=by unfold zCs;simp
theorem q33 (B:Nat->Prop) (w:World):∀ (l:List Nat),(∀ r∈l,r<=1000000)->Rows 5 (CIns B w) (l.map zI) (zCs l)
 | [],_=>rfl
 | r::l,h=>⟨zC r,zCs l,rfl,rfl,⟨none,0,rfl,⟨J4 _,⟨by unfold maxLen;omega,λ _=>rfl⟩,λ hp=>absurd hp (by simp [zI])⟩,by unfold I64 zI;simp,by have:=h r List.mem_cons_self;unfold I64 zI;simp;omega,by unfold I64 zI;simp,by unfold I64 zI;simp⟩,q33 B w l λ x hx=>h x (List.mem_cons_of_mem _ hx)⟩
def qB0 (p:Int) (M:Nat->Bool) (n:Nat) (w:World) (e:Ending) (w':World):Prop :=
 (∃ v,e=.returned v/\w'.ownsRow w.heap.size 53 5 v (zrK p M n).length (zCs (zrK p M n)))/\Below w.heap.size w w'
set_option maxRecDepth 100000 in
set_option maxHeartbeats 4000000 in
theorem q32 (f:qB) (v:Value) (w:World) (G:Nat) (M:Nat->Bool) (hv:VFun w v f) (hG:w.rowIs G 4 f.regs.length (λ r=>.bool (M r))) (hn:f.regs.length<=1000) (hp:0<=f.params/\f.params<=f.regs.length) :
  Calls Tryz.prog 22 #[v,.slice (some ⟨G,0,none⟩) f.regs.length f.regs.length] w (qB0 f.params M f.regs.length w):=by
 obtain ⟨i0,hi,tg,tf,td⟩:=info_parts Tryz.info53;have HI:=Jj (And.intro hi (And.intro tg (And.intro tf td)));clear hi tg tf td;obtain ⟨Ar,cr,A,c,rfl,-,-,-,-⟩:=hv;obtain ⟨p,tj⟩:∃ p:Nat,f.params=(p:Int):=⟨f.params.toNat,by omega⟩;rw [tj] at hp ⊢;(have tr:p<=f.regs.length:=by omega);have HG:=Jj hG;clear hp tj hG
 (go_enter Tryz.func22,Tryz.ntmps22);(go_upto_region 1 with fail);obtain ⟨w1,wJ,wU,wY,wg,ww,-⟩:=named w #[.int .i64 p,.int .i64 f.result,.slice Ar f.regs.length cr,.slice A f.blocks.length c] 30;rw [<- wJ];have c0:w1.cell? ⟨w.heap.size,0,none⟩=some (.int .i64 p):=ww 0 _ rfl;have c2:w1.cell? ⟨w.heap.size,2,none⟩=some (.slice Ar f.regs.length cr):=ww 2 _ rfl;have wl:=Jj wg;have wO:=Jj c2;obtain ⟨N,hN⟩:∃ N,N=w.heap.size:=⟨_,rfl⟩
 rw [<- hN] at c0 c2 ⊢;have wO:=Jj c2;rw [hN] at wO;have tD:=Jj hN;clear wJ wU wg ww wY hN;go_wp2_with fail
 go_loopw [5,6] (λ s5 s6 wr=>∃ (i:Nat) (vo:Value),p<=i/\i<=f.regs.length/\s6=.int .i64 (i:Int)/\s5=vo/\wr.ownsRow w1.heap.size 53 5 vo (zrK p M i).length (zCs (zrK p M i))/\Below w1.heap.size w1 wr) (λ _ s6 _=>f.regs.length - (intOf s6).toNat)
 case atStart=>exact ⟨p,_,J4 _,tr,rfl,rfl,by rw [q7T M (Int.le_refl _)];exact World.ownsRow_nil _ _ _ _,J5 _ _⟩
 case round =>
  obtain ⟨i,vo,hpi,hi,rfl,rfl,wv,wj⟩:=hrel;have wT:=Jj wv;have wk:=Jj wj;have c2:wr.cell? ⟨N,2,none⟩=some (.slice Ar f.regs.length cr):=by rw [tD.out];exact (q7 wj) _ _ wO.out
  by_cases ta:i<f.regs.length
  ·(have hi0:(0:Int)<=i:=by omega);(have hi1:(i:Int)<f.regs.length:=by omega);have dg:=(HG.out.of_block ((wl.out.trans (wj.mono wl.out.size)).block G HG.out.lt)).cell ta;have hzl:=q2I p M i;have wR:=Jj (q7U (p:=(p:Int)) (M:=M) (j:=i) (by omega));clear wv wj;cases hm:M i
   ·rw [hm] at dg wR;go_wp2_with fail
    go_roundw
    case rel=>exact ⟨i+1,_,by omega,by omega,by go_num,rfl,by rw [wR.out];simpa using wT.out,wk.out⟩
    case measure=>simp [intOf];omega
   ·rw [hm] at dg wR;go_wp2_with (at_builtin;refine wpList_append_lies _ rfl (.tmp 20) (.tmp 23) 49 rfl w1.heap.size 53 i0 (.agg #[.int .i64 0,.int .i64 0,.slice none 0 0,.int .i64 0,.int .i64 0]) 5 56 Tryz.underlying49 HI.out.1 HI.out.2.1 HI.out.2.2.1 HI.out.2.2.2 (by rfl) (by decide) _ _ _ rfl (wT.out.alloc _) ⟨wr.heap.size,0,none⟩ 1 1 (zC i) rfl rfl ?c1 ?c2 (by omega) ?c3 ?c4 ?c5 (wr.heap.size+1) ?c6 ?_)
    case c1=>exact λ j u h=>h
    case c2=>intro x hx;simp only [zC,List.mem_cons,List.not_mem_nil,or_false] at hx;rcases hx with rfl | rfl | rfl | rfl | rfl <;> rfl
    case c3=>unfold maxLen;omega
    case c4=>omega
    case c5=>have:=wk.out.size;simp;omega
    intro g cap w6 wm wh wM wW;(have tH:Hid (Below w1.heap.size w1 w6):=Jj ((wk.out.alloc wk.out.size _).grown wh (by have:=wk.out.size;simp;omega) (λ g' tx=>(wT.out.lt g' tx).1)));have tC:=Jj wm;clear wm wh wM wW;go_wp2_with fail
    go_roundw
    case rel=>exact ⟨i+1,_,by omega,by omega,by go_num,rfl,by rw [wR.out,if_pos trivial,q7W,List.length_append];exact tC.out,tH.out⟩
    case measure=>simp [intOf];omega
  ·(have wQ:i=f.regs.length:=by omega);subst wQ;clear wv wj;(go_wp2_with fail);(go_ret);exact ⟨⟨_,rfl,zw wT.out wl.out.size⟩,wl.out.trans (wk.out.mono wl.out.size)⟩
def zR (l:List qE):Nat:=(l.map λ b=>b.phis.length+b.ins.length).sum
theorem q0r {l:List qE} {i:Nat} {b:qE} (h:l[i]?=some b):zR (l.take (i+1))=zR (l.take i)+(b.phis.length+b.ins.length):=by
 unfold zR;rw [qG h,List.map_append,List.sum_append];simp
set_option maxRecDepth 100000 in
set_option maxHeartbeats 4000000 in
theorem q3l (f:qB) (v:Value) (w:World) (hv:VFun w v f) (hn:f.blocks.length<=1000) (hb:∀ b∈f.blocks,b.phis.length<=1000/\b.ins.length<=1000) :
  Calls Tryz.prog 25 #[v] w λ e w'=>e=.returned (.bool (decide (256<f.blocks.length+zR f.blocks) || decide (256<f.regs.length)))/\Below w.heap.size w w':=by
 obtain ⟨Ar,cr,A,c,rfl,hr,tm,-,-⟩:=hv;have hrl:=hr.len;have tG:=Jj tm;have HL:=Jj hb;clear hr tm hb
 have tF:Hid (∀ i,i<=f.blocks.length->zR (f.blocks.take i)<=2000 * i):=Jj (λ i=>by
  induction i with
  | zero=>intro _;simp [zR]
  | succ i ih =>
   intro hi;have hx:f.blocks[i]?=some f.blocks[i]:=Jq (by omega);have h1:=HL.out _ (Jz hx);rw [q0r hx];have:=ih (by omega)
   omega)
 (go_enter Tryz.func25,Tryz.ntmps25);(go_upto_region 1 with fail);obtain ⟨w1,wJ,wU,wY,wg,ww,-⟩:=named w #[.int .i64 f.params,.int .i64 f.result,.slice Ar f.regs.length cr,.slice A f.blocks.length c] 30;rw [<- wJ];have c2:w1.cell? ⟨w.heap.size,2,none⟩=some (.slice Ar f.regs.length cr):=ww 2 _ rfl;have c3:w1.cell? ⟨w.heap.size,3,none⟩=some (.slice A f.blocks.length c):=ww 3 _ rfl;have wl:=Jj wg;obtain ⟨N,hN⟩:∃ N,N=w.heap.size:=⟨_,rfl⟩;rw [<- hN] at c2 c3 ⊢
 have wO:=Jj c2;clear wJ wU wg ww wY hN;go_wp2_with fail
 go_loopw [3,12] (λ s3 s12 wr=>∃ i:Nat,i<=f.blocks.length/\s12=.int .i64 (i:Int)/\s3=.int .i64 ((f.blocks.length+zR (f.blocks.take i):Nat):Int)/\Below w1.heap.size w1 wr) (λ _ s12 _=>f.blocks.length - (intOf s12).toNat)
 case atStart=>exact ⟨0,Nat.zero_le _,rfl,by simp [zR],J5 _ _⟩
 case round =>
  obtain ⟨i,hi,rfl,rfl,wj⟩:=hrel;have wk:=Jj wj;have wQ:=tF.out i hi
  by_cases ta:i<f.blocks.length
  ·obtain ⟨b,o,kb,rfl,wX,⟨Ap,cp,wV,-⟩,⟨Ai,ci,wZ,-⟩,⟨tu,-⟩,⟨tz,-⟩,⟨At,ct,tp,-⟩⟩:=(SBlks.keep (q7 (wl.out.trans (wj.mono wl.out.size))) tG.out).at_ ta;have hkl:=HL.out _ (Jz wX.out);have tE:=Jj (q0r wX.out);clear wj wX;(go_upto_region 5 with fail);clear wV wZ tu tz tp;obtain ⟨w3,th,tq,tw,wu,tc,-⟩:=named wr #[.slice Ap kb.phis.length cp,.slice Ai kb.ins.length ci,.int .i64 kb.term.kind,.int .i64 kb.term.arg,.slice At kb.term.to.length ct] 51;rw [<- th];have d0:w3.cell? ⟨wr.heap.size,0,none⟩=some (.slice Ap kb.phis.length cp):=tc 0 _ rfl
   have d1:w3.cell? ⟨wr.heap.size,1,none⟩=some (.slice Ai kb.ins.length ci):=tc 1 _ rfl;have tJ:=Jj wu;clear th tq tw wu tc;generalize zR (f.blocks.take i)=q at *;go_wp2_with fail
   go_roundw
   case rel=>exact ⟨i+1,by omega,by go_num,by rw [tE.out];go_num,wk.out.trans (tJ.out.mono wk.out.size)⟩
   case measure=>simp [intOf];omega
  ·(have wQ:i=f.blocks.length:=by omega);subst wQ;have c2:wr.cell? ⟨N,2,none⟩=some (.slice Ar f.regs.length cr):=(q7 wj) _ _ wO.out;clear wj;have HB:Hid (Below w.heap.size w wr):=Jj (wl.out.trans (wk.out.mono wl.out.size));rw [List.take_length] at *
   by_cases h1:256<f.blocks.length+zR f.blocks
   ·(have tB:(256:Int)<((f.blocks.length+zR f.blocks:Nat):Int):=by omega);have HD:Hid (decide (256<f.blocks.length+zR f.blocks)=true):=Jj (decide_eq_true h1);clear h1;(go_wp2_with fail);(go_ret);exact ⟨by rw [HD.out];simp,HB.out⟩
   ·(have tB:¬ (256:Int)<((f.blocks.length+zR f.blocks:Nat):Int):=by omega);have HD:Hid (decide (256<f.blocks.length+zR f.blocks)=false):=Jj (decide_eq_false h1);clear h1;(go_wp2_with fail);(go_ret);exact ⟨by rw [HD.out];simp;rw [Bool.eq_iff_iff];simp only [Bool.or_eq_true,decide_eq_true_eq];omega,HB.out⟩
def q30 (w:World) (K P:Nat) (v:Value) (ts:List Int) (t:Int) (e:Ending) (w':World):Prop :=
 e=.returned (.int .i64 (ts.length:Int))/\∃ v',w'.cell? ⟨P,2,none⟩=some v'/\(∀ i,i≠2->w'.cell? ⟨P,i,none⟩=w.cell? ⟨P,i,none⟩)/\(∀ i,w'.frozen? ⟨P,i,none⟩=w.frozen? ⟨P,i,none⟩) /\
  w'.ownsRow K 3 1 v' (ts.length+1) ((ts++[t]).map (Value.int .i64))/\(∀ g,v'.ownBlock=some g->v.ownBlock=some g\/w.heap.size<=g)/\FrX (λ y=>y=P\/v.ownBlock=some y) w w'
set_option maxRecDepth 100000 in
set_option maxHeartbeats 8000000 in
theorem ky (w:World) (K P Nb old:Nat) (v:Value) (ts regs:List Int) (t:Int) (Ar:Option Addr) (cr:Nat) (hP:P<w.heap.size) (hK:K<=w.heap.size) (wv:w.cell? ⟨P,2,none⟩=some v) (wU:w.cell? ⟨Nb,2,none⟩=some (.slice Ar regs.length cr)) (hNP:Nb≠P)
  (hf:∀ i,w.frozen? ⟨P,i,none⟩=false) (hr:SL w 1 RInt Ar cr regs) (wl:regs[old]?=some t) (hrl:regs.length<=100000) (ho:w.ownsRow K 3 1 v ts.length (ts.map (Value.int .i64))) (hvP:v.ownBlock≠some P) (tc:ts.length<=1000000)
  (hrP:∀ g o,Ar=some ⟨g,o,none⟩->v.ownBlock≠some g) (hvN:v.ownBlock≠some Nb) :
  Calls Tryz.prog 59 #[.int .i64 (old:Int),.pointer (some ⟨P,0,none⟩),.pointer (some ⟨Nb,0,none⟩)] w (q30 w K P v ts t):=by
 have tx:old<regs.length:=(Jk wl).1;obtain ⟨gr,og,x,rfl,hx,wM⟩:=hr.at_ tx;(obtain rfl:t=x:=by have:=wl.symm.trans hx.out;injection this);have tj:gr<w.heap.size:=block_lt_of_cell wM.1;have tf:Nb<w.heap.size:=block_lt_of_cell wU;have wT:=wM.1;rw [Nat.mul_one] at wT;(have ho0:(0:Int)<=old:=by omega);have ho1:(old:Int)<regs.length:=by omega
 obtain ⟨Av,cv,rfl⟩:=qX ho;have th:=hrP gr og rfl;have tB:=Jj ho;have tp:=Jj hvP;have tz:=Jj hvN;have tD:=Jj th;have wW:=Jj hP;have tu:=Jj (And.intro tj tf);have HF:=Jj hf
 have wV:=Jj tc;have tr:=Jj hK;obtain ⟨i0,tg,ta,wZ,wY⟩:=info_parts Tryz.info3;have wJ:=Jj (And.intro tg (And.intro ta (And.intro wZ wY)));have hS:∀ w':World,(∀ y,y=P\/y=gr\/y=Nb->w'.heap[y]?=w.heap[y]?)->w'.cell? ⟨P,2,none⟩=some (.slice Av ts.length cv)/\w'.cell? ⟨Nb,2,none⟩=some (.slice (some ⟨gr,og,none⟩) regs.length cr)/\w'.cell? ⟨gr,og+old,none⟩=some (.int .i64 t):=λ w' hb =>
  ⟨(JK (a:=⟨P,2,none⟩) (hb P (.inl rfl))).trans wv,(JK (a:=⟨Nb,2,none⟩) (hb Nb (.inr (.inr rfl)))).trans wU,(JK (a:=⟨gr,og+old,none⟩) (hb gr (.inr (.inl rfl)))).trans wT⟩
 have tq:=Jj hS;clear tg ta wZ wY hx wM wl ho hvP th hP tj hf hrP hr tc hK hvN tf;(go_enter Tryz.func59,Tryz.ntmps59);(go_upto_region 1 with fail);have hS0:=hS w.drew (λ _ _=>rfl);clear hS wv wU wT;refine qS (L:=10) (S:=λ w':World=>w'.cell? ⟨P,2,none⟩=some (.slice Av ts.length cv)/\w'.cell? ⟨Nb,2,none⟩=some (.slice (some ⟨gr,og,none⟩) regs.length cr)/\w'.cell? ⟨gr,og+old,none⟩=some (.int .i64 t)) (by kernel_rfl) (by rfl) (by kernel_rfl) (by kernel_rfl) ?_;change wpAnyH _ _ _ _ _ _ _ _ (World.drew _);refine tk 0 5 hS0 ?_
 simp only [J6,aS,J1,J2];refine tk 1 6 hS0 ?_;simp only [J6,aS,J1,J2];refine tk 2 7 hS0 ?_;simp only [J6,aS,J1,J2];refine tk 3 8 hS0 ?_;simp only [J6,aS,J1,J2];refine tk 4 9 hS0 ?_;simp only [J6,aS,J1,J2]
 refine tk 5 10 hS0 ?_;simp only [J6,aS,J1,J2];refine tk 6 11 hS0 ?_;simp only [J6,aS,J1,J2];refine zk (i:=7) (by kernel_rfl) (λ o ho K' hK=>?_);(simp only [JZ,JX,JY,J0] at ho;subst ho);(go_simp);have tm:Below w.heap.size w (w.alloc (.cells #[.int .i64 t] 3)).drew:=((J5 _ w).alloc (J4 _) _).drew;refine hK.out _ _ (tq.out _ λ y hy=>tm.block y (by have:=wW.out;have:=tu.out;rcases hy with h | h | h <;> omega)) ?_
 clear hK K';refine zk (i:=8) (by kernel_rfl) (λ o ho K' hK=>?_);(simp only [JZ,JX,JY,J0] at ho;subst ho);refine step_append_lies _ (by rfl) _ _ _ (by rfl) K 3 i0 (.int .i64 0) 1 8 Tryz.underlying27 wJ.out.1 wJ.out.2.1 wJ.out.2.2.1 wJ.out.2.2.2 rfl (by decide) (.slice Av ts.length cv) _ _ (by rfl) (tB.out.alloc _)
  ⟨w.heap.size,0,none⟩ 1 1 [.int .i64 t] (by rfl) (by rfl) (zE _ #[.int .i64 t] _ (by simp)) (by simp [Value.oneCell']) (by decide) (by have:=wV.out;unfold maxLen;omega) (by have:=wV.out;have:=tr.out;simp;omega) (by have:=tr.out;simp;omega) (w.heap.size+1) (by simp) ?_
 intro g' cap w7 wh wg wj wO;have wQ:GroD w w7 (.slice Av ts.length cv) (.slice (some ⟨g',0,none⟩) (ts.length+1) cap):=yC (qq wg wj);have td:∀ y,y=P\/y=gr\/y=Nb->(Value.slice Av ts.length cv).ownBlock≠some y:=λ y hy e=>by
  rcases hy with rfl | rfl | rfl
  ·exact tp.out e
  ·exact tD.out e
  ·exact tz.out e
 (have ww:∀ y,y=P\/y=gr\/y=Nb->w7.heap[y]?=w.heap[y]?:=λ y hy=>wQ.block y (by have:=wW.out;have:=tu.out;rcases hy with h | h | h <;> omega) (td y hy));have hS7:=tq.out w7 ww;have wR:w7.frozen? ⟨P,2,none⟩=false:=(World.frozen?_of_block (a:=⟨P,2,none⟩) (ww P (.inl rfl))).trans (HF.out 2);have tw:=Jj ww;have wX:=Jj wQ;have tC:=Jj wh;refine hK.out _ _ hS7 ?_;clear hK K' wQ wh wg wj wO td tm;try simp only [J6,aS,J1,J2]
 refine tk 9 14 hS7 ?_;simp only [J6,aS,J1,J2];refine wpAnyH_done (by kernel_rfl) ?_ _;refine vL (by decide) (λ o ho K' hK=>?_);(simp only [JZ,JX,JY,J0] at ho;subst ho);have wu:=hS7.1;(go_simp);refine hK.out _ _ ?_;clear hK K' hS7 hS0
 obtain ⟨w8,wk⟩:∃ w8,w8=w7.setCell ⟨P,2,none⟩ (.slice (some ⟨g',0,none⟩) (ts.length+1) cap):=⟨_,rfl⟩;rw [<- wk];(have h8:∀ y,y≠P->w8.heap[y]?=w7.heap[y]?:=λ y hy=>by rw [wk];exact JQ _ _ _ _ hy);(have wv:w8.cell? ⟨P,2,none⟩=some (.slice (some ⟨g',0,none⟩) (ts.length+1) cap):=by rw [wk];exact World.cell?_setCell_same _ _ _ wu);have htl:=wV.out;have wm:∀ y,(Value.slice (some ⟨g',0,none⟩) (ts.length+1) cap).ownBlock=some y->y≠P:=λ y hy e=>by
  subst e;rcases wX.out.own y hy with h | h
  ·exact tp.out h
  ·have:=wW.out;omega
 have HR:Hid (q30 w K P (.slice Av ts.length cv) ts t (.returned (.int .i64 (ts.length:Int))) w8):=Jj ⟨rfl,_,wv,λ i hi=>by
   (rw [wk,World.cell?_setCell_other _ _ _ _ (λ e=>hi (by injection e with _ e2 _;exact e2.symm))]);exact JK (a:=⟨P,i,none⟩) (tw.out P (.inl rfl)),λ i=>by
   rw [wk,World.frozen?_setCell];exact World.frozen?_of_block (a:=⟨P,i,none⟩) (tw.out P (.inl rfl)),by
   rw [List.map_append];exact qJ tC.out (λ y hy=>h8 y (wm y hy)),wX.out.own,by
   rw [wk]
   exact (wX.out.fr (X:=λ y=>y=P\/(Value.slice Av ts.length cv).ownBlock=some y) (FrX.refl _ _) (λ y hy=>.inl (.inr hy))).setCell (p:=⟨P,2,none⟩) (.inl (.inl rfl)) _⟩
 clear wk wm h8 ww wR wu;(go_wp2_with fail);(go_ret);exact HR.out
inductive VerZ (P:SsP) (r:Nat):Nat->Nat->Nat->Prop
 | ins {b n i:Nat}:zT (qR P.f b) r n=some i->VerZ P r b n (dsN P b i)
 | phi {b n:Nat}:zT (qR P.f b) r n=none->r∈phL P b->VerZ P r b n (phN P b r)
 | par {n:Nat}:zT (qR P.f 0) r n=none->r ∉ phL P 0->(r:Int)<P.f.params->VerZ P r 0 n r
 | zero {n:Nat}:zT (qR P.f 0) r n=none->r ∉ phL P 0->¬ (r:Int)<P.f.params->r∈zrL P->VerZ P r 0 n (zrN P r)
 | up {b n v:Nat}:zT (qR P.f b) r n=none->r ∉ phL P b->b≠0->b<P.f.blocks.length->VerZ P r (P.nr b) (qR P.f (P.nr b)).length v->VerZ P r b n v
theorem VerZ.ver {P:SsP} {r b n v:Nat} (h:VerZ P r b n v):Ver P r b n v:=by
 induction h with
 | ins h=>exact .ins h
 | phi h1 h2=>exact .phi h1 h2
 | par h1 h2 h3=>exact .par h1 h2 h3
 | zero h1 h2 h3 h4=>exact .zero h1 h2 h3
 | up h1 h2 h3 h4 h5 ih=>exact .up h1 h2 h3 ih
theorem SsOk.verZ {m:List qB} {P:SsP} {D:Nat->Nat->Prop} {ord:Nat->Nat} (h:SsOk m P D ord) {r:Nat} (hr:r<P.f.regs.length):∀ (t:Nat) {b i:Nat} {k:qE},ord b<=t->P.f.blocks[b]?=some k->i<=k.ins.length->vD P.f r b i->∃ v,VerZ P r b i v/\(vI P)[v]?=some r:=by
 intro t
 induction t with
 | zero =>
  intro b i k ht hb hi hw;have wh:=(Jk hb).1;have ei:=qe hb;cases hl:zT (qR P.f b) r i with
  | some j =>
   obtain ⟨q1,q2⟩:=yA hl;rw [ei] at q2;have hx:k.ins[j]?=some k.ins[j]:=Jq (by omega);rw [JJ,hx] at q2;exact ⟨_,.ins hl,q0h wh (by rw [ei];exact hx) q2⟩
  | none =>
   by_cases hp:r∈phL P b
   ·exact ⟨_,.phi hl hp,q0g wh hp⟩
   ·by_cases h0:b=0
    ·subst h0
     by_cases wg:(r:Int)<P.f.params
     ·exact ⟨_,.par hl hp wg,kF wg⟩
     ·(have hz:r∈zrL P:=mem_zrL.mpr ⟨hr,by omega,(h.want 0 r wh hr).mpr (h.want_of hb hi hw (by rw [<- ei];exact hl))⟩);exact ⟨_,.zero hl hp wg hz,q0f hz⟩
    ·have:=h.dom.ord_ b wh h0;omega
 | succ t ih =>
  intro b i k ht hb hi hw;have wh:=(Jk hb).1;have ei:=qe hb;cases hl:zT (qR P.f b) r i with
  | some j =>
   obtain ⟨q1,q2⟩:=yA hl;rw [ei] at q2;have hx:k.ins[j]?=some k.ins[j]:=Jq (by omega);rw [JJ,hx] at q2;exact ⟨_,.ins hl,q0h wh (by rw [ei];exact hx) q2⟩
  | none =>
   have wj:=h.want_of hb hi hw (by rw [<- ei];exact hl)
   by_cases hp:r∈phL P b
   ·exact ⟨_,.phi hl hp,q0g wh hp⟩
   ·by_cases h0:b=0
    ·subst h0
     by_cases wg:(r:Int)<P.f.params
     ·exact ⟨_,.par hl hp wg,kF wg⟩
     ·have hz:r∈zrL P:=mem_zrL.mpr ⟨hr,by omega,(h.want 0 r wh hr).mpr wj⟩;exact ⟨_,.zero hl hp wg hz,q0f hz⟩
    ·have hc:¬ P.C b r=true:=λ g=>hp (mem_phL.mpr ⟨hr,(h.want b r wh hr).mpr wj,g⟩);have wl:=h.near_want wh h0 wj hc;have ho:=h.dom.ord_ b wh h0;have wu:=(h.dom.dlt _ _ (h.dom.near_ b wh h0).1).1;have wk:P.f.blocks[P.nr b]?=some P.f.blocks[P.nr b]:=Jq wu;obtain ⟨v,hv,wm⟩:=ih (i:=P.f.blocks[P.nr b].ins.length) (by omega) wk (J4 _) ((zg wk).mpr (.inr wl));exact ⟨v,.up hl hp h0 wh (by rw [qe wk];exact hv),wm⟩
theorem SsOk.vrZ {m:List qB} {P:SsP} {D:Nat->Nat->Prop} {ord:Nat->Nat} (h:SsOk m P D ord) {r b i:Nat} {k:qE} (hr:r<P.f.regs.length) (hb:P.f.blocks[b]?=some k) (hi:i<=k.ins.length) (hw:vD P.f r b i):VerZ P r b i (vr P r b i):=by
 obtain ⟨v,h1,h2⟩:=h.verZ hr (ord b) (J4 _) hb hi hw;rw [h1.ver.eq];exact h1
theorem q45 {l:List qN} {i:Nat} {x:qN} (h:l[i]?=some x):dsL (l.take (i+1))=dsL (l.take i)++(if 0<=x.dst then [x.dst.toNat] else []):=by
 unfold dsL;rw [List.take_add_one,h,List.filterMap_append]
 by_cases hd:0<=x.dst
 ·simp [hd]
 ·simp [hd]
end Go.Proofs.YtfoggldjjnabcaaGreatDoor
