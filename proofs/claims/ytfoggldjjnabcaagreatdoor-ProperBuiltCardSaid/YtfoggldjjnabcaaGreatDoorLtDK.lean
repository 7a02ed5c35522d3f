/- A module with what was built in its place is proper. Plain mathematics. -/
import Derived.Test.YtfoggldjjnabcaaGreatDoorModAK
import Derived.Test.YtfoggldjjnabcaaGreatDoorPrTK
import Derived.Test.YtfoggldjjnabcaaGreatDoorDmEK
import Derived.Test.YtfoggldjjnabcaaGreatDoorGrNK
import Derived.Test.YtfoggldjjnabcaaGreatDoorLvSK
set_option linter.unusedVariables false
set_option linter.unusedSimpArgs false
namespace Go.Proofs.YtfoggldjjnabcaaGreatDoor
open Go.ChangeShapes Go.WideShapes Go.RowKit Go.Deep
section
variable {m t:List qB} {n:Nat} {P:SsP} {D:Nat->Nat->Prop} {ord:Nat->Nat}
theorem kS {P:SsP} {v r:Nat} (h:(vI P)[v]?=some r):q4T P.f (qU P) (r:Int) (v:Int):=by
 have hv:=(Jk h).1;(have hl:(qU P).regs.length=(vI P).length:=by show ((vI P).map _).length=_;rw [List.length_map]);(refine ⟨⟨by omega,by rw [hl];omega⟩,?_⟩);unfold reg;show ((vI P).map λ r=>P.f.regs.getD r 0).getD (v:Int).toNat 0=P.f.regs.getD (r:Int).toNat 0;rw [Int.toNat_natCast,Int.toNat_natCast,JJ,List.getElem?_map,h];rfl
theorem SsT.dst_in (T:SsT m t n P D ord) {b:Nat} {k:qE} (hb:P.f.blocks[b]?=some k) {x:qN} (hx:x∈k.ins):x.dst=-1\/InR P.f.regs.length x.dst:=by
 have hN:=q8C T.prop;have hI:=T.ok.fn.ins k (Jz hb) x hx;rcases hI.2 with ⟨ho,h1⟩ | ⟨ho1,ho2,hl,h1⟩ | ⟨ho,hl,h1⟩ | ⟨ho,hl⟩ | ⟨ho,hl⟩ | ⟨ho,hfn,hl,h1⟩
 ·exact .inr h1
 ·exact .inr h1
 ·exact .inr h1
 ·exact .inl (hN P.f (Jz T.hf) k (Jz hb) x hx (.inl ho))
 ·exact .inl (hN P.f (Jz T.hf) k (Jz hb) x hx (.inr ho))
 ·exact h1
theorem SsT.old_lt (T:SsT m t n P D ord):∀ r∈vI P,r<P.f.regs.length:=by
 intro r hr;have hp:=T.ok.fn.par;unfold vI at hr;rcases List.mem_append.1 hr with hr | hr
 ·rcases List.mem_append.1 hr with hr | hr
  ·have:=List.mem_range.1 hr;omega
  ·exact (mem_zrL.mp hr).1
 ·obtain ⟨b,hb,hr⟩:=List.mem_flatMap.1 hr;have wj:=List.mem_range.1 hb;have wg:P.f.blocks[b]?=some P.f.blocks[b]:=Jq wj;unfold jn at hr;rcases List.mem_append.1 hr with hr | hr
  ·exact (mem_phL.mp hr).1
  ·unfold dsL at hr;obtain ⟨x,hx,e⟩:=List.mem_filterMap.1 hr;rw [qe wg] at hx
   split at e
   ·injection e with e;rcases T.dst_in wg hx with h | h
    ·omega
    ·have:=h.2;omega
   ·cases e
theorem SsT.sig (T:SsT m t n P D ord):SigAs m t:=by
 have hp:=T.ok.fn.par;(have hl:(qU P).regs.length=(vI P).length:=by show ((vI P).map _).length=_;rw [List.length_map]);(have wV:P.f.params.toNat<=(vI P).length:=by unfold vI;rw [List.length_append,List.length_append,List.length_range];omega);rw [T.ht];refine q9T T.hf rfl rfl ?_ ?_
 ·unfold xZ;(have a:¬ ((qU P).params<0\/((qU P).regs.length:Int)<(qU P).params):=by rw [hl];show ¬ (P.f.params<0\/((vI P).length:Int)<P.f.params);omega);(have b:¬ (P.f.params<0\/(P.f.regs.length:Int)<P.f.params):=by omega);rw [decide_eq_false a,decide_eq_false b]
 ·refine List.ext_getElem? λ i=>?_;show (((vI P).map λ r=>P.f.regs.getD r 0).take P.f.params.toNat)[i]?=_
  by_cases hi:i<P.f.params.toNat
  ·rw [List.getElem?_take_of_lt hi,List.getElem?_take_of_lt hi,List.getElem?_map,kF (by omega)];show some (P.f.regs.getD i 0)=_;rw [JJ,Jq (by omega)];rfl
  ·rw [List.getElem?_eq_none (by rw [List.length_take];omega),List.getElem?_eq_none (by rw [List.length_take];omega)]
theorem SsT.proper (T:SsT m t n P D ord) (hr:(vI P).length<=256) (wU:P.f.blocks.length+z7 (qU P).blocks<=256):zx t:=by
 obtain ⟨wY,wk⟩:=proper_iff.1 T.prop;have hF:=T.ok.fn;have hp:=hF.par;have h0:=wk P.f (Jz T.hf);obtain ⟨ho,wX⟩:=funE_zero.1 h0;obtain ⟨h1,h2,h3,h4⟩:=xX ho;(have ww:(qU P).blocks.length=P.f.blocks.length:=by show ((List.range P.f.blocks.length).map (vw P)).length=_;simp);(have hl:(qU P).regs.length=(vI P).length:=by show ((vI P).map _).length=_;rw [List.length_map]);have wV:P.f.params.toNat<=(vI P).length:=by unfold vI;rw [List.length_append,List.length_append,List.length_range];omega
 unfold zv at h2;simp only [Bool.and_eq_true] at h2;obtain ⟨⟨t1,t2⟩,t3⟩:=h2;have wM:∀ r,r<P.f.regs.length->q8W (P.f.regs.getD r 0)=true:=λ r hr=>by
  rw [JJ,Jq hr];exact List.all_eq_true.1 t1 _ (List.getElem_mem hr)
 rw [proper_iff];(refine ⟨by rw [T.sig.len];exact wY,λ g hg=>?_⟩);rw [T.sig.fun_];rw [T.ht] at hg;rcases List.mem_or_eq_of_mem_set hg with hg | rfl
 ·exact wk g hg
 rw [funE_zero];constructor
 ·unfold y6;have w1:vG (qU P)=true:=by
   unfold vG;exact decide_eq_true ⟨by rw [ww];exact hF.nb.1,by rw [ww];exact hF.nb.2,by rw [hl];exact hr,by rw [ww];exact wU⟩
  have w2:zv (qU P)=true:=by
   unfold zv;simp only [Bool.and_eq_true];refine ⟨⟨List.all_eq_true.2 λ x hx=>?_,decide_eq_true ⟨hp.1,hp.2.1,?_⟩⟩,t3⟩
   ·obtain ⟨r,hr,rfl⟩:=List.mem_map.1 hx;exact wM r (T.old_lt r hr)
   ·rw [hl];show P.f.params<=_;omega
  have w3:zZ (qU P)=true:=by
   unfold zZ;refine List.all_eq_true.2 λ c hc=>?_;obtain ⟨b,hb,rfl⟩:=List.mem_map.1 hc;have wj:=List.mem_range.1 hb;have wg:P.f.blocks[b]?=some P.f.blocks[b]:=Jq wj;have:=List.all_eq_true.1 h3 _ (List.getElem_mem wj);rw [ww];unfold yP jp at this ⊢;have e1:(vw P b).term.kind=P.f.blocks[b].term.kind:=by show (qP P.f b).term.kind=_;rw [show qP P.f b=P.f.blocks[b] from qv wg]
   (have e2:(vw P b).term.to=P.f.blocks[b].term.to:=by show (qP P.f b).term.to=_;rw [show qP P.f b=P.f.blocks[b] from qv wg]);rw [e1,e2];exact this
  have w4:q05 (qU P)=true:=by
   refine q1q _ _ λ j c hj p hp=>?_;(have wT:j<P.f.blocks.length:=by have:=(Jk hj).1;omega);rw [zo wT] at hj;injection hj with hj;rw [<- hj] at hp;obtain ⟨r,hr,rfl⟩:=List.mem_map.1 hp;rw [Nat.zero_add,x9];show ((qH P.f.blocks j).map _).length=_;rw [List.length_map]
  rw [if_pos w1,if_pos w2,w3,w4];rfl
 ·intro c hc;obtain ⟨b,hb,rfl⟩:=List.mem_map.1 hc;have wj:=List.mem_range.1 hb;have wg:P.f.blocks[b]?=some P.f.blocks[b]:=Jq wj;have ebk:qP P.f b=P.f.blocks[b]:=qv wg;generalize P.f.blocks[b]=k at wg ebk;have ei:=qe wg;have hz:=wX k (Jz wg);rw [blockE_zero] at hz ⊢
  obtain ⟨z1,z2,z3⟩:=hz;refine ⟨λ p hp=>?_,λ x hx=>?_,?_⟩
  ·obtain ⟨r,hr,rfl⟩:=List.mem_map.1 hp;have wv:=(mem_phL.mp hr).1;have hw:=(T.ok.want b r wj wv).mp (mem_phL.mp hr).2.1;have hd:=kS (q0g wj hr);have ha:∀ a∈(q1B P b r).args,q4T P.f (qU P) (r:Int) a:=λ a ha=>by
    obtain ⟨q,hq,rfl⟩:=List.mem_map.1 ha;have wQ:=qw P.f.blocks 0 (b:Int) q hq;simp at wQ;(have wR:q.toNat<P.f.blocks.length:=by omega);have wJ:P.f.blocks[q.toNat]?=some P.f.blocks[q.toNat]:=Jq wR;refine kS ?_;rw [qe wJ];refine T.ok.old wv wJ (J4 _) ((zg wJ).mpr (.inr (.back wj ?_ hw)));rw [show ((q.toNat:Nat):Int)=q by omega];exact hq
   unfold jA;have k1:decide (0<=(q1B P b r).dst/\(q1B P b r).dst<((qU P).regs.length:Int))=true:=decide_eq_true hd.1;have k2:zq (q1B P b r).args (qU P).regs.length=true:=List.all_eq_true.2 λ a h=>decide_eq_true (ha a h).1;rw [k1,k2,if_pos (show (true && true)=true from rfl)];refine if_pos (List.all_eq_true.2 λ a h=>decide_eq_true ?_);rw [(ha a h).2];exact hd.2.symm
  ·rcases List.mem_append.1 hx with hx | hx
   ·unfold zt at hx
    split at hx
    ·obtain ⟨r,hr,rfl⟩:=List.mem_map.1 hx;have wv:=(mem_zrL.mp hr).1;have hd:=kS (q0f hr);have hT:reg (qU P).regs (zrN P r)=1\/reg (qU P).regs (zrN P r)=2:=by
      rw [hd.2];have:=wM r wv;unfold q8W at this;exact of_decide_eq_true this
     have wh:isIn (qU P).regs.length (zrN P r:Int)=true:=decide_eq_true hd.1;have wW:yY (qU P) (q1M P r)=reg (qU P).regs (zrN P r):=by
      unfold yY;exact if_pos wh
     unfold zm;(rw [if_neg (by show ¬ (1:Int)=17;omega)]);have hs:yI (qU P) (q1M P r)=some ([],reg (qU P).regs (zrN P r)):=by
      unfold yI;rw [if_pos (show (q1M P r).op=1 from rfl),wW]
     rw [hs];show (if (q1M P r).args.length=([]:List Int).length then jG (qU P) (q1M P r) [] (reg (qU P).regs (zrN P r)) _ else 6)=0;rw [if_pos (show (q1M P r).args.length=([]:List Int).length from rfl)];unfold jG
     rw [if_pos (by
      rw [Bool.and_eq_true,Bool.or_eq_true]
      exact ⟨rfl,.inr wh⟩)]
     refine if_pos ?_;simp only [Bool.and_eq_true];refine ⟨⟨⟨⟨rfl,?_⟩,rfl⟩,rfl⟩,?_⟩
     ·rw [if_neg (by omega)];exact decide_eq_true ⟨by omega,rfl⟩
     ·show (!decide ((1:Int)=1/\reg (qU P).regs (zrN P r)=2/\(0:Int)≠0/\(0:Int)≠1))=true;rw [decide_eq_false (by omega)];rfl
    ·cases hx
   ·obtain ⟨i,hi⟩:=List.getElem?_of_mem hx;rw [List.getElem?_mapIdx] at hi;cases wu:(qR P.f b)[i]? with
    | none=>rw [wu] at hi;cases hi
    | some z =>
     rw [wu] at hi;injection hi with hi;subst hi;(have wm:k.ins[i]?=some z:=by rw [<- ei];exact wu);have hil:=(Jk wm).1;have hI:=hF.ins k (Jz wg) z (Jz wm);refine qAk (f:=P.f) (x:=z) (φ:=λ a=>((vr P a.toNat b i:Nat):Int)) ⟨rfl,rfl,rfl,rfl,λ a ha=>?_,λ e=>?_,λ hd=>?_⟩ (z2 z (Jz wm))
     ·have wh:=hI.1 a ha;(have wl:((a.toNat:Nat):Int)=a:=by have:=wh.1;omega);(have:=kS (P:=P) (T.ok.old (r:=a.toNat) (by have:=wh.1;have:=wh.2;omega) wg (i:=i) (by omega) ((j2 wg wm).mpr (.inl (by rw [wl];exact ha)))));rw [wl] at this;exact this
     ·show (if 0<=z.dst then (dsN P b i:Int) else -1)=-1;rw [if_neg (by omega)]
     ·(have wO:((z.dst.toNat:Nat):Int)=z.dst:=by have:=hd.1;omega);have:=kS (P:=P) (q0h wj wu (r:=z.dst.toNat) wO.symm);rw [wO] at this;show q4T P.f (qU P) z.dst (if 0<=z.dst then (dsN P b i:Int) else -1);rw [if_pos hd.1];exact this
  ·refine q9O (f:=P.f) (x:=k.term) (y:=(vw P b).term) ?_ rfl ?_ ?_ z3
   ·show (qP P.f b).term.kind=_;rw [ebk]
   ·intro e;show (if 0<=(qP P.f b).term.arg then ((vr P (qP P.f b).term.arg.toNat b (qR P.f b).length:Nat):Int) else -1)=-1;rw [ebk,if_neg (by omega)]
   ·intro wh;(have wl:((k.term.arg.toNat:Nat):Int)=k.term.arg:=by have:=wh.1;omega);(have:=kS (P:=P) (T.ok.old (r:=k.term.arg.toNat) (by have:=wh.1;have:=wh.2;omega) wg (i:=k.ins.length) (J4 _) ((zg wg).mpr (.inl wl.symm))));rw [wl] at this;show q4T P.f (qU P) k.term.arg (if 0<=(qP P.f b).term.arg then ((vr P (qP P.f b).term.arg.toNat b (qR P.f b).length:Nat):Int) else -1);rw [ebk,if_pos wh.1,ei];exact this
end
end Go.Proofs.YtfoggldjjnabcaaGreatDoor

namespace Go.Proofs.YtfoggldjjnabcaaGreatDoor
open Go.ChangeShapes Go.WideShapes Go.RowKit Go.Deep
def MkA (f:qB) (v:Int) (b:Nat) (a:Int):Prop:=∃ k,f.blocks[b]?=some k/\((a=-1/\∃ p∈k.phis,p.dst=v)\/∃ (i:Nat) (x:qN),a=(i:Int)/\k.ins[i]?=some x/\x.dst=v/\0<=v)
def AhA (f:qB) (D:Nat->Nat->Prop) (v:Int) (b:Nat) (a:Int):Prop:=v<f.params\/∃ (c:Nat) (e:Int),MkA f v c e/\((c=b/\e<a)\/(c≠b/\D c b))
structure q1K (f:qB) (D:Nat->Nat->Prop):Prop where
 phs:∀ k∈f.blocks,(k.phis.map PhiD.dst).Nodup
 one:∀ (v:Int) (b:Nat) (a:Int) (c:Nat) (e:Int),MkA f v b a->MkA f v c e->b=c/\a=e
 par:∀ (v:Int) (b:Nat) (a:Int),MkA f v b a->f.params<=v
 ahP:∀ (b:Nat) (k:qE),f.blocks[b]?=some k->∀ p∈k.phis,∀ (j:Nat) (q a:Int),(qH f.blocks b)[j]?=some q->p.args[j]?=some a->AhA f D a q.toNat ((qR f q.toNat).length:Nat)
 ahI:∀ (b:Nat) (k:qE),f.blocks[b]?=some k->∀ (i:Nat) (x:qN),k.ins[i]?=some x->∀ a∈x.args,AhA f D a b (i:Int)
 ahT:∀ (b:Nat) (k:qE),f.blocks[b]?=some k->0<=k.term.arg->AhA f D k.term.arg b (k.ins.length:Nat)
theorem kG {α β:Type} {f:α->β}:∀ {l:List α},l.Nodup->(∀ x,x∈l->∀ y,y∈l->f x=f y->x=y)->(l.map f).Nodup
 | [],_,_=>List.nodup_nil
 | a::l,hn,h=>by
  rw [List.nodup_cons] at hn;rw [List.map_cons,List.nodup_cons];refine ⟨λ hm=>?_,kG hn.2 λ x hx y hy=>h x (List.mem_cons_of_mem _ hx) y (List.mem_cons_of_mem _ hy)⟩;obtain ⟨y,hy,e⟩:=List.mem_map.1 hm;exact hn.1 (by rw [h a (List.mem_cons_self ..) y (List.mem_cons_of_mem _ hy) e.symm];exact hy)
theorem q26 (P:SsP) (b:Nat):zV P (b+1)=zV P b+(jn P b).length:=by
 unfold zV;rw [List.range_succ,List.flatMap_append,List.length_append];simp only [List.flatMap_cons,List.flatMap_nil,List.append_nil];omega
theorem q27 (P:SsP) {b c:Nat} (h:b<c):zV P b+(jn P b).length<=zV P c:=by
 induction c with
 | zero=>omega
 | succ c ih =>
  by_cases e:b=c
  ·rw [e,q26];omega
  ·have:=ih (by omega);rw [q26];omega
theorem q13 (l:List qN) {i j:Nat} (h:i<=j):(dsL (l.take i)).length<=(dsL (l.take j)).length:=by
 (have e:l.take i=(l.take j).take i:=by rw [List.take_take,Nat.min_eq_left h]);have:dsL (l.take j)=dsL ((l.take j).take i)++dsL ((l.take j).drop i):=by
  conv=>lhs;rw [<- List.take_append_drop i (l.take j)]
  unfold dsL;rw [List.filterMap_append]
 rw [e,this,List.length_append];omega
theorem q14 {l:List qN} {i:Nat} {x:qN} (hx:l[i]?=some x) (hd:0<=x.dst):(dsL (l.take (i+1))).length=(dsL (l.take i)).length+1:=by
 rw [qG hx];unfold dsL;rw [List.filterMap_append,List.length_append];simp only [List.filterMap_cons,List.filterMap_nil,if_pos hd,List.length_singleton]
theorem q8l {P:SsP} {b i:Nat} {x:qN} (hx:(qR P.f b)[i]?=some x) (hd:0<=x.dst):zV P b+(phL P b).length<=dsN P b i/\dsN P b i<zV P b+(jn P b).length:=by
 have h1:=q14 hx hd;(have h2:=q13 (qR P.f b) (i:=i+1) (j:=(qR P.f b).length) (by have:=(Jk hx).1;omega));rw [List.take_length] at h2;unfold dsN jn;rw [List.length_append];omega
theorem qAq {P:SsP} {b i j:Nat} {x y:qN} (hx:(qR P.f b)[i]?=some x) (hd:0<=x.dst) (hy:(qR P.f b)[j]?=some y) (he:0<=y.dst) (h:dsN P b i=dsN P b j):i=j:=by
 unfold dsN at h;rcases Nat.lt_trichotomy i j with q | q | q
 ·have h1:=q14 hx hd;have h2:=q13 (qR P.f b) (i:=i+1) (j:=j) (by omega);omega
 ·exact q
 ·have h1:=q14 hy he;have h2:=q13 (qR P.f b) (i:=j+1) (j:=i) (by omega);omega
section
variable {m t:List qB} {n:Nat} {P:SsP} {D:Nat->Nat->Prop} {ord:Nat->Nat}
inductive MkN (P:SsP) (v:Int) (b:Nat) (a:Int):Prop
 | zero (j:Nat) (h0:b=0) (h1:j<(zrL P).length) (h2:a=(j:Int)) (h3:v=((P.f.params.toNat+j:Nat):Int))
 | phi (r:Nat) (h1:r∈phL P b) (h2:a=-1) (h3:v=(phN P b r:Int))
 | ins (i:Nat) (x:qN) (h1:(qR P.f b)[i]?=some x) (h2:0<=x.dst) (h3:a=(((zt P b).length+i:Nat):Int)) (h4:v=(dsN P b i:Int))
theorem q7S (P:SsP):(zrL P).Nodup:=List.nodup_range.filter _
theorem qAN {P:SsP} {j r:Nat} (h:(zrL P)[j]?=some r):zrN P r=P.f.params.toNat+j:=by
 obtain ⟨hj,e⟩:=Jk h;unfold zrN;(congr 1);rw [<- e];exact (q7S P).idxOf_getElem j hj
theorem q4u {v:Int} {b:Nat} {a:Int} (h:MkA (qU P) v b a):b<P.f.blocks.length/\MkN P v b a:=by
 obtain ⟨k,hk,h⟩:=h;(have wk:(qU P).blocks.length=P.f.blocks.length:=by show ((List.range P.f.blocks.length).map (vw P)).length=_;simp);(have wg:b<P.f.blocks.length:=by have:=(Jk hk).1;omega);rw [zo wg] at hk;injection hk with hk;subst hk;refine ⟨wg,?_⟩;rcases h with ⟨ha,p,hp,e⟩ | ⟨i,x,ha,hx,e,h0⟩
 ·obtain ⟨r,hr,rfl⟩:=List.mem_map.1 hp;exact .phi r hr ha e.symm
 ·have hx:(zt P b++(qR P.f b).mapIdx (q1C P b))[i]?=some x:=hx
  by_cases hi:i<(zt P b).length
  ·rw [List.getElem?_append_left hi] at hx;unfold zt at hx hi
   split at hx
   ·rename_i wV;rw [if_pos wV,List.length_map] at hi;rw [List.getElem?_map,Jq hi] at hx;injection hx with hx;refine .zero i wV hi ha ?_;rw [<- e,<- hx];show (zrN P _:Int)=_;rw [qAN (Jq hi)]
   ·simp at hx
  ·rw [List.getElem?_append_right (by omega),List.getElem?_mapIdx] at hx;cases hy:(qR P.f b)[i - (zt P b).length]? with
   | none=>rw [hy] at hx;cases hx
   | some z =>
    rw [hy] at hx;injection hx with hx;have e:(if 0<=z.dst then (dsN P b (i - (zt P b).length):Int) else -1)=v:=by rw [<- hx] at e;exact e
    by_cases hz:0<=z.dst
    ·rw [if_pos hz] at e;exact .ins _ z hy hz (by omega) e.symm
    ·rw [if_neg hz] at e;omega
theorem q7y {b r:Nat} (hr:r∈phL P b):zV P b<=phN P b r/\phN P b r<zV P b+(phL P b).length:=by
 unfold phN;have:=List.idxOf_lt_length_iff.2 hr;omega
theorem MkN.range {v:Int} {b:Nat} {a:Int} (h:MkN P v b a):(v<(zV P 0:Int)/\b=0/\0<=a/\a<((zrL P).length:Int)/\v=P.f.params.toNat+a)\/((zV P b:Int)<=v/\v<((zV P b+(jn P b).length:Nat):Int)):=by
 cases h with
 | zero j h0 h1 h2 h3 =>
  left;(have:zV P 0=P.f.params.toNat+(zrL P).length:=by unfold zV;simp);refine ⟨by omega,h0,by omega,by omega,by omega⟩
 | phi r h1 h2 h3 =>
  right;have:=q7y h1;unfold jn;rw [List.length_append];omega
 | ins i x h1 h2 h3 h4 =>
  right;have:=q8l h1 h2;omega
theorem ks (P:SsP) (b:Nat):zV P 0<=zV P b:=by
 unfold zV;simp
theorem MkN.one {v:Int} {b c:Nat} {a e:Int} (h:MkN P v b a) (k:MkN P v c e):b=c/\a=e:=by
 have hr:=h.range;have kr:=k.range;have z1:=ks P b;have z2:=ks P c;have tc:b=c:=by
  rcases hr with hr | hr <;> rcases kr with kr | kr
  ·omega
  ·omega
  ·omega
  ·rcases Nat.lt_trichotomy b c with q | q | q
   ·have:=q27 P q;omega
   ·exact q
   ·have:=q27 P q;omega
 subst tc;refine ⟨rfl,?_⟩;rcases hr with hr | hr <;> rcases kr with kr | kr
 ·omega
 ·omega
 ·omega
 ·cases h with
  | zero j h0 h1 h2 h3 =>
   (have:zV P 0=P.f.params.toNat+(zrL P).length:=by unfold zV;simp);rw [h0] at hr;omega
  | phi r h1 h2 h3 =>
   have g:=q7y h1;cases k with
   | zero j k0 k1 k2 k3 =>
    (have:zV P 0=P.f.params.toNat+(zrL P).length:=by unfold zV;simp);rw [k0] at kr;omega
   | phi r' k1 k2 k3=>omega
   | ins i x k1 k2 k3 k4=>have:=q8l k1 k2;omega
  | ins i x h1 h2 h3 h4 =>
   have g:=q8l h1 h2;cases k with
   | zero j k0 k1 k2 k3 =>
    (have:zV P 0=P.f.params.toNat+(zrL P).length:=by unfold zV;simp);rw [k0] at kr;omega
   | phi r' k1 k2 k3=>have:=q7y k1;omega
   | ins i' x' k1 k2 k3 k4 =>
    have:=qAq h1 h2 k1 k2 (by omega);omega
theorem SsT.ahead (T:SsT m t n P D ord) {r b i v:Nat} {k:qE} (hb:P.f.blocks[b]?=some k) (hi:i<=k.ins.length) (hv:Ver P r b i v) (hw:vD P.f r b i) (hr:r<P.f.regs.length):AhA (qU P) D (v:Int) b (((zt P b).length+i:Nat):Int):=by
 induction hv generalizing k with
 | @ins b i j h1 =>
  right;have wg:=(Jk hb).1;have ei:=qe hb;obtain ⟨g1,g2⟩:=yA h1;rw [ei] at g2;have hx:k.ins[j]?=some k.ins[j]:=Jq (by omega);rw [JJ,hx] at g2;(have wW:(qR P.f b)[j]?=some k.ins[j]:=by rw [ei];exact hx);have g2:k.ins[j].dst=(r:Int):=g2
  refine ⟨b,(((zt P b).length+j:Nat):Int),⟨_,zo wg,.inr ⟨_,_,rfl,q94 wW,?_,by omega⟩⟩,.inl ⟨rfl,by omega⟩⟩;show (if 0<=k.ins[j].dst then (dsN P b j:Int) else -1)=_;rw [if_pos (by omega)]
 | @phi b i h1 h2 =>
  right;have wg:=(Jk hb).1;exact ⟨b,-1,⟨_,zo wg,.inl ⟨rfl,_,List.mem_map_of_mem h2,rfl⟩⟩,.inl ⟨rfl,by omega⟩⟩
 | @par i h1 h2 h3=>left;exact h3
 | @zero i h1 h2 h3 =>
  right;have wg:=(Jk hb).1;(have wm:=T.ok.want_of hb hi hw (by rw [<- qe hb];exact h1));have hz:r∈zrL P:=mem_zrL.mpr ⟨hr,by omega,(T.ok.want 0 r wg hr).mpr wm⟩;have hl:=List.idxOf_lt_length_iff.2 hz;(have hpl:(zt P 0).length=(zrL P).length:=by unfold zt;rw [if_pos rfl,List.length_map]);refine ⟨0,((zrL P).idxOf r:Int),⟨_,zo wg,.inr ⟨_,q1M P r,rfl,?_,rfl,by omega⟩⟩,.inl ⟨rfl,by omega⟩⟩;show (zt P 0++_)[(zrL P).idxOf r]?=_;rw [List.getElem?_append_left (by omega)]
  unfold zt;rw [if_pos rfl,List.getElem?_map,q0s hz];rfl
 | @up b i v h1 h2 h3 h4 ih =>
  have wg:=(Jk hb).1;(have wm:=T.ok.want_of hb hi hw (by rw [<- qe hb];exact h1));have hc:¬ P.C b r=true:=λ g=>h2 (mem_phL.mpr ⟨hr,(T.ok.want b r wg hr).mpr wm,g⟩);have wX:=T.ok.near_want wg h3 wm hc;have wv:=T.ok.dom.near_ b wg h3;have wU:=(T.ok.dom.dlt _ _ wv.1).1;have wk:P.f.blocks[P.nr b]?=some P.f.blocks[P.nr b]:=Jq wU;(have:=ih wk (by rw [qe wk];omega) (by rw [qe wk];exact (zg wk).mpr (.inr wX)));rcases this with g | ⟨c,e,g1,g2⟩
  ·exact .inl g
  ·right;refine ⟨c,e,g1,.inr ?_⟩;have wJ:D c (P.nr b):=by
    rcases g2 with ⟨q,_⟩ | ⟨_,q⟩
    ·rw [q];exact T.ok.dom.self _ wU
    ·exact q
   refine ⟨λ q=>?_,T.ok.dom.trans _ _ _ wJ wv.1⟩;rw [q] at wJ;exact wv.2 (T.ok.dom.anti _ _ wv.1 wJ)
theorem SsT.form (T:SsT m t n P D ord):q1K (qU P) D:=by
 (have wk:(qU P).blocks.length=P.f.blocks.length:=by show ((List.range P.f.blocks.length).map (vw P)).length=_;simp);have hF:=T.ok.fn;have wM:∀ b k,(qU P).blocks[b]?=some k->b<P.f.blocks.length/\k=vw P b:=λ b k hk=>by
  (have wg:b<P.f.blocks.length:=by have:=(Jk hk).1;omega);rw [zo wg] at hk;injection hk with hk;exact ⟨wg,hk.symm⟩
 have wj:∀ {r b i:Nat} {k:qE},r<P.f.regs.length->P.f.blocks[b]?=some k->i<=k.ins.length->vD P.f r b i->AhA (qU P) D (vr P r b i:Int) b (((zt P b).length+i:Nat):Int):=λ hr hb hi hw=>by
  obtain ⟨v,h1,_⟩:=T.ok.ver hr _ (J4 _) hb hi hw;rw [h1.eq];exact T.ahead hb hi h1 hw hr
 refine ⟨?_,λ v b a c e h1 h2=>(q4u h1).2.one (q4u h2).2,?_,?_,?_,?_⟩
 ·intro k hk;obtain ⟨b,hb,rfl⟩:=List.mem_map.1 hk;show (((phL P b).map (q1B P b)).map PhiD.dst).Nodup;rw [List.map_map];refine kG (q6Z P b) λ r hr s hs e=>?_;have e:(phN P b r:Int)=(phN P b s:Int):=e;have h1:=q0s hr;have h2:=q0s hs;have:(phL P b).idxOf r=(phL P b).idxOf s:=by unfold phN at e;omega
  rw [this,h2] at h1;injection h1 with h1;exact h1.symm
 ·intro v b a h;have hp:=hF.par;have:=(q4u h).2.range;have z:=ks P b;(have:zV P 0=P.f.params.toNat+(zrL P).length:=by unfold zV;simp);show P.f.params<=v;omega
 ·intro b k hk p hp j q a hq ha;obtain ⟨wg,rfl⟩:=wM b k hk;obtain ⟨r,hr,rfl⟩:=List.mem_map.1 hp;rw [x9] at hq;have wR:=(mem_phL.mp hr).1;have hw:=(T.ok.want b r wg wR).mp (mem_phL.mp hr).2.1;have wZ:=qw P.f.blocks 0 (b:Int) q (Jz hq);simp at wZ;have wT:q.toNat<P.f.blocks.length:=by omega
  have wu:P.f.blocks[q.toNat]?=some P.f.blocks[q.toNat]:=Jq wT;have ha:((qH P.f.blocks b).map λ p=>((vr P r p.toNat (qR P.f p.toNat).length:Nat):Int))[j]?=some a:=ha;rw [List.getElem?_map,hq] at ha;injection ha with ha;have ha:((vr P r q.toNat (qR P.f q.toNat).length:Nat):Int)=a:=ha;rw [<- ha,qe wu];(have wY:vD P.f r q.toNat P.f.blocks[q.toNat].ins.length:=(zg wu).mpr (.inr (.back wg (by rw [show ((q.toNat:Nat):Int)=q by omega];exact Jz hq) hw)));have:=wj wR wu (J4 _) wY
  rw [show (qR (qU P) q.toNat).length=(zt P q.toNat).length+P.f.blocks[q.toNat].ins.length by
   unfold qR;rw [show qP (qU P) q.toNat=vw P q.toNat from qv (zo wT),q4I,qe wu]]
  exact this
 ·intro b k hk i x hx a ha;obtain ⟨wg,rfl⟩:=wM b k hk;have wh:P.f.blocks[b]?=some P.f.blocks[b]:=Jq wg;have hx:(zt P b++(qR P.f b).mapIdx (q1C P b))[i]?=some x:=hx
  by_cases hi:i<(zt P b).length
  ·rw [List.getElem?_append_left hi] at hx;have hm:=Jz hx;unfold zt at hm
   split at hm
   ·obtain ⟨r,hr,rfl⟩:=List.mem_map.1 hm;cases ha
   ·cases hm
  ·rw [List.getElem?_append_right (by omega),List.getElem?_mapIdx] at hx;cases hy:(qR P.f b)[i - (zt P b).length]? with
   | none=>rw [hy] at hx;cases hx
   | some z =>
    rw [hy] at hx;injection hx with hx;subst hx;obtain ⟨c,hc,rfl⟩:=List.mem_map.1 ha;(have ww:P.f.blocks[b].ins[i - (zt P b).length]?=some z:=by rw [<- qe wh];exact hy);have hil:=(Jk ww).1;have wl:=(hF.ins _ (Jz wh) z (Jz ww)).1 c hc;(have:=wj (r:=c.toNat) (by have:=wl.1;have:=wl.2;omega) wh (i:=i - (zt P b).length) (by omega) ((j2 wh ww).mpr (.inl (by rw [show ((c.toNat:Nat):Int)=c by have:=wl.1;omega];exact hc))));rw [show (zt P b).length+(i - (zt P b).length)=i by omega] at this
    exact this
 ·intro b k hk h0;obtain ⟨wg,rfl⟩:=wM b k hk;have wh:P.f.blocks[b]?=some P.f.blocks[b]:=Jq wg;have ebk:qP P.f b=P.f.blocks[b]:=qv wh;have h0:0<=(if 0<=(qP P.f b).term.arg then ((vr P (qP P.f b).term.arg.toNat b (qR P.f b).length:Nat):Int) else -1):=h0;show AhA (qU P) D (if 0<=(qP P.f b).term.arg then ((vr P (qP P.f b).term.arg.toNat b (qR P.f b).length:Nat):Int) else -1) b ((vw P b).ins.length:Nat);rw [ebk] at h0 ⊢
  split at h0
  ·rename_i hp;rw [if_pos hp,q4I,qe wh];have wO:InR P.f.regs.length P.f.blocks[b].term.arg\/P.f.blocks[b].term.kind=1:=by
    rcases hF.kind _ (Jz wh) with ⟨hk,_⟩ | ⟨hk,hl,wQ⟩ | ⟨hk,hl,wQ⟩
    ·exact .inr hk
    ·exact .inl wQ
    ·rcases wQ with h | h
     ·omega
     ·exact .inl h
   rcases wO with wl | ta
   ·exact wj (r:=P.f.blocks[b].term.arg.toNat) (by have:=wl.2;omega) wh (J4 _) ((zg wh).mpr (.inl (by omega)))
   ·exfalso;have hz:=(blockE_zero.1 ((funE_zero.1 ((proper_iff.1 T.prop).2 P.f (Jz T.hf))).2 _ (Jz wh))).2.2;unfold je zu at hz;rw [ta] at hz;simp at hz;omega
  ·omega
end
end Go.Proofs.YtfoggldjjnabcaaGreatDoor

namespace Go.Proofs.YtfoggldjjnabcaaGreatDoor
open Go.ChangeShapes Go.WideShapes Go.RowKit Go.Deep
variable {bs:List qE}
end Go.Proofs.YtfoggldjjnabcaaGreatDoor

namespace Go.Proofs.YtfoggldjjnabcaaGreatDoor
open Go.ChangeShapes Go.WideShapes Go.RowKit Go.Deep
def raL (bs:List qE) (k b:Nat):List Nat:=(List.range k).filter λ c=>qI bs c && decide (b∈nxF bs c)
def raJ (bs:List qE) (k j b:Nat):List Nat:=raL bs k b++(if b∈(nxF bs k).take j then [k] else [])
theorem q3M (bs:List qE) (k b:Nat):raL bs (k+1) b=raL bs k b++(if (qI bs k && decide (b∈nxF bs k))=true then [k] else []):=by
 unfold raL;rw [List.range_succ,List.filter_append];congr 1
 by_cases h:(qI bs k && decide (b∈nxF bs k))=true
 ·rw [if_pos h];simp [h]
 ·rw [if_neg h];simp [h]
theorem q9V {bs:List qE} {k:Nat} (h:qI bs k=false) (b:Nat):raL bs k b=raL bs (k+1) b:=by rw [q3M,h];simp
theorem q7w (bs:List qE) (k b:Nat):raL bs k b=raJ bs k 0 b:=by unfold raJ;simp
theorem q9W {bs:List qE} {k j:Nat} (h:qI bs k=true) (hj:(nxF bs k).length<=j) (b:Nat):raJ bs k j b=raL bs (k+1) b:=by
 unfold raJ;rw [q3M,h,List.take_of_length_le hj];simp
theorem q6h (bs:List qE) (k:Nat):(nxF bs k).Nodup:=by
 unfold nxF;split
 ·exact ju _ _
 ·simp
theorem q7x {bs:List qE} {k j t:Nat} (ht:(nxF bs k)[j]?=some t) (b:Nat):(if b=t then raJ bs k j t++[k] else raJ bs k j b)=raJ bs k (j+1) b:=by
 have hnd:=q6h bs k;have wh:t ∉ (nxF bs k).take j:=λ hm=>by
  obtain ⟨i,hi,he⟩:=List.mem_iff_getElem.1 hm;(have wl:i<j:=by simp at hi;omega);have wk:=(Jk ht).1;rw [List.getElem_take] at he;have:=(Jk ht).2;exact List.pairwise_iff_getElem.1 hnd i j (by omega) wk wl (he.trans this.symm)
 unfold raJ;rw [qG ht]
 by_cases e:b=t
 ·subst e;rw [if_pos rfl,if_neg wh,if_pos (by simp)];simp
 ·rw [if_neg e];congr 1
  by_cases hm:b∈(nxF bs k).take j
  ·rw [if_pos hm,if_pos (by simp [hm])]
  ·rw [if_neg hm,if_neg (by simp [hm,e])]
theorem q5j (bs:List qE) (k b:Nat):(raL bs k b).length<=k:=by unfold raL;exact Nat.le_trans (List.length_filter_le _ _) (by simp)
theorem kW {bs:List qE} {k b c:Nat} (h:c∈raL bs k b):c<k/\qI bs c=true/\b∈nxF bs c:=by
 unfold raL at h;rw [List.mem_filter,List.mem_range,Bool.and_eq_true,decide_eq_true_iff] at h;exact h
variable {bs:List qE}
theorem kZ {p b c:Nat} (hn:0<bs.length) (h:dmB bs p b=true) (wj:p≠b) (hc:qI bs c=true) (hb:b∈nxF bs c):dmB bs p c=true:=by
 unfold dmB;rw [qY,hc,Bool.true_and,Bool.or_eq_true,decide_eq_true_iff]
 by_cases wg:p=0
 ·right;rw [wg,yd];rfl
 ·by_cases e:p=c
  ·exact .inl e
  ·right;cases hf:qi bs 0 p c
   ·rfl
   ·exfalso;have h1:=(zn hn wg c).1 hf;have h2:Reach (nxW (nxF bs) p) 0 b:=.step h1 (nxW_mem.2 ⟨hb,by omega⟩);unfold dmB at h;rw [(zn hn wg b).2 h2] at h;simp [wj] at h
end Go.Proofs.YtfoggldjjnabcaaGreatDoor

namespace Go.Proofs.YtfoggldjjnabcaaGreatDoor
open Go.ChangeShapes Go.WideShapes Go.RowKit Go.Deep
def cnt (r:Nat->Bool) (i:Nat):Nat:=(List.range i).countP r
theorem q18 (r:Nat->Bool) (k:Nat):cnt r (k+1)=cnt r k+(if r k=true then 1 else 0):=j7 r k
theorem q4C (r:Nat->Bool):cnt r 0=0:=rfl
theorem q3X {r:Nat->Bool} {i:Nat} (h:r i=true):yl r i=(cnt r i:Nat):=by unfold yl;rw [if_pos h];rfl
theorem vg {bs:List qE} (r:Nat->Bool):∀ k,k<=bs.length->(zJ bs r k).length=cnt r k/\(∀ i b,i<k->r i=true->bs[i]?=some b->(zJ bs r k)[cnt r i]?=some (q0H bs r i b))/\∀ j,j<(zJ bs r k).length->∃ i,i<k/\r i=true/\cnt r i=j:=by
 intro k
 induction k with
 | zero=>intro _;rw [yt];exact ⟨rfl,λ i b h=>absurd h (by omega),λ j h=>absurd h (by simp)⟩
 | succ k ih =>
  intro hk;obtain ⟨h1,h2,h3⟩:=ih (by omega);have hb:bs[k]?=some bs[k]:=Jq (by omega);rw [jc hb];refine ⟨?_,λ i b hi hr wk=>?_,λ j hj=>?_⟩
  ·rw [List.length_append,h1,q18];split <;> simp
  ·by_cases e:i=k
   ·subst e;obtain rfl:bs[i]=b:=J3 (hb.symm.trans wk);rw [if_pos hr,List.getElem?_append_right (by omega),h1,Nat.sub_self];rfl
   ·have h4:=h2 i b (by omega) hr wk;rw [List.getElem?_append_left (Jk h4).1];exact h4
  ·by_cases wm:j<(zJ bs r k).length
   ·obtain ⟨i,h4,h5⟩:=h3 j wm;exact ⟨i,by omega,h5⟩
   ·rw [List.length_append] at hj
    by_cases hr:r k=true
    ·rw [if_pos hr] at hj;exact ⟨k,by omega,hr,by simp at hj;omega⟩
    ·rw [if_neg hr] at hj;simp at hj;omega
theorem km (bs:List qE):(qb bs).length=cnt (qI bs) bs.length:=(vg (qI bs) bs.length (J4 _)).1
theorem q8y (r:Nat->Bool) (k:Nat):cnt r k<=k:=yR r k
theorem kq (bs:List qE):(qb bs).length<=bs.length:=by rw [km];exact q8y _ _
theorem zA {bs:List qE} (hn:bs.length≠0) {x:Nat}:qI bs x=true↔Reach (nxF bs) 0 x:=by
 unfold qI vn;rw [decide_eq_true_iff];exact vF (zD bs) hn
theorem jH {bs:List qE} {x:Nat} (h:qI bs x=true):x<bs.length:=by
 unfold qI vn at h;exact yc (zD bs) (of_decide_eq_true h)
theorem q19 {r:Nat->Bool} {i k:Nat} (hi:i<k) (hr:r i=true):cnt r i<cnt r k:=by
 have key:∀ d,cnt r i<cnt r (i+1+d):=by
  intro d
  induction d with
  | zero=>rw [Nat.add_zero,q18,if_pos hr];omega
  | succ d ih=>rw [show i+1+(d+1)=i+1+d+1 by omega,q18];split <;> omega
 have:=key (k - (i+1))
 rwa [show i+1+(k - (i+1))=k by omega] at this
theorem q8U {bs:List qE} {i t:Nat} (hn:bs.length≠0) (hi:Reach (nxF bs) 0 i) (ht:t∈nxF bs i):cnt (qI bs) t∈nxF (qb bs) (cnt (qI bs) i):=by
 have wh:=(zA hn).2 hi;have wg:=(zA hn).2 (.step hi ht);have wj:=jH wh;have wl:=jH wg;have hb:bs[i]?=some bs[i]:=Jq wj;have hc:=(vg (qI bs) bs.length (J4 _)).2.1 i _ wj wh hb;rw [yW (show (qb bs)[cnt (qI bs) i]?=some _ from hc)];(refine ⟨by rw [km];exact q19 wl wg,?_⟩);have hm:=(yW hb).1 ht
 show ((cnt (qI bs) t:Nat):Int)∈bs[i].term.to.map (toT (qI bs) bs.length);refine List.mem_map.2 ⟨t,hm.2,?_⟩;unfold toT;rw [if_pos ⟨by omega,by omega⟩,Int.toNat_natCast,q3X wg]
theorem q6V {bs:List qE} (hn:bs.length≠0) {i:Nat} (hi:Reach (nxF bs) 0 i):Reach (nxF (qb bs)) 0 (cnt (qI bs) i):=by
 induction hi with
 | refl=>rw [q4C];exact .refl
 | step h1 h2 ih=>exact .step ih (q8U hn h1 h2)
theorem kV {bs:List qE} {j:Nat} (hj:j<(qb bs).length):qI (qb bs) j=true:=by
 (have hn:bs.length≠0:=by have:=kq bs;omega);obtain ⟨i,_,hr,rfl⟩:=(vg (qI bs) bs.length (J4 _)).2.2 j hj;exact (zA (by omega)).2 (q6V hn ((zA hn).1 hr))
variable {bs:List qE} {ord:Nat->Nat}
theorem Reach.first {nx:Nat->List Nat} {a b:Nat} (h:Reach nx a b):a=b\/∃ c,c∈nx a/\Reach nx c b:=by
 induction h with
 | refl=>exact .inl rfl
 | @step x y _ hy ih =>
  rcases ih with rfl | ⟨c,h1,h2⟩
  ·exact .inr ⟨y,hy,.refl⟩
  ·exact .inr ⟨c,h1,.step h2 hy⟩
theorem orderF_mem {x:Nat}:x∈qV bs↔qI bs x=true:=by unfold qV qI vn;rw [decide_eq_true_iff]
theorem kX {i x:Nat} (hi:(qV bs)[i]?=some x):∀ a,dmB bs a x=true->a∈(qV bs).take (i+1):=by
 induction i using Nat.strongRecOn generalizing x with
 | _ i ih =>
  intro a ha
  by_cases e:a=x
  ·subst e;exact List.mem_iff_getElem?.2 ⟨i,by rw [List.getElem?_take_of_lt (by omega)];exact hi⟩
  ·have hn:bs.length≠0:=λ h0=>by
    have hx:x∈qV bs:=List.mem_iff_getElem?.2 ⟨i,hi⟩;have:=jH (orderF_mem.1 hx);omega
   by_cases h0:i=0
   ·subst h0;have h1:=q2W (zD bs) hn;unfold qV at hi;rw [h1] at hi;cases hi
    -- nothing else dominates the first one
    exfalso;unfold dmB at ha;rw [Bool.and_eq_true,Bool.or_eq_true,decide_eq_true_iff] at ha;rcases ha.2 with h2 | h2
    ·exact e h2
    ·by_cases ea:a=0
     ·exact e ea
     ·rw [(zn (by omega) ea 0).2 .refl] at h2;cases h2
   ·obtain ⟨j,y,hj,hy,wg⟩:=q0e (zD bs) hi (by omega);have wh:qI bs y=true:=orderF_mem.1 (List.mem_iff_getElem?.2 ⟨j,hy⟩);have:=ih j hj hy a (kZ (by omega) ha e wh wg);exact List.take_subset_take_left _ (by omega) this
theorem kE (bs:List qE):(qV bs).Nodup:=kD (zD bs)
end Go.Proofs.YtfoggldjjnabcaaGreatDoor

namespace Go.Proofs.YtfoggldjjnabcaaGreatDoor
open Go.ChangeShapes Go.WideShapes Go.RowKit Go.Deep
structure RdS where
 i:Nat->Bool
 e:Nat->Bool
section
variable (nx:Nat->List Nat) (al:Nat->Nat->Bool) (us mk ph:Nat->Bool) (n:Nat)
def inF (b:Nat) (x:Bool):Bool:=!ph b && (us b || (x && !mk b))
def stE (s:RdS) (b:Nat):Bool:=s.e b || (nx b).any λ t=>al b t || s.i t
def stB (s:RdS) (b:Nat):RdS:=⟨λ x=>if x=b then inF us mk ph b (stE nx al s b) else s.i x,λ x=>if x=b then stE nx al s b else s.e x⟩
end
variable {nx:Nat->List Nat} {al:Nat->Nat->Bool} {us mk ph:Nat->Bool} {n:Nat}
theorem q8Z {b:Nat} {x y:Bool} (h:x=true->y=true) (hx:inF us mk ph b x=true):inF us mk ph b y=true:=by
 unfold inF at hx ⊢;cases x <;> cases y <;> simp_all
def ConS (us mk ph:Nat->Bool) (s:RdS):Prop:=∀ b,s.i b=true->inF us mk ph b (s.e b)=true
theorem q3D {s:RdS} {b:Nat} (h:s.e b=true):stE nx al s b=true:=by unfold stE;rw [h];rfl
theorem ConS.step {s:RdS} (h:ConS us mk ph s) (b:Nat):ConS us mk ph (stB nx al us mk ph s b)/\(∀ x,s.i x=true->(stB nx al us mk ph s b).i x=true)/\∀ x,s.e x=true->(stB nx al us mk ph s b).e x=true:=by
 refine ⟨λ x hx=>?_,λ x hx=>?_,λ x hx=>?_⟩
 ·unfold stB at hx ⊢
  by_cases e:x=b
  ·subst e;simpa using hx
  ·simp only [if_neg e] at hx ⊢;exact h x hx
 ·unfold stB
  by_cases e:x=b
  ·subst e;simp only [if_true];exact q8Z (λ k=>q3D k) (h x hx)
  ·simp only [if_neg e];exact hx
 ·unfold stB
  by_cases e:x=b
  ·subst e;simp only [if_true];exact q3D hx
  ·simp only [if_neg e];exact hx
end Go.Proofs.YtfoggldjjnabcaaGreatDoor

namespace Go.Proofs.YtfoggldjjnabcaaGreatDoor
open Go.ChangeShapes Go.WideShapes Go.RowKit Go.Deep
theorem q5U (bs:List qE):∀ (i k:Nat) (block:Int),((i+k:Nat):Int)∈zS bs i block↔∃ x,bs[k]?=some x/\block∈x.term.to:=by
 induction bs with
 | nil=>intro i k block;simp [zS]
 | cons b r ih =>
  intro i k block;simp only [zS,List.mem_append];cases k with
  | zero =>
   have wg:¬ ((i+0:Nat):Int)∈zS r (i+1) block:=λ h=>by
    have:=qw r (i+1) block _ h;omega
   constructor
   ·rintro (h | h)
    ·refine ⟨b,rfl,?_⟩
     split at h
     ·rename_i hh;unfold zd at hh;obtain ⟨y,hy,he⟩:=List.any_eq_true.1 hh;rw [beq_iff_eq] at he;rw [<- he];exact hy
     ·cases h
    ·exact absurd h wg
   ·rintro ⟨x,hx,hm⟩;cases hx;refine .inl ?_;rw [if_pos (show zd block b.term.to=true from List.any_eq_true.2 ⟨block,hm,by simp⟩)];simp
  | succ k =>
   have h1:=ih (i+1) k block;(have e:i+(k+1)=i+1+k:=by omega);rw [e];constructor
   ·rintro (h | h)
    ·split at h
     ·rw [List.mem_singleton] at h;omega
     ·cases h
    ·obtain ⟨x,hx,hm⟩:=h1.1 h;exact ⟨x,hx,hm⟩
   ·rintro ⟨x,hx,hm⟩;exact .inr (h1.2 ⟨x,hx,hm⟩)
theorem aheadL_iff {bs:List qE} {b:Nat} {t:Nat}:(b:Int)∈qH bs t↔∃ x,bs[b]?=some x/\(t:Int)∈x.term.to:=by
 have:=q5U bs 0 b (t:Int);rw [Nat.zero_add] at this;exact this
theorem q5n {bs:List qE} {b t:Nat} (ht:t<bs.length):t∈nxF bs b↔(b:Int)∈qH bs t:=by
 rw [aheadL_iff];constructor
 ·intro h;cases hb:bs[b]? with
  | none=>unfold nxF at h;rw [hb] at h;cases h
  | some x=>exact ⟨x,rfl,((yW hb).1 h).2⟩
 ·rintro ⟨x,hx,hm⟩;exact (yW hx).2 ⟨ht,hm⟩
end Go.Proofs.YtfoggldjjnabcaaGreatDoor
