/- Which block dominates which, and the nearest: places told as blocks, in mathematics. No condition. -/
import Derived.Test.YtfoggldjjnabcaaGreatDoorModAK
import Derived.Test.YtfoggldjjnabcaaGreatDoorDmGK
import Derived.Test.YtfoggldjjnabcaaGreatDoorGrWmK
import Derived.Test.YtfoggldjjnabcaaGreatDoorGrOK
import Derived.RegionTactic
set_option linter.unusedVariables false
set_option linter.unusedSimpArgs false
namespace Go.Proofs.YtfoggldjjnabcaaGreatDoor
open Go.ChangeShapes Go.WideShapes Go.RowKit Go.Deep
def dmB (bs:List qE) (a b:Nat):Bool:=qi bs 0 (-1) b && (decide (a=b) || !qi bs 0 a b)
theorem qY (bs:List qE) (x:Nat):qi bs 0 (-1) x=qI bs x:=by
 unfold qi
 by_cases h:0<bs.length
 ·rw [if_pos ⟨by omega,by omega,by omega⟩];exact q2l (zD bs) h x
 ·rw [if_neg (by omega)];unfold qI vn;rw [eq_comm,decide_eq_false_iff_not];intro hx;have:=yc (zD bs) hx;omega
theorem zn {bs:List qE} (hn:0<bs.length) {a:Nat} (ha:a≠0) (x:Nat):qi bs 0 a x=true↔Reach (nxW (nxF bs) a) 0 x:=by
 unfold qi;rw [if_pos ⟨by omega,by omega,by omega⟩];exact q21 (zD bs) hn x
theorem yd (bs:List qE) (x:Nat):qi bs 0 (0:Nat) x=false:=by unfold qi;rw [if_neg (by omega)]
def vv (bs:List qE) (b a:Nat):Bool:=decide (a≠b) && dmB bs a b && (List.range bs.length).all λ c=>decide (c=b) || !dmB bs c b || dmB bs c a
def kI (bs:List qE) (b:Nat):Nat->Int
 | 0=>-1
 | a+1=>if vv bs b a=true then (a:Int) else kI bs b a
def qZ (bs:List qE) (b:Nat):Int:=kI bs b bs.length
theorem xh {bs:List qE} {b:Nat}:∀ k,(∀ a,a<k->vv bs b a=false)->kI bs b k=-1
 | 0,_=>rfl
 | k+1,h=>by unfold kI;rw [if_neg (by rw [h k (by omega)];simp)];exact xh k λ a ha=>h a (by omega)
theorem q0k {bs:List qE} {b a:Nat} (ha:vv bs b a=true) (hu:∀ c,c<bs.length->vv bs b c=true->c=a):∀ k,a<k->k<=bs.length->kI bs b k=(a:Int)
 | 0,h,_=>by omega
 | k+1,h,hk=>by
  unfold kI
  by_cases e:vv bs b k=true
  ·rw [if_pos e,hu k (by omega) e]
  ·rw [if_neg e];have:k≠a:=λ h=>e (h ▸ ha);exact q0k ha hu k (by omega) (by omega)
structure NearB (bs:List qE) (N:Nat->Int) (ord:Nat->Nat):Prop where
 none:∀ b,b<bs.length->(qi bs 0 (-1) b=false\/b=0)->N b=-1
 some:∀ b,b<bs.length->qi bs 0 (-1) b=true->b≠0->∃ a,a<bs.length/\N b=(a:Int)/\a≠b/\dmB bs a b=true/\∀ c,c<bs.length->c≠b->dmB bs c b=true->dmB bs c a=true
 ord:∀ a b,a<bs.length->b<bs.length->dmB bs a b=true->ord a<=ord b/\(ord a=ord b->a=b)
 self:∀ a,a<bs.length->qi bs 0 (-1) a=true->dmB bs a a=true
 trans:∀ a b c,dmB bs a b=true->dmB bs b c=true->dmB bs a c=true
 first:∀ b,b<bs.length->qi bs 0 (-1) b=true->dmB bs 0 b=true
 reach:∀ a b,a<bs.length->b<bs.length->dmB bs a b=true->qi bs 0 (-1) a=true
variable {bs:List qE} {k:Nat} {bl par s D:Nat->Nat} {ah:Nat->List Nat} {pl:Nat->Int}
theorem TvE.av_of (T:TvE (nxF bs) bs.length k bl par ah pl) {p q:Nat} (hp:p<k) (h:AvP (xR (nxF bs) k bl) p q):q<k/\Reach (nxW (nxF bs) (bl p)) 0 (bl q)/\bl p≠0:=by
 have wg:∀ x y,x<k->y<k->bl x=bl y->x=y:=λ x y hx hy e=>by
  have h1:=(T.blk x hx).2;have h2:=(T.blk y hy).2;rw [e] at h1;omega
 induction h with
 | zero h0 =>
  refine ⟨T.first.1,by rw [T.first.2];exact .refl,λ e=>h0 (wg 0 p T.first.1 hp (by rw [T.first.2,e]))⟩
 | @step u v h1 h2 h3 ih =>
  obtain ⟨_,i2,i3⟩:=ih;refine ⟨h2.2.1,.step i2 (nxW_mem.2 ⟨h2.2.2,λ e=>h3 (wg v p h2.2.1 hp (by omega))⟩),i3⟩
theorem TvE.av_to (T:TvE (nxF bs) bs.length k bl par ah pl) {p:Nat} (hp:p<k) (h0:bl p≠0) {b:Nat} (h:Reach (nxW (nxF bs) (bl p)) 0 b):∃ q,q<k/\bl q=b/\AvP (xR (nxF bs) k bl) p q:=by
 induction h with
 | refl=>exact ⟨0,T.first.1,T.first.2,.zero λ e=>h0 (by rw [<- e];exact T.first.2)⟩
 | @step x y hx hy ih =>
  obtain ⟨q,h1,h2,h3⟩:=ih;obtain ⟨wW,tj⟩:=nxW_mem.1 hy;have td:y<bs.length:=zD bs _ _ wW;have hr:Reach (nxF bs) 0 y:=by
   have key:∀ z,Reach (nxW (nxF bs) (bl p)) 0 z->Reach (nxF bs) 0 z:=λ z hz=>by
    induction hz with
    | refl=>exact .refl
    | step _ hb ih=>exact .step ih (nxW_mem.1 hb).1
   exact .step (key x hx) wW
  have hpl:=(T.reach y td).1 hr;rcases T.plc y td with h4 | ⟨r,h4,h5,h6⟩
  ·omega
  ·(refine ⟨r,h4,h6,.step h3 ⟨h1,h4,by rw [h6,h2];exact wW⟩ λ e=>tj ?_⟩);rw [<- h6,e]
theorem TvE.dm_iff (T:TvE (nxF bs) bs.length k bl par ah pl) (hn:0<bs.length) {p q:Nat} (hp:p<k) (hq:q<k):dmB bs (bl p) (bl q)=true↔¬ AvP (xR (nxF bs) k bl) p q:=by
 have wg:∀ x y,x<k->y<k->bl x=bl y->x=y:=λ x y hx hy e=>by
  have h1:=(T.blk x hx).2;have h2:=(T.blk y hy).2;rw [e] at h1;omega
 have wj:qi bs 0 (-1) (bl q)=true:=by
  (rw [qY];unfold qI vn);rw [decide_eq_true_iff,vF (zD bs) (by omega)];exact (T.reach _ (T.blk q hq).1).2 (by rw [(T.blk q hq).2];omega)
 unfold dmB;rw [wj,Bool.true_and,Bool.or_eq_true,decide_eq_true_iff];constructor
 ·rintro (h | h) wU
  ·exact q66 wU (wg q p hq hp h.symm)
  ·obtain ⟨_,h2,h3⟩:=T.av_of hp wU;rw [(zn hn h3 _).2 h2] at h;cases h
 ·intro h
  by_cases e:bl p=bl q
  ·exact .inl e
  ·right
   by_cases h0:bl p=0
   ·rw [h0,yd];rfl
   ·cases hf:qi bs 0 (bl p) (bl q)
    ·rfl
    ·obtain ⟨r,h1,h2,h3⟩:=T.av_to hp h0 ((zn hn h0 _).1 hf);rw [wg r q h1 hq h2] at h3;exact absurd h3 h
theorem TvE.dm_place (T:TvE (nxF bs) bs.length k bl par ah pl) (hn:0<bs.length) {a b:Nat} (ha:a<bs.length) (hb:b<bs.length) (h:dmB bs a b=true):∃ p q,p<k/\q<k/\bl p=a/\bl q=b:=by
 (have wj:qi bs 0 (-1) b=true:=by unfold dmB at h;rw [Bool.and_eq_true] at h;exact h.1);have hr:Reach (nxF bs) 0 b:=by
  (rw [qY] at wj;unfold qI vn at wj);rw [decide_eq_true_iff,vF (zD bs) (by omega)] at wj;exact wj
 obtain ⟨q,hq,-,wh⟩:∃ q,q<k/\pl b=(q:Int)/\bl q=b:=by
  have:=(T.reach b hb).1 hr;rcases T.plc b hb with h1 | h1
  ·omega
  ·exact h1
 rcases T.plc a ha with h1 | ⟨p,hp,-,wu⟩
 ·exfalso;(have wY:¬ Reach (nxF bs) 0 a:=λ h2=>by have:=(T.reach a ha).1 h2;omega);(have wO:a≠0:=λ e=>wY (by rw [e];exact .refl));(have wV:a≠b:=λ e=>wY (by rw [e];exact hr));have key:∀ z,Reach (nxF bs) 0 z->Reach (nxW (nxF bs) a) 0 z/\Reach (nxF bs) 0 z:=λ z hz=>by
   induction hz with
   | refl=>exact ⟨.refl,.refl⟩
   | @step x y hx hy ih =>
    have h3:Reach (nxF bs) 0 y:=.step ih.2 hy;exact ⟨.step ih.1 (nxW_mem.2 ⟨hy,λ e=>wY (by rw [show a=y by omega];exact h3)⟩),h3⟩
  unfold dmB at h;rw [wj,(zn hn wO b).2 (key b hr).1] at h;simp [wV] at h
 ·exact ⟨p,q,hp,hq,wu,wh⟩
def kJ (bl D:Nat->Nat) (pl:Nat->Int) (b:Nat):Int:=if pl b<=0 then -1 else (bl (D (pl b).toNat):Int)
theorem TvE.near (T:TvE (nxF bs) bs.length k bl par ah pl) (hn:0<bs.length) (S:EarlyP 1 k (xR (nxF bs) k bl) par s) (N:q0G k par s D):NearB bs (kJ bl D pl) (λ b=>(pl b).toNat):=by
 have wj:∀ b,b<bs.length->(qi bs 0 (-1) b=true↔0<=pl b):=λ b hb=>by
  (rw [qY];unfold qI vn);rw [decide_eq_true_iff,vF (zD bs) (by omega)];exact T.reach b hb
 have wR:∀ b,b<bs.length->0<=pl b->∃ q,q<k/\pl b=(q:Int)/\bl q=b:=λ b hb h=>by
  rcases T.plc b hb with h1 | h1
  ·omega
  ·exact h1
 have wg:∀ x y,x<k->y<k->bl x=bl y->x=y:=λ x y hx hy e=>by
  have h1:=(T.blk x hx).2;have h2:=(T.blk y hy).2;rw [e] at h1;omega
 (have tu:pl 0=0:=by have:=(T.blk 0 T.first.1).2;rw [T.first.2] at this;simpa using this);refine ⟨λ b hb h=>?_,λ b hb hr h0=>?_,λ a b ha hb h=>?_,λ a ha h=>?_,λ a b c h1 h2=>?_,λ b hb hr=>?_,λ a b ha hb h=>?_⟩
 ·unfold kJ;rw [if_pos];rcases h with h | h
  ·apply Classical.byContradiction;intro h2;rw [(wj b hb).2 (by omega)] at h;cases h
  ·rw [h,tu];omega
 ·obtain ⟨q,hq,ww,wh⟩:=wR b hb ((wj b hb).1 hr);have wl:0<q:=by
   rcases Nat.eq_zero_or_pos q with h | h
   ·exact absurd (by rw [<- wh,h];exact T.first.2) h0
   ·exact h
  (have wZ:D q<q:=by have:=q0M T.tree S N q wl hq;have:=S.lt T.tree wl hq;omega);(have hv:kJ bl D pl b=(bl (D q):Int):=by unfold kJ;rw [if_neg (by omega),ww];rfl);refine ⟨bl (D q),(T.blk _ (by omega)).1,hv,λ e=>?_,?_,λ c hc wM h=>?_⟩
  ·have:=wg (D q) q (by omega) hq (by rw [e,wh]);omega
  ·rw [<- wh];exact (T.dm_iff hn (by omega) hq).2 (q4t T.tree S N q wl hq)
  ·obtain ⟨p,q',hp,tr,th,tc⟩:=T.dm_place hn hc hb h;rw [<- th] at h ⊢;rw [<- wh] at h;have h2:=(T.dm_iff hn hp hq).1 h;exact (T.dm_iff hn hp (by omega)).2 (q8m T.tree S N wl hq h2 λ e=>wM (by rw [<- th,e,wh]))
 ·obtain ⟨p,q,hp,hq,wu,wh⟩:=T.dm_place hn ha hb h;rw [<- wu,<- wh] at h ⊢;have h2:=q8n T.tree hq ((T.dm_iff hn hp hq).1 h);rw [(T.blk p hp).2,(T.blk q hq).2];exact ⟨by simpa using h2,λ e=>by (have:p=q:=by simpa using e);rw [this]⟩
 ·unfold dmB;rw [h];simp
 ·(have tq:qi bs 0 (-1) c=true:=by unfold dmB at h2;rw [Bool.and_eq_true] at h2;exact h2.1);(have wX:qi bs 0 (-1) b=true:=by unfold dmB at h1;rw [Bool.and_eq_true] at h1;exact h1.1);have wZ:∀ x,qi bs 0 (-1) x=true->x<bs.length:=λ x hx=>by
   (rw [qY] at hx;unfold qI vn at hx);rw [decide_eq_true_iff] at hx;exact yc (zD bs) hx
  have hb:=wZ b wX;have hc:=wZ c tq
  by_cases ha:a<bs.length
  ·obtain ⟨p,q,hp,hq,wu,wh⟩:=T.dm_place hn ha hb h1;obtain ⟨q',r,tr,hr,tc,tg⟩:=T.dm_place hn hb hc h2;rw [<- wu,<- wh] at h1;rw [<- wh,<- tg] at h2;rw [<- wu,<- tg];exact (T.dm_iff hn hp hr).2 (q7C ((T.dm_iff hn hp hq).1 h1) ((T.dm_iff hn hq hr).1 h2))
  ·exfalso;unfold dmB at h1;rw [wX,Bool.true_and,Bool.or_eq_true,decide_eq_true_iff] at h1;rcases h1 with h1 | h1
   ·omega
   ·(have wO:a≠0:=by omega);have key:∀ z,Reach (nxF bs) 0 z->Reach (nxW (nxF bs) a) 0 z:=λ z hz=>by
     induction hz with
     | refl=>exact .refl
     | @step x y hx hy ih=>exact .step ih (nxW_mem.2 ⟨hy,λ e=>by have:=zD bs _ _ hy;omega⟩)
    have wQ:Reach (nxF bs) 0 b:=(T.reach b hb).2 ((wj b hb).1 wX);rw [(zn hn wO b).2 (key b wQ)] at h1;cases h1
 ·obtain ⟨q,hq,ww,wh⟩:=wR b hb ((wj b hb).1 hr)
  have h:=(T.dm_iff hn T.first.1 hq).2 (λ wU=>by
   have key:∀ z,AvP (xR (nxF bs) k bl) 0 z->False:=λ z hz=>by
    induction hz with
    | zero h=>exact h rfl
    | step _ _ _ ih=>exact ih
   exact key q wU)
  rwa [T.first.2,wh] at h
 ·obtain ⟨p,q,hp,hq,wu,wh⟩:=T.dm_place hn ha hb h;rw [wj a ha,<- wu,(T.blk p hp).2];omega
theorem NearB.is_near {N:Nat->Int} {ord:Nat->Nat} (h:NearB bs N ord) {b:Nat} (hb:b<bs.length):N b=qZ bs b:=by
 have wk:∀ a,vv bs b a=true↔(a≠b/\dmB bs a b=true/\∀ c,c<bs.length->c≠b->dmB bs c b=true->dmB bs c a=true):=λ a=>by
  unfold vv;simp only [Bool.and_eq_true,decide_eq_true_iff,List.all_eq_true,List.mem_range,Bool.or_eq_true,Bool.not_eq_true',and_assoc];refine and_congr_right λ _=>and_congr_right λ _=>⟨λ h c hc wM hd=>?_,λ h c hc=>?_⟩
  ·rcases h c hc with (h | h) | h
   ·exact absurd h wM
   ·rw [hd] at h;cases h
   ·exact h
  ·by_cases wM:c=b
   ·exact .inl (.inl wM)
   ·cases hd:dmB bs c b
    ·exact .inl (.inr rfl)
    ·exact .inr (h c hc wM hd)
 by_cases hr:qi bs 0 (-1) b=true/\b≠0
 ·obtain ⟨a,ha,he,wV,tf,wv⟩:=h.some b hb hr.1 hr.2;rw [he];refine (q0k ((wk a).2 ⟨wV,tf,wv⟩) (λ c hc tw=>?_) bs.length ha (J4 _)).symm;obtain ⟨c1,c2,c3⟩:=(wk c).1 tw;have h1:=wv c hc c1 c2;have h2:=c3 a ha wV tf;have h3:=h.ord c a hc ha h1;have h4:=h.ord a c ha hc h2;exact h3.2 (by omega)
 ·have wJ:qi bs 0 (-1) b=false\/b=0:=by
   cases hf:qi bs 0 (-1) b
   ·exact .inl rfl
   ·exact .inr (Classical.byContradiction λ h0=>hr ⟨hf,h0⟩)
  rw [h.none b hb wJ];refine (xh bs.length λ a ha=>?_).symm;cases hi:vv bs b a
  ·rfl
  ·obtain ⟨h1,h2,-⟩:=(wk a).1 hi;(have wQ:qi bs 0 (-1) b=true:=by unfold dmB at h2;rw [Bool.and_eq_true] at h2;exact h2.1);rcases wJ with h3 | h3
   ·rw [h3] at wQ;cases wQ
   ·subst h3
    have tp:dmB bs 0 a=true:=h.first a ha (by
     -- what dominates is reached
     have:=h2;cases hfa:qi bs 0 (-1) a
     ·exfalso;have h4:=h.ord a 0 ha hb h2
      -- block 0 dominates none that isn't reached: a can't dominate 0
      have wO:a≠0:=h1;unfold dmB at h2;rw [wQ,(zn (by omega) wO 0).2 .refl] at h2;simp [wO] at h2
     ·rfl)
    have h3:=h.ord 0 a hb ha tp;have h4:=h.ord a 0 ha hb h2;exact absurd (h4.2 (by omega)) h1
theorem q8o {a b:Nat} (h:dmB bs a b=true):qi bs 0 (-1) b=true:=by unfold dmB at h;rw [Bool.and_eq_true] at h;exact h.1
def upB (bs:List qE) (b:Nat) (y:Int) (a:Nat):Bool:=dmB bs a b && (decide (y<0) || !dmB bs a y.toNat)
theorem NearB.up_step {N:Nat->Int} {ord:Nat->Nat} (h:NearB bs N ord) {a b q:Nat} (ha:a<bs.length) (hb:b<bs.length) (hq:q<bs.length) (hd:dmB bs q b=true):(if a=q then true else upB bs b q a)=upB bs b (N q) a:=by
 have tm:=h.reach q b hq hb hd
 by_cases wl:q=0
 ·rw [h.none q hq (.inr wl)];unfold upB
  by_cases e:a=q
  ·rw [if_pos e,e,hd];simp
  ·rw [if_neg e];have wJ:dmB bs a q=false:=by
    cases wm:dmB bs a q
    ·rfl
    ·have h1:=h.first a ha (h.reach a q ha hq wm);have h2:=h.ord 0 a (by omega) ha h1;have h3:=h.ord a q ha hq wm;rw [wl] at h3;exact absurd (by rw [wl];exact h3.2 (by omega)) e
   simp [wJ]
 ·obtain ⟨p,hp,he,ww,wT,wk⟩:=h.some q hq tm wl;rw [he];unfold upB;have h0:decide (((p:Nat):Int)<0)=false:=decide_eq_false (by omega);have tx:decide (((q:Nat):Int)<0)=false:=decide_eq_false (by omega);rw [h0,tx,Int.toNat_natCast,Int.toNat_natCast]
  by_cases e:a=q
  ·rw [if_pos e,e,hd];have wJ:dmB bs q p=false:=by
    cases wm:dmB bs q p
    ·rfl
    ·have h1:=h.ord q p hq hp wm;have h2:=h.ord p q hp hq wT;exact absurd (h2.2 (by omega)) ww
   simp [wJ]
  ·rw [if_neg e];have:dmB bs a q=dmB bs a p:=by
    cases wm:dmB bs a q
    ·cases ta:dmB bs a p
     ·rfl
     ·rw [h.trans a p q ta wT] at wm;cases wm
    ·exact (wk a ha e wm).symm
   rw [this]
theorem NearB.up_less {N:Nat->Int} {ord:Nat->Nat} (h:NearB bs N ord) {b q:Nat} (hb:b<bs.length) (hq:q<bs.length) (hd:dmB bs q b=true):N q=-1\/∃ p,p<bs.length/\N q=(p:Int)/\dmB bs p b=true/\ord p<ord q:=by
 by_cases wl:q=0
 ·exact .inl (h.none q hq (.inr wl))
 ·obtain ⟨p,hp,he,ww,wT,wk⟩:=h.some q hq (h.reach q b hq hb hd) wl;refine .inr ⟨p,hp,he,h.trans p q b wT hd,?_⟩;have h2:=h.ord p q hp hq wT;have:ord p≠ord q:=λ e=>ww (h2.2 e);omega
end Go.Proofs.YtfoggldjjnabcaaGreatDoor

namespace Go.Proofs.YtfoggldjjnabcaaGreatDoor
open Go.ChangeShapes Go.WideShapes Go.RowKit Go.Deep
def Turned (l l':List Nat) (i:Nat):Prop:=l'.length=l.length/\∀ p,p<l.length->l'[p]?=if p<i\/l.length - 1 - i<p then l[l.length - 1 - p]? else l[p]?
theorem Turned.zero (l:List Nat):Turned l l 0:=⟨rfl,λ p hp=>by rw [if_neg (by omega)]⟩
theorem Turned.all {l l':List Nat} {i:Nat} (h:Turned l l' i) (hi:l.length<=2 * i+1):l'=l.reverse:=by
 apply List.ext_getElem?;intro p
 by_cases hp:p<l.length
 ·rw [h.2 p hp,List.getElem?_reverse hp]
  split
  ·rfl
  ·congr 1;omega
 ·rw [List.getElem?_eq_none (by rw [h.1];omega),List.getElem?_eq_none (by simp;omega)]
theorem Turned.step {l l':List Nat} {i x y:Nat} (h:Turned l l' i) (hi:i<l.length - 1 - i) (hx:l'[i]?=some x) (hy:l'[l.length - 1 - i]?=some y):Turned l ((l'.set i y).set (l.length - 1 - i) x) (i+1):=by
 have e1:=h.2 i (by omega);have e2:=h.2 (l.length - 1 - i) (by omega);rw [if_neg (by omega),hx] at e1;rw [if_neg (by omega),hy] at e2;refine ⟨by simp [h.1],λ p hp=>?_⟩;rw [List.getElem?_set,List.getElem?_set];have hl:=h.1
 by_cases c1:l.length - 1 - i=p
 ·subst c1;rw [if_pos rfl,if_pos (by simp;omega),if_pos (by omega),show l.length - 1 - (l.length - 1 - i)=i by omega,<- e1]
 ·rw [if_neg c1]
  by_cases c2:i=p
  ·subst c2;rw [if_pos rfl,if_pos (by omega),if_pos (by omega),<- e2]
  ·rw [if_neg c2,h.2 p hp]
   by_cases c3:p<i\/l.length - 1 - i<p
   ·rw [if_pos c3,if_pos (by omega)]
   ·rw [if_neg c3,if_neg (by omega)]
theorem q0t (w:World) (row:Option Nat):w.grownBy w row:=⟨rfl,rfl,rfl,J4 _,λ _ _ _=>rfl⟩
theorem jw {a b c:World} {row:Option Nat} (h:a.grownBy b row) (k:b.grownBy c row):a.grownBy c row :=
 ⟨k.os.trans h.os,k.tape.trans h.tape,k.output.trans h.output,Nat.le_trans h.size k.size,λ i h1 h2=>(k.block i (Nat.lt_of_lt_of_le h1 h.size) h2).trans (h.block i h1 h2)⟩
theorem q54 (w:World) (row:Option Nat):w.grownBy w.drew row:=⟨rfl,rfl,rfl,J4 _,λ _ _ _=>rfl⟩
theorem q3P {w:World} {base n cap g:Nat} {l:List Nat} {i x:Nat} (h:w.ownsRow base 3 1 (.slice (some ⟨g,0,none⟩) n cap) n ((zs l).map (Value.int .i64))) (hi:l[i]?=some x):w.cell? ⟨g,i,none⟩=some (.int .i64 x):=by
 have:=h.cells (g:=g) rfl i (.int .i64 x) (by simp [zs,hi])
 rwa [show (⟨g,0,none⟩:Addr).add i=⟨g,i,none⟩ by unfold Addr.add;split <;> simp_all] at this
theorem q7R (l:List Nat) (i x:Nat):((zs l).map (Value.int .i64)).set i (.int .i64 x)=(zs (l.set i x)).map (Value.int .i64):=by
 simp only [zs,List.map_set]
theorem kC {w:World} {base n size:Nat} {e:TypeId} {v:Value} {xs:List Value} (h:w.ownsRow base e size v n xs):w.drew.ownsRow base e size v n xs:=h
set_option maxRecDepth 100000 in
set_option maxHeartbeats 4000000 in
theorem q3H (base:Nat) (l:List Nat) (v:Value) (w:World) (h:w.ownsRow base 3 1 v l.length ((zs l).map (Value.int .i64))) (hl:l.length<=1000000) :
  Calls Tryz.prog 99 #[v] w λ e w'=>e=.returned (.tuple #[])/\w'.ownsRow base 3 1 v l.length ((zs l.reverse).map (Value.int .i64))/\w.grownBy w' v.ownBlock:=by
 have h0:=h;rcases h.2 with ⟨hv,hn⟩ | ⟨g,cap,cur,hv,-⟩
 ·subst hv;obtain rfl:l=[]:=List.length_eq_zero_iff.1 hn;clear h h0 hl hn;(go_enter Tryz.func99,Tryz.ntmps99);go_wp2_with fail
  go_loopw [2,3] (λ s2 s3 wr=>s2=.int .i64 0/\s3=.int .i64 (-1)/\wr=w) (λ _ _ _=>0)
  case atStart=>exact ⟨rfl,rfl,rfl⟩
  case round =>
   obtain ⟨rfl,rfl,rfl⟩:=hrel;(go_wp2_with fail);(go_end0);exact ⟨rfl,World.ownsRow_nil _ _ _ _,q0t _ _⟩
 ·subst hv;have HO:=Jj h;clear h h0;(go_enter Tryz.func99,Tryz.ntmps99);go_wp2_with fail
  go_loopw [2,3] (λ s2 s3 wr=>∃ (i:Nat) (jz:Int) (l':List Nat),s2=.int .i64 i/\s3=.int .i64 jz/\jz=(l.length:Int) - 1 - i/\i<=l.length/\Turned l l' i/\wr.ownsRow base 3 1 (.slice (some ⟨g,0,none⟩) l.length cap) l.length ((zs l').map (Value.int .i64))/\w.grownBy wr (some g)) (λ s2 _ _=>l.length - (intOf s2).toNat)
  case atStart=>exact ⟨0,_,l,rfl,rfl,by omega,Nat.zero_le _,Turned.zero l,HO.out,q0t _ _⟩
  case round =>
   obtain ⟨i,jz,l',rfl,rfl,wl,hi,ht,wh,hg⟩:=hrel;have HJ:=Jj wl;have HT:=Jj ht;have wg:=Jj wh;have HG:=Jj hg;clear wl ht wh hg HO
   by_cases wm:(i:Int)<jz
   ·obtain ⟨j,rfl⟩:∃ j:Nat,jz=j:=⟨jz.toNat,by omega⟩;(have hij:i<j:=by omega);(have hjl:j<l.length:=by have:=HJ.out;omega);(have wk:Hid (j=l.length - 1 - i):=Jj (by have:=HJ.out;omega));(obtain ⟨x,hx⟩:∃ x,l'[i]?=some x:=⟨_,Jq (by rw [HT.out.1];omega)⟩);(obtain ⟨y,hy⟩:∃ y,l'[j]?=some y:=⟨_,Jq (by rw [HT.out.1];omega)⟩);have ci:wr.cell? ⟨g,i,none⟩=some (.int .i64 x):=q3P wg.out hx;have cj:wr.cell? ⟨g,j,none⟩=some (.int .i64 y):=q3P wg.out hy;have fi:=wg.out.frozenAt i
    have fj:=wg.out.frozenAt j;have HX:=Jj hx;have HY:=Jj hy;clear hx hy;(go_wp2_with fail);(go_region);all_goals
     (go_wp2_with fail);have h1:=wg.out.stored i (.int .i64 y);have h2:=h1.1.stored j (.int .i64 x);rw [q7R,q7R] at h2;have h3:Turned l ((l'.set i y).set j x) (i+1):=by
      have:=HT.out.step (by have:=wk.out;omega) HX.out (by rw [<- wk.out];exact HY.out)
      rwa [<- wk.out] at this
     have HS:=Jj (kC h2.1);have wu:=Jj (jw HG.out (jw (jw h1.2 h2.2) (q54 _ _)))
     go_roundw
     case rel=>exact ⟨i+1,(j:Int) - 1,(l'.set i y).set j x,by go_num,rfl,by have:=HJ.out;push_cast;omega,by omega,h3,HS.out,wu.out⟩
     case measure=>simp [intOf];omega
   ·have hnot:¬ ((i:Int)<jz):=wm;(have wj:Hid (l.length<=2 * i+1):=Jj (by have:=HJ.out;omega));(go_wp2_with fail);(go_end0);exact ⟨rfl,by rw [<- HT.out.all wj.out];exact wg.out,HG.out⟩
theorem jT (bs:List qE):(qV bs).length<=bs.length:=q4o (zD bs)
theorem q1l {bs:List qE} {x:Nat} (h:x∈qV bs):x<bs.length:=yc (zD bs) h
theorem q25 (nx:Nat->List Nat) (n:Nat):(vC nx n).length=(j6 nx n).length:=by simp [vC]
theorem q4H {n:Nat} {w w':World} {row:Option Nat} (h:w.grownBy w' row) (hr:∀ k,row=some k->n<=k) (hn:n<=w.heap.size):Below n w w' :=
 ⟨h.os,h.tape,h.output,h.size,λ k hk=>h.block k (by omega) (λ e=>by have:=hr k e.symm;omega)⟩
def qBE (bs:List qE) (w:World) (e:Ending) (w':World):Prop :=
 (∃ v,e=.returned v/\w'.ownsRow w.heap.size 3 1 v (qV bs).length ((zs (qV bs)).map (Value.int .i64)))/\Below w.heap.size w w'
set_option maxRecDepth 100000 in
set_option maxHeartbeats 4000000 in
theorem q1k (f:qB) (v:Value) (w:World) (hv:VFun w v f) (hn:f.blocks.length<=1000) :
  Calls Tryz.prog 61 #[v] w (qBE f.blocks w):=by
 have wM:=hv;obtain ⟨Ar,cr,A,c,rfl,hr,hb,wu,wm⟩:=hv;clear hr hb wu wm;(go_enter Tryz.func61,Tryz.ntmps61);(go_upto_region 1 with fail);obtain ⟨w1,wJ,wV,wO,wj,wl,-⟩:=named w #[.int .i64 f.params,.int .i64 f.result,.slice Ar f.regs.length cr,.slice A f.blocks.length c] 30;rw [<- wJ];have c0:=wl 0 _ rfl;have c1:=wl 1 _ rfl
 have c2:=wl 2 _ rfl;have c3:=wl 3 _ rfl;have ww:=Jj wj;have HN:=Jj (jt f _ w1 (VFun.keep wO wM) (by omega));clear wJ wV wj wl wM wO;(go_wp2_with fail);refine HN.out.mono ?_;rintro e w2 ⟨⟨V,G,rfl,hG,hg⟩,wT⟩;have wv:Hid (Below w.heap.size w w2):=Jj (ww.out.trans (wT.mono ww.out.size))
 have HK:=Jj (q1a G (G+2) f.blocks.length V (nxF f.blocks) w2 hg hn (zD f.blocks));have HG:Hid (w.heap.size<=G):=Jj (Nat.le_trans ww.out.size hG);clear c0 c1 c2 c3 hG hg wT HN;(go_wp2_with fail);refine HK.out.mono ?_;rintro e w3 ⟨⟨vd,rfl,wk⟩,wR⟩;have wU:Hid (Below w.heap.size w w3):=Jj (wv.out.trans (wR.below wv.out.size HG.out));have wg:=vq wk (base':=w.heap.size) wv.out.size;have HR:=Jj (q3H w.heap.size (j6 (nxF f.blocks) f.blocks.length) vd w3 wg (by have:=jT f.blocks;rw [<- q25];unfold qV at this;omega))
 have HO:=Jj wg;clear wk wg wR HK;(go_wp2_with fail);refine HR.out.mono ?_;rintro e w4 ⟨rfl,wh,wQ⟩;have wW:=Jj wh;have wX:Hid (Below w.heap.size w w4):=Jj (wU.out.trans (q4H wQ (λ k hk=>(HO.out.lt k hk).1) wU.out.size));clear wh wQ HR;go_wp2_with fail
 (go_ret);exact ⟨⟨vd,rfl,by have:=wW.out;rw [<- q25] at this;exact this⟩,wX.out⟩
def qBA (bs:List qE) (w:World) (e:Ending) (w':World):Prop :=
 (∃ H,e=.returned (.slice (some ⟨H,0,none⟩) bs.length bs.length)/\w.heap.size<=H/\w'.rowIs H 4 bs.length (λ x=>.bool (qI bs x)))/\Below w.heap.size w w'
def k5 (l:List Nat) (k x:Nat):Bool:=decide (x∈l.take k)
theorem q3B {l:List Nat} {k q:Nat} (h:l[k]?=some q) (x:Nat):k5 l (k+1) x=if x=q then true else k5 l k x:=by
 unfold k5;rw [qG h]
 by_cases e:x=q
 ·simp [e]
 ·simp [e]
theorem q4i {bs:List qE} {k:Nat} (h:(qV bs).length<=k) (x:Nat):k5 (qV bs) k x=qI bs x:=by
 unfold k5 qI vn qV at *;rw [List.take_of_length_le h]
set_option maxRecDepth 100000 in
set_option maxHeartbeats 4000000 in
theorem q4e (G:Nat) (w:World):Calls Tryz.prog 96 #[.slice (some ⟨G,0,none⟩) 0 0] w λ e w'=>e=.returned (.agg #[.slice none 0 0,.slice none 0 0,.slice none 0 0])/\Below w.heap.size w w':=by
 (go_enter Tryz.func96,Tryz.ntmps96);(go_upto_region 2 with fail);obtain ⟨M,hM⟩:∃ M,M=w.heap.size:=⟨_,rfl⟩;obtain ⟨W,hW⟩:∃ W,W=(w.alloc (.cells #[.slice none 0 0,.slice none 0 0,.slice none 0 0] 147)).alloc (.cells #[.slice none 0 0,.slice none 0 0,.slice none 0 0] 147):=⟨_,rfl⟩;rw [<- hW];obtain ⟨b0,b1,wg⟩:W.heap[M]?=some (.cells #[.slice none 0 0,.slice none 0 0,.slice none 0 0] 147)/\W.heap[M+1]?=some (.cells #[.slice none 0 0,.slice none 0 0,.slice none 0 0] 147)/\Below M w W:=by
  subst hM hW;have h1:=heap_alloc_new w (.cells #[.slice none 0 0,.slice none 0 0,.slice none 0 0] 147);have h2:=heap_alloc_new (w.alloc (.cells #[.slice none 0 0,.slice none 0 0,.slice none 0 0] 147)) (.cells #[.slice none 0 0,.slice none 0 0,.slice none 0 0] 147);refine ⟨(Below.heap_alloc _ _ _ (by simp)).trans h1,by simpa using h2,((J5 _ w).alloc (J4 _) _).alloc (by simp) _⟩
 have d0:W.cell? ⟨M+1,0,none⟩=some (.slice none 0 0):=q6 b1 0;have d1:W.cell? ⟨M+1,1,none⟩=some (.slice none 0 0):=q6 b1 1;have d2:W.cell? ⟨M+1,2,none⟩=some (.slice none 0 0):=q6 b1 2;have m0:=q6 b0 0;have m1:=q6 b0 1;have m2:=q6 b0 2;(have hf0:W.frozen? ⟨M,0,none⟩=false:=by unfold World.frozen?;simp [b0]);(have hf1:W.frozen? ⟨M,1,none⟩=false:=by unfold World.frozen?;simp [b0]);have hf2:W.frozen? ⟨M,2,none⟩=false:=by unfold World.frozen?;simp [b0]
 have ta:(((W.setCell ⟨M,0,none⟩ (.slice none 0 0)).setCell ⟨M,1,none⟩ (.slice none 0 0)).setCell ⟨M,2,none⟩ (.slice none 0 0)).heap[M]?=some (.cells #[.slice none 0 0,.slice none 0 0,.slice none 0 0] 147):=qK _ (qK _ (qK _ b0));have tD:=Jj ta;have tG:=Jj (((wg.setCell (p:=⟨M,0,none⟩) (J4 _) (.slice none 0 0)).setCell (p:=⟨M,1,none⟩) (J4 _) (.slice none 0 0)).setCell (p:=⟨M,2,none⟩) (J4 _) (.slice none 0 0));have HM:=Jj hM;rw [<- hM];clear hW b0 b1 wg ta hM;(go_wp2_with fail);refine bodyPost_ret (results_cell_row rfl _ _ M 147 #[.slice none 0 0,.slice none 0 0,.slice none 0 0] (0,0) _ (by rfl) tD.out Tryz.underlying147 (by rfl) (by kernel_rfl)) rfl ?_;exact ⟨rfl,by rw [<- HM.out];exact tG.out⟩
set_option maxRecDepth 100000 in
set_option maxHeartbeats 4000000 in
theorem q6K (w:World):Calls Tryz.prog 97 #[.agg #[.slice none 0 0,.slice none 0 0,.slice none 0 0]] w λ e w'=>(∃ H,e=.returned (.slice (some ⟨H,0,none⟩) 0 0))/\Below w.heap.size w w':=by
 (go_enter Tryz.func97,Tryz.ntmps97);(go_upto_region 1 with fail);obtain ⟨w1,wM,wO,wv,wh,wj,-⟩:=named w #[.slice none 0 0,.slice none 0 0,.slice none 0 0] 147;rw [<- wM];have c0:w1.cell? ⟨w.heap.size,0,none⟩=some (.slice none 0 0):=wj 0 _ rfl;have tS:=Jj (kH 0 w1 (by omega));have tq:=Jj wh;have wk:=Jj wO;clear wM wO wv wh wj
 (go_wp2_with fail);refine tS.out.mono ?_;rintro e w2 ⟨⟨He,Ha,Hl,rfl,h1,h2,h3,tX⟩,wu⟩;have wZ:∀ w:World,(Instr.makeSlice 27 (.int .i64 0) (.int .i64 0)).run Tryz.prog w=.ok (.slice (some ⟨w.heap.size,0,none⟩) 0 0) (w.alloc (.cells (madeCells #[.int .i64 0] 0) 3)):=run_make_row' (P:=Tryz.prog) 27 3 (.int .i64 0) 8 Tryz.underlying27 Tryz.info3 rfl .i64 .i64 0 (by omega) (by omega);have tz:∀ w:World,(Instr.makeSlice 65 (.int .i64 0) (.int .i64 0)).run Tryz.prog w=.ok (.slice (some ⟨w.heap.size,0,none⟩) 0 0) (w.alloc (.cells (madeCells #[.slice none 0 0] 0) 27)):=run_make_row' (P:=Tryz.prog) 65 27 (.slice none 0 0) 24 Tryz.underlying65 Tryz.info27 rfl .i64 .i64 0 (by omega) (by omega);(have tN:w2.cell? ⟨w.heap.size,0,none⟩=some (.slice none 0 0):=(wu.cell (p:=⟨w.heap.size,0,none⟩) (by have:=wk.out;show w.heap.size<_;omega)).trans c0);(have hN2:w.heap.size<w2.heap.size:=by have:=wu.size;have:=wk.out;omega);(have wV:Hid (Below w.heap.size w w2):=Jj (tq.out.trans (wu.mono (by have:=wk.out;omega))));have HW:=Jj hN2
 clear c0 tS h1 h2 h3 tX wu;(go_upto_region 4 with fail);obtain ⟨w5,wm⟩:∃ w5,w5=((w2.alloc (.cells #[.slice (some ⟨He,0,none⟩) 0 0,.slice (some ⟨Ha,0,none⟩) 0 0,.slice (some ⟨Hl,0,none⟩) 0 0] 189)).alloc (.cells (madeCells #[.int .i64 0] 0) 3)).alloc (.cells (madeCells #[.slice none 0 0] 0) 27):=⟨_,rfl⟩;obtain ⟨-,-,-,-,wg⟩:=q2v w2 w2.heap.size rfl _ _ _ w5 wm;(have tp:Hid (Below w.heap.size w w5):=Jj (wV.out.trans (wg.mono (by have:=HW.out;omega))));have hc5:w5.cell? ⟨w.heap.size,0,none⟩=some (.slice none 0 0):=(wg.cell (p:=⟨w.heap.size,0,none⟩) HW.out).trans tN;rw [<- wm];clear wZ tz wm wg tN;go_wp2_with fail
 go_loopw [6] (λ s6 wq=>s6=.int .i64 (-1)/\Below w.heap.size w wq) (λ _ _=>0)
 case atStart=>exact ⟨rfl,tp.out⟩
 case round =>
  obtain ⟨rfl,hb⟩:=hrel;have HR:=Jj hb;clear hb;(have h1:¬ ((-1:Int) > 0):=by decide);go_wp2_with fail
  go_loopw [124] (λ s124 wq=>s124=.int .i64 0/\Below w.heap.size w wq) (λ _ _=>0)
  case atStart=>exact ⟨rfl,HR.out⟩
  case round =>
   obtain ⟨rfl,hb⟩:=hrel;have sd:=Jj hb;clear hb;(go_wp2_with fail);(go_ret);exact ⟨⟨_,rfl⟩,sd.out⟩
def q5X (bs:List qE) (w:World) (e:Ending) (w':World):Prop :=
 (∃ H,e=.returned (.slice (some ⟨H,0,none⟩) bs.length bs.length)/\w.heap.size<=H/\w'.rowIs H 3 bs.length (λ b=>.int .i64 (qZ bs b))/\∃ ord,NearB bs (qZ bs) ord)/\Below w.heap.size w w'
def NJ (bl D:Nat->Nat) (pl:Nat->Int) (j b:Nat):Int:=if 0<=pl b/\pl b<(j:Int) then kJ bl D pl b else -1
theorem q0T (bl D:Nat->Nat) (pl:Nat->Int) (b:Nat):NJ bl D pl 0 b=-1:=by unfold NJ;rw [if_neg (by omega)]
theorem q6B {nx:Nat->List Nat} {n k:Nat} {bl par D:Nat->Nat} {ah:Nat->List Nat} {pl:Nat->Int} (T:TvE nx n k bl par ah pl) {j b:Nat} (hj:j<k) (hb:b<n):NJ bl D pl (j+1) b=if j=0 then -1 else if b=bl j then (bl (D j):Int) else NJ bl D pl j b:=by
 by_cases tr:j=0
 ·subst tr;rw [if_pos rfl];unfold NJ kJ
  by_cases h:0<=pl b/\pl b<((0+1:Nat):Int)
  ·rw [if_pos h,if_pos (by have:=h.2;omega)]
  ·rw [if_neg h]
 ·rw [if_neg tr]
  by_cases e:b=bl j
  ·subst e;have h1:=(T.blk j hj).2;rw [if_pos rfl];unfold NJ kJ;rw [if_pos (by omega),if_neg (by omega),h1];rfl
  ·rw [if_neg e];have hne:pl b≠(j:Int):=λ h=>by
    rcases T.plc b hb with h1 | ⟨p,h1,h2,h3⟩
    ·omega
    ·(obtain rfl:p=j:=by omega);exact e h3.symm
   unfold NJ
   by_cases h:0<=pl b/\pl b<(j:Int)
   ·rw [if_pos (by omega),if_pos h]
   ·rw [if_neg (by omega),if_neg h]
theorem qBZ {nx:Nat->List Nat} {n k:Nat} {bl par D:Nat->Nat} {ah:Nat->List Nat} {pl:Nat->Int} (T:TvE nx n k bl par ah pl) {b:Nat} (hb:b<n):NJ bl D pl k b=kJ bl D pl b:=by
 unfold NJ kJ;rcases T.plc b hb with h | ⟨p,h1,h2,h3⟩
 ·rw [if_neg (by omega),if_pos (by omega)]
 ·rw [if_pos (by omega)]
set_option maxRecDepth 100000 in
set_option maxHeartbeats 8000000 in
theorem q2Y (f:qB) (v:Value) (w:World) (hv:VFun w v f) (hn:f.blocks.length<=1000) (h0:0<f.blocks.length):Calls Tryz.prog 60 #[v] w (q5X f.blocks w):=by
 have wY:=hv;obtain ⟨Ar,cr,A,c,rfl,-,-,-,-⟩:=hv;(go_enter Tryz.func60,Tryz.ntmps60);(go_upto_region 1 with fail);obtain ⟨w1,wM,wO,wv,wh,wj,-⟩:=named w #[.int .i64 f.params,.int .i64 f.result,.slice Ar f.regs.length cr,.slice A f.blocks.length c] 30;rw [<- wM];have c0:=wj 0 _ rfl;have c1:=wj 1 _ rfl;have c2:=wj 2 _ rfl
 have c3:=wj 3 _ rfl;have tF:=Jj c3;have tq:=Jj wh;have wk:=Jj wO;have HN:=Jj (jt f _ w1 (VFun.keep wv wY) (by omega));clear wM wO wh wj wY wv;(go_wp2_with fail);refine HN.out.mono ?_;rintro e w2 ⟨⟨V,G,rfl,hG,hg⟩,wu⟩
 have wV:Hid (Below w1.heap.size w1 w2):=Jj wu;(have td:=Jj (q4f (nxF f.blocks) f.blocks.length G w2 (hg.reads (by omega) (λ i hi x hx=>by obtain ⟨q,hq,rfl⟩:=y4 hx;have:=zD f.blocks i q hq;unfold I64;omega)) h0 hn (zD f.blocks) (λ x=>by unfold nxF;split;exact xI _ _;simp)));clear c0 c1 c2 c3 hG hg wu HN;(go_wp2_with fail);refine td.out.mono ?_;rintro e w3 ⟨⟨k,bl,par,ah,pl,vb,vf,va,V0,rfl,hTE,hTR⟩,tc⟩;have wT:=Jj hTE;have hkn:=hTE.kn;obtain ⟨A1,k1,rfl⟩:=zY hTR.rb
 obtain ⟨A2,k2,rfl⟩:=zY hTR.rf;obtain ⟨A3,k3,rfl⟩:=zY hTR.ra;have tw:=Jj hTR;have ww:Hid (Below w1.heap.size w1 w3):=Jj (wV.out.trans (tc.mono wV.out.size));have wZ:=run_make_row' (P:=Tryz.prog) 27 3 (.int .i64 0) 8 Tryz.underlying27 Tryz.info3 rfl .i64 .i64 f.blocks.length (by omega) (by omega);(have c3:w3.cell? ⟨w.heap.size,3,none⟩=some (.slice A f.blocks.length c):=(ww.out.cell (p:=⟨w.heap.size,3,none⟩) (by have:=wk.out;show w.heap.size<_;omega)).trans tF.out);(have hN3:w.heap.size<w3.heap.size:=by have:=ww.out.size;have:=wk.out;omega);clear hTE hTR tc td;go_upto_region 3 with fail
 clear wZ;obtain ⟨T,hT⟩:∃ T,T=w3.heap.size:=⟨_,rfl⟩;obtain ⟨w5,wm⟩:∃ w5,w5=(w3.alloc (.cells #[.slice A1 k k1,.slice A2 k k2,.slice A3 k k3] 147)).alloc (.cells (madeCells #[.int .i64 0] f.blocks.length) 3):=⟨_,rfl⟩;obtain ⟨b0,b1,wg⟩:w5.heap[T]?=some (.cells #[.slice A1 k k1,.slice A2 k k2,.slice A3 k k3] 147)/\w5.heap[T+1]?=some (.cells (madeCells #[.int .i64 0] f.blocks.length) 3)/\Below T w3 w5:=by
  subst wm hT;have h1:=heap_alloc_new w3 (.cells #[.slice A1 k k1,.slice A2 k k2,.slice A3 k k3] 147);have h2:=heap_alloc_new (w3.alloc (.cells #[.slice A1 k k1,.slice A2 k k2,.slice A3 k k3] 147)) (.cells (madeCells #[.int .i64 0] f.blocks.length) 3);exact ⟨(Below.heap_alloc _ _ _ (by simp)).trans h1,by simpa using h2,((J5 _ w3).alloc (J4 _) _).alloc (by simp) _⟩
 have wX:=Jj b0;have wU:=yJ b1;(have tp:Hid (Below w1.heap.size w1 w5):=Jj (ww.out.trans (wg.mono (by have:=ww.out.size;omega))));have tj:Hid (w1.heap.size<=T/\T+1<w5.heap.size):=Jj ⟨by have:=ww.out.size;omega,(Array.getElem?_eq_some_iff.1 b1).1⟩
 have tg:Hid (∀ (w':World),Below T w5 w'->TvR w' w2.heap.size k (.slice A1 k k1) (.slice A2 k k2) (.slice A3 k k3) V0 bl par ah):=Jj (λ w' hb=>by
  (have tZ:Below w3.heap.size w3 w':=by rw [<- hT];exact wg.trans hb);have ho:∀ {sz n:Nat} {e:TypeId} {u:Value} {xs:List Value},w3.ownsRow w2.heap.size e sz u n xs->w'.ownsRow w2.heap.size e sz u n xs:=λ h=>qJ h λ g hg=>tZ.block g (h.lt g hg).2
  exact ⟨ho tw.out.rb,ho tw.out.rf,ho tw.out.ra,λ v hv=>ho (tw.out.rV v hv)⟩)
 rw [<- wm,<- hT];clear wm hT wg b0 b1 c3 hN3;go_wp2_with fail
 go_loopw [17] (λ s17 wq=>∃ j:Nat,j<=f.blocks.length/\s17=.int .i64 (j:Int)/\wq.rowIs (T+1) 3 f.blocks.length (λ b=>.int .i64 (if b<j then -1 else 0))/\FrX (λ b=>b=T+1) w5 wq) (λ s17 _=>f.blocks.length - (intOf s17).toNat)
 case atStart=>exact ⟨0,Nat.zero_le _,rfl,wU.congr λ _ _=>rfl,FrX.refl _ _⟩
 case round =>
  obtain ⟨j,hj,rfl,hr,wl⟩:=hrel;have tx:=Jj wl
  by_cases tV:j<f.blocks.length
  ·(have e1:wr.cell? ⟨T+1,j,none⟩=some (.int .i64 0):=by have:=hr.cell tV;simpa using this);have f1:=hr.frozen j;(have tr:(0:Int)<=j:=by omega);have tW:(j:Int)<f.blocks.length:=by omega
   have HR:=Jj ((hr.set j (.int .i64 (-1))).congr (g:=λ b=>.int .i64 (if b<j+1 then -1 else 0)) λ v _=>by
    by_cases e:v=j
    ·simp [e]
    ·simp only [if_neg e];by_cases e2:v<j
     ·rw [if_pos e2,if_pos (by omega)]
     ·rw [if_neg e2,if_neg (by omega)])
   clear hr wl wU;go_wp2_with fail
   go_roundw
   case rel=>exact ⟨j+1,by omega,by go_num,HR.out,tx.out.setCell (.inl rfl) _⟩
   case measure=>simp [intOf];omega
  ·(have tB:j=f.blocks.length:=by omega);subst tB;have tQ:=Jj (hr.congr (g:=λ b=>.int .i64 (NJ bl (λ v=>v) pl 0 b)) λ v hv=>by rw [q0T,if_pos hv]);have wQ:=tx.out.box wX.out (by omega);have t0:wr.cell? ⟨T,0,none⟩=some (.slice A1 k k1):=q6 wQ 0;have t1:wr.cell? ⟨T,1,none⟩=some (.slice A2 k k2):=q6 wQ 1;have t2:wr.cell? ⟨T,2,none⟩=some (.slice A3 k k3):=q6 wQ 2;(have hbT:Below T w5 wr:=tx.out.below (by have:=tj.out;omega) (λ b hb=>by omega));have th:=Jj (q6L (nxF f.blocks) f.blocks.length k bl par ah pl _ _ _ V0 w2.heap.size wr wT.out (tg.out wr hbT) hn)
   have sm:=Jj wQ;clear hr wl wU wQ hbT;(go_wp2_with fail);refine th.out.mono ?_;rintro e w6 ⟨⟨Hn,s,near,rfl,hHn,hS,hNP,tM⟩,wR⟩;have hNB:=wT.out.near h0 hS hNP;(have si:Hid (∃ ord,NearB f.blocks (qZ f.blocks) ord):=Jj ⟨_,⟨λ b hb h=>by rw [<- hNB.is_near hb];exact hNB.none b hb h,λ b hb h1 h2=>by rw [<- hNB.is_near hb];exact hNB.some b hb h1 h2,hNB.ord,hNB.self,hNB.trans,hNB.first,hNB.reach⟩⟩);have sj:Hid (∀ b,b<f.blocks.length->NJ bl near pl k b=qZ f.blocks b):=Jj (λ b hb=>(qBZ wT.out hb).trans (hNB.is_near hb));have hT1:T+1<wr.heap.size:=tQ.out.lt
   have sf:=Jj ((tQ.out.of_block (wR.block (T+1) hT1)).congr (g:=λ b=>.int .i64 (NJ bl near pl 0 b)) λ v _=>by rw [q0T,q0T]);have HX6:Hid (w6.heap[T]?=some (.cells #[.slice A1 k k1,.slice A2 k k2,.slice A3 k k3] 147)):=Jj ((wR.block T (by omega)).trans sm.out);have tE:Hid (FrX (λ b=>b=T+1) w5 w6):=Jj (tx.out.trans (FrX.of_below wR));have tR:=Jj tM;have sk:Hid (T+1<Hn):=Jj (by omega);(have sb:Hid (∀ v,0<v->v<k->near v<k):=Jj (λ v h1 h2=>by have:=q0M wT.out.tree hS hNP v h1 h2;have:=hS.lt wT.out.tree h1 h2;omega));clear hS hNP tM wR hHn hNB t0 t1 t2 th hT1;go_wp2_with fail
   go_loopw [27] (λ s27 wq=>∃ j:Nat,j<=k/\s27=.int .i64 (j:Int)/\wq.rowIs (T+1) 3 f.blocks.length (λ b=>.int .i64 (NJ bl near pl j b))/\FrX (λ b=>b=T+1) w6 wq) (λ s27 _=>k - (intOf s27).toNat)
   case atStart=>exact ⟨0,Nat.zero_le _,rfl,sf.out,FrX.refl _ _⟩
   case round =>
    obtain ⟨j,hj,rfl,hr,wl⟩:=hrel;have tm:=Jj wl;have HRR:=Jj hr
    by_cases wW:j<k
    ·(have xn:=(tR.out.of_block (wl.block Hn (tR.out.lt) (by have:=sk.out;omega))).cell wW);(have tr:(0:Int)<=j:=by omega);have tW:(j:Int)<k:=by omega
     by_cases hz:j=0
     ·have HR:=Jj (hr.congr (g:=λ b=>.int .i64 (NJ bl near pl (j+1) b)) λ v hv=>by rw [q6B wT.out wW hv,if_pos hz,hz,q0T]);rw [if_pos hz] at xn;(have h1:¬ ((-1:Int) ≥ 0):=by decide);clear hr wl hz;go_wp2_with fail
      go_roundw
      case rel=>exact ⟨j+1,by omega,by go_num,HR.out,tm.out⟩
      case measure=>simp [intOf];omega
     ·rw [if_neg hz] at xn;have tU:=sb.out j (by omega) wW;have wQ:=(tE.out.trans wl).box wX.out (by omega);have t0:wr.cell? ⟨T,0,none⟩=some (.slice A1 k k1):=q6 wQ 0;(have hTR:=tg.out wr ((tE.out.trans wl).below (by have:=tj.out;omega) (λ b hb=>by omega)));obtain ⟨g1,cap1,u1,tJ,tL,x1,-⟩:=vH hTR.rb wW;obtain ⟨rfl,-⟩:=qu _ tL;simp only [Value.slice.injEq] at tJ;obtain ⟨rfl,-,rfl⟩:=tJ
      obtain ⟨g2,cap2,u2,tH,tK,x2,-⟩:=vH hTR.rb tU;obtain ⟨rfl,-⟩:=qu _ tK;simp only [Value.slice.injEq,J0,Addr.mk.injEq,and_true,true_and] at tH;obtain ⟨rfl,rfl⟩:=tH;have tY:=(wT.out.blk j wW).1;have xc:=hr.cell tY;have xf:=hr.frozen (bl j);(have HR:=Jj ((hr.set (bl j) (.int .i64 (bl (near j):Int))).congr (g:=λ b=>.int .i64 (NJ bl near pl (j+1) b)) λ v hv=>by rw [q6B wT.out wW hv,if_neg hz];by_cases e:v=bl j <;> simp [e]));have hb0:(0:Int)<=(bl j:Int):=by omega
      (have hb1:(bl j:Int)<f.blocks.length:=by omega);(have hn0:(0:Int)<=(near j:Int):=by omega);(have hn1:(near j:Int)<k:=by omega);clear hr wl hz wQ hTR tL tK;(go_upto_region 12 with fail);(go_region);go_wp2_with fail
      go_roundw
      case rel=>exact ⟨j+1,by omega,by go_num,HR.out,(tm.out.setCell (.inl rfl) _).drew⟩
      case measure=>simp [intOf];omega
    ·(have tB:j=k:=by omega);subst tB;have tC:=Jj (hr.congr (g:=λ b=>.int .i64 (qZ f.blocks b)) λ v hv=>by rw [sj.out v hv]);(have tG:Hid (Below w.heap.size w wr):=Jj (tq.out.trans ((tp.out.mono (by have:=wk.out;omega)).trans ((tE.out.trans wl).below (by have:=tj.out;have:=wk.out;omega) (λ b hb=>by have:=tj.out;have:=wk.out;omega)))));(have tf:Hid (w.heap.size<=T+1):=Jj (by have:=tj.out;have:=wk.out;omega));clear hr wl;(go_wp2_with fail);(go_ret);exact ⟨⟨T+1,rfl,tf.out,tC.out,si.out⟩,tG.out⟩
set_option maxRecDepth 100000 in
set_option maxHeartbeats 8000000 in
theorem q2Z (f:qB) (v:Value) (w:World) (hv:VFun w v f) (h0:f.blocks.length=0):Calls Tryz.prog 60 #[v] w (q5X f.blocks w):=by
 have wY:=hv;obtain ⟨Ar,cr,A,c,rfl,-,-,-,-⟩:=hv;have sh:=Jj (λ w1 (wv:Kept w w1)=>jt f _ w1 (VFun.keep wv wY) (by omega));have H0:=Jj h0;rw [h0];clear h0;(go_enter Tryz.func60,Tryz.ntmps60);(go_upto_region 1 with fail);obtain ⟨w1,wM,wO,wv,wh,wj,-⟩:=named w #[.int .i64 f.params,.int .i64 f.result,.slice Ar f.regs.length cr,.slice A 0 c] 30
 rw [<- wM];have c0:=wj 0 _ rfl;have c1:=wj 1 _ rfl;have c2:=wj 2 _ rfl;have c3:=wj 3 _ rfl;have tF:=Jj c3;have tq:=Jj wh;have wk:=Jj wO;have HN:=Jj (sh.out w1 wv)
 rw [H0.out] at HN;clear wM wO wh wj wY wv;(go_wp2_with fail);refine HN.out.mono ?_;rintro e w2 ⟨⟨V,G,rfl,hG,hg⟩,wu⟩;have wV:Hid (Below w1.heap.size w1 w2):=Jj wu;have td:=Jj (q4e G w2);clear c0 c1 c2 c3 hG hg wu HN;go_wp2_with fail
 refine td.out.mono ?_;rintro e w3 ⟨rfl,tc⟩;have ww:Hid (Below w1.heap.size w1 w3):=Jj (wV.out.trans (tc.mono wV.out.size));have wZ:∀ w:World,(Instr.makeSlice 27 (.int .i64 0) (.int .i64 0)).run Tryz.prog w=.ok (.slice (some ⟨w.heap.size,0,none⟩) 0 0) (w.alloc (.cells (madeCells #[.int .i64 0] 0) 3)):=run_make_row' (P:=Tryz.prog) 27 3 (.int .i64 0) 8 Tryz.underlying27 Tryz.info3 rfl .i64 .i64 0 (by omega) (by omega);(have c3:w3.cell? ⟨w.heap.size,3,none⟩=some (.slice A 0 c):=(ww.out.cell (p:=⟨w.heap.size,3,none⟩) (by have:=wk.out;show w.heap.size<_;omega)).trans tF.out);(have hN3:w.heap.size<w3.heap.size:=by have:=ww.out.size;have:=wk.out;omega);clear tc td;(go_upto_region 3 with fail);clear wZ
 obtain ⟨T,hT⟩:∃ T,T=w3.heap.size:=⟨_,rfl⟩;obtain ⟨w5,wm⟩:∃ w5,w5=(w3.alloc (.cells #[.slice none 0 0,.slice none 0 0,.slice none 0 0] 147)).alloc (.cells (madeCells #[.int .i64 0] 0) 3):=⟨_,rfl⟩;obtain ⟨b0,b1,wg⟩:w5.heap[T]?=some (.cells #[.slice none 0 0,.slice none 0 0,.slice none 0 0] 147)/\w5.heap[T+1]?=some (.cells (madeCells #[.int .i64 0] 0) 3)/\Below T w3 w5:=by
  subst wm hT;have h1:=heap_alloc_new w3 (.cells #[.slice none 0 0,.slice none 0 0,.slice none 0 0] 147);have h2:=heap_alloc_new (w3.alloc (.cells #[.slice none 0 0,.slice none 0 0,.slice none 0 0] 147)) (.cells (madeCells #[.int .i64 0] 0) 3);exact ⟨(Below.heap_alloc _ _ _ (by simp)).trans h1,by simpa using h2,((J5 _ w3).alloc (J4 _) _).alloc (by simp) _⟩
 have wX:=Jj b0;have tP:=Jj (yJ b1);(have tp:Hid (Below w.heap.size w w5):=Jj (tq.out.trans ((ww.out.mono (by have:=wk.out;omega)).trans (wg.mono (by omega)))));have tf:Hid (w.heap.size<=T/\T<w5.heap.size):=Jj ⟨by omega,(Array.getElem?_eq_some_iff.1 b0).1⟩;rw [<- wm,<- hT];clear wm hT wg b0 b1 c3 hN3;go_wp2_with fail
 go_loopw [17] (λ s17 wq=>s17=.int .i64 0/\wq=w5) (λ _ _=>0)
 case atStart=>exact ⟨rfl,rfl⟩
 case round =>
  obtain ⟨rfl,wJ⟩:=hrel;(have t0:wr.cell? ⟨T,0,none⟩=some (.slice none 0 0):=by rw [wJ];exact q6 wX.out 0);(have t1:wr.cell? ⟨T,1,none⟩=some (.slice none 0 0):=by rw [wJ];exact q6 wX.out 1);(have t2:wr.cell? ⟨T,2,none⟩=some (.slice none 0 0):=by rw [wJ];exact q6 wX.out 2);have th:=Jj (q6K wr);have tu:=Jj wJ;clear wJ;(go_wp2_with fail);refine th.out.mono ?_
  rintro e w6 ⟨⟨Hn,rfl⟩,wR⟩;(have sn:Hid (Below T w5 w6):=Jj (by rw [<- tu.out];exact wR.mono (by rw [tu.out];exact Nat.le_of_lt tf.out.2)));(have sc:=Jj (tP.out.of_block (w':=w6) (by rw [<- tu.out];exact wR.block (T+1) (by rw [tu.out];exact tP.out.lt))));clear wR t0 t1 t2 th;go_wp2_with fail
  go_loopw [27] (λ s27 wq=>s27=.int .i64 0/\wq=w6) (λ _ _=>0)
  case atStart=>exact ⟨rfl,rfl⟩
  case round =>
   obtain ⟨rfl,wJ⟩:=hrel;have tO:=Jj wJ;clear wJ;(go_wp2_with fail);(go_ret);refine ⟨⟨T+1,by rw [H0.out];rfl,by have:=tf.out;omega,?_,λ _=>0,?_⟩,?_⟩
   ·rw [tO.out,H0.out];exact sc.out.congr λ v hv=>by omega
   ·(have tT:∀ a b,dmB f.blocks a b=false:=λ a b=>by unfold dmB qi;rw [if_neg (by rw [H0.out];omega)];rfl);refine ⟨λ b hb=>?_,λ b hb=>?_,λ a b ha=>?_,λ a ha=>?_,λ a b c h=>?_,λ b hb=>?_,λ a b ha=>?_⟩
    ·rw [H0.out] at hb;omega
    ·rw [H0.out] at hb;omega
    ·rw [H0.out] at ha;omega
    ·rw [H0.out] at ha;omega
    ·rw [tT] at h;cases h
    ·rw [H0.out] at hb;omega
    ·rw [H0.out] at ha;omega
   ·rw [tO.out];exact tp.out.trans (sn.out.mono tf.out.1)
theorem jv (f:qB) (v:Value) (w:World) (hv:VFun w v f) (hn:f.blocks.length<=1000):Calls Tryz.prog 60 #[v] w (q5X f.blocks w):=by
 by_cases h0:f.blocks.length=0
 ·exact q2Z f v w hv h0
 ·exact q2Y f v w hv hn (by omega)
end Go.Proofs.YtfoggldjjnabcaaGreatDoor
