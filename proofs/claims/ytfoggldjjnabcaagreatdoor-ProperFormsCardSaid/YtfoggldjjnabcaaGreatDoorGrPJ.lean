/- Which block dominates which, and the nearest: places told as blocks, in mathematics. No condition. -/
import Derived.Test.YtfoggldjjnabcaaGreatDoorDmTJ
import Derived.Test.YtfoggldjjnabcaaGreatDoorGrWmJ
import Derived.Test.YtfoggldjjnabcaaGreatDoorGrOJ
import Derived.RegionTactic
namespace Go.Proofs.YtfoggldjjnabcaaGreatDoor
open Go.ChangeShapes Go.WideShapes Go.RowKit Go.Deep
set_option linter.unusedVariables false
def dmB (bs:List BlkD) (a b:Nat):Bool:=fromB bs 0 (-1) b && (decide (a=b) || !fromB bs 0 a b)
theorem qz (bs:List BlkD) (x:Nat):fromB bs 0 (-1) x=qv bs x:=by
  unfold fromB
  by_cases h:0<bs.length
  · rw [if_pos ⟨by omega,by omega,by omega⟩];exact fromN_reachB (nxF_lt bs) h x
  · rw [if_neg (by omega)];unfold qv reachB;rw [eq_comm,decide_eq_false_iff_not];intro hx;have:=orderL_lt (nxF_lt bs) hx;omega
theorem from_iff {bs:List BlkD} (hn:0<bs.length) {a:Nat} (ha:a≠0) (x:Nat):fromB bs 0 a x=true↔Reach (nxW (nxF bs) a) 0 x:=by
  unfold fromB;rw [if_pos ⟨by omega,by omega,by omega⟩];exact fromN_iff (nxF_lt bs) hn x
theorem from_zero (bs:List BlkD) (x:Nat):fromB bs 0 (0:Nat) x=false:=by unfold fromB;rw [if_neg (by omega)]
def isNear (bs:List BlkD) (b a:Nat):Bool:=decide (a≠b) && dmB bs a b && (List.range bs.length).all fun c=>decide (c=b) || !dmB bs c b || dmB bs c a
def nearK (bs:List BlkD) (b:Nat):Nat→Int
  | 0=>-1
  | a+1=>if isNear bs b a=true then (a:Int) else nearK bs b a
def nearD (bs:List BlkD) (b:Nat):Int:=nearK bs b bs.length
theorem nearK_none {bs:List BlkD} {b:Nat}:∀ k,(∀ a,a<k→isNear bs b a=false)→nearK bs b k=-1
  | 0,_=>rfl
  | k+1,h=>by unfold nearK;rw [if_neg (by rw [h k (by omega)];simp)];exact nearK_none k fun a ha=>h a (by omega)
theorem nearK_of {bs:List BlkD} {b a:Nat} (ha:isNear bs b a=true) (hu:∀ c,c<bs.length→isNear bs b c=true→c=a):∀ k,a<k→k≤bs.length→nearK bs b k=(a:Int)
  | 0,h,_=>by omega
  | k+1,h,hk=>by
    unfold nearK
    by_cases e:isNear bs b k=true
    · rw [if_pos e,hu k (by omega) e]
    · rw [if_neg e];have:k≠a:=fun h=>e (h ▸ ha);exact nearK_of ha hu k (by omega) (by omega)
structure NearB (bs:List BlkD) (N:Nat→Int) (ord:Nat→Nat):Prop where
  none:∀ b,b<bs.length→(fromB bs 0 (-1) b=false∨b=0)→N b=-1
  some:∀ b,b<bs.length→fromB bs 0 (-1) b=true→b≠0→∃ a,a<bs.length∧N b=(a:Int)∧a≠b∧dmB bs a b=true∧∀ c,c<bs.length→c≠b→dmB bs c b=true→dmB bs c a=true
  ord:∀ a b,a<bs.length→b<bs.length→dmB bs a b=true→ord a≤ord b∧(ord a=ord b→a=b)
  self:∀ a,a<bs.length→fromB bs 0 (-1) a=true→dmB bs a a=true
  trans:∀ a b c,dmB bs a b=true→dmB bs b c=true→dmB bs a c=true
  first:∀ b,b<bs.length→fromB bs 0 (-1) b=true→dmB bs 0 b=true
  reach:∀ a b,a<bs.length→b<bs.length→dmB bs a b=true→fromB bs 0 (-1) a=true
variable {bs:List BlkD} {k:Nat} {bl par s D:Nat→Nat} {ah:Nat→List Nat} {pl:Nat→Int}
theorem TvE.av_of (T:TvE (nxF bs) bs.length k bl par ah pl) {p q:Nat} (hp:p<k) (h:AvP (EdgeP (nxF bs) k bl) p q):q<k∧Reach (nxW (nxF bs) (bl p)) 0 (bl q)∧bl p≠0:=by
  have hinj:∀ x y,x<k→y<k→bl x=bl y→x=y:=fun x y hx hy e=>by
    have h1:=(T.blk x hx).2;have h2:=(T.blk y hy).2;rw [e] at h1;omega
  induction h with
  | zero h0 =>
    refine ⟨T.first.1,by rw [T.first.2];exact .refl,fun e=>h0 (hinj 0 p T.first.1 hp (by rw [T.first.2,e]))⟩
  | @step u v h1 h2 h3 ih =>
    obtain ⟨_,i2,i3⟩:=ih;refine ⟨h2.2.1,.step i2 (nxW_mem.2 ⟨h2.2.2,fun e=>h3 (hinj v p h2.2.1 hp (by omega))⟩),i3⟩
theorem TvE.av_to (T:TvE (nxF bs) bs.length k bl par ah pl) {p:Nat} (hp:p<k) (h0:bl p≠0) {b:Nat} (h:Reach (nxW (nxF bs) (bl p)) 0 b):∃ q,q<k∧bl q=b∧AvP (EdgeP (nxF bs) k bl) p q:=by
  induction h with
  | refl=>exact ⟨0,T.first.1,T.first.2,.zero fun e=>h0 (by rw [← e];exact T.first.2)⟩
  | @step x y hx hy ih =>
    obtain ⟨q,h1,h2,h3⟩:=ih;obtain ⟨hy1,hy2⟩:=nxW_mem.1 hy;have hyn:y<bs.length:=nxF_lt bs _ _ hy1;have hr:Reach (nxF bs) 0 y:=by
      have key:∀ z,Reach (nxW (nxF bs) (bl p)) 0 z→Reach (nxF bs) 0 z:=fun z hz=>by
        induction hz with
        | refl=>exact .refl
        | step _ hb ih=>exact .step ih (nxW_mem.1 hb).1
      exact .step (key x hx) hy1
    have hpl:=(T.reach y hyn).1 hr;rcases T.plc y hyn with h4 | ⟨r,h4,h5,h6⟩
    · omega
    · (refine ⟨r,h4,h6,.step h3 ⟨h1,h4,by rw [h6,h2];exact hy1⟩ fun e=>hy2 ?_⟩);rw [← h6,e]
theorem TvE.dm_iff (T:TvE (nxF bs) bs.length k bl par ah pl) (hn:0<bs.length) {p q:Nat} (hp:p<k) (hq:q<k):dmB bs (bl p) (bl q)=true↔¬ AvP (EdgeP (nxF bs) k bl) p q:=by
  have hinj:∀ x y,x<k→y<k→bl x=bl y→x=y:=fun x y hx hy e=>by
    have h1:=(T.blk x hx).2;have h2:=(T.blk y hy).2;rw [e] at h1;omega
  have hre:fromB bs 0 (-1) (bl q)=true:=by
    (rw [qz];unfold qv reachB);rw [decide_eq_true_iff,orderL_mem (nxF_lt bs) (by omega)];exact (T.reach _ (T.blk q hq).1).2 (by rw [(T.blk q hq).2];omega)
  unfold dmB;rw [hre,Bool.true_and,Bool.or_eq_true,decide_eq_true_iff];constructor
  · rintro (h | h) hav
    · exact av_self hav (hinj q p hq hp h.symm)
    · obtain ⟨_,h2,h3⟩:=T.av_of hp hav;rw [(from_iff hn h3 _).2 h2] at h;cases h
  · intro h
    by_cases e:bl p=bl q
    · exact .inl e
    · right
      by_cases h0:bl p=0
      · rw [h0,from_zero];rfl
      · cases hf:fromB bs 0 (bl p) (bl q)
        · rfl
        · obtain ⟨r,h1,h2,h3⟩:=T.av_to hp h0 ((from_iff hn h0 _).1 hf);rw [hinj r q h1 hq h2] at h3;exact absurd h3 h
theorem TvE.dm_place (T:TvE (nxF bs) bs.length k bl par ah pl) (hn:0<bs.length) {a b:Nat} (ha:a<bs.length) (hb:b<bs.length) (h:dmB bs a b=true):∃ p q,p<k∧q<k∧bl p=a∧bl q=b:=by
  (have hre:fromB bs 0 (-1) b=true:=by unfold dmB at h;rw [Bool.and_eq_true] at h;exact h.1);have hr:Reach (nxF bs) 0 b:=by
    (rw [qz] at hre;unfold qv reachB at hre);rw [decide_eq_true_iff,orderL_mem (nxF_lt bs) (by omega)] at hre;exact hre
  obtain ⟨q,hq,-,hbq⟩:∃ q,q<k∧pl b=(q:Int)∧bl q=b:=by
    have:=(T.reach b hb).1 hr;rcases T.plc b hb with h1 | h1
    · omega
    · exact h1
  rcases T.plc a ha with h1 | ⟨p,hp,-,hap⟩
  · exfalso;(have hna:¬ Reach (nxF bs) 0 a:=fun h2=>by have:=(T.reach a ha).1 h2;omega);(have ha0:a≠0:=fun e=>hna (by rw [e];exact .refl));(have hab:a≠b:=fun e=>hna (by rw [e];exact hr));have key:∀ z,Reach (nxF bs) 0 z→Reach (nxW (nxF bs) a) 0 z∧Reach (nxF bs) 0 z:=fun z hz=>by
      induction hz with
      | refl=>exact ⟨.refl,.refl⟩
      | @step x y hx hy ih =>
        have h3:Reach (nxF bs) 0 y:=.step ih.2 hy;exact ⟨.step ih.1 (nxW_mem.2 ⟨hy,fun e=>hna (by rw [show a=y by omega];exact h3)⟩),h3⟩
    unfold dmB at h;rw [hre,(from_iff hn ha0 b).2 (key b hr).1] at h;simp [hab] at h
  · exact ⟨p,q,hp,hq,hap,hbq⟩
def nearI (bl D:Nat→Nat) (pl:Nat→Int) (b:Nat):Int:=if pl b≤0 then -1 else (bl (D (pl b).toNat):Int)
theorem TvE.near (T:TvE (nxF bs) bs.length k bl par ah pl) (hn:0<bs.length) (S:EarlyP 1 k (EdgeP (nxF bs) k bl) par s) (N:NearP k par s D):NearB bs (nearI bl D pl) (fun b=>(pl b).toNat):=by
  have hre:∀ b,b<bs.length→(fromB bs 0 (-1) b=true↔0≤pl b):=fun b hb=>by
    (rw [qz];unfold qv reachB);rw [decide_eq_true_iff,orderL_mem (nxF_lt bs) (by omega)];exact T.reach b hb
  have hplc:∀ b,b<bs.length→0≤pl b→∃ q,q<k∧pl b=(q:Int)∧bl q=b:=fun b hb h=>by
    rcases T.plc b hb with h1 | h1
    · omega
    · exact h1
  have hinj:∀ x y,x<k→y<k→bl x=bl y→x=y:=fun x y hx hy e=>by
    have h1:=(T.blk x hx).2;have h2:=(T.blk y hy).2;rw [e] at h1;omega
  (have hp0:pl 0=0:=by have:=(T.blk 0 T.first.1).2;rw [T.first.2] at this;simpa using this);refine ⟨fun b hb h=>?_,fun b hb hr h0=>?_,fun a b ha hb h=>?_,fun a ha h=>?_,fun a b c h1 h2=>?_,fun b hb hr=>?_,fun a b ha hb h=>?_⟩
  · unfold nearI;rw [if_pos];rcases h with h | h
    · apply Classical.byContradiction;intro h2;rw [(hre b hb).2 (by omega)] at h;cases h
    · rw [h,hp0];omega
  · obtain ⟨q,hq,hpq,hbq⟩:=hplc b hb ((hre b hb).1 hr);have hq0:0<q:=by
      rcases Nat.eq_zero_or_pos q with h | h
      · exact absurd (by rw [← hbq,h];exact T.first.2) h0
      · exact h
    (have hlt:D q<q:=by have:=near_le T.tree S N q hq0 hq;have:=S.lt T.tree hq0 hq;omega);(have hv:nearI bl D pl b=(bl (D q):Int):=by unfold nearI;rw [if_neg (by omega),hpq];rfl);refine ⟨bl (D q),(T.blk _ (by omega)).1,hv,fun e=>?_,?_,fun c hc hcb h=>?_⟩
    · have:=hinj (D q) q (by omega) hq (by rw [e,hbq]);omega
    · rw [← hbq];exact (T.dm_iff hn (by omega) hq).2 (near_sound T.tree S N q hq0 hq)
    · obtain ⟨p,q',hp,hq',hcp,hbq'⟩:=T.dm_place hn hc hb h;rw [← hcp] at h ⊢;rw [← hbq] at h;have h2:=(T.dm_iff hn hp hq).1 h;exact (T.dm_iff hn hp (by omega)).2 (dom_near T.tree S N hq0 hq h2 fun e=>hcb (by rw [← hcp,e,hbq]))
  · obtain ⟨p,q,hp,hq,hap,hbq⟩:=T.dm_place hn ha hb h;rw [← hap,← hbq] at h ⊢;have h2:=dom_le T.tree hq ((T.dm_iff hn hp hq).1 h);rw [(T.blk p hp).2,(T.blk q hq).2];exact ⟨by simpa using h2,fun e=>by (have:p=q:=by simpa using e);rw [this]⟩
  · unfold dmB;rw [h];simp
  · (have hr2:fromB bs 0 (-1) c=true:=by unfold dmB at h2;rw [Bool.and_eq_true] at h2;exact h2.1);(have hr1:fromB bs 0 (-1) b=true:=by unfold dmB at h1;rw [Bool.and_eq_true] at h1;exact h1.1);have hlt:∀ x,fromB bs 0 (-1) x=true→x<bs.length:=fun x hx=>by
      (rw [qz] at hx;unfold qv reachB at hx);rw [decide_eq_true_iff] at hx;exact orderL_lt (nxF_lt bs) hx
    have hb:=hlt b hr1;have hc:=hlt c hr2
    by_cases ha:a<bs.length
    · obtain ⟨p,q,hp,hq,hap,hbq⟩:=T.dm_place hn ha hb h1;obtain ⟨q',r,hq',hr,hbq',hcr⟩:=T.dm_place hn hb hc h2;rw [← hap,← hbq] at h1;rw [← hbq,← hcr] at h2;rw [← hap,← hcr];exact (T.dm_iff hn hp hr).2 (dom_trans ((T.dm_iff hn hp hq).1 h1) ((T.dm_iff hn hq hr).1 h2))
    · exfalso;unfold dmB at h1;rw [hr1,Bool.true_and,Bool.or_eq_true,decide_eq_true_iff] at h1;rcases h1 with h1 | h1
      · omega
      · (have ha0:a≠0:=by omega);have key:∀ z,Reach (nxF bs) 0 z→Reach (nxW (nxF bs) a) 0 z:=fun z hz=>by
          induction hz with
          | refl=>exact .refl
          | @step x y hx hy ih=>exact .step ih (nxW_mem.2 ⟨hy,fun e=>by have:=nxF_lt bs _ _ hy;omega⟩)
        have hrb:Reach (nxF bs) 0 b:=(T.reach b hb).2 ((hre b hb).1 hr1);rw [(from_iff hn ha0 b).2 (key b hrb)] at h1;cases h1
  · obtain ⟨q,hq,hpq,hbq⟩:=hplc b hb ((hre b hb).1 hr)
    have h:=(T.dm_iff hn T.first.1 hq).2 (fun hav=>by
      have key:∀ z,AvP (EdgeP (nxF bs) k bl) 0 z→False:=fun z hz=>by
        induction hz with
        | zero h=>exact h rfl
        | step _ _ _ ih=>exact ih
      exact key q hav)
    rwa [T.first.2,hbq] at h
  · obtain ⟨p,q,hp,hq,hap,hbq⟩:=T.dm_place hn ha hb h;rw [hre a ha,← hap,(T.blk p hp).2];omega
theorem NearB.is_near {N:Nat→Int} {ord:Nat→Nat} (h:NearB bs N ord) {b:Nat} (hb:b<bs.length):N b=nearD bs b:=by
  have hall:∀ a,isNear bs b a=true↔(a≠b∧dmB bs a b=true∧∀ c,c<bs.length→c≠b→dmB bs c b=true→dmB bs c a=true):=fun a=>by
    unfold isNear;simp only [Bool.and_eq_true,decide_eq_true_iff,List.all_eq_true,List.mem_range,Bool.or_eq_true,Bool.not_eq_true',and_assoc];refine and_congr_right fun _=>and_congr_right fun _=>⟨fun h c hc hcb hd=>?_,fun h c hc=>?_⟩
    · rcases h c hc with (h | h) | h
      · exact absurd h hcb
      · rw [hd] at h;cases h
      · exact h
    · by_cases hcb:c=b
      · exact .inl (.inl hcb)
      · cases hd:dmB bs c b
        · exact .inl (.inr rfl)
        · exact .inr (h c hc hcb hd)
  by_cases hr:fromB bs 0 (-1) b=true∧b≠0
  · obtain ⟨a,ha,he,hab,hda,hall2⟩:=h.some b hb hr.1 hr.2;rw [he];refine (nearK_of ((hall a).2 ⟨hab,hda,hall2⟩) (fun c hc hcn=>?_) bs.length ha (Nat.le_refl _)).symm;obtain ⟨c1,c2,c3⟩:=(hall c).1 hcn;have h1:=hall2 c hc c1 c2;have h2:=c3 a ha hab hda;have h3:=h.ord c a hc ha h1;have h4:=h.ord a c ha hc h2;exact h3.2 (by omega)
  · have hno:fromB bs 0 (-1) b=false∨b=0:=by
      cases hf:fromB bs 0 (-1) b
      · exact .inl rfl
      · exact .inr (Classical.byContradiction fun h0=>hr ⟨hf,h0⟩)
    rw [h.none b hb hno];refine (nearK_none bs.length fun a ha=>?_).symm;cases hi:isNear bs b a
    · rfl
    · obtain ⟨h1,h2,-⟩:=(hall a).1 hi;(have hrb:fromB bs 0 (-1) b=true:=by unfold dmB at h2;rw [Bool.and_eq_true] at h2;exact h2.1);rcases hno with h3 | h3
      · rw [h3] at hrb;cases hrb
      · subst h3
        have hra:dmB bs 0 a=true:=h.first a ha (by
          -- what dominates is reached
          have:=h2;cases hfa:fromB bs 0 (-1) a
          · exfalso;have h4:=h.ord a 0 ha hb h2
            -- block 0 dominates none that isn't reached: a can't dominate 0
            have ha0:a≠0:=h1;unfold dmB at h2;rw [hrb,(from_iff (by omega) ha0 0).2 .refl] at h2;simp [ha0] at h2
          · rfl)
        have h3:=h.ord 0 a hb ha hra;have h4:=h.ord a 0 ha hb h2;exact absurd (h4.2 (by omega)) h1
def upB (bs:List BlkD) (b:Nat) (y:Int) (a:Nat):Bool:=dmB bs a b && (decide (y<0) || !dmB bs a y.toNat)
theorem NearB.up_step {N:Nat→Int} {ord:Nat→Nat} (h:NearB bs N ord) {a b q:Nat} (ha:a<bs.length) (hb:b<bs.length) (hq:q<bs.length) (hd:dmB bs q b=true):(if a=q then true else upB bs b q a)=upB bs b (N q) a:=by
  have hrq:=h.reach q b hq hb hd
  by_cases hq0:q=0
  · rw [h.none q hq (.inr hq0)];unfold upB
    by_cases e:a=q
    · rw [if_pos e,e,hd];simp
    · rw [if_neg e];have hno:dmB bs a q=false:=by
        cases hdq:dmB bs a q
        · rfl
        · have h1:=h.first a ha (h.reach a q ha hq hdq);have h2:=h.ord 0 a (by omega) ha h1;have h3:=h.ord a q ha hq hdq;rw [hq0] at h3;exact absurd (by rw [hq0];exact h3.2 (by omega)) e
      simp [hno]
  · obtain ⟨p,hp,he,hpq,hdp,hall⟩:=h.some q hq hrq hq0;rw [he];unfold upB;have h0:decide (((p:Nat):Int)<0)=false:=decide_eq_false (by omega);have h0':decide (((q:Nat):Int)<0)=false:=decide_eq_false (by omega);rw [h0,h0',Int.toNat_natCast,Int.toNat_natCast]
    by_cases e:a=q
    · rw [if_pos e,e,hd];have hno:dmB bs q p=false:=by
        cases hdq:dmB bs q p
        · rfl
        · have h1:=h.ord q p hq hp hdq;have h2:=h.ord p q hp hq hdp;exact absurd (h2.2 (by omega)) hpq
      simp [hno]
    · rw [if_neg e];have:dmB bs a q=dmB bs a p:=by
        cases hdq:dmB bs a q
        · cases hdp2:dmB bs a p
          · rfl
          · rw [h.trans a p q hdp2 hdp] at hdq;cases hdq
        · exact (hall a ha e hdq).symm
      rw [this]
theorem NearB.up_less {N:Nat→Int} {ord:Nat→Nat} (h:NearB bs N ord) {b q:Nat} (hb:b<bs.length) (hq:q<bs.length) (hd:dmB bs q b=true):N q=-1∨∃ p,p<bs.length∧N q=(p:Int)∧dmB bs p b=true∧ord p<ord q:=by
  by_cases hq0:q=0
  · exact .inl (h.none q hq (.inr hq0))
  · obtain ⟨p,hp,he,hpq,hdp,hall⟩:=h.some q hq (h.reach q b hq hb hd) hq0;refine .inr ⟨p,hp,he,h.trans p q b hdp hd,?_⟩;have h2:=h.ord p q hp hq hdp;have:ord p≠ord q:=fun e=>hpq (h2.2 e);omega
end Go.Proofs.YtfoggldjjnabcaaGreatDoor

namespace Go.Proofs.YtfoggldjjnabcaaGreatDoor
open Go.ChangeShapes Go.WideShapes Go.RowKit Go.Deep
set_option linter.unusedVariables false
def Turned (l l':List Nat) (i:Nat):Prop:=l'.length=l.length∧∀ p,p<l.length→l'[p]?=if p<i∨l.length - 1 - i<p then l[l.length - 1 - p]? else l[p]?
theorem Turned.zero (l:List Nat):Turned l l 0:=⟨rfl,fun p hp=>by rw [if_neg (by omega)]⟩
theorem Turned.all {l l':List Nat} {i:Nat} (h:Turned l l' i) (hi:l.length≤2 * i+1):l'=l.reverse:=by
  apply List.ext_getElem?;intro p
  by_cases hp:p<l.length
  · rw [h.2 p hp,List.getElem?_reverse hp]
    split
    · rfl
    · congr 1;omega
  · rw [List.getElem?_eq_none (by rw [h.1];omega),List.getElem?_eq_none (by simp;omega)]
theorem Turned.step {l l':List Nat} {i x y:Nat} (h:Turned l l' i) (hi:i<l.length - 1 - i) (hx:l'[i]?=some x) (hy:l'[l.length - 1 - i]?=some y):Turned l ((l'.set i y).set (l.length - 1 - i) x) (i+1):=by
  have e1:=h.2 i (by omega);have e2:=h.2 (l.length - 1 - i) (by omega);rw [if_neg (by omega),hx] at e1;rw [if_neg (by omega),hy] at e2;refine ⟨by simp [h.1],fun p hp=>?_⟩;rw [List.getElem?_set,List.getElem?_set];have hl:=h.1
  by_cases c1:l.length - 1 - i=p
  · subst c1;rw [if_pos rfl,if_pos (by simp;omega),if_pos (by omega),show l.length - 1 - (l.length - 1 - i)=i by omega,← e1]
  · rw [if_neg c1]
    by_cases c2:i=p
    · subst c2;rw [if_pos rfl,if_pos (by omega),if_pos (by omega),← e2]
    · rw [if_neg c2,h.2 p hp]
      by_cases c3:p<i∨l.length - 1 - i<p
      · rw [if_pos c3,if_pos (by omega)]
      · rw [if_neg c3,if_neg (by omega)]
theorem grown_refl (w:World) (row:Option Nat):w.grownBy w row:=⟨rfl,rfl,rfl,Nat.le_refl _,fun _ _ _=>rfl⟩
theorem grown_trans {a b c:World} {row:Option Nat} (h:a.grownBy b row) (k:b.grownBy c row):a.grownBy c row :=
  ⟨k.os.trans h.os,k.tape.trans h.tape,k.output.trans h.output,Nat.le_trans h.size k.size,fun i h1 h2=>(k.block i (Nat.lt_of_lt_of_le h1 h.size) h2).trans (h.block i h1 h2)⟩
theorem grown_drew (w:World) (row:Option Nat):w.grownBy w.drew row:=⟨rfl,rfl,rfl,Nat.le_refl _,fun _ _ _=>rfl⟩
theorem own_cell {w:World} {base n cap g:Nat} {l:List Nat} {i x:Nat} (h:w.ownsRow base 3 1 (.slice (some ⟨g,0,none⟩) n cap) n ((zs l).map (Value.int .i64))) (hi:l[i]?=some x):w.cell? ⟨g,i,none⟩=some (.int .i64 x):=by
  have:=h.cells (g:=g) rfl i (.int .i64 x) (by simp [zs,hi])
  rwa [show (⟨g,0,none⟩:Addr).add i=⟨g,i,none⟩ by unfold Addr.add;split <;> simp_all] at this
theorem zs_set (l:List Nat) (i x:Nat):((zs l).map (Value.int .i64)).set i (.int .i64 x)=(zs (l.set i x)).map (Value.int .i64):=by
  simp only [zs,List.map_set]
theorem ownsRow_drew {w:World} {base n size:Nat} {e:TypeId} {v:Value} {xs:List Value} (h:w.ownsRow base e size v n xs):w.drew.ownsRow base e size v n xs:=h
set_option maxRecDepth 100000 in
set_option maxHeartbeats 4000000 in
theorem reverse_any (base:Nat) (l:List Nat) (v:Value) (w:World) (h:w.ownsRow base 3 1 v l.length ((zs l).map (Value.int .i64))) (hl:l.length≤1000000) :
    Calls Tryz.prog 99 #[v] w fun e w'=>e=.returned (.tuple #[])∧w'.ownsRow base 3 1 v l.length ((zs l.reverse).map (Value.int .i64))∧w.grownBy w' v.ownBlock:=by
  have h0:=h;rcases h.2 with ⟨hv,hn⟩ | ⟨g,cap,cur,hv,-⟩
  · subst hv;obtain rfl:l=[]:=List.length_eq_zero_iff.1 hn;clear h h0 hl hn;(go_enter Tryz.func99,Tryz.ntmps99);go_wp2_with fail
    go_loopw [2,3] (fun s2 s3 wr=>s2=.int .i64 0∧s3=.int .i64 (-1)∧wr=w) (fun _ _ _=>0)
    case atStart=>exact ⟨rfl,rfl,rfl⟩
    case round =>
      obtain ⟨rfl,rfl,rfl⟩:=hrel;(go_wp2_with fail);(go_end0);exact ⟨rfl,World.ownsRow_nil _ _ _ _,grown_refl _ _⟩
  · subst hv;have HO:=Lib.hid h;clear h h0;(go_enter Tryz.func99,Tryz.ntmps99);go_wp2_with fail
    go_loopw [2,3] (fun s2 s3 wr=>∃ (i:Nat) (jz:Int) (l':List Nat),s2=.int .i64 i∧s3=.int .i64 jz∧jz=(l.length:Int) - 1 - i∧i≤l.length∧Turned l l' i∧wr.ownsRow base 3 1 (.slice (some ⟨g,0,none⟩) l.length cap) l.length ((zs l').map (Value.int .i64))∧w.grownBy wr (some g)) (fun s2 _ _=>l.length - (intOf s2).toNat)
    case atStart=>exact ⟨0,_,l,rfl,rfl,by omega,Nat.zero_le _,Turned.zero l,HO.out,grown_refl _ _⟩
    case round =>
      obtain ⟨i,jz,l',rfl,rfl,hjz,hi,ht,hown,hg⟩:=hrel;have HJ:=Lib.hid hjz;have HT:=Lib.hid ht;have HOW:=Lib.hid hown;have HG:=Lib.hid hg;clear hjz ht hown hg HO
      by_cases hlt:(i:Int)<jz
      · obtain ⟨j,rfl⟩:∃ j:Nat,jz=j:=⟨jz.toNat,by omega⟩;(have hij:i<j:=by omega);(have hjl:j<l.length:=by have:=HJ.out;omega);(have HJN:Hid (j=l.length - 1 - i):=Lib.hid (by have:=HJ.out;omega));(obtain ⟨x,hx⟩:∃ x,l'[i]?=some x:=⟨_,List.getElem?_eq_getElem (by rw [HT.out.1];omega)⟩);(obtain ⟨y,hy⟩:∃ y,l'[j]?=some y:=⟨_,List.getElem?_eq_getElem (by rw [HT.out.1];omega)⟩);have ci:wr.cell? ⟨g,i,none⟩=some (.int .i64 x):=own_cell HOW.out hx;have cj:wr.cell? ⟨g,j,none⟩=some (.int .i64 y):=own_cell HOW.out hy;have fi:=HOW.out.frozenAt i
        have fj:=HOW.out.frozenAt j;have HX:=Lib.hid hx;have HY:=Lib.hid hy;clear hx hy;(go_wp2_with fail);(go_region);all_goals
          (go_wp2_with fail);have h1:=HOW.out.stored i (.int .i64 y);have h2:=h1.1.stored j (.int .i64 x);rw [zs_set,zs_set] at h2;have h3:Turned l ((l'.set i y).set j x) (i+1):=by
            have:=HT.out.step (by have:=HJN.out;omega) HX.out (by rw [← HJN.out];exact HY.out)
            rwa [← HJN.out] at this
          have HS:=Lib.hid (ownsRow_drew h2.1);have HGR:=Lib.hid (grown_trans HG.out (grown_trans (grown_trans h1.2 h2.2) (grown_drew _ _)))
          go_roundw
          case rel=>exact ⟨i+1,(j:Int) - 1,(l'.set i y).set j x,by go_num,rfl,by have:=HJ.out;push_cast;omega,by omega,h3,HS.out,HGR.out⟩
          case measure=>simp [intOf];omega
      · have hnot:¬ ((i:Int)<jz):=hlt;(have hlen:Hid (l.length≤2 * i+1):=Lib.hid (by have:=HJ.out;omega));(go_wp2_with fail);(go_end0);exact ⟨rfl,by rw [← HT.out.all hlen.out];exact HOW.out,HG.out⟩
theorem orderF_len (bs:List BlkD):(orderF bs).length≤bs.length:=orderL_len (nxF_lt bs)
theorem orderF_lt {bs:List BlkD} {x:Nat} (h:x∈orderF bs):x<bs.length:=orderL_lt (nxF_lt bs) h
theorem doneL_len (nx:Nat→List Nat) (n:Nat):(orderL nx n).length=(doneL nx n).length:=by simp [orderL]
theorem below_grown {n:Nat} {w w':World} {row:Option Nat} (h:w.grownBy w' row) (hr:∀ k,row=some k→n≤k) (hn:n≤w.heap.size):Below n w w' :=
  ⟨h.os,h.tape,h.output,h.size,fun k hk=>h.block k (by omega) (fun e=>by have:=hr k e.symm;omega)⟩
def ToldO_ (bs:List BlkD) (w:World) (e:Ending) (w':World):Prop :=
  (∃ v,e=.returned v∧w'.ownsRow w.heap.size 3 1 v (orderF bs).length ((zs (orderF bs)).map (Value.int .i64)))∧Below w.heap.size w w'
set_option maxRecDepth 100000 in
set_option maxHeartbeats 4000000 in
theorem order_any (f:FunD) (v:Value) (w:World) (hv:VFun w v f) (hn:f.blocks.length≤1000) :
    Calls Tryz.prog 61 #[v] w (ToldO_ f.blocks w):=by
  have hv0:=hv;obtain ⟨Ar,cr,A,c,rfl,hr,hb,hp64,hr64⟩:=hv;clear hr hb hp64 hr64;(go_enter Tryz.func61,Tryz.ntmps61);(go_upto_region 1 with fail);obtain ⟨w1,hw1,hs1,hk1,hbel1,hc1,-⟩:=named w #[.int .i64 f.params,.int .i64 f.result,.slice Ar f.regs.length cr,.slice A f.blocks.length c] 30;rw [← hw1];have c0:=hc1 0 _ rfl;have c1:=hc1 1 _ rfl
  have c2:=hc1 2 _ rfl;have c3:=hc1 3 _ rfl;have HB1:=Lib.hid hbel1;have HN:=Lib.hid (next_any f _ w1 (VFun.keep hk1 hv0) (by omega));clear hw1 hs1 hbel1 hc1 hv0 hk1;(go_wp2_with fail);refine HN.out.mono ?_;rintro e w2 ⟨⟨V,G,rfl,hG,hg⟩,hb2⟩;have HB2:Hid (Below w.heap.size w w2):=Lib.hid (HB1.out.trans (hb2.mono HB1.out.size))
  have HK:=Lib.hid (backwards_any G (G+2) f.blocks.length V (nxF f.blocks) w2 hg hn (nxF_lt f.blocks));have HG:Hid (w.heap.size≤G):=Lib.hid (Nat.le_trans HB1.out.size hG);clear c0 c1 c2 c3 hG hg hb2 HN;(go_wp2_with fail);refine HK.out.mono ?_;rintro e w3 ⟨⟨vd,rfl,hown⟩,hb3⟩;have HB3:Hid (Below w.heap.size w w3):=Lib.hid (HB2.out.trans (hb3.below HB2.out.size HG.out));have hown':=own_base hown (base':=w.heap.size) HB2.out.size;have HR:=Lib.hid (reverse_any w.heap.size (doneL (nxF f.blocks) f.blocks.length) vd w3 hown' (by have:=orderF_len f.blocks;rw [← doneL_len];unfold orderF at this;omega))
  have HO:=Lib.hid hown';clear hown hown' hb3 HK;(go_wp2_with fail);refine HR.out.mono ?_;rintro e w4 ⟨rfl,hown4,hg4⟩;have HO4:=Lib.hid hown4;have HB4:Hid (Below w.heap.size w w4):=Lib.hid (HB3.out.trans (below_grown hg4 (fun k hk=>(HO.out.lt k hk).1) HB3.out.size));clear hown4 hg4 HR;go_wp2_with fail
  (go_ret);exact ⟨⟨vd,rfl,by have:=HO4.out;rw [← doneL_len] at this;exact this⟩,HB4.out⟩
def ToldR_ (bs:List BlkD) (w:World) (e:Ending) (w':World):Prop :=
  (∃ H,e=.returned (.slice (some ⟨H,0,none⟩) bs.length bs.length)∧w.heap.size≤H∧w'.rowIs H 4 bs.length (fun x=>.bool (qv bs x)))∧Below w.heap.size w w'
def tookB (l:List Nat) (k x:Nat):Bool:=decide (x∈l.take k)
theorem takesB_succ {l:List Nat} {k q:Nat} (h:l[k]?=some q) (x:Nat):tookB l (k+1) x=if x=q then true else tookB l k x:=by
  unfold tookB;rw [qD h]
  by_cases e:x=q
  · simp [e]
  · simp [e]
theorem takesB_all {bs:List BlkD} {k:Nat} (h:(orderF bs).length≤k) (x:Nat):tookB (orderF bs) k x=qv bs x:=by
  unfold tookB qv reachB orderF at *;rw [List.take_of_length_le h]
end Go.Proofs.YtfoggldjjnabcaaGreatDoor
