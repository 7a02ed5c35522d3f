/- Which block dominates which, and the nearest: places told as blocks, in mathematics. No condition. -/
import Derived.Test.YtfoggldjjnabcaaDmTJ
import Derived.Test.YtfoggldjjnabcaaGrWmJ
import Derived.Test.YtfoggldjjnabcaaGrYJ
import Derived.Test.YtfoggldjjnabcaaGrNmJ
namespace Go.Proofs.Ytfoggldjjnabcaa
open Go.ChangeShapes Go.WideShapes Go.RowKit Go.Deep
set_option linter.unusedVariables false
def dmB (bs:List BlkD) (a b:Nat):Bool:=fromB bs 0 (-1) b && (decide (a=b) || !fromB bs 0 a b)
theorem qO (bs:List BlkD) (x:Nat):fromB bs 0 (-1) x=qE bs x:=by
  unfold fromB
  by_cases h:0<bs.length
  · rw [if_pos ⟨by omega,by omega,by omega⟩];exact fromN_reachB (qe bs) h x
  · rw [if_neg (by omega)];unfold qE reachB;rw [eq_comm,decide_eq_false_iff_not];intro hx;have:=orderL_lt (qe bs) hx;omega
theorem qy {bs:List BlkD} (hn:0<bs.length) {a:Nat} (ha:a≠0) (x:Nat):fromB bs 0 a x=true↔Reach (nxW (nxF bs) a) 0 x:=by
  unfold fromB;rw [if_pos ⟨by omega,by omega,by omega⟩];exact fromN_iff (qe bs) hn x
theorem from_zero (bs:List BlkD) (x:Nat):fromB bs 0 (0:Nat) x=false:=by unfold fromB;rw [if_neg (by omega)]
def isNear (bs:List BlkD) (b a:Nat):Bool:=decide (a≠b) && dmB bs a b && (List.range bs.length).all fun c=>decide (c=b) || !dmB bs c b || dmB bs c a
def nearK (bs:List BlkD) (b:Nat):Nat→Int
  | 0=>-1
  | a+1=>if isNear bs b a=true then (a:Int) else nearK bs b a
def nearD (bs:List BlkD) (b:Nat):Int:=nearK bs b bs.length
theorem nearK_none {bs:List BlkD} {b:Nat}:∀ k,(∀ a,a<k→isNear bs b a=false)→nearK bs b k=-1
  | 0,_=>rfl
  | k+1,h=>by unfold nearK;rw [if_neg (by rw [h k (by omega)];simp)];exact nearK_none k fun a ha=>h a (by omega)
theorem nearK_of {bs:List BlkD} {b a:Nat} (ha:isNear bs b a=true) (hu:∀ c,c<bs.length→isNear bs b c=true→c=a):∀ k,a<k→k≤bs.length→nearK bs b k=(a:Int)
  | 0,h,_=>by omega
  | k+1,h,hk=>by
    unfold nearK
    by_cases e:isNear bs b k=true
    · rw [if_pos e,hu k (by omega) e]
    · rw [if_neg e];have:k≠a:=fun h=>e (h ▸ ha);exact nearK_of ha hu k (by omega) (by omega)
structure NearB (bs:List BlkD) (N:Nat→Int) (ord:Nat→Nat):Prop where
  none:∀ b,b<bs.length→(fromB bs 0 (-1) b=false∨b=0)→N b=-1
  some:∀ b,b<bs.length→fromB bs 0 (-1) b=true→b≠0→∃ a,a<bs.length∧N b=(a:Int)∧a≠b∧dmB bs a b=true∧∀ c,c<bs.length→c≠b→dmB bs c b=true→dmB bs c a=true
  ord:∀ a b,a<bs.length→b<bs.length→dmB bs a b=true→ord a≤ord b∧(ord a=ord b→a=b)
  self:∀ a,a<bs.length→fromB bs 0 (-1) a=true→dmB bs a a=true
  trans:∀ a b c,dmB bs a b=true→dmB bs b c=true→dmB bs a c=true
  first:∀ b,b<bs.length→fromB bs 0 (-1) b=true→dmB bs 0 b=true
  reach:∀ a b,a<bs.length→b<bs.length→dmB bs a b=true→fromB bs 0 (-1) a=true
variable {bs:List BlkD} {k:Nat} {bl par s D:Nat→Nat} {ah:Nat→List Nat} {pl:Nat→Int}
theorem TvE.av_of (T:TvE (nxF bs) bs.length k bl par ah pl) {p q:Nat} (hp:p<k) (h:AvP (EdgeP (nxF bs) k bl) p q):q<k∧Reach (nxW (nxF bs) (bl p)) 0 (bl q)∧bl p≠0:=by
  have hinj:∀ x y,x<k→y<k→bl x=bl y→x=y:=fun x y hx hy e=>by
    have h1:=(T.blk x hx).2;have h2:=(T.blk y hy).2;rw [e] at h1;omega
  induction h with
  | zero h0 =>
    refine ⟨T.first.1,by rw [T.first.2];exact .refl,fun e=>h0 (hinj 0 p T.first.1 hp (by rw [T.first.2,e]))⟩
  | @step u v h1 h2 h3 ih =>
    obtain ⟨_,i2,i3⟩:=ih;refine ⟨h2.2.1,.step i2 (nxW_mem.2 ⟨h2.2.2,fun e=>h3 (hinj v p h2.2.1 hp (by omega))⟩),i3⟩
theorem TvE.av_to (T:TvE (nxF bs) bs.length k bl par ah pl) {p:Nat} (hp:p<k) (h0:bl p≠0) {b:Nat} (h:Reach (nxW (nxF bs) (bl p)) 0 b):∃ q,q<k∧bl q=b∧AvP (EdgeP (nxF bs) k bl) p q:=by
  induction h with
  | refl=>exact ⟨0,T.first.1,T.first.2,.zero fun e=>h0 (by rw [← e];exact T.first.2)⟩
  | @step x y hx hy ih =>
    obtain ⟨q,h1,h2,h3⟩:=ih;obtain ⟨hy1,hy2⟩:=nxW_mem.1 hy;have hyn:y<bs.length:=qe bs _ _ hy1;have hr:Reach (nxF bs) 0 y:=by
      have key:∀ z,Reach (nxW (nxF bs) (bl p)) 0 z→Reach (nxF bs) 0 z:=fun z hz=>by
        induction hz with
        | refl=>exact .refl
        | step _ hb ih=>exact .step ih (nxW_mem.1 hb).1
      exact .step (key x hx) hy1
    have hpl:=(T.reach y hyn).1 hr;rcases T.plc y hyn with h4 | ⟨r,h4,h5,h6⟩
    · omega
    · (refine ⟨r,h4,h6,.step h3 ⟨h1,h4,by rw [h6,h2];exact hy1⟩ fun e=>hy2 ?_⟩);rw [← h6,e]
theorem TvE.dm_iff (T:TvE (nxF bs) bs.length k bl par ah pl) (hn:0<bs.length) {p q:Nat} (hp:p<k) (hq:q<k):dmB bs (bl p) (bl q)=true↔¬ AvP (EdgeP (nxF bs) k bl) p q:=by
  have hinj:∀ x y,x<k→y<k→bl x=bl y→x=y:=fun x y hx hy e=>by
    have h1:=(T.blk x hx).2;have h2:=(T.blk y hy).2;rw [e] at h1;omega
  have hre:fromB bs 0 (-1) (bl q)=true:=by
    (rw [qO];unfold qE reachB);rw [decide_eq_true_iff,orderL_mem (qe bs) (by omega)];exact (T.reach _ (T.blk q hq).1).2 (by rw [(T.blk q hq).2];omega)
  unfold dmB;rw [hre,Bool.true_and,Bool.or_eq_true,decide_eq_true_iff];constructor
  · rintro (h | h) hav
    · exact av_self hav (hinj q p hq hp h.symm)
    · obtain ⟨_,h2,h3⟩:=T.av_of hp hav;rw [(qy hn h3 _).2 h2] at h;cases h
  · intro h
    by_cases e:bl p=bl q
    · exact .inl e
    · right
      by_cases h0:bl p=0
      · rw [h0,from_zero];rfl
      · cases hf:fromB bs 0 (bl p) (bl q)
        · rfl
        · obtain ⟨r,h1,h2,h3⟩:=T.av_to hp h0 ((qy hn h0 _).1 hf);rw [hinj r q h1 hq h2] at h3;exact absurd h3 h
theorem TvE.dm_place (T:TvE (nxF bs) bs.length k bl par ah pl) (hn:0<bs.length) {a b:Nat} (ha:a<bs.length) (hb:b<bs.length) (h:dmB bs a b=true):∃ p q,p<k∧q<k∧bl p=a∧bl q=b:=by
  (have hre:fromB bs 0 (-1) b=true:=by unfold dmB at h;rw [Bool.and_eq_true] at h;exact h.1);have hr:Reach (nxF bs) 0 b:=by
    (rw [qO] at hre;unfold qE reachB at hre);rw [decide_eq_true_iff,orderL_mem (qe bs) (by omega)] at hre;exact hre
  obtain ⟨q,hq,-,hbq⟩:∃ q,q<k∧pl b=(q:Int)∧bl q=b:=by
    have:=(T.reach b hb).1 hr;rcases T.plc b hb with h1 | h1
    · omega
    · exact h1
  rcases T.plc a ha with h1 | ⟨p,hp,-,hap⟩
  · exfalso;(have hna:¬ Reach (nxF bs) 0 a:=fun h2=>by have:=(T.reach a ha).1 h2;omega);(have ha0:a≠0:=fun e=>hna (by rw [e];exact .refl));(have hab:a≠b:=fun e=>hna (by rw [e];exact hr));have key:∀ z,Reach (nxF bs) 0 z→Reach (nxW (nxF bs) a) 0 z∧Reach (nxF bs) 0 z:=fun z hz=>by
      induction hz with
      | refl=>exact ⟨.refl,.refl⟩
      | @step x y hx hy ih =>
        have h3:Reach (nxF bs) 0 y:=.step ih.2 hy;exact ⟨.step ih.1 (nxW_mem.2 ⟨hy,fun e=>hna (by rw [show a=y by omega];exact h3)⟩),h3⟩
    unfold dmB at h;rw [hre,(qy hn ha0 b).2 (key b hr).1] at h;simp [hab] at h
  · exact ⟨p,q,hp,hq,hap,hbq⟩
def nearI (bl D:Nat→Nat) (pl:Nat→Int) (b:Nat):Int:=if pl b≤0 then -1 else (bl (D (pl b).toNat):Int)
theorem TvE.near (T:TvE (nxF bs) bs.length k bl par ah pl) (hn:0<bs.length) (S:EarlyP 1 k (EdgeP (nxF bs) k bl) par s) (N:NearP k par s D):NearB bs (nearI bl D pl) (fun b=>(pl b).toNat):=by
  have hre:∀ b,b<bs.length→(fromB bs 0 (-1) b=true↔0≤pl b):=fun b hb=>by
    (rw [qO];unfold qE reachB);rw [decide_eq_true_iff,orderL_mem (qe bs) (by omega)];exact T.reach b hb
  have hplc:∀ b,b<bs.length→0≤pl b→∃ q,q<k∧pl b=(q:Int)∧bl q=b:=fun b hb h=>by
    rcases T.plc b hb with h1 | h1
    · omega
    · exact h1
  have hinj:∀ x y,x<k→y<k→bl x=bl y→x=y:=fun x y hx hy e=>by
    have h1:=(T.blk x hx).2;have h2:=(T.blk y hy).2;rw [e] at h1;omega
  (have hp0:pl 0=0:=by have:=(T.blk 0 T.first.1).2;rw [T.first.2] at this;simpa using this);refine ⟨fun b hb h=>?_,fun b hb hr h0=>?_,fun a b ha hb h=>?_,fun a ha h=>?_,fun a b c h1 h2=>?_,fun b hb hr=>?_,fun a b ha hb h=>?_⟩
  · unfold nearI;rw [if_pos];rcases h with h | h
    · apply Classical.byContradiction;intro h2;rw [(hre b hb).2 (by omega)] at h;cases h
    · rw [h,hp0];omega
  · obtain ⟨q,hq,hpq,hbq⟩:=hplc b hb ((hre b hb).1 hr);have hq0:0<q:=by
      rcases Nat.eq_zero_or_pos q with h | h
      · exact absurd (by rw [← hbq,h];exact T.first.2) h0
      · exact h
    (have hlt:D q<q:=by have:=near_le T.tree S N q hq0 hq;have:=S.lt T.tree hq0 hq;omega);(have hv:nearI bl D pl b=(bl (D q):Int):=by unfold nearI;rw [if_neg (by omega),hpq];rfl);refine ⟨bl (D q),(T.blk _ (by omega)).1,hv,fun e=>?_,?_,fun c hc hcb h=>?_⟩
    · have:=hinj (D q) q (by omega) hq (by rw [e,hbq]);omega
    · rw [← hbq];exact (T.dm_iff hn (by omega) hq).2 (near_sound T.tree S N q hq0 hq)
    · obtain ⟨p,q',hp,hq',hcp,hbq'⟩:=T.dm_place hn hc hb h;rw [← hcp] at h ⊢;rw [← hbq] at h;have h2:=(T.dm_iff hn hp hq).1 h;exact (T.dm_iff hn hp (by omega)).2 (dom_near T.tree S N hq0 hq h2 fun e=>hcb (by rw [← hcp,e,hbq]))
  · obtain ⟨p,q,hp,hq,hap,hbq⟩:=T.dm_place hn ha hb h;rw [← hap,← hbq] at h ⊢;have h2:=dom_le T.tree hq ((T.dm_iff hn hp hq).1 h);rw [(T.blk p hp).2,(T.blk q hq).2];exact ⟨by simpa using h2,fun e=>by (have:p=q:=by simpa using e);rw [this]⟩
  · unfold dmB;rw [h];simp
  · (have hr2:fromB bs 0 (-1) c=true:=by unfold dmB at h2;rw [Bool.and_eq_true] at h2;exact h2.1);(have hr1:fromB bs 0 (-1) b=true:=by unfold dmB at h1;rw [Bool.and_eq_true] at h1;exact h1.1);have hlt:∀ x,fromB bs 0 (-1) x=true→x<bs.length:=fun x hx=>by
      (rw [qO] at hx;unfold qE reachB at hx);rw [decide_eq_true_iff] at hx;exact orderL_lt (qe bs) hx
    have hb:=hlt b hr1;have hc:=hlt c hr2
    by_cases ha:a<bs.length
    · obtain ⟨p,q,hp,hq,hap,hbq⟩:=T.dm_place hn ha hb h1;obtain ⟨q',r,hq',hr,hbq',hcr⟩:=T.dm_place hn hb hc h2;rw [← hap,← hbq] at h1;rw [← hbq,← hcr] at h2;rw [← hap,← hcr];exact (T.dm_iff hn hp hr).2 (dom_trans ((T.dm_iff hn hp hq).1 h1) ((T.dm_iff hn hq hr).1 h2))
    · exfalso;unfold dmB at h1;rw [hr1,Bool.true_and,Bool.or_eq_true,decide_eq_true_iff] at h1;rcases h1 with h1 | h1
      · omega
      · (have ha0:a≠0:=by omega);have key:∀ z,Reach (nxF bs) 0 z→Reach (nxW (nxF bs) a) 0 z:=fun z hz=>by
          induction hz with
          | refl=>exact .refl
          | @step x y hx hy ih=>exact .step ih (nxW_mem.2 ⟨hy,fun e=>by have:=qe bs _ _ hy;omega⟩)
        have hrb:Reach (nxF bs) 0 b:=(T.reach b hb).2 ((hre b hb).1 hr1);rw [(qy hn ha0 b).2 (key b hrb)] at h1;cases h1
  · obtain ⟨q,hq,hpq,hbq⟩:=hplc b hb ((hre b hb).1 hr)
    have h:=(T.dm_iff hn T.first.1 hq).2 (fun hav=>by
      have key:∀ z,AvP (EdgeP (nxF bs) k bl) 0 z→False:=fun z hz=>by
        induction hz with
        | zero h=>exact h rfl
        | step _ _ _ ih=>exact ih
      exact key q hav)
    rwa [T.first.2,hbq] at h
  · obtain ⟨p,q,hp,hq,hap,hbq⟩:=T.dm_place hn ha hb h;rw [hre a ha,← hap,(T.blk p hp).2];omega
theorem NearB.is_near {N:Nat→Int} {ord:Nat→Nat} (h:NearB bs N ord) {b:Nat} (hb:b<bs.length):N b=nearD bs b:=by
  have hall:∀ a,isNear bs b a=true↔(a≠b∧dmB bs a b=true∧∀ c,c<bs.length→c≠b→dmB bs c b=true→dmB bs c a=true):=fun a=>by
    unfold isNear;simp only [Bool.and_eq_true,decide_eq_true_iff,List.all_eq_true,List.mem_range,Bool.or_eq_true,Bool.not_eq_true',and_assoc];refine and_congr_right fun _=>and_congr_right fun _=>⟨fun h c hc hcb hd=>?_,fun h c hc=>?_⟩
    · rcases h c hc with (h | h) | h
      · exact absurd h hcb
      · rw [hd] at h;cases h
      · exact h
    · by_cases hcb:c=b
      · exact .inl (.inl hcb)
      · cases hd:dmB bs c b
        · exact .inl (.inr rfl)
        · exact .inr (h c hc hcb hd)
  by_cases hr:fromB bs 0 (-1) b=true∧b≠0
  · obtain ⟨a,ha,he,hab,hda,hall2⟩:=h.some b hb hr.1 hr.2;rw [he];refine (nearK_of ((hall a).2 ⟨hab,hda,hall2⟩) (fun c hc hcn=>?_) bs.length ha (Nat.le_refl _)).symm;obtain ⟨c1,c2,c3⟩:=(hall c).1 hcn;have h1:=hall2 c hc c1 c2;have h2:=c3 a ha hab hda;have h3:=h.ord c a hc ha h1;have h4:=h.ord a c ha hc h2;exact h3.2 (by omega)
  · have hno:fromB bs 0 (-1) b=false∨b=0:=by
      cases hf:fromB bs 0 (-1) b
      · exact .inl rfl
      · exact .inr (Classical.byContradiction fun h0=>hr ⟨hf,h0⟩)
    rw [h.none b hb hno];refine (nearK_none bs.length fun a ha=>?_).symm;cases hi:isNear bs b a
    · rfl
    · obtain ⟨h1,h2,-⟩:=(hall a).1 hi;(have hrb:fromB bs 0 (-1) b=true:=by unfold dmB at h2;rw [Bool.and_eq_true] at h2;exact h2.1);rcases hno with h3 | h3
      · rw [h3] at hrb;cases hrb
      · subst h3
        have hra:dmB bs 0 a=true:=h.first a ha (by
          -- what dominates is reached
          have:=h2;cases hfa:fromB bs 0 (-1) a
          · exfalso;have h4:=h.ord a 0 ha hb h2
            -- block 0 dominates none that isn't reached: a can't dominate 0
            have ha0:a≠0:=h1;unfold dmB at h2;rw [hrb,(qy (by omega) ha0 0).2 .refl] at h2;simp [ha0] at h2
          · rfl)
        have h3:=h.ord 0 a hb ha hra;have h4:=h.ord a 0 ha hb h2;exact absurd (h4.2 (by omega)) h1
theorem dm_reach {a b:Nat} (h:dmB bs a b=true):fromB bs 0 (-1) b=true:=by unfold dmB at h;rw [Bool.and_eq_true] at h;exact h.1
def upB (bs:List BlkD) (b:Nat) (y:Int) (a:Nat):Bool:=dmB bs a b && (decide (y<0) || !dmB bs a y.toNat)
theorem NearB.up_step {N:Nat→Int} {ord:Nat→Nat} (h:NearB bs N ord) {a b q:Nat} (ha:a<bs.length) (hb:b<bs.length) (hq:q<bs.length) (hd:dmB bs q b=true):(if a=q then true else upB bs b q a)=upB bs b (N q) a:=by
  have hrq:=h.reach q b hq hb hd
  by_cases hq0:q=0
  · rw [h.none q hq (.inr hq0)];unfold upB
    by_cases e:a=q
    · rw [if_pos e,e,hd];simp
    · rw [if_neg e];have hno:dmB bs a q=false:=by
        cases hdq:dmB bs a q
        · rfl
        · have h1:=h.first a ha (h.reach a q ha hq hdq);have h2:=h.ord 0 a (by omega) ha h1;have h3:=h.ord a q ha hq hdq;rw [hq0] at h3;exact absurd (by rw [hq0];exact h3.2 (by omega)) e
      simp [hno]
  · obtain ⟨p,hp,he,hpq,hdp,hall⟩:=h.some q hq hrq hq0;rw [he];unfold upB;have h0:decide (((p:Nat):Int)<0)=false:=decide_eq_false (by omega);have h0':decide (((q:Nat):Int)<0)=false:=decide_eq_false (by omega);rw [h0,h0',Int.toNat_natCast,Int.toNat_natCast]
    by_cases e:a=q
    · rw [if_pos e,e,hd];have hno:dmB bs q p=false:=by
        cases hdq:dmB bs q p
        · rfl
        · have h1:=h.ord q p hq hp hdq;have h2:=h.ord p q hp hq hdp;exact absurd (h2.2 (by omega)) hpq
      simp [hno]
    · rw [if_neg e];have:dmB bs a q=dmB bs a p:=by
        cases hdq:dmB bs a q
        · cases hdp2:dmB bs a p
          · rfl
          · rw [h.trans a p q hdp2 hdp] at hdq;cases hdq
        · exact (hall a ha e hdq).symm
      rw [this]
end Go.Proofs.Ytfoggldjjnabcaa

namespace Go.Proofs.Ytfoggldjjnabcaa
open Go.ChangeShapes Go.WideShapes Go.RowKit Go.Deep
set_option linter.unusedVariables false
set_option maxRecDepth 100000 in
set_option maxHeartbeats 4000000 in
theorem travel_nil (G:Nat) (w:World):Calls Try.prog 51 #[.slice (some ⟨G,0,none⟩) 0 0] w fun e w'=>e=.returned (.agg #[.slice none 0 0,.slice none 0 0,.slice none 0 0])∧Below w.heap.size w w':=by
  (go_enter Try.func51,Try.ntmps51);(go_upto_region 2 with fail);obtain ⟨M,hM⟩:∃ M,M=w.heap.size:=⟨_,rfl⟩;obtain ⟨W,hW⟩:∃ W,W=(w.alloc (.cells #[.slice none 0 0,.slice none 0 0,.slice none 0 0] 97)).alloc (.cells #[.slice none 0 0,.slice none 0 0,.slice none 0 0] 97):=⟨_,rfl⟩;rw [← hW];obtain ⟨b0,b1,hbel⟩:W.heap[M]?=some (.cells #[.slice none 0 0,.slice none 0 0,.slice none 0 0] 97)∧W.heap[M+1]?=some (.cells #[.slice none 0 0,.slice none 0 0,.slice none 0 0] 97)∧Below M w W:=by
    subst hM hW;have h1:=heap_alloc_new w (.cells #[.slice none 0 0,.slice none 0 0,.slice none 0 0] 97);have h2:=heap_alloc_new (w.alloc (.cells #[.slice none 0 0,.slice none 0 0,.slice none 0 0] 97)) (.cells #[.slice none 0 0,.slice none 0 0,.slice none 0 0] 97);refine ⟨(Below.heap_alloc _ _ _ (by simp)).trans h1,by simpa using h2,((Below.refl _ w).alloc (Nat.le_refl _) _).alloc (by simp) _⟩
  have d0:W.cell? ⟨M+1,0,none⟩=some (.slice none 0 0):=q5 b1 0;have d1:W.cell? ⟨M+1,1,none⟩=some (.slice none 0 0):=q5 b1 1;have d2:W.cell? ⟨M+1,2,none⟩=some (.slice none 0 0):=q5 b1 2;have m0:=q5 b0 0;have m1:=q5 b0 1;have m2:=q5 b0 2;(have hf0:W.frozen? ⟨M,0,none⟩=false:=by unfold World.frozen?;simp [b0]);(have hf1:W.frozen? ⟨M,1,none⟩=false:=by unfold World.frozen?;simp [b0]);have hf2:W.frozen? ⟨M,2,none⟩=false:=by unfold World.frozen?;simp [b0]
  have hfin:(((W.setCell ⟨M,0,none⟩ (.slice none 0 0)).setCell ⟨M,1,none⟩ (.slice none 0 0)).setCell ⟨M,2,none⟩ (.slice none 0 0)).heap[M]?=some (.cells #[.slice none 0 0,.slice none 0 0,.slice none 0 0] 97):=qG _ (qG _ (qG _ b0));have HFIN:=Lib.hid hfin;have HBF:=Lib.hid (((hbel.setCell (p:=⟨M,0,none⟩) (Nat.le_refl _) (.slice none 0 0)).setCell (p:=⟨M,1,none⟩) (Nat.le_refl _) (.slice none 0 0)).setCell (p:=⟨M,2,none⟩) (Nat.le_refl _) (.slice none 0 0));have HM:=Lib.hid hM;rw [← hM];clear hW b0 b1 hbel hfin hM;(go_wp2_with fail);refine bodyPost_ret (results_cell_row rfl _ _ M 97 #[.slice none 0 0,.slice none 0 0,.slice none 0 0] (0,0) _ (by rfl) HFIN.out Try.underlying97 (by rfl) (by kernel_rfl)) rfl ?_;exact ⟨rfl,by rw [← HM.out];exact HBF.out⟩
set_option maxRecDepth 100000 in
set_option maxHeartbeats 4000000 in
theorem tnear_nil (w:World):Calls Try.prog 52 #[.agg #[.slice none 0 0,.slice none 0 0,.slice none 0 0]] w fun e w'=>(∃ H,e=.returned (.slice (some ⟨H,0,none⟩) 0 0))∧Below w.heap.size w w':=by
  (go_enter Try.func52,Try.ntmps52);(go_upto_region 1 with fail);obtain ⟨w1,hw1,hs1,hk1,hbel1,hc1,-⟩:=named w #[.slice none 0 0,.slice none 0 0,.slice none 0 0] 97;rw [← hw1];have c0:w1.cell? ⟨w.heap.size,0,none⟩=some (.slice none 0 0):=hc1 0 _ rfl;have HNG:=Lib.hid (newGrove_any 0 w1 (by omega));have HB1:=Lib.hid hbel1;have HS1:=Lib.hid hs1;clear hw1 hs1 hk1 hbel1 hc1
  (go_wp2_with fail);refine HNG.out.mono ?_;rintro e w2 ⟨⟨He,Ha,Hl,rfl,h1,h2,h3,hgv⟩,hb2⟩;have hmk:∀ w:World,(Instr.makeSlice 28 (.int .i64 0) (.int .i64 0)).run Try.prog w=.ok (.slice (some ⟨w.heap.size,0,none⟩) 0 0) (w.alloc (.cells (madeCells #[.int .i64 0] 0) 3)):=run_make_row' (P:=Try.prog) 28 3 (.int .i64 0) 8 Try.underlying28 Try.info3 rfl .i64 .i64 0 (by omega) (by omega);have hmk2:∀ w:World,(Instr.makeSlice 60 (.int .i64 0) (.int .i64 0)).run Try.prog w=.ok (.slice (some ⟨w.heap.size,0,none⟩) 0 0) (w.alloc (.cells (madeCells #[.slice none 0 0] 0) 28)):=run_make_row' (P:=Try.prog) 60 28 (.slice none 0 0) 24 Try.underlying60 Try.info28 rfl .i64 .i64 0 (by omega) (by omega);(have hc0:w2.cell? ⟨w.heap.size,0,none⟩=some (.slice none 0 0):=(hb2.cell (p:=⟨w.heap.size,0,none⟩) (by have:=HS1.out;show w.heap.size<_;omega)).trans c0);(have hN2:w.heap.size<w2.heap.size:=by have:=hb2.size;have:=HS1.out;omega);(have HB2:Hid (Below w.heap.size w w2):=Lib.hid (HB1.out.trans (hb2.mono (by have:=HS1.out;omega))));have HW:=Lib.hid hN2
  clear c0 HNG h1 h2 h3 hgv hb2;(go_upto_region 4 with fail);obtain ⟨w5,hw5⟩:∃ w5,w5=((w2.alloc (.cells #[.slice (some ⟨He,0,none⟩) 0 0,.slice (some ⟨Ha,0,none⟩) 0 0,.slice (some ⟨Hl,0,none⟩) 0 0] 117)).alloc (.cells (madeCells #[.int .i64 0] 0) 3)).alloc (.cells (madeCells #[.slice none 0 0] 0) 28):=⟨_,rfl⟩;obtain ⟨-,-,-,-,hbel⟩:=boxes3t w2 w2.heap.size rfl _ _ _ w5 hw5;(have HB5:Hid (Below w.heap.size w w5):=Lib.hid (HB2.out.trans (hbel.mono (by have:=HW.out;omega))));have hc5:w5.cell? ⟨w.heap.size,0,none⟩=some (.slice none 0 0):=(hbel.cell (p:=⟨w.heap.size,0,none⟩) HW.out).trans hc0;rw [← hw5];clear hmk hmk2 hw5 hbel hc0;go_wp2_with fail
  go_loopw [6] (fun s6 wq=>s6=.int .i64 (-1)∧Below w.heap.size w wq) (fun _ _=>0)
  case atStart=>exact ⟨rfl,HB5.out⟩
  case round =>
    obtain ⟨rfl,hb⟩:=hrel;have HR:=Lib.hid hb;clear hb;(have h1:¬ ((-1:Int) > 0):=by decide);go_wp2_with fail
    go_loopw [124] (fun s124 wq=>s124=.int .i64 0∧Below w.heap.size w wq) (fun _ _=>0)
    case atStart=>exact ⟨rfl,HR.out⟩
    case round =>
      obtain ⟨rfl,hb⟩:=hrel;have HR2:=Lib.hid hb;clear hb;(go_wp2_with fail);(go_ret);exact ⟨⟨_,rfl⟩,HR2.out⟩
def ToldNe (bs:List BlkD) (w:World) (e:Ending) (w':World):Prop :=
  (∃ H,e=.returned (.slice (some ⟨H,0,none⟩) bs.length bs.length)∧w.heap.size≤H∧w'.rowIs H 3 bs.length (fun b=>.int .i64 (nearD bs b))∧∃ ord,NearB bs (nearD bs) ord)∧Below w.heap.size w w'
def NJ (bl D:Nat→Nat) (pl:Nat→Int) (j b:Nat):Int:=if 0≤pl b∧pl b<(j:Int) then nearI bl D pl b else -1
theorem NJ_zero (bl D:Nat→Nat) (pl:Nat→Int) (b:Nat):NJ bl D pl 0 b=-1:=by unfold NJ;rw [if_neg (by omega)]
theorem NJ_step {nx:Nat→List Nat} {n k:Nat} {bl par D:Nat→Nat} {ah:Nat→List Nat} {pl:Nat→Int} (T:TvE nx n k bl par ah pl) {j b:Nat} (hj:j<k) (hb:b<n):NJ bl D pl (j+1) b=if j=0 then -1 else if b=bl j then (bl (D j):Int) else NJ bl D pl j b:=by
  by_cases hj0:j=0
  · subst hj0;rw [if_pos rfl];unfold NJ nearI
    by_cases h:0≤pl b∧pl b<((0+1:Nat):Int)
    · rw [if_pos h,if_pos (by have:=h.2;omega)]
    · rw [if_neg h]
  · rw [if_neg hj0]
    by_cases e:b=bl j
    · subst e;have h1:=(T.blk j hj).2;rw [if_pos rfl];unfold NJ nearI;rw [if_pos (by omega),if_neg (by omega),h1];rfl
    · rw [if_neg e];have hne:pl b≠(j:Int):=fun h=>by
        rcases T.plc b hb with h1 | ⟨p,h1,h2,h3⟩
        · omega
        · (obtain rfl:p=j:=by omega);exact e h3.symm
      unfold NJ
      by_cases h:0≤pl b∧pl b<(j:Int)
      · rw [if_pos (by omega),if_pos h]
      · rw [if_neg (by omega),if_neg h]
theorem NJ_all {nx:Nat→List Nat} {n k:Nat} {bl par D:Nat→Nat} {ah:Nat→List Nat} {pl:Nat→Int} (T:TvE nx n k bl par ah pl) {b:Nat} (hb:b<n):NJ bl D pl k b=nearI bl D pl b:=by
  unfold NJ nearI;rcases T.plc b hb with h | ⟨p,h1,h2,h3⟩
  · rw [if_neg (by omega),if_pos (by omega)]
  · rw [if_pos (by omega)]
set_option maxRecDepth 100000 in
set_option maxHeartbeats 8000000 in
theorem nearest_some (f:FunD) (v:Value) (w:World) (hv:VFun w v f) (hn:f.blocks.length≤1000) (h0:0<f.blocks.length):Calls Try.prog 39 #[v] w (ToldNe f.blocks w):=by
  have hv0:=hv;obtain ⟨Ar,cr,A,c,rfl,-,-,-,-⟩:=hv;(go_enter Try.func39,Try.ntmps39);(go_upto_region 1 with fail);obtain ⟨w1,hw1,hs1,hk1,hbel1,hc1,-⟩:=named w #[.int .i64 f.params,.int .i64 f.result,.slice Ar f.regs.length cr,.slice A f.blocks.length c] 31;rw [← hw1];have c0:=hc1 0 _ rfl;have c1:=hc1 1 _ rfl;have c2:=hc1 2 _ rfl
  have c3:=hc1 3 _ rfl;have HC3:=Lib.hid c3;have HB1:=Lib.hid hbel1;have HS1:=Lib.hid hs1;have HN:=Lib.hid (next_any f _ w1 (VFun.keep hk1 hv0) (by omega));clear hw1 hs1 hbel1 hc1 hv0 hk1;(go_wp2_with fail);refine HN.out.mono ?_;rintro e w2 ⟨⟨V,G,rfl,hG,hg⟩,hb2⟩
  have HB2:Hid (Below w1.heap.size w1 w2):=Lib.hid hb2;(have HTV:=Lib.hid (travel_any (nxF f.blocks) f.blocks.length G w2 (hg.reads (by omega) (fun i hi x hx=>by obtain ⟨q,hq,rfl⟩:=zs_mem hx;have:=qe f.blocks i q hq;unfold I64;omega)) h0 hn (qe f.blocks) (fun x=>by unfold nxF;split;exact nextN_few _ _;simp)));clear c0 c1 c2 c3 hG hg hb2 HN;(go_wp2_with fail);refine HTV.out.mono ?_;rintro e w3 ⟨⟨k,bl,par,ah,pl,vb,vf,va,V0,rfl,hTE,hTR⟩,hb3⟩;have HTE:=Lib.hid hTE;have hkn:=hTE.kn;obtain ⟨A1,k1,rfl⟩:=qp hTR.rb
  obtain ⟨A2,k2,rfl⟩:=qp hTR.rf;obtain ⟨A3,k3,rfl⟩:=qp hTR.ra;have HTR:=Lib.hid hTR;have HB3:Hid (Below w1.heap.size w1 w3):=Lib.hid (HB2.out.trans (hb3.mono HB2.out.size));have hmk:=run_make_row' (P:=Try.prog) 28 3 (.int .i64 0) 8 Try.underlying28 Try.info3 rfl .i64 .i64 f.blocks.length (by omega) (by omega);(have c3:w3.cell? ⟨w.heap.size,3,none⟩=some (.slice A f.blocks.length c):=(HB3.out.cell (p:=⟨w.heap.size,3,none⟩) (by have:=HS1.out;show w.heap.size<_;omega)).trans HC3.out);(have hN3:w.heap.size<w3.heap.size:=by have:=HB3.out.size;have:=HS1.out;omega);clear hTE hTR hb3 HTV;go_upto_region 3 with fail
  clear hmk;obtain ⟨T,hT⟩:∃ T,T=w3.heap.size:=⟨_,rfl⟩;obtain ⟨w5,hw5⟩:∃ w5,w5=(w3.alloc (.cells #[.slice A1 k k1,.slice A2 k k2,.slice A3 k k3] 97)).alloc (.cells (madeCells #[.int .i64 0] f.blocks.length) 3):=⟨_,rfl⟩;obtain ⟨b0,b1,hbel⟩:w5.heap[T]?=some (.cells #[.slice A1 k k1,.slice A2 k k2,.slice A3 k k3] 97)∧w5.heap[T+1]?=some (.cells (madeCells #[.int .i64 0] f.blocks.length) 3)∧Below T w3 w5:=by
    subst hw5 hT;have h1:=heap_alloc_new w3 (.cells #[.slice A1 k k1,.slice A2 k k2,.slice A3 k k3] 97);have h2:=heap_alloc_new (w3.alloc (.cells #[.slice A1 k k1,.slice A2 k k2,.slice A3 k k3] 97)) (.cells (madeCells #[.int .i64 0] f.blocks.length) 3);exact ⟨(Below.heap_alloc _ _ _ (by simp)).trans h1,by simpa using h2,((Below.refl _ w3).alloc (Nat.le_refl _) _).alloc (by simp) _⟩
  have HTB:=Lib.hid b0;have hrow:=row_made b1;(have HB5:Hid (Below w1.heap.size w1 w5):=Lib.hid (HB3.out.trans (hbel.mono (by have:=HB3.out.size;omega))));have HT5:Hid (w1.heap.size≤T∧T+1<w5.heap.size):=Lib.hid ⟨by have:=HB3.out.size;omega,(Array.getElem?_eq_some_iff.1 b1).1⟩
  have HTR5:Hid (∀ (w':World),Below T w5 w'→TvR w' w2.heap.size k (.slice A1 k k1) (.slice A2 k k2) (.slice A3 k k3) V0 bl par ah):=Lib.hid (fun w' hb=>by
    (have hbb:Below w3.heap.size w3 w':=by rw [← hT];exact hbel.trans hb);have ho:∀ {sz n:Nat} {e:TypeId} {u:Value} {xs:List Value},w3.ownsRow w2.heap.size e sz u n xs→w'.ownsRow w2.heap.size e sz u n xs:=fun h=>qD h fun g hg=>hbb.block g (h.lt g hg).2
    exact ⟨ho HTR.out.rb,ho HTR.out.rf,ho HTR.out.ra,fun v hv=>ho (HTR.out.rV v hv)⟩)
  rw [← hw5,← hT];clear hw5 hT hbel b0 b1 c3 hN3;go_wp2_with fail
  go_loopw [17] (fun s17 wq=>∃ j:Nat,j≤f.blocks.length∧s17=.int .i64 (j:Int)∧wq.rowIs (T+1) 3 f.blocks.length (fun b=>.int .i64 (if b<j then -1 else 0))∧FrX (fun b=>b=T+1) w5 wq) (fun s17 _=>f.blocks.length - (intOf s17).toNat)
  case atStart=>exact ⟨0,Nat.zero_le _,rfl,hrow.congr fun _ _=>rfl,FrX.refl _ _⟩
  case round =>
    obtain ⟨j,hj,rfl,hr,hfr⟩:=hrel;have HFR:=Lib.hid hfr
    by_cases hjn:j<f.blocks.length
    · (have e1:wr.cell? ⟨T+1,j,none⟩=some (.int .i64 0):=by have:=hr.cell hjn;simpa using this);have f1:=hr.frozen j;(have hj0:(0:Int)≤j:=by omega);have hj1:(j:Int)<f.blocks.length:=by omega
      have HR:=Lib.hid ((hr.set j (.int .i64 (-1))).congr (g:=fun b=>.int .i64 (if b<j+1 then -1 else 0)) fun v _=>by
        by_cases e:v=j
        · simp [e]
        · simp only [if_neg e];by_cases e2:v<j
          · rw [if_pos e2,if_pos (by omega)]
          · rw [if_neg e2,if_neg (by omega)])
      clear hr hfr hrow;go_wp2_with fail
      go_roundw
      case rel=>exact ⟨j+1,by omega,by go_num,HR.out,HFR.out.setCell (.inl rfl) _⟩
      case measure=>simp [intOf];omega
    · (have hjj:j=f.blocks.length:=by omega);subst hjj;have HPR:=Lib.hid (hr.congr (g:=fun b=>.int .i64 (NJ bl (fun v=>v) pl 0 b)) fun v hv=>by rw [NJ_zero,if_pos hv]);have hbx:=HFR.out.box HTB.out (by omega);have t0:wr.cell? ⟨T,0,none⟩=some (.slice A1 k k1):=q5 hbx 0;have t1:wr.cell? ⟨T,1,none⟩=some (.slice A2 k k2):=q5 hbx 1;have t2:wr.cell? ⟨T,2,none⟩=some (.slice A3 k k3):=q5 hbx 2;(have hbT:Below T w5 wr:=HFR.out.below (by have:=HT5.out;omega) (fun b hb=>by omega));have HTN:=Lib.hid (tnear_any (nxF f.blocks) f.blocks.length k bl par ah pl _ _ _ V0 w2.heap.size wr HTE.out (HTR5.out wr hbT) hn)
      have HBX:=Lib.hid hbx;clear hr hfr hrow hbx hbT;(go_wp2_with fail);refine HTN.out.mono ?_;rintro e w6 ⟨⟨Hn,s,near,rfl,hHn,hS,hNP,hnr⟩,hb6⟩;have hNB:=HTE.out.near h0 hS hNP;(have HNE:Hid (∃ ord,NearB f.blocks (nearD f.blocks) ord):=Lib.hid ⟨_,⟨fun b hb h=>by rw [← hNB.is_near hb];exact hNB.none b hb h,fun b hb h1 h2=>by rw [← hNB.is_near hb];exact hNB.some b hb h1 h2,hNB.ord,hNB.self,hNB.trans,hNB.first,hNB.reach⟩⟩);have HIS:Hid (∀ b,b<f.blocks.length→NJ bl near pl k b=nearD f.blocks b):=Lib.hid (fun b hb=>(NJ_all HTE.out hb).trans (hNB.is_near hb));have hT1:T+1<wr.heap.size:=HPR.out.lt
      have HP6:=Lib.hid ((HPR.out.of_block (hb6.block (T+1) hT1)).congr (g:=fun b=>.int .i64 (NJ bl near pl 0 b)) fun v _=>by rw [NJ_zero,NJ_zero]);have HX6:Hid (w6.heap[T]?=some (.cells #[.slice A1 k k1,.slice A2 k k2,.slice A3 k k3] 97)):=Lib.hid ((hb6.block T (by omega)).trans HBX.out);have HF6:Hid (FrX (fun b=>b=T+1) w5 w6):=Lib.hid (HFR.out.trans (FrX.of_below hb6));have HNR:=Lib.hid hnr;have HHN:Hid (T+1<Hn):=Lib.hid (by omega);(have HSN:Hid (∀ v,0<v→v<k→near v<k):=Lib.hid (fun v h1 h2=>by have:=near_le HTE.out.tree hS hNP v h1 h2;have:=hS.lt HTE.out.tree h1 h2;omega));clear hS hNP hnr hb6 hHn hNB t0 t1 t2 HTN hT1;go_wp2_with fail
      go_loopw [27] (fun s27 wq=>∃ j:Nat,j≤k∧s27=.int .i64 (j:Int)∧wq.rowIs (T+1) 3 f.blocks.length (fun b=>.int .i64 (NJ bl near pl j b))∧FrX (fun b=>b=T+1) w6 wq) (fun s27 _=>k - (intOf s27).toNat)
      case atStart=>exact ⟨0,Nat.zero_le _,rfl,HP6.out,FrX.refl _ _⟩
      case round =>
        obtain ⟨j,hj,rfl,hr,hfr⟩:=hrel;have HFR2:=Lib.hid hfr;have HRR:=Lib.hid hr
        by_cases hjk:j<k
        · (have xn:=(HNR.out.of_block (hfr.block Hn (HNR.out.lt) (by have:=HHN.out;omega))).cell hjk);(have hj0:(0:Int)≤j:=by omega);have hj1:(j:Int)<k:=by omega
          by_cases hz:j=0
          · have HR:=Lib.hid (hr.congr (g:=fun b=>.int .i64 (NJ bl near pl (j+1) b)) fun v hv=>by rw [NJ_step HTE.out hjk hv,if_pos hz,hz,NJ_zero]);rw [if_pos hz] at xn;(have h1:¬ ((-1:Int) ≥ 0):=by decide);clear hr hfr hz;go_wp2_with fail
            go_roundw
            case rel=>exact ⟨j+1,by omega,by go_num,HR.out,HFR2.out⟩
            case measure=>simp [intOf];omega
          · rw [if_neg hz] at xn;have hnk:=HSN.out j (by omega) hjk;have hbx:=(HF6.out.trans hfr).box HTB.out (by omega);have t0:wr.cell? ⟨T,0,none⟩=some (.slice A1 k k1):=q5 hbx 0;(have hTR:=HTR5.out wr ((HF6.out.trans hfr).below (by have:=HT5.out;omega) (fun b hb=>by omega)));obtain ⟨g1,cap1,u1,hv1,hu1,x1,-⟩:=own_cellD hTR.rb hjk;obtain ⟨rfl,-⟩:=qX _ hu1;simp only [Value.slice.injEq] at hv1;obtain ⟨rfl,-,rfl⟩:=hv1
            obtain ⟨g2,cap2,u2,hv2,hu2,x2,-⟩:=own_cellD hTR.rb hnk;obtain ⟨rfl,-⟩:=qX _ hu2;simp only [Value.slice.injEq,Option.some.injEq,Addr.mk.injEq,and_true,true_and] at hv2;obtain ⟨rfl,rfl⟩:=hv2;have hbj:=(HTE.out.blk j hjk).1;have xc:=hr.cell hbj;have xf:=hr.frozen (bl j);(have HR:=Lib.hid ((hr.set (bl j) (.int .i64 (bl (near j):Int))).congr (g:=fun b=>.int .i64 (NJ bl near pl (j+1) b)) fun v hv=>by rw [NJ_step HTE.out hjk hv,if_neg hz];by_cases e:v=bl j <;> simp [e]));have hb0:(0:Int)≤(bl j:Int):=by omega
            (have hb1:(bl j:Int)<f.blocks.length:=by omega);(have hn0:(0:Int)≤(near j:Int):=by omega);(have hn1:(near j:Int)<k:=by omega);clear hr hfr hz hbx hTR hu1 hu2;(go_upto_region 12 with fail);(go_region);go_wp2_with fail
            go_roundw
            case rel=>exact ⟨j+1,by omega,by go_num,HR.out,(HFR2.out.setCell (.inl rfl) _).drew⟩
            case measure=>simp [intOf];omega
        · (have hjj:j=k:=by omega);subst hjj;have HRES:=Lib.hid (hr.congr (g:=fun b=>.int .i64 (nearD f.blocks b)) fun v hv=>by rw [HIS.out v hv]);(have HBF:Hid (Below w.heap.size w wr):=Lib.hid (HB1.out.trans ((HB5.out.mono (by have:=HS1.out;omega)).trans ((HF6.out.trans hfr).below (by have:=HT5.out;have:=HS1.out;omega) (fun b hb=>by have:=HT5.out;have:=HS1.out;omega)))));(have HTT:Hid (w.heap.size≤T+1):=Lib.hid (by have:=HT5.out;have:=HS1.out;omega));clear hr hfr;(go_wp2_with fail);(go_ret);exact ⟨⟨T+1,rfl,HTT.out,HRES.out,HNE.out⟩,HBF.out⟩
set_option maxRecDepth 100000 in
set_option maxHeartbeats 8000000 in
theorem nearest_none (f:FunD) (v:Value) (w:World) (hv:VFun w v f) (h0:f.blocks.length=0):Calls Try.prog 39 #[v] w (ToldNe f.blocks w):=by
  have hv0:=hv;obtain ⟨Ar,cr,A,c,rfl,-,-,-,-⟩:=hv;have HNX:=Lib.hid (fun w1 (hk1:Kept w w1)=>next_any f _ w1 (VFun.keep hk1 hv0) (by omega));have H0:=Lib.hid h0;rw [h0];clear h0;(go_enter Try.func39,Try.ntmps39);(go_upto_region 1 with fail);obtain ⟨w1,hw1,hs1,hk1,hbel1,hc1,-⟩:=named w #[.int .i64 f.params,.int .i64 f.result,.slice Ar f.regs.length cr,.slice A 0 c] 31
  rw [← hw1];have c0:=hc1 0 _ rfl;have c1:=hc1 1 _ rfl;have c2:=hc1 2 _ rfl;have c3:=hc1 3 _ rfl;have HC3:=Lib.hid c3;have HB1:=Lib.hid hbel1;have HS1:=Lib.hid hs1;have HN:=Lib.hid (HNX.out w1 hk1)
  rw [H0.out] at HN;clear hw1 hs1 hbel1 hc1 hv0 hk1;(go_wp2_with fail);refine HN.out.mono ?_;rintro e w2 ⟨⟨V,G,rfl,hG,hg⟩,hb2⟩;have HB2:Hid (Below w1.heap.size w1 w2):=Lib.hid hb2;have HTV:=Lib.hid (travel_nil G w2);clear c0 c1 c2 c3 hG hg hb2 HN;go_wp2_with fail
  refine HTV.out.mono ?_;rintro e w3 ⟨rfl,hb3⟩;have HB3:Hid (Below w1.heap.size w1 w3):=Lib.hid (HB2.out.trans (hb3.mono HB2.out.size));have hmk:∀ w:World,(Instr.makeSlice 28 (.int .i64 0) (.int .i64 0)).run Try.prog w=.ok (.slice (some ⟨w.heap.size,0,none⟩) 0 0) (w.alloc (.cells (madeCells #[.int .i64 0] 0) 3)):=run_make_row' (P:=Try.prog) 28 3 (.int .i64 0) 8 Try.underlying28 Try.info3 rfl .i64 .i64 0 (by omega) (by omega);(have c3:w3.cell? ⟨w.heap.size,3,none⟩=some (.slice A 0 c):=(HB3.out.cell (p:=⟨w.heap.size,3,none⟩) (by have:=HS1.out;show w.heap.size<_;omega)).trans HC3.out);(have hN3:w.heap.size<w3.heap.size:=by have:=HB3.out.size;have:=HS1.out;omega);clear hb3 HTV;(go_upto_region 3 with fail);clear hmk
  obtain ⟨T,hT⟩:∃ T,T=w3.heap.size:=⟨_,rfl⟩;obtain ⟨w5,hw5⟩:∃ w5,w5=(w3.alloc (.cells #[.slice none 0 0,.slice none 0 0,.slice none 0 0] 97)).alloc (.cells (madeCells #[.int .i64 0] 0) 3):=⟨_,rfl⟩;obtain ⟨b0,b1,hbel⟩:w5.heap[T]?=some (.cells #[.slice none 0 0,.slice none 0 0,.slice none 0 0] 97)∧w5.heap[T+1]?=some (.cells (madeCells #[.int .i64 0] 0) 3)∧Below T w3 w5:=by
    subst hw5 hT;have h1:=heap_alloc_new w3 (.cells #[.slice none 0 0,.slice none 0 0,.slice none 0 0] 97);have h2:=heap_alloc_new (w3.alloc (.cells #[.slice none 0 0,.slice none 0 0,.slice none 0 0] 97)) (.cells (madeCells #[.int .i64 0] 0) 3);exact ⟨(Below.heap_alloc _ _ _ (by simp)).trans h1,by simpa using h2,((Below.refl _ w3).alloc (Nat.le_refl _) _).alloc (by simp) _⟩
  have HTB:=Lib.hid b0;have HRW:=Lib.hid (row_made b1);(have HB5:Hid (Below w.heap.size w w5):=Lib.hid (HB1.out.trans ((HB3.out.mono (by have:=HS1.out;omega)).trans (hbel.mono (by omega)))));have HTT:Hid (w.heap.size≤T∧T<w5.heap.size):=Lib.hid ⟨by omega,(Array.getElem?_eq_some_iff.1 b0).1⟩;rw [← hw5,← hT];clear hw5 hT hbel b0 b1 c3 hN3;go_wp2_with fail
  go_loopw [17] (fun s17 wq=>s17=.int .i64 0∧wq=w5) (fun _ _=>0)
  case atStart=>exact ⟨rfl,rfl⟩
  case round =>
    obtain ⟨rfl,hwq⟩:=hrel;(have t0:wr.cell? ⟨T,0,none⟩=some (.slice none 0 0):=by rw [hwq];exact q5 HTB.out 0);(have t1:wr.cell? ⟨T,1,none⟩=some (.slice none 0 0):=by rw [hwq];exact q5 HTB.out 1);(have t2:wr.cell? ⟨T,2,none⟩=some (.slice none 0 0):=by rw [hwq];exact q5 HTB.out 2);have HTN:=Lib.hid (tnear_nil wr);have HWQ:=Lib.hid hwq;clear hwq;(go_wp2_with fail);refine HTN.out.mono ?_
    rintro e w6 ⟨⟨Hn,rfl⟩,hb6⟩;(have HB6:Hid (Below T w5 w6):=Lib.hid (by rw [← HWQ.out];exact hb6.mono (by rw [HWQ.out];exact Nat.le_of_lt HTT.out.2)));(have HR6:=Lib.hid (HRW.out.of_block (w':=w6) (by rw [← HWQ.out];exact hb6.block (T+1) (by rw [HWQ.out];exact HRW.out.lt))));clear hb6 t0 t1 t2 HTN;go_wp2_with fail
    go_loopw [27] (fun s27 wq=>s27=.int .i64 0∧wq=w6) (fun _ _=>0)
    case atStart=>exact ⟨rfl,rfl⟩
    case round =>
      obtain ⟨rfl,hwq⟩:=hrel;have HW2:=Lib.hid hwq;clear hwq;(go_wp2_with fail);(go_ret);refine ⟨⟨T+1,by rw [H0.out];rfl,by have:=HTT.out;omega,?_,fun _=>0,?_⟩,?_⟩
      · rw [HW2.out,H0.out];exact HR6.out.congr fun v hv=>by omega
      · (have hno:∀ a b,dmB f.blocks a b=false:=fun a b=>by unfold dmB fromB;rw [if_neg (by rw [H0.out];omega)];rfl);refine ⟨fun b hb=>?_,fun b hb=>?_,fun a b ha=>?_,fun a ha=>?_,fun a b c h=>?_,fun b hb=>?_,fun a b ha=>?_⟩
        · rw [H0.out] at hb;omega
        · rw [H0.out] at hb;omega
        · rw [H0.out] at ha;omega
        · rw [H0.out] at ha;omega
        · rw [hno] at h;cases h
        · rw [H0.out] at hb;omega
        · rw [H0.out] at ha;omega
      · rw [HW2.out];exact HB5.out.trans (HB6.out.mono HTT.out.1)
theorem nearest_any (f:FunD) (v:Value) (w:World) (hv:VFun w v f) (hn:f.blocks.length≤1000):Calls Try.prog 39 #[v] w (ToldNe f.blocks w):=by
  by_cases h0:f.blocks.length=0
  · exact nearest_none f v w hv h0
  · exact nearest_some f v w hv hn (by omega)
end Go.Proofs.Ytfoggldjjnabcaa

namespace Go.Proofs.Ytfoggldjjnabcaa
set_option linter.unusedVariables false
variable {bs:List BlkD}
end Go.Proofs.Ytfoggldjjnabcaa

namespace Go.Proofs.Ytfoggldjjnabcaa
set_option linter.unusedVariables false
def raL (bs:List BlkD) (k b:Nat):List Nat:=(List.range k).filter fun c=>qE bs c && decide (b∈nxF bs c)
def raJ (bs:List BlkD) (k j b:Nat):List Nat:=raL bs k b++(if b∈(nxF bs k).take j then [k] else [])
theorem raL_succ (bs:List BlkD) (k b:Nat):raL bs (k+1) b=raL bs k b++(if (qE bs k && decide (b∈nxF bs k))=true then [k] else []):=by
  unfold raL;rw [List.range_succ,List.filter_append];congr 1
  by_cases h:(qE bs k && decide (b∈nxF bs k))=true
  · rw [if_pos h];simp [h]
  · rw [if_neg h];simp [h]
theorem raL_not {bs:List BlkD} {k:Nat} (h:qE bs k=false) (b:Nat):raL bs k b=raL bs (k+1) b:=by rw [raL_succ,h];simp
theorem raJ_zero (bs:List BlkD) (k b:Nat):raL bs k b=raJ bs k 0 b:=by unfold raJ;simp
theorem raJ_all {bs:List BlkD} {k j:Nat} (h:qE bs k=true) (hj:(nxF bs k).length≤j) (b:Nat):raJ bs k j b=raL bs (k+1) b:=by
  unfold raJ;rw [raL_succ,h,List.take_of_length_le hj];simp
theorem nxF_nodup (bs:List BlkD) (k:Nat):(nxF bs k).Nodup:=by
  unfold nxF;split
  · exact nextN_nodup _ _
  · simp
theorem raJ_step {bs:List BlkD} {k j t:Nat} (ht:(nxF bs k)[j]?=some t) (b:Nat):(if b=t then raJ bs k j t++[k] else raJ bs k j b)=raJ bs k (j+1) b:=by
  have hnd:=nxF_nodup bs k;have hnot:t ∉ (nxF bs k).take j:=fun hm=>by
    obtain ⟨i,hi,he⟩:=List.mem_iff_getElem.1 hm;(have hi':i<j:=by simp at hi;omega);have hjl:=(List.getElem?_eq_some_iff.1 ht).1;rw [List.getElem_take] at he;have:=(List.getElem?_eq_some_iff.1 ht).2;exact List.pairwise_iff_getElem.1 hnd i j (by omega) hjl hi' (he.trans this.symm)
  unfold raJ;rw [qC ht]
  by_cases e:b=t
  · subst e;rw [if_pos rfl,if_neg hnot,if_pos (by simp)];simp
  · rw [if_neg e];congr 1
    by_cases hm:b∈(nxF bs k).take j
    · rw [if_pos hm,if_pos (by simp [hm])]
    · rw [if_neg hm,if_neg (by simp [hm,e])]
theorem raL_len (bs:List BlkD) (k b:Nat):(raL bs k b).length≤k:=by unfold raL;exact Nat.le_trans (List.length_filter_le _ _) (by simp)
theorem raL_lt {bs:List BlkD} {k b c:Nat} (h:c∈raL bs k b):c<k∧qE bs c=true∧b∈nxF bs c:=by
  unfold raL at h;rw [List.mem_filter,List.mem_range,Bool.and_eq_true,decide_eq_true_iff] at h;exact h
variable {bs:List BlkD}
theorem near_pred {p b c:Nat} (hn:0<bs.length) (h:dmB bs p b=true) (hpb:p≠b) (hc:qE bs c=true) (hb:b∈nxF bs c):dmB bs p c=true:=by
  unfold dmB;rw [qO,hc,Bool.true_and,Bool.or_eq_true,decide_eq_true_iff]
  by_cases hp0:p=0
  · right;rw [hp0,from_zero];rfl
  · by_cases e:p=c
    · exact .inl e
    · right;cases hf:fromB bs 0 p c
      · rfl
      · exfalso;have h1:=(qy hn hp0 c).1 hf;have h2:Reach (nxW (nxF bs) p) 0 b:=.step h1 (nxW_mem.2 ⟨hb,by omega⟩);unfold dmB at h;rw [(qy hn hp0 b).2 h2] at h;simp [hpb] at h
end Go.Proofs.Ytfoggldjjnabcaa

namespace Go.Proofs.Ytfoggldjjnabcaa
open Go.ChangeShapes Go.WideShapes Go.RowKit Go.Deep
set_option linter.unusedVariables false
def cnt (r:Nat→Bool) (i:Nat):Nat:=(List.range i).countP r
theorem cnt_succ (r:Nat→Bool) (k:Nat):cnt r (k+1)=cnt r k+(if r k=true then 1 else 0):=countP_range_succ r k
theorem cnt_zero (r:Nat→Bool):cnt r 0=0:=rfl
theorem numB_cnt {r:Nat→Bool} {i:Nat} (h:r i=true):numB r i=(cnt r i:Nat):=by unfold numB;rw [if_pos h];rfl
theorem blksK_facts {bs:List BlkD} (r:Nat→Bool):∀ k,k≤bs.length→(blksK bs r k).length=cnt r k∧(∀ i b,i<k→r i=true→bs[i]?=some b→(blksK bs r k)[cnt r i]?=some (blkT bs r i b))∧∀ j,j<(blksK bs r k).length→∃ i,i<k∧r i=true∧cnt r i=j:=by
  intro k
  induction k with
  | zero=>intro _;rw [blksK_zero];exact ⟨rfl,fun i b h=>absurd h (by omega),fun j h=>absurd h (by simp)⟩
  | succ k ih =>
    intro hk;obtain ⟨h1,h2,h3⟩:=ih (by omega);have hb:bs[k]?=some bs[k]:=List.getElem?_eq_getElem (by omega);rw [blksK_succ hb];refine ⟨?_,fun i b hi hr hbi=>?_,fun j hj=>?_⟩
    · rw [List.length_append,h1,cnt_succ];split <;> simp
    · by_cases e:i=k
      · subst e;obtain rfl:bs[i]=b:=Option.some.inj (hb.symm.trans hbi);rw [if_pos hr,List.getElem?_append_right (by omega),h1,Nat.sub_self];rfl
      · have h4:=h2 i b (by omega) hr hbi;rw [List.getElem?_append_left (List.getElem?_eq_some_iff.1 h4).1];exact h4
    · by_cases hj2:j<(blksK bs r k).length
      · obtain ⟨i,h4,h5⟩:=h3 j hj2;exact ⟨i,by omega,h5⟩
      · rw [List.length_append] at hj
        by_cases hr:r k=true
        · rw [if_pos hr] at hj;exact ⟨k,by omega,hr,by simp at hj;omega⟩
        · rw [if_neg hr] at hj;simp at hj;omega
theorem blksT_len (bs:List BlkD):(blksT bs).length=cnt (qE bs) bs.length:=(blksK_facts (qE bs) bs.length (Nat.le_refl _)).1
theorem cnt_le (r:Nat→Bool) (k:Nat):cnt r k≤k:=countP_range_le r k
theorem blksT_few (bs:List BlkD):(blksT bs).length≤bs.length:=by rw [blksT_len];exact cnt_le _ _
theorem qd {bs:List BlkD} (hn:bs.length≠0) {x:Nat}:qE bs x=true↔Reach (nxF bs) 0 x:=by
  unfold qE reachB;rw [decide_eq_true_iff];exact orderL_mem (qe bs) hn
theorem reachF_lt {bs:List BlkD} {x:Nat} (h:qE bs x=true):x<bs.length:=by
  unfold qE reachB at h;exact orderL_lt (qe bs) (of_decide_eq_true h)
theorem cnt_lt {r:Nat→Bool} {i k:Nat} (hi:i<k) (hr:r i=true):cnt r i<cnt r k:=by
  have key:∀ d,cnt r i<cnt r (i+1+d):=by
    intro d
    induction d with
    | zero=>rw [Nat.add_zero,cnt_succ,if_pos hr];omega
    | succ d ih=>rw [show i+1+(d+1)=i+1+d+1 by omega,cnt_succ];split <;> omega
  have:=key (k - (i+1))
  rwa [show i+1+(k - (i+1))=k by omega] at this
theorem lead_new {bs:List BlkD} {i t:Nat} (hn:bs.length≠0) (hi:Reach (nxF bs) 0 i) (ht:t∈nxF bs i):cnt (qE bs) t∈nxF (blksT bs) (cnt (qE bs) i):=by
  have hri:=(qd hn).2 hi;have hrt:=(qd hn).2 (.step hi ht);have hil:=reachF_lt hri;have htl:=reachF_lt hrt;have hb:bs[i]?=some bs[i]:=List.getElem?_eq_getElem hil;have hc:=(blksK_facts (qE bs) bs.length (Nat.le_refl _)).2.1 i _ hil hri hb;rw [nxF_mem (show (blksT bs)[cnt (qE bs) i]?=some _ from hc)];(refine ⟨by rw [blksT_len];exact cnt_lt htl hrt,?_⟩);have hm:=(nxF_mem hb).1 ht
  show ((cnt (qE bs) t:Nat):Int)∈bs[i].term.to.map (toT (qE bs) bs.length);refine List.mem_map.2 ⟨t,hm.2,?_⟩;unfold toT;rw [if_pos ⟨by omega,by omega⟩,Int.toNat_natCast,numB_cnt hrt]
theorem reach_new {bs:List BlkD} (hn:bs.length≠0) {i:Nat} (hi:Reach (nxF bs) 0 i):Reach (nxF (blksT bs)) 0 (cnt (qE bs) i):=by
  induction hi with
  | refl=>rw [cnt_zero];exact .refl
  | step h1 h2 ih=>exact .step ih (lead_new hn h1 h2)
theorem reach_all {bs:List BlkD} {j:Nat} (hj:j<(blksT bs).length):qE (blksT bs) j=true:=by
  (have hn:bs.length≠0:=by have:=blksT_few bs;omega);obtain ⟨i,_,hr,rfl⟩:=(blksK_facts (qE bs) bs.length (Nat.le_refl _)).2.2 j hj;exact (qd (by omega)).2 (reach_new hn ((qd hn).1 hr))
end Go.Proofs.Ytfoggldjjnabcaa
