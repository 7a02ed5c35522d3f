/- A function trimmed, in mathematics: blocks ahead renumbered; it keeps the rules. No condition. -/
import Derived.Test.YtfoggldjjnabcaaGreatDoorModAK
import Derived.Test.YtfoggldjjnabcaaGreatDoorLtDK
import Derived.Test.YtfoggldjjnabcaaGreatDoorPrpK
import Derived.Test.YtfoggldjjnabcaaGreatDoorLvSK
import Derived.Test.YtfoggldjjnabcaaGreatDoorGrNK
import Derived.Test.YtfoggldjjnabcaaGreatDoorDmEK
set_option linter.unusedVariables false
set_option linter.unusedSimpArgs false
namespace Go.Proofs.YtfoggldjjnabcaaGreatDoor
open Go.ChangeShapes Go.WideShapes Go.RowKit Go.Deep
theorem q8T {l:List Int} {n i:Nat} (h:l.length=n) (hi:i<n):l.getD i 0∈l:=by
 rw [JJ,Jq (by omega)];exact List.getElem_mem (by omega)
def q0j (r:Nat->Bool) (l:List Int):List Int:=l.filterMap λ a=>if r a.toNat=true then some ((cnt r a.toNat:Nat):Int) else none
theorem q3a (r:Nat->Bool) (a b:List Int):q0j r (a++b)=q0j r a++q0j r b:=List.filterMap_append
theorem kY (r:Nat->Bool) (a:Int) (l:List Int):q0j r (a::l)=(if r a.toNat=true then [((cnt r a.toNat:Nat):Int)] else [])++q0j r l:=by
 unfold q0j;rw [List.filterMap_cons];split <;> rename_i h <;> split at h <;> simp_all
theorem q60 {r:Nat->Bool} {a b:Nat} (ha:r a=true) (hb:r b=true) (h:cnt r a=cnt r b):a=b:=by
 rcases Nat.lt_trichotomy a b with hl | hl | hl
 ·have:=q19 hl ha;omega
 ·exact hl
 ·have:=q19 hl hb;omega
theorem q0q (r:Nat->Bool):∀ (rs xs:List Int),rs.length=xs.length->(zP r rs xs).length=(q0j r rs).length
 | [],[],_=>rfl
 | [],_::_,h=>by simp at h
 | _::_,[],h=>by simp at h
 | a::rs,x::xs,h=>by
  rw [kY];simp only [zP,List.length_append];rw [q0q r rs xs (by simpa using h)]
  split <;> rfl
theorem q1s {r:Nat->Bool}:∀ {rs xs:List Int} {y:Int},y∈zP r rs xs->y∈xs
 | [],_,_,h=>by simp [zP] at h
 | _::_,[],_,h=>by simp [zP] at h
 | a::rs,x::xs,y,h=>by
  simp only [zP,List.mem_append] at h;rcases h with h | h
  ·split at h
   ·rw [List.mem_singleton.1 h];exact List.mem_cons_self ..
   ·cases h
  ·exact List.mem_cons_of_mem _ (q1s h)
theorem q1x {x:Int} {l:List Int}:zd x l=true↔x∈l:=by unfold zd;rw [List.any_eq_true];simp
theorem q4g {bs:List qE} {k i:Nat} {b:qE} (hn:bs.length≠0) (hb:bs[k]?=some b) (hk:qI bs k=true) (hi:qI bs i=true) {t:Int} (ht:t∈b.term.to):toT (qI bs) bs.length t=((cnt (qI bs) i:Nat):Int)↔t=(i:Int):=by
 have hil:=jH hi;unfold toT
 split
 ·rename_i hr;(have wl:qI bs t.toNat=true:=(zA hn).2 (.step ((zA hn).1 hk) ((yW hb).2 ⟨by omega,by rw [show ((t.toNat:Nat):Int)=t by omega];exact ht⟩)));rw [q3X wl];constructor
  ·intro e;have:=q60 wl hi (by omega);omega
  ·intro e;rw [e,Int.toNat_natCast]
 ·rename_i hr;have:=q8y (qI bs) i;constructor
  ·intro e;omega
  ·intro e;omega
theorem q7N {bs:List qE} (hn:bs.length≠0) {i:Nat} (hi:qI bs i=true):∀ k,k<=bs.length->qH (zJ bs (qI bs) k) ((cnt (qI bs) i:Nat):Int)=q0j (qI bs) (qH (bs.take k) (i:Int)):=by
 intro k
 induction k with
 | zero=>intro _;rw [yt,List.take_zero];rfl
 | succ k ih =>
  intro hk;have hb:bs[k]?=some bs[k]:=Jq (by omega);have hl:=(vg (qI bs) k (by omega:k<=bs.length)).1;rw [jc hb,xC _ hb,q3a,<- ih (by omega)]
  by_cases hr:qI bs k=true
  ·rw [if_pos hr];show zS (_++[_]) 0 _=_;rw [q0F,hl,Nat.zero_add];show qH (zJ bs (qI bs) k) _++_=_;(congr 1);have he:zd ((cnt (qI bs) i:Nat):Int) (q0H bs (qI bs) k bs[k]).term.to=zd (i:Int) bs[k].term.to:=by
    rw [Bool.eq_iff_iff,q1x,q1x];show _∈bs[k].term.to.map _↔_;rw [List.mem_map];constructor
    ·rintro ⟨t,ht,e⟩;rw [<- (q4g hn hb hr hi ht).1 e];exact ht
    ·intro h;exact ⟨_,h,(q4g hn hb hr hi h).2 rfl⟩
   rw [he]
   split
   ·rw [kY,Int.toNat_natCast,if_pos hr];rfl
   ·rfl
  ·rw [if_neg hr,List.append_nil]
   split
   ·rw [kY,Int.toNat_natCast,if_neg hr];simp [q0j]
   ·simp [q0j]
theorem qAx {bs:List qE} (hn:bs.length≠0) {i:Nat} (hi:qI bs i=true):qH (qb bs) ((cnt (qI bs) i:Nat):Int)=q0j (qI bs) (qH bs (i:Int)):=by
 have:=q7N hn hi bs.length (J4 _)
 rwa [List.take_length] at this
theorem q65 {bs:List qE} {i:Nat} {b:qE} (hb:bs[i]?=some b) (hi:qI bs i=true):(qb bs)[cnt (qI bs) i]?=some (q0H bs (qI bs) i b) :=
 (vg (qI bs) bs.length (J4 _)).2.1 i b (Jk hb).1 hi hb
theorem q6v {bs:List qE} (r:Nat->Bool):∀ k,k<=bs.length->z7 (zJ bs r k)<=z7 (bs.take k):=by
 intro k
 induction k with
 | zero=>intro _;rw [yt,List.take_zero];exact J4 _
 | succ k ih =>
  intro hk;have hb:bs[k]?=some bs[k]:=Jq (by omega);rw [jc hb,q07 hb];have h:=ih (by omega);(have e:∀ a b:List qE,z7 (a++b)=z7 a+z7 b:=λ a b=>by unfold z7;rw [List.map_append,List.sum_append]);rw [e]
  split
  ·(have:z7 [q0H bs r k bs[k]]=bs[k].phis.length+bs[k].ins.length:=by unfold z7 q0H;simp);omega
  ·have:z7 ([]:List qE)=0:=rfl;omega
theorem q3h {bs:List qE}:∀ (l:List qE) (i:Nat),(∀ k b,l[k]?=some b->∀ p∈b.phis,p.args.length=(qH bs ((i+k:Nat):Int)).length)->vV bs l i=true
 | [],_,_=>rfl
 | b::l,i,h=>by
  simp only [vV,Bool.and_eq_true];refine ⟨List.all_eq_true.2 λ p hp=>decide_eq_true (h 0 b rfl p hp),q3h l (i+1) λ k c hk p hp=>?_⟩;have:=h (k+1) c hk p hp
  rwa [show i+(k+1)=i+1+k by omega] at this
theorem xA {bs:List qE} {c:qE} {j:Nat} (h:(qb bs)[j]?=some c):∃ i b,bs[i]?=some b/\qI bs i=true/\j=cnt (qI bs) i/\c=q0H bs (qI bs) i b:=by
 obtain ⟨i,hi,hr,rfl⟩:=(vg (qI bs) bs.length (J4 _)).2.2 j (Jk h).1;have hb:bs[i]?=some bs[i]:=Jq hi;exact ⟨i,_,hb,hr,rfl,J3 (h.symm.trans (q65 hb hr))⟩
theorem kg {m:List qB} {f:qB} (h:zh m f=0):zh m (qL f)=0:=by
 have hF:=q2j h;(have wm:f.blocks.length≠0:=by have:=hF.nb.1;omega);obtain ⟨ho,hb⟩:=funE_zero.1 h;obtain ⟨h1,h2,h3,h4⟩:=xX ho;have hlen:=kq f.blocks;have h0:qI f.blocks 0=true:=(zA wm).2 .refl;have wT:1<=(qb f.blocks).length:=by
  have:=(Jk (q65 (Jq (by omega):f.blocks[0]?=some f.blocks[0]) h0)).1;omega
 rw [funE_zero];constructor
 ·unfold y6;have wO:vG (qL f)=true:=by
   unfold vG at h1 ⊢;have h1:=of_decide_eq_true h1;have h5:=q6v (bs:=f.blocks) (qI f.blocks) f.blocks.length (J4 _);rw [List.take_length] at h5;(refine decide_eq_true ⟨wT,by show (qb f.blocks).length<=64;omega,h1.2.2.1,?_⟩);show (qb f.blocks).length+z7 (qb f.blocks)<=256;have:z7 (qb f.blocks)<=z7 f.blocks:=h5;omega
  have wJ:zZ (qL f)=true:=by
   unfold zZ at h3 ⊢;refine List.all_eq_true.2 λ c hc=>?_;obtain ⟨j,hj⟩:=List.getElem?_of_mem hc;obtain ⟨i,b,wh,hr,rfl,rfl⟩:=xA hj;have hs:=List.all_eq_true.1 h3 b (Jz wh);unfold yP at hs ⊢;rw [Bool.and_eq_true] at hs ⊢;obtain ⟨wg,wQ⟩:=hs;have wj:∀ t∈b.term.to,∃ q:Nat,t=q/\0<q/\qI f.blocks q=true/\toT (qI f.blocks) f.blocks.length t=((cnt (qI f.blocks) q:Nat):Int):=λ t ht=>by
    have:=of_decide_eq_true (List.all_eq_true.1 wQ t ht);(have wl:qI f.blocks t.toNat=true:=(zA wm).2 (.step ((zA wm).1 hr) ((yW wh).2 ⟨by omega,by rw [show ((t.toNat:Nat):Int)=t by omega];exact ht⟩)));exact ⟨t.toNat,by omega,by omega,wl,(q4g wm wh hr wl ht).2 (by omega)⟩
   constructor
   ·unfold jp at wg ⊢;show (if b.term.kind=1 then decide ((b.term.to.map _).length=1) else if b.term.kind=2 then decide ((b.term.to.map _).length=2) && decide ((b.term.to.map _).getD 0 0≠(b.term.to.map _).getD 1 0) else if b.term.kind=3 then decide ((b.term.to.map _).length=0) else false)=true;rw [List.length_map]
    split at wg
    ·rename_i k;rw [if_pos k];exact wg
    ·rename_i k;rw [if_neg k]
     split at wg
     ·rename_i k2;rw [if_pos k2];rw [Bool.and_eq_true] at wg ⊢;refine ⟨wg.1,decide_eq_true ?_⟩;have hl:=of_decide_eq_true wg.1;have hne:=of_decide_eq_true wg.2;have hm:∀ i,i<2->(b.term.to.map (toT (qI f.blocks) f.blocks.length)).getD i 0=toT (qI f.blocks) f.blocks.length (b.term.to.getD i 0):=λ i hi=>by
       rw [JJ,JJ,List.getElem?_map,Jq (by omega)];rfl
      rw [hm 0 (by omega),hm 1 (by omega)];obtain ⟨q1,a1,a2,a3,a4⟩:=wj _ (q8T hl (by omega:0<2));obtain ⟨q2,b1,b2,b3,b4⟩:=wj _ (q8T hl (by omega:1<2));rw [a4,b4];intro e;have:=q60 a3 b3 (by omega);omega
     ·rename_i k2;rw [if_neg k2];exact wg
   ·refine List.all_eq_true.2 λ y hy=>?_;obtain ⟨t,ht,rfl⟩:=List.mem_map.1 hy;obtain ⟨q,rfl,wR,wv,e⟩:=wj t ht;rw [e];have hp:=q19 wR h0;have hq:=q19 (jH wv) wv;rw [q4C] at hp;have hlT:=km f.blocks;exact decide_eq_true ⟨by omega,by omega,by show _<((qb f.blocks).length:Int);omega⟩
  have ww:q05 (qL f)=true:=by
   refine q3h _ _ λ j c hj p hp=>?_;obtain ⟨i,b,wh,hr,rfl,rfl⟩:=xA (bs:=f.blocks) hj;obtain ⟨p0,wu,rfl⟩:=List.mem_map.1 hp;rw [Nat.zero_add];show (zX (qI f.blocks) (qH f.blocks (i:Int)) p0.args).length=(qH (qb f.blocks) _).length;have hl:=(hF.phis i b wh p0 wu).1;unfold zX;rw [if_pos hl,qAx wm hr];exact q0q _ _ _ hl.symm
  have wM:zv (qL f)=true:=h2;rw [if_pos wO,if_pos wM,wJ,ww];rfl
 ·intro c hc;obtain ⟨j,hj⟩:=List.getElem?_of_mem hc;obtain ⟨i,b,wh,hr,rfl,rfl⟩:=xA (bs:=f.blocks) hj;have hz:=hb b (Jz wh);rw [blockE_zero] at hz ⊢;obtain ⟨z1,z2,z3⟩:=hz;refine ⟨λ p hp=>?_,z2,z3⟩;obtain ⟨p0,wu,rfl⟩:=List.mem_map.1 hp;have hz:=z1 p0 wu
  have hl:=(hF.phis i b wh p0 wu).1;unfold jA at hz ⊢;obtain ⟨k1,hz⟩:=qf (by decide) hz;obtain ⟨k2,-⟩:=qf (by decide) hz;rw [Bool.and_eq_true] at k1;have wk:∀ y∈(kB (qI f.blocks) (qH f.blocks (i:Int)) p0).args,y∈p0.args:=λ y hy=>by
   have hy:y∈zX (qI f.blocks) (qH f.blocks (i:Int)) p0.args:=hy;unfold zX at hy;rw [if_pos hl] at hy;exact q1s hy
  have j1:zq (kB (qI f.blocks) (qH f.blocks (i:Int)) p0).args ((qL f).regs.length:Int)=true:=List.all_eq_true.2 λ y hy=>List.all_eq_true.1 k1.2 y (wk y hy);(rw [if_pos (by rw [Bool.and_eq_true];exact ⟨k1.1,j1⟩)]);exact if_pos (List.all_eq_true.2 λ y hy=>List.all_eq_true.1 k2 y (wk y hy))
def itF (F:(Nat->Bool)->Nat->Bool):Nat->Nat->Bool
 | 0=>λ _=>false
 | k+1=>F (itF F k)
def q4D (n:Nat) (o:Nat->Bool):Nat:=(List.range n).countP o
theorem q61 (n:Nat) (o:Nat->Bool):q4D n o<=n:=by
 unfold q4D;have:=List.countP_le_length (p:=o) (l:=List.range n)
 rwa [List.length_range] at this
theorem q2t {n b:Nat} {o o':Nat->Bool} (h:∀ b,o b=true->o' b=true) (hb:b<n) (h0:o b=false) (h1:o' b=true):q4D n o+1<=q4D n o':=by
 have hm:b∈List.range n:=List.mem_range.2 hb;obtain ⟨l1,l2,e⟩:=List.append_of_mem hm;unfold q4D;rw [e,List.countP_append,List.countP_append,List.countP_cons,List.countP_cons,h0,h1];have a1:List.countP o l1<=List.countP o' l1:=List.countP_mono_left λ b _ hb=>h b hb;have a2:List.countP o l2<=List.countP o' l2:=List.countP_mono_left λ b _ hb=>h b hb;simp;omega
theorem q9z {F:(Nat->Bool)->Nat->Bool} {n:Nat} (wg:∀ o b,o b=true->F o b=true) (wh:∀ o b,F o b=true->o b=true\/b<n):F (itF F n)=itF F n:=by
 have stay:∀ {j:Nat},F (itF F j)=itF F j->∀ k,itF F (j+k)=itF F j:=by
  intro j hj k
  induction k with
  | zero=>rfl
  | succ k ih=>show F (itF F (j+k))=_;rw [ih];exact hj
 have key:∀ k,(∃ j,j<=k/\F (itF F j)=itF F j)\/k<=q4D n (itF F k):=by
  intro k
  induction k with
  | zero=>exact .inr (Nat.zero_le _)
  | succ k ih =>
   rcases ih with ⟨j,h1,h2⟩ | ih
   ·exact .inl ⟨j,by omega,h2⟩
   ·by_cases e:F (itF F k)=itF F k
    ·exact .inl ⟨k,by omega,e⟩
    ·right;have:∃ b,itF F k b=false/\F (itF F k) b=true:=by
      apply Classical.byContradiction;intro wu;apply e;(funext b);cases h1:itF F k b
      ·cases h2:F (itF F k) b
       ·rfl
       ·exact absurd ⟨b,h1,h2⟩ wu
      ·exact wg _ _ h1
     obtain ⟨b,h1,h2⟩:=this;have hb:b<n:=by
      rcases wh _ _ h2 with h | h
      ·rw [h1] at h;cases h
      ·exact h
     have:=q2t (o:=itF F k) (o':=F (itF F k)) (λ b h=>wg _ _ h) hb h1 h2;show k+1<=q4D n (F (itF F k));omega
 rcases key n with ⟨j,h1,h2⟩ | h
 ·have:=stay h2 (n - j);rw [show j+(n - j)=n by omega] at this;rw [this,h2]
 ·(funext b);cases h1:itF F n b
  ·cases h2:F (itF F n) b
   ·rfl
   ·exfalso;have hb:b<n:=by
     rcases wh _ _ h2 with q | q
     ·rw [h1] at q;cases q
     ·exact q
    have h3:=q2t (o:=itF F n) (o':=F (itF F n)) (λ b h=>wg _ _ h) hb h1 h2;have:=q61 n (F (itF F n));omega
  ·exact wg _ _ h1
def setL (o:Nat->Bool) (l:List Nat):Nat->Bool:=λ b=>o b || decide (b∈l)
def stC (fr:Nat->List Nat) (mk:Nat->Bool) (o:Nat->Bool) (b:Nat):Nat->Bool:=if (mk b || o b)=true then setL o (fr b) else o
def rdC (fr:Nat->List Nat) (mk:Nat->Bool) (n:Nat) (o:Nat->Bool):Nat->Bool:=(List.range n).foldl (stC fr mk) o
def clC (fr:Nat->List Nat) (mk:Nat->Bool) (n:Nat):Nat->Bool:=itF (rdC fr mk n) n
variable {fr:Nat->List Nat} {mk:Nat->Bool} {n:Nat}
theorem q5g {o:Nat->Bool} {b x:Nat} (h:o x=true):stC fr mk o b x=true:=by
 unfold stC
 split
 ·unfold setL;rw [h];rfl
 ·exact h
theorem q3u:∀ (l:List Nat) {o:Nat->Bool} {x:Nat},o x=true->l.foldl (stC fr mk) o x=true:=by
 intro l
 induction l with
 | nil=>exact λ h=>h
 | cons b r ih=>exact λ h=>ih (q5g h)
theorem q8h (wk:∀ b,∀ x∈fr b,x<n):∀ (l:List Nat) {o:Nat->Bool} {x:Nat},l.foldl (stC fr mk) o x=true->o x=true\/x<n:=by
 intro l
 induction l with
 | nil=>exact λ h=>.inl h
 | cons b r ih =>
  intro o x h;rcases ih h with h | h
  ·unfold stC at h
   split at h
   ·unfold setL at h;rw [Bool.or_eq_true,decide_eq_true_iff] at h;rcases h with h | h
    ·exact .inl h
    ·exact .inr (wk b x h)
   ·exact .inl h
  ·exact .inr h
theorem q0C:∀ (l:List Nat) {o o':Nat->Bool} {b:Nat},(∀ x,o' x=true->o x=true)->b∈l->(mk b || o' b)=true->∀ x∈fr b,l.foldl (stC fr mk) o x=true:=by
 intro l
 induction l with
 | nil=>intro o o' b _ h;cases h
 | cons c r ih =>
  intro o o' b hs hb hm x hx;rcases List.mem_cons.1 hb with e | hb
  ·subst e;show r.foldl (stC fr mk) (stC fr mk o b) x=true;apply q3u;unfold stC;have:(mk b || o b)=true:=by
    rw [Bool.or_eq_true] at hm ⊢;exact hm.imp id (hs b)
   rw [if_pos this];unfold setL;rw [decide_eq_true hx,Bool.or_true]
  ·exact ih (o:=stC fr mk o c) (o':=o') (λ y hy=>q5g (hs y hy)) hb hm x hx
inductive ClG (fr:Nat->List Nat) (mk:Nat->Bool) (n:Nat):Nat->Prop
 | of {x b:Nat} (hx:x<n) (hm:mk x=true) (h:b∈fr x):ClG fr mk n b
 | on {x b:Nat} (hx:x<n) (hc:ClG fr mk n x) (h:b∈fr x):ClG fr mk n b
theorem q59:∀ (l:List Nat) {o:Nat->Bool},(∀ b∈l,b<n)->(∀ x,o x=true->ClG fr mk n x)->∀ x,l.foldl (stC fr mk) o x=true->ClG fr mk n x:=by
 intro l
 induction l with
 | nil=>exact λ _ h=>h
 | cons b r ih =>
  intro o hl ho;refine ih (o:=stC fr mk o b) (λ c hc=>hl c (List.mem_cons_of_mem _ hc)) λ x hx=>?_;unfold stC at hx
  split at hx
  ·rename_i hm;unfold setL at hx;rw [Bool.or_eq_true,decide_eq_true_iff] at hx;rw [Bool.or_eq_true] at hm;rcases hx with hx | hx
   ·exact ho x hx
   ·rcases hm with hm | hm
    ·exact .of (hl b List.mem_cons_self) hm hx
    ·exact .on (hl b List.mem_cons_self) (ho b hm) hx
  ·exact ho x hx
theorem q0P (wk:∀ b,∀ x∈fr b,x<n) (x:Nat):clC fr mk n x=true↔ClG fr mk n x:=by
 have wl:rdC fr mk n (clC fr mk n)=clC fr mk n:=q9z (F:=rdC fr mk n) (n:=n) (λ o b h=>q3u _ h) (λ o b h=>q8h wk _ h);constructor
 ·have:∀ k x,itF (rdC fr mk n) k x=true->ClG fr mk n x:=by
   intro k
   induction k with
   | zero=>intro x h;cases h
   | succ k ih=>exact λ x h=>q59 (List.range n) (λ b hb=>List.mem_range.1 hb) ih x h
  exact this n x
 ·intro h
  induction h with
  | of hx hm h =>
   rw [<- wl];exact q0C (List.range n) (λ y hy=>hy) (List.mem_range.2 hx) (by rw [hm];rfl) _ h
  | on hx hc h ih =>
   rw [<- wl];exact q0C (List.range n) (λ y hy=>hy) (List.mem_range.2 hx) (by rw [ih,Bool.or_true]) _ h
theorem qA7 {E D:Nat->Nat->Prop} {mkp:Nat->Prop} (wk:∀ b,∀ x∈fr b,x<n) (hF:∀ x b,x<n->(b∈fr x↔FrA E D x b)) (wm:∀ x,x<n->(mk x=true↔mkp x)) (wj:∀ x b,FrA E D x b->x<n) (x:Nat) :
  clC fr mk n x=true↔ClA E D mkp x:=by
 rw [q0P wk];constructor
 ·intro h
  induction h with
  | of hx hm h=>exact .of ((wm _ hx).1 hm) ((hF _ _ hx).1 h)
  | on hx hc h ih=>exact .more ih ((hF _ _ hx).1 h)
 ·intro h
  induction h with
  | of hm h=>exact .of (wj _ _ h) ((wm _ (wj _ _ h)).2 hm) ((hF _ _ (wj _ _ h)).2 h)
  | more hc h ih=>exact .on (wj _ _ h) ih ((hF _ _ (wj _ _ h)).2 h)
end Go.Proofs.YtfoggldjjnabcaaGreatDoor

namespace Go.Proofs.YtfoggldjjnabcaaGreatDoor
open Go.ChangeShapes Go.WideShapes Go.RowKit Go.Deep
variable {bs:List qE}
def frB (bs:List qE) (a b:Nat):Bool:=(raL bs bs.length b).any λ c=>upB bs c (qZ bs b) a
def mkJ (bs:List qE) (b j a:Nat):Bool:=((raL bs bs.length b).take j).any λ c=>upB bs c (qZ bs b) a
def mkY (bs:List qE) (b j c:Nat) (y:Int) (a:Nat):Bool:=mkJ bs b j a || upB bs c y a
def frL (bs:List qE) (m a:Nat):List Nat:=(List.range m).filter λ b=>frB bs a b
def frM (bs:List qE) (b:Nat) (M:Nat->Bool) (a:Nat):List Nat:=frL bs b a++(if M a=true then [b] else [])
theorem q8g (bs:List qE) (m a:Nat):frL bs (m+1) a=frL bs m a++(if frB bs a m=true then [m] else []):=by
 unfold frL;rw [List.range_succ,List.filter_append];congr 1
 by_cases h:frB bs a m=true
 ·rw [if_pos h];simp [h]
 ·rw [if_neg h];simp [h]
theorem kh (bs:List qE) (b a:Nat):frL bs b a=frM bs b (mkJ bs b 0) a:=by unfold frM mkJ;simp
theorem qA1 (bs:List qE) {b j:Nat} (hj:(raL bs bs.length b).length<=j) (a:Nat):frM bs b (mkJ bs b j) a=frL bs (b+1) a:=by
 unfold frM;rw [q8g];unfold mkJ frB;rw [List.take_of_length_le hj]
theorem qA2 (bs:List qE) (m a:Nat):(frL bs m a).length<=m:=by unfold frL;exact Nat.le_trans (List.length_filter_le _ _) (by simp)
theorem q3c {b j c:Nat} (hc:(raL bs bs.length b)[j]?=some c) (a:Nat):mkJ bs b (j+1) a=(mkJ bs b j a || upB bs c (qZ bs b) a):=by
 unfold mkJ;rw [qG hc,List.any_append];simp
end Go.Proofs.YtfoggldjjnabcaaGreatDoor

namespace Go.Proofs.YtfoggldjjnabcaaGreatDoor
open Go.ChangeShapes Go.WideShapes Go.RowKit Go.Deep
variable {bs:List qE}
def q3A (bs:List qE) (c:Nat):List Int:=match bs[c]? with
 | some x=>x.term.to
 | none=>[]
theorem q0W {c:Nat} {x:qE} (h:bs[c]?=some x):q3A bs c=x.term.to:=by unfold q3A;rw [h]
end Go.Proofs.YtfoggldjjnabcaaGreatDoor

namespace Go.Proofs.YtfoggldjjnabcaaGreatDoor
open Go.ChangeShapes Go.WideShapes Go.RowKit Go.Deep
variable {bs:List qE}
def qAg (bs:List qE) (a b k:Nat):Bool:=(List.range k).any λ c=>dmB bs a c && zd b (q3A bs c)
def rfB (bs:List qE) (a b:Nat):Bool:=qAg bs a b bs.length && (decide (a=b) || !dmB bs a b)
def rfL (bs:List qE) (m a:Nat):List Nat:=(List.range m).filter (rfB bs a)
theorem q7t {m a b:Nat} (h:b∈rfL bs m a):b<m:=by unfold rfL at h;rw [List.mem_filter,List.mem_range] at h;exact h.1
theorem NearB.dm_near {N:Nat->Int} {ord:Nat->Nat} (h:NearB bs N ord) {a b:Nat} (ha:a<bs.length) (hb:b<bs.length) (wv:qi bs 0 (-1) b=true):(decide (a=b) || !dmB bs a b)=(decide (N b<0) || !dmB bs a (N b).toNat):=by
 by_cases h0:b=0
 ·subst h0;rw [h.none 0 hb (.inr rfl)];have:decide ((-1:Int)<0)=true:=rfl;rw [this,Bool.true_or];cases hd:dmB bs a 0
  ·simp
  ·have h1:=h.first a ha (h.reach a 0 ha hb hd);have h2:=h.ord 0 a hb ha h1;have h3:=h.ord a 0 ha hb hd;have:a=0:=h3.2 (by omega);simp [this]
 ·obtain ⟨p,hp,he,ww,wu,wm⟩:=h.some b hb wv h0;rw [he,Int.toNat_natCast,decide_eq_false (by omega:¬ ((p:Int)<0)),Bool.false_or]
  by_cases e:a=b
  ·subst e;have wJ:dmB bs a p=false:=by
    cases wh:dmB bs a p
    ·rfl
    ·have h1:=h.ord a p ha hp wh;have h2:=h.ord p a hp ha wu;exact absurd (h2.2 (by omega)) ww
   rw [wJ];simp
  ·rw [decide_eq_false e,Bool.false_or];have:dmB bs a b=dmB bs a p:=by
    cases wh:dmB bs a b
    ·cases wl:dmB bs a p
     ·rfl
     ·rw [h.trans a p b wl wu] at wh;cases wh
    ·exact (wm a ha e wh).symm
   rw [this]
theorem q3K {c b:Nat} (hn:0<bs.length) (hc:qI bs c=true) (hb:b∈nxF bs c):qI bs b=true:=by
 unfold qI vn at hc ⊢;rw [decide_eq_true_iff,vF (zD bs) (by omega)] at hc ⊢;exact .step hc hb
theorem NearB.fr_eq {ord:Nat->Nat} (h:NearB bs (qZ bs) ord) {a b:Nat} (ha:a<bs.length) (hb:b<bs.length):rfB bs a b=frB bs a b:=by
 have key:∀ c,(c<bs.length/\(dmB bs a c && zd b (q3A bs c))=true)↔(c∈raL bs bs.length b/\dmB bs a c=true):=λ c=>by
  constructor
  ·rintro ⟨hc,h1⟩;rw [Bool.and_eq_true] at h1;refine ⟨?_,h1.1⟩;unfold raL;rw [List.mem_filter,List.mem_range,Bool.and_eq_true,decide_eq_true_iff];(refine ⟨hc,by rw [<- qY];exact q8o h1.1,?_⟩);have wj:bs[c]?=Option.some (bs[c]'hc):=Jq hc;rw [yW wj];refine ⟨hb,?_⟩
   have h2:=h1.2;rw [q0W wj] at h2;unfold zd at h2;rw [List.any_eq_true] at h2;obtain ⟨y,hy,e⟩:=h2;rw [beq_iff_eq] at e;exact e ▸ hy
  ·rintro ⟨h1,h2⟩;obtain ⟨hc,-,wg⟩:=kW h1;refine ⟨hc,?_⟩;have wj:bs[c]?=Option.some (bs[c]'hc):=Jq hc;rw [yW wj] at wg;rw [h2,q0W wj,Bool.true_and];unfold zd;rw [List.any_eq_true];exact ⟨_,wg.2,by simp⟩
 rw [Bool.eq_iff_iff];unfold rfB frB qAg;rw [Bool.and_eq_true,List.any_eq_true,List.any_eq_true];constructor
 ·rintro ⟨⟨c,hc,h1⟩,h2⟩;obtain ⟨h3,h4⟩:=(key c).1 ⟨List.mem_range.1 hc,h1⟩;refine ⟨c,h3,?_⟩;obtain ⟨-,wk,wg⟩:=kW h3;unfold upB;rw [<- h.dm_near ha hb (by rw [qY];exact q3K (by omega) wk wg),h4,h2];rfl
 ·rintro ⟨c,h3,h1⟩;unfold upB at h1;rw [Bool.and_eq_true] at h1;obtain ⟨-,wk,wg⟩:=kW h3;(rw [<- h.dm_near ha hb (by rw [qY];exact q3K (by omega) wk wg)] at h1);obtain ⟨h5,h6⟩:=(key c).2 ⟨h3,h1.1⟩;exact ⟨⟨c,List.mem_range.2 h5,h6⟩,h1.2⟩
theorem NearB.fr_all {ord:Nat->Nat} (h:NearB bs (qZ bs) ord) {a:Nat} (ha:a<bs.length):rfL bs bs.length a=frL bs bs.length a:=by
 unfold rfL frL;exact List.filter_congr λ b hb=>by rw [h.fr_eq ha (List.mem_range.1 hb)]
end Go.Proofs.YtfoggldjjnabcaaGreatDoor

namespace Go.Proofs.YtfoggldjjnabcaaGreatDoor
variable {f:qB}
def DBl (bs:List qE) (a b:Nat):Prop:=a<bs.length/\b<bs.length/\dmB bs a b=true
def y7 (bs:List qE) (b:Nat):Nat:=(qV bs).idxOf b
theorem xY {bs:List qE} {b:Nat} (h:qI bs b=true):(qV bs)[y7 bs b]?=some b:=by
 have hm:=orderF_mem.2 h;unfold y7;have hl:=List.idxOf_lt_length_of_mem hm;rw [Jq hl,List.getElem_idxOf hl]
theorem q2X {bs:List qE} {i b:Nat} (h:(qV bs)[i]?=some b):y7 bs b=i:=by
 have hl:=(Jk h);obtain ⟨h1,h2⟩:=hl;have hm:b∈qV bs:=h2 ▸ List.getElem_mem h1;have h3:=List.idxOf_lt_length_of_mem hm;(have h4:(qV bs)[(qV bs).idxOf b]=(qV bs)[i]:=by rw [List.getElem_idxOf h3,h2]);exact (List.getElem_inj (kE bs)).1 h4
theorem qAs {ord:Nat->Nat} (N:NearB f.blocks (qZ f.blocks) ord) (hn:0<f.blocks.length) (wk:∀ b,b<f.blocks.length->qI f.blocks b=true) (h0:qH f.blocks 0=[]) :
  DomA f.blocks.length (EdP f) (DBl f.blocks) (λ b=>(qZ f.blocks b).toNat) (y7 f.blocks):=by
 (have wJ:∀ b,b<f.blocks.length->qi f.blocks 0 (-1) b=true:=λ b hb=>by rw [qY];exact wk b hb);have wj:∀ b,b<f.blocks.length->b≠0->∃ a,a<f.blocks.length/\(qZ f.blocks b).toNat=a/\a≠b/\dmB f.blocks a b=true/\∀ c,c<f.blocks.length->c≠b->dmB f.blocks c b=true->dmB f.blocks c a=true:=λ b hb wg=>by
  obtain ⟨a,h1,h2,h3,h4,h5⟩:=N.some b hb (wJ b hb) wg;exact ⟨a,h1,by rw [h2];rfl,h3,h4,h5⟩
 have wm:∀ p b,EdP f p b->p<f.blocks.length/\b<f.blocks.length/\b≠0:=λ p b h=>by
  obtain ⟨hb,hp⟩:=h;obtain ⟨x,hx,-⟩:=aheadL_iff.1 hp;exact ⟨(Jk hx).1,hb,λ e=>by subst e;have wU:(p:Int)∈qH f.blocks 0:=hp;rw [h0] at wU;cases wU⟩
 refine ⟨λ a b h=>⟨h.1,h.2.1⟩,λ b hb=>⟨hb,hb,N.self b hb (wJ b hb)⟩,λ a b c h k=>⟨h.1,k.2.1,N.trans a b c h.2.2 k.2.2⟩,λ a b h k=>?_,λ b hb=>⟨hn,hb,N.first b hb (wJ b hb)⟩,λ b hb wg=>?_,λ a b hb wg h ww=>?_,λ b hb wg=>?_,λ b hb wg=>?_,wm,λ a p b he h ww=>?_⟩
 ·have h1:=N.ord a b h.1 h.2.1 h.2.2;have h2:=N.ord b a k.1 k.2.1 k.2.2;exact h1.2 (by omega)
 ·obtain ⟨a,h1,h2,h3,h4,-⟩:=wj b hb wg;simp only [h2];exact ⟨⟨h1,hb,h4⟩,h3⟩
 ·obtain ⟨c,h1,h2,h3,h4,h5⟩:=wj b hb wg;simp only [h2];exact ⟨h.1,h1,h5 a h.1 ww h.2.2⟩
 ·obtain ⟨a,h1,h2,h3,h4,-⟩:=wj b hb wg;simp only [h2];have hi:=xY (wk b hb);have hm:=kX hi a h4;obtain ⟨j,hj,he⟩:=List.mem_iff_getElem.1 hm;(have wV:j<y7 f.blocks b+1:=by rw [List.length_take] at hj;omega);rw [List.getElem_take] at he;(have wZ:(qV f.blocks)[j]?=some a:=by rw [Jq (by rw [List.length_take] at hj;omega),he]);have ho:=q2X wZ
  rcases Nat.lt_or_ge (y7 f.blocks a) (y7 f.blocks b) with h | h
  ·exact h
  ·exfalso;(have:y7 f.blocks a=y7 f.blocks b:=by omega);rw [<- this,xY (wk a h1)] at hi;injection hi with hi;exact h3 hi
 ·have hi:=xY (wk b hb);have wO:0<y7 f.blocks b:=by
   rcases Nat.eq_zero_or_pos (y7 f.blocks b) with h | h
   ·exfalso;have hm:=kX hi 0 (N.first b hb (wJ b hb));rw [h] at hm hi;obtain ⟨j,hj,he⟩:=List.mem_iff_getElem.1 hm;(have wV:j=0:=by rw [List.length_take] at hj;omega);subst wV;rw [List.getElem_take] at he;have:=(Jk hi).2;rw [he] at this
    exact wg this.symm
   ·exact h
  obtain ⟨j,y,hj,hy,hx⟩:=q0e (zD f.blocks) hi wO;exact ⟨y,⟨hb,(q5n hb).1 hx⟩,by rw [q2X hy];exact hj⟩
 ·obtain ⟨hp,hb,wg⟩:=wm p b he;exact ⟨h.1,hp,kZ hn h.2.2 ww (wk p hp) ((q5n hb).2 he.2)⟩
theorem qAn (wk:∀ b,b<f.blocks.length->qI f.blocks b=true) {x b:Nat} (hx:x<f.blocks.length):b∈rfL f.blocks f.blocks.length x↔FrA (EdP f) (DBl f.blocks) x b:=by
 have wT:∀ c,c<f.blocks.length->(zd (b:Int) (q3A f.blocks c)=true↔(c:Int)∈qH f.blocks b):=λ c hc=>by
  have hk:=Jq hc;rw [aheadL_iff,q0W hk];unfold zd;constructor
  ·intro h;obtain ⟨z,hz,e⟩:=List.any_eq_true.1 h;rw [beq_iff_eq] at e;exact ⟨_,hk,e ▸ hz⟩
  ·rintro ⟨y,hy,hm⟩;rw [hk] at hy;injection hy with hy;subst hy;exact List.any_eq_true.2 ⟨_,hm,by simp⟩
 unfold rfL;rw [List.mem_filter,List.mem_range];unfold rfB qAg FrA;rw [Bool.and_eq_true,List.any_eq_true,Bool.or_eq_true,decide_eq_true_iff,Bool.not_eq_true'];constructor
 ·rintro ⟨hb,⟨c,hc,wR⟩,hd⟩;rw [List.mem_range] at hc;rw [Bool.and_eq_true] at wR;refine ⟨λ h=>?_,c,⟨hb,(wT c hc).1 wR.2⟩,hx,hc,wR.1⟩;rcases hd with h1 | h1
  ·exact h.2 h1
  ·rw [h.1.2.2] at h1;cases h1
 ·rintro ⟨hn,p,⟨hb,hp⟩,hd⟩;refine ⟨hb,⟨p,List.mem_range.2 hd.2.1,?_⟩,?_⟩
  ·rw [Bool.and_eq_true];exact ⟨hd.2.2,(wT p hd.2.1).2 hp⟩
  ·by_cases e:x=b
   ·exact .inl e
   ·right;cases h:dmB f.blocks x b
    ·rfl
    ·exact absurd ⟨⟨hx,hb,h⟩,e⟩ hn
section
variable {bs:List qE}
theorem dm_cases {a b:Nat}:dmB bs a b=true↔qI bs b=true/\(a=b\/qi bs 0 a b=false):=by
 unfold dmB;rw [qY,Bool.and_eq_true,Bool.or_eq_true,decide_eq_true_iff,Bool.not_eq_true']
theorem xB (hn:0<bs.length) {a:Nat} (ha:a≠0):qi bs 0 a 0=true:=(zn hn ha 0).2 .refl
theorem q0Q (hn:0<bs.length) {a x y:Nat} (h:qi bs 0 a x=true) (hy:y∈nxF bs x) (ww:y≠a):qi bs 0 a y=true:=by
 by_cases ha:a=0
 ·subst ha;rw [show qi bs 0 ((0:Nat):Int) x=false from yd bs x] at h;cases h
 ·exact (zn hn ha y).2 (((zn hn ha x).1 h).step (nxW_mem.2 ⟨hy,by omega⟩))
theorem q47 (hn:0<bs.length) {a b:Nat} (h:dmB bs a b=true):qI bs a=true:=by
 obtain ⟨h1,h2⟩:=dm_cases.1 h;rcases h2 with rfl | h2
 ·exact h1
 ·have hr:=(zA (by omega)).1 h1;have key:∀ x,Reach (nxF bs) 0 x->qi bs 0 a x=true\/qI bs a=true:=by
   intro x hx
   induction hx with
   | refl =>
    by_cases ha:a=0
    ·subst ha;exact .inr ((zA (by omega)).2 .refl)
    ·exact .inl (xB hn ha)
   | @step x y hx hy ih =>
    rcases ih with h | h
    ·by_cases e:y=a
     ·subst e;exact .inr ((zA (by omega)).2 (hx.step hy))
     ·exact .inl (q0Q hn h hy e)
    ·exact .inr h
  rcases key b hr with h | h
  ·rw [h2] at h;cases h
  ·exact h
theorem q48 (hn:0<bs.length) {a b c:Nat} (h:dmB bs a b=true) (k:dmB bs b c=true):dmB bs a c=true:=by
 obtain ⟨h1,h2⟩:=dm_cases.1 h;obtain ⟨k1,k2⟩:=dm_cases.1 k;refine dm_cases.2 ⟨k1,?_⟩;rcases h2 with rfl | h2
 ·exact k2
 ·rcases k2 with rfl | k2
  ·exact .inr h2
  ·right;cases wu:qi bs 0 a c
   ·rfl
   ·exfalso
    by_cases ha:a=0
    ·subst ha;rw [show qi bs 0 ((0:Nat):Int) c=false from yd bs c] at wu;cases wu
    ·have hr:=(zn hn ha c).1 wu;have key:∀ x,Reach (nxW (nxF bs) a) 0 x->qi bs 0 b x=true\/qi bs 0 a b=true:=by
      intro x hx
      induction hx with
      | refl =>
       by_cases hb:b=0
       ·subst hb;exact .inr (xB hn ha)
       ·exact .inl (xB hn hb)
      | @step x y hx hy ih =>
       rcases ih with h | h
       ·by_cases e:y=b
        ·subst e;exact .inr ((zn hn ha y).2 (hx.step hy))
        ·exact .inl (q0Q hn h (nxW_mem.1 hy).1 e)
       ·exact .inr h
     rcases key c hr with h | h
     ·rw [k2] at h;cases h
     ·rw [h2] at h;cases h
theorem q8p (hn:0<bs.length) {a c x:Nat} (h:dmB bs a x=true) (k:dmB bs c x=true):dmB bs a c=true\/dmB bs c a=true:=by
 have wM:=q47 hn h;have wY:=q47 hn k;obtain ⟨h1,h2⟩:=dm_cases.1 h;obtain ⟨k1,k2⟩:=dm_cases.1 k;rcases h2 with rfl | h2
 ·exact .inr k
 ·rcases k2 with rfl | k2
  ·exact .inl h
  ·cases wu:qi bs 0 a c
   ·exact .inl (dm_cases.2 ⟨wY,.inr wu⟩)
   ·cases wW:qi bs 0 c a
    ·exact .inr (dm_cases.2 ⟨wM,.inr wW⟩)
    ·exfalso;have key:∀ x,Reach (nxF bs) 0 x->qi bs 0 a x=true\/qi bs 0 c x=true:=by
      intro x hx
      induction hx with
      | refl =>
       by_cases ha:a=0
       ·subst ha;rw [show qi bs 0 ((0:Nat):Int) c=false from yd bs c] at wu;cases wu
       ·exact .inl (xB hn ha)
      | @step x y hx hy ih =>
       rcases ih with h | h
       ·by_cases e:y=a
        ·subst e;exact .inr wW
        ·exact .inl (q0Q hn h hy e)
       ·by_cases e:y=c
        ·subst e;exact .inl wu
        ·exact .inr (q0Q hn h hy e)
     rcases key x ((zA (by omega)).1 h1) with h | h
     ·rw [h2] at h;cases h
     ·rw [k2] at h;cases h
theorem qA4 (hn:0<bs.length) {a:Nat} (h:dmB bs a 0=true):a=0:=by
 rcases (dm_cases.1 h).2 with h2 | h2
 ·exact h2
 ·by_cases ha:a=0
  ·exact ha
  ·rw [xB hn ha] at h2;cases h2
theorem q49 {b:Nat} (h:qI bs b=true):dmB bs 0 b=true:=dm_cases.2 ⟨h,.inr (yd bs b)⟩
theorem q5D (hn:0<bs.length) {a b:Nat} (h:dmB bs a b=true):y7 bs a<=y7 bs b/\(y7 bs a=y7 bs b->a=b):=by
 have wM:=q47 hn h;have wv:=(dm_cases.1 h).1;have hm:=kX (xY wv) a h;obtain ⟨j,hj,he⟩:=List.mem_iff_getElem.1 hm;rw [List.getElem_take] at he;rw [List.length_take] at hj;have ho:=q2X (List.getElem?_eq_some_iff.2 ⟨by omega,he⟩);refine ⟨by omega,λ e=>?_⟩;have h1:=xY wM
 rw [e,xY wv] at h1;injection h1 with h1;exact h1.symm
theorem q4s (hn:0<bs.length) {b:Nat} (hb:b<bs.length) (wv:qI bs b=true) (wg:b≠0):∃ a,a<bs.length/\a≠b/\dmB bs a b=true/\∀ c,c<bs.length->c≠b->dmB bs c b=true->dmB bs c a=true:=by
 have key:∀ k,k<=bs.length->∃ a,a<bs.length/\a≠b/\dmB bs a b=true/\∀ c,c<k->c≠b->dmB bs c b=true->dmB bs c a=true:=by
  intro k
  induction k with
  | zero=>exact λ _=>⟨0,hn,λ e=>wg e.symm,q49 wv,λ c hc=>by omega⟩
  | succ k ih =>
   intro hk;obtain ⟨a,h1,h2,h3,h4⟩:=ih (by omega)
   by_cases hd:k≠b/\dmB bs k b=true
   ·rcases q8p hn hd.2 h3 with h | h
    ·exact ⟨a,h1,h2,h3,λ c hc wh wl=>by
      by_cases e:c=k
      ·subst e;exact h
      ·exact h4 c (by omega) wh wl⟩
    ·exact ⟨k,by omega,hd.1,hd.2,λ c hc wh wl=>by
      by_cases e:c=k
      ·subst e;exact dm_cases.2 ⟨q47 hn hd.2,.inl rfl⟩
      ·exact q48 hn (h4 c (by omega) wh wl) h⟩
   ·exact ⟨a,h1,h2,h3,λ c hc wh wl=>by
     by_cases e:c=k
     ·subst e;exact absurd ⟨wh,wl⟩ hd
     ·exact h4 c (by omega) wh wl⟩
 exact key bs.length (J4 _)
theorem q0l (hn:0<bs.length):NearB bs (qZ bs) (y7 bs):=by
 have wQ:∀ b a,vv bs b a=true↔a≠b/\dmB bs a b=true/\∀ c,c<bs.length->c≠b->dmB bs c b=true->dmB bs c a=true:=λ b a=>by
  unfold vv;rw [Bool.and_eq_true,Bool.and_eq_true,decide_eq_true_iff,List.all_eq_true];constructor
  ·rintro ⟨⟨h1,h2⟩,h3⟩;refine ⟨h1,h2,λ c hc wh wl=>?_⟩;have:=h3 c (List.mem_range.2 hc);simpa [wh,wl] using this
  ·rintro ⟨h1,h2,h3⟩;refine ⟨⟨h1,h2⟩,λ c hc=>?_⟩;rw [List.mem_range] at hc
   by_cases wh:c=b
   ·simp [wh]
   ·cases wl:dmB bs c b
    ·simp
    ·simp [wh,h3 c hc wh wl]
 refine ⟨λ b hb h=>xh _ λ a ha=>?_,λ b hb h wg=>?_,λ a b ha hb h=>q5D hn h,λ a ha h=>dm_cases.2 ⟨by rwa [qY] at h,.inl rfl⟩,λ a b c h k=>q48 hn h k,λ b hb h=>q49 (by rwa [qY] at h),λ a b ha hb h=>by rw [qY];exact q47 hn h⟩
 ·cases hi:vv bs b a
  ·rfl
  ·exfalso;obtain ⟨h1,h2,-⟩:=(wQ b a).1 hi;rcases h with h | h
   ·rw [qY] at h;rw [(dm_cases.1 h2).1] at h;cases h
   ·subst h;exact h1 (qA4 hn h2)
 ·rw [qY] at h;obtain ⟨a,h1,h2,h3,h4⟩:=q4s hn hb h wg;refine ⟨a,h1,q0k ((wQ b a).2 ⟨h2,h3,h4⟩) (λ c hc hi=>?_) _ h1 (J4 _),h2,h3,h4⟩;obtain ⟨k1,k2,k3⟩:=(wQ b c).1 hi;have e1:=q5D hn (h4 c hc k1 k2);have e2:=q5D hn (k3 a h1 h2 h3);exact e1.2 (by omega)
end
theorem qAt (wk:∀ b,b<f.blocks.length->qI f.blocks b=true) (r b:Nat) :
  clC (rfL f.blocks f.blocks.length) (λ b=>decide (b=0) || mkB f.blocks b r) f.blocks.length b=true↔ClA (EdP f) (DBl f.blocks) (mkP f r) b :=
 qA7 (λ b x hx=>q7t hx) (λ x b hx=>qAn wk hx) (λ x hx=>by unfold mkP;rw [Bool.or_eq_true,decide_eq_true_iff]) (λ x b h=>by obtain ⟨-,p,-,hd⟩:=h;exact hd.1) b
open Classical in
noncomputable def q9 (f:qB):SsP:=⟨f,λ b r=>decide (vJ f.blocks false b r),λ b r=>clC (rfL f.blocks f.blocks.length) (λ b=>decide (b=0) || mkB f.blocks b r) f.blocks.length b,λ b=>(qZ f.blocks b).toNat⟩
theorem qBl {b r:Nat}:(q9 f).W b r=true↔vJ f.blocks false b r:=@decide_eq_true_iff _ (Classical.propDecidable _)
theorem q5T {m:List qB} (F:q2H m f):qH f.blocks 0=[]:=by
 rw [List.eq_nil_iff_forall_not_mem];intro z hz;have h1:=qw f.blocks 0 0 z hz;(have wX:z=((z.toNat:Nat):Int):=by omega);rw [wX] at hz;obtain ⟨x,hx,hm⟩:=(aheadL_iff (t:=0)).1 hz;have:=(F.tos x (Jz hx) _ hm).1;omega
theorem q5h {m:List qB} (F:q2H m f) (wk:∀ b,b<f.blocks.length->qI f.blocks b=true) (hp:∀ b∈f.blocks,b.phis=[]):SsOk m (q9 f) (DBl f.blocks) (y7 f.blocks):=by
 have hn:0<f.blocks.length:=F.nb.1;exact ⟨F,hp,qAs (q0l hn) hn wk (q5T F),λ r b hb=>qAt wk r b,λ b r hb hr=>qBl⟩
theorem q6M {m:List qB} {f:qB} (h:zh m f=0) (hp:∀ b∈f.blocks,b.phis=[]):SsOk m (q9 (qL f)) (DBl (qL f).blocks) (y7 (qL f).blocks):=by
 refine q5h (q2j (kg h)) (λ b hb=>kV hb) λ c hc=>?_;obtain ⟨j,hj⟩:=List.mem_iff_getElem?.1 hc;obtain ⟨i,b,hb,-,-,rfl⟩:=xA hj;show b.phis.map _=[];rw [hp b (Jz hb)];rfl
end Go.Proofs.YtfoggldjjnabcaaGreatDoor
