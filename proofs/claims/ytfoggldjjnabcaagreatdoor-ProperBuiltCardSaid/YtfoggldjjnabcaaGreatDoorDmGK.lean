/- Blocks that lead to blocks: going through them one behind the other, in mathematics. No condition. -/
import Derived.Test.YtfoggldjjnabcaaGreatDoorModAK
import Derived.Test.YtfoggldjjnabcaaGreatDoorDmMK
namespace Go.Proofs.YtfoggldjjnabcaaGreatDoor
open Go.ChangeShapes Go.WideShapes Go.RowKit Go.Deep
set_option linter.unusedVariables false
set_option linter.unusedSimpArgs false
def kx (n:Nat) (acc:List Nat) (t:Int):List Nat:=if 0<=t/\t<n/\t.toNat ∉ acc then acc++[t.toNat] else acc
def zH (n:Nat) (ts:List Int):List Nat:=ts.foldl (kx n) []
theorem q9D {n:Nat} {acc:List Nat} {t:Int} {q:Nat}:q∈kx n acc t↔q∈acc\/(q<n/\(q:Int)=t):=by
 unfold kx
 split
 ·rename_i h;rw [List.mem_append,List.mem_singleton];constructor
  ·rintro (h1 | h1)
   ·exact .inl h1
   ·exact .inr ⟨by omega,by omega⟩
  ·rintro (h1 | h1)
   ·exact .inl h1
   ·exact .inr (by omega)
 ·rename_i h;constructor
  ·exact .inl
  ·rintro (h1 | ⟨h1,h2⟩)
   ·exact h1
   ·apply Classical.byContradiction;intro h3;exact h ⟨by omega,by omega,by rw [<- h2];simpa using h3⟩
theorem q76 {n:Nat} {ts:List Int} {q:Nat}:∀ {acc:List Nat},q∈ts.foldl (kx n) acc↔q∈acc\/(q<n/\(q:Int)∈ts):=by
 induction ts with
 | nil=>intro acc;simp
 | cons t ts ih =>
  intro acc;rw [List.foldl_cons,ih,q9D,List.mem_cons];constructor
  ·rintro ((h | ⟨h1,h2⟩) | ⟨h1,h2⟩)
   ·exact .inl h
   ·exact .inr ⟨h1,.inl h2⟩
   ·exact .inr ⟨h1,.inr h2⟩
  ·rintro (h | ⟨h1,h2 | h2⟩)
   ·exact .inl (.inl h)
   ·exact .inl (.inr ⟨h1,h2⟩)
   ·exact .inr ⟨h1,h2⟩
theorem nextN_mem {n:Nat} {ts:List Int} {q:Nat}:q∈zH n ts↔q<n/\(q:Int)∈ts:=by
 unfold zH;rw [q76];simp
theorem q4r (n:Nat) (ts:List Int) (t:Int):zH n (ts++[t])=kx n (zH n ts) t:=by
 unfold zH;rw [List.foldl_append];rfl
theorem q5W {n:Nat} {acc:List Nat} {t:Int} (h:acc.Nodup):(kx n acc t).Nodup:=by
 unfold kx
 split
 ·rename_i h2;rw [List.nodup_append];exact ⟨h,by simp,λ a ha b hb e=>h2.2.2 (by rw [List.mem_singleton.1 hb] at e;rw [<- e];exact ha)⟩
 ·exact h
theorem ju (n:Nat) (ts:List Int):(zH n ts).Nodup:=by
 have key:∀ (ts:List Int) (acc:List Nat),acc.Nodup->(ts.foldl (kx n) acc).Nodup:=by
  intro ts
  induction ts with
  | nil=>exact λ _ h=>h
  | cons t ts ih=>exact λ acc h=>ih _ (q5W h)
 exact key ts [] (by simp)
theorem xI (n:Nat) (ts:List Int):(zH n ts).length<=n:=by
 have h:=List.Nodup.length_le_of_subset (ju n ts) (l₂:=List.range n) (λ x hx=>List.mem_range.2 (nextN_mem.1 hx).1);simpa using h
structure DS where
 seen:Nat->Bool
 out:List Nat
def mark (S:Nat->Bool) (b:Nat):Nat->Bool:=λ x=>if x=b then true else S x
def goL (v:Nat->DS->DS) (l:List Nat) (s:DS):DS:=l.foldl (λ s t=>if s.seen t=true then s else v t s) s
def qAp (b:Nat) (s:DS):DS:=⟨s.seen,s.out++[b]⟩
def qn (nx:Nat->List Nat):Nat->Nat->DS->DS
 | 0,_,s=>s
 | F+1,b,s=>qAp b (goL (qn nx F) (nx b) ⟨mark s.seen b,s.out⟩)
def rest (nx:Nat->List Nat) (F b:Nat) (l:List Nat) (s:DS):DS:=qAp b (goL (qn nx F) l s)
theorem q4Z (nx:Nat->List Nat) (F b:Nat) (s:DS):qn nx (F+1) b s=rest nx F b (nx b) ⟨mark s.seen b,s.out⟩:=rfl
theorem q3I (nx:Nat->List Nat) (F b:Nat) (s:DS):rest nx F b [] s=qAp b s:=rfl
theorem q6U (nx:Nat->List Nat) (F b t:Nat) (l:List Nat) (s:DS) (h:s.seen t=true):rest nx F b (t::l) s=rest nx F b l s:=by
 unfold rest goL;rw [List.foldl_cons,if_pos h]
theorem q7u (nx:Nat->List Nat) (F b t:Nat) (l:List Nat) (s:DS) (h:s.seen t=false):rest nx F b (t::l) s=rest nx F b l (qn nx F t s):=by
 unfold rest goL;rw [List.foldl_cons,if_neg (by rw [h];exact Bool.false_ne_true)]
def qj (n:Nat) (S:Nat->Bool):Nat:=(List.range n).countP λ i=>!S i
theorem kR (n:Nat) (S:Nat->Bool):qj n S<=n:=by
 have:=List.countP_le_length (p:=λ i=>!S i) (l:=List.range n);simpa [qj] using this
theorem kk {l:List Nat} {p q:Nat->Bool} (h:∀ x∈l,p x=true->q x=true):l.countP p<=l.countP q:=List.countP_mono_left h
theorem kz {n:Nat} {S S':Nat->Bool} (h:∀ x,S x=true->S' x=true):qj n S'<=qj n S:=by
 refine kk λ x _ hx=>?_;cases hs:S x
 ·rfl
 ·rw [h x hs] at hx;cases hx
theorem q4A {S:Nat->Bool} {b:Nat} (hS:S b=false):∀ {l:List Nat},l.Nodup->b∈l->(l.countP λ i=>!S i)=(l.countP λ i=>!mark S b i)+1:=by
 intro l
 induction l with
 | nil=>intro _ h;cases h
 | cons x l ih =>
  intro hn hb;rw [List.nodup_cons] at hn
  by_cases e:x=b
  ·subst e;have h2:(l.countP λ i=>!S i)=l.countP λ i=>!mark S x i:=by
    refine List.countP_congr λ y hy=>?_;have:y≠x:=λ e=>hn.1 (e ▸ hy);simp [mark,this]
   rw [List.countP_cons,List.countP_cons,h2,hS];simp [mark]
  ·have wM:b∈l:=by
    rcases List.mem_cons.1 hb with h | h
    ·exact absurd h.symm e
    ·exact h
   rw [List.countP_cons,List.countP_cons,ih hn.2 wM];simp [mark,e];omega
theorem vE {n b:Nat} {S:Nat->Bool} (hS:S b=false) (hb:b<n):qj n S=qj n (mark S b)+1 :=
 q4A hS List.nodup_range (List.mem_range.2 hb)
theorem xW {n b:Nat} {S:Nat->Bool} (hS:S b=false) (hb:b<n):0<qj n S:=by rw [vE hS hb];omega
theorem jN (S:Nat->Bool) (b:Nat):mark S b b=true:=by simp [mark]
theorem xJ {S:Nat->Bool} {b x:Nat} (h:S x=true):mark S b x=true:=by simp [mark,h]
theorem xk {S:Nat->Bool} {b x:Nat} (h:mark S b x=true):x=b\/S x=true:=by
 unfold mark at h;split at h
 ·exact .inl ‹_›
 ·exact .inr h
inductive Reach (nx:Nat->List Nat) (a:Nat):Nat->Prop
 | refl:Reach nx a a
 | step {x y:Nat}:Reach nx a x->y∈nx x->Reach nx a y
theorem Reach.trans {nx:Nat->List Nat} {a b c:Nat} (h:Reach nx a b) (k:Reach nx b c):Reach nx a c:=by
 induction k with
 | refl=>exact h
 | step _ hy ih=>exact .step ih hy
def Led (nx:Nat->List Nat) (e:List Nat) (b:Nat):Prop:=∀ (i x:Nat),e[i]?=some x->x∈nx b\/∃ j y:Nat,i<j/\e[j]?=some y/\x∈nx y
structure Went (nx:Nat->List Nat) (b:Nat) (s s':DS) (e:List Nat):Prop where
 out:s'.out=s.out++e
 nodup:e.Nodup
 mem:∀ x,x∈e↔(s'.seen x=true/\s.seen x=false)
 grows:∀ x,s.seen x=true->s'.seen x=true
 reach:∀ x∈e,Reach nx b x
 closed:∀ x∈e,∀ t∈nx x,s'.seen t=true
theorem Went.refl (nx:Nat->List Nat) (b:Nat) (s:DS):Went nx b s s [] :=
 ⟨by simp,by simp,λ x=>⟨λ h=>(by cases h),λ ⟨h1,h2⟩=>by rw [h1] at h2;cases h2⟩,λ _ h=>h,λ x h=>(by cases h),λ x h=>(by cases h)⟩
theorem Went.trans {nx:Nat->List Nat} {b:Nat} {s s1 s2:DS} {e1 e2:List Nat} (h:Went nx b s s1 e1) (k:Went nx b s1 s2 e2):Went nx b s s2 (e1++e2):=by
 refine ⟨by rw [k.out,h.out,List.append_assoc],?_,λ x=>?_,λ x hx=>k.grows x (h.grows x hx),λ x hx=>?_,λ x hx=>?_⟩
 ·rw [List.nodup_append];refine ⟨h.nodup,k.nodup,λ a ha c hc e=>?_⟩;subst e;have h1:=((h.mem a).1 ha).1;have h2:=((k.mem a).1 hc).2;rw [h1] at h2;cases h2
 ·rw [List.mem_append,h.mem,k.mem];constructor
  ·rintro (⟨h1,h2⟩ | ⟨h1,h2⟩)
   ·exact ⟨k.grows x h1,h2⟩
   ·refine ⟨h1,?_⟩;cases h3:s.seen x
    ·rfl
    ·rw [h.grows x h3] at h2;cases h2
  ·rintro ⟨h1,h2⟩;cases h3:s1.seen x
   ·exact .inr ⟨h1,rfl⟩
   ·exact .inl ⟨rfl,h2⟩
 ·rcases List.mem_append.1 hx with hx | hx
  ·exact h.reach x hx
  ·exact k.reach x hx
 ·rcases List.mem_append.1 hx with hx | hx
  ·exact λ t ht=>k.grows t (h.closed x hx t ht)
  ·exact k.closed x hx
theorem Led.nil (nx:Nat->List Nat) (b:Nat):Led nx [] b:=λ i x h=>by simp at h
theorem Led.trans {nx:Nat->List Nat} {b:Nat} {e1 e2:List Nat} (h:Led nx e1 b) (k:Led nx e2 b):Led nx (e1++e2) b:=λ i x hi=>by
 by_cases hl:i<e1.length
 ·rw [List.getElem?_append_left hl] at hi;rcases h i x hi with h1 | ⟨j,y,hj,hy,wh⟩
  ·exact .inl h1
  ·have ww:j<e1.length:=(Jk hy).1;exact .inr ⟨j,y,hj,by rw [List.getElem?_append_left ww];exact hy,wh⟩
 ·rw [List.getElem?_append_right (by omega)] at hi;rcases k _ x hi with h1 | ⟨j,y,hj,hy,wh⟩
  ·exact .inl h1
  ·exact .inr ⟨j+e1.length,y,by omega,by rw [List.getElem?_append_right (by omega)];simpa using hy,wh⟩
theorem Led.child {nx:Nat->List Nat} {b t:Nat} {e:List Nat} (h:Led nx e t) (ht:t∈nx b):Led nx (e++[t]) b:=λ i x hi=>by
 by_cases wv:i<e.length
 ·rw [List.getElem?_append_left wv] at hi;rcases h i x hi with h1 | ⟨j,y,hj,hy,wh⟩
  ·exact .inr ⟨e.length,t,wv,by simp,h1⟩
  ·exact .inr ⟨j,y,hj,by rw [List.getElem?_append_left (Jk hy).1];exact hy,wh⟩
 ·(have:i=e.length:=by have:=(Jk hi).1;simp at this;omega);subst this;simp at hi;exact .inl (hi ▸ ht)
theorem q6F {nx:Nat->List Nat} {n F b:Nat} (wg:∀ x,∀ t∈nx x,t<n)
  (ih:∀ t s,t<n->s.seen t=false->qj n s.seen<=F->∃ e,Went nx t s (qn nx F t s) (e++[t])/\Led nx e t) :
  ∀ (l:List Nat) (s:DS),(∀ t∈l,t∈nx b)->qj n s.seen<=F->∃ e,Went nx b s (goL (qn nx F) l s) e/\Led nx e b/\∀ t∈l,(goL (qn nx F) l s).seen t=true:=by
 intro l
 induction l with
 | nil=>intro s _ _;exact ⟨[],Went.refl _ _ _,Led.nil _ _,λ t ht=>by cases ht⟩
 | cons t l ihl =>
  intro s hl hu;have wk:=hl t (by simp);cases hs:s.seen t
  ·obtain ⟨e,he,wl⟩:=ih t s (wg b t wk) hs hu;have hw:Went nx b s (qn nx F t s) (e++[t]):=⟨he.out,he.nodup,he.mem,he.grows,λ x hx=>(Reach.step .refl wk).trans (he.reach x hx),he.closed⟩;obtain ⟨e2,h2,wm,h3⟩:=ihl (qn nx F t s) (λ x hx=>hl x (by simp [hx])) (Nat.le_trans (kz hw.grows) hu);have wj:goL (qn nx F) (t::l) s=goL (qn nx F) l (qn nx F t s):=by
    unfold goL;rw [List.foldl_cons,if_neg (by rw [hs];exact Bool.false_ne_true)]
   rw [wj];refine ⟨e++[t]++e2,hw.trans h2,(wl.child wk).trans wm,?_⟩;intro x hx;rcases List.mem_cons.1 hx with rfl | hx
   ·exact h2.grows _ ((he.mem x).1 (by simp)).1
   ·exact h3 x hx
  ·obtain ⟨e2,h2,wm,h3⟩:=ihl s (λ x hx=>hl x (by simp [hx])) hu;have wj:goL (qn nx F) (t::l) s=goL (qn nx F) l s:=by
    unfold goL;rw [List.foldl_cons,if_pos hs]
   rw [wj];refine ⟨e2,h2,wm,?_⟩;intro x hx;rcases List.mem_cons.1 hx with rfl | hx
   ·exact h2.grows _ hs
   ·exact h3 x hx
theorem q0V {nx:Nat->List Nat} {n:Nat} (wg:∀ x,∀ t∈nx x,t<n):∀ (F b:Nat) (s:DS),b<n->s.seen b=false->qj n s.seen<=F->∃ e,Went nx b s (qn nx F b s) (e++[b])/\Led nx e b:=by
 intro F
 induction F with
 | zero=>intro b s hb hs hu;have:=xW hs hb;omega
 | succ F ih =>
  intro b s hb hs hu;have hm:=vE hs hb;(obtain ⟨e,he,wl,wu⟩:=q6F (b:=b) wg ih (nx b) ⟨mark s.seen b,s.out⟩ (λ t ht=>ht) (by show qj n (mark s.seen b)<=F;omega));(have wJ:b ∉ e:=λ h=>by have:=((he.mem b).1 h).2;simp [mark] at this);refine ⟨e,⟨?_,?_,λ x=>?_,λ x hx=>?_,λ x hx=>?_,λ x hx=>?_⟩,wl⟩
  ·show (goL (qn nx F) (nx b) ⟨mark s.seen b,s.out⟩).out++[b]=_;rw [he.out,List.append_assoc]
  ·rw [List.nodup_append];exact ⟨he.nodup,by simp,λ a ha c hc ec=>wJ (by rw [List.mem_singleton.1 hc] at ec;exact ec ▸ ha)⟩
  ·show x∈e++[b]↔((goL (qn nx F) (nx b) ⟨mark s.seen b,s.out⟩).seen x=true/\s.seen x=false);rw [List.mem_append,List.mem_singleton,he.mem];constructor
   ·rintro (⟨h1,h2⟩ | rfl)
    ·refine ⟨h1,?_⟩;cases h3:s.seen x
     ·rfl
     ·rw [show (DS.mk (mark s.seen b) s.out).seen x=true from xJ h3] at h2;cases h2
    ·exact ⟨he.grows _ (jN _ _),hs⟩
   ·rintro ⟨h1,h2⟩
    by_cases exb:x=b
    ·exact .inr exb
    ·exact .inl ⟨h1,by show mark s.seen b x=false;simp [mark,exb,h2]⟩
  ·exact he.grows x (xJ hx)
  ·rcases List.mem_append.1 hx with hx | hx
   ·exact he.reach x hx
   ·rw [List.mem_singleton.1 hx];exact .refl
  ·rcases List.mem_append.1 hx with hx | hx
   ·exact he.closed x hx
   ·rw [List.mem_singleton.1 hx];exact wu
theorem q8S {nx:Nat->List Nat} {n F:Nat} (ih:∀ t s,t<n->s.seen t=false->qj n s.seen<=F->(qn nx F t s).out.length+qj n (qn nx F t s).seen=s.out.length+qj n s.seen/\qj n (qn nx F t s).seen<=F) :
  ∀ (l:List Nat) (s:DS),(∀ t∈l,t<n)->qj n s.seen<=F->(goL (qn nx F) l s).out.length+qj n (goL (qn nx F) l s).seen=s.out.length+qj n s.seen/\qj n (goL (qn nx F) l s).seen<=F:=by
 intro l
 induction l with
 | nil=>intro s _ hu;exact ⟨rfl,hu⟩
 | cons t l ihl =>
  intro s hl hu;cases hs:s.seen t
  ·have wj:goL (qn nx F) (t::l) s=goL (qn nx F) l (qn nx F t s):=by
    unfold goL;rw [List.foldl_cons,if_neg (by rw [hs];exact Bool.false_ne_true)]
   rw [wj];obtain ⟨h1,h2⟩:=ih t s (hl t (by simp)) hs hu;obtain ⟨h3,h4⟩:=ihl (qn nx F t s) (λ x hx=>hl x (by simp [hx])) h2;exact ⟨h3.trans h1,h4⟩
  ·have wj:goL (qn nx F) (t::l) s=goL (qn nx F) l s:=by
    unfold goL;rw [List.foldl_cons,if_pos hs]
   rw [wj];exact ihl s (λ x hx=>hl x (by simp [hx])) hu
theorem q6u {nx:Nat->List Nat} {n:Nat} (wg:∀ x,∀ t∈nx x,t<n):∀ (F b:Nat) (s:DS),b<n->s.seen b=false->qj n s.seen<=F->(qn nx F b s).out.length+qj n (qn nx F b s).seen=s.out.length+qj n s.seen/\qj n (qn nx F b s).seen<=F - 1:=by
 intro F
 induction F with
 | zero=>intro b s hb hs hu;have:=xW hs hb;omega
 | succ F ih =>
  intro b s hb hs hu;have hm:=vE hs hb;(obtain ⟨h1,h2⟩:=q8S (nx:=nx) (n:=n) (F:=F) (λ t s h1 h2 h3=>by have:=ih t s h1 h2 h3;omega) (nx b) ⟨mark s.seen b,s.out⟩ (wg b) (by show qj n (mark s.seen b)<=F;omega));have h3:(qn nx (F+1) b s).out.length=(goL (qn nx F) (nx b) ⟨mark s.seen b,s.out⟩).out.length+1:=by
   show ((goL (qn nx F) (nx b) ⟨mark s.seen b,s.out⟩).out++[b]).length=_;simp
  have h4:(qn nx (F+1) b s).seen=(goL (qn nx F) (nx b) ⟨mark s.seen b,s.out⟩).seen:=rfl;rw [h3,h4];have h1':(goL (qn nx F) (nx b) ⟨mark s.seen b,s.out⟩).out.length+qj n (goL (qn nx F) (nx b) ⟨mark s.seen b,s.out⟩).seen=s.out.length+qj n (mark s.seen b):=h1;omega
def zO:Nat->Bool:=λ _=>false
def j6 (nx:Nat->List Nat) (n:Nat):List Nat:=if n=0 then [] else (qn nx n 0 ⟨zO,[]⟩).out
def vC (nx:Nat->List Nat) (n:Nat):List Nat:=(j6 nx n).reverse
theorem jb {nx:Nat->List Nat} {n:Nat} (wg:∀ x,∀ t∈nx x,t<n) (hn:n≠0) :
  ∃ e,j6 nx n=e++[0]/\Led nx e 0/\(e++[0]).Nodup/\∀ x,x∈e++[0]↔Reach nx 0 x:=by
 obtain ⟨e,h,hl⟩:=q0V wg n 0 ⟨zO,[]⟩ (by omega) rfl (kR _ _);refine ⟨e,by unfold j6;rw [if_neg hn,h.out];rfl,hl,h.nodup,λ x=>⟨h.reach x,λ hr=>?_⟩⟩
 induction hr with
 | refl=>simp
 | step _ hy ih=>exact (h.mem _).2 ⟨h.closed _ ih _ hy,rfl⟩
theorem Reach.lt {nx:Nat->List Nat} {n x:Nat} (wg:∀ x,∀ t∈nx x,t<n) (hn:n≠0) (h:Reach nx 0 x):x<n:=by
 cases h with
 | refl=>omega
 | step _ hy=>exact wg _ _ hy
theorem vF {nx:Nat->List Nat} {n:Nat} (wg:∀ x,∀ t∈nx x,t<n) (hn:n≠0) {x:Nat}:x∈vC nx n↔Reach nx 0 x:=by
 obtain ⟨e,h1,_,_,h2⟩:=jb wg hn;unfold vC;rw [List.mem_reverse,h1];exact h2 x
theorem yc {nx:Nat->List Nat} {n:Nat} (wg:∀ x,∀ t∈nx x,t<n) {x:Nat} (h:x∈vC nx n):x<n:=by
 by_cases hn:n=0
 ·subst hn;simp [vC,j6] at h
 ·exact Reach.lt wg hn ((vF wg hn).1 h)
theorem kD {nx:Nat->List Nat} {n:Nat} (wg:∀ x,∀ t∈nx x,t<n):(vC nx n).Nodup:=by
 by_cases hn:n=0
 ·subst hn;simp [vC,j6]
 ·obtain ⟨e,h1,_,h2,_⟩:=jb wg hn;unfold vC;rw [h1,List.nodup_iff_count];intro a;rw [List.count_reverse];exact List.nodup_iff_count.1 h2 a
theorem q2W {nx:Nat->List Nat} {n:Nat} (wg:∀ x,∀ t∈nx x,t<n) (hn:n≠0):(vC nx n)[0]?=some 0:=by
 obtain ⟨e,h1,_,_,_⟩:=jb wg hn;unfold vC;rw [h1];simp
theorem q0e {nx:Nat->List Nat} {n:Nat} (wg:∀ x,∀ t∈nx x,t<n) {i x:Nat} (hi:(vC nx n)[i]?=some x) (h0:0<i):∃ j y:Nat,j<i/\(vC nx n)[j]?=some y/\x∈nx y:=by
 (have hn:n≠0:=by rintro rfl;simp [vC,j6] at hi);obtain ⟨e,h1,hl,_,_⟩:=jb wg hn;unfold vC at hi ⊢;rw [h1,List.reverse_append] at hi ⊢;obtain ⟨k,rfl⟩:∃ k,i=k+1:=⟨i - 1,by omega⟩;(have hi:e.reverse[k]?=some x:=by simpa using hi);(have hk:k<e.length:=by have:=(Jk hi).1;simpa using this);rw [List.getElem?_reverse hk] at hi;rcases hl _ x hi with h | ⟨j,y,hj,hy,wh⟩
 ·exact ⟨0,0,by omega,by simp,h⟩
 ·have hje:j<e.length:=(Jk hy).1;refine ⟨e.length - 1 - j+1,y,by omega,?_,wh⟩;have:e.reverse[e.length - 1 - j]?=some y:=by
   rw [List.getElem?_reverse (by omega),show e.length - 1 - (e.length - 1 - j)=j by omega];exact hy
  simpa using this
def vn (nx:Nat->List Nat) (n x:Nat):Bool:=decide (x∈vC nx n)
theorem q4o {nx:Nat->List Nat} {n:Nat} (wg:∀ x,∀ t∈nx x,t<n):(vC nx n).length<=n:=by
 have h:=List.Nodup.length_le_of_subset (kD wg) (l₂:=List.range n) (λ x hx=>List.mem_range.2 (yc wg hx));simpa using h
def qM {α:Type} (f:Nat->α) (k:Nat) (x:α):Nat->α:=λ v=>if v=k then x else f v
theorem qF {α:Type} (f:Nat->α) (k:Nat) (x:α):qM f k x k=x:=by simp [qM]
theorem q8 {α:Type} (f:Nat->α) {k v:Nat} (x:α) (h:v≠k):qM f k x v=f v:=by simp [qM,h]
theorem AncP.congr {par par':Nat->Nat} {k a c:Nat} (h:AncP par a c) (hc:c<k) (th:∀ v,0<v->v<k->par v<v) (he:∀ v,v<k->par' v=par v):AncP par' a c:=by
 induction h with
 | refl=>exact .refl
 | @step v h0 _ ih =>
  have:=th _ h0 hc;exact .step h0 (by rw [he _ hc];exact ih (by omega))
structure TvI (nx:Nat->List Nat) (n k:Nat) (bl par:Nat->Nat) (ah:Nat->List Nat) (pl:Nat->Int) (op:List (Int × Nat)) (g:Nat):Prop where
 plc:∀ b,b<n->pl b=-1\/∃ p,p<k/\pl b=(p:Int)/\bl p=b
 blk:∀ p,p<k->bl p<n/\pl (bl p)=(p:Int)
 parl:∀ v,0<v->v<k->par v<v/\bl v∈nx (bl (par v))
 up:∀ u v,u<v->v<k->bl v∈nx (bl u)->AncP par u v
 mid:∀ a b c,AncP par a c->c<k->a<=b->b<=c->AncP par a b
 opn:∀ e∈op,e.2<n/\((e.1=-1/\k=0/\e.2=0)\/∃ u:Nat,u<k/\e.1=(u:Int)/\e.2∈nx (bl u)/\AncP par u (k - 1))
 sort:op.Pairwise (λ e e'=>e.1<=e'.1)
 done:∀ u,u<k->∀ t∈nx (bl u),((u:Int),t)∈op\/∃ p:Nat,pl t=(p:Int)/\u∈ah p
 ahd:∀ p,p<k->∀ u∈ah p,u<k/\bl p∈nx (bl u)
 first:(0<k->bl 0=0)/\(k=0->op=[(-1,0)])
 kn:k<=n
 num:g=(n - k) * (n+1)+op.length
 few:∀ p,p<k->(ah p).length+g<=n * (n+1)+1
variable {nx:Nat->List Nat} {n k:Nat} {bl par:Nat->Nat} {ah:Nat->List Nat} {pl:Nat->Int} {op:List (Int × Nat)} {g:Nat}
theorem TvI.start (nx:Nat->List Nat) {n:Nat} (hn:0<n) (bl par:Nat->Nat) (ah:Nat->List Nat):TvI nx n 0 bl par ah (λ _=>-1) [(-1,0)] (n * (n+1)+1) :=
 ⟨λ _ _=>.inl rfl,λ p h=>by omega,λ v h1 h2=>by omega,λ u v h1 h2=>by omega,λ a b c _ h=>by omega,
  λ e he=>by rw [List.mem_singleton.1 he];exact ⟨hn,.inl ⟨rfl,rfl,rfl⟩⟩,by simp,λ u h=>by omega,λ p h=>by omega,⟨λ h=>by omega,λ _=>rfl⟩,by omega,by simp,λ p h=>by omega⟩
theorem TvI.placed (h:TvI nx n k bl par ah pl op g) {b:Nat} (hb:b<n) (hp:0<=pl b):∃ p,p<k/\pl b=(p:Int)/\bl p=b:=by
 rcases h.plc b hb with h1 | h1
 ·omega
 ·exact h1
theorem q4y {op:List (Int × Nat)} {e x:Int × Nat} (h:x∈op++[e]):x∈op\/x=e:=by simpa using h
theorem TvI.old {e:Int × Nat} (h:TvI nx n k bl par ah pl (op++[e]) g) {p:Nat} (hp:pl e.2=(p:Int)) :
  ∃ u:Nat,e.1=(u:Int)/\p<k/\u<k/\∃ g',g'<g/\TvI nx n k bl par (qM ah p (ah p++[u])) pl op g':=by
 obtain ⟨wO,he⟩:=h.opn e (by simp);obtain ⟨p',td,hpe,tj⟩:=h.placed wO (by omega);(obtain rfl:p'=p:=by omega);rcases he with ⟨h1,h2,h3⟩ | ⟨u,hu,ww,wu,wR⟩
 ·omega
 (refine ⟨u,ww,td,hu,g - 1,by have:=h.num;simp at this;omega,?_⟩);refine ⟨h.plc,h.blk,h.parl,h.up,h.mid,λ x hx=>h.opn x (by simp [hx]),(List.pairwise_append.1 h.sort).1,λ v hv t ht=>?_,λ q hq x hx=>?_,⟨h.first.1,λ h0=>by omega⟩,h.kn,by have:=h.num;simp at this ⊢;omega,λ q hq=>?_⟩
 ·rcases h.done v hv t ht with h1 | ⟨q,h1,h2⟩
  ·rcases q4y h1 with h1 | h1
   ·exact .inl h1
   ·right;(have h3:(v:Int)=e.1:=by rw [<- h1]);(have h4:t=e.2:=by rw [<- h1]);(refine ⟨p',by rw [h4];exact hp,?_⟩);rw [qF];(have:v=u:=by omega);subst this;simp
  ·right;refine ⟨q,h1,?_⟩
   by_cases e:q=p'
   ·subst e;rw [qF];simp [h2]
   ·rw [q8 _ _ e];exact h2
 ·by_cases e1:q=p'
  ·subst e1;rw [qF] at hx;rcases List.mem_append.1 hx with hx | hx
   ·exact h.ahd q hq x hx
   ·rw [List.mem_singleton.1 hx,tj];exact ⟨hu,wu⟩
  ·rw [q8 _ _ e1] at hx;exact h.ahd q hq x hx
 ·have h1:=h.few q hq;have h2:=h.num
  by_cases e1:q=p'
  ·subst e1;rw [qF];simp at h2 ⊢;omega
  ·rw [q8 _ _ e1];omega
theorem TvI.new {e:Int × Nat} (h:TvI nx n k bl par ah pl (op++[e]) g) (wT:∀ x,∀ t∈nx x,t<n) (wX:∀ x,(nx x).length<=n) (hp:pl e.2=-1) :
  k<n/\e.2<n/\∃ g',g'<g/\TvI nx n (k+1) (qM bl k e.2) (qM par k e.1.toNat) (qM ah k (if e.1<0 then [] else [e.1.toNat])) (qM pl e.2 k) (op++(nx e.2).map λ t=>((k:Int),t)) g':=by
 obtain ⟨wO,he⟩:=h.opn e (by simp);have hk:k<n:=by
  apply Classical.byContradiction;intro hk
  -- all places would be taken
  (have hkn:k=n:=by have:=h.kn;omega);have wY:((List.range k).map bl).Nodup:=by
   rw [List.nodup_iff_pairwise_ne,List.pairwise_map];refine List.Pairwise.imp_of_mem (λ {a b} ha hb wV hh=>?_) (List.nodup_range (n:=k));have h1:=h.blk a (List.mem_range.1 ha);have h2:=h.blk b (List.mem_range.1 hb);rw [hh] at h1;exact wV (by omega)
  have tf:e.2 ∉ (List.range k).map bl:=λ hm=>by
   obtain ⟨a,ha,hb⟩:=List.mem_map.1 hm;have:=h.blk a (List.mem_range.1 ha);rw [hb] at this;omega
  have:=List.Nodup.length_le_of_subset (List.nodup_cons.2 ⟨tf,wY⟩) (l₂:=List.range n) (λ x hx=>by
   rcases List.mem_cons.1 hx with rfl | hx
   ·exact List.mem_range.2 wO
   ·obtain ⟨a,ha,rfl⟩:=List.mem_map.1 hx
    exact List.mem_range.2 (h.blk a (List.mem_range.1 ha)).1)
  simp at this;omega
 (have tg:∀ p,p<k->bl p≠e.2:=λ p wM hh=>by have:=(h.blk p wM).2;rw [hh] at this;omega);have wU:∀ {a c:Nat},AncP par a c->c<k->AncP (qM par k e.1.toNat) a c:=λ ha hc=>ha.congr hc (λ v h1 h2=>(h.parl v h1 h2).1) (λ v hv=>q8 _ _ (by omega));(have wQ:∀ {a c:Nat},AncP (qM par k e.1.toNat) a c->c<k->AncP par a c:=λ ha hc=>ha.congr hc (λ v h1 h2=>by rw [q8 _ _ (by omega)];exact (h.parl v h1 h2).1) (λ v hv=>(q8 _ _ (by omega)).symm));have hle:∀ {a c:Nat},AncP par a c->c<k->a<=c:=by
  intro a c ha
  induction ha with
  | refl=>intro _;omega
  | @step v h0 _ ih=>intro hv;have:=(h.parl v h0 hv).1;have:=ih (by omega);omega
 -- the new one's tree
 have wg:0<k->e.1.toNat<k/\AncP par e.1.toNat (k - 1)/\e.2∈nx (bl e.1.toNat)/\0<=e.1:=λ h0=>by
  rcases he with ⟨_,h2,_⟩ | ⟨u,hu,ww,wu,wR⟩
  ·omega
  ·(have:e.1.toNat=u:=by omega);rw [this];exact ⟨hu,wR,wu,by omega⟩
 have wj:∀ x∈op,x.1<=e.1:=λ x hx=>(List.pairwise_append.1 h.sort).2.2 x hx e (by simp);have wh:k=0->op=[]/\e=(-1,0):=λ h0=>by
  have h1:=h.first.2 h0;have h2:op=[]:=by
   have:=congrArg List.length h1;simp at this;exact this
  subst h2;simpa using h1
 -- whoever is above the last and not behind the top is above the new one
 have wl:∀ u,u<k->AncP par u (k - 1)->(u:Int)<=e.1->AncP (qM par k e.1.toNat) u k:=λ u hu ha hle'=>by
  obtain ⟨h1,h2,h3,h4⟩:=wg (by omega);refine .step (by omega) ?_;rw [qF];exact wU (h.mid _ _ _ ha (by omega) (by omega) (by omega)) h1
 have hg:=h.num;have hgle:(n - k) * (n+1)=(n - (k+1)) * (n+1)+(n+1):=by
  rw [<- Nat.succ_mul];congr 1;omega
 have hl2:=wX e.2;(refine ⟨hk,wO,(n - (k+1)) * (n+1)+(op.length+(nx e.2).length),by simp at hg;omega,?_⟩);refine ⟨λ b hb=>?_,λ p wM=>?_,λ v h0 hv=>?_,λ u v wm hv hE=>?_,λ a b c ha hc wV tm=>?_,λ x hx=>?_,?_,λ u hu t ht=>?_,λ p wM x hx=>?_,⟨λ _=>?_,λ h0=>by omega⟩,by omega,by simp,λ p wM=>?_⟩
 ·by_cases e1:b=e.2
  ·subst e1;right;exact ⟨k,by omega,qF _ _ _,qF _ _ _⟩
  ·rw [q8 _ _ e1];rcases h.plc b hb with h1 | ⟨p,h1,h2,h3⟩
   ·exact .inl h1
   ·exact .inr ⟨p,by omega,h2,by rw [q8 _ _ (by omega)];exact h3⟩
 ·by_cases e1:p=k
  ·subst e1;rw [qF];exact ⟨wO,qF _ _ _⟩
  ·(have wJ:p<k:=by omega);rw [q8 _ _ e1,q8 _ _ (tg p wJ)];exact h.blk p wJ
 ·by_cases e1:v=k
  ·subst e1;obtain ⟨h1,h2,h3,h4⟩:=wg h0;rw [qF,qF,q8 _ _ (by omega)];exact ⟨h1,h3⟩
  ·have:=h.parl v h0 (by omega);rw [q8 _ _ e1,q8 _ _ e1,q8 _ _ (by omega)];exact this
 ·by_cases e1:v=k
  ·subst e1;rw [qF,q8 _ _ (by omega)] at hE;rcases h.done u wm _ hE with h1 | ⟨p,h1,h2⟩
   ·rcases q4y h1 with h1 | h1
    ·obtain ⟨-,hq⟩:=h.opn ((u:Int),e.2) (List.mem_append_left _ h1);rcases hq with ⟨h2,_⟩ | ⟨u',wZ,wv,_,wW⟩
     ·have h2:(u:Int)=-1:=h2;omega
     ·have wv:(u:Int)=(u':Int):=wv;(have:u'=u:=by omega);subst this;exact wl _ wm wW (wj _ h1)
    ·obtain ⟨h2,h3,-,-⟩:=wg (by omega);(have h4:(u:Int)=e.1:=by rw [<- h1]);(have:e.1.toNat=u:=by omega);rw [this] at h3;exact wl u wm h3 (by omega)
   ·omega
  ·rw [q8 _ _ e1,q8 _ _ (by omega)] at hE;exact wU (h.up u v wm (by omega) hE) (by omega)
 ·by_cases e1:c=k
  ·subst e1
   by_cases e2:b=c
   ·subst e2;exact ha
   ·cases ha with
    | refl=>omega
    | step h0 ha =>
     obtain ⟨h1,h2,h3,h4⟩:=wg (by omega);rw [qF] at ha;have tq:=wQ ha h1;have tp:=tq.trans h2;exact wU (h.mid a b (c - 1) tp (by omega) wV (by omega)) (by omega)
  ·exact wU (h.mid a b c (wQ ha (by omega)) (by omega) wV tm) (by omega)
 ·rcases List.mem_append.1 hx with hx | hx
  ·obtain ⟨h1,h2⟩:=h.opn x (by simp [hx]);refine ⟨h1,?_⟩;rcases h2 with ⟨_,h3,_⟩ | ⟨u,hu,ww,wu,wR⟩
   ·rw [(wh h3).1] at hx;cases hx
   ·right;(refine ⟨u,by omega,ww,by rw [q8 _ _ (by omega)];exact wu,?_⟩);have:=wj x hx;exact wl u hu wR (by omega)
  ·obtain ⟨t,ht,rfl⟩:=List.mem_map.1 hx;exact ⟨wT _ t ht,.inr ⟨k,by omega,rfl,by rw [qF];exact ht,.refl⟩⟩
 ·rw [List.pairwise_append];refine ⟨(List.pairwise_append.1 h.sort).1,?_,λ x hx y hy=>?_⟩
  ·rw [List.pairwise_map];exact List.pairwise_of_forall (λ _ _=>Int.le_refl _)
  ·obtain ⟨t,ht,rfl⟩:=List.mem_map.1 hy;obtain ⟨-,h2⟩:=h.opn x (by simp [hx]);rcases h2 with ⟨h3,_⟩ | ⟨u,hu,ww,_⟩
   ·show x.1<=(k:Int);omega
   ·show x.1<=(k:Int);omega
 ·by_cases e1:u=k
  ·subst e1;rw [qF] at ht;exact .inl (List.mem_append_right _ (List.mem_map.2 ⟨t,ht,rfl⟩))
  ·(have wZ:u<k:=by omega);rw [q8 _ _ e1] at ht;rcases h.done u wZ t ht with h1 | ⟨p,h1,h2⟩
   ·rcases q4y h1 with h1 | h1
    ·exact .inl (List.mem_append_left _ h1)
    ·right;(have h4:(u:Int)=e.1:=by rw [<- h1]);(have h5:t=e.2:=by rw [<- h1]);(refine ⟨k,by rw [h5];exact qF _ _ _,?_⟩);rw [qF,if_neg (by omega)];simp;omega
   ·right;(have h3:t≠e.2:=λ e=>by rw [e] at h1;omega);(refine ⟨p,by rw [q8 _ _ h3];exact h1,?_⟩);have wM:p<k:=by
     obtain ⟨p',h4,h5,-⟩:=h.placed (wT _ t ht) (by omega);omega
    rw [q8 _ _ (by omega)];exact h2
 ·by_cases e1:p=k
  ·subst e1;rw [qF] at hx
   split at hx
   ·cases hx
   ·rename_i ta;have h0:0<p:=by
     rcases Nat.eq_zero_or_pos p with h0 | h0
     ·rw [(wh h0).2] at ta;simp at ta
     ·exact h0
    obtain ⟨h1,h2,h3,h4⟩:=wg h0;rw [List.mem_singleton.1 hx,qF,q8 _ _ (by omega)];exact ⟨by omega,h3⟩
  ·rw [q8 _ _ e1] at hx;have:=h.ahd p (by omega) x hx;rw [q8 _ _ e1,q8 _ _ (by omega)];exact ⟨by omega,this.2⟩
 ·by_cases e1:k=0
  ·subst e1;rw [qF,(wh rfl).2]
  ·rw [q8 _ _ (by omega)];exact h.first.1 (by omega)
 ·have hkk:(n - k) * (n+1)<=n * (n+1):=Nat.mul_le_mul_right _ (by omega)
  by_cases e1:p=k
  ·subst e1;rw [qF];(have h9:(if e.1<0 then [] else [e.1.toNat]:List Nat).length<=1:=by split <;> simp);simp at hg;rcases Nat.eq_zero_or_pos p with h6 | h6
   ·subst h6;have:=(wh rfl).1;subst this;simp at hg ⊢;(have h10:n * (n+1)=(n - 1) * (n+1)+(n+1):=by rw [<- Nat.succ_mul];congr 1;omega);omega
   ·have h7:=h.few 0 h6;omega
  ·rw [q8 _ _ e1];have:=h.few p (by omega);simp at hg;omega
def xR (nx:Nat->List Nat) (k:Nat) (bl:Nat->Nat) (u v:Nat):Prop:=u<k/\v<k/\bl v∈nx (bl u)
structure TvE (nx:Nat->List Nat) (n k:Nat) (bl par:Nat->Nat) (ah:Nat->List Nat) (pl:Nat->Int):Prop where
 tree:TreeP k (xR nx k bl) par
 plc:∀ b,b<n->pl b=-1\/∃ p,p<k/\pl b=(p:Int)/\bl p=b
 blk:∀ p,p<k->bl p<n/\pl (bl p)=(p:Int)
 ahd:∀ p,p<k->∀ u,u∈ah p↔xR nx k bl u p
 reach:∀ b,b<n->(Reach nx 0 b↔0<=pl b)
 first:0<k/\bl 0=0
 kn:k<=n
 few:∀ p,p<k->(ah p).length<=n * (n+1)+1
theorem TvI.all (h:TvI nx n k bl par ah pl [] g) (wT:∀ x,∀ t∈nx x,t<n) (hn:0<n):TvE nx n k bl par ah pl:=by
 have hk:0<k:=by
  rcases Nat.eq_zero_or_pos k with h0 | h0
  ·have:=h.first.2 h0;cases this
  ·exact h0
 have wk:∀ u,u<k->∀ t∈nx (bl u),∃ p:Nat,p<k/\pl t=(p:Int)/\bl p=t/\u∈ah p:=λ u hu t ht=>by
  rcases h.done u hu t ht with h1 | ⟨p,h1,h2⟩
  ·cases h1
  ·obtain ⟨p',h4,h5,h6⟩:=h.placed (wT _ t ht) (by omega);(obtain rfl:p'=p:=by omega);exact ⟨p',h4,h5,h6,h2⟩
 refine ⟨⟨λ u v h=>⟨h.1,h.2.1⟩,λ v h0 hv=>(h.parl v h0 hv).1,λ v h0 hv=>⟨by have:=(h.parl v h0 hv).1;omega,hv,(h.parl v h0 hv).2⟩,λ u v he wm=>h.up u v wm he.2.1 he.2.2,λ a b c=>h.mid a b c⟩,h.plc,h.blk,λ p hp u=>⟨λ hu=>?_,λ hu=>?_⟩,λ b hb=>⟨λ hr=>?_,λ hp=>?_⟩,⟨hk,h.first.1 hk⟩,h.kn,λ p hp=>by have:=h.few p hp;omega⟩
 ·have:=h.ahd p hp u hu;exact ⟨this.1,hp,this.2⟩
 ·obtain ⟨q,h1,h2,h3,h4⟩:=wk u hu.1 _ hu.2.2;have:=(h.blk p hp).2;(obtain rfl:q=p:=by omega);exact h4
 ·have key:∀ x,Reach nx 0 x->∃ p:Nat,p<k/\pl x=(p:Int)/\bl p=x:=by
   intro x hx
   induction hx with
   | refl=>exact ⟨0,hk,by have:=(h.blk 0 hk).2;rw [h.first.1 hk] at this;simpa using this,h.first.1 hk⟩
   | @step x y _ tc ih =>
    obtain ⟨p,h1,h2,h3⟩:=ih;(obtain ⟨q,h4,h5,h6,_⟩:=wk p h1 y (by rw [h3];exact tc));exact ⟨q,h4,h5,h6⟩
  obtain ⟨p,-,h2,-⟩:=key b hr;omega
 ·obtain ⟨p,h1,-,h3⟩:=h.placed hb hp;rw [<- h3];clear h3
  induction p using Nat.strongRecOn with
  | _ p ih =>
   rcases Nat.eq_zero_or_pos p with h0 | h0
   ·subst h0;rw [h.first.1 hk];exact .refl
   ·obtain ⟨h4,h5⟩:=h.parl p h0 h1;exact .step (ih _ h4 (by omega)) h5
end Go.Proofs.YtfoggldjjnabcaaGreatDoor

namespace Go.Proofs.YtfoggldjjnabcaaGreatDoor
open Go.ChangeShapes Go.WideShapes Go.RowKit Go.Deep
structure GrvI (par:Nat->Nat) (k L:Nat) (early least:Nat->Nat) (above:Nat->Int):Prop where
 lo:∀ v,v<L->v<k->above v=-1/\least v=v
 hi:∀ v,L<=v->v<k->∃ a:Nat,above v=(a:Int)/\a<v/\AncP par a v/\(∀ y,AncP par y v->a<y->L<=y)/\AncP par (least v) v/\a<least v/\∀ y,AncP par y v->a<y->early (least v)<=early y
def q1L (par:Nat->Nat) (L:Nat) (early:Nat->Nat) (v x:Nat):Prop:=(v<L/\x=v)\/(L<=v/\AncP par x v/\L<=x/\∀ y,AncP par y v->L<=y->early x<=early y)
variable {n k L:Nat} {E:Nat->Nat->Prop} {par early least:Nat->Nat} {above:Nat->Int}
theorem GrvI.start (par:Nat->Nat) (k:Nat) (early:Nat->Nat):GrvI par k k early (λ v=>v) (λ _=>-1) :=
 ⟨λ _ _ _=>⟨rfl,rfl⟩,λ v h1 h2=>by omega⟩
theorem GrvI.least_lt (T:TreeP k E par) (G:GrvI par k L early least above) {v:Nat} (hv:v<k):least v<k:=by
 by_cases h:v<L
 ·rw [(G.lo v h hv).2];exact hv
 ·obtain ⟨a,_,_,_,_,h5,_⟩:=G.hi v (by omega) hv;have:=T.anc_le h5 hv;omega
theorem GrvI.best (G:GrvI par k L early least above) {v:Nat} (hv:v<k) (hr:above v<(L:Int)):q1L par L early v (least v):=by
 by_cases h:v<L
 ·exact .inl ⟨h,(G.lo v h hv).2⟩
 ·obtain ⟨a,h1,h2,h3,h4,h5,h6,h7⟩:=G.hi v (by omega) hv;exact .inr ⟨by omega,h5,h4 _ h5 h6,λ y hy hL=>h7 y hy (by omega)⟩
theorem GrvI.hang (T:TreeP k E par) (G:GrvI par k L early least above) {p q:Nat} {r:Int} (hp:L<=p) (hpk:p<k) (hq:above p=(q:Int)) (hqL:L<=q) (hr:above q=r) :
  GrvI par k L early (qM least p (if early (least q)<early (least p) then least q else least p)) (qM above p r):=by
 refine ⟨λ v h1 h2=>?_,λ v h1 h2=>?_⟩
 ·rw [q8 _ _ (by omega),q8 _ _ (by omega)];exact G.lo v h1 h2
 ·by_cases e:v=p
  ·subst e;rw [qF,qF];obtain ⟨a,a1,a2,a3,a4,a5,a6,a7⟩:=G.hi v h1 h2;(obtain rfl:a=q:=by omega);obtain ⟨b,b1,b2,b3,b4,b5,b6,b7⟩:=G.hi a hqL (by omega);refine ⟨b,by omega,by omega,b3.trans a3,λ y hy wm=>?_,?_,?_,λ y hy wm=>?_⟩
   ·by_cases wk:a<y
    ·exact a4 y hy wk
    ·exact b4 y (T.both hy a3 h2 (by omega)) wm
   ·split
    ·exact b5.trans a3
    ·exact a5
   ·split <;> omega
   ·by_cases wk:a<y
    ·have:=a7 y hy wk
     split <;> omega
    ·have:=b7 y (T.both hy a3 h2 (by omega)) wm
     split <;> omega
  ·rw [q8 _ _ e,q8 _ _ e];exact G.hi v h1 h2
theorem GrvI.congr {early':Nat->Nat} (G:GrvI par k L early least above) (he:∀ v,L<=v->early' v=early v):GrvI par k L early' least above:=by
 refine ⟨G.lo,λ v h1 h2=>?_⟩;obtain ⟨a,a1,a2,a3,a4,a5,a6,a7⟩:=G.hi v h1 h2;refine ⟨a,a1,a2,a3,a4,a5,a6,λ y hy wk=>?_⟩;rw [he _ (a4 _ a5 a6),he _ (a4 y hy wk)];exact a7 y hy wk
theorem GrvI.link (T:TreeP k E par) {P:Nat} (G:GrvI par k (P+1) early least above) (h0:0<P) (hP:P<k):GrvI par k P early least (qM above P (par P:Int)):=by
 refine ⟨λ v h1 h2=>?_,λ v h1 h2=>?_⟩
 ·rw [q8 _ _ (by omega)];exact G.lo v (by omega) h2
 ·by_cases e:v=P
  ·subst e;rw [qF,(G.lo v (by omega) h2).2];have hp:=T.par_lt v h0 hP;have key:∀ y,AncP par y v->par v<y->y=v:=λ y hy wl=>by
    cases hy with
    | refl=>rfl
    | step _ hy=>have:=T.anc_le hy (by omega);omega
   exact ⟨par v,rfl,hp,.step h0 .refl,λ y hy wl=>by rw [key y hy wl];exact J4 _,.refl,hp,λ y hy wl=>by rw [key y hy wl];exact J4 _⟩
  ·rw [q8 _ _ e];obtain ⟨a,a1,a2,a3,a4,a5,a6,a7⟩:=G.hi v (by omega) h2;exact ⟨a,a1,a2,a3,λ y hy wk=>by have:=a4 y hy wk;omega,a5,a6,a7⟩
structure PredP (par early:Nat->Nat) (P:Nat) (l:List Nat) (e:Nat):Prop where
 here:∀ u∈l,u<=P->e<=u
 chain:∀ u∈l,∀ x,AncP par x u->P<x->e<=early x
 found:e=P\/(∃ u,u∈l/\u<P/\e=u)\/∃ u x,u∈l/\AncP par x u/\P<x/\e=early x
theorem PredP.start (par early:Nat->Nat) (P:Nat):PredP par early P [] P:=⟨λ u h=>(by cases h),λ u h=>(by cases h),.inl rfl⟩
theorem PredP.step {P e u b:Nat} {l:List Nat} (T:TreeP k E par) (h:PredP par early P l e) (hf:∀ v,v<P->early v=v) (hu:u<k) (hb:q1L par (P+1) (qM early P e) u b) (heP:e<=P) :
  PredP par early P (l++[u]) (min e (qM early P e b)):=by
 (have wh:∀ {x:Nat},x∈l++[u]->x∈l\/x=u:=λ hx=>by simpa using hx);rcases hb with ⟨h1,rfl⟩ | ⟨h1,h2,h3,h4⟩
 ·by_cases hbP:b=P
  ·subst hbP;rw [qF,Nat.min_self];refine ⟨λ x hx hxP=>?_,λ x hx y hy hPy=>?_,?_⟩
   ·rcases wh hx with hx | rfl
    ·exact h.here x hx hxP
    ·exact heP
   ·rcases wh hx with hx | rfl
    ·exact h.chain x hx y hy hPy
    ·have:=T.anc_le hy hu;omega
   ·rcases h.found with h5 | ⟨x,h5,h6⟩ | ⟨x,y,h5,h6⟩
    ·exact .inl h5
    ·exact .inr (.inl ⟨x,by simp [h5],h6⟩)
    ·exact .inr (.inr ⟨x,y,by simp [h5],h6⟩)
  ·(have wJ:b<P:=by omega);rw [q8 _ _ hbP,hf b wJ];refine ⟨λ x hx hxP=>?_,λ x hx y hy hPy=>?_,?_⟩
   ·rcases wh hx with hx | rfl
    ·have:=h.here x hx hxP;omega
    ·omega
   ·rcases wh hx with hx | rfl
    ·have:=h.chain x hx y hy hPy;omega
    ·have:=T.anc_le hy hu;omega
   ·by_cases wu:e<=b
    ·rw [Nat.min_eq_left wu];rcases h.found with h5 | ⟨x,h5,h6⟩ | ⟨x,y,h5,h6⟩
     ·exact .inl h5
     ·exact .inr (.inl ⟨x,by simp [h5],h6⟩)
     ·exact .inr (.inr ⟨x,y,by simp [h5],h6⟩)
    ·rw [Nat.min_eq_right (by omega)];exact .inr (.inl ⟨b,by simp,wJ,rfl⟩)
 ·rw [q8 _ _ (by omega)];have wm:∀ y,AncP par y u->P<y->early b<=early y:=λ y hy hPy=>by
   have:=h4 y hy (by omega)
   rwa [q8 _ _ (by omega),q8 _ _ (by omega)] at this
  refine ⟨λ x hx hxP=>?_,λ x hx y hy hPy=>?_,?_⟩
  ·rcases wh hx with hx | rfl
   ·have:=h.here x hx hxP;omega
   ·omega
  ·rcases wh hx with hx | rfl
   ·have:=h.chain x hx y hy hPy;omega
   ·have:=wm y hy hPy;omega
  ·by_cases wu:e<=early b
   ·rw [Nat.min_eq_left wu];rcases h.found with h5 | ⟨x,h5,h6⟩ | ⟨x,y,h5,h6⟩
    ·exact .inl h5
    ·exact .inr (.inl ⟨x,by simp [h5],h6⟩)
    ·exact .inr (.inr ⟨x,y,by simp [h5],h6⟩)
   ·rw [Nat.min_eq_right (by omega)];exact .inr (.inr ⟨u,b,by simp,h2,by omega,rfl⟩)
theorem PredP.done {P e:Nat} {l:List Nat} (T:TreeP k E par) (h:PredP par early P l e) (hl:∀ u,u∈l↔E u P) (S:EarlyP (P+1) k E par early) (h0:0<P) (hP:P<k):e<P/\EarlyP P k E par (qM early P e):=by
 have hp:=T.par_lt P h0 hP;have he:=h.here (par P) ((hl _).2 (T.par_e P h0 hP)) (by omega);refine ⟨by omega,⟨λ w u hw hE hu=>?_,λ w u x hw hE hx wv=>?_,λ w hw wg=>?_,h0⟩⟩
 ·by_cases e1:w=P
  ·subst e1;rw [qF];exact h.here u ((hl u).2 hE) hu
  ·rw [q8 _ _ e1];exact S.here w u (by omega) hE hu
 ·rw [q8 early e (show x≠P by omega)]
  by_cases e1:w=P
  ·subst e1;rw [qF];exact h.chain u ((hl u).2 hE) x hx wv
  ·rw [q8 _ _ e1];exact S.chain w u x (by omega) hE hx wv
 ·by_cases e1:w=P
  ·subst e1;rw [qF];rcases h.found with h5 | ⟨x,h5,h6⟩ | ⟨x,y,h5,h6,h7,h8⟩
   ·omega
   ·exact .inl ⟨x,(hl x).1 h5,h6⟩
   ·exact .inr ⟨x,y,(hl x).1 h5,h6,h7,by rw [q8 _ _ (by omega)];exact h8⟩
  ·rw [q8 _ _ e1];rcases S.found w (by omega) wg with h5 | ⟨x,y,h5,h6,h7,h8⟩
   ·exact .inl h5
   ·exact .inr ⟨x,y,h5,h6,h7,by rw [q8 _ _ (by omega)];exact h8⟩
def HandP (par:Nat->Nat) (L:Nat) (early near:Nat->Nat) (w:Nat):Prop:=∃ x,AncP par x w/\early w<x/\(∀ y,AncP par y w->early w<y->L<=y/\early x<=early y)/\((early x=early w/\near w=early w)\/(early x<early w/\near w=x))
structure NrI (k L:Nat) (E:Nat->Nat->Prop) (par early near:Nat->Nat) (W:Nat->List Nat):Prop where
 fresh:∀ v,v<L->early v=v
 ear:EarlyP L k E par early
 wait:∀ s,∀ w∈W s,L<=w/\w<k/\early w=s/\∀ c,L<=c->par c=s->¬ AncP par c w
 got:∀ w,L<=w->w<k->w∈W (early w)\/HandP par L early near w
 zero:near 0=0
 few:∀ s,(W s).length+L<=k
variable {near:Nat->Nat} {W:Nat->List Nat}
theorem NrI.start (E:Nat->Nat->Prop) (par:Nat->Nat) (k:Nat) (h0:0<k) (hE:∀ u v,E u v->v<k):NrI k k E par (λ v=>v) (λ _=>0) (λ _=>[]) :=
 ⟨λ _ _=>rfl,⟨λ w u h1 h2=>(by have:=hE _ _ h2;omega),λ w u x h1 h2=>(by have:=hE _ _ h2;omega),λ w h1 h2=>(by omega),h0⟩,λ s w h=>(by cases h),λ w h1 h2=>(by omega),rfl,λ s=>(by simp)⟩
theorem q2F {a v:Nat} (h:AncP par a v):a=v\/∃ c,par c=a/\0<c/\AncP par c v:=by
 induction h with
 | refl=>exact .inl rfl
 | @step v h1 h2 ih =>
  right;rcases ih with h | ⟨c,h3,h4,h5⟩
  ·exact ⟨v,h.symm,h1,.refl⟩
  ·exact ⟨c,h3,h4,.step h1 h5⟩
theorem q4Y {P w:Nat} (T:TreeP k E par) (S:EarlyP P k E par early) (h0:0<P) (hP:P<k) (hw:P<=w) (wg:w<k) (he:early w=par P) (hc:∀ c,P+1<=c->par c=par P->¬ AncP par c w):AncP par P w:=by
 have wl:=S.lt T hw wg;have ha:=S.anc T hw wg;rw [he] at ha wl;rcases q2F ha with h | ⟨c,h1,h2,h3⟩
 ·omega
 ·have hcw:=T.anc_le h3 wg;have hcl:=T.par_lt c h2 (by omega);have hPl:=T.par_lt P h0 hP
  by_cases h4:P<c
  ·exact absurd h3 (hc c h4 h1)
  ·have h5:AncP par c P:=T.mid c P w h3 wg (by omega) hw;cases h5 with
   | refl=>exact h3
   | step _ h6=>have:=T.anc_le h6 (by omega);omega
theorem q5x {P w x:Nat} (T:TreeP k E par) (S:EarlyP P k E par early) (h0:0<P) (hP:P<k) (hw:P<=w) (wg:w<k) (he:early w=par P) (hc:∀ c,P+1<=c->par c=par P->¬ AncP par c w) (hb:q1L par P early w x) (near:Nat->Nat) (hn:near w=if early x<par P then x else par P):HandP par P early near w:=by
 have wT:=q4Y T S h0 hP hw wg he hc;have hPl:=T.par_lt P h0 hP;rcases hb with ⟨h1,_⟩ | ⟨_,h2,h3,h4⟩
 ·omega
 ·have hx:=h4 w .refl hw;have hyP:∀ y,AncP par y w->early w<y->P<=y:=λ y hy wj=>by
   apply Classical.byContradiction;intro h5;have h6:=T.both hy wT wg (by omega);cases h6 with
   | refl=>omega
   | step _ h7=>have:=T.anc_le h7 (by omega);omega
  refine ⟨x,h2,by omega,λ y hy wj=>⟨hyP y hy wj,h4 y hy (hyP y hy wj)⟩,?_⟩;rw [he] at hx ⊢
  by_cases h5:early x<par P
  ·rw [if_pos h5] at hn;exact .inr ⟨h5,hn⟩
  ·rw [if_neg h5] at hn;exact .inl ⟨by omega,hn⟩
theorem NrI.waits {P e:Nat} (T:TreeP k E par) (N:NrI k (P+1) E par early near W) (hP:P<k) :
  ∀ s,∀ w∈qM W e (W e++[P]) s,P<=w/\w<k/\qM early P e w=s/\∀ c,P+1<=c->par c=s->¬ AncP par c w:=by
 intro s w hw;have old:∀ s,w∈W s->P<=w/\w<k/\qM early P e w=s/\∀ c,P+1<=c->par c=s->¬ AncP par c w:=λ s hw=>by
  obtain ⟨h1,h2,h3,h4⟩:=N.wait s w hw;exact ⟨by omega,h2,by rw [q8 _ _ (by omega)];exact h3,h4⟩
 by_cases e1:s=e
 ·subst e1;rw [qF] at hw;rcases List.mem_append.1 hw with hw | hw
  ·exact old s hw
  ·rw [List.mem_singleton.1 hw];exact ⟨J4 _,hP,qF _ _ _,λ c hc _ h=>by have:=T.anc_le h hP;omega⟩
 ·rw [q8 _ _ e1] at hw;exact old s hw
theorem NrI.next {P e:Nat} {near':Nat->Nat} (T:TreeP k E par) (N:NrI k (P+1) E par early near W) (h0:0<P) (hP:P<k) (S:EarlyP P k E par (qM early P e))
  (hh:∀ w∈qM W e (W e++[P]) (par P),HandP par P (qM early P e) near' w) (hk:∀ w,w ∉ qM W e (W e++[P]) (par P)->near' w=near w) :
  NrI k P E par (qM early P e) near' (qM (qM W e (W e++[P])) (par P) []):=by
 have ww:=N.waits (e:=e) T hP;have hPl:=T.par_lt P h0 hP;have wR:∀ w,P<=w->w<k->w∈qM W e (W e++[P]) (qM early P e w)\/HandP par (P+1) early near w:=λ w hw wg=>by
  by_cases e3:w=P
  ·subst e3;left;rw [qF,qF];simp
  ·rw [q8 _ _ e3];rcases N.got w (by omega) wg with h1 | h1
   ·left
    by_cases e4:early w=e
    ·rw [e4,qF];rw [e4] at h1;simp [h1]
    ·rw [q8 _ _ e4];exact h1
   ·exact .inr h1
 refine ⟨λ v hv=>by rw [q8 _ _ (by omega)];exact N.fresh v (by omega),S,λ s w hw=>?_,λ w hw wg=>?_,?_,λ s=>?_⟩
 ·by_cases e1:s=par P
  ·subst e1;rw [qF] at hw;cases hw
  ·rw [q8 _ _ e1] at hw;obtain ⟨h1,h2,h3,h4⟩:=ww s w hw;refine ⟨h1,h2,h3,λ c hc hp=>?_⟩
   by_cases e2:c=P
   ·subst e2;exact absurd hp.symm e1
   ·exact h4 c (by omega) hp
 ·by_cases e2:w∈qM W e (W e++[P]) (par P)
  ·exact .inr (hh w e2)
  ·rcases wR w hw wg with h1 | ⟨x,h1,h2,h3,h4⟩
   ·left
    by_cases e4:qM early P e w=par P
    ·rw [e4] at h1;exact absurd h1 e2
    ·rw [q8 _ _ e4];exact h1
   ·right;(have hwP:w≠P:=λ e3=>by have:=(h3 w .refl (by have:=T.anc_le h1 wg;omega)).1;omega);have hxP:=(h3 x h1 h2).1;refine ⟨x,h1,by rw [q8 _ _ hwP];exact h2,λ y hy wj=>?_,?_⟩
    ·rw [q8 _ _ hwP] at wj;obtain ⟨h5,h6⟩:=h3 y hy wj;rw [q8 _ _ (by omega),q8 _ _ (by omega)];exact ⟨by omega,h6⟩
    ·rw [q8 _ _ hwP,q8 _ _ (by omega),hk w e2];exact h4
 ·rw [hk 0 (λ h=>by have:=(ww _ _ h).1;omega)];exact N.zero
 ·have h1:=N.few s
  by_cases e1:s=par P
  ·subst e1;rw [qF];simp;omega
  ·rw [q8 _ _ e1]
   by_cases e2:s=e
   ·subst e2;rw [qF];simp;omega
   ·rw [q8 _ _ e2];omega
structure NdI (k:Nat) (par early near0 near:Nat->Nat) (j:Nat):Prop where
 done:∀ w,0<w->w<j->w<k->∃ x,AncP par x w/\early w<x/\(∀ y,AncP par y w->early w<y->early x<=early y)/\((early x=early w/\near w=early w)\/(early x<early w/\x<w/\near w=near x))
 left:∀ w,j<=w->near w=near0 w
 zero:near 0=0
theorem NrI.hand (T:TreeP k E par) (N:NrI k 1 E par early near W):∀ w,0<w->w<k->HandP par 1 early near w:=λ w h0 hw=>by
 rcases N.got w h0 hw with h | h
 ·exfalso;obtain ⟨h1,h2,h3,h4⟩:=N.wait _ w h;have ha:=N.ear.anc T h0 hw;have hl:=N.ear.lt T h0 hw;rcases q2F ha with h5 | ⟨c,h5,h6,h7⟩
  ·omega
  ·exact h4 c h6 h5 h7
 ·exact h
theorem NrI.pick (T:TreeP k E par) (N:NrI k 1 E par early near W) {w:Nat} (h0:0<w) (hw:w<k):near w<w:=by
 obtain ⟨x,h1,h2,h3,⟨h4,h5⟩ | ⟨h4,h5⟩⟩:=N.hand T w h0 hw
 ·have:=N.ear.lt T h0 hw;omega
 ·have:=T.anc_le h1 hw;(have:x≠w:=λ e=>by subst e;omega);omega
theorem NdI.start (N:NrI k 1 E par early near W):NdI k par early near near 0:=⟨λ w h0 h1=>by omega,λ _ _=>rfl,N.zero⟩
theorem NdI.step (T:TreeP k E par) {near0:Nat->Nat} (N:NrI k 1 E par early near0 W) {j:Nat} (h:NdI k par early near0 near j) (hj:j<k) :
  NdI k par early near0 (if near j=early j then near else qM near j (near (near j))) (j+1):=by
 have hj0:=h.left j (J4 _);rcases Nat.eq_zero_or_pos j with h0 | h0
 ·subst h0;rw [if_pos (by rw [h.zero,N.fresh 0 (by omega)])];exact ⟨λ w h1 h2=>by omega,λ w hw=>h.left w (by omega),h.zero⟩
 ·have hpick:=N.pick T h0 hj;obtain ⟨x,h1,h2,h3,h4⟩:=N.hand T j h0 hj;have wl:=N.ear.lt T h0 hj;rcases h4 with ⟨h4,h5⟩ | ⟨h4,h5⟩
  ·rw [if_pos (by omega)];refine ⟨λ w hw wO wg=>?_,λ w hw=>h.left w (by omega),h.zero⟩
   by_cases e:w=j
   ·subst e;exact ⟨x,h1,h2,λ y hy wj=>(h3 y hy wj).2,.inl ⟨h4,by omega⟩⟩
   ·exact h.done w hw (by omega) wg
  ·(have wQ:near j=x:=by omega);rw [if_neg (by omega),wQ];(have wM:x<j:=by omega);refine ⟨λ w hw wO wg=>?_,λ w hw=>by rw [q8 _ _ (by omega)];exact h.left w (by omega),by rw [q8 _ _ (by omega)];exact h.zero⟩
   by_cases e:w=j
   ·subst e;exact ⟨x,h1,h2,λ y hy wj=>(h3 y hy wj).2,.inr ⟨h4,wM,by rw [qF,q8 _ _ (by omega)]⟩⟩
   ·obtain ⟨z,z1,z2,z3,z4⟩:=h.done w hw (by omega) wg;refine ⟨z,z1,z2,z3,?_⟩;rw [q8 _ _ e];rcases z4 with z4 | ⟨z4,z5,z6⟩
    ·exact .inl z4
    ·exact .inr ⟨z4,z5,by rw [q8 _ _ (by omega)];exact z6⟩
theorem NdI.all {near0:Nat->Nat} (h:NdI k par early near0 near k):q0G k par early near:=λ w h0 hw=>h.done w h0 hw hw
end Go.Proofs.YtfoggldjjnabcaaGreatDoor
