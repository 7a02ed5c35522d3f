/- Which registers are wanted where: what the program reckons, as functions, and what is wanted, by the document's words: plain mathematics. -/
import Derived.Test.YtfoggldjjnabcaaGreatDoorModAK
import Derived.Test.YtfoggldjjnabcaaGreatDoorPrpK
import Derived.Test.YtfoggldjjnabcaaGreatDoorAheadGK
set_option linter.unusedVariables false
set_option linter.unusedSimpArgs false
namespace Go.Proofs.YtfoggldjjnabcaaGreatDoor
open Go.ChangeShapes Go.WideShapes Go.RowKit Go.Deep
def mkI (ins:List qN) (i r:Nat):Bool:=(ins.take i).any λ x=>decide (x.dst=(r:Int))
def usA (ins:List qN) (i:Nat) (args:List Int):List Nat:=(args.map Int.toNat).filter λ r=>!mkI ins i r
def usK (ins:List qN):Nat->List Nat
 | 0=>[]
 | i+1=>usK ins i++(match ins[i]? with | some x=>usA ins i x.args | none=>[])
def usE (k:qE):List Nat:=if 0<=k.term.arg/\mkI k.ins k.ins.length k.term.arg.toNat=false then [k.term.arg.toNat] else []
def usB (k:qE):List Nat:=usK k.ins k.ins.length++usE k
def mkB (bs:List qE) (b r:Nat):Bool:=match bs[b]? with | some k=>mkI k.ins k.ins.length r | none=>false
def phI (ps:List PhiD) (i r:Nat):Bool:=(ps.take i).any λ p=>decide (p.dst=(r:Int))
def phB (bs:List qE) (b r:Nat):Bool:=match bs[b]? with | some k=>phI k.phis k.phis.length r | none=>false
theorem q3d {ins:List qN} {i:Nat} {x:qN} (h:ins[i]?=some x) (r:Nat):mkI ins (i+1) r=(mkI ins i r || decide (x.dst=(r:Int))):=by
 unfold mkI;rw [qG h,List.any_append];simp
theorem q81 {ps:List PhiD} {i:Nat} {x:PhiD} (h:ps[i]?=some x) (r:Nat):phI ps (i+1) r=(phI ps i r || decide (x.dst=(r:Int))):=by
 unfold phI;rw [qG h,List.any_append];simp
theorem q4x {bs:List qE} {b:Nat} {k:qE} (h:bs[b]?=some k) (r:Nat):mkB bs b r=mkI k.ins k.ins.length r:=by unfold mkB;rw [h]
theorem qAX {bs:List qE} {b:Nat} {k:qE} (h:bs[b]?=some k) (r:Nat):phB bs b r=phI k.phis k.phis.length r:=by unfold phB;rw [h]
theorem xy {ins:List qN} {i:Nat} {x:qN} (h:ins[i]?=some x):usK ins (i+1)=usK ins i++usA ins i x.args:=by
 show usK ins i++_=_;rw [h]
structure LvS where
 A:Nat->Nat->Bool
 E:Nat->Nat->Bool
 op:List (Nat × Nat)
def vM (M:Nat->Nat->Bool) (b r:Nat):Nat->Nat->Bool:=λ x y=>if x=b/\y=r then true else M x y
theorem yb (M:Nat->Nat->Bool) (b r:Nat):vM M b r b r=true:=by unfold vM;rw [if_pos ⟨rfl,rfl⟩]
theorem jE {M:Nat->Nat->Bool} {b r x y:Nat} (h:M x y=true):vM M b r x y=true:=by unfold vM;split;rfl;exact h
theorem yh {M:Nat->Nat->Bool} {b r x y:Nat} (h:vM M b r x y=true):(x=b/\y=r)\/M x y=true:=by
 unfold vM at h;split at h
 ·exact .inl ‹_›
 ·exact .inr h
def atB (ph:Nat->Nat->Bool) (s:LvS) (b r:Nat):LvS:=if (s.A b r || ph b r)=true then s else ⟨vM s.A b r,s.E,s.op++[(b,r)]⟩
def atE (mk ph:Nat->Nat->Bool) (s:LvS) (b r:Nat):LvS :=
 if s.E b r=true then s else if mk b r=true then ⟨s.A,vM s.E b r,s.op⟩ else atB ph ⟨s.A,vM s.E b r,s.op⟩ b r
def atEs (mk ph:Nat->Nat->Bool) (s:LvS) (l:List (Nat × Nat)):LvS:=l.foldl (λ s x=>atE mk ph s x.1 x.2) s
def atBs (ph:Nat->Nat->Bool) (s:LvS) (b:Nat) (l:List Nat):LvS:=l.foldl (λ s r=>atB ph s b r) s
theorem q28 (mk ph:Nat->Nat->Bool) (s:LvS) (l:List (Nat × Nat)) (b r:Nat):atEs mk ph s (l++[(b,r)])=atE mk ph (atEs mk ph s l) b r:=by unfold atEs;rw [List.foldl_append];rfl
theorem q2A (ph:Nat->Nat->Bool) (s:LvS) (b:Nat) (l:List Nat) (r:Nat):atBs ph s b (l++[r])=atB ph (atBs ph s b l) b r:=by unfold atBs;rw [List.foldl_append];rfl
def prP (ah:List Int) (args:List Int):List (Nat × Nat):=(List.zip ah args).map λ x=>(x.1.toNat,x.2.toNat)
def alE (mk ph:Nat->Nat->Bool) (ah:List Int) (s:LvS) (ps:List PhiD):LvS:=ps.foldl (λ s p=>atEs mk ph s (prP ah p.args)) s
theorem q4O (mk ph:Nat->Nat->Bool) (ah:List Int) (s:LvS) (ps:List PhiD) (p:PhiD):alE mk ph ah s (ps++[p])=atEs mk ph (alE mk ph ah s ps) (prP ah p.args):=by unfold alE;rw [List.foldl_append];rfl
def stL (bs:List qE):Nat->LvS
 | 0=>⟨λ _ _=>false,λ _ _=>false,[]⟩
 | k+1=>match bs[k]? with
  | some x=>alE (mkB bs) (phB bs) (qH bs k) (atBs (phB bs) (stL bs k) k (usB x)) x.phis
  | none=>stL bs k
theorem jq {bs:List qE} {k:Nat} {x:qE} (h:bs[k]?=some x):stL bs (k+1)=alE (mkB bs) (phB bs) (qH bs k) (atBs (phB bs) (stL bs k) k (usB x)) x.phis:=by
 (show (match bs[k]? with | some x=>_ | none=>_)=_);rw [h]
def q9K (bs:List qE) (b t r:Nat):Prop:=∃ x,bs[t]?=some x/\∃ p∈x.phis,(b,r)∈prP (qH bs t) p.args
inductive vJ (bs:List qE):Bool->Nat->Nat->Prop
 | use {b r:Nat} {x:qE}:bs[b]?=some x->r∈usB x->phB bs b r=false->vJ bs false b r
 | thru {b r:Nat}:b<bs.length->vJ bs true b r->mkB bs b r=false->phB bs b r=false->vJ bs false b r
 | along {b t r:Nat}:q9K bs b t r->vJ bs true b r
 | back {b t r:Nat}:t<bs.length->(b:Int)∈qH bs t->vJ bs false t r->vJ bs true b r
structure InvS (bs:List qE) (s:LvS):Prop where
 sa:∀ b r,s.A b r=true->vJ bs false b r
 se:∀ b r,s.E b r=true->vJ bs true b r
 ce:∀ b r,s.E b r=true->mkB bs b r=false->s.A b r=true\/phB bs b r=true
 op:∀ x∈s.op,s.A x.1 x.2=true
theorem InvS.start (bs:List qE):InvS bs ⟨λ _ _=>false,λ _ _=>false,[]⟩:=⟨λ _ _ h=>by simp at h,λ _ _ h=>by simp at h,λ _ _ h=>by simp at h,λ _ h=>by simp at h⟩
structure Mor (s s':LvS):Prop where
 a:∀ b r,s.A b r=true->s'.A b r=true
 e:∀ b r,s.E b r=true->s'.E b r=true
 op:∃ l,s'.op=s.op++l/\∀ b r,s'.A b r=true->s.A b r=true\/(b,r)∈l
theorem Mor.refl (s:LvS):Mor s s:=⟨λ _ _ h=>h,λ _ _ h=>h,[],by simp,λ _ _ h=>.inl h⟩
theorem Mor.trans {s t u:LvS} (h:Mor s t) (k:Mor t u):Mor s u:=by
 obtain ⟨l,e,h1⟩:=h.op;obtain ⟨m,e2,h2⟩:=k.op;refine ⟨λ b r x=>k.a b r (h.a b r x),λ b r x=>k.e b r (h.e b r x),l++m,by rw [e2,e,List.append_assoc],λ b r x=>?_⟩;rcases h2 b r x with h3 | h3
 ·rcases h1 b r h3 with h4 | h4
  ·exact .inl h4
  ·exact .inr (by simp [h4])
 ·exact .inr (by simp [h3])
theorem q0R (ph:Nat->Nat->Bool) (s:LvS) (b r:Nat):Mor s (atB ph s b r):=by
 unfold atB
 split
 ·exact .refl s
 ·refine ⟨λ x y h=>jE h,λ _ _ h=>h,[(b,r)],rfl,λ x y h=>?_⟩;rcases yh h with ⟨rfl,rfl⟩ | h
  ·exact .inr (by simp)
  ·exact .inl h
theorem q69 (ph:Nat->Nat->Bool) (s:LvS) (b r:Nat):(atB ph s b r).A b r=true\/ph b r=true:=by
 unfold atB
 by_cases h:(s.A b r || ph b r)=true
 ·rw [if_pos h];rw [Bool.or_eq_true] at h;exact h
 ·rw [if_neg h];exact .inl (yb _ _ _)
theorem q67 (mk ph:Nat->Nat->Bool) (s:LvS) (b r:Nat):Mor s (atE mk ph s b r):=by
 have h0:Mor s ⟨s.A,vM s.E b r,s.op⟩:=⟨λ _ _ h=>h,λ _ _ h=>jE h,[],by simp,λ _ _ h=>.inl h⟩;unfold atE
 split
 ·exact .refl s
 ·split
  ·exact h0
  ·exact h0.trans (q0R ph _ b r)
theorem q68 (mk ph:Nat->Nat->Bool) (s:LvS) (b r:Nat):(atE mk ph s b r).E b r=true:=by
 unfold atE
 by_cases h:s.E b r=true
 ·rw [if_pos h];exact h
 ·rw [if_neg h]
  split
  ·exact yb _ _ _
  ·exact (q0R ph _ b r).e b r (yb _ _ _)
theorem qBs (ph:Nat->Nat->Bool) (s:LvS) (b r:Nat):(atB ph s b r).E=s.E:=by unfold atB;split <;> rfl
theorem InvS.atB {bs:List qE} {s:LvS} (h:InvS bs s) {b r:Nat} (hw:phB bs b r=false->vJ bs false b r):InvS bs (atB (phB bs) s b r):=by
 unfold Go.Proofs.YtfoggldjjnabcaaGreatDoor.atB
 by_cases e:(s.A b r || phB bs b r)=true
 ·rw [if_pos e];exact h
 ·rw [if_neg e];rw [Bool.or_eq_true] at e;(have hp:phB bs b r=false:=by cases hp:phB bs b r;rfl;exact absurd (.inr hp) e);refine ⟨λ x y k=>?_,h.se,λ x y k hm=>?_,λ x hx=>?_⟩
  ·rcases yh k with ⟨rfl,rfl⟩ | k
   ·exact hw hp
   ·exact h.sa x y k
  ·rcases h.ce x y k hm with k2 | k2
   ·exact .inl (jE k2)
   ·exact .inr k2
  ·rcases List.mem_append.1 hx with hx | hx
   ·exact jE (h.op x hx)
   ·rw [List.mem_singleton.1 hx];exact yb _ _ _
theorem InvS.atE {bs:List qE} {s:LvS} (h:InvS bs s) {b r:Nat} (hb:b<bs.length) (hw:vJ bs true b r):InvS bs (atE (mkB bs) (phB bs) s b r):=by
 unfold Go.Proofs.YtfoggldjjnabcaaGreatDoor.atE
 by_cases e:s.E b r=true
 ·rw [if_pos e];exact h
 ·rw [if_neg e]
  by_cases hm:mkB bs b r=true
  ·rw [if_pos hm];refine ⟨h.sa,λ x y k=>?_,λ x y k wh=>?_,h.op⟩
   ·rcases yh k with ⟨rfl,rfl⟩ | k
    ·exact hw
    ·exact h.se x y k
   ·rcases yh k with ⟨rfl,rfl⟩ | k
    ·rw [hm] at wh;cases wh
    ·exact h.ce x y k wh
  ·rw [if_neg hm];(have wm:mkB bs b r=false:=by cases hq:mkB bs b r;rfl;exact absurd hq hm);have wj:=q69 (phB bs) ⟨s.A,vM s.E b r,s.op⟩ b r;have wg:=q0R (phB bs) ⟨s.A,vM s.E b r,s.op⟩ b r;have hE:=qBs (phB bs) ⟨s.A,vM s.E b r,s.op⟩ b r
   -- the state between holds all but the new end's own consequence
   refine ⟨λ x y k=>?_,λ x y k=>?_,λ x y k wh=>?_,λ x hx=>?_⟩
   ·unfold Go.Proofs.YtfoggldjjnabcaaGreatDoor.atB at k
    by_cases e2:(s.A b r || phB bs b r)=true
    ·rw [if_pos e2] at k;exact h.sa x y k
    ·rw [if_neg e2] at k;rw [Bool.or_eq_true] at e2;(have hp:phB bs b r=false:=by cases hp:phB bs b r;rfl;exact absurd (.inr hp) e2);rcases yh k with ⟨rfl,rfl⟩ | k
     ·exact .thru hb hw wm hp
     ·exact h.sa x y k
   ·rw [hE] at k;rcases yh k with ⟨rfl,rfl⟩ | k
    ·exact hw
    ·exact h.se x y k
   ·rw [hE] at k;rcases yh k with ⟨rfl,rfl⟩ | k
    ·exact wj
    ·rcases h.ce x y k wh with k2 | k2
     ·exact .inl (wg.a x y k2)
     ·exact .inr k2
   ·obtain ⟨l,e3,-⟩:=wg.op;unfold Go.Proofs.YtfoggldjjnabcaaGreatDoor.atB at hx ⊢
    by_cases e2:(s.A b r || phB bs b r)=true
    ·rw [if_pos e2] at hx ⊢;exact h.op x hx
    ·rw [if_neg e2] at hx ⊢;rcases List.mem_append.1 hx with hx | hx
     ·exact jE (h.op x hx)
     ·rw [List.mem_singleton.1 hx];exact yb _ _ _
theorem q4J (mk ph:Nat->Nat->Bool) (l:List (Nat × Nat)):∀ s,Mor s (atEs mk ph s l):=by
 induction l with
 | nil=>intro s;exact .refl s
 | cons x l ih=>intro s;exact (q67 mk ph s x.1 x.2).trans (ih _)
theorem q96 (mk ph:Nat->Nat->Bool) (l:List (Nat × Nat)):∀ s,∀ x∈l,(atEs mk ph s l).E x.1 x.2=true:=by
 induction l with
 | nil=>intro s x hx;cases hx
 | cons y l ih =>
  intro s x hx;rcases List.mem_cons.1 hx with rfl | hx
  ·exact (q4J mk ph l _).e _ _ (q68 mk ph s x.1 x.2)
  ·exact ih _ x hx
theorem InvS.atEs {bs:List qE} (l:List (Nat × Nat)):∀ {s:LvS},InvS bs s->(∀ x∈l,x.1<bs.length/\vJ bs true x.1 x.2)->InvS bs (atEs (mkB bs) (phB bs) s l):=by
 induction l with
 | nil=>intro s h _;exact h
 | cons y l ih=>intro s h hw;exact ih (h.atE (hw y (by simp)).1 (hw y (by simp)).2) (λ x hx=>hw x (by simp [hx]))
theorem q4K (ph:Nat->Nat->Bool) (b:Nat) (l:List Nat):∀ s,Mor s (atBs ph s b l):=by
 induction l with
 | nil=>intro s;exact .refl s
 | cons x l ih=>intro s;exact (q0R ph s b x).trans (ih _)
theorem q97 (ph:Nat->Nat->Bool) (b:Nat) (l:List Nat):∀ s,∀ r∈l,(atBs ph s b l).A b r=true\/ph b r=true:=by
 induction l with
 | nil=>intro s x hx;cases hx
 | cons y l ih =>
  intro s x hx;rcases List.mem_cons.1 hx with rfl | hx
  ·rcases q69 ph s b x with h | h
   ·exact .inl ((q4K ph b l _).a _ _ h)
   ·exact .inr h
  ·exact ih _ x hx
theorem InvS.atBs {bs:List qE} {b:Nat} (l:List Nat):∀ {s:LvS},InvS bs s->(∀ r∈l,phB bs b r=false->vJ bs false b r)->InvS bs (atBs (phB bs) s b l):=by
 induction l with
 | nil=>intro s h _;exact h
 | cons y l ih=>intro s h hw;exact ih (h.atB (hw y (by simp))) (λ x hx=>hw x (by simp [hx]))
theorem q2z (mk ph:Nat->Nat->Bool) (ah:List Int) (ps:List PhiD):∀ s,Mor s (alE mk ph ah s ps):=by
 induction ps with
 | nil=>intro s;exact .refl s
 | cons x l ih=>intro s;exact (q4J mk ph _ s).trans (ih _)
theorem qAC (mk ph:Nat->Nat->Bool) (ah:List Int) (ps:List PhiD):∀ s,∀ p∈ps,∀ x∈prP ah p.args,(alE mk ph ah s ps).E x.1 x.2=true:=by
 induction ps with
 | nil=>intro s x hx;cases hx
 | cons y l ih =>
  intro s p hp x hx;rcases List.mem_cons.1 hp with rfl | hp
  ·exact (q2z mk ph ah l _).e _ _ (q96 mk ph _ s x hx)
  ·exact ih _ p hp x hx
theorem InvS.alE {bs:List qE} {ah:List Int} (ps:List PhiD):∀ {s:LvS},InvS bs s->(∀ p∈ps,∀ x∈prP ah p.args,x.1<bs.length/\vJ bs true x.1 x.2)->InvS bs (alE (mkB bs) (phB bs) ah s ps):=by
 induction ps with
 | nil=>intro s h _;exact h
 | cons y l ih=>intro s h hw;exact ih (h.atEs _ (hw y (by simp))) (λ p hp=>hw p (by simp [hp]))
theorem qAU {bs:List qE} {t:Nat} {args:List Int}:∀ x∈prP (qH bs t) args,x.1<bs.length/\(x.1:Int)∈qH bs t:=by
 intro x hx;unfold prP at hx;obtain ⟨y,hy,rfl⟩:=List.mem_map.1 hx;have h1:=(List.of_mem_zip hy).1;have h2:=qw bs 0 t y.1 h1;(have e:((y.1.toNat:Nat):Int)=y.1:=by simp at h2;omega);(refine ⟨by simp at h2;omega,?_⟩);show ((y.1.toNat:Nat):Int)∈_;rw [e];exact h1
theorem q9P (bs:List qE) (k:Nat):Mor (stL bs k) (stL bs (k+1)):=by
 cases h:bs[k]? with
 | none =>
  (have:stL bs (k+1)=stL bs k:=by show (match bs[k]? with | some x=>_ | none=>_)=_;rw [h]);rw [this];exact .refl _
 | some x=>rw [jq h];exact (q4K _ _ _ _).trans (q2z _ _ _ _ _)
theorem q9Q (bs:List qE) (k:Nat):InvS bs (stL bs k):=by
 induction k with
 | zero=>exact InvS.start bs
 | succ k ih =>
  cases h:bs[k]? with
  | none =>
   (have:stL bs (k+1)=stL bs k:=by show (match bs[k]? with | some x=>_ | none=>_)=_;rw [h]);rw [this];exact ih
  | some x =>
   rw [jq h];refine (ih.atBs _ (λ r hr hp=>.use h hr hp)).alE _ (λ p hp y hy=>⟨(qAU y hy).1,.along ⟨x,h,p,hp,hy⟩⟩)
theorem q4j {bs:List qE} {k j:Nat} (h:k<=j):Mor (stL bs k) (stL bs j):=by
 induction j with
 | zero =>
  (obtain rfl:k=0:=by omega);exact .refl _
 | succ j ih =>
  by_cases e:k=j+1
  ·subst e;exact .refl _
  ·exact (ih (by omega)).trans (q9P bs j)
structure GotS (bs:List qE) (s:LvS):Prop where
 inv:InvS bs s
 use:∀ b r x,bs[b]?=some x->r∈usB x->s.A b r=true\/phB bs b r=true
 along:∀ b t r,q9K bs b t r->s.E b r=true
theorem GotS.more {bs:List qE} {s s':LvS} (h:GotS bs s) (m:Mor s s') (i:InvS bs s'):GotS bs s' :=
 ⟨i,λ b r x h1 h2=>(h.use b r x h1 h2).imp (m.a b r) id,λ b t r h1=>m.e b r (h.along b t r h1)⟩
theorem q9R (bs:List qE):GotS bs (stL bs bs.length):=by
 refine ⟨q9Q bs _,λ b r x hx hr=>?_,λ b t r ha=>?_⟩
 ·have hb:=(Jk hx).1;have m:=q4j (bs:=bs) (k:=b+1) (j:=bs.length) (by omega);rw [jq hx] at m;rcases q97 (phB bs) b (usB x) (stL bs b) r hr with h | h
  ·exact .inl (m.a b r ((q2z _ _ _ _ _).a b r h))
  ·exact .inr h
 ·obtain ⟨x,hx,p,hp,hm⟩:=ha;have ht:=(Jk hx).1;have m:=q4j (bs:=bs) (k:=t+1) (j:=bs.length) (by omega);rw [jq hx] at m;exact m.e b r (qAC _ _ _ _ _ p hp (b,r) hm)
def ToldS (bs:List qE) (s:LvS):Prop:=∀ b r,s.A b r=true->(b,r)∈s.op\/∀ x∈qH bs b,s.E x.toNat r=true
theorem ToldS.more {bs:List qE} {s s':LvS} (h:ToldS bs s) (m:Mor s s'):ToldS bs s':=λ b r ha=>by
 obtain ⟨l,e,h1⟩:=m.op;rcases h1 b r ha with h2 | h2
 ·rcases h b r h2 with h3 | h3
  ·exact .inl (by rw [e];simp [h3])
  ·exact .inr λ x hx=>m.e _ _ (h3 x hx)
 ·exact .inl (by rw [e];simp [h2])
theorem ToldS.start (bs:List qE):ToldS bs ⟨λ _ _=>false,λ _ _=>false,[]⟩:=λ b r h=>by simp at h
theorem q7k (bs:List qE) (k:Nat):ToldS bs (stL bs k):=(ToldS.start bs).more (q4j (bs:=bs) (k:=0) (j:=k) (by omega))
structure MidS (bs:List qE) (q:Nat × Nat) (j:Nat) (s:LvS):Prop where
 got:GotS bs s
 hq:s.A q.1 q.2=true
 told:∀ b r,s.A b r=true->(b,r)∈s.op\/((b,r)=q/\∀ i x,i<j->(qH bs b)[i]?=some x->s.E x.toNat r=true)\/∀ x∈qH bs b,s.E x.toNat r=true
theorem MidS.start {bs:List qE} {s:LvS} {l:List (Nat × Nat)} {q:Nat × Nat} (g:GotS bs s) (t:ToldS bs s) (e:s.op=l++[q]):MidS bs q 0 ⟨s.A,s.E,l⟩:=by
 (have hq:s.A q.1 q.2=true:=g.inv.op q (by rw [e];simp));(refine ⟨⟨⟨g.inv.sa,g.inv.se,g.inv.ce,λ x hx=>g.inv.op x (by rw [e];simp [hx])⟩,g.use,g.along⟩,hq,λ b r ha=>?_⟩);rcases t b r ha with h | h
 ·rw [e] at h;rcases List.mem_append.1 h with h | h
  ·exact .inl h
  ·exact .inr (.inl ⟨List.mem_singleton.1 h,λ i x hi=>by omega⟩)
 ·exact .inr (.inr h)
theorem MidS.step {bs:List qE} {q:Nat × Nat} {j:Nat} {s:LvS} {x:Int} (h:MidS bs q j s) (hq:q.1<bs.length) (hx:(qH bs q.1)[j]?=some x):MidS bs q (j+1) (atE (mkB bs) (phB bs) s x.toNat q.2):=by
 have hm:=Jz hx;have h2:=qw bs 0 q.1 x hm;(have wk:x.toNat<bs.length:=by simp at h2;omega);(have wl:((x.toNat:Nat):Int)=x:=by simp at h2;omega);have mor:=q67 (mkB bs) (phB bs) s x.toNat q.2;(have hw:vJ bs true x.toNat q.2:=.back hq (by rw [wl];exact hm) (h.got.inv.sa _ _ h.hq));refine ⟨h.got.more mor (h.got.inv.atE wk hw),mor.a _ _ h.hq,λ b r ha=>?_⟩;obtain ⟨l,e,h1⟩:=mor.op;rcases h1 b r ha with h3 | h3
 ·rcases h.told b r h3 with h4 | ⟨h4,h5⟩ | h4
  ·exact .inl (by rw [e];simp [h4])
  ·refine .inr (.inl ⟨h4,λ i y hi hy=>?_⟩)
   by_cases ei:i=j
   ·subst ei;(have e1:b=q.1:=by rw [<- h4]);(have e2:r=q.2:=by rw [<- h4]);subst e1 e2;(rw [hx] at hy;cases hy);exact q68 _ _ _ _ _
   ·exact mor.e _ _ (h5 i y (by omega) hy)
  ·exact .inr (.inr λ y hy=>mor.e _ _ (h4 y hy))
 ·exact .inl (by rw [e];simp [h3])
theorem MidS.done {bs:List qE} {q:Nat × Nat} {j:Nat} {s:LvS} (h:MidS bs q j s) (hj:(qH bs q.1).length<=j):GotS bs s/\ToldS bs s:=by
 refine ⟨h.got,λ b r ha=>?_⟩;rcases h.told b r ha with h4 | ⟨h4,h5⟩ | h4
 ·exact .inl h4
 ·refine .inr λ x hx=>?_;obtain ⟨i,hi⟩:=List.mem_iff_getElem?.1 hx;(have e1:b=q.1:=by rw [<- h4]);refine h5 i x ?_ hi;have:=(Jk hi).1;rw [e1] at this;omega
 ·exact .inr h4
theorem q1c {bs:List qE} {s:LvS} (g:GotS bs s) (t:ToldS bs s) (e:s.op=[]) {z:Bool} {b r:Nat} (h:vJ bs z b r):(z=false->s.A b r=true)/\(z=true->s.E b r=true):=by
 induction h with
 | use hx hr hp =>
  refine ⟨λ _=>?_,λ h=>Bool.noConfusion h⟩;rcases g.use _ _ _ hx hr with h | h
  ·exact h
  ·rw [hp] at h;cases h
 | thru hb _ hm hp ih =>
  refine ⟨λ _=>?_,λ h=>Bool.noConfusion h⟩;rcases g.inv.ce _ _ (ih.2 rfl) hm with h | h
  ·exact h
  ·rw [hp] at h;cases h
 | along ha=>exact ⟨λ h=>Bool.noConfusion h,λ _=>g.along _ _ _ ha⟩
 | back ht hb _ ih =>
  refine ⟨λ h=>Bool.noConfusion h,λ _=>?_⟩;rcases t _ _ (ih.1 rfl) with h | h
  ·rw [e] at h;cases h
  ·have:=h _ hb;simpa using this
theorem qAQ {bs:List qE} {s:LvS} (g:GotS bs s) (t:ToldS bs s) (e:s.op=[]) (b r:Nat):s.A b r=true↔vJ bs false b r:=⟨g.inv.sa b r,λ h=>(q1c g t e h).1 rfl⟩
theorem qAP {bs:List qE} {s:LvS} (g:GotS bs s) (t:ToldS bs s) (e:s.op=[]) (b r:Nat):s.E b r=true↔vJ bs true b r:=⟨g.inv.se b r,λ h=>(q1c g t e h).2 rfl⟩
theorem qv {α:Type} [Inhabited α] {l:List α} {k:Nat} {x:α} (h:l[k]?=some x):l.getD k default=x:=by rw [JJ,h];rfl
def lvP (R:Nat):List qN->Prop->Prop
 | [],E=>E
 | x::l,E=>(R:Int)∈x.args\/(x.dst≠(R:Int)/\lvP R l E)
def vD (f:qB) (R b a:Nat):Prop:=lvP R ((qP f b).ins.drop a) ((qP f b).term.arg=(R:Int)\/vJ f.blocks true b R)
theorem j2 {f:qB} {R b a:Nat} {kb:qE} {x:qN} (hb:f.blocks[b]?=some kb) (hx:kb.ins[a]?=some x):vD f R b a↔(R:Int)∈x.args\/(x.dst≠(R:Int)/\vD f R b (a+1)):=by
 have e:qP f b=kb:=qv hb;have hl:=(Jk hx).1;unfold vD;rw [e,List.drop_eq_getElem_cons hl,(Jk hx).2]
 rfl
theorem zg {f:qB} {R b:Nat} {kb:qE} (hb:f.blocks[b]?=some kb):vD f R b kb.ins.length↔kb.term.arg=(R:Int)\/vJ f.blocks true b R:=by
 have e:qP f b=kb:=qv hb;unfold vD;rw [e,List.drop_length]
 rfl
theorem q7c {ins:List qN} {i j r:Nat} (h:i<=j) (hr:r∈usK ins i):r∈usK ins j:=by
 induction j with
 | zero =>
  (obtain rfl:i=0:=by omega);exact hr
 | succ j ih =>
  by_cases e:i=j+1
  ·subst e;exact hr
  ·show r∈usK ins j++_;exact List.mem_append_left _ (ih (by omega))
theorem q9u {k:qE} {R:Nat} {W:Prop}:∀ (n i:Nat),i+n=k.ins.length->mkI k.ins i R=false->lvP R (k.ins.drop i) (k.term.arg=(R:Int)\/W)->R∈usB k\/(mkI k.ins k.ins.length R=false/\W):=by
 intro n
 induction n with
 | zero =>
  intro i hi hm h;(obtain rfl:i=k.ins.length:=by omega);rw [List.drop_length] at h;have h:k.term.arg=(R:Int)\/W:=h;rcases h with h | h
  ·left;unfold usB usE;refine List.mem_append_right _ ?_;(have e:k.term.arg.toNat=R:=by omega);(rw [if_pos ⟨by omega,by rw [e];exact hm⟩,e]);simp
  ·exact .inr ⟨hm,h⟩
 | succ n ih =>
  intro i hi hm h;(have hl:i<k.ins.length:=by omega);have hx:k.ins[i]?=some k.ins[i]:=Jq hl;rw [List.drop_eq_getElem_cons hl] at h;generalize k.ins[i]=x at hx h;have h:(R:Int)∈x.args\/(x.dst≠(R:Int)/\lvP R (k.ins.drop (i+1)) (k.term.arg=(R:Int)\/W)):=h;rcases h with h | ⟨hd,h⟩
  ·left;unfold usB;refine List.mem_append_left _ (q7c (show i+1<=k.ins.length by omega) ?_);rw [xy hx];refine List.mem_append_right _ ?_;unfold usA;exact List.mem_filter.2 ⟨List.mem_map.2 ⟨_,h,by simp⟩,by rw [hm];rfl⟩
  ·exact ih (i+1) (by omega) (by rw [q3d hx,hm,decide_eq_false hd];rfl) h
theorem q4X {f:qB} {R t:Nat} {kt:qE} (ht:f.blocks[t]?=some kt) (hp:phB f.blocks t R=false) (h:vD f R t 0):vJ f.blocks false t R:=by
 have e:qP f t=kt:=qv ht;unfold vD at h;rw [e] at h;rcases q9u (k:=kt) (R:=R) kt.ins.length 0 (by omega) (by simp [mkI]) h with h | ⟨h1,h2⟩
 ·exact .use ht h hp
 ·exact .thru (Jk ht).1 h2 (by rw [q4x ht];exact h1) hp
structure DomA (n:Nat) (E D:Nat->Nat->Prop) (near ord:Nat->Nat):Prop where
 dlt:∀ a b,D a b->a<n/\b<n
 self:∀ b,b<n->D b b
 trans:∀ a b c,D a b->D b c->D a c
 anti:∀ a b,D a b->D b a->a=b
 first:∀ b,b<n->D 0 b
 near_:∀ b,b<n->b≠0->D (near b) b/\near b≠b
 least:∀ a b,b<n->b≠0->D a b->a≠b->D a (near b)
 ord_:∀ b,b<n->b≠0->ord (near b)<ord b
 way:∀ b,b<n->b≠0->∃ p,E p b/\ord p<ord b
 edge:∀ p b,E p b->p<n/\b<n/\b≠0
 pred:∀ a p b,E p b->D a b->a≠b->D a p
def FrA (E D:Nat->Nat->Prop) (x b:Nat):Prop:=¬ (D x b/\x≠b)/\∃ p,E p b/\D x p
inductive ClA (E D:Nat->Nat->Prop) (mk:Nat->Prop):Nat->Prop
 | of {x b:Nat}:mk x->FrA E D x b->ClA E D mk b
 | more {x b:Nat}:ClA E D mk x->FrA E D x b->ClA E D mk b
variable {n:Nat} {E D:Nat->Nat->Prop} {near ord:Nat->Nat} {mk:Nat->Prop}
theorem DomA.down (h:DomA n E D near ord) {p b:Nat} (he:E p b):D (near b) p:=by
 obtain ⟨hp,hb,h0⟩:=h.edge p b he;exact h.pred _ _ _ he (h.near_ b hb h0).1 (h.near_ b hb h0).2
theorem DomA.up (h:DomA n E D near ord) {a b:Nat} (hd:D a b):a=b\/(b≠0/\D a (near b)):=by
 by_cases e:a=b
 ·exact .inl e
 ·obtain ⟨ha,hb⟩:=h.dlt a b hd;(have h0:b≠0:=λ e0=>e (h.anti a b hd (by rw [e0];exact h.first a ha)));exact .inr ⟨h0,h.least a b hb h0 hd e⟩
theorem DomA.quiet (h:DomA n E D near ord) {b p e:Nat} (hn:¬ ClA E D mk b) (he:E p b) (h1:D (near b) e) (h2:D e p) (wg:e≠near b):e≠0/\¬ mk e/\¬ ClA E D mk e:=by
 obtain ⟨hp,hb,h0⟩:=h.edge p b he;have hf:FrA E D e b:=⟨λ ⟨g1,g2⟩=>wg (h.anti _ _ (h.least e b hb h0 g1 g2) h1),p,he,h2⟩;refine ⟨λ e0=>?_,λ g=>hn (.of g hf),λ g=>hn (.more g hf)⟩;have:=h.dlt _ _ h1;exact wg (h.anti _ _ (by rw [e0];exact h.first _ this.1) h1)
theorem DomA.same (h:DomA n E D near ord) {α:Type} {ver:Nat->α} (hv:∀ e,e<n->e≠0->¬ mk e->¬ ClA E D mk e->ver e=ver (near e))
  {b p:Nat} (hn:¬ ClA E D mk b) (he:E p b):∀ (k e:Nat),ord e<=k->D (near b) e->D e p->ver e=ver (near b):=by
 intro k
 induction k with
 | zero =>
  intro e ho h1 h2
  by_cases wg:e=near b
  ·rw [wg]
  ·obtain ⟨q0,q1,q2⟩:=h.quiet hn he h1 h2 wg;have:=h.ord_ e (h.dlt _ _ h1).2 q0;omega
 | succ k ih =>
  intro e ho h1 h2
  by_cases wg:e=near b
  ·rw [wg]
  ·obtain ⟨q0,q1,q2⟩:=h.quiet hn he h1 h2 wg;have hl:=(h.dlt _ _ h1).2;have:=h.ord_ e hl q0;rw [hv e hl q0 q1 q2];exact ih (near e) (by omega) (h.least _ _ hl q0 h1 (λ g=>wg g.symm)) (h.trans _ _ _ (h.near_ e hl q0).1 h2)
theorem DomA.same_pred (h:DomA n E D near ord) {α:Type} {ver:Nat->α} (hv:∀ e,e<n->e≠0->¬ mk e->¬ ClA E D mk e->ver e=ver (near e))
  {b p:Nat} (hn:¬ ClA E D mk b) (he:E p b):ver p=ver (near b) :=
 h.same hv hn he (ord p) p (J4 _) (h.down he) (h.self p (h.edge p b he).1)
theorem DomA.wanted (h:DomA n E D near ord) {wb we:Nat->Prop} (h1:∀ p b,E p b->wb b->we p) (h2:∀ b,b<n->we b->¬ mk b->wb b) :
  ∀ (k b:Nat),ord b<=k->b<n->b≠0->wb b->¬ ClA E D mk b->we (near b):=by
 intro k
 induction k with
 | zero =>
  intro b ho hb h0 hw hn;have:=h.ord_ b hb h0;omega
 | succ k ih =>
  intro b ho hb h0 hw hn;obtain ⟨p,he,hop⟩:=h.way b hb h0;have wj:∀ (j e:Nat),ord e<=j->ord e<=k->D (near b) e->D e p->we e->we (near b):=by
   intro j
   induction j with
   | zero =>
    intro e hj hk g1 g2 g3
    by_cases wg:e=near b
    ·rw [<- wg];exact g3
    ·obtain ⟨q0,q1,q2⟩:=h.quiet hn he g1 g2 wg;have:=h.ord_ e (h.dlt _ _ g1).2 q0;omega
   | succ j jh =>
    intro e hj hk g1 g2 g3
    by_cases wg:e=near b
    ·rw [<- wg];exact g3
    ·obtain ⟨q0,q1,q2⟩:=h.quiet hn he g1 g2 wg;have hl:=(h.dlt _ _ g1).2;have ho2:=h.ord_ e hl q0;have wh:=ih e hk hl q0 (h2 e hl g3 q1) q2;exact jh (near e) (by omega) (by omega) (h.least _ _ hl q0 g1 (λ g=>wg g.symm)) (h.trans _ _ _ (h.near_ e hl q0).1 g2) wh
  exact wj (ord p) p (J4 _) (by omega) (h.down he) (h.self p (h.edge p b he).1) (h1 p b he hw)
end Go.Proofs.YtfoggldjjnabcaaGreatDoor

namespace Go.Proofs.YtfoggldjjnabcaaGreatDoor
open Go.ChangeShapes Go.WideShapes Go.RowKit Go.Deep
structure SsP where
 f:qB
 W:Nat->Nat->Bool
 C:Nat->Nat->Bool
 nr:Nat->Nat
def qR (f:qB) (b:Nat):List qN:=(qP f b).ins
def phL (P:SsP) (b:Nat):List Nat:=(List.range P.f.regs.length).filter λ r=>P.W b r && P.C b r
def zrL (P:SsP):List Nat:=(List.range P.f.regs.length).filter λ r=>decide (P.f.params<=(r:Int)) && P.W 0 r
def dsL (l:List qN):List Nat:=l.filterMap λ x=>if 0<=x.dst then some x.dst.toNat else none
def jn (P:SsP) (b:Nat):List Nat:=phL P b++dsL (qR P.f b)
def vI (P:SsP):List Nat:=(List.range P.f.params.toNat++zrL P)++(List.range P.f.blocks.length).flatMap (jn P)
def zV (P:SsP) (b:Nat):Nat:=P.f.params.toNat+(zrL P).length+((List.range b).flatMap (jn P)).length
def zrN (P:SsP) (r:Nat):Nat:=P.f.params.toNat+(zrL P).idxOf r
def phN (P:SsP) (b r:Nat):Nat:=zV P b+(phL P b).idxOf r
def dsN (P:SsP) (b i:Nat):Nat:=zV P b+(phL P b).length+(dsL ((qR P.f b).take i)).length
def zT (ins:List qN) (r:Nat):Nat->Option Nat
 | 0=>none
 | k+1=>if (ins.getD k default).dst=(r:Int) then some k else zT ins r k
inductive Ver (P:SsP) (r:Nat):Nat->Nat->Nat->Prop
 | ins {b n i:Nat}:zT (qR P.f b) r n=some i->Ver P r b n (dsN P b i)
 | phi {b n:Nat}:zT (qR P.f b) r n=none->r∈phL P b->Ver P r b n (phN P b r)
 | par {n:Nat}:zT (qR P.f 0) r n=none->r ∉ phL P 0->(r:Int)<P.f.params->Ver P r 0 n r
 | zero {n:Nat}:zT (qR P.f 0) r n=none->r ∉ phL P 0->¬ (r:Int)<P.f.params->Ver P r 0 n (zrN P r)
 | up {b n v:Nat}:zT (qR P.f b) r n=none->r ∉ phL P b->b≠0->Ver P r (P.nr b) (qR P.f (P.nr b)).length v->Ver P r b n v
theorem Ver.one {P:SsP} {r b n v:Nat} (h:Ver P r b n v):∀ {u},Ver P r b n u->u=v:=by
 induction h with
 | ins h1 =>
  intro u k;cases k with
  | ins k1=>rw [h1] at k1;cases k1;rfl
  | phi k1 k2=>rw [h1] at k1;cases k1
  | par k1 k2 k3=>rw [h1] at k1;cases k1
  | zero k1 k2 k3=>rw [h1] at k1;cases k1
  | up k1 k2 k3 k4=>rw [h1] at k1;cases k1
 | phi h1 h2 =>
  intro u k;cases k with
  | ins k1=>rw [h1] at k1;cases k1
  | phi k1 k2=>rfl
  | par k1 k2 k3=>exact absurd h2 k2
  | zero k1 k2 k3=>exact absurd h2 k2
  | up k1 k2 k3 k4=>exact absurd h2 k2
 | par h1 h2 h3 =>
  intro u k;cases k with
  | ins k1=>rw [h1] at k1;cases k1
  | phi k1 k2=>exact absurd k2 h2
  | par k1 k2 k3=>rfl
  | zero k1 k2 k3=>exact absurd h3 k3
  | up k1 k2 k3 k4=>exact absurd rfl k3
 | zero h1 h2 h3 =>
  intro u k;cases k with
  | ins k1=>rw [h1] at k1;cases k1
  | phi k1 k2=>exact absurd k2 h2
  | par k1 k2 k3=>exact absurd k3 h3
  | zero k1 k2 k3=>rfl
  | up k1 k2 k3 k4=>exact absurd rfl k3
 | up h1 h2 h3 h4 ih =>
  intro u k;cases k with
  | ins k1=>rw [h1] at k1;cases k1
  | phi k1 k2=>exact absurd k2 h2
  | par k1 k2 k3=>exact absurd rfl h3
  | zero k1 k2 k3=>exact absurd rfl h3
  | up k1 k2 k3 k4=>exact ih k4
open Classical in
noncomputable def vr (P:SsP) (r b n:Nat):Nat:=if h:∃ v,Ver P r b n v then h.choose else 0
theorem Ver.eq {P:SsP} {r b n v:Nat} (h:Ver P r b n v):vr P r b n=v:=by
 unfold vr;have hh:∃ v,Ver P r b n v:=⟨v,h⟩;rw [dif_pos hh];exact h.one hh.choose_spec
theorem qAH {P:SsP} {r b n:Nat} (h1:zT (qR P.f b) r n=none) (h2:r ∉ phL P b) (h3:b≠0):vr P r b n=vr P r (P.nr b) (qR P.f (P.nr b)).length:=by
 by_cases h:∃ v,Ver P r (P.nr b) (qR P.f (P.nr b)).length v
 ·obtain ⟨v,hv⟩:=h;rw [hv.eq,(Ver.up h1 h2 h3 hv).eq]
 ·have h':¬ ∃ v,Ver P r b n v:=λ ⟨v,hv⟩=>by
   cases hv with
   | ins k1=>rw [h1] at k1;cases k1
   | phi k1 k2=>exact h2 k2
   | par k1 k2 k3=>exact h3 rfl
   | zero k1 k2 k3=>exact h3 rfl
   | up k1 k2 k3 k4=>exact h ⟨v,k4⟩
  unfold vr;rw [dif_neg h,dif_neg h']
theorem yA {ins:List qN} {r:Nat}:∀ {n i:Nat},zT ins r n=some i->i<n/\(ins.getD i default).dst=(r:Int)
 | 0,i,h=>by simp [zT] at h
 | n+1,i,h=>by
  unfold zT at h
  split at h
  ·rename_i e;cases h;exact ⟨by omega,e⟩
  ·obtain ⟨a,b⟩:=yA h;exact ⟨by omega,b⟩
theorem jY {ins:List qN} {r:Nat}:∀ {n:Nat},zT ins r n=none->∀ i,i<n->(ins.getD i default).dst≠(r:Int)
 | 0,h,i,hi=>by omega
 | n+1,h,i,hi=>by
  unfold zT at h
  split at h
  ·cases h
  ·rename_i e
   by_cases q:i=n
   ·rw [q];exact e
   ·exact jY h i (by omega)
theorem q0o {ins:List qN} {r:Nat}:∀ {n:Nat},(∀ i,i<n->(ins.getD i default).dst≠(r:Int))->zT ins r n=none
 | 0,h=>rfl
 | n+1,h=>by
  unfold zT;rw [if_neg (h n (by omega))];exact q0o λ i hi=>h i (by omega)
theorem q8O {ins:List qN} {r n:Nat} (hn:n<=ins.length):mkI ins n r=false↔zT ins r n=none:=by
 unfold mkI;constructor
 ·intro h;rw [List.any_eq_false] at h;refine q0o λ i hi e=>?_;have hx:ins[i]?=some ins[i]:=Jq (by omega);(have hm:ins[i]∈ins.take n:=Jz (i:=i) (by rw [List.getElem?_take_of_lt hi];exact hx));have:=h _ hm;rw [JJ,hx] at e;exact this (by simpa using e)
 ·intro h;rw [List.any_eq_false];intro x hx hd;obtain ⟨i,hi⟩:=List.getElem?_of_mem hx;rw [List.getElem?_take] at hi
  split at hi
  ·rename_i hl;have:=jY h i hl;rw [JJ,hi] at this;exact this (by simpa using hd)
  ·cases hi
theorem q3x {α:Type} {g:Nat->List α} {x:α} {b j:Nat} (hx:(g b)[j]?=some x):∀ {n:Nat},b<n->((List.range n).flatMap g)[((List.range b).flatMap g).length+j]?=some x
 | 0,h=>by omega
 | n+1,h=>by
  rw [List.range_succ,List.flatMap_append]
  by_cases e:b=n
  ·rw [e] at hx ⊢;rw [List.getElem?_append_right (by omega)];simpa using hx
  ·have ih:=q3x hx (n:=n) (by omega);have hl:=(Jk ih).1;rw [List.getElem?_append_left hl];exact ih
theorem q87 {P:SsP} {b j r:Nat} (hb:b<P.f.blocks.length) (hx:(jn P b)[j]?=some r):(vI P)[zV P b+j]?=some r:=by
 unfold vI zV;(rw [List.getElem?_append_right (by simp;omega)]);(rw [show P.f.params.toNat+(zrL P).length+((List.range b).flatMap (jn P)).length+j - (List.range P.f.params.toNat++zrL P).length=((List.range b).flatMap (jn P)).length+j by simp;omega]);exact q3x hx hb
theorem q0s {l:List Nat} {x:Nat} (h:x∈l):l[l.idxOf x]?=some x:=by
 rw [Jq (List.idxOf_lt_length_iff.2 h),List.getElem_idxOf]
theorem q0g {P:SsP} {b r:Nat} (hb:b<P.f.blocks.length) (hr:r∈phL P b):(vI P)[phN P b r]?=some r:=by
 refine q87 hb ?_;unfold jn;rw [List.getElem?_append_left (List.idxOf_lt_length_iff.2 hr)];exact q0s hr
theorem qAr {l:List qN} {i:Nat} {x:qN} (hx:l[i]?=some x) (hd:0<=x.dst):(dsL l)[(dsL (l.take i)).length]?=some x.dst.toNat:=by
 obtain ⟨hi,e⟩:=Jk hx;(have hs:l=l.take i++x::l.drop (i+1):=by rw [<- e,List.getElem_cons_drop,List.take_append_drop]);have:dsL l=dsL (l.take i)++(x.dst.toNat::dsL (l.drop (i+1))):=by
  conv=>lhs;rw [hs]
  unfold dsL;rw [List.filterMap_append,List.filterMap_cons];simp only [if_pos hd]
 rw [this,List.getElem?_append_right (J4 _),Nat.sub_self]
 rfl
theorem q0h {P:SsP} {b i r:Nat} (hb:b<P.f.blocks.length) {x:qN} (hx:(qR P.f b)[i]?=some x) (hd:x.dst=(r:Int)):(vI P)[dsN P b i]?=some r:=by
 have h:=q87 (P:=P) (b:=b) (j:=(phL P b).length+(dsL ((qR P.f b).take i)).length) (r:=r) hb (by
  unfold jn;rw [List.getElem?_append_right (by omega)];have:=qAr hx (by omega);rw [hd] at this
  simpa using this)
 unfold dsN;rw [Nat.add_assoc];exact h
theorem q0f {P:SsP} {r:Nat} (hr:r∈zrL P):(vI P)[zrN P r]?=some r:=by
 unfold vI zrN;have hl:=List.idxOf_lt_length_iff.2 hr;(rw [List.getElem?_append_left (by simp;omega),List.getElem?_append_right (by simp)]);simpa using q0s hr
theorem kF {P:SsP} {r:Nat} (hr:(r:Int)<P.f.params):(vI P)[r]?=some r:=by
 unfold vI;(rw [List.getElem?_append_left (by simp;omega),List.getElem?_append_left (by simp;omega)]);rw [List.getElem?_range (by omega)]
def EdP (f:qB) (p b:Nat):Prop:=b<f.blocks.length/\(p:Int)∈qH f.blocks b
def mkP (f:qB) (r b:Nat):Prop:=b=0\/mkB f.blocks b r=true
structure SsOk (m:List qB) (P:SsP) (D:Nat->Nat->Prop) (ord:Nat->Nat):Prop where
 fn:q2H m P.f
 plain:∀ b∈P.f.blocks,b.phis=[]
 dom:DomA P.f.blocks.length (EdP P.f) D P.nr ord
 cl:∀ r b,b<P.f.blocks.length->(P.C b r=true↔ClA (EdP P.f) D (mkP P.f r) b)
 want:∀ b r,b<P.f.blocks.length->r<P.f.regs.length->(P.W b r=true↔vJ P.f.blocks false b r)
theorem SsOk.no_ph {m:List qB} {P:SsP} {D:Nat->Nat->Prop} {ord:Nat->Nat} (h:SsOk m P D ord) (b r:Nat):phB P.f.blocks b r=false:=by
 unfold phB;cases hb:P.f.blocks[b]? with
 | none=>rfl
 | some k=>simp only [];rw [h.plain k (Jz hb)];rfl
theorem qe {f:qB} {b:Nat} {k:qE} (hb:f.blocks[b]?=some k):qR f b=k.ins:=by unfold qR;rw [show qP f b=k from qv hb]
theorem q1d {f:qB} {r b:Nat} {k:qE} (hb:f.blocks[b]?=some k):∀ {i:Nat},i<=k.ins.length->vD f r b i->zT k.ins r i=none->vD f r b 0
 | 0,_,h,_=>h
 | i+1,hi,h,hl=>by
  have hx:k.ins[i]?=some k.ins[i]:=Jq (by omega);have hd:=jY hl i (by omega);have wJ:zT k.ins r i=none:=q0o λ j hj=>jY hl j (by omega);refine q1d hb (by omega) ((j2 hb hx).mpr (.inr ⟨?_,h⟩)) wJ;rw [JJ,hx] at hd;exact hd
theorem SsOk.want_of {m:List qB} {P:SsP} {D:Nat->Nat->Prop} {ord:Nat->Nat} (h:SsOk m P D ord) {r b i:Nat} {k:qE} (hb:P.f.blocks[b]?=some k) (hi:i<=k.ins.length) (hw:vD P.f r b i) (hl:zT k.ins r i=none):vJ P.f.blocks false b r :=
 q4X hb (h.no_ph b r) (q1d hb hi hw hl)
theorem mem_phL {P:SsP} {b r:Nat}:r∈phL P b↔r<P.f.regs.length/\P.W b r=true/\P.C b r=true:=by
 unfold phL;rw [List.mem_filter,List.mem_range,Bool.and_eq_true]
theorem mem_zrL {P:SsP} {r:Nat}:r∈zrL P↔r<P.f.regs.length/\P.f.params<=(r:Int)/\P.W 0 r=true:=by
 unfold zrL;rw [List.mem_filter,List.mem_range,Bool.and_eq_true,decide_eq_true_iff]
theorem SsOk.near_want {m:List qB} {P:SsP} {D:Nat->Nat->Prop} {ord:Nat->Nat} (h:SsOk m P D ord) {r b:Nat} (hb:b<P.f.blocks.length) (h0:b≠0) (hw:vJ P.f.blocks false b r) (hc:¬ P.C b r=true):vJ P.f.blocks true (P.nr b) r:=by
 refine h.dom.wanted (mk:=mkP P.f r) (wb:=λ b=>vJ P.f.blocks false b r) (we:=λ b=>vJ P.f.blocks true b r) ?_ ?_ (ord b) b (J4 _) hb h0 hw (λ g=>hc ((h.cl r b hb).mpr g))
 ·intro p c he hw;exact .back he.1 he.2 hw
 ·intro c hc hw hn
  exact .thru hc hw (by
   cases e:mkB P.f.blocks c r with
   | false=>rfl
   | true=>exact absurd (.inr e) hn) (h.no_ph c r)
theorem SsOk.ver {m:List qB} {P:SsP} {D:Nat->Nat->Prop} {ord:Nat->Nat} (h:SsOk m P D ord) {r:Nat} (hr:r<P.f.regs.length):∀ (t:Nat) {b i:Nat} {k:qE},ord b<=t->P.f.blocks[b]?=some k->i<=k.ins.length->vD P.f r b i->∃ v,Ver P r b i v/\(vI P)[v]?=some r:=by
 intro t
 induction t with
 | zero =>
  intro b i k ht hb hi hw;have wh:=(Jk hb).1;have ei:=qe hb;cases hl:zT (qR P.f b) r i with
  | some j =>
   obtain ⟨q1,q2⟩:=yA hl;rw [ei] at q2;have hx:k.ins[j]?=some k.ins[j]:=Jq (by omega);rw [JJ,hx] at q2;exact ⟨_,.ins hl,q0h wh (by rw [ei];exact hx) q2⟩
  | none =>
   by_cases hp:r∈phL P b
   ·exact ⟨_,.phi hl hp,q0g wh hp⟩
   ·by_cases h0:b=0
    ·subst h0
     by_cases wg:(r:Int)<P.f.params
     ·exact ⟨_,.par hl hp wg,kF wg⟩
     ·refine ⟨_,.zero hl hp wg,q0f (mem_zrL.mpr ⟨hr,by omega,(h.want 0 r wh hr).mpr ?_⟩)⟩;exact h.want_of hb hi hw (by rw [<- ei];exact hl)
    ·have:=h.dom.ord_ b wh h0;omega
 | succ t ih =>
  intro b i k ht hb hi hw;have wh:=(Jk hb).1;have ei:=qe hb;cases hl:zT (qR P.f b) r i with
  | some j =>
   obtain ⟨q1,q2⟩:=yA hl;rw [ei] at q2;have hx:k.ins[j]?=some k.ins[j]:=Jq (by omega);rw [JJ,hx] at q2;exact ⟨_,.ins hl,q0h wh (by rw [ei];exact hx) q2⟩
  | none =>
   have wj:=h.want_of hb hi hw (by rw [<- ei];exact hl)
   by_cases hp:r∈phL P b
   ·exact ⟨_,.phi hl hp,q0g wh hp⟩
   ·by_cases h0:b=0
    ·subst h0
     by_cases wg:(r:Int)<P.f.params
     ·exact ⟨_,.par hl hp wg,kF wg⟩
     ·exact ⟨_,.zero hl hp wg,q0f (mem_zrL.mpr ⟨hr,by omega,(h.want 0 r wh hr).mpr wj⟩)⟩
    ·have hc:¬ P.C b r=true:=λ g=>hp (mem_phL.mpr ⟨hr,(h.want b r wh hr).mpr wj,g⟩);have wu:=h.near_want wh h0 wj hc;have ho:=h.dom.ord_ b wh h0;have ww:=(h.dom.dlt _ _ (h.dom.near_ b wh h0).1).1;have wk:P.f.blocks[P.nr b]?=some P.f.blocks[P.nr b]:=Jq ww;obtain ⟨v,hv,wv⟩:=ih (i:=P.f.blocks[P.nr b].ins.length) (by omega) wk (J4 _) ((zg wk).mpr (.inr wu));exact ⟨v,.up hl hp h0 (by rw [qe wk];exact hv),wv⟩
theorem SsOk.old {m:List qB} {P:SsP} {D:Nat->Nat->Prop} {ord:Nat->Nat} (h:SsOk m P D ord) {r b i:Nat} {k:qE} (hr:r<P.f.regs.length) (hb:P.f.blocks[b]?=some k) (hi:i<=k.ins.length) (hw:vD P.f r b i):(vI P)[vr P r b i]?=some r:=by
 obtain ⟨v,h1,h2⟩:=h.ver hr (ord b) (J4 _) hb hi hw;rw [h1.eq];exact h2
theorem SsOk.same {m:List qB} {P:SsP} {D:Nat->Nat->Prop} {ord:Nat->Nat} (h:SsOk m P D ord) {r p b:Nat} (hr:r<P.f.regs.length) (he:EdP P.f p b) (hw:vJ P.f.blocks false b r) (hp:r ∉ phL P b):vr P r b 0=vr P r p (qR P.f p).length:=by
 obtain ⟨hpl,wh,h0⟩:=h.dom.edge p b he;have hc:¬ P.C b r=true:=λ g=>hp (mem_phL.mpr ⟨hr,(h.want b r wh hr).mpr hw,g⟩);rw [qAH rfl hp h0];refine (h.dom.same_pred (mk:=mkP P.f r) (ver:=λ e=>vr P r e (qR P.f e).length) ?_ (λ g=>hc ((h.cl r b wh).mpr g)) he).symm;intro e wl e0 hm wM;have wm:P.f.blocks[e]?=some P.f.blocks[e]:=Jq wl;have ei:=qe wm;show vr P r e (qR P.f e).length=vr P r (P.nr e) (qR P.f (P.nr e)).length;refine qAH ?_ (λ g=>wM ((h.cl r e wl).mp (mem_phL.mp g).2.2)) e0
 rw [ei];refine (q8O (J4 _)).mp ?_;rw [<- q4x wm];cases q:mkB P.f.blocks e r with
 | false=>rfl
 | true=>exact absurd (.inr q) hm
structure q4S (R:Nat) (k:qE):Prop where
 ins:∀ x∈k.ins,(∀ a∈x.args,InR R a)/\(x.dst=-1\/InR R x.dst)/\x.args.length<=300
 len:k.ins.length<=300
 arg:k.term.arg=-1\/InR R k.term.arg
theorem q5f (ins:List qN) (i:Nat) (args:List Int):(usA ins i args).length<=args.length:=by unfold usA;refine Nat.le_trans (List.length_filter_le _ _) (by simp)
theorem q7d (ins:List qN) (i:Nat) (args:List Int):usA ins i (args.take 0)=[]:=by simp [usA]
theorem q7e {ins:List qN} {i j:Nat} {args:List Int} {r:Nat} (h:args[j]?=some (r:Int)):usA ins i (args.take (j+1))=if mkI ins i r=true then usA ins i (args.take j) else usA ins i (args.take j)++[r]:=by
 unfold usA;rw [qG h,List.map_append,List.filter_append];simp only [List.map_cons,List.map_nil,Int.toNat_natCast];cases hm:mkI ins i r <;> simp [hm]
theorem q5e {ins:List qN} (h:∀ x∈ins,x.args.length<=300) (i:Nat):(usK ins i).length<=300 * i:=by
 induction i with
 | zero=>simp [usK]
 | succ i ih =>
  cases hx:ins[i]? with
  | none =>
   (have:usK ins (i+1)=usK ins i++[]:=by show usK ins i++(match ins[i]? with | some x=>_ | none=>_)=_;rw [hx]);rw [this,List.append_nil];omega
  | some x =>
   rw [xy hx,List.length_append];have h1:=q5f ins i x.args;have h2:=h x (Jz hx);omega
structure qAF (f:qB):Prop where
 nb:f.blocks.length<=64
 nr:f.regs.length<=256
 use:∀ (i:Nat) (k:qE),f.blocks[i]?=some k->q4S f.regs.length k
 phi:∀ (i:Nat) (k:qE),f.blocks[i]?=some k->k.phis.length<=300/\∀ p∈k.phis,p.args.length=(qH f.blocks i).length/\InR f.regs.length p.dst/\∀ a∈p.args,InR f.regs.length a
theorem qAT {R:Nat} {ins:List qN} {i:Nat} {args:List Int} (h:∀ a∈args,InR R a):∀ r∈usA ins i args,r<R:=by
 intro r hr;unfold usA at hr;obtain ⟨a,ha,e⟩:=List.mem_map.1 (List.mem_filter.1 hr).1;have:=h a ha;unfold InR at this;omega
theorem qAR {R:Nat} {k:qE} (h:q4S R k) (i:Nat):∀ r∈usK k.ins i,r<R:=by
 induction i with
 | zero=>intro r hr;simp [usK] at hr
 | succ i ih =>
  intro r hr;cases hx:k.ins[i]? with
  | none =>
   (have e:usK k.ins (i+1)=usK k.ins i++[]:=by show usK k.ins i++(match k.ins[i]? with | some x=>_ | none=>_)=_;rw [hx]);rw [e,List.append_nil] at hr;exact ih r hr
  | some x =>
   rw [xy hx] at hr;rcases List.mem_append.1 hr with hr | hr
   ·exact ih r hr
   ·exact qAT (h.ins x (Jz hx)).1 r hr
theorem qAS {R:Nat} {k:qE} (h:q4S R k):∀ r∈usB k,r<R:=by
 intro r hr;unfold usB at hr;rcases List.mem_append.1 hr with hr | hr
 ·exact qAR h _ r hr
 ·unfold usE at hr
  split at hr
  ·rename_i h1;rw [List.mem_singleton.1 hr];rcases h.arg with h2 | h2
   ·omega
   ·unfold InR at h2;omega
  ·cases hr
theorem q9N {R:Nat} {k:qE} (h:q4S R k):(usB k).length<=90001:=by
 have h1:=q5e (λ x hx=>(h.ins x hx).2.2) k.ins.length;have h2:=h.len;unfold usB;rw [List.length_append];(have h3:(usE k).length<=1:=by unfold usE;split <;> simp);omega
theorem qAV {ah args:List Int} {j:Nat} {x a:Int} (hx:ah[j]?=some x) (ha:args[j]?=some a):(prP ah args)[j]?=some (x.toNat,a.toNat):=by
 unfold prP;have h1:=Jk hx;have h2:=Jk ha;rw [List.getElem?_map,(List.getElem?_zip_eq_some (z:=(x,a))).2 ⟨hx,ha⟩];rfl
theorem q9Y {ah args:List Int} (h:args.length=ah.length):(prP ah args).length=ah.length:=by unfold prP;rw [List.length_map,List.length_zip,h];omega
theorem q9C {bs:List qE} {t j:Nat} {x:Int} (h:(qH bs t)[j]?=some x):∃ q:Nat,x=(q:Int)/\q<bs.length:=by
 have h2:=qw bs 0 t x (Jz h);simp at h2;exact ⟨x.toNat,by omega,by omega⟩
theorem q2G {Wa W:World} {Ga b:Nat} {bs:List qE} (wj:SL Wa 1 RRow (some ⟨Ga,0,none⟩) bs.length (kT bs)) (hb:b<bs.length) (hW:Below Wa.heap.size Wa W) :
  ∃ A c,W.cell? ⟨Ga,b,none⟩=some (.slice A (qH bs b).length c)/\SL W 1 RInt A c (qH bs b):=by
 (obtain ⟨bg,og,l,wg,hl,wh⟩:=(SL.keep (q7 hW) (RRow.keep (q7 hW)) wj).at_ (k:=b) (by rw [k8];exact hb));simp only [J0,Addr.mk.injEq,and_true] at wg;obtain ⟨rfl,rfl⟩:=wg;have e:=q2P hl.out;subst e;obtain ⟨A,c,h1,h2⟩:=wh;rw [Nat.mul_one,Nat.zero_add] at h1;exact ⟨A,c,h1,h2⟩
end Go.Proofs.YtfoggldjjnabcaaGreatDoor
