/- What can be come to, by going round often enough, in mathematics. No condition. -/
import Derived.Test.YtfoggldjjnabcaaGreatDoorModAK
import Derived.Test.YtfoggldjjnabcaaGreatDoorDmGK
import Derived.Deep.AppendLies
import Derived.Deep.OwnRows
import Derived.Deep.DeepCutAuto
import Derived.Test.YtfoggldjjnabcaaGreatDoorAheadGK
import Derived.Test.YtfoggldjjnabcaaGreatDoorDmMK
namespace Go.Proofs.YtfoggldjjnabcaaGreatDoor
open Go.ChangeShapes Go.WideShapes Go.RowKit Go.Deep
set_option linter.unusedVariables false
set_option linter.unusedSimpArgs false
def mkW (w:Int) (S:Nat->Bool) (t:Nat):Nat->Bool:=if (t:Int)=w then S else mark S t
def q0A (nx:Nat->List Nat) (w:Int) (S:Nat->Bool) (a:Nat):Nat->Bool:=if S a=true then (nx a).foldl (mkW w) S else S
def q5y (nx:Nat->List Nat) (w:Int) (n:Nat) (S:Nat->Bool):Nat->Bool:=(List.range n).foldl (q0A nx w) S
def xP (nx:Nat->List Nat) (w:Int) (n b:Nat):Nat->Nat->Bool
 | 0=>mark zO b
 | i+1=>q5y nx w n (xP nx w n b i)
def nxW (nx:Nat->List Nat) (w:Int) (a:Nat):List Nat:=(nx a).filter λ t:Nat=>decide ((t:Int)≠w)
theorem nxW_mem {nx:Nat->List Nat} {w:Int} {a t:Nat}:t∈nxW nx w a↔t∈nx a/\(t:Int)≠w:=by
 unfold nxW;rw [List.mem_filter];simp
theorem qAe {w:Int} {S:Nat->Bool} {t x:Nat} (h:S x=true):mkW w S t x=true:=by
 unfold mkW;split
 ·exact h
 ·exact xJ h
theorem q3v {w:Int} {l:List Nat}:∀ {S:Nat->Bool} {x:Nat},S x=true->l.foldl (mkW w) S x=true:=by
 induction l with
 | nil=>exact λ h=>h
 | cons t l ih=>exact λ h=>ih (qAe h)
theorem q74 {w:Int} {l:List Nat}:∀ {S:Nat->Bool} {t:Nat},t∈l->(t:Int)≠w->l.foldl (mkW w) S t=true:=by
 induction l with
 | nil=>intro S t h;cases h
 | cons y l ih =>
  intro S t h hw;rcases List.mem_cons.1 h with rfl | h
  ·rw [List.foldl_cons];exact q3v (by unfold mkW;rw [if_neg hw];exact jN _ _)
  ·exact ih h hw
theorem q75 {w:Int} {l:List Nat}:∀ {S:Nat->Bool} {x:Nat},l.foldl (mkW w) S x=true->S x=true\/(x∈l/\(x:Int)≠w):=by
 induction l with
 | nil=>exact λ h=>.inl h
 | cons y l ih =>
  intro S x h;rcases ih h with h1 | ⟨h1,h2⟩
  ·unfold mkW at h1
   split at h1
   ·exact .inl h1
   ·rename_i wj;rcases xk h1 with rfl | h1
    ·exact .inr ⟨by simp,wj⟩
    ·exact .inl h1
  ·exact .inr ⟨by simp [h1],h2⟩
theorem q3t {nx:Nat->List Nat} {w:Int} {S:Nat->Bool} {a x:Nat} (h:S x=true):q0A nx w S a x=true:=by
 unfold q0A;split
 ·exact q3v h
 ·exact h
theorem kL {nx:Nat->List Nat} {w:Int} {l:List Nat}:∀ {S:Nat->Bool} {x:Nat},S x=true->l.foldl (q0A nx w) S x=true:=by
 induction l with
 | nil=>exact λ h=>h
 | cons t l ih=>exact λ h=>ih (q3t h)
theorem q77 {nx:Nat->List Nat} {w:Int} {l:List Nat}:∀ {S:Nat->Bool} {a t:Nat},a∈l->S a=true->t∈nx a->(t:Int)≠w->l.foldl (q0A nx w) S t=true:=by
 induction l with
 | nil=>intro S a t h;cases h
 | cons y l ih =>
  intro S a t h hs ht hw;rcases List.mem_cons.1 h with rfl | h
  ·rw [List.foldl_cons];exact kL (by unfold q0A;rw [if_pos hs];exact q74 ht hw)
  ·exact ih h (q3t hs) ht hw
theorem q22 {nx:Nat->List Nat} {w:Int} {p:Nat->Prop} {l:List Nat}:(∀ a t,a∈l->p a->t∈nx a->(t:Int)≠w->p t)->∀ {S:Nat->Bool},(∀ x,S x=true->p x)->∀ x,l.foldl (q0A nx w) S x=true->p x:=by
 induction l with
 | nil=>exact λ _ _ h=>h
 | cons y l ih =>
  intro hp S h;refine ih (λ a t ha=>hp a t (by simp [ha])) λ x hx=>?_;unfold q0A at hx
  split at hx
  ·rename_i hy;rcases q75 hx with h1 | ⟨h1,h2⟩
   ·exact h x h1
   ·exact hp y x (by simp) (h y hy) h1 h2
  ·exact h x hx
def q6D (nx:Nat->List Nat) (w:Int) (n:Nat) (S:Nat->Bool):Prop:=∀ a t,a<n->S a=true->t∈nx a->(t:Int)≠w->S t=true
theorem q38 {n:Nat} {S S':Nat->Bool} (h:∀ x,S x=true->S' x=true) {t:Nat} (ht:t<n) (h1:S t=false) (h2:S' t=true):qj n S'+1<=qj n S:=by
 rw [vE h1 ht];have:qj n S'<=qj n (mark S t):=kz λ x hx=>by
  rcases xk hx with rfl | hx
  ·exact h2
  ·exact h x hx
 omega
theorem q72 {nx:Nat->List Nat} {n:Nat} (wg:∀ x,∀ t∈nx x,t<n) {w:Int} {b:Nat} (hb:b<n):∀ i:Nat,q6D nx w n (xP nx w n b i)\/qj n (xP nx w n b i)+i+1<=n:=by
 intro i
 induction i with
 | zero =>
  right;have h:=vE (S:=zO) (b:=b) rfl hb;have h2:=kR n zO;show qj n (mark zO b)+0+1<=n;omega
 | succ i ih =>
  generalize hS:xP nx w n b i=S at ih;(have hS':xP nx w n b (i+1)=q5y nx w n S:=by rw [<- hS];rfl);rw [hS']
  by_cases hc:q6D nx w n S
  ·left;have wh:∀ x,q5y nx w n S x=true->S x=true :=
    q22 (p:=λ x=>S x=true) (λ a t ha hs ht hw=>hc a t (List.mem_range.1 ha) hs ht hw) (λ x hx=>hx)
   intro a t ha hs ht hw;exact kL (hc a t ha (wh a hs) ht hw)
  ·rcases ih with ih | ih
   ·exact absurd ih hc
   ·right;have:∃ a t,a<n/\S a=true/\t∈nx a/\(t:Int)≠w/\S t=false:=by
     apply Classical.byContradiction;intro h;apply hc;intro a t ha hs ht hw;cases h2:S t
     ·exact absurd ⟨a,t,ha,hs,ht,hw,h2⟩ h
     ·rfl
    obtain ⟨a,t,ha,hs,ht,hw,h2⟩:=this;have:=q38 (S:=S) (S':=q5y nx w n S) (λ x hx=>kL hx) (wg a t ht) h2 (q77 (List.mem_range.2 ha) hs ht hw);omega
theorem q3s {nx:Nat->List Nat} {w:Int} {n b:Nat}:∀ i:Nat,xP nx w n b i b=true
 | 0=>jN _ _
 | i+1=>kL (q3s i)
theorem q09 {nx:Nat->List Nat} {w:Int} {n b:Nat}:∀ (i x:Nat),xP nx w n b i x=true->Reach (nxW nx w) b x
 | 0,x,h=>by
  rcases xk h with rfl | h
  ·exact .refl
  ·cases h
 | i+1,x,h=>q22 (p:=Reach (nxW nx w) b) (λ a t _ ha ht hw=>.step ha (nxW_mem.2 ⟨ht,hw⟩)) (λ y hy=>q09 i y hy) x h
theorem q21 {nx:Nat->List Nat} {n:Nat} (wg:∀ x,∀ t∈nx x,t<n) {w:Int} {b:Nat} (hb:b<n) (x:Nat):xP nx w n b n x=true↔Reach (nxW nx w) b x:=by
 refine ⟨q09 n x,λ h=>?_⟩;rcases q72 wg (w:=w) hb n with hc | hc
 ·have wk:∀ y,Reach (nxW nx w) b y->y<n:=λ y hy=>by
   cases hy with
   | refl=>exact hb
   | step _ h=>exact wg _ _ (nxW_mem.1 h).1
  induction h with
  | refl=>exact q3s n
  | step h1 h2 ih=>exact hc _ _ (wk _ h1) ih (nxW_mem.1 h2).1 (nxW_mem.1 h2).2
 ·omega
theorem q9i (nx:Nat->List Nat) (w:Int) (hw:w<0):nxW nx w=nx:=by
 (funext a);unfold nxW;rw [List.filter_eq_self];intro t _;simp;omega
theorem q2l {nx:Nat->List Nat} {n:Nat} (wg:∀ x,∀ t∈nx x,t<n) (hn:0<n) (x:Nat):xP nx (-1) n 0 n x=vn nx n x:=by
 have h1:=q21 wg (w:=-1) (b:=0) hn x;rw [q9i nx (-1) (by omega),<- vF wg (by omega)] at h1;unfold vn;rw [Bool.eq_iff_iff,decide_eq_true_iff];exact h1
def nxF (bs:List qE) (a:Nat):List Nat:=match bs[a]? with
 | some b=>zH bs.length b.term.to
 | none=>[]
theorem q89 {bs:List qE} {a:Nat} {b:qE} (h:bs[a]?=some b):nxF bs a=zH bs.length b.term.to:=by unfold nxF;rw [h]
theorem zD (bs:List qE):∀ x,∀ t∈nxF bs x,t<bs.length:=λ x t ht=>by
 unfold nxF at ht
 split at ht
 ·exact (nextN_mem.1 ht).1
 ·cases ht
theorem yW {bs:List qE} {a t:Nat} {b:qE} (h:bs[a]?=some b):t∈nxF bs a↔t<bs.length/\(t:Int)∈b.term.to:=by
 rw [q89 h];exact nextN_mem
def zs (l:List Nat):List Int:=l.map λ q:Nat=>(q:Int)
theorem qg (l:List Nat):(zs l).length=l.length:=by simp [zs]
theorem jD {l:List Nat} {i:Nat} {x:Int} (h:(zs l)[i]?=some x):∃ q:Nat,l[i]?=some q/\x=q:=by
 unfold zs at h;rw [List.getElem?_map] at h;obtain ⟨q,hq,rfl⟩:=Option.map_eq_some_iff.1 h;exact ⟨q,hq,rfl⟩
theorem yG (l:List Nat) (q:Nat):zs (l++[q])=zs l++[(q:Int)]:=by simp [zs]
theorem y4 {l:List Nat} {x:Int} (h:x∈zs l):∃ q∈l,x=(q:Int):=by
 unfold zs at h;obtain ⟨q,hq,rfl⟩:=List.mem_map.1 h;exact ⟨q,hq,rfl⟩
def qI (bs:List qE) (x:Nat):Bool:=vn (nxF bs) bs.length x
def qV (bs:List qE):List Nat:=vC (nxF bs) bs.length
def yl (r:Nat->Bool) (i:Nat):Int:=if r i=true then (((List.range i).countP r:Nat):Int) else -1
theorem j7 (r:Nat->Bool) (k:Nat):(List.range (k+1)).countP r=(List.range k).countP r+(if r k=true then 1 else 0):=by
 rw [List.range_succ,List.countP_append];simp [List.countP_cons]
theorem yR (r:Nat->Bool) (k:Nat):(List.range k).countP r<=k:=by
 have:=List.countP_le_length (p:=r) (l:=List.range k);simpa using this
theorem q8A (r:Nat->Bool) {i:Nat} (h:i<=1000000):I64 (yl r i):=by
 have:=yR r i;unfold yl I64;split <;> omega
def zP (r:Nat->Bool):List Int->List Int->List Int
 | a::rs,x::xs=>(if r a.toNat=true then [x] else [])++zP r rs xs
 | _,_=>[]
def zX (r:Nat->Bool) (ahead args:List Int):List Int:=if args.length=ahead.length then zP r ahead args else args
def kB (r:Nat->Bool) (ahead:List Int) (p:PhiD):PhiD:=⟨p.dst,zX r ahead p.args⟩
def toT (r:Nat->Bool) (n:Nat) (t:Int):Int:=if 0<=t/\t<n then yl r t.toNat else t
def q0H (bs:List qE) (r:Nat->Bool) (i:Nat) (b:qE):qE :=
 ⟨b.phis.map (kB r (qH bs i)),b.ins,⟨b.term.kind,b.term.arg,b.term.to.map (toT r bs.length)⟩⟩
def zJ (bs:List qE) (r:Nat->Bool) (k:Nat):List qE:=(bs.zipIdx.take k).filterMap λ p=>if r p.2=true then some (q0H bs r p.2 p.1) else none
def qb (bs:List qE):List qE:=zJ bs (qI bs) bs.length
def qL (f:qB):qB:=⟨f.params,f.result,f.regs,qb f.blocks⟩
theorem jc {bs:List qE} {r:Nat->Bool} {k:Nat} {b:qE} (h:bs[k]?=some b):zJ bs r (k+1)=zJ bs r k++(if r k=true then [q0H bs r k b] else []):=by
 (have hz:bs.zipIdx[k]?=some (b,k):=by simp [List.getElem?_zipIdx,h]);unfold zJ;rw [qG hz,List.filterMap_append];congr 1
 by_cases hr:r k=true
 ·simp [hr]
 ·simp [hr]
theorem yt (bs:List qE) (r:Nat->Bool):zJ bs r 0=[]:=by simp [zJ]
theorem q0p {r:Nat->Bool}:∀ {rs xs:List Int} {k:Nat} {a x:Int},rs[k]?=some a->xs[k]?=some x->zP r (rs.take (k+1)) (xs.take (k+1))=zP r (rs.take k) (xs.take k)++(if r a.toNat=true then [x] else [])
 | [],_,_,_,_,h,_=>by simp at h
 | _::_,[],_,_,_,_,h=>by simp at h
 | y::rs,z::xs,0,a,x,h1,h2=>by
  simp at h1 h2;subst h1;subst h2;simp [zP]
 | y::rs,z::xs,k+1,a,x,h1,h2=>by
  have ih:=q0p (r:=r) (rs:=rs) (xs:=xs) (k:=k) (a:=a) (x:=x) (by simpa using h1) (by simpa using h2);simp only [List.take_succ_cons,zP,ih,List.append_assoc]
theorem ke (r:Nat->Bool):∀ (rs xs:List Int),(zP r rs xs).length<=xs.length
 | [],_=>by simp [zP]
 | _::_,[]=>by simp [zP]
 | a::rs,x::xs=>by have:=ke r rs xs;simp only [zP,List.length_append,List.length_cons];split <;> simp <;> omega
theorem q1t {r:Nat->Bool} {y:Int}:∀ {rs xs:List Int},y∈zP r rs xs->y∈xs
 | [],_,h=>by simp [zP] at h
 | _::_,[],h=>by simp [zP] at h
 | a::rs,x::xs,h=>by
  simp only [zP,List.mem_append] at h;rcases h with h | h
  ·split at h <;> simp at h;subst h;simp
  ·exact List.mem_cons_of_mem _ (q1t h)
theorem q2B {r:Nat->Bool} {ahead args:List Int} {y:Int} (h:y∈zX r ahead args):y∈args:=by
 unfold zX at h;split at h
 ·exact q1t h
 ·exact h
theorem qJ {w w':World} {base n size:Nat} {e:TypeId} {v:Value} {xs:List Value} (h:w.ownsRow base e size v n xs) (hb:∀ g,v.ownBlock=some g->w'.heap[g]?=w.heap[g]?):w'.ownsRow base e size v n xs:=by
 obtain ⟨h1,h2⟩:=h;refine ⟨h1,?_⟩;rcases h2 with h2 | ⟨g,c,cur,rfl,h3,h4,h5⟩
 ·exact .inl h2
 ·exact .inr ⟨g,c,cur,rfl,h3,(hb g rfl).trans h4,h5⟩
theorem qX {w:World} {K n size:Nat} {e:TypeId} {v:Value} {xs:List Value} (h:w.ownsRow K e size v n xs):∃ A c,v=.slice A n c:=by
 rcases h.2 with ⟨rfl,h0⟩ | ⟨g,c,cur,rfl,-⟩
 ·exact ⟨none,0,by rw [h0]⟩
 ·exact ⟨_,_,rfl⟩
theorem zw {w:World} {base base' n size:Nat} {e:TypeId} {v:Value} {xs:List Value} (h:w.ownsRow base e size v n xs) (hk:base'<=base):w.ownsRow base' e size v n xs:=by
 obtain ⟨h1,h2 | ⟨g,cap,cur,rfl,hb,h3⟩⟩:=h
 ·exact ⟨h1,.inl h2⟩
 ·exact ⟨h1,.inr ⟨g,cap,cur,rfl,Nat.le_trans hk hb,h3⟩⟩
structure Gri (w:World) (G K n:Nat) (V:Nat->Value) (L:Nat->List Int):Prop where
 row:w.rowIs G 27 n V
 own:∀ i,i<n->w.ownsRow K 3 1 (V i) (L i).length ((L i).map (Value.int .i64))
 apart:∀ i j,i<n->j<n->i≠j->(V i).ownBlock=none\/(V i).ownBlock≠(V j).ownBlock
 lt:G<K
theorem Gri.congr {w:World} {G K n:Nat} {V:Nat->Value} {L L':Nat->List Int} (h:Gri w G K n V L) (e:∀ i,i<n->L i=L' i):Gri w G K n V L' :=
 ⟨h.row,λ i hi=>by rw [<- e i hi];exact h.own i hi,h.apart,h.lt⟩
theorem Gri.alloc {w:World} {G K n:Nat} {V:Nat->Value} {L:Nat->List Int} (h:Gri w G K n V L) (o:Obj):Gri (w.alloc o) G K n V L :=
 ⟨h.row.alloc o,λ i hi=>(h.own i hi).alloc o,h.apart,h.lt⟩
theorem Gri.drewN {w:World} {G K n:Nat} {V:Nat->Value} {L:Nat->List Int} (h:Gri w G K n V L) (k:Nat):Gri (w.drewN k) G K n V L:=⟨h.row,h.own,h.apart,h.lt⟩
theorem Gri.of_blocks {w w':World} {G K n:Nat} {V:Nat->Value} {L:Nat->List Int} (h:Gri w G K n V L) (hG:w'.heap[G]?=w.heap[G]?) (hK:∀ g,K<=g->g<w.heap.size->w'.heap[g]?=w.heap[g]?):Gri w' G K n V L :=
 ⟨h.row.of_block hG,λ i hi=>qJ (h.own i hi) λ g hg=>hK g ((h.own i hi).lt g hg).1 ((h.own i hi).lt g hg).2,h.apart,h.lt⟩
theorem Gri.below {w w':World} {G K n:Nat} {V:Nat->Value} {L:Nat->List Int} (h:Gri w G K n V L) (hb:Below w.heap.size w w'):Gri w' G K n V L :=
 h.of_blocks (hb.block _ h.row.lt) λ g _ hg=>hb.block g hg
theorem Gri.setOther {w:World} {G K n:Nat} {V:Nat->Value} {L:Nat->List Int} (h:Gri w G K n V L) {a:Addr} (h1:G≠a.block) (h2:a.block<K) (v:Value):Gri (w.setCell a v) G K n V L :=
 h.of_blocks (JQ _ _ _ _ h1) λ g hg _=>JQ _ _ _ _ (by omega)
theorem Gri.made (w:World) (G K n:Nat) (hG:G=w.heap.size) (hK:G<K):Gri (w.alloc (.cells (madeCells #[.slice none 0 0] n) 27)) G K n (λ _=>.slice none 0 0) (λ _=>[]):=by
 subst hG;exact ⟨World.rowIs_made w _ n _,λ i _=>World.ownsRow_nil _ _ _ _,λ i j _ _ _=>.inl rfl,hK⟩
theorem Gri.push {w w3:World} {G K n:Nat} {V:Nat->Value} {L:Nat->List Int} (h:Gri w G K n V L) {t:Nat} (ht:t<n) {g cap:Nat} {x:Int}
  (wj:w3.ownsRow K 3 1 (.slice (some ⟨g,0,none⟩) ((L t).length+1) cap) ((L t).length+1) ((L t).map (Value.int .i64)++[.int .i64 x]))
  (wg:w.grownBy w3 (V t).ownBlock) (wk:(V t).ownBlock=some g\/g=w.heap.size) :
  Gri (w3.setCell ⟨G,t,none⟩ (.slice (some ⟨g,0,none⟩) ((L t).length+1) cap)) G K n (λ j=>if j=t then .slice (some ⟨g,0,none⟩) ((L t).length+1) cap else V j) (λ j=>if j=t then L t++[x] else L j):=by
 have hGK:=h.lt;(have wm:w3.heap[G]?=w.heap[G]?:=wg.block G h.row.lt (λ e=>by have:=((h.own t ht).lt G e.symm).1;omega));have wh:w3.rowIs G 27 n V:=h.row.of_block wm;refine ⟨wh.set t _,λ j hj=>?_,λ i j hi hj wl=>?_,hGK⟩
 ·by_cases e:j=t
  ·subst e;simp only [if_true];(have:=ownsRow_setCell_below wj (a:=⟨G,j,none⟩) (by show G<K;omega) (.slice (some ⟨g,0,none⟩) ((L j).length+1) cap));simpa using this
  ·simp only [if_neg e];exact ownsRow_setCell_below ((h.own j hj).kept wg (h.apart j t hj ht e)) (a:=⟨G,t,none⟩) (by show G<K;omega) _
 ·have key:∀ j,j<n->j≠t->(V j).ownBlock=none\/(V j).ownBlock≠some g:=λ j hj wu=>by
   rcases wk with e | e
   ·rw [<- e];exact h.apart j t hj ht wu
   ·cases hb:(V j).ownBlock with
    | none=>exact .inl rfl
    | some b=>right;intro e2;have:=((h.own j hj).lt b hb).2;simp at e2;omega
  by_cases ei:i=t
  ·subst ei;simp only [if_true,if_neg (Ne.symm wl)];right;rcases key j hj (Ne.symm wl) with e | e
   ·rw [e];simp [Value.ownBlock]
   ·intro e2;exact e (e2.symm.trans rfl)
  ·by_cases ej:j=t
   ·subst ej;simp only [if_true,if_neg ei];exact key i hi ei
   ·simp only [if_neg ei,if_neg ej];exact h.apart i j hi hj wl
theorem Gri.reads {w:World} {G K n:Nat} {V:Nat->Value} {L:Nat->List Int} (h:Gri w G K n V L) (hn:n<=1000000) (wv:∀ i,i<n->∀ x∈L i,I64 x):SL w 1 RRow (some ⟨G,0,none⟩) n ((List.range n).map L):=by
 (refine ⟨by simp,⟨by unfold maxLen;omega,λ e=>by cases e⟩,λ _=>⟨G,0,rfl,λ i x hi=>?_⟩⟩);(have hl:i<n:=by have:=(Jk hi).1;simpa using this);rw [List.getElem?_map] at hi;obtain ⟨q,hq,rfl⟩:=Option.map_eq_some_iff.1 hi;obtain ⟨_,rfl⟩:=Jk hq;rw [Nat.mul_one,Nat.zero_add,List.getElem_range];obtain ⟨A,c,e,hs⟩:=ql (h.own i hl) (wv i hl);exact ⟨A,c,(h.row.cell hl).trans (congrArg some e),hs⟩
def NX (bs:List qE) (k:Nat) (t:List Int) (i:Nat):List Int:=if i<k then zs (nxF bs i) else if i=k then zs (zH bs.length t) else []
def LastOk (la:Nat->Int) (n k:Nat) (acc:List Nat):Prop:=∀ t,t<n->0<=la t/\la t<=k+1/\(la t=k+1↔t∈acc)
theorem qAE (bs:List qE) (i:Nat):NX bs 0 [] i=[]:=by unfold NX zH;simp [zs]
theorem qBY {bs:List qE} {k:Nat} {b:qE} (h:bs[k]?=some b) (i:Nat):NX bs k b.term.to i=NX bs (k+1) [] i:=by
 unfold NX
 by_cases h1:i<k
 ·rw [if_pos h1,if_pos (by omega)]
 ·rw [if_neg h1]
  by_cases h2:i=k
  ·subst h2;rw [if_pos rfl,if_pos (by omega),q89 h]
  ·rw [if_neg h2,if_neg (by omega)]
   by_cases h3:i=k+1
   ·rw [if_pos h3];rfl
   ·rw [if_neg h3]
theorem qBX (bs:List qE) (i:Nat) (h:i<bs.length):NX bs bs.length [] i=zs (nxF bs i):=by unfold NX;rw [if_pos h]
theorem q0S (bs:List qE) (k:Nat) (t:List Int):NX bs k t k=zs (zH bs.length t):=by unfold NX;rw [if_neg (by omega),if_pos rfl]
theorem jU {n:Nat} {t:List Int} {j:Nat} {x:Int} (hx:t[j]?=some x):zH n (t.take (j+1))=kx n (zH n (t.take j)) x:=by
 rw [qG hx,q4r]
theorem q4Q {n:Nat} {acc:List Nat} {x:Int} (h:¬ (0<=x/\x<n/\x.toNat ∉ acc)):kx n acc x=acc:=by unfold kx;rw [if_neg h]
theorem q4R {n:Nat} {acc:List Nat} {q:Nat} (h:q<n) (h2:q ∉ acc):kx n acc (q:Int)=acc++[q]:=by unfold kx;rw [if_pos ⟨by omega,by omega,by simpa using h2⟩];simp
theorem q9I {bs:List qE} {k:Nat} {t:List Int} {j:Nat} {x:Int} (hx:t[j]?=some x) (h:¬ (0<=x/\x<bs.length/\x.toNat ∉ zH bs.length (t.take j))) (i:Nat):NX bs k (t.take j) i=NX bs k (t.take (j+1)) i:=by
 unfold NX;rw [jU hx,q4Q h]
theorem qBW {bs:List qE} {k:Nat} {t:List Int} {j q:Nat} (hx:t[j]?=some (q:Int)) (hq:q<bs.length) (h:q ∉ zH bs.length (t.take j)) (i:Nat) :
  (if i=k then NX bs k (t.take j) k++[(q:Int)] else NX bs k (t.take j) i)=NX bs k (t.take (j+1)) i:=by
 by_cases e:i=k
 ·subst e;rw [if_pos rfl,q0S,q0S,jU hx,q4R hq h,yG]
 ·rw [if_neg e];unfold NX;rw [if_neg e,if_neg e]
theorem LastOk.old {la:Nat->Int} {n k j:Nat} {t:List Int} {x:Int} (hl:LastOk la n k (zH n (t.take j))) (hx:t[j]?=some x) (h:¬ (0<=x/\x<n/\x.toNat ∉ zH n (t.take j))):LastOk la n k (zH n (t.take (j+1))):=by
 rw [jU hx,q4Q h];exact hl
theorem LastOk.new {la:Nat->Int} {n k j q:Nat} {t:List Int} (hl:LastOk la n k (zH n (t.take j))) (hx:t[j]?=some (q:Int)) (hq:q<n) (h:q ∉ zH n (t.take j)):LastOk (λ i=>if i=q then (k:Int)+1 else la i) n k (zH n (t.take (j+1))):=by
 rw [jU hx,q4R hq h];intro i hi;obtain ⟨h1,h2,h3⟩:=hl i hi;simp only [List.mem_append,List.mem_singleton]
 by_cases e:i=q
 ·simp only [if_pos e];exact ⟨by omega,by omega,by simp [e]⟩
 ·simp only [if_neg e];exact ⟨h1,h2,h3.trans (by simp [e])⟩
theorem LastOk.next {la:Nat->Int} {n k:Nat} {acc:List Nat} (hl:LastOk la n k acc):LastOk la n (k+1) (zH n []):=λ i hi=>by
 obtain ⟨h1,h2,h3⟩:=hl i hi;exact ⟨h1,by push_cast;omega,⟨λ h=>by push_cast at h;omega,λ h=>by simp [zH] at h⟩⟩
theorem LastOk.start (n:Nat):LastOk (λ _=>0) n 0 (zH n []):=λ i hi=>⟨by simp,by simp,⟨λ h=>by simp at h,λ h=>by simp [zH] at h⟩⟩
theorem yg {w:World} {base:Nat} {v:Value} {xs:List Int} (h:w.ownsRow base 3 1 v xs.length (xs.map (Value.int .i64))) (hx:∀ x∈xs,I64 x) {B:Nat->Prop} (hB:∀ g,base<=g->g<w.heap.size->B g) :
  ∃ A c,v=.slice A xs.length c/\SL w 1 (RIntB B) A c xs:=by
 obtain ⟨A,c,e,hs⟩:=ql h hx;obtain ⟨h1,h2,h3⟩:=hs;refine ⟨A,c,e,h1,h2,λ hp=>?_⟩;obtain ⟨b,o,e2,hr⟩:=h3 hp;(have hl:=h.lt b (by rw [e,e2];rfl));exact ⟨b,o,e2,λ i x hi=>⟨hB b hl.1 hl.2,hr i x hi⟩⟩
theorem q3m (f:qB) (v:Value) (a:Int) (w:World) (hv:VFun w v f) :
  Calls Tryz.prog 122 #[v,.int .i64 a] w λ e w'=>e=.returned (.bool (zM a f.blocks.length))/\Below w.heap.size w w':=by
 obtain ⟨Ar,cr,A,c,rfl,-,hb,-,-⟩:=hv;have sw:=hb.len
 by_cases h0:0<=a
 ·by_cases h1:a<f.blocks.length
  ·have e:zM a f.blocks.length=true:=decide_eq_true ⟨h0,h1⟩;rw [e];clear e;(go_enter Tryz.func122,Tryz.ntmps122);(go_wp2_with fail);(go_ret);exact ⟨rfl,(J5 _ _).alloc (J4 _) _⟩
  ·have e:zM a f.blocks.length=false:=decide_eq_false (by omega);have h2:decide (a<(f.blocks.length:Int))=false:=decide_eq_false h1;rw [e];clear e h1;(go_enter Tryz.func122,Tryz.ntmps122);(go_wp2_with fail);(go_ret);exact ⟨rfl,(J5 _ _).alloc (J4 _) _⟩
 ·have e:zM a f.blocks.length=false:=decide_eq_false (by omega);rw [e];clear e;(go_enter Tryz.func122,Tryz.ntmps122);(go_wp2_with fail);(go_ret);exact ⟨rfl,(J5 _ _).alloc (J4 _) _⟩
set_option maxRecDepth 100000 in
set_option maxHeartbeats 4000000 in
theorem jt (f:qB) (v:Value) (w:World) (hv:VFun w v f) (hn:f.blocks.length<=1000000) :
  Calls Tryz.prog 90 #[v] w λ e w'=>(∃ V G,e=.returned (.slice (some ⟨G,0,none⟩) f.blocks.length f.blocks.length)/\w.heap.size<=G/\Gri w' G (G+2) f.blocks.length V (λ i=>zs (nxF f.blocks i)))/\Below w.heap.size w w':=by
 obtain ⟨Ar,cr,A,c,rfl,hr,hb,td,tc⟩:=hv;have sw:=hb.len;obtain ⟨i0,hi,tN,tM,tL⟩:=info_parts Tryz.info3;have HI:=Jj (And.intro hi (And.intro tN (And.intro tM tL)));clear hi tN tM tL;have sh:=run_make_row' (P:=Tryz.prog) 65 27 (.slice none 0 0) 24 Tryz.underlying65 Tryz.info27 rfl .i64 .i64 f.blocks.length (by omega) (by omega);have tF:=run_make_row' (P:=Tryz.prog) 27 3 (.int .i64 0) 8 Tryz.underlying27 Tryz.info3 rfl .i64 .i64 f.blocks.length (by omega) (by omega);have HP:=Jj td;have HR:=Jj tc
 clear td tc;(go_enter Tryz.func90,Tryz.ntmps90);(go_wp2_with fail);clear sh tF;obtain ⟨w1,tP,ta,tH,wM,tj,-⟩:=named w #[.int .i64 f.params,.int .i64 f.result,.slice Ar f.regs.length cr,.slice A f.blocks.length c] 30;have c0:=tj 0 _ rfl;have c1:=tj 1 _ rfl;have c2:=tj 2 _ rfl;have c3:=tj 3 _ rfl
 rw [<- tP];clear tP tj;obtain ⟨N,hN⟩:∃ N,N=w.heap.size:=⟨_,rfl⟩;rw [<- hN] at c0 c1 c2 c3 ta wM ⊢;have sq:=(Gri.made w1 (N+1) (N+1+2) f.blocks.length ta.symm (by omega)).alloc (.cells (madeCells #[.int .i64 0] f.blocks.length) 3);have sj:((w1.alloc (.cells (madeCells #[.slice none 0 0] f.blocks.length) 27)).alloc (.cells (madeCells #[.int .i64 0] f.blocks.length) 3)).rowIs (N+1+1) 3 f.blocks.length (λ i=>.int .i64 ((λ _=>(0:Int)) i)):=by
  have:=World.rowIs_made (w1.alloc (.cells (madeCells #[.slice none 0 0] f.blocks.length) 27)) (.int .i64 0) f.blocks.length 3;simpa [ta] using this
 (have wT:Below (N+1) w1 ((w1.alloc (.cells (madeCells #[.slice none 0 0] f.blocks.length) 27)).alloc (.cells (madeCells #[.int .i64 0] f.blocks.length) 3)):=((J5 _ _).alloc (by omega) _).alloc (by simp;omega) _);(have sf:N+1+1<((w1.alloc (.cells (madeCells #[.slice none 0 0] f.blocks.length) 27)).alloc (.cells (madeCells #[.int .i64 0] f.blocks.length) 3)).heap.size:=by simp;omega);generalize (w1.alloc (.cells (madeCells #[.slice none 0 0] f.blocks.length) 27)).alloc (.cells (madeCells #[.int .i64 0] f.blocks.length) 3)=w2 at *;have tW:=Jj ta;have HN:=Jj hN;have sb:VFun w1 (.agg #[.int .i64 f.params,.int .i64 f.result,.slice Ar f.regs.length cr,.slice A f.blocks.length c]) f:=⟨Ar,cr,A,c,rfl,SInts.keep tH hr,SBlks.keep tH hb,HP.out,HR.out⟩;clear ta hN hr
 go_loopw [20] (λ i wr=>∃ (k:Nat) (V:Nat->Value) (la:Nat->Int),k<=f.blocks.length/\i=.int .i64 k/\Below (N+1) w1 wr/\N+1+1<wr.heap.size/\Gri wr (N+1) (N+1+2) f.blocks.length V (NX f.blocks k [])/\wr.rowIs (N+1+1) 3 f.blocks.length (λ i=>.int .i64 (la i))/\LastOk la f.blocks.length k (zH f.blocks.length [])) (λ i _=>f.blocks.length - (intOf i).toNat)
 case atStart=>exact ⟨0,_,_,Nat.zero_le _,rfl,wT,sf,sq.congr λ i _=>(qAE _ _).symm,sj,LastOk.start _⟩
 case round =>
  obtain ⟨k,V,la,hk,rfl,wU,hs,hg,hl,si⟩:=hrel;obtain ⟨wo,rfl⟩:∃ wo,wo=wr:=⟨wr,rfl⟩;(have wX:Kept w1 wo:=yB wU (by have:=tW.out;omega));have c3o:=wX _ _ c3
  by_cases wu:k<f.blocks.length
  ·obtain ⟨b,o,kb,rfl,sn,⟨Ap,cp,wO,-⟩,⟨Ai,ci,wR,-⟩,⟨tG,-⟩,⟨tJ,-⟩,⟨At,ct,tC,wY⟩⟩:=(SBlks.keep tH hb).at_ wu;have wO:=wX _ _ wO;have wR:=wX _ _ wR;have tG:=wX _ _ tG;have tJ:=wX _ _ tJ;have tC:=wX _ _ tC;have htl:=wY.len;(go_wp2_with fail);clear wO wR tG tJ tC
   obtain ⟨w3,tu,tQ,hk3,tm,-,-⟩:=named wo #[.slice Ap kb.phis.length cp,.slice Ai kb.ins.length ci,.int .i64 kb.term.kind,.int .i64 kb.term.arg,.slice At kb.term.to.length ct] 51;have sr:Gri w3 (N+1) (N+1+2) f.blocks.length V (NX f.blocks k (kb.term.to.take 0)):=by
    rw [tu,List.take_zero];exact hg.alloc _
   (have sk:w3.rowIs (N+1+1) 3 f.blocks.length (λ i=>.int .i64 (la i)):=by rw [tu];exact hl.alloc _);have sy:Below (N+1) w1 w3:=wU.trans (tm.mono (by omega));(have tQ:N+1+1<w3.heap.size:=by omega);rw [<- tu];clear tu
   go_loopw [29] (λ i wr=>∃ (j:Nat) (V:Nat->Value) (la:Nat->Int),j<=kb.term.to.length/\i=.int .i64 j/\Below (N+1) w1 wr/\N+1+1<wr.heap.size/\Gri wr (N+1) (N+1+2) f.blocks.length V (NX f.blocks k (kb.term.to.take j))/\wr.rowIs (N+1+1) 3 f.blocks.length (λ i=>.int .i64 (la i))/\LastOk la f.blocks.length k (zH f.blocks.length (kb.term.to.take j))) (λ i _=>kb.term.to.length - (intOf i).toNat)
   case atStart=>exact ⟨0,V,la,Nat.zero_le _,rfl,sy,tQ,sr,sk,by rw [List.take_zero];exact si⟩
   case round =>
    obtain ⟨j,V',la',hj,rfl,wj,sc,wv,tw,wh⟩:=hrel;(have wQ:Kept w1 wr:=yB wj (by have:=tW.out;omega));have c0r:=wQ _ _ c0;have c1r:=wQ _ _ c1;have c2r:=wQ _ _ c2;have c3r:=wQ _ _ c3
    by_cases sp:j<kb.term.to.length
    ·obtain ⟨b',o',x,rfl,hx,tB,hx64⟩:=wY.int sp;have tB:=wQ _ _ tB;(go_wp2_with fail);refine (q3m f _ x wr (VFun.keep wQ sb)).mono ?_;rintro e w4 ⟨rfl,tp⟩;have tx:=wv.below tp;have wW:w4.rowIs (N+1+1) 3 f.blocks.length (λ i=>.int .i64 (la' i)):=tw.of_block (tp.block _ tw.lt);have wl:Below (N+1) w1 w4:=wj.trans (tp.mono (by omega));have tD:N+1+1<w4.heap.size:=by have:=tp.size;omega
     clear c0r c1r c2r c3r tB wv tw wj tp wQ
     by_cases tg:0<=x/\x<f.blocks.length
     ·obtain ⟨q,rfl⟩:∃ q:Nat,x=q:=⟨x.toNat,by omega⟩;(have hq:q<f.blocks.length:=by omega);have tq:zM q f.blocks.length=true:=decide_eq_true tg;rw [tq];(have hq1:(q:Int)<f.blocks.length:=by omega);(have hq0:(0:Int)<=q:=by omega);clear tg tq;obtain ⟨tY,tX,tz⟩:=wh q hq;have tO:=wW.cell hq
      obtain ⟨y,hy⟩:∃ y,y=la' q:=⟨_,rfl⟩;simp only [<- hy] at tO tY tX tz;have tV:=Jj tz;clear hy tz
      by_cases wV:y=k+1
      ·(have tU:((y:Int) != (k:Int)+1)=false:=by simp [wV]);have wk:¬ (0<=(q:Int)/\(q:Int)<f.blocks.length/\(q:Int).toNat ∉ zH f.blocks.length (kb.term.to.take j)):=λ h=>h.2.2 (by simpa using tV.out.1 wV);clear wV;have HO:=Jj wk;clear wk;go_wp2_with fail
       go_roundw
       case rel=>exact ⟨j+1,V',la',by omega,by go_num,wl,tD,tx.congr (λ i _=>q9I hx.out HO.out i),wW,wh.old hx.out HO.out⟩
       case measure=>simp [intOf];omega
      ·(have tU:((y:Int) != (k:Int)+1)=true:=by simpa using wV);have tr:Hid (q ∉ zH f.blocks.length (kb.term.to.take j)):=Jj λ h=>wV (tV.out.2 h);clear wV;have ss:=wW.frozen q;have wZ:=wW.set q (.int .i64 ((k:Int)+1));(have wm:Gri (w4.setCell ⟨N+1+1,q,none⟩ (.int .i64 ((k:Int)+1))) (N+1) (N+1+2) f.blocks.length V' (NX f.blocks k (kb.term.to.take j)):=tx.setOther (by show N+1≠N+1+1;omega) (by show N+1+1<N+1+2;omega) _);(have su:Below (N+1) w1 (w4.setCell ⟨N+1+1,q,none⟩ (.int .i64 ((k:Int)+1))):=wl.setCell (by show N+1<=N+1+1;omega) _);(have hss:N+1+1<(w4.setCell ⟨N+1+1,q,none⟩ (.int .i64 ((k:Int)+1))).heap.size:=by simpa using tD);go_upto_region 11 with fail
       clear tO ss tU;generalize w4.setCell ⟨N+1+1,q,none⟩ (.int .i64 ((k:Int)+1))=w5 at *;have tE:=wm.row.cell wu;have hll:(NX f.blocks k (kb.term.to.take j) k).length<=f.blocks.length:=by
        rw [q0S,qg];exact xI _ _
       have tZ:VS w5 1 RInt (V' k) (NX f.blocks k (kb.term.to.take j) k):=ql (wm.own k wu) (by
        rw [q0S];intro x hx;obtain ⟨q,hq,rfl⟩:=y4 hx;have:=(nextN_mem.1 hq).1;unfold I64;omega)
       go_wp2_with (at_builtin;refine wpList_append_lies _ rfl (.tmp 55) (.tmp 57) 27 rfl (N+1+2) 3 i0 (.int .i64 0) 1 8 Tryz.underlying27 HI.out.1 HI.out.2.1 HI.out.2.2.1 HI.out.2.2.2 rfl (by decide) (V' k) _ _ rfl ((wm.own k wu).alloc _) ⟨w5.heap.size,0,none⟩ 1 1 [.int .i64 q] rfl rfl ?c1 ?c2 ?c0 ?c3 ?c4 ?c5 (w5.heap.size+1) ?c6 ?_)
       case c1=>exact qm w5 _ _ rfl
       case c2=>exact ints_oneCell .i64 [(q:Int)]
       case c0=>omega
       case c3=>unfold maxLen;omega
       case c4=>omega
       case c5=>simp;omega
       case c6=>simp
       intro g cap w6 ww wg wJ hlt6;have tT:=Gri.push (wm.alloc _) wu ww wg (by simpa using wJ);have th:=tT.congr (λ i _=>qBW hx.out hq tr.out i);(have sx:Below (N+1) w1 w6:=(su.alloc (by omega) _).grown wg (by simp;omega) (λ g hg=>by have:=((wm.own k wu).lt g hg).1;omega));(have hG6:w6.heap[N+1]?=(w5.alloc (.cells #[.int .i64 q] 3)).heap[N+1]?:=wg.block _ (by simp;omega) (λ e=>by have:=((wm.own k wu).lt _ e.symm).1;omega));have hrow6:=(JK (a:=⟨N+1,k,none⟩) hG6).trans ((wm.row.alloc _).cell wu);have hfr6:=(World.frozen?_of_block (a:=⟨N+1,k,none⟩) hG6).trans ((wm.row.alloc _).frozen k);(have sd:N+1+1<w6.heap.size:=by have:=wg.size;simp at this;omega);have hL6:w6.heap[N+1+1]?=(w5.alloc (.cells #[.int .i64 q] 3)).heap[N+1+1]?:=wg.block _ (by simp;omega) (λ e=>by have:=((wm.own k wu).lt _ e.symm).1;omega)
       (have tR:=((wZ.alloc (.cells #[.int .i64 q] 3)).of_block hL6).setOther (a:=⟨N+1,k,none⟩) (by show N+1+1≠N+1;omega) (.slice (some ⟨g,0,none⟩) ((NX f.blocks k (kb.term.to.take j) k).length+1) cap));(have tf:=tR.congr (g:=λ i=>.int .i64 ((λ i=>if i=q then (k:Int)+1 else la' i) i)) (λ i _=>by by_cases e:i=q <;> simp [e]));have sB:=Jj th;have sC:=Jj tf;have tK:=Jj (wh.new hx.out hq tr.out);clear tT th ww wg wJ hG6 wm tE tZ tR tf hL6 wh wZ wW tx;go_wp2_with fail
       go_roundw
       case rel=>exact ⟨j+1,_,_,by omega,by go_num,sx.setCell (by show _<=N+1;omega) _,by simpa using sd,sB.out,sC.out,tK.out⟩
       case measure=>simp [intOf];omega
     ·have tq:zM x f.blocks.length=false:=decide_eq_false tg;rw [tq];have wk:¬ (0<=x/\x<f.blocks.length/\x.toNat ∉ zH f.blocks.length (kb.term.to.take j)):=λ h=>tg ⟨h.1,h.2.1⟩;have HO:=Jj wk;clear wk tg tq;go_wp2_with fail
      go_roundw
      case rel=>exact ⟨j+1,V',la',by omega,by go_num,wl,tD,tx.congr (λ i _=>q9I hx.out HO.out i),wW,wh.old hx.out HO.out⟩
      case measure=>simp [intOf];omega
    ·have tS:kb.term.to.take j=kb.term.to:=List.take_of_length_le (by omega);rw [tS] at wv wh;clear tS;go_wp2_with fail
     go_roundw
     case rel=>exact ⟨k+1,V',la',by omega,by go_num,wj,sc,wv.congr (λ i _=>qBY sn.out i),tw,wh.next⟩
     case measure=>simp [intOf];omega
  ·(have sm:k=f.blocks.length:=by omega);subst sm;(go_wp2_with fail);(go_ret);exact ⟨⟨V,_,rfl,by have:=HN.out;omega,hg.congr (λ i hi=>qBX _ _ hi)⟩,by rw [<- HN.out];exact wM.trans (wU.mono (by omega))⟩
end Go.Proofs.YtfoggldjjnabcaaGreatDoor
