/- Short names for what the texts behind it lean on. No condition. -/
import Derived.BigQuiet
import Derived.Lib.Hide
import Derived.Deep.Cut
import Derived.Test.YtfoggldjjnabcaaGreatDoorProg
import Derived.WalkKit
import Derived.WalkSmall
import Derived.Below
import Derived.Deep.Slices
import Derived.OpenShut
import Derived.Deep.AppendLies
import Derived.Laws.OwnMore
import Derived.Maps.AppendAt
namespace Go.Proofs.YtfoggldjjnabcaaGreatDoor
open Go.ChangeShapes Go.WideShapes Go.RowKit Go.Deep
set_option linter.unusedVariables false
set_option linter.unusedSimpArgs false
theorem Jj {p:Prop} (h:p):Hid p:=Lib.hid h
theorem Jk {α:Type _} {l:List α} {i:Nat} {a:α} (h:l[i]?=some a):∃ h:i<l.length,l[i]=a:=List.getElem?_eq_some_iff.1 h
theorem Jq {α:Type _} {l:List α} {i:Nat} (h:i<l.length):l[i]?=some l[i]:=List.getElem?_eq_getElem h
theorem Jz {α:Type _} {l:List α} {i:Nat} {a:α} (h:l[i]?=some a):a∈l:=List.mem_of_getElem? h
theorem JJ {α:Type _} {l:List α} {i:Nat} {a:α}:l.getD i a=l[i]?.getD a:=List.getD_eq_getElem?_getD
theorem JK {w w':World} {a:Addr} (h:w'.heap[a.block]?=w.heap[a.block]?):w'.cell? a=w.cell? a:=World.cell?_of_block h
theorem JQ (w:World) (a:Addr) (u:Value) (k:Nat) (h:k≠a.block):(w.setCell a u).heap[k]?=w.heap[k]?:=Below.heap_setCell w a u k h
theorem JZ {α:Type _} {xs:List α} {i:Nat}:xs.toArray[i]?=xs[i]?:=List.getElem?_toArray
theorem JX {α:Type _} {a:α} {l:List α}:(a::l)[0]?=some a:=List.getElem?_cons_zero
theorem JY {α:Type _} {a:α} {i:Nat} {l:List α}:(a::l)[i+1]?=l[i]?:=List.getElem?_cons_succ
theorem J0 {α:Type _} (a b:α):(some a=some b)=(a=b):=Option.some.injEq a b
theorem J1 {α:Type _} {x:α} {xs:List α} {a:α}:(x::xs).set 0 a=a::xs:=List.set_cons_zero
theorem J2 {α:Type _} {x:α} {xs:List α} {i:Nat} {a:α}:(x::xs).set (i+1) a=x::xs.set i a:=List.set_cons_succ
theorem J6 (a:Act) (d:Tmp) (v:Value):a.put (some d) v={ tmps:=a.tmps.setIfInBounds d v,defers:=a.defers }:=rfl
theorem J3 {α:Type _} {a b:α} (h:some a=some b):a=b:=Option.some.inj h
theorem J4 (n:Nat):n<=n:=Nat.le_refl n
theorem J5 (B:Nat) (w:World):Below B w w:=Below.refl B w
structure PhiD where
 dst:Int
 args:List Int
structure qN where
 op:Int
 dst:Int
 args:List Int
 imm:Int
 fn:Int
structure yU where
 kind:Int
 arg:Int
 to:List Int
structure qE where
 phis:List PhiD
 ins:List qN
 term:yU
structure qB where
 params:Int
 result:Int
 regs:List Int
 blocks:List qE
instance:Inhabited PhiD:=⟨⟨0,[]⟩⟩
instance:Inhabited qN:=⟨⟨0,0,[],0,0⟩⟩
instance:Inhabited yU:=⟨⟨0,0,[]⟩⟩
instance:Inhabited qE:=⟨⟨[],[],default⟩⟩
instance:Inhabited qB:=⟨⟨0,0,[],[]⟩⟩
def I64 (x:Int):Prop:=-9223372036854775808<=x/\x<=9223372036854775807
def Kept (w w':World):Prop:=∀ a v,w.cell? a=some v->w'.cell? a=some v
theorem Kept.refl (w:World):Kept w w:=λ _ _ h=>h
theorem Kept.trans {a b c:World} (h:Kept a b) (k:Kept b c):Kept a c:=λ x v hx=>k x v (h x v hx)
theorem q7 {w w':World} (h:Below w.heap.size w w'):Kept w w':=λ a v ha=>(h.cell (p:=a) (block_lt_of_cell ha)).trans ha
theorem yB {B:Nat} {w w':World} (h:Below B w w') (hB:w.heap.size<=B):Kept w w':=q7 (h.mono hB)
theorem qc (w:World) (o:Obj):Kept w (w.alloc o):=λ a v ha=>(World.cell?_alloc_lt _ _ _ (block_lt_of_cell ha)).trans ha
def SL {α:Type} (w:World) (sz:Nat) (R:World->Nat->Nat->α->Prop) (A:Option Addr) (c:Nat) (xs:List α):Prop :=
 xs.length<=c/\(c<=maxLen/\(A=none->c=0))/\(0<xs.length->∃ b o,A=some ⟨b,o,none⟩/\∀ i x,xs[i]?=some x->R w b (o+i * sz) x)
def VS {α:Type} (w:World) (sz:Nat) (R:World->Nat->Nat->α->Prop) (v:Value) (xs:List α):Prop:=∃ A c,v=.slice A xs.length c/\SL w sz R A c xs
def CS {α:Type} (w:World) (b o:Nat) (sz:Nat) (R:World->Nat->Nat->α->Prop) (xs:List α):Prop:=∃ A c,w.cell? ⟨b,o,none⟩=some (.slice A xs.length c)/\SL w sz R A c xs
def RInt (w:World) (b o:Nat) (x:Int):Prop:=w.cell? ⟨b,o,none⟩=some (.int .i64 x)/\I64 x
def RPhi (w:World) (b o:Nat) (p:PhiD):Prop:=RInt w b o p.dst/\CS w b (o+1) 1 RInt p.args
def RIns (w:World) (b o:Nat) (x:qN):Prop:=RInt w b o x.op/\RInt w b (o+1) x.dst/\CS w b (o+2) 1 RInt x.args/\RInt w b (o+3) x.imm/\RInt w b (o+4) x.fn
def RBlk (w:World) (b o:Nat) (k:qE):Prop:=CS w b o 2 RPhi k.phis/\CS w b (o+1) 5 RIns k.ins/\RInt w b (o+2) k.term.kind/\RInt w b (o+3) k.term.arg/\CS w b (o+4) 1 RInt k.term.to
def RFun (w:World) (b o:Nat) (f:qB):Prop:=RInt w b o f.params/\RInt w b (o+1) f.result/\CS w b (o+2) 1 RInt f.regs/\CS w b (o+3) 5 RBlk f.blocks
def VTerm (w:World) (v:Value) (t:yU):Prop:=∃ A c,v=.agg #[.int .i64 t.kind,.int .i64 t.arg,.slice A t.to.length c]/\SL w 1 RInt A c t.to/\I64 t.kind/\I64 t.arg
def VPhi (w:World) (v:Value) (p:PhiD):Prop:=∃ A c,v=.agg #[.int .i64 p.dst,.slice A p.args.length c]/\SL w 1 RInt A c p.args/\I64 p.dst
def VIns (w:World) (v:Value) (x:qN):Prop :=
 ∃ A c,v=.agg #[.int .i64 x.op,.int .i64 x.dst,.slice A x.args.length c,.int .i64 x.imm,.int .i64 x.fn]/\SL w 1 RInt A c x.args/\I64 x.op/\I64 x.dst/\I64 x.imm/\I64 x.fn
def VBlk (w:World) (v:Value) (k:qE):Prop :=
 ∃ Ap cp Ai ci At ct,v=.agg #[.slice Ap k.phis.length cp,.slice Ai k.ins.length ci,.int .i64 k.term.kind,.int .i64 k.term.arg,.slice At k.term.to.length ct] /\
  SL w 2 RPhi Ap cp k.phis/\SL w 5 RIns Ai ci k.ins/\SL w 1 RInt At ct k.term.to/\I64 k.term.kind/\I64 k.term.arg
def VFun (w:World) (v:Value) (f:qB):Prop :=
 ∃ Ar cr Ab cb,v=.agg #[.int .i64 f.params,.int .i64 f.result,.slice Ar f.regs.length cr,.slice Ab f.blocks.length cb]/\SL w 1 RInt Ar cr f.regs/\SL w 5 RBlk Ab cb f.blocks/\I64 f.params/\I64 f.result
def VMod (w:World) (v:Value) (m:List qB):Prop:=∃ A c,v=.agg #[.slice A m.length c]/\SL w 4 RFun A c m
def q5Z (b:qE):Prop:=b.ins.length<=300/\b.phis.length<=300/\b.term.to.length<=70/\(∀ x∈b.ins,x.args.length<=300)/\(∀ x∈b.phis,x.args.length<=300)
def jC (f:qB):Prop:=f.blocks.length<=70/\f.regs.length<=300/\f.params<=1000/\∀ b∈f.blocks,q5Z b
def yF (m:List qB):Prop:=m.length<=40/\∀ f∈m,jC f
def Upto {α:Type} (p:α->Prop) (l:List α) (k:Nat):Prop:=∀ x∈l.take k,p x
theorem Upto.zero {α:Type} {p:α->Prop} {l:List α}:Upto p l 0:=λ x hx=>absurd hx (by simp)
theorem Upto.all {α:Type} {p:α->Prop} {l:List α} {k:Nat} (h:Upto p l k) (hk:l.length<=k):∀ x∈l,p x:=λ x hx=>h x (by rwa [List.take_of_length_le hk])
section
variable {w w':World} (h:Kept w w')
include h
theorem SL.keep {α:Type} {sz:Nat} {R:World->Nat->Nat->α->Prop} (hR:∀ b o x,R w b o x->R w' b o x) {A:Option Addr} {c:Nat} {xs:List α} (hv:SL w sz R A c xs):SL w' sz R A c xs:=by
 have _:=h;obtain ⟨h1,h2,h3⟩:=hv;exact ⟨h1,h2,λ hp=>by obtain ⟨b,o,e,hx⟩:=h3 hp;exact ⟨b,o,e,λ i x hi=>hR _ _ _ (hx i x hi)⟩⟩
theorem VS.keep {α:Type} {sz:Nat} {R:World->Nat->Nat->α->Prop} (hR:∀ b o x,R w b o x->R w' b o x) {v:Value} {xs:List α} (hv:VS w sz R v xs):VS w' sz R v xs:=by
 obtain ⟨A,c,e,h1⟩:=hv;exact ⟨A,c,e,SL.keep h hR h1⟩
theorem CS.keep {α:Type} {sz:Nat} {R:World->Nat->Nat->α->Prop} (hR:∀ b o x,R w b o x->R w' b o x) {b o:Nat} {xs:List α} (hv:CS w b o sz R xs):CS w' b o sz R xs:=by
 obtain ⟨A,c,e,h1⟩:=hv;exact ⟨A,c,h _ _ e,SL.keep h hR h1⟩
theorem RInt.keep (b o:Nat) (x:Int) (hv:RInt w b o x):RInt w' b o x:=⟨h _ _ hv.1,hv.2⟩
theorem RPhi.keep (b o:Nat) (x:PhiD) (hv:RPhi w b o x):RPhi w' b o x:=⟨RInt.keep h _ _ _ hv.1,CS.keep h (RInt.keep h) hv.2⟩
theorem RIns.keep (b o:Nat) (x:qN) (hv:RIns w b o x):RIns w' b o x:=by
 obtain ⟨h1,h2,h3,h5,h6⟩:=hv;exact ⟨RInt.keep h _ _ _ h1,RInt.keep h _ _ _ h2,CS.keep h (RInt.keep h) h3,RInt.keep h _ _ _ h5,RInt.keep h _ _ _ h6⟩
theorem RBlk.keep (b o:Nat) (x:qE) (hv:RBlk w b o x):RBlk w' b o x:=by
 obtain ⟨h1,h2,h3,h4,h5⟩:=hv;exact ⟨CS.keep h (RPhi.keep h) h1,CS.keep h (RIns.keep h) h2,RInt.keep h _ _ _ h3,RInt.keep h _ _ _ h4,CS.keep h (RInt.keep h) h5⟩
theorem RFun.keep (b o:Nat) (x:qB) (hv:RFun w b o x):RFun w' b o x:=by
 obtain ⟨h1,h2,h3,h4⟩:=hv;exact ⟨RInt.keep h _ _ _ h1,RInt.keep h _ _ _ h2,CS.keep h (RInt.keep h) h3,CS.keep h (RBlk.keep h) h4⟩
theorem SInts.keep {A:Option Addr} {c:Nat} {xs:List Int} (hv:SL w 1 RInt A c xs):SL w' 1 RInt A c xs:=SL.keep h (RInt.keep h) hv
theorem SPhis.keep {A:Option Addr} {c:Nat} {xs:List PhiD} (hv:SL w 2 RPhi A c xs):SL w' 2 RPhi A c xs:=SL.keep h (RPhi.keep h) hv
theorem SInss.keep {A:Option Addr} {c:Nat} {xs:List qN} (hv:SL w 5 RIns A c xs):SL w' 5 RIns A c xs:=SL.keep h (RIns.keep h) hv
theorem SBlks.keep {A:Option Addr} {c:Nat} {xs:List qE} (hv:SL w 5 RBlk A c xs):SL w' 5 RBlk A c xs:=SL.keep h (RBlk.keep h) hv
theorem SFuns.keep {A:Option Addr} {c:Nat} {xs:List qB} (hv:SL w 4 RFun A c xs):SL w' 4 RFun A c xs:=SL.keep h (RFun.keep h) hv
theorem VInts.keep {v:Value} {xs:List Int} (hv:VS w 1 RInt v xs):VS w' 1 RInt v xs:=VS.keep h (RInt.keep h) hv
theorem VTerm.keep {v:Value} {t:yU} (hv:VTerm w v t):VTerm w' v t:=by
 obtain ⟨A,c,rfl,g1,g2⟩:=hv;exact ⟨A,c,rfl,SInts.keep h g1,g2⟩
theorem VPhi.keep {v:Value} {t:PhiD} (hv:VPhi w v t):VPhi w' v t:=by
 obtain ⟨A,c,rfl,g1,g2⟩:=hv;exact ⟨A,c,rfl,SInts.keep h g1,g2⟩
theorem VIns.keep {v:Value} {t:qN} (hv:VIns w v t):VIns w' v t:=by
 obtain ⟨A,c,rfl,g1,g2⟩:=hv;exact ⟨A,c,rfl,SInts.keep h g1,g2⟩
theorem VBlk.keep {v:Value} {t:qE} (hv:VBlk w v t):VBlk w' v t:=by
 obtain ⟨_,_,_,_,_,_,rfl,g1,g2,g3,g4⟩:=hv;exact ⟨_,_,_,_,_,_,rfl,SPhis.keep h g1,SInss.keep h g2,SInts.keep h g3,g4⟩
theorem VFun.keep {v:Value} {t:qB} (hv:VFun w v t):VFun w' v t:=by
 obtain ⟨_,_,_,_,rfl,g1,g2,g3⟩:=hv;exact ⟨_,_,_,_,rfl,SInts.keep h g1,SBlks.keep h g2,g3⟩
theorem VMod.keep {v:Value} {t:List qB} (hv:VMod w v t):VMod w' v t:=by
 obtain ⟨_,_,rfl,g1⟩:=hv;exact ⟨_,_,rfl,SFuns.keep h g1⟩
end
section
variable {α:Type} {w:World} {sz c:Nat} {R:World->Nat->Nat->α->Prop} {A:Option Addr} {xs:List α}
theorem SL.len (h:SL w sz R A c xs):xs.length<=9223372036854775807:=by
 obtain ⟨h1,⟨h2,_⟩,_⟩:=h;unfold maxLen at h2;omega
theorem SL.at_ (h:SL w sz R A c xs) {k:Nat} (hk:k<xs.length):∃ b o x,A=some ⟨b,o,none⟩/\Hid (xs[k]?=some x)/\R w b (o+k * sz) x:=by
 obtain ⟨h1,h2,h3⟩:=h;obtain ⟨b,o,e,hx⟩:=h3 (by omega);exact ⟨b,o,xs[k],e,Jj (Jq hk),hx k _ (Jq hk)⟩
end
theorem SL.int {w:World} {c:Nat} {A:Option Addr} {xs:List Int} (h:SL w 1 RInt A c xs) {k:Nat} (hk:k<xs.length) :
  ∃ b o x,A=some ⟨b,o,none⟩/\Hid (xs[k]?=some x)/\w.cell? ⟨b,o+k,none⟩=some (.int .i64 x)/\I64 x:=by
 obtain ⟨b,o,x,e,hx,h1,h2⟩:=h.at_ hk;rw [Nat.mul_one] at h1;exact ⟨b,o,x,e,hx,h1,h2⟩
theorem qG {α:Type} {l:List α} {j:Nat} {x:α} (h:l[j]?=some x):l.take (j+1)=l.take j++[x]:=by
 obtain ⟨hj,rfl⟩:=Jk h;exact List.take_succ_eq_append_getElem hj
theorem Upto.succ {α:Type} {p:α->Prop} {l:List α} {k:Nat} {y:α} (h:Upto p l k) (hy:l[k]?=some y) (hp:p y):Upto p l (k+1):=by
 intro x hx;rw [qG hy] at hx;rcases List.mem_append.1 hx with hx | hx
 ·exact h x hx
 ·rw [List.mem_singleton.1 hx];exact hp
theorem named (w:World) (cs:Array Value) (t:TypeId):∃ w1,w1=w.alloc (.cells cs t)/\w1.heap.size=w.heap.size+1/\Kept w w1/\Below w.heap.size w w1 /\
  (∀ i u,cs[i]?=some u->w1.cell? ⟨w.heap.size,i,none⟩=some u)/\(∀ i,w1.frozen? ⟨w.heap.size,i,none⟩=false):=by
 refine ⟨_,rfl,by simp,qc _ _,(J5 _ _).alloc (J4 _) _,λ i u hu=>(World.cell?_alloc_at (w:=w) cs t w.heap.size i rfl).trans hu,λ i=>by simp⟩
theorem SL.one {α:Type} {w:World} {sz b o:Nat} {R:World->Nat->Nat->α->Prop} {x:α} (h:R w b o x):SL w sz R (some ⟨b,o,none⟩) 1 [x]:=by
 refine ⟨J4 _,⟨by unfold maxLen;omega,λ e=>by cases e⟩,λ _=>⟨b,o,rfl,λ i y hi=>?_⟩⟩
 match i,hi with
 | 0,hi=>obtain rfl:=J3 hi;simpa using h
 | i+1,hi=>simp at hi
theorem q8I (w:World) (v:Value) (t:TypeId) {g:Nat} (hg:g=w.heap.size):∀ j u,[v][j]?=some u->(w.alloc (.cells #[v] t)).cell? ⟨g,j,none⟩=some u:=by
 intro j u hu;subst hg;rcases j with _ | j
 ·obtain rfl:=J3 hu;exact (World.cell?_alloc_at (w:=w) #[v] t w.heap.size 0 rfl).trans rfl
 ·exact absurd hu (by simp)
theorem qm (w:World) (v:Value) (t:TypeId) {g:Nat} (hg:g=w.heap.size):∀ j u,[v][j]?=some u->(w.alloc (.cells #[v] t)).cell? ((⟨g,0,none⟩:Addr).add j)=some u:=λ j u hu=>by
 have h:=q8I w v t hg j u hu
 rwa [show (⟨g,0,none⟩:Addr).add j=⟨g,j,none⟩ by unfold Addr.add;split <;> simp_all]
theorem ql {w:World} {base:Nat} {e:TypeId} {v:Value} {xs:List Int} (h:w.ownsRow base e 1 v xs.length (xs.map (Value.int .i64))) (hx:∀ x∈xs,I64 x):VS w 1 RInt v xs:=by
 rcases h.2 with ⟨rfl,h0⟩ | ⟨g,c,cur,rfl,hb,hh,hn,hc,wm,ht⟩
 ·have:xs=[]:=List.length_eq_zero_iff.1 h0;subst this;exact ⟨none,0,rfl,J4 _,⟨by unfold maxLen;omega,λ _=>rfl⟩,λ hp=>absurd hp (by simp)⟩
 ·refine ⟨some ⟨g,0,none⟩,c,rfl,hn,⟨hc,λ e=>by cases e⟩,λ _=>⟨g,0,rfl,λ i x hi=>⟨?_,hx x (Jz hi)⟩⟩⟩;(have:=h.cells (g:=g) rfl i (.int .i64 x) (by rw [List.getElem?_map,hi];rfl));rw [Nat.mul_one]
  rwa [show (⟨g,0,none⟩:Addr).add i=⟨g,0+i,none⟩ by unfold Addr.add;split <;> simp_all] at this
section
variable {H:Type} {enc:TypeId × Value->H} {P:Program} {w:World} {base:Nat} {spare:Nat->Bool} {wg:Bool}
def q1I {α:Type} (enc:TypeId × Value->H) (P:Program) (w:World) (base:Nat) (spare:Nat->Bool) (wg:Bool) (e:TypeId) (sz:Nat) (R:World->Nat->Nat->α->Prop):Prop :=
 ∀ n b o cs y,cs.length=sz->(∀ i,i<sz->w.cell? ⟨b,o+i,none⟩=cs[i]?)->DataW.trod enc P w base spare wg n e cs=some y->∃ x,R w b o x
theorem q1H (b o i:Nat):(⟨b,o,none⟩:Addr).add i=⟨b,o+i,none⟩:=by unfold Addr.add;split <;> simp_all
theorem q9g {α:Type} [Inhabited α] {t e:TypeId} {fuel:Nat} {v:Value} {y:DataW H × List MemPlace} {sz:Nat} {R:World->Nat->Nat->α->Prop}
  (ht:P.underlying t=some (.slice e)) (wm:P.cellsOf e=sz) (wk:0<sz) (hR:q1I enc P w base spare wg e sz R)
  (h:DataW.trod enc P w base spare wg fuel t [v]=some y):∃ xs,VS w sz R v xs:=by
 rcases open_slice ht h with ⟨hv,_⟩ | ⟨a,len,cap,m,n,D,Pl,hv,_,hl,hm,wu,_,hx⟩
 ·(obtain rfl:v=.slice none 0 0:=by simpa using hv);exact ⟨[],none,0,rfl,J4 _,⟨by unfold maxLen;omega,λ _=>rfl⟩,λ hp=>absurd hp (by simp)⟩
 ·(obtain rfl:v=.slice (some a) len cap:=by simpa using hv);rw [wm] at hx
  by_cases h0:len=0
  ·subst h0;exact ⟨[],some a,cap,rfl,hl,⟨hm,λ e=>by cases e⟩,λ hp=>absurd hp (by simp)⟩
  ·(have hml:len<=m:=by rw [wu];split <;> omega);obtain ⟨b,o,spot⟩:=a;have wh:spot=none:=by
    obtain ⟨cs,hc,_⟩:=hx 0 (by omega);obtain ⟨_,wj,wl⟩:=World.cells?_some hc;have h1:=wl 0 wk;rw [Jq (by omega)] at h1;have h2:=World.cell?_spot h1;simpa [Addr.add] using h2
   subst wh
   obtain ⟨f,hf⟩:=choose_lt (α:=α) (n:=len) (p:=λ i x=>R w b (o+i * sz) x) (λ i hi=>by
    obtain ⟨cs,hc,hd⟩:=hx i (by omega);obtain ⟨_,wj,wl⟩:=World.cells?_some hc
    exact hR n b (o+i * sz) cs _ wj (λ j hj=>by have:=wl j hj;rwa [q1H,q1H] at this) hd)
   refine ⟨(List.range len).map f,some ⟨b,o,none⟩,cap,by simp,by simpa using hl,⟨hm,λ e=>by cases e⟩,λ _=>⟨b,o,rfl,λ i x hi=>?_⟩⟩;obtain ⟨wv,rfl⟩:=Jk hi;simp only [List.getElem_map,List.getElem_range];exact hf i (by simpa using wv)
theorem q7Z {x:Int} (h:(Lit.int .i64 x).wf=true):I64 x:=by
 unfold I64;have h':=bounds_i64 h;exact h'
end
end Go.Proofs.YtfoggldjjnabcaaGreatDoor

namespace Go.Proofs.YtfoggldjjnabcaaGreatDoor
open Go.ChangeShapes Go.WideShapes Go.RowKit Go.Deep
theorem Tryz.info3:(Tryz.prog.info? 3).map (λ i=>(i.zero,i.size,i.bytes))=some (some (.int .i64 0),1,8):=by kernel_rfl
def zd (block:Int) (to:List Int):Bool:=to.any (· == block)
def zS:List qE->Nat->Int->List Int
 | [],_,_=>[]
 | b::r,i,block=>(if zd block b.term.to then [(i:Int)] else [])++zS r (i+1) block
def qH (bs:List qE) (block:Int):List Int:=zS bs 0 block
theorem q0F (bs:List qE) (i:Nat) (block:Int) (x:qE):zS (bs++[x]) i block=zS bs i block++(if zd block x.term.to then [((i+bs.length:Nat):Int)] else []):=by
 induction bs generalizing i with
 | nil=>simp [zS]
 | cons b r ih=>simp only [List.cons_append,zS,ih,List.append_assoc,List.length_cons];congr 3;simp;omega
theorem xC {bs:List qE} {k:Nat} {x:qE} (block:Int) (h:bs[k]?=some x):qH (bs.take (k+1)) block=qH (bs.take k) block++(if zd block x.term.to then [(k:Int)] else []):=by
 have hk:k<bs.length:=(Jk h).1;rw [qH,qG h,q0F,List.length_take,Nat.min_eq_left (by omega),Nat.zero_add];rfl
theorem vU (bs:List qE) (i:Nat) (block:Int):(zS bs i block).length<=bs.length:=by
 induction bs generalizing i with
 | nil=>simp [zS]
 | cons b r ih=>simp only [zS,List.length_append,List.length_cons];have:=ih (i+1);split <;> simp <;> omega
theorem qw (bs:List qE) (i:Nat) (block:Int):∀ x∈zS bs i block,(i:Int)<=x/\x<((i+bs.length:Nat):Int):=by
 induction bs generalizing i with
 | nil=>simp [zS]
 | cons b r ih =>
  intro x hx;simp only [zS,List.mem_append] at hx;rcases hx with hx | hx
  ·split at hx <;> simp at hx;subst hx;simp;omega
  ·have:=ih (i+1) x hx;simp at this ⊢;omega
theorem yE (bs:List qE) (block:Int) (h:bs.length<=9223372036854775807):∀ x∈qH bs block,I64 x:=by
 intro x hx;have:=qw bs 0 block x hx;simp at this;unfold I64;omega
theorem xt (block:Int) {t:List Int} {j:Nat} {x:Int} (h:t[j]?=some x):zd block (t.take (j+1))=(zd block (t.take j) || (x == block)):=by
 rw [qG h];simp [zd]
def RIntB (B:Nat->Prop) (w:World) (b o:Nat) (x:Int):Prop:=B b/\RInt w b o x
def RPhiB (B:Nat->Prop) (w:World) (b o:Nat) (p:PhiD):Prop:=B b/\RInt w b o p.dst/\CS w b (o+1) 1 (RIntB B) p.args
def RInsB (B:Nat->Prop) (w:World) (b o:Nat) (x:qN):Prop :=
 B b/\RInt w b o x.op/\RInt w b (o+1) x.dst/\CS w b (o+2) 1 (RIntB B) x.args/\RInt w b (o+3) x.imm/\RInt w b (o+4) x.fn
def RBlkB (B:Nat->Prop) (w:World) (b o:Nat) (k:qE):Prop :=
 B b/\CS w b o 2 (RPhiB B) k.phis/\CS w b (o+1) 5 (RInsB B) k.ins/\RInt w b (o+2) k.term.kind/\RInt w b (o+3) k.term.arg/\CS w b (o+4) 1 (RIntB B) k.term.to
def RFunB (B:Nat->Prop) (w:World) (b o:Nat) (f:qB):Prop:=B b/\RInt w b o f.params/\RInt w b (o+1) f.result/\CS w b (o+2) 1 (RIntB B) f.regs/\CS w b (o+3) 5 (RBlkB B) f.blocks
def KeptB (B:Nat->Prop) (w w':World):Prop:=∀ a v,B a.block->w.cell? a=some v->w'.cell? a=some v
theorem KeptB.trans {B:Nat->Prop} {a b c:World} (h:KeptB B a b) (k:KeptB B b c):KeptB B a c:=λ x v hB hx=>k x v hB (h x v hB hx)
theorem KeptB.of {B:Nat->Prop} {w w':World} (h:Kept w w'):KeptB B w w':=λ a v _ ha=>h a v ha
theorem KeptB.mono {B B':Nat->Prop} {w w':World} (h:KeptB B w w') (hB:∀ b,B' b->B b):KeptB B' w w':=λ a v hb ha=>h a v (hB _ hb) ha
theorem zW (w:World) (a:Addr) (v:Value):KeptB (λ b=>b≠a.block) w (w.setCell a v):=λ x u hx h=>by
 rw [World.cell?_setCell_other _ _ _ _ (λ e=>by subst e;exact hx rfl)];exact h
theorem zU {w w':World} {row:Option Nat} (h:w.grownBy w' row):KeptB (λ b=>some b≠row) w w':=λ x u hx hc=>by
 rw [JK (h.block x.block (block_lt_of_cell hc) hx)];exact hc
theorem SL.imp {α:Type} {w w':World} {sz:Nat} {R R':World->Nat->Nat->α->Prop} (hR:∀ b o x,R w b o x->R' w' b o x) {A:Option Addr} {c:Nat} {xs:List α} (hv:SL w sz R A c xs):SL w' sz R' A c xs:=by
 obtain ⟨h1,h2,h3⟩:=hv;exact ⟨h1,h2,λ hp=>by obtain ⟨b,o,e,hx⟩:=h3 hp;exact ⟨b,o,e,λ i x hi=>hR _ _ _ (hx i x hi)⟩⟩
section
variable {B B':Nat->Prop} {w w':World} (h:KeptB B w w') (hB:∀ b,B b->B' b)
include h hB
theorem RIntB.go (b o:Nat) (x:Int) (hv:RIntB B w b o x):RIntB B' w' b o x:=⟨hB _ hv.1,h _ _ hv.1 hv.2.1,hv.2.2⟩
theorem RIntIn.go {b o:Nat} {x:Int} (hb:B b) (hv:RInt w b o x):RInt w' b o x:=by have _:=hB;exact ⟨h _ _ hb hv.1,hv.2⟩
theorem CSB.go {α:Type} {sz:Nat} {R R':World->Nat->Nat->α->Prop} (hR:∀ b o x,R w b o x->R' w' b o x) {b o:Nat} {xs:List α} (hb:B b) (hv:CS w b o sz R xs):CS w' b o sz R' xs:=by
 have _:=hB;obtain ⟨A,c,e,h1⟩:=hv;exact ⟨A,c,h _ _ hb e,SL.imp hR h1⟩
theorem RPhiB.go (b o:Nat) (x:PhiD) (hv:RPhiB B w b o x):RPhiB B' w' b o x:=⟨hB _ hv.1,RIntIn.go h hB hv.1 hv.2.1,CSB.go h hB (RIntB.go h hB) hv.1 hv.2.2⟩
theorem RInsB.go (b o:Nat) (x:qN) (hv:RInsB B w b o x):RInsB B' w' b o x:=by
 obtain ⟨h0,h1,h2,h3,h5,h6⟩:=hv;exact ⟨hB _ h0,RIntIn.go h hB h0 h1,RIntIn.go h hB h0 h2,CSB.go h hB (RIntB.go h hB) h0 h3,RIntIn.go h hB h0 h5,RIntIn.go h hB h0 h6⟩
theorem RBlkB.go (b o:Nat) (x:qE) (hv:RBlkB B w b o x):RBlkB B' w' b o x:=by
 obtain ⟨h0,h1,h2,h3,h4,h5⟩:=hv;exact ⟨hB _ h0,CSB.go h hB (RPhiB.go h hB) h0 h1,CSB.go h hB (RInsB.go h hB) h0 h2,RIntIn.go h hB h0 h3,RIntIn.go h hB h0 h4,CSB.go h hB (RIntB.go h hB) h0 h5⟩
theorem RFunB.go (b o:Nat) (x:qB) (hv:RFunB B w b o x):RFunB B' w' b o x:=by
 obtain ⟨h0,h1,h2,h3,h4⟩:=hv;exact ⟨hB _ h0,RIntIn.go h hB h0 h1,RIntIn.go h hB h0 h2,CSB.go h hB (RIntB.go h hB) h0 h3,CSB.go h hB (RBlkB.go h hB) h0 h4⟩
theorem SIntsB.go {A:Option Addr} {c:Nat} {xs:List Int} (hv:SL w 1 (RIntB B) A c xs):SL w' 1 (RIntB B') A c xs:=SL.imp (RIntB.go h hB) hv
theorem SPhisB.go {A:Option Addr} {c:Nat} {xs:List PhiD} (hv:SL w 2 (RPhiB B) A c xs):SL w' 2 (RPhiB B') A c xs:=SL.imp (RPhiB.go h hB) hv
theorem SInssB.go {A:Option Addr} {c:Nat} {xs:List qN} (hv:SL w 5 (RInsB B) A c xs):SL w' 5 (RInsB B') A c xs:=SL.imp (RInsB.go h hB) hv
theorem SBlksB.go {A:Option Addr} {c:Nat} {xs:List qE} (hv:SL w 5 (RBlkB B) A c xs):SL w' 5 (RBlkB B') A c xs:=SL.imp (RBlkB.go h hB) hv
end
section
variable {B:Nat->Prop} {w:World}
theorem CSB.plain {α:Type} {sz:Nat} {R R':World->Nat->Nat->α->Prop} (hR:∀ b o x,R w b o x->R' w b o x) {b o:Nat} {xs:List α} (hv:CS w b o sz R xs):CS w b o sz R' xs:=by
 obtain ⟨A,c,e,h1⟩:=hv;exact ⟨A,c,e,SL.imp hR h1⟩
theorem RIntB.plain (b o:Nat) (x:Int) (hv:RIntB B w b o x):RInt w b o x:=hv.2
theorem RPhiB.plain (b o:Nat) (x:PhiD) (hv:RPhiB B w b o x):RPhi w b o x:=⟨hv.2.1,CSB.plain RIntB.plain hv.2.2⟩
theorem RInsB.plain (b o:Nat) (x:qN) (hv:RInsB B w b o x):RIns w b o x:=⟨hv.2.1,hv.2.2.1,CSB.plain RIntB.plain hv.2.2.2.1,hv.2.2.2.2.1,hv.2.2.2.2.2⟩
theorem RBlkB.plain (b o:Nat) (x:qE) (hv:RBlkB B w b o x):RBlk w b o x :=
 ⟨CSB.plain RPhiB.plain hv.2.1,CSB.plain RInsB.plain hv.2.2.1,hv.2.2.2.1,hv.2.2.2.2.1,CSB.plain RIntB.plain hv.2.2.2.2.2⟩
theorem RFunB.plain (b o:Nat) (x:qB) (hv:RFunB B w b o x):RFun w b o x:=⟨hv.2.1,hv.2.2.1,CSB.plain RIntB.plain hv.2.2.2.1,CSB.plain RBlkB.plain hv.2.2.2.2⟩
end
section
variable {B:Nat->Prop} {w:World}
theorem CSB.lt {α:Type} {sz:Nat} {R R':World->Nat->Nat->α->Prop} (hR:∀ b o x,R w b o x->R' w b o x) {b o:Nat} {xs:List α} (hv:CS w b o sz R xs):CS w b o sz R' xs:=CSB.plain hR hv
theorem RIntB.lt (b o:Nat) (x:Int) (hv:RIntB B w b o x):RIntB (λ b=>B b/\b<w.heap.size) w b o x:=⟨⟨hv.1,block_lt_of_cell hv.2.1⟩,hv.2⟩
theorem RPhiB.lt (b o:Nat) (x:PhiD) (hv:RPhiB B w b o x):RPhiB (λ b=>B b/\b<w.heap.size) w b o x:=⟨⟨hv.1,block_lt_of_cell hv.2.1.1⟩,hv.2.1,CSB.plain RIntB.lt hv.2.2⟩
theorem RInsB.lt (b o:Nat) (x:qN) (hv:RInsB B w b o x):RInsB (λ b=>B b/\b<w.heap.size) w b o x:=⟨⟨hv.1,block_lt_of_cell hv.2.1.1⟩,hv.2.1,hv.2.2.1,CSB.plain RIntB.lt hv.2.2.2.1,hv.2.2.2.2⟩
theorem RBlkB.lt (b o:Nat) (x:qE) (hv:RBlkB B w b o x):RBlkB (λ b=>B b/\b<w.heap.size) w b o x :=
 ⟨⟨hv.1,block_lt_of_cell hv.2.2.2.1.1⟩,CSB.plain RPhiB.lt hv.2.1,CSB.plain RInsB.lt hv.2.2.1,hv.2.2.2.1,hv.2.2.2.2.1,CSB.plain RIntB.lt hv.2.2.2.2.2⟩
theorem SIntsB.lt {A:Option Addr} {c:Nat} {xs:List Int} (hv:SL w 1 (RIntB B) A c xs):SL w 1 (RIntB (λ b=>B b/\b<w.heap.size)) A c xs:=SL.imp RIntB.lt hv
theorem SPhisB.lt {A:Option Addr} {c:Nat} {xs:List PhiD} (hv:SL w 2 (RPhiB B) A c xs):SL w 2 (RPhiB (λ b=>B b/\b<w.heap.size)) A c xs:=SL.imp RPhiB.lt hv
theorem SInssB.lt {A:Option Addr} {c:Nat} {xs:List qN} (hv:SL w 5 (RInsB B) A c xs):SL w 5 (RInsB (λ b=>B b/\b<w.heap.size)) A c xs:=SL.imp RInsB.lt hv
theorem SBlksB.lt {A:Option Addr} {c:Nat} {xs:List qE} (hv:SL w 5 (RBlkB B) A c xs):SL w 5 (RBlkB (λ b=>B b/\b<w.heap.size)) A c xs:=SL.imp RBlkB.lt hv
end
structure BB (n g:Nat) (w w':World):Prop where
 os:w'.os=w.os
 tape:w'.tape=w.tape
 output:w'.output=w.output
 size:w.heap.size<=w'.heap.size
 block:∀ k,k<n->k≠g->w'.heap[k]?=w.heap[k]?
theorem BB.refl (n g:Nat) (w:World):BB n g w w:=⟨rfl,rfl,rfl,J4 _,λ _ _ _=>rfl⟩
theorem BB.trans {n g:Nat} {a b c:World} (h:BB n g a b) (k:BB n g b c):BB n g a c :=
 ⟨k.os.trans h.os,k.tape.trans h.tape,k.output.trans h.output,Nat.le_trans h.size k.size,λ i hi hg=>(k.block i hi hg).trans (h.block i hi hg)⟩
theorem BB.of_below {n m g:Nat} {w w':World} (h:Below m w w') (hn:n<=m):BB n g w w':=⟨h.os,h.tape,h.output,h.size,λ k hk _=>h.block k (by omega)⟩
theorem BB.below {n m g:Nat} {w w':World} (h:BB n g w w') (hn:m<=n) (hg:m<=g):Below m w w':=⟨h.os,h.tape,h.output,h.size,λ k hk=>h.block k (by omega) (by omega)⟩
theorem BB.mono {n m g:Nat} {w w':World} (h:BB n g w w') (hn:m<=n):BB m g w w':=⟨h.os,h.tape,h.output,h.size,λ k hk hg=>h.block k (by omega) hg⟩
theorem BB.drew {n g:Nat} {a w:World} (h:BB n g a w):BB n g a w.drew:=⟨h.os,h.tape,h.output,h.size,h.block⟩
theorem BB.alloc {n g:Nat} {a w:World} (h:BB n g a w) (hn:n<=w.heap.size) (o:Obj):BB n g a (w.alloc o):=h.trans (BB.of_below ((J5 _ w).alloc (J4 _) o) hn)
theorem BB.setCell {n g:Nat} {a w:World} (h:BB n g a w) {p:Addr} (hp:p.block=g\/n<=p.block) (u:Value):BB n g a (w.setCell p u) :=
 h.trans ⟨rfl,rfl,rfl,by simp [World.setCell],λ k hk hg=>JQ _ _ _ _ (by omega)⟩
theorem BB.grown {n g:Nat} {a w w':World} {row:Option Nat} (h:BB n g a w) (hg:w.grownBy w' row) (hn:n<=w.heap.size) (hr:∀ k,row=some k->k=g\/n<=k):BB n g a w' :=
 h.trans ⟨hg.os,hg.tape,hg.output,hg.size,λ k hk hkg=>hg.block k (by omega) (λ e=>by have:=hr k e.symm;omega)⟩
theorem BB.kept {n g:Nat} {w w':World} (h:BB n g w w'):KeptB (λ b=>b<n/\b≠g) w w':=λ a v hb ha=>(JK (h.block a.block hb.1 hb.2)).trans ha
def CPhi (B:Nat->Prop) (w:World) (p:PhiD) (cs:List Value):Prop:=∃ A c,cs=[.int .i64 p.dst,.slice A p.args.length c]/\SL w 1 (RIntB B) A c p.args/\I64 p.dst
def CIns (B:Nat->Prop) (w:World) (x:qN) (cs:List Value):Prop :=
 ∃ A c,cs=[.int .i64 x.op,.int .i64 x.dst,.slice A x.args.length c,.int .i64 x.imm,.int .i64 x.fn]/\SL w 1 (RIntB B) A c x.args/\I64 x.op/\I64 x.dst/\I64 x.imm/\I64 x.fn
def CBlk (B:Nat->Prop) (w:World) (k:qE) (cs:List Value):Prop :=
 ∃ Ap cp Ai ci At ct,cs=[.slice Ap k.phis.length cp,.slice Ai k.ins.length ci,.int .i64 k.term.kind,.int .i64 k.term.arg,.slice At k.term.to.length ct] /\
  SL w 2 (RPhiB B) Ap cp k.phis/\SL w 5 (RInsB B) Ai ci k.ins/\SL w 1 (RIntB B) At ct k.term.to/\I64 k.term.kind/\I64 k.term.arg
def CFun (B:Nat->Prop) (w:World) (f:qB) (cs:List Value):Prop :=
 ∃ Ar cr Ab cb,cs=[.int .i64 f.params,.int .i64 f.result,.slice Ar f.regs.length cr,.slice Ab f.blocks.length cb]/\SL w 1 (RIntB B) Ar cr f.regs/\SL w 5 (RBlkB B) Ab cb f.blocks/\I64 f.params/\I64 f.result
section
variable {B B':Nat->Prop} {w w':World} (h:KeptB B w w') (hB:∀ b,B b->B' b)
include h hB
theorem CPhi.go {x:PhiD} {cs:List Value} (hv:CPhi B w x cs):CPhi B' w' x cs:=by
 obtain ⟨A,c,e,g1,g2⟩:=hv;exact ⟨A,c,e,SIntsB.go h hB g1,g2⟩
theorem CIns.go {x:qN} {cs:List Value} (hv:CIns B w x cs):CIns B' w' x cs:=by
 obtain ⟨A,c,e,g1,g2⟩:=hv;exact ⟨A,c,e,SIntsB.go h hB g1,g2⟩
theorem CBlk.go {x:qE} {cs:List Value} (hv:CBlk B w x cs):CBlk B' w' x cs:=by
 obtain ⟨_,_,_,_,_,_,e,g1,g2,g3,g4⟩:=hv;exact ⟨_,_,_,_,_,_,e,SPhisB.go h hB g1,SInssB.go h hB g2,SIntsB.go h hB g3,g4⟩
theorem CFun.go {x:qB} {cs:List Value} (hv:CFun B w x cs):CFun B' w' x cs:=by
 obtain ⟨_,_,_,_,e,g1,g2,g3⟩:=hv;exact ⟨_,_,_,_,e,SIntsB.go h hB g1,SBlksB.go h hB g2,g3⟩
end
section
variable {B:Nat->Prop} {w:World}
theorem CPhi.lt {x:PhiD} {cs:List Value} (hv:CPhi B w x cs):CPhi (λ b=>B b/\b<w.heap.size) w x cs:=by
 obtain ⟨A,c,e,g1,g2⟩:=hv;exact ⟨A,c,e,SIntsB.lt g1,g2⟩
theorem CIns.lt {x:qN} {cs:List Value} (hv:CIns B w x cs):CIns (λ b=>B b/\b<w.heap.size) w x cs:=by
 obtain ⟨A,c,e,g1,g2⟩:=hv;exact ⟨A,c,e,SIntsB.lt g1,g2⟩
theorem CBlk.lt {x:qE} {cs:List Value} (hv:CBlk B w x cs):CBlk (λ b=>B b/\b<w.heap.size) w x cs:=by
 obtain ⟨_,_,_,_,_,_,e,g1,g2,g3,g4⟩:=hv;exact ⟨_,_,_,_,_,_,e,SPhisB.lt g1,SInssB.lt g2,SIntsB.lt g3,g4⟩
theorem CFun.lt {x:qB} {cs:List Value} (hv:CFun B w x cs):CFun (λ b=>B b/\b<w.heap.size) w x cs:=by
 obtain ⟨_,_,_,_,e,g1,g2,g3⟩:=hv;exact ⟨_,_,_,_,e,SIntsB.lt g1,SBlksB.lt g2,g3⟩
end
def Rows {α:Type} (sz:Nat) (F:α->List Value->Prop):List α->List Value->Prop
 | [],cs=>cs=[]
 | x::l,cs=>∃ c r,cs=c++r/\c.length=sz/\F x c/\Rows sz F l r
section
variable {α:Type} {sz:Nat} {F F':α->List Value->Prop}
theorem Rows.imp (h:∀ x c,F x c->F' x c) {l:List α}:∀ {cs:List Value},Rows sz F l cs->Rows sz F' l cs:=by
 induction l with
 | nil=>exact λ h=>h
 | cons x l ih=>rintro cs ⟨c,r,e,h1,h2,h3⟩;exact ⟨c,r,e,h1,h x c h2,ih h3⟩
theorem Rows.snoc {l:List α} {x:α} {c:List Value} (hx:F x c) (hc:c.length=sz):∀ {cs:List Value},Rows sz F l cs->Rows sz F (l++[x]) (cs++c):=by
 induction l with
 | nil=>rintro cs rfl;exact ⟨c,[],by simp,hc,hx,rfl⟩
 | cons y l ih=>rintro cs ⟨d,r,rfl,h1,h2,h3⟩;exact ⟨d,r++c,by simp,h1,h2,ih h3⟩
theorem Rows.at_ {l:List α}:∀ {cs:List Value} (h:Rows sz F l cs) {i:Nat} {x:α},l[i]?=some x->∃ c,c.length=sz/\F x c/\∀ j,j<sz->cs[i * sz+j]?=c[j]?:=by
 induction l with
 | nil=>intro cs h i x hi;simp at hi
 | cons y l ih =>
  rintro cs ⟨c,r,rfl,h1,h2,h3⟩ i x hi;cases i with
  | zero=>obtain rfl:=J3 hi;exact ⟨c,h1,h2,λ j hj=>by rw [Nat.zero_mul,Nat.zero_add,List.getElem?_append_left (by omega)]⟩
  | succ i =>
   obtain ⟨d,g1,g2,g3⟩:=ih h3 (i:=i) hi;refine ⟨d,g1,g2,λ j hj=>?_⟩;(rw [List.getElem?_append_right (by rw [h1,Nat.succ_mul];omega),h1,show (i+1) * sz+j - sz=i * sz+j by rw [Nat.succ_mul];omega]);exact g3 j hj
theorem Rows.reads {w:World} {base:Nat} {e:TypeId} {u:Value} {l:List α} {cs:List Value} {R:World->Nat->Nat->α->Prop} (h:Rows sz F l cs) (wg:w.ownsRow base e sz u l.length cs)
  (hR:∀ g o x c,u.ownBlock=some g->base<=g->F x c->c.length=sz->(∀ j v,c[j]?=some v->w.cell? ⟨g,o+j,none⟩=some v)->R w g o x):VS w sz R u l:=by
 rcases wg.2 with ⟨rfl,h0⟩ | ⟨g,c,cur,rfl,hb,hh,hn,hc,hsz,ht⟩
 ·have:l=[]:=List.length_eq_zero_iff.1 h0;subst this;exact ⟨none,0,rfl,J4 _,⟨by unfold maxLen;omega,λ _=>rfl⟩,λ hp=>absurd hp (by simp)⟩
 ·refine ⟨some ⟨g,0,none⟩,c,rfl,hn,⟨hc,λ e=>by cases e⟩,λ _=>⟨g,0,rfl,λ i x hi=>?_⟩⟩;obtain ⟨d,g1,g2,g3⟩:=h.at_ hi;refine hR g _ x d rfl hb g2 g1 (λ j v hj=>?_);(have wM:j<sz:=by rw [<- g1];exact (Jk hj).1);have:=wg.cells (g:=g) rfl (i * sz+j) v ((g3 j wM).trans hj)
  rwa [show (⟨g,0,none⟩:Addr).add (i * sz+j)=⟨g,0+i * sz+j,none⟩ by unfold Addr.add;split <;> simp_all] at this
end
theorem Rows.push {α:Type} {sz base:Nat} {F:(Nat->Prop)->World->α->List Value->Prop} (Fgo:∀ (B B':Nat->Prop) (w w':World) (x:α) (cs:List Value),KeptB B w w'->(∀ b,B b->B' b)->F B w x cs->F B' w' x cs)
  (Flt:∀ (B:Nat->Prop) (w:World) (x:α) (cs:List Value),F B w x cs->F (λ b=>B b/\b<w.heap.size) w x cs) {w wN:World} {u u':Value} {l:List α} {cs:List Value}
  (h:Rows sz (F (λ b=>base<=b/\some b≠u.ownBlock) w) l cs) (hk:KeptB (λ b=>(base<=b/\some b≠u.ownBlock)/\b<w.heap.size) w wN)
  (hu:∀ b,base<=b->some b≠u.ownBlock->b<w.heap.size->some b≠u'.ownBlock) {x:α} {c:List Value} (hc:c.length=sz) (hx:F (λ b=>base<=b/\some b≠u'.ownBlock) wN x c) :
  Rows sz (F (λ b=>base<=b/\some b≠u'.ownBlock) wN) (l++[x]) (cs++c) :=
 Rows.snoc hx hc (h.imp λ y d hy=>Fgo _ _ _ _ y d hk (λ b hb=>⟨hb.1.1,hu b hb.1.1 hb.1.2 hb.2⟩) (Flt _ _ y d hy))
theorem CPhi.reads {B:Nat->Prop} {w:World} {g o:Nat} {x:PhiD} {c:List Value} (hg:B g) (h:CPhi B w x c) (hc:∀ j v,c[j]?=some v->w.cell? ⟨g,o+j,none⟩=some v):RPhiB B w g o x:=by
 obtain ⟨A,c',rfl,g1,g2⟩:=h;exact ⟨hg,⟨hc 0 _ rfl,g2⟩,A,c',hc 1 _ rfl,g1⟩
theorem CIns.reads {B:Nat->Prop} {w:World} {g o:Nat} {x:qN} {c:List Value} (hg:B g) (h:CIns B w x c) (hc:∀ j v,c[j]?=some v->w.cell? ⟨g,o+j,none⟩=some v):RInsB B w g o x:=by
 obtain ⟨A,c',rfl,g1,g2,g3,g4,g5⟩:=h;exact ⟨hg,⟨hc 0 _ rfl,g2⟩,⟨hc 1 _ rfl,g3⟩,⟨A,c',hc 2 _ rfl,g1⟩,⟨hc 3 _ rfl,g4⟩,⟨hc 4 _ rfl,g5⟩⟩
theorem CBlk.reads {B:Nat->Prop} {w:World} {g o:Nat} {x:qE} {c:List Value} (hg:B g) (h:CBlk B w x c) (hc:∀ j v,c[j]?=some v->w.cell? ⟨g,o+j,none⟩=some v):RBlkB B w g o x:=by
 obtain ⟨Ap,cp,Ai,ci,At,ct,rfl,g1,g2,g3,g4,g5⟩:=h;exact ⟨hg,⟨Ap,cp,hc 0 _ rfl,g1⟩,⟨Ai,ci,hc 1 _ rfl,g2⟩,⟨hc 2 _ rfl,g4⟩,⟨hc 3 _ rfl,g5⟩,⟨At,ct,hc 4 _ rfl,g3⟩⟩
theorem CFun.reads {B:Nat->Prop} {w:World} {g o:Nat} {x:qB} {c:List Value} (hg:B g) (h:CFun B w x c) (hc:∀ j v,c[j]?=some v->w.cell? ⟨g,o+j,none⟩=some v):RFunB B w g o x:=by
 obtain ⟨Ar,cr,Ab,cb,rfl,g1,g2,g3,g4⟩:=h;exact ⟨hg,⟨hc 0 _ rfl,g3⟩,⟨hc 1 _ rfl,g4⟩,⟨Ar,cr,hc 2 _ rfl,g1⟩,⟨Ab,cb,hc 3 _ rfl,g2⟩⟩
theorem yQ (ty:TypeId) {w:World} {g len c:Nat} {A:Option Addr} {xs:List Int} (hg:w.heap[g]?=some (.cells #[] 3 (0,0)))
  (wj:SL w 1 RInt A c xs) (wh:len=xs.length) (hn:xs.length<=1000000) :
  ∃ v' w',(Builtin.append_ #[27,27] ty #[.slice (some ⟨g,0,none⟩) 0 0,.slice A len c]).run Tryz.prog w=.ok v' w'/\VS w' 1 (RIntB (λ b=>b=g\/b=w.heap.size)) v' xs/\w.grownBy w' (some g)/\w'.ownsRow g 3 1 v' xs.length (xs.map (Value.int .i64))/\(v'.ownBlock=some g\/v'.ownBlock=some w.heap.size):=by
 obtain ⟨i0,hi,ww,wv,wu⟩:=info_parts Tryz.info3;have hgl:g<w.heap.size:=(Array.getElem?_eq_some_iff.1 hg).1;have wg:w.ownsRow g 3 1 (.slice (some ⟨g,0,none⟩) 0 0) 0 []:=⟨rfl,.inr ⟨g,0,#[],rfl,J4 _,hg,J4 _,Nat.zero_le _,rfl,rfl⟩⟩;have hI:∀ x∈xs,I64 x:=λ x hx=>by
  obtain ⟨i,hi⟩:=List.getElem?_of_mem hx;obtain ⟨_,_,h3⟩:=wj;(obtain ⟨b,o,_,hr⟩:=h3 (by have:=(Jk hi).1;omega));exact (hr i x hi).2
 have key:∀ v' w',w'.ownsRow g 3 1 v' xs.length (xs.map (Value.int .i64))->(v'.ownBlock=some g\/v'.ownBlock=some w.heap.size)->VS w' 1 (RIntB (λ b=>b=g\/b=w.heap.size)) v' xs:=λ v' w' h wl=>by
  obtain ⟨A',c',e,s1,s2,s3⟩:=ql h hI;refine ⟨A',c',e,s1,s2,λ hp=>?_⟩;obtain ⟨b,o,e2,hr⟩:=s3 hp;have hb:b=g\/b=w.heap.size:=by
   rw [e,e2] at wl;rcases wl with h | h
   ·exact .inl (J3 h)
   ·exact .inr (J3 h)
  exact ⟨b,o,e2,λ i x hi=>⟨hb,hr i x hi⟩⟩
 cases A with
 | none =>
  obtain rfl:c=0:=wj.2.1.2 rfl;have hx:xs=[]:=by
   rcases Nat.eq_zero_or_pos xs.length with h0 | h0
   ·exact List.length_eq_zero_iff.1 h0
   ·obtain ⟨b,o,e,_⟩:=wj.2.2 h0;cases e
  subst hx;subst wh;exact ⟨_,_,run_append_owned_none (P:=Tryz.prog) (w:=w) g 27 ty 3 i0 1 Tryz.underlying27 hi _ 0 [] wg,key _ _ wg (.inl rfl),⟨rfl,rfl,rfl,J4 _,λ _ _ _=>rfl⟩,wg,.inl rfl⟩
 | some ad =>
  have wk:∀ j u,(xs.map (Value.int .i64))[j]?=some u->w.cell? (ad.add j)=some u:=by
   intro j u hu;rw [List.getElem?_map] at hu;obtain ⟨x,hx,rfl⟩:=Option.map_eq_some_iff.1 hu;obtain ⟨_,_,h3⟩:=wj;(obtain ⟨b,o,e,hr⟩:=h3 (by have:=(Jk hx).1;omega));obtain rfl:=J3 e;have:=(hr j x hx).1;rw [Nat.mul_one] at this
   rwa [show (⟨b,o,none⟩:Addr).add j=⟨b,o+j,none⟩ by unfold Addr.add;split <;> simp_all]
  subst wh;obtain ⟨v',w',hr,h2,h3,_,wl⟩:=run_append_own_at (P:=Tryz.prog) w g 27 ty 3 i0 (.int .i64 0) 1 8 Tryz.underlying27 hi ww wv wu rfl (by decide) _ 0 [] wg ad xs.length c (xs.map (Value.int .i64)) (by simp) wk (ints_oneCell _ _)
   (by unfold maxLen;omega) (by omega) (by omega)
  rw [Nat.zero_add,List.nil_append] at h2;exact ⟨v',w',hr,key _ _ h2 wl,h3,h2,wl⟩
theorem q2Q (w:World) (o:Obj):(w.alloc o).drew.heap[w.heap.size]?=some o:=heap_alloc_new w o
theorem jF (w:World) (o o':Obj):((w.alloc o).alloc o').drew.heap[w.heap.size]?=some o:=(Below.heap_alloc _ _ _ (by simp)).trans (heap_alloc_new w o)
theorem yi (w:World) (o o':Obj):((w.alloc o').alloc o).drew.heap[w.heap.size+1]?=some o:=by
 have h:=heap_alloc_new (w.alloc o') o
 rwa [show (w.alloc o').heap.size=w.heap.size+1 by simp] at h
theorem zG {w:World} {g:Nat} {o:Obj} (h:w.heap[g]?=some o):g<w.heap.size:=(Array.getElem?_eq_some_iff.1 h).1
theorem q6y (w:World) (a:Addr) (v:Value):w.grownBy (w.setCell a v) (some a.block):=⟨rfl,rfl,rfl,by simp [World.setCell],λ k _ hk=>JQ _ _ _ _ (λ e=>hk (by rw [e]))⟩
theorem q0c {w:World} {base:Nat} {e:TypeId} {size n:Nat} {v:Value} {xs:List Value} (h:w.ownsRow base e size v n xs) {g:Nat} (hg:w.heap.size<=g):v.ownBlock=none\/v.ownBlock≠some g:=by
 cases hu:v.ownBlock with
 | none=>exact .inl rfl
 | some k=>right;intro e;have:=(h.lt k hu).2;have:=J3 e;omega
theorem xG (w:World) (o o':Obj):((w.alloc o').alloc o).heap[w.heap.size]?=some o':=(Below.heap_alloc _ _ _ (by simp)).trans (heap_alloc_new w o')
theorem q7q (w:World) (o o' o1:Obj) {k:Nat} (h:w.heap[k]?=some o1):((w.alloc o').alloc o).heap[k]?=some o1:=by
 have hk:=zG h;exact ((Below.heap_alloc _ _ _ (by simp;omega)).trans (Below.heap_alloc _ _ _ hk)).trans h
theorem q7p (w:World) (o o':Obj):((w.alloc o').alloc o).heap[w.heap.size+1]?=some o:=yi w o o'
theorem qAJ (w:World) (o o':Obj):Kept w ((w.alloc o).alloc o'):=(qc w o).trans (qc _ o')
theorem q5u (w:World) (o:Obj):Kept w (w.alloc o).drew:=qc w o
theorem q5t (w:World) (o o':Obj):Kept w ((w.alloc o).alloc o').drew:=(qc w o).trans (qc _ o')
theorem vY {w w':World} {g k:Nat} {o:Obj} (h:w.grownBy w' (some g)) (hk:w.heap[k]?=some o) (wJ:k≠g):w'.heap[k]?=some o :=
 (h.block k (Array.getElem?_eq_some_iff.1 hk).1 (λ e=>wJ (J3 e))).trans hk
theorem q6 {w:World} {g:Nat} {cs:Array Value} {t:TypeId} (h:w.heap[g]?=some (.cells cs t (0,0))) (i:Nat):w.cell? ⟨g,i,none⟩=cs[i]?:=cell_of_row w g i cs t (0,0) h
theorem qA {w:World} {g:Nat} {cs:Array Value} {t:TypeId} (h:w.heap[g]?=some (.cells cs t (0,0))) (i:Nat):w.frozen? ⟨g,i,none⟩=false:=by simp [World.frozen?,h]
theorem qK {w:World} {g i:Nat} {cs:Array Value} {t:TypeId} (v:Value) (h:w.heap[g]?=some (.cells cs t (0,0))):(w.setCell ⟨g,i,none⟩ v).heap[g]?=some (.cells (cs.setIfInBounds i v) t (0,0)):=by
 simp [World.setCell,Array.getElem?_modify,h]
theorem qW {w:World} {g:Nat} {o:Obj} (h:w.heap[g]?=some o):g<w.heap.size:=(Array.getElem?_eq_some_iff.1 h).1
theorem j4 (w:World) (g:Nat) (v0 v1 v2 v3:Value):KeptB (λ b=>b≠g) w ((((w.setCell ⟨g,0,none⟩ v0).setCell ⟨g,1,none⟩ v1).setCell ⟨g,2,none⟩ v2).setCell ⟨g,3,none⟩ v3) :=
 (((zW w ⟨g,0,none⟩ v0).trans (zW _ ⟨g,1,none⟩ v1)).trans (zW _ ⟨g,2,none⟩ v2)).trans (zW _ ⟨g,3,none⟩ v3)
theorem qp {w:World} {g:Nat} {a b c d:Value} {t:TypeId} (h:w.heap[g]?=some (.cells #[a,b,c,d] t (0,0))) (v0 v1 v2 v3:Value) :
  ((((w.setCell ⟨g,0,none⟩ v0).setCell ⟨g,1,none⟩ v1).setCell ⟨g,2,none⟩ v2).setCell ⟨g,3,none⟩ v3).heap[g]?=some (.cells #[v0,v1,v2,v3] t (0,0)) :=
 qK v3 (qK v2 (qK v1 (qK v0 h)))
theorem q06 (w:World) (g:Nat) (v0 v1 v2 v3 v4:Value):KeptB (λ b=>b≠g) w (((((w.setCell ⟨g,0,none⟩ v0).setCell ⟨g,1,none⟩ v1).setCell ⟨g,2,none⟩ v2).setCell ⟨g,3,none⟩ v3).setCell ⟨g,4,none⟩ v4) :=
 (j4 w g v0 v1 v2 v3).trans (zW _ ⟨g,4,none⟩ v4)
theorem q01 {w:World} {g:Nat} {a b c d e:Value} {t:TypeId} (h:w.heap[g]?=some (.cells #[a,b,c,d,e] t (0,0))) (v0 v1 v2 v3 v4:Value) :
  (((((w.setCell ⟨g,0,none⟩ v0).setCell ⟨g,1,none⟩ v1).setCell ⟨g,2,none⟩ v2).setCell ⟨g,3,none⟩ v3).setCell ⟨g,4,none⟩ v4).heap[g]?=some (.cells #[v0,v1,v2,v3,v4] t (0,0)) :=
 qK v4 (qK v3 (qK v2 (qK v1 (qK v0 h))))
theorem zE (w:World) (cs:Array Value) (t:TypeId) {g:Nat} (hg:g=w.heap.size):∀ j u,cs.toList[j]?=some u->(w.alloc (.cells cs t)).cell? ((⟨g,0,none⟩:Addr).add j)=some u:=λ j u hu=>by
 subst hg;exact World.news_of_block (heap_alloc_new w (.cells cs t)) j u hu
theorem z8 {ops:Array Oper} {o:Oper} {a:Act} {w:World} {K:Act->World->Prop} {Q:Exit->Act->World->Prop} {E:Prop} (wm:o.guard=none) (s x:Operand)
  (ho:o.op=.call { callee:=.builtin .append,args:=#[s,x],argTypes:=#[27,27] })
  (g len c:Nat) (A:Option Addr) (xs:List Int) (hs:a.eval s=.slice (some ⟨g,0,none⟩) 0 0) (hx:a.eval x=.slice A len c) (hg:w.heap[g]?=some (.cells #[] 3 (0,0)))
  (wj:SL w 1 RInt A c xs) (wh:len=xs.length) (hn:xs.length<=1000000)
  (h:∀ A' c' w',SL w' 1 (RIntB (λ b=>b=g\/b=w.heap.size)) A' c' xs->w.grownBy w' (some g)->(w'.ownsRow g 3 1 (.slice A' xs.length c') xs.length (xs.map (Value.int .i64))/\((Value.slice A' xs.length c').ownBlock=some g\/(Value.slice A' xs.length c').ownBlock=some w.heap.size))->K (a.put o.dst (.slice A' xs.length c')) w') :
  if Region.wanted o (yielded ops a.tmps)=true then Oper.wp Tryz.prog o a w K Q else E:=by
 (have hw:Region.wanted o (yielded ops a.tmps)=true:=by simp [Region.wanted,wm]);rw [if_pos hw];obtain ⟨v',w',hr,⟨A',c',rfl,h2⟩,h3,h4⟩:=yQ o.type hg wj wh hn;unfold Oper.wp execOp;simp only [ho,resolve,invoke,builtin,Sem.run_bind,Sem.run_pure,Result.andThen_ok,List.map_toArray,List.map_cons,List.map_nil,hs,hx,hr];exact h A' c' w' h2 h3 h4
theorem xT {ops:Array Oper} {rest:List Oper} {o:Oper} {a:Act} {w:World} {Q:Exit->Act->World->Prop} (wm:o.guard=none) (s x:Operand)
  (ho:o.op=.call { callee:=.builtin .append,args:=#[s,x],argTypes:=#[27,27] })
  (g len c:Nat) (A:Option Addr) (xs:List Int) (hs:a.eval s=.slice (some ⟨g,0,none⟩) 0 0) (hx:a.eval x=.slice A len c) (hg:w.heap[g]?=some (.cells #[] 3 (0,0)))
  (wj:SL w 1 RInt A c xs) (wh:len=xs.length) (hn:xs.length<=1000000)
  (h:∀ A' c' w',SL w' 1 (RIntB (λ b=>b=g\/b=w.heap.size)) A' c' xs->w.grownBy w' (some g)->(w'.ownsRow g 3 1 (.slice A' xs.length c') xs.length (xs.map (Value.int .i64))/\((Value.slice A' xs.length c').ownBlock=some g\/(Value.slice A' xs.length c').ownBlock=some w.heap.size))->wpList Tryz.prog ops Q rest (a.put o.dst (.slice A' xs.length c')) w'):wpList Tryz.prog ops Q (o::rest) a w:=by
 refine wpList_plain wm λ K hK=>?_;obtain ⟨v',w',hr,⟨A',c',rfl,h2⟩,h3,h4⟩:=yQ o.type hg wj wh hn;unfold Oper.wp execOp;simp only [ho,resolve,invoke,builtin,Sem.run_bind,Sem.run_pure,Result.andThen_ok,List.map_toArray,List.map_cons,List.map_nil,hs,hx,hr];exact hK _ _ (h A' c' w' h2 h3 h4)
theorem jJ {w w':World} {base n:Nat} {e:TypeId} {size:Nat} {v:Value} {xs:List Value} (h:w.ownsRow base e size v n xs) (hb:∀ g,v.ownBlock=some g->w'.heap[g]?=w.heap[g]?):w'.ownsRow base e size v n xs:=by
 obtain ⟨h1,h2⟩:=h;refine ⟨h1,?_⟩;rcases h2 with h2 | ⟨g,c,cur,rfl,h3,h4,h5⟩
 ·exact .inl h2
 ·exact .inr ⟨g,c,cur,rfl,h3,(hb g rfl).trans h4,h5⟩
theorem vq {w:World} {base base' n:Nat} {e:TypeId} {size:Nat} {v:Value} {xs:List Value} (h:w.ownsRow base e size v n xs) (hb:base'<=base):w.ownsRow base' e size v n xs:=by
 obtain ⟨h1,h2⟩:=h;refine ⟨h1,?_⟩;rcases h2 with h2 | ⟨g,c,cur,rfl,h3,h4⟩
 ·exact .inl h2
 ·exact .inr ⟨g,c,cur,rfl,by omega,h4⟩
theorem zb (w:World) {g k:Nat} (hk:k≠g) (v0 v1 v2 v3:Value) :
  ((((w.setCell ⟨g,0,none⟩ v0).setCell ⟨g,1,none⟩ v1).setCell ⟨g,2,none⟩ v2).setCell ⟨g,3,none⟩ v3).heap[k]?=w.heap[k]? :=
 (((JQ _ _ _ _ hk).trans (JQ _ _ _ _ hk)).trans (JQ _ _ _ _ hk)).trans (JQ _ _ _ _ hk)
end Go.Proofs.YtfoggldjjnabcaaGreatDoor
