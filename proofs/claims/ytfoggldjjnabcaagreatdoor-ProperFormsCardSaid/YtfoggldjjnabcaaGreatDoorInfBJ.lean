/- Modules as lists, and what memory holds of them. No condition. -/
import Derived.Test.YtfoggldjjnabcaaGreatDoorProg
import Derived.WalkKit
import Derived.WalkSmall
import Derived.Below
import Derived.Deep.Slices
import Derived.Lib.Hide
import Derived.OpenShut
import Derived.Deep.AppendLies
import Derived.Laws.OwnMore
import Derived.Maps.AppendAt
namespace Go.Proofs.YtfoggldjjnabcaaGreatDoor
open Go.ChangeShapes Go.WideShapes Go.RowKit Go.Deep
set_option linter.unusedVariables false
structure PhiD where
  dst:Int
  args:List Int
structure InsD where
  op:Int
  dst:Int
  args:List Int
  imm:Int
  fn:Int
structure TermD where
  kind:Int
  arg:Int
  to:List Int
structure BlkD where
  phis:List PhiD
  ins:List InsD
  term:TermD
structure FunD where
  params:Int
  result:Int
  regs:List Int
  blocks:List BlkD
instance:Inhabited PhiD:=⟨⟨0,[]⟩⟩
instance:Inhabited InsD:=⟨⟨0,0,[],0,0⟩⟩
instance:Inhabited TermD:=⟨⟨0,0,[]⟩⟩
instance:Inhabited BlkD:=⟨⟨[],[],default⟩⟩
instance:Inhabited FunD:=⟨⟨0,0,[],[]⟩⟩
def I64 (x:Int):Prop:=-9223372036854775808≤x∧x≤9223372036854775807
def Kept (w w':World):Prop:=∀ a v,w.cell? a=some v→w'.cell? a=some v
theorem Kept.refl (w:World):Kept w w:=fun _ _ h=>h
theorem Kept.trans {a b c:World} (h:Kept a b) (k:Kept b c):Kept a c:=fun x v hx=>k x v (h x v hx)
theorem q6 {w w':World} (h:Below w.heap.size w w'):Kept w w':=fun a v ha=>(h.cell (p:=a) (block_lt_of_cell ha)).trans ha
theorem kept_below {B:Nat} {w w':World} (h:Below B w w') (hB:w.heap.size≤B):Kept w w':=q6 (h.mono hB)
theorem kept_alloc (w:World) (o:Obj):Kept w (w.alloc o):=fun a v ha=>(World.cell?_alloc_lt _ _ _ (block_lt_of_cell ha)).trans ha
def SL {α:Type} (w:World) (sz:Nat) (R:World→Nat→Nat→α→Prop) (A:Option Addr) (c:Nat) (xs:List α):Prop :=
  xs.length≤c∧(c≤maxLen∧(A=none→c=0))∧(0<xs.length→∃ b o,A=some ⟨b,o,none⟩∧∀ i x,xs[i]?=some x→R w b (o+i * sz) x)
def VS {α:Type} (w:World) (sz:Nat) (R:World→Nat→Nat→α→Prop) (v:Value) (xs:List α):Prop:=∃ A c,v=.slice A xs.length c∧SL w sz R A c xs
def CS {α:Type} (w:World) (b o:Nat) (sz:Nat) (R:World→Nat→Nat→α→Prop) (xs:List α):Prop:=∃ A c,w.cell? ⟨b,o,none⟩=some (.slice A xs.length c)∧SL w sz R A c xs
def RInt (w:World) (b o:Nat) (x:Int):Prop:=w.cell? ⟨b,o,none⟩=some (.int .i64 x)∧I64 x
def RPhi (w:World) (b o:Nat) (p:PhiD):Prop:=RInt w b o p.dst∧CS w b (o+1) 1 RInt p.args
def RIns (w:World) (b o:Nat) (x:InsD):Prop:=RInt w b o x.op∧RInt w b (o+1) x.dst∧CS w b (o+2) 1 RInt x.args∧RInt w b (o+3) x.imm∧RInt w b (o+4) x.fn
def RBlk (w:World) (b o:Nat) (k:BlkD):Prop:=CS w b o 2 RPhi k.phis∧CS w b (o+1) 5 RIns k.ins∧RInt w b (o+2) k.term.kind∧RInt w b (o+3) k.term.arg∧CS w b (o+4) 1 RInt k.term.to
def RFun (w:World) (b o:Nat) (f:FunD):Prop:=RInt w b o f.params∧RInt w b (o+1) f.result∧CS w b (o+2) 1 RInt f.regs∧CS w b (o+3) 5 RBlk f.blocks
def VTerm (w:World) (v:Value) (t:TermD):Prop:=∃ A c,v=.agg #[.int .i64 t.kind,.int .i64 t.arg,.slice A t.to.length c]∧SL w 1 RInt A c t.to∧I64 t.kind∧I64 t.arg
def VPhi (w:World) (v:Value) (p:PhiD):Prop:=∃ A c,v=.agg #[.int .i64 p.dst,.slice A p.args.length c]∧SL w 1 RInt A c p.args∧I64 p.dst
def VIns (w:World) (v:Value) (x:InsD):Prop :=
  ∃ A c,v=.agg #[.int .i64 x.op,.int .i64 x.dst,.slice A x.args.length c,.int .i64 x.imm,.int .i64 x.fn]∧SL w 1 RInt A c x.args∧I64 x.op∧I64 x.dst∧I64 x.imm∧I64 x.fn
def VBlk (w:World) (v:Value) (k:BlkD):Prop :=
  ∃ Ap cp Ai ci At ct,v=.agg #[.slice Ap k.phis.length cp,.slice Ai k.ins.length ci,.int .i64 k.term.kind,.int .i64 k.term.arg,.slice At k.term.to.length ct] ∧
    SL w 2 RPhi Ap cp k.phis∧SL w 5 RIns Ai ci k.ins∧SL w 1 RInt At ct k.term.to∧I64 k.term.kind∧I64 k.term.arg
def VFun (w:World) (v:Value) (f:FunD):Prop :=
  ∃ Ar cr Ab cb,v=.agg #[.int .i64 f.params,.int .i64 f.result,.slice Ar f.regs.length cr,.slice Ab f.blocks.length cb]∧SL w 1 RInt Ar cr f.regs∧SL w 5 RBlk Ab cb f.blocks∧I64 f.params∧I64 f.result
def VMod (w:World) (v:Value) (m:List FunD):Prop:=∃ A c,v=.agg #[.slice A m.length c]∧SL w 4 RFun A c m
def SmallB (b:BlkD):Prop:=b.ins.length≤300∧b.phis.length≤300∧b.term.to.length≤70∧(∀ x∈b.ins,x.args.length≤300)∧(∀ x∈b.phis,x.args.length≤300)
def SmallF (f:FunD):Prop:=f.blocks.length≤70∧f.regs.length≤300∧f.params≤1000∧∀ b∈f.blocks,SmallB b
def SmallM (m:List FunD):Prop:=m.length≤40∧∀ f∈m,SmallF f
def Upto {α:Type} (p:α→Prop) (l:List α) (k:Nat):Prop:=∀ x∈l.take k,p x
theorem Upto.zero {α:Type} {p:α→Prop} {l:List α}:Upto p l 0:=fun x hx=>absurd hx (by simp)
theorem Upto.all {α:Type} {p:α→Prop} {l:List α} {k:Nat} (h:Upto p l k) (hk:l.length≤k):∀ x∈l,p x:=fun x hx=>h x (by rwa [List.take_of_length_le hk])
section
variable {w w':World} (h:Kept w w')
include h
theorem SL.keep {α:Type} {sz:Nat} {R:World→Nat→Nat→α→Prop} (hR:∀ b o x,R w b o x→R w' b o x) {A:Option Addr} {c:Nat} {xs:List α} (hv:SL w sz R A c xs):SL w' sz R A c xs:=by
  have _:=h;obtain ⟨h1,h2,h3⟩:=hv;exact ⟨h1,h2,fun hp=>by obtain ⟨b,o,e,hx⟩:=h3 hp;exact ⟨b,o,e,fun i x hi=>hR _ _ _ (hx i x hi)⟩⟩
theorem CS.keep {α:Type} {sz:Nat} {R:World→Nat→Nat→α→Prop} (hR:∀ b o x,R w b o x→R w' b o x) {b o:Nat} {xs:List α} (hv:CS w b o sz R xs):CS w' b o sz R xs:=by
  obtain ⟨A,c,e,h1⟩:=hv;exact ⟨A,c,h _ _ e,SL.keep h hR h1⟩
theorem RInt.keep (b o:Nat) (x:Int) (hv:RInt w b o x):RInt w' b o x:=⟨h _ _ hv.1,hv.2⟩
theorem RPhi.keep (b o:Nat) (x:PhiD) (hv:RPhi w b o x):RPhi w' b o x:=⟨RInt.keep h _ _ _ hv.1,CS.keep h (RInt.keep h) hv.2⟩
theorem RIns.keep (b o:Nat) (x:InsD) (hv:RIns w b o x):RIns w' b o x:=by
  obtain ⟨h1,h2,h3,h5,h6⟩:=hv;exact ⟨RInt.keep h _ _ _ h1,RInt.keep h _ _ _ h2,CS.keep h (RInt.keep h) h3,RInt.keep h _ _ _ h5,RInt.keep h _ _ _ h6⟩
theorem RBlk.keep (b o:Nat) (x:BlkD) (hv:RBlk w b o x):RBlk w' b o x:=by
  obtain ⟨h1,h2,h3,h4,h5⟩:=hv;exact ⟨CS.keep h (RPhi.keep h) h1,CS.keep h (RIns.keep h) h2,RInt.keep h _ _ _ h3,RInt.keep h _ _ _ h4,CS.keep h (RInt.keep h) h5⟩
theorem RFun.keep (b o:Nat) (x:FunD) (hv:RFun w b o x):RFun w' b o x:=by
  obtain ⟨h1,h2,h3,h4⟩:=hv;exact ⟨RInt.keep h _ _ _ h1,RInt.keep h _ _ _ h2,CS.keep h (RInt.keep h) h3,CS.keep h (RBlk.keep h) h4⟩
theorem SInts.keep {A:Option Addr} {c:Nat} {xs:List Int} (hv:SL w 1 RInt A c xs):SL w' 1 RInt A c xs:=SL.keep h (RInt.keep h) hv
theorem SPhis.keep {A:Option Addr} {c:Nat} {xs:List PhiD} (hv:SL w 2 RPhi A c xs):SL w' 2 RPhi A c xs:=SL.keep h (RPhi.keep h) hv
theorem SInss.keep {A:Option Addr} {c:Nat} {xs:List InsD} (hv:SL w 5 RIns A c xs):SL w' 5 RIns A c xs:=SL.keep h (RIns.keep h) hv
theorem SBlks.keep {A:Option Addr} {c:Nat} {xs:List BlkD} (hv:SL w 5 RBlk A c xs):SL w' 5 RBlk A c xs:=SL.keep h (RBlk.keep h) hv
theorem SFuns.keep {A:Option Addr} {c:Nat} {xs:List FunD} (hv:SL w 4 RFun A c xs):SL w' 4 RFun A c xs:=SL.keep h (RFun.keep h) hv
theorem VTerm.keep {v:Value} {t:TermD} (hv:VTerm w v t):VTerm w' v t:=by
  obtain ⟨A,c,rfl,g1,g2⟩:=hv;exact ⟨A,c,rfl,SInts.keep h g1,g2⟩
theorem VIns.keep {v:Value} {t:InsD} (hv:VIns w v t):VIns w' v t:=by
  obtain ⟨A,c,rfl,g1,g2⟩:=hv;exact ⟨A,c,rfl,SInts.keep h g1,g2⟩
theorem VFun.keep {v:Value} {t:FunD} (hv:VFun w v t):VFun w' v t:=by
  obtain ⟨_,_,_,_,rfl,g1,g2,g3⟩:=hv;exact ⟨_,_,_,_,rfl,SInts.keep h g1,SBlks.keep h g2,g3⟩
theorem VMod.keep {v:Value} {t:List FunD} (hv:VMod w v t):VMod w' v t:=by
  obtain ⟨_,_,rfl,g1⟩:=hv;exact ⟨_,_,rfl,SFuns.keep h g1⟩
end
section
variable {α:Type} {w:World} {sz c:Nat} {R:World→Nat→Nat→α→Prop} {A:Option Addr} {xs:List α}
theorem SL.len (h:SL w sz R A c xs):xs.length≤9223372036854775807:=by
  obtain ⟨h1,⟨h2,_⟩,_⟩:=h;unfold maxLen at h2;omega
theorem SL.at_ (h:SL w sz R A c xs) {k:Nat} (hk:k<xs.length):∃ b o x,A=some ⟨b,o,none⟩∧Hid (xs[k]?=some x)∧R w b (o+k * sz) x:=by
  obtain ⟨h1,h2,h3⟩:=h;obtain ⟨b,o,e,hx⟩:=h3 (by omega);exact ⟨b,o,xs[k],e,Lib.hid (List.getElem?_eq_getElem hk),hx k _ (List.getElem?_eq_getElem hk)⟩
end
theorem SL.int {w:World} {c:Nat} {A:Option Addr} {xs:List Int} (h:SL w 1 RInt A c xs) {k:Nat} (hk:k<xs.length) :
    ∃ b o x,A=some ⟨b,o,none⟩∧Hid (xs[k]?=some x)∧w.cell? ⟨b,o+k,none⟩=some (.int .i64 x)∧I64 x:=by
  obtain ⟨b,o,x,e,hx,h1,h2⟩:=h.at_ hk;rw [Nat.mul_one] at h1;exact ⟨b,o,x,e,hx,h1,h2⟩
theorem qD {α:Type} {l:List α} {j:Nat} {x:α} (h:l[j]?=some x):l.take (j+1)=l.take j++[x]:=by
  obtain ⟨hj,rfl⟩:=List.getElem?_eq_some_iff.1 h;exact List.take_succ_eq_append_getElem hj
theorem Upto.succ {α:Type} {p:α→Prop} {l:List α} {k:Nat} {y:α} (h:Upto p l k) (hy:l[k]?=some y) (hp:p y):Upto p l (k+1):=by
  intro x hx;rw [qD hy] at hx;rcases List.mem_append.1 hx with hx | hx
  · exact h x hx
  · rw [List.mem_singleton.1 hx];exact hp
theorem named (w:World) (cs:Array Value) (t:TypeId):∃ w1,w1=w.alloc (.cells cs t)∧w1.heap.size=w.heap.size+1∧Kept w w1∧Below w.heap.size w w1 ∧
    (∀ i u,cs[i]?=some u→w1.cell? ⟨w.heap.size,i,none⟩=some u)∧(∀ i,w1.frozen? ⟨w.heap.size,i,none⟩=false):=by
  refine ⟨_,rfl,by simp,kept_alloc _ _,(Below.refl _ _).alloc (Nat.le_refl _) _,fun i u hu=>(World.cell?_alloc_at (w:=w) cs t w.heap.size i rfl).trans hu,fun i=>by simp⟩
theorem SL.one {α:Type} {w:World} {sz b o:Nat} {R:World→Nat→Nat→α→Prop} {x:α} (h:R w b o x):SL w sz R (some ⟨b,o,none⟩) 1 [x]:=by
  refine ⟨Nat.le_refl _,⟨by unfold maxLen;omega,fun e=>by cases e⟩,fun _=>⟨b,o,rfl,fun i y hi=>?_⟩⟩
  match i,hi with
  | 0,hi=>obtain rfl:=Option.some.inj hi;simpa using h
  | i+1,hi=>simp at hi
theorem news_one (w:World) (v:Value) (t:TypeId) {g:Nat} (hg:g=w.heap.size):∀ j u,[v][j]?=some u→(w.alloc (.cells #[v] t)).cell? ⟨g,j,none⟩=some u:=by
  intro j u hu;subst hg;rcases j with _ | j
  · obtain rfl:=Option.some.inj hu;exact (World.cell?_alloc_at (w:=w) #[v] t w.heap.size 0 rfl).trans rfl
  · exact absurd hu (by simp)
theorem qi (w:World) (v:Value) (t:TypeId) {g:Nat} (hg:g=w.heap.size):∀ j u,[v][j]?=some u→(w.alloc (.cells #[v] t)).cell? ((⟨g,0,none⟩:Addr).add j)=some u:=fun j u hu=>by
  have h:=news_one w v t hg j u hu
  rwa [show (⟨g,0,none⟩:Addr).add j=⟨g,j,none⟩ by unfold Addr.add;split <;> simp_all]
theorem qx {w:World} {base:Nat} {e:TypeId} {v:Value} {xs:List Int} (h:w.ownsRow base e 1 v xs.length (xs.map (Value.int .i64))) (hx:∀ x∈xs,I64 x):VS w 1 RInt v xs:=by
  rcases h.2 with ⟨rfl,h0⟩ | ⟨g,c,cur,rfl,hb,hh,hn,hc,hsz,ht⟩
  · have:xs=[]:=List.length_eq_zero_iff.1 h0;subst this;exact ⟨none,0,rfl,Nat.le_refl _,⟨by unfold maxLen;omega,fun _=>rfl⟩,fun hp=>absurd hp (by simp)⟩
  · refine ⟨some ⟨g,0,none⟩,c,rfl,hn,⟨hc,fun e=>by cases e⟩,fun _=>⟨g,0,rfl,fun i x hi=>⟨?_,hx x (List.mem_of_getElem? hi)⟩⟩⟩;(have:=h.cells (g:=g) rfl i (.int .i64 x) (by rw [List.getElem?_map,hi];rfl));rw [Nat.mul_one]
    rwa [show (⟨g,0,none⟩:Addr).add i=⟨g,0+i,none⟩ by unfold Addr.add;split <;> simp_all] at this
section
variable {H:Type} {enc:TypeId × Value→H} {P:Program} {w:World} {base:Nat} {spare:Nat→Bool} {held:Bool}
def Opens {α:Type} (enc:TypeId × Value→H) (P:Program) (w:World) (base:Nat) (spare:Nat→Bool) (held:Bool) (e:TypeId) (sz:Nat) (R:World→Nat→Nat→α→Prop):Prop :=
  ∀ n b o cs y,cs.length=sz→(∀ i,i<sz→w.cell? ⟨b,o+i,none⟩=cs[i]?)→DataW.trod enc P w base spare held n e cs=some y→∃ x,R w b o x
theorem add_plain' (b o i:Nat):(⟨b,o,none⟩:Addr).add i=⟨b,o+i,none⟩:=by unfold Addr.add;split <;> simp_all
theorem open_vs {α:Type} [Inhabited α] {t e:TypeId} {fuel:Nat} {v:Value} {y:DataW H × List MemPlace} {sz:Nat} {R:World→Nat→Nat→α→Prop}
    (ht:P.underlying t=some (.slice e)) (hsz:P.cellsOf e=sz) (hpos:0<sz) (hR:Opens enc P w base spare held e sz R)
    (h:DataW.trod enc P w base spare held fuel t [v]=some y):∃ xs,VS w sz R v xs:=by
  rcases open_slice ht h with ⟨hv,_⟩ | ⟨a,len,cap,m,n,D,Pl,hv,_,hl,hm,hmm,_,hx⟩
  · (obtain rfl:v=.slice none 0 0:=by simpa using hv);exact ⟨[],none,0,rfl,Nat.le_refl _,⟨by unfold maxLen;omega,fun _=>rfl⟩,fun hp=>absurd hp (by simp)⟩
  · (obtain rfl:v=.slice (some a) len cap:=by simpa using hv);rw [hsz] at hx
    by_cases h0:len=0
    · subst h0;exact ⟨[],some a,cap,rfl,hl,⟨hm,fun e=>by cases e⟩,fun hp=>absurd hp (by simp)⟩
    · (have hml:len≤m:=by rw [hmm];split <;> omega);obtain ⟨b,o,spot⟩:=a;have hspot:spot=none:=by
        obtain ⟨cs,hc,_⟩:=hx 0 (by omega);obtain ⟨_,hlen,hat⟩:=World.cells?_some hc;have h1:=hat 0 hpos;rw [List.getElem?_eq_getElem (by omega)] at h1;have h2:=World.cell?_spot h1;simpa [Addr.add] using h2
      subst hspot
      obtain ⟨f,hf⟩:=choose_lt (α:=α) (n:=len) (p:=fun i x=>R w b (o+i * sz) x) (fun i hi=>by
        obtain ⟨cs,hc,hd⟩:=hx i (by omega);obtain ⟨_,hlen,hat⟩:=World.cells?_some hc
        exact hR n b (o+i * sz) cs _ hlen (fun j hj=>by have:=hat j hj;rwa [add_plain',add_plain'] at this) hd)
      refine ⟨(List.range len).map f,some ⟨b,o,none⟩,cap,by simp,by simpa using hl,⟨hm,fun e=>by cases e⟩,fun _=>⟨b,o,rfl,fun i x hi=>?_⟩⟩;obtain ⟨hi',rfl⟩:=List.getElem?_eq_some_iff.1 hi;simp only [List.getElem_map,List.getElem_range];exact hf i (by simpa using hi')
theorem wf_i64 {x:Int} (h:(Lit.int .i64 x).wf=true):I64 x:=by
  unfold I64;have h':=bounds_i64 h;exact h'
end
end Go.Proofs.YtfoggldjjnabcaaGreatDoor

namespace Go.Proofs.YtfoggldjjnabcaaGreatDoor
open Go.ChangeShapes Go.WideShapes Go.RowKit Go.Deep
set_option linter.unusedVariables false
theorem Tryz.info3:(Tryz.prog.info? 3).map (fun i=>(i.zero,i.size,i.bytes))=some (some (.int .i64 0),1,8):=by kernel_rfl
def hasTo (block:Int) (to:List Int):Bool:=to.any (· == block)
def aheadK:List BlkD→Nat→Int→List Int
  | [],_,_=>[]
  | b::r,i,block=>(if hasTo block b.term.to then [(i:Int)] else [])++aheadK r (i+1) block
def qG (bs:List BlkD) (block:Int):List Int:=aheadK bs 0 block
theorem aheadK_snoc (bs:List BlkD) (i:Nat) (block:Int) (x:BlkD):aheadK (bs++[x]) i block=aheadK bs i block++(if hasTo block x.term.to then [((i+bs.length:Nat):Int)] else []):=by
  induction bs generalizing i with
  | nil=>simp [aheadK]
  | cons b r ih=>simp only [List.cons_append,aheadK,ih,List.append_assoc,List.length_cons];congr 3;simp;omega
theorem aheadL_step {bs:List BlkD} {k:Nat} {x:BlkD} (block:Int) (h:bs[k]?=some x):qG (bs.take (k+1)) block=qG (bs.take k) block++(if hasTo block x.term.to then [(k:Int)] else []):=by
  have hk:k<bs.length:=(List.getElem?_eq_some_iff.1 h).1;rw [qG,qD h,aheadK_snoc,List.length_take,Nat.min_eq_left (by omega),Nat.zero_add];rfl
theorem aheadK_len (bs:List BlkD) (i:Nat) (block:Int):(aheadK bs i block).length≤bs.length:=by
  induction bs generalizing i with
  | nil=>simp [aheadK]
  | cons b r ih=>simp only [aheadK,List.length_append,List.length_cons];have:=ih (i+1);split <;> simp <;> omega
theorem aheadK_mem (bs:List BlkD) (i:Nat) (block:Int):∀ x∈aheadK bs i block,(i:Int)≤x∧x<((i+bs.length:Nat):Int):=by
  induction bs generalizing i with
  | nil=>simp [aheadK]
  | cons b r ih =>
    intro x hx;simp only [aheadK,List.mem_append] at hx;rcases hx with hx | hx
    · split at hx <;> simp at hx;subst hx;simp;omega
    · have:=ih (i+1) x hx;simp at this ⊢;omega
theorem aheadL_i64 (bs:List BlkD) (block:Int) (h:bs.length≤9223372036854775807):∀ x∈qG bs block,I64 x:=by
  intro x hx;have:=aheadK_mem bs 0 block x hx;simp at this;unfold I64;omega
theorem hasTo_step (block:Int) {t:List Int} {j:Nat} {x:Int} (h:t[j]?=some x):hasTo block (t.take (j+1))=(hasTo block (t.take j) || (x == block)):=by
  rw [qD h];simp [hasTo]
def RIntB (B:Nat→Prop) (w:World) (b o:Nat) (x:Int):Prop:=B b∧RInt w b o x
def RPhiB (B:Nat→Prop) (w:World) (b o:Nat) (p:PhiD):Prop:=B b∧RInt w b o p.dst∧CS w b (o+1) 1 (RIntB B) p.args
def RInsB (B:Nat→Prop) (w:World) (b o:Nat) (x:InsD):Prop :=
  B b∧RInt w b o x.op∧RInt w b (o+1) x.dst∧CS w b (o+2) 1 (RIntB B) x.args∧RInt w b (o+3) x.imm∧RInt w b (o+4) x.fn
def RBlkB (B:Nat→Prop) (w:World) (b o:Nat) (k:BlkD):Prop :=
  B b∧CS w b o 2 (RPhiB B) k.phis∧CS w b (o+1) 5 (RInsB B) k.ins∧RInt w b (o+2) k.term.kind∧RInt w b (o+3) k.term.arg∧CS w b (o+4) 1 (RIntB B) k.term.to
def RFunB (B:Nat→Prop) (w:World) (b o:Nat) (f:FunD):Prop:=B b∧RInt w b o f.params∧RInt w b (o+1) f.result∧CS w b (o+2) 1 (RIntB B) f.regs∧CS w b (o+3) 5 (RBlkB B) f.blocks
def KeptB (B:Nat→Prop) (w w':World):Prop:=∀ a v,B a.block→w.cell? a=some v→w'.cell? a=some v
theorem KeptB.trans {B:Nat→Prop} {a b c:World} (h:KeptB B a b) (k:KeptB B b c):KeptB B a c:=fun x v hB hx=>k x v hB (h x v hB hx)
theorem KeptB.of {B:Nat→Prop} {w w':World} (h:Kept w w'):KeptB B w w':=fun a v _ ha=>h a v ha
theorem KeptB.mono {B B':Nat→Prop} {w w':World} (h:KeptB B w w') (hB:∀ b,B' b→B b):KeptB B' w w':=fun a v hb ha=>h a v (hB _ hb) ha
theorem SL.imp {α:Type} {w w':World} {sz:Nat} {R R':World→Nat→Nat→α→Prop} (hR:∀ b o x,R w b o x→R' w' b o x) {A:Option Addr} {c:Nat} {xs:List α} (hv:SL w sz R A c xs):SL w' sz R' A c xs:=by
  obtain ⟨h1,h2,h3⟩:=hv;exact ⟨h1,h2,fun hp=>by obtain ⟨b,o,e,hx⟩:=h3 hp;exact ⟨b,o,e,fun i x hi=>hR _ _ _ (hx i x hi)⟩⟩
section
variable {B B':Nat→Prop} {w w':World} (h:KeptB B w w') (hB:∀ b,B b→B' b)
include h hB
theorem RIntB.go (b o:Nat) (x:Int) (hv:RIntB B w b o x):RIntB B' w' b o x:=⟨hB _ hv.1,h _ _ hv.1 hv.2.1,hv.2.2⟩
theorem SIntsB.go {A:Option Addr} {c:Nat} {xs:List Int} (hv:SL w 1 (RIntB B) A c xs):SL w' 1 (RIntB B') A c xs:=SL.imp (RIntB.go h hB) hv
end
section
variable {B:Nat→Prop} {w:World}
theorem CSB.plain {α:Type} {sz:Nat} {R R':World→Nat→Nat→α→Prop} (hR:∀ b o x,R w b o x→R' w b o x) {b o:Nat} {xs:List α} (hv:CS w b o sz R xs):CS w b o sz R' xs:=by
  obtain ⟨A,c,e,h1⟩:=hv;exact ⟨A,c,e,SL.imp hR h1⟩
theorem RIntB.plain (b o:Nat) (x:Int) (hv:RIntB B w b o x):RInt w b o x:=hv.2
theorem RPhiB.plain (b o:Nat) (x:PhiD) (hv:RPhiB B w b o x):RPhi w b o x:=⟨hv.2.1,CSB.plain RIntB.plain hv.2.2⟩
theorem RInsB.plain (b o:Nat) (x:InsD) (hv:RInsB B w b o x):RIns w b o x:=⟨hv.2.1,hv.2.2.1,CSB.plain RIntB.plain hv.2.2.2.1,hv.2.2.2.2.1,hv.2.2.2.2.2⟩
theorem RBlkB.plain (b o:Nat) (x:BlkD) (hv:RBlkB B w b o x):RBlk w b o x :=
  ⟨CSB.plain RPhiB.plain hv.2.1,CSB.plain RInsB.plain hv.2.2.1,hv.2.2.2.1,hv.2.2.2.2.1,CSB.plain RIntB.plain hv.2.2.2.2.2⟩
theorem RFunB.plain (b o:Nat) (x:FunD) (hv:RFunB B w b o x):RFun w b o x:=⟨hv.2.1,hv.2.2.1,CSB.plain RIntB.plain hv.2.2.2.1,CSB.plain RBlkB.plain hv.2.2.2.2⟩
end
section
variable {B:Nat→Prop} {w:World}
theorem CSB.lt {α:Type} {sz:Nat} {R R':World→Nat→Nat→α→Prop} (hR:∀ b o x,R w b o x→R' w b o x) {b o:Nat} {xs:List α} (hv:CS w b o sz R xs):CS w b o sz R' xs:=CSB.plain hR hv
theorem RIntB.lt (b o:Nat) (x:Int) (hv:RIntB B w b o x):RIntB (fun b=>B b∧b<w.heap.size) w b o x:=⟨⟨hv.1,block_lt_of_cell hv.2.1⟩,hv.2⟩
theorem RPhiB.lt (b o:Nat) (x:PhiD) (hv:RPhiB B w b o x):RPhiB (fun b=>B b∧b<w.heap.size) w b o x:=⟨⟨hv.1,block_lt_of_cell hv.2.1.1⟩,hv.2.1,CSB.plain RIntB.lt hv.2.2⟩
theorem RInsB.lt (b o:Nat) (x:InsD) (hv:RInsB B w b o x):RInsB (fun b=>B b∧b<w.heap.size) w b o x:=⟨⟨hv.1,block_lt_of_cell hv.2.1.1⟩,hv.2.1,hv.2.2.1,CSB.plain RIntB.lt hv.2.2.2.1,hv.2.2.2.2⟩
theorem RBlkB.lt (b o:Nat) (x:BlkD) (hv:RBlkB B w b o x):RBlkB (fun b=>B b∧b<w.heap.size) w b o x :=
  ⟨⟨hv.1,block_lt_of_cell hv.2.2.2.1.1⟩,CSB.plain RPhiB.lt hv.2.1,CSB.plain RInsB.lt hv.2.2.1,hv.2.2.2.1,hv.2.2.2.2.1,CSB.plain RIntB.lt hv.2.2.2.2.2⟩
theorem SIntsB.lt {A:Option Addr} {c:Nat} {xs:List Int} (hv:SL w 1 (RIntB B) A c xs):SL w 1 (RIntB (fun b=>B b∧b<w.heap.size)) A c xs:=SL.imp RIntB.lt hv
theorem SPhisB.lt {A:Option Addr} {c:Nat} {xs:List PhiD} (hv:SL w 2 (RPhiB B) A c xs):SL w 2 (RPhiB (fun b=>B b∧b<w.heap.size)) A c xs:=SL.imp RPhiB.lt hv
theorem SInssB.lt {A:Option Addr} {c:Nat} {xs:List InsD} (hv:SL w 5 (RInsB B) A c xs):SL w 5 (RInsB (fun b=>B b∧b<w.heap.size)) A c xs:=SL.imp RInsB.lt hv
theorem SBlksB.lt {A:Option Addr} {c:Nat} {xs:List BlkD} (hv:SL w 5 (RBlkB B) A c xs):SL w 5 (RBlkB (fun b=>B b∧b<w.heap.size)) A c xs:=SL.imp RBlkB.lt hv
end
structure BB (n g:Nat) (w w':World):Prop where
  os:w'.os=w.os
  tape:w'.tape=w.tape
  output:w'.output=w.output
  size:w.heap.size≤w'.heap.size
  block:∀ k,k<n→k≠g→w'.heap[k]?=w.heap[k]?
theorem BB.refl (n g:Nat) (w:World):BB n g w w:=⟨rfl,rfl,rfl,Nat.le_refl _,fun _ _ _=>rfl⟩
theorem BB.trans {n g:Nat} {a b c:World} (h:BB n g a b) (k:BB n g b c):BB n g a c :=
  ⟨k.os.trans h.os,k.tape.trans h.tape,k.output.trans h.output,Nat.le_trans h.size k.size,fun i hi hg=>(k.block i hi hg).trans (h.block i hi hg)⟩
theorem BB.of_below {n m g:Nat} {w w':World} (h:Below m w w') (hn:n≤m):BB n g w w':=⟨h.os,h.tape,h.output,h.size,fun k hk _=>h.block k (by omega)⟩
theorem BB.below {n m g:Nat} {w w':World} (h:BB n g w w') (hn:m≤n) (hg:m≤g):Below m w w':=⟨h.os,h.tape,h.output,h.size,fun k hk=>h.block k (by omega) (by omega)⟩
theorem BB.mono {n m g:Nat} {w w':World} (h:BB n g w w') (hn:m≤n):BB m g w w':=⟨h.os,h.tape,h.output,h.size,fun k hk hg=>h.block k (by omega) hg⟩
theorem BB.drew {n g:Nat} {a w:World} (h:BB n g a w):BB n g a w.drew:=⟨h.os,h.tape,h.output,h.size,h.block⟩
theorem BB.alloc {n g:Nat} {a w:World} (h:BB n g a w) (hn:n≤w.heap.size) (o:Obj):BB n g a (w.alloc o):=h.trans (BB.of_below ((Below.refl _ w).alloc (Nat.le_refl _) o) hn)
theorem BB.setCell {n g:Nat} {a w:World} (h:BB n g a w) {p:Addr} (hp:p.block=g∨n≤p.block) (u:Value):BB n g a (w.setCell p u) :=
  h.trans ⟨rfl,rfl,rfl,by simp [World.setCell],fun k hk hg=>Below.heap_setCell _ _ _ _ (by omega)⟩
theorem BB.grown {n g:Nat} {a w w':World} {row:Option Nat} (h:BB n g a w) (hg:w.grownBy w' row) (hn:n≤w.heap.size) (hr:∀ k,row=some k→k=g∨n≤k):BB n g a w' :=
  h.trans ⟨hg.os,hg.tape,hg.output,hg.size,fun k hk hkg=>hg.block k (by omega) (fun e=>by have:=hr k e.symm;omega)⟩
theorem BB.kept {n g:Nat} {w w':World} (h:BB n g w w'):KeptB (fun b=>b<n∧b≠g) w w':=fun a v hb ha=>(World.cell?_of_block (h.block a.block hb.1 hb.2)).trans ha
def CPhi (B:Nat→Prop) (w:World) (p:PhiD) (cs:List Value):Prop:=∃ A c,cs=[.int .i64 p.dst,.slice A p.args.length c]∧SL w 1 (RIntB B) A c p.args∧I64 p.dst
def CIns (B:Nat→Prop) (w:World) (x:InsD) (cs:List Value):Prop :=
  ∃ A c,cs=[.int .i64 x.op,.int .i64 x.dst,.slice A x.args.length c,.int .i64 x.imm,.int .i64 x.fn]∧SL w 1 (RIntB B) A c x.args∧I64 x.op∧I64 x.dst∧I64 x.imm∧I64 x.fn
def CBlk (B:Nat→Prop) (w:World) (k:BlkD) (cs:List Value):Prop :=
  ∃ Ap cp Ai ci At ct,cs=[.slice Ap k.phis.length cp,.slice Ai k.ins.length ci,.int .i64 k.term.kind,.int .i64 k.term.arg,.slice At k.term.to.length ct] ∧
    SL w 2 (RPhiB B) Ap cp k.phis∧SL w 5 (RInsB B) Ai ci k.ins∧SL w 1 (RIntB B) At ct k.term.to∧I64 k.term.kind∧I64 k.term.arg
def CFun (B:Nat→Prop) (w:World) (f:FunD) (cs:List Value):Prop :=
  ∃ Ar cr Ab cb,cs=[.int .i64 f.params,.int .i64 f.result,.slice Ar f.regs.length cr,.slice Ab f.blocks.length cb]∧SL w 1 (RIntB B) Ar cr f.regs∧SL w 5 (RBlkB B) Ab cb f.blocks∧I64 f.params∧I64 f.result
section
variable {B B':Nat→Prop} {w w':World} (h:KeptB B w w') (hB:∀ b,B b→B' b)
include h hB
end
section
variable {B:Nat→Prop} {w:World}
theorem CPhi.lt {x:PhiD} {cs:List Value} (hv:CPhi B w x cs):CPhi (fun b=>B b∧b<w.heap.size) w x cs:=by
  obtain ⟨A,c,e,g1,g2⟩:=hv;exact ⟨A,c,e,SIntsB.lt g1,g2⟩
theorem CIns.lt {x:InsD} {cs:List Value} (hv:CIns B w x cs):CIns (fun b=>B b∧b<w.heap.size) w x cs:=by
  obtain ⟨A,c,e,g1,g2⟩:=hv;exact ⟨A,c,e,SIntsB.lt g1,g2⟩
theorem CBlk.lt {x:BlkD} {cs:List Value} (hv:CBlk B w x cs):CBlk (fun b=>B b∧b<w.heap.size) w x cs:=by
  obtain ⟨_,_,_,_,_,_,e,g1,g2,g3,g4⟩:=hv;exact ⟨_,_,_,_,_,_,e,SPhisB.lt g1,SInssB.lt g2,SIntsB.lt g3,g4⟩
theorem CFun.lt {x:FunD} {cs:List Value} (hv:CFun B w x cs):CFun (fun b=>B b∧b<w.heap.size) w x cs:=by
  obtain ⟨_,_,_,_,e,g1,g2,g3⟩:=hv;exact ⟨_,_,_,_,e,SIntsB.lt g1,SBlksB.lt g2,g3⟩
end
def Rows {α:Type} (sz:Nat) (F:α→List Value→Prop):List α→List Value→Prop
  | [],cs=>cs=[]
  | x::l,cs=>∃ c r,cs=c++r∧c.length=sz∧F x c∧Rows sz F l r
section
variable {α:Type} {sz:Nat} {F F':α→List Value→Prop}
theorem Rows.imp (h:∀ x c,F x c→F' x c) {l:List α}:∀ {cs:List Value},Rows sz F l cs→Rows sz F' l cs:=by
  induction l with
  | nil=>exact fun h=>h
  | cons x l ih=>rintro cs ⟨c,r,e,h1,h2,h3⟩;exact ⟨c,r,e,h1,h x c h2,ih h3⟩
theorem Rows.at_ {l:List α}:∀ {cs:List Value} (h:Rows sz F l cs) {i:Nat} {x:α},l[i]?=some x→∃ c,c.length=sz∧F x c∧∀ j,j<sz→cs[i * sz+j]?=c[j]?:=by
  induction l with
  | nil=>intro cs h i x hi;simp at hi
  | cons y l ih =>
    rintro cs ⟨c,r,rfl,h1,h2,h3⟩ i x hi;cases i with
    | zero=>obtain rfl:=Option.some.inj hi;exact ⟨c,h1,h2,fun j hj=>by rw [Nat.zero_mul,Nat.zero_add,List.getElem?_append_left (by omega)]⟩
    | succ i =>
      obtain ⟨d,g1,g2,g3⟩:=ih h3 (i:=i) hi;refine ⟨d,g1,g2,fun j hj=>?_⟩;(rw [List.getElem?_append_right (by rw [h1,Nat.succ_mul];omega),h1,show (i+1) * sz+j - sz=i * sz+j by rw [Nat.succ_mul];omega]);exact g3 j hj
theorem Rows.reads {w:World} {base:Nat} {e:TypeId} {u:Value} {l:List α} {cs:List Value} {R:World→Nat→Nat→α→Prop} (h:Rows sz F l cs) (hown:w.ownsRow base e sz u l.length cs)
    (hR:∀ g o x c,u.ownBlock=some g→base≤g→F x c→c.length=sz→(∀ j v,c[j]?=some v→w.cell? ⟨g,o+j,none⟩=some v)→R w g o x):VS w sz R u l:=by
  rcases hown.2 with ⟨rfl,h0⟩ | ⟨g,c,cur,rfl,hb,hh,hn,hc,hsz,ht⟩
  · have:l=[]:=List.length_eq_zero_iff.1 h0;subst this;exact ⟨none,0,rfl,Nat.le_refl _,⟨by unfold maxLen;omega,fun _=>rfl⟩,fun hp=>absurd hp (by simp)⟩
  · refine ⟨some ⟨g,0,none⟩,c,rfl,hn,⟨hc,fun e=>by cases e⟩,fun _=>⟨g,0,rfl,fun i x hi=>?_⟩⟩;obtain ⟨d,g1,g2,g3⟩:=h.at_ hi;refine hR g _ x d rfl hb g2 g1 (fun j v hj=>?_);(have hjs:j<sz:=by rw [← g1];exact (List.getElem?_eq_some_iff.1 hj).1);have:=hown.cells (g:=g) rfl (i * sz+j) v ((g3 j hjs).trans hj)
    rwa [show (⟨g,0,none⟩:Addr).add (i * sz+j)=⟨g,0+i * sz+j,none⟩ by unfold Addr.add;split <;> simp_all] at this
end
theorem CPhi.reads {B:Nat→Prop} {w:World} {g o:Nat} {x:PhiD} {c:List Value} (hg:B g) (h:CPhi B w x c) (hc:∀ j v,c[j]?=some v→w.cell? ⟨g,o+j,none⟩=some v):RPhiB B w g o x:=by
  obtain ⟨A,c',rfl,g1,g2⟩:=h;exact ⟨hg,⟨hc 0 _ rfl,g2⟩,A,c',hc 1 _ rfl,g1⟩
theorem CIns.reads {B:Nat→Prop} {w:World} {g o:Nat} {x:InsD} {c:List Value} (hg:B g) (h:CIns B w x c) (hc:∀ j v,c[j]?=some v→w.cell? ⟨g,o+j,none⟩=some v):RInsB B w g o x:=by
  obtain ⟨A,c',rfl,g1,g2,g3,g4,g5⟩:=h;exact ⟨hg,⟨hc 0 _ rfl,g2⟩,⟨hc 1 _ rfl,g3⟩,⟨A,c',hc 2 _ rfl,g1⟩,⟨hc 3 _ rfl,g4⟩,⟨hc 4 _ rfl,g5⟩⟩
theorem CBlk.reads {B:Nat→Prop} {w:World} {g o:Nat} {x:BlkD} {c:List Value} (hg:B g) (h:CBlk B w x c) (hc:∀ j v,c[j]?=some v→w.cell? ⟨g,o+j,none⟩=some v):RBlkB B w g o x:=by
  obtain ⟨Ap,cp,Ai,ci,At,ct,rfl,g1,g2,g3,g4,g5⟩:=h;exact ⟨hg,⟨Ap,cp,hc 0 _ rfl,g1⟩,⟨Ai,ci,hc 1 _ rfl,g2⟩,⟨hc 2 _ rfl,g4⟩,⟨hc 3 _ rfl,g5⟩,⟨At,ct,hc 4 _ rfl,g3⟩⟩
theorem CFun.reads {B:Nat→Prop} {w:World} {g o:Nat} {x:FunD} {c:List Value} (hg:B g) (h:CFun B w x c) (hc:∀ j v,c[j]?=some v→w.cell? ⟨g,o+j,none⟩=some v):RFunB B w g o x:=by
  obtain ⟨Ar,cr,Ab,cb,rfl,g1,g2,g3,g4⟩:=h;exact ⟨hg,⟨hc 0 _ rfl,g3⟩,⟨hc 1 _ rfl,g4⟩,⟨Ar,cr,hc 2 _ rfl,g1⟩,⟨Ab,cb,hc 3 _ rfl,g2⟩⟩
theorem q7 {w:World} {g:Nat} {cs:Array Value} {t:TypeId} (h:w.heap[g]?=some (.cells cs t (0,0))) (i:Nat):w.cell? ⟨g,i,none⟩=cs[i]?:=cell_of_row w g i cs t (0,0) h
theorem qV {w:World} {g:Nat} {cs:Array Value} {t:TypeId} (h:w.heap[g]?=some (.cells cs t (0,0))) (i:Nat):w.frozen? ⟨g,i,none⟩=false:=by simp [World.frozen?,h]
theorem qF {w:World} {g i:Nat} {cs:Array Value} {t:TypeId} (v:Value) (h:w.heap[g]?=some (.cells cs t (0,0))):(w.setCell ⟨g,i,none⟩ v).heap[g]?=some (.cells (cs.setIfInBounds i v) t (0,0)):=by
  simp [World.setCell,Array.getElem?_modify,h]
theorem qO {w:World} {g:Nat} {o:Obj} (h:w.heap[g]?=some o):g<w.heap.size:=(Array.getElem?_eq_some_iff.1 h).1
theorem own_base {w:World} {base base' n:Nat} {e:TypeId} {size:Nat} {v:Value} {xs:List Value} (h:w.ownsRow base e size v n xs) (hb:base'≤base):w.ownsRow base' e size v n xs:=by
  obtain ⟨h1,h2⟩:=h;refine ⟨h1,?_⟩;rcases h2 with h2 | ⟨g,c,cur,rfl,h3,h4⟩
  · exact .inl h2
  · exact .inr ⟨g,c,cur,rfl,by omega,h4⟩
end Go.Proofs.YtfoggldjjnabcaaGreatDoor

namespace Go.Proofs.YtfoggldjjnabcaaGreatDoor
open Go.ChangeShapes Go.WideShapes Go.RowKit Go.Deep
set_option linter.unusedVariables false
structure FrX (X:Nat→Prop) (w w':World):Prop where
  os:w'.os=w.os
  tape:w'.tape=w.tape
  output:w'.output=w.output
  size:w.heap.size≤w'.heap.size
  block:∀ k,k<w.heap.size→¬ X k→w'.heap[k]?=w.heap[k]?
theorem FrX.refl (X:Nat→Prop) (w:World):FrX X w w:=⟨rfl,rfl,rfl,Nat.le_refl _,fun _ _ _=>rfl⟩
theorem FrX.trans {X:Nat→Prop} {a b c:World} (h:FrX X a b) (k:FrX X b c):FrX X a c :=
  ⟨k.os.trans h.os,k.tape.trans h.tape,k.output.trans h.output,Nat.le_trans h.size k.size,fun i hi hx=>(k.block i (Nat.lt_of_lt_of_le hi h.size) hx).trans (h.block i hi hx)⟩
theorem FrX.of_below {X:Nat→Prop} {w w':World} (h:Below w.heap.size w w'):FrX X w w':=⟨h.os,h.tape,h.output,h.size,fun k hk _=>h.block k hk⟩
theorem FrX.mono {X Y:Nat→Prop} {w w':World} (h:FrX X w w') (hy:∀ k,k<w.heap.size→X k→Y k):FrX Y w w':=⟨h.os,h.tape,h.output,h.size,fun k hk hx=>h.block k hk fun hxk=>hx (hy k hk hxk)⟩
theorem FrX.alloc {X:Nat→Prop} {a w:World} (h:FrX X a w) (o:Obj):FrX X a (w.alloc o):=h.trans (.of_below ((Below.refl _ _).alloc (Nat.le_refl _) o))
theorem FrX.drew {X:Nat→Prop} {a w:World} (h:FrX X a w):FrX X a w.drew:=⟨h.os,h.tape,h.output,h.size,h.block⟩
theorem FrX.setCell {X:Nat→Prop} {a w:World} (h:FrX X a w) {p:Addr} (hp:X p.block∨a.heap.size≤p.block) (u:Value):FrX X a (w.setCell p u) :=
  ⟨h.os,h.tape,h.output,by have:=h.size;simpa using this,fun k hk hx=>(Below.heap_setCell _ _ _ _ (fun e=>hp.elim (fun hp=>by exact hx (e ▸ hp)) (fun hp=>by omega))).trans (h.block k hk hx)⟩
theorem FrX.grown {X:Nat→Prop} {a w w':World} {row:Option Nat} (h:FrX X a w) (hg:w.grownBy w' row) (hr:∀ k,row=some k→X k∨a.heap.size≤k):FrX X a w' :=
  ⟨hg.os.trans h.os,hg.tape.trans h.tape,hg.output.trans h.output,Nat.le_trans h.size hg.size,fun k hk hx=>(hg.block k (Nat.lt_of_lt_of_le hk h.size) (fun e=>by
    rcases hr k e.symm with h2 | h2
    · exact hx h2
    · omega)).trans (h.block k hk hx)⟩
theorem FrX.below {X:Nat→Prop} {B:Nat} {w w':World} (h:FrX X w w') (hB:B≤w.heap.size) (hx:∀ k,X k→B≤k):Below B w w':=⟨h.os,h.tape,h.output,h.size,fun k hk=>h.block k (by omega) (fun hk2=>by have:=hx k hk2;omega)⟩
theorem FrX.box {X:Nat→Prop} {w w':World} (h:FrX X w w') {N:Nat} {o:Obj} (hb:w.heap[N]?=some o) (hx:¬ X N):w'.heap[N]?=some o:=(h.block N (Array.getElem?_eq_some_iff.1 hb).1 hx).trans hb
structure Mk where
  r:Int
  b:Int
  a:Int
def Mk.v (e:Mk):Value:=.agg #[.int .i64 e.b,.int .i64 e.a]
def parN (f:FunD):Nat:=min f.params.toNat f.regs.length
def mkPar (n:Nat):List Mk:=(List.range n).map fun r:Nat=>⟨(r:Int),-1,-2⟩
def mkPh (i:Nat) (l:List PhiD):List Mk:=l.map fun p=>⟨p.dst,(i:Int),-1⟩
def mkIn (i:Nat) (l:List InsD):List Mk:=l.mapIdx fun j x=>⟨x.dst,(i:Int),(j:Int)⟩
def mkBs:List BlkD→Nat→List Mk
  | [],_=>[]
  | b::l,i=>(mkPh i b.phis++mkIn i b.ins)++mkBs l (i+1)
def mkL (f:FunD):List Mk:=mkPar (parN f)++mkBs f.blocks 0
def inRg (n:Nat) (e:Mk):Bool:=decide (0≤e.r) && decide (e.r<n)
def flM (n:Nat) (l:List Mk):List Mk:=l.filter (inRg n)
def evL (f:FunD):List Mk:=flM f.regs.length (mkL f)
theorem flM_snoc (n:Nat) (l:List Mk) (e:Mk):flM n (l++[e])=flM n l++(if inRg n e=true then [e] else []):=by
  unfold flM;rw [List.filter_append];congr 1;cases h:inRg n e <;> simp [h]
theorem mkPar_succ (k:Nat):mkPar (k+1)=mkPar k++[⟨(k:Int),-1,-2⟩]:=by
  unfold mkPar;rw [List.range_succ,List.map_append];rfl
theorem mkBs_snoc:∀ (l:List BlkD) (i:Nat) (b:BlkD),mkBs (l++[b]) i=mkBs l i++(mkPh (i+l.length) b.phis++mkIn (i+l.length) b.ins)
  | [],i,b=>by simp [mkBs]
  | a::l,i,b=>by
    show (mkPh i a.phis++mkIn i a.ins)++mkBs (l++[b]) (i+1)=((mkPh i a.phis++mkIn i a.ins)++mkBs l (i+1))++_;rw [mkBs_snoc l (i+1) b,List.length_cons,show i+1+l.length=i+(l.length+1) by omega];simp only [List.append_assoc]
theorem mkBs_succ {bs:List BlkD} {k:Nat} {b:BlkD} (h:bs[k]?=some b):mkBs (bs.take (k+1)) 0=mkBs (bs.take k) 0++(mkPh k b.phis++mkIn k b.ins):=by
  have hk:k<bs.length:=(List.getElem?_eq_some_iff.1 h).1;rw [qD h,mkBs_snoc,List.length_take,Nat.min_eq_left (by omega),Nat.zero_add]
theorem mkPh_succ {l:List PhiD} {k i:Nat} {p:PhiD} (h:l[k]?=some p):mkPh i (l.take (k+1))=mkPh i (l.take k)++[⟨p.dst,(i:Int),-1⟩]:=by
  unfold mkPh;rw [qD h,List.map_append];rfl
theorem mkIn_succ {l:List InsD} {k i:Nat} {x:InsD} (h:l[k]?=some x):mkIn i (l.take (k+1))=mkIn i (l.take k)++[⟨x.dst,(i:Int),(k:Int)⟩]:=by
  have hk:k<l.length:=(List.getElem?_eq_some_iff.1 h).1;(unfold mkIn;rw [qD h,List.mapIdx_append]);simp [List.length_take,Nat.min_eq_left (Nat.le_of_lt hk)]
def cntM (l:List Mk) (r:Nat):Nat:=l.countP fun e=>decide (e.r=(r:Int))
def fstM (l:List Mk) (r:Nat):Mk:=(l.find? fun e=>decide (e.r=(r:Int))).getD ⟨r,-1,-2⟩
theorem qs (l:List Mk) (e:Mk) (r:Nat):cntM (l++[e]) r=cntM l r+(if e.r=(r:Int) then 1 else 0):=by
  unfold cntM;rw [List.countP_append];congr 1
  by_cases h:e.r=(r:Int) <;> simp [h]
theorem fstM_snoc (l:List Mk) (e:Mk) (r:Nat):fstM (l++[e]) r=if 0<cntM l r then fstM l r else if e.r=(r:Int) then e else ⟨r,-1,-2⟩:=by
  unfold fstM cntM;rw [List.find?_append]
  by_cases h:0<l.countP fun e=>decide (e.r=(r:Int))
  · rw [if_pos h];obtain ⟨x,hx,hp⟩:=List.countP_pos_iff.1 h;cases hf:l.find? fun e=>decide (e.r=(r:Int)) with
    | none=>exact absurd hp (by simpa using List.find?_eq_none.1 hf x hx)
    | some y=>rfl
  · rw [if_neg h];have hn:(l.find? fun e=>decide (e.r=(r:Int)))=none:=by
      (rw [List.find?_eq_none];intro x hx hp);exact h (List.countP_pos_iff.2 ⟨x,hx,hp⟩)
    rw [hn]
    by_cases e1:e.r=(r:Int)
    · rw [if_pos e1];simp [e1]
    · rw [if_neg e1];simp [e1]
theorem fstM_none {l:List Mk} {r:Nat} (h:¬ 0<cntM l r):fstM l r=⟨r,-1,-2⟩:=by
  unfold fstM;have:(l.find? fun e=>decide (e.r=(r:Int)))=none:=by
    (rw [List.find?_eq_none];intro x hx hp);exact h (List.countP_pos_iff.2 ⟨x,hx,hp⟩)
  rw [this];rfl
theorem fstM_old {l:List Mk} {e:Mk} {r:Nat} (h:0<cntM l r∨e.r≠(r:Int)):fstM (l++[e]) r=fstM l r:=by
  rw [fstM_snoc]
  by_cases h1:0<cntM l r
  · rw [if_pos h1]
  · rw [if_neg h1,if_neg (h.resolve_left h1),fstM_none h1]
theorem fstM_new {l:List Mk} {e:Mk} {r:Nat} (h:¬ 0<cntM l r) (he:e.r=(r:Int)):fstM (l++[e]) r=e:=by
  rw [fstM_snoc,if_neg h,if_pos he]
end Go.Proofs.YtfoggldjjnabcaaGreatDoor

namespace Go.Proofs.YtfoggldjjnabcaaGreatDoor
theorem Tryz.info4:(Tryz.prog.info? 4).map (fun i=>(i.zero,i.size,i.bytes))=some (some (.bool false),1,1):=by kernel_rfl
end Go.Proofs.YtfoggldjjnabcaaGreatDoor
