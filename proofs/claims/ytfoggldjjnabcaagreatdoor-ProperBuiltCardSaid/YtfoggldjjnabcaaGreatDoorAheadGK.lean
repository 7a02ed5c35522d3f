/- Nothing has changed but some blocks. No condition. -/
import Derived.Test.YtfoggldjjnabcaaGreatDoorModAK
import Derived.Deep.DeepCutAuto
import Derived.Deep.QuietTactic
import Derived.BigQuiet
import Derived.Deep.OwnRows
import Derived.Deep.AppendLies
namespace Go.Proofs.YtfoggldjjnabcaaGreatDoor
open Go.ChangeShapes Go.WideShapes Go.RowKit Go.Deep
set_option linter.unusedVariables false
set_option linter.unusedSimpArgs false
structure FrX (X:Nat->Prop) (w w':World):Prop where
 os:w'.os=w.os
 tape:w'.tape=w.tape
 output:w'.output=w.output
 size:w.heap.size<=w'.heap.size
 block:∀ k,k<w.heap.size->¬ X k->w'.heap[k]?=w.heap[k]?
theorem FrX.refl (X:Nat->Prop) (w:World):FrX X w w:=⟨rfl,rfl,rfl,J4 _,λ _ _ _=>rfl⟩
theorem FrX.trans {X:Nat->Prop} {a b c:World} (h:FrX X a b) (k:FrX X b c):FrX X a c :=
 ⟨k.os.trans h.os,k.tape.trans h.tape,k.output.trans h.output,Nat.le_trans h.size k.size,λ i hi hx=>(k.block i (Nat.lt_of_lt_of_le hi h.size) hx).trans (h.block i hi hx)⟩
theorem FrX.of_below {X:Nat->Prop} {w w':World} (h:Below w.heap.size w w'):FrX X w w':=⟨h.os,h.tape,h.output,h.size,λ k hk _=>h.block k hk⟩
theorem FrX.mono {X Y:Nat->Prop} {w w':World} (h:FrX X w w') (hy:∀ k,k<w.heap.size->X k->Y k):FrX Y w w':=⟨h.os,h.tape,h.output,h.size,λ k hk hx=>h.block k hk λ wg=>hx (hy k hk wg)⟩
theorem FrX.alloc {X:Nat->Prop} {a w:World} (h:FrX X a w) (o:Obj):FrX X a (w.alloc o):=h.trans (.of_below ((J5 _ _).alloc (J4 _) o))
theorem FrX.drew {X:Nat->Prop} {a w:World} (h:FrX X a w):FrX X a w.drew:=⟨h.os,h.tape,h.output,h.size,h.block⟩
theorem FrX.setCell {X:Nat->Prop} {a w:World} (h:FrX X a w) {p:Addr} (hp:X p.block\/a.heap.size<=p.block) (u:Value):FrX X a (w.setCell p u) :=
 ⟨h.os,h.tape,h.output,by have:=h.size;simpa using this,λ k hk hx=>(JQ _ _ _ _ (λ e=>hp.elim (λ hp=>by exact hx (e ▸ hp)) (λ hp=>by omega))).trans (h.block k hk hx)⟩
theorem FrX.grown {X:Nat->Prop} {a w w':World} {row:Option Nat} (h:FrX X a w) (hg:w.grownBy w' row) (hr:∀ k,row=some k->X k\/a.heap.size<=k):FrX X a w' :=
 ⟨hg.os.trans h.os,hg.tape.trans h.tape,hg.output.trans h.output,Nat.le_trans h.size hg.size,λ k hk hx=>(hg.block k (Nat.lt_of_lt_of_le hk h.size) (λ e=>by
  rcases hr k e.symm with h2 | h2
  ·exact hx h2
  ·omega)).trans (h.block k hk hx)⟩
theorem FrX.below {X:Nat->Prop} {B:Nat} {w w':World} (h:FrX X w w') (hB:B<=w.heap.size) (hx:∀ k,X k->B<=k):Below B w w':=⟨h.os,h.tape,h.output,h.size,λ k hk=>h.block k (by omega) (λ wh=>by have:=hx k wh;omega)⟩
theorem FrX.box {X:Nat->Prop} {w w':World} (h:FrX X w w') {N:Nat} {o:Obj} (hb:w.heap[N]?=some o) (hx:¬ X N):w'.heap[N]?=some o:=(h.block N (Array.getElem?_eq_some_iff.1 hb).1 hx).trans hb
structure Mk where
 r:Int
 b:Int
 a:Int
def Mk.v (e:Mk):Value:=.agg #[.int .i64 e.b,.int .i64 e.a]
def jI (f:qB):Nat:=min f.params.toNat f.regs.length
def vK (n:Nat):List Mk:=(List.range n).map λ r:Nat=>⟨(r:Int),-1,-2⟩
def jM (i:Nat) (l:List PhiD):List Mk:=l.map λ p=>⟨p.dst,(i:Int),-1⟩
def xN (i:Nat) (l:List qN):List Mk:=l.mapIdx λ j x=>⟨x.dst,(i:Int),(j:Int)⟩
def y9:List qE->Nat->List Mk
 | [],_=>[]
 | b::l,i=>(jM i b.phis++xN i b.ins)++y9 l (i+1)
def mkL (f:qB):List Mk:=vK (jI f)++y9 f.blocks 0
def q2i (n:Nat) (e:Mk):Bool:=decide (0<=e.r) && decide (e.r<n)
def flM (n:Nat) (l:List Mk):List Mk:=l.filter (q2i n)
def evL (f:qB):List Mk:=flM f.regs.length (mkL f)
theorem q10 (n:Nat) (l:List Mk) (e:Mk):flM n (l++[e])=flM n l++(if q2i n e=true then [e] else []):=by
 unfold flM;rw [List.filter_append];congr 1;cases h:q2i n e <;> simp [h]
theorem q4v (k:Nat):vK (k+1)=vK k++[⟨(k:Int),-1,-2⟩]:=by
 unfold vK;rw [List.range_succ,List.map_append];rfl
theorem q1p:∀ (l:List qE) (i:Nat) (b:qE),y9 (l++[b]) i=y9 l i++(jM (i+l.length) b.phis++xN (i+l.length) b.ins)
 | [],i,b=>by simp [y9]
 | a::l,i,b=>by
  show (jM i a.phis++xN i a.ins)++y9 (l++[b]) (i+1)=((jM i a.phis++xN i a.ins)++y9 l (i+1))++_;rw [q1p l (i+1) b,List.length_cons,show i+1+l.length=i+(l.length+1) by omega];simp only [List.append_assoc]
theorem q6q {bs:List qE} {k:Nat} {b:qE} (h:bs[k]?=some b):y9 (bs.take (k+1)) 0=y9 (bs.take k) 0++(jM k b.phis++xN k b.ins):=by
 have hk:k<bs.length:=(Jk h).1;rw [qG h,q1p,List.length_take,Nat.min_eq_left (by omega),Nat.zero_add]
theorem q6o {l:List PhiD} {k i:Nat} {p:PhiD} (h:l[k]?=some p):jM i (l.take (k+1))=jM i (l.take k)++[⟨p.dst,(i:Int),-1⟩]:=by
 unfold jM;rw [qG h,List.map_append];rfl
theorem q6p {l:List qN} {k i:Nat} {x:qN} (h:l[k]?=some x):xN i (l.take (k+1))=xN i (l.take k)++[⟨x.dst,(i:Int),(k:Int)⟩]:=by
 have hk:k<l.length:=(Jk h).1;(unfold xN;rw [qG h,List.mapIdx_append]);simp [List.length_take,Nat.min_eq_left (Nat.le_of_lt hk)]
def vN (l:List Mk) (r:Nat):Nat:=l.countP λ e=>decide (e.r=(r:Int))
def yy (l:List Mk) (r:Nat):Mk:=(l.find? λ e=>decide (e.r=(r:Int))).getD ⟨r,-1,-2⟩
theorem xL (l:List Mk) (e:Mk) (r:Nat):vN (l++[e]) r=vN l r+(if e.r=(r:Int) then 1 else 0):=by
 unfold vN;rw [List.countP_append];congr 1
 by_cases h:e.r=(r:Int) <;> simp [h]
theorem q20 (l:List Mk) (e:Mk) (r:Nat):yy (l++[e]) r=if 0<vN l r then yy l r else if e.r=(r:Int) then e else ⟨r,-1,-2⟩:=by
 unfold yy vN;rw [List.find?_append]
 by_cases h:0<l.countP λ e=>decide (e.r=(r:Int))
 ·rw [if_pos h];obtain ⟨x,hx,hp⟩:=List.countP_pos_iff.1 h;cases hf:l.find? λ e=>decide (e.r=(r:Int)) with
  | none=>exact absurd hp (by simpa using List.find?_eq_none.1 hf x hx)
  | some y=>rfl
 ·rw [if_neg h];have hn:(l.find? λ e=>decide (e.r=(r:Int)))=none:=by
   (rw [List.find?_eq_none];intro x hx hp);exact h (List.countP_pos_iff.2 ⟨x,hx,hp⟩)
  rw [hn]
  by_cases e1:e.r=(r:Int)
  ·rw [if_pos e1];simp [e1]
  ·rw [if_neg e1];simp [e1]
theorem q71 {l:List Mk} {r:Nat} (h:¬ 0<vN l r):yy l r=⟨r,-1,-2⟩:=by
 unfold yy;have:(l.find? λ e=>decide (e.r=(r:Int)))=none:=by
  (rw [List.find?_eq_none];intro x hx hp);exact h (List.countP_pos_iff.2 ⟨x,hx,hp⟩)
 rw [this];rfl
theorem q0v {l:List Mk} {e:Mk} {r:Nat} (h:0<vN l r\/e.r≠(r:Int)):yy (l++[e]) r=yy l r:=by
 rw [q20]
 by_cases h1:0<vN l r
 ·rw [if_pos h1]
 ·rw [if_neg h1,if_neg (h.resolve_left h1),q71 h1]
theorem q8d {l:List Mk} {e:Mk} {r:Nat} (h:¬ 0<vN l r) (he:e.r=(r:Int)):yy (l++[e]) r=e:=by
 rw [q20,if_neg h,if_pos he]
theorem Tryz.info4:(Tryz.prog.info? 4).map (λ i=>(i.zero,i.size,i.bytes))=some (some (.bool false),1,1):=by kernel_rfl
theorem kN (w:World) (M:Nat) (hM:M=w.heap.size) (o0 o1:Obj) (W:World) (hW:W=(w.alloc o0).alloc o1) :
  W.heap[M]?=some o0/\W.heap[M+1]?=some o1/\W.heap.size=M+2/\Below M w W:=by
 subst hM hW;(have hz (u:World) (o:Obj):(u.alloc o).heap.size=u.heap.size+1:=by simp);have hg (u:World) (o:Obj) (k:Nat):(u.alloc o).heap[k]?=if k=u.heap.size then some o else u.heap[k]?:=by
  show (u.heap.push o)[k]?=_;rw [Array.getElem?_push]
 refine ⟨?_,?_,?_,?_⟩
 ·simp only [hg,hz];rw [if_neg (by omega)];exact if_pos (by first | trivial | omega)
 ·simp only [hg,hz];exact if_pos (by first | trivial | omega)
 ·simp [hz]
 ·exact ((J5 _ w).alloc (J4 _) _).alloc (by simp) _
structure Vis (P:List Mk->World->Prop) (X:Nat->Prop) (n:Nat) (cl:FuncId) (c1 c2:Value) (w0:World):Prop where
 en:∀ (args:Array Value) (w:World),(callFunc cl args).run Tryz.prog w=.ok (.enter cl args) w
 low:∀ b,X b->b<w0.heap.size
 keep:∀ l w w',P l w->Below w.heap.size w w'->P l w'
 call:∀ l (e:Mk) w,P l w->FrX X w0 w->0<=e.r->e.r<n->Calls Tryz.prog cl #[.int .i64 e.r,e.v,c1,c2] w λ en w'=>en=.returned (.tuple #[])/\P (l++[e]) w'/\FrX X w w'
set_option maxRecDepth 100000 in
set_option maxHeartbeats 8000000 in
theorem q8Q {P:List Mk->World->Prop} {X:Nat->Prop} {n:Nat} {cl:FuncId} {c1 c2:Value} {w0:World} (V:Vis P X n cl c1 c2 w0) (A B:Nat) (Ar:Option Addr) (cr:Nat) (l:List Mk) (e:Mk) (w:World) (hn:n<=9223372036854775807)
  (ha:w.cell? ⟨A,2,none⟩=some (.slice Ar n cr)) (hb:w.cell? ⟨B,0,none⟩=some (.func (.func cl) #[] #[c1,c2])) (hP:P (flM n l) w) (hF:FrX X w0 w) :
  Calls Tryz.prog 116 #[.int .i64 e.r,e.v,.pointer (some ⟨A,0,none⟩),.pointer (some ⟨B,0,none⟩)] w λ en w'=>en=.returned (.tuple #[])/\P (flM n (l++[e])) w'/\FrX X w w':=by
 have HP:=Jj hP;have HF:=Jj hF;have HV:=Jj V;obtain ⟨r,b,a⟩:=e;unfold Mk.v;clear hP hF V;(go_enter Tryz.func116,Tryz.ntmps116);(go_upto_region 1 with fail);obtain ⟨w1,wO,tH,tf,wg,wZ,-⟩:=named w #[.int .i64 b,.int .i64 a] 90
 rw [<- wO];have ha:=tf _ _ ha;have hb:=tf _ _ hb;obtain ⟨N,hN⟩:∃ N,N=w.heap.size:=⟨_,rfl⟩;rw [<- hN] at wZ ⊢;have b0:=wZ 0 _ rfl;have b1:=wZ 1 _ rfl;have wm:=Jj wg;have HN:=Jj hN
 clear wO tH tf wg wZ hN
 by_cases h0:r<0
 ·(have HR:Hid (q2i n ⟨r,b,a⟩=false):=Jj (by unfold q2i;rw [decide_eq_false (by show ¬ (0:Int)<=r;omega)];rfl));(have tB:¬ (0:Int)<=r:=by omega);(go_wp2_with fail);(go_end0);refine ⟨rfl,?_,FrX.of_below wm.out⟩;rw [q10,HR.out,if_neg (by simp),List.append_nil];exact HV.out.keep _ _ _ HP.out wm.out
 by_cases h1:r<n
 ·(have HR:Hid (q2i n ⟨r,b,a⟩=true):=Jj (by unfold q2i;rw [decide_eq_true (by show (0:Int)<=r;omega),decide_eq_true (by show r<(n:Int);omega)];rfl));(have sm:=Jj (HV.out.call (flM n l) ⟨r,b,a⟩ w1 (HV.out.keep _ _ _ HP.out wm.out) (HF.out.trans (FrX.of_below wm.out)) (by show (0:Int)<=r;omega) h1));(have tB:(0:Int)<=r:=by omega);clear h0;(go_wp2_with fail);rw [HV.out.en,Oper.upon_enter];refine sm.out.mono ?_;rintro en w2 ⟨rfl,wU,wW⟩;have tp:=Jj wU
  have tq:=Jj wW;clear wU wW;(go_wp2_with fail);(go_end0);refine ⟨rfl,?_,(FrX.of_below wm.out).trans tq.out⟩;rw [q10,HR.out,if_pos rfl];exact tp.out
 ·(have HR:Hid (q2i n ⟨r,b,a⟩=false):=Jj (by show (decide (0<=r) && decide (r<(n:Int)))=false;rw [decide_eq_false h1,Bool.and_false]));(have tB:(0:Int)<=r:=by omega);clear h0;(go_wp2_with fail);(go_end0);refine ⟨rfl,?_,FrX.of_below wm.out⟩;rw [q10,HR.out,if_neg (by simp),List.append_nil];exact HV.out.keep _ _ _ HP.out wm.out
set_option maxRecDepth 100000 in
set_option maxHeartbeats 16000000 in
theorem kM {P:List Mk->World->Prop} {X:Nat->Prop} {cl:FuncId} {c1 c2:Value} (f:qB) (vf:Value) (w00 w:World) (V:Vis P X f.regs.length cl c1 c2 w)
  (hf:VFun w00 vf f) (hK:∀ w',FrX X w w'->Kept w00 w') (hG:∀ w',FrX X w w'->w'.cell? ⟨1,0,none⟩=some (.int .i64 (-1))/\w'.cell? ⟨1,1,none⟩=some (.int .i64 (-2))) (hP:P [] w) :
  Calls Tryz.prog 76 #[vf,.func (.func cl) #[] #[c1,c2]] w λ en w'=>en=.returned (.tuple #[])/\P (evL f) w'/\FrX X w w':=by
 obtain ⟨Ar,cr,Ab,cb,rfl,tw,th,tL,-⟩:=hf;have hrl:=tw.len;have hbl:=th.len;have sh:=Jj th;have HK:=Jj hK;have HG:=Jj hG;have HV:=Jj V;have HP:=Jj hP;have HP0:=Jj tL
 clear tw th hG V hP hK;(go_enter Tryz.func76,Tryz.ntmps76);(go_upto_region 1 with fail);obtain ⟨w1,wO⟩:∃ w1,w1=(w.alloc (.cells #[.int .i64 f.params,.int .i64 f.result,.slice Ar f.regs.length cr,.slice Ab f.blocks.length cb] 30)).alloc (.cells #[.func (.func cl) #[] #[c1,c2]] 130):=⟨_,rfl⟩;obtain ⟨A,hA⟩:∃ A,A=w.heap.size:=⟨_,rfl⟩;obtain ⟨bA,bB,tF,wg⟩:=kN w A hA _ _ w1 wO;rw [<- wO,<- hA];rw [hA] at wg;have a0:=q6 bA 0
 have a2:=q6 bA 2;have a3:=q6 bA 3;have wm:=Jj wg;have tE:=Jj bA;have sn:=Jj bB;have HA:=Jj hA
 have HX:Hid (∀ wr,FrX X w1 wr->FrX X w wr/\wr.heap[A]?=w1.heap[A]?/\wr.heap[A+1]?=w1.heap[A+1]?):=Jj (λ wr h =>
  ⟨(FrX.of_below wm.out).trans h,h.block A (by omega) (λ hx=>by have:=HV.out.low _ hx;omega),h.block (A+1) (by omega) (λ hx=>by have:=HV.out.low _ hx;omega)⟩)
 have HM:Hid (∀ (l:List Mk) (r b a:Int) (wr:World),P (flM f.regs.length l) wr->FrX X w1 wr->Calls Tryz.prog 116 #[.int .i64 r,.agg #[.int .i64 b,.int .i64 a],.pointer (some ⟨A,0,none⟩),.pointer (some ⟨A+1,0,none⟩)] wr λ en w'=>en=.returned (.tuple #[])/\P (flM f.regs.length (l++[⟨r,b,a⟩])) w'/\FrX X wr w'):=Jj (λ l r b a wr hp hx=>by
  obtain ⟨h1,h2,h3⟩:=HX.out wr hx;have e2:=(JK (a:=⟨A,2,none⟩) h2).trans (q6 tE.out 2);have e0:=(JK (a:=⟨A+1,0,none⟩) h3).trans (q6 sn.out 0)
  exact q8Q HV.out A (A+1) Ar cr l ⟨r,b,a⟩ wr (by omega) e2 e0 hp h1)
 have sc:Hid (P [] w1):=Jj (HV.out.keep _ _ _ HP.out wm.out);clear wO hA tF wg bA bB
 by_cases tK:(f.regs.length:Int)<f.params
 case' pos =>
  (go_upto_region 3 with fail);obtain ⟨L,hL⟩:∃ L:Int,L=(f.regs.length:Int):=⟨_,rfl⟩;rw [<- hL];have hLN:L.toNat=jI f:=by unfold jI;omega
 case' neg =>
  (go_upto_region 3 with fail);obtain ⟨L,hL⟩:∃ L:Int,L=f.params:=⟨_,rfl⟩;rw [<- hL];have hLN:L.toNat=jI f:=by unfold jI;omega
 all_goals
  (have hLb:L<=f.regs.length:=by omega);have sd:=Jj hLN;clear hL hLN tK
  go_loopw [19] (λ i wr=>∃ k:Nat,k<=L.toNat/\i=.int .i64 k/\P (flM f.regs.length (vK k)) wr/\FrX X w1 wr) (λ i _=>L.toNat - (intOf i).toNat)
  case atStart=>exact ⟨0,Nat.zero_le _,rfl,sc.out,FrX.refl _ _⟩
  case round =>
   obtain ⟨k,hk,rfl,hp,hx⟩:=hrel;have tm:=Jj hp;have tj:=Jj hx;obtain ⟨wj,hxA,hxB⟩:=HX.out _ hx;have HXW:=Jj wj
   by_cases hlt:k<L.toNat
   ·(have tM:(k:Int)<L:=by omega);obtain ⟨g0,g1⟩:=HG.out _ wj;clear hp hx wj hxA hxB;(go_wp2_with fail);refine (HM.out (vK k) k (-1) (-2) wr tm.out tj.out).mono ?_;rintro en w2 ⟨rfl,wU,wW⟩;(have tp:Hid (P (flM f.regs.length (vK (k+1))) w2):=Jj (by rw [q4v];exact wU));have tq:=Jj (tj.out.trans wW);clear wU wW
    go_wp2_with fail
    go_roundw
    case rel=>exact ⟨k+1,by omega,by go_num,tp.out,tq.out⟩
    case measure=>simp [intOf];omega
   ·have tM:¬ (k:Int)<L:=by omega
    have sb:Hid (P (flM f.regs.length (vK (jI f)++y9 (f.blocks.take 0) 0)) wr):=Jj (by
     rw [List.take_zero];show P (flM f.regs.length (vK (jI f)++[])) wr
     rw [List.append_nil,<- sd.out,show L.toNat=k by omega];exact tm.out)
    have e3:=(JK (a:=⟨A,3,none⟩) hxA).trans (q6 tE.out 3);clear hp hx wj hxA hxB tm;(go_wp2_with fail);obtain ⟨u30,rfl⟩:∃ u,u=wr:=⟨_,rfl⟩;clear e3
    go_loopw [30] (λ i wr=>∃ k:Nat,k<=f.blocks.length/\i=.int .i64 k/\P (flM f.regs.length (vK (jI f)++y9 (f.blocks.take k) 0)) wr/\FrX X w1 wr) (λ i _=>f.blocks.length - (intOf i).toNat)
    case atStart=>exact ⟨0,Nat.zero_le _,rfl,sb.out,tj.out⟩
    case round =>
     obtain ⟨q,hq,rfl,hp,hx⟩:=hrel;have tD:=Jj hp;have tQ:=Jj hx;have wJ:=Jj (HX.out _ hx).1;clear hp hx
     by_cases tJ:q<f.blocks.length
     ·obtain ⟨bt,ot,kb,rfl,tz,⟨Ap,cp,p0,s0⟩,⟨Ai,ci,p1,s1⟩,⟨p2,-⟩,⟨p3,-⟩,At,ct,p4,-⟩:=sh.out.at_ tJ;have wQ:=HK.out _ wJ.out;have p0:=wQ _ _ p0;have p1:=wQ _ _ p1;have p2:=wQ _ _ p2;have p3:=wQ _ _ p3;have p4:=wQ _ _ p4;have tT:=Jj s0;have tS:=Jj s1
      have sf:=Jj tz.out;have hl0:=s0.len;have hl1:=s1.len;(have hq0:(0:Int)<=q:=by omega);(have hq1:(q:Int)<f.blocks.length:=by omega);clear s0 s1 tz wQ;(go_upto_region 10 with fail);obtain ⟨w2,tu,tG,tN,wk,wY,-⟩:=named wr #[.slice Ap kb.phis.length cp,.slice Ai kb.ins.length ci,.int .i64 kb.term.kind,.int .i64 kb.term.arg,.slice At kb.term.to.length ct] 51;rw [<- tu]
      obtain ⟨C,hC⟩:∃ C,C=wr.heap.size:=⟨_,rfl⟩;rw [<- hC] at wY ⊢;have d0:=wY 0 _ rfl;have d1:=wY 1 _ rfl
      have tC:Hid (∀ wz,FrX X w2 wz->FrX X w1 wz/\FrX X w wz/\wz.heap[C]?=w2.heap[C]?):=Jj (λ wz h=>by
       have h1:=(tQ.out.trans (FrX.of_below wk)).trans h;refine ⟨h1,(HX.out _ h1).1,h.block C (by omega) (λ hx=>?_)⟩
       have:=HV.out.low _ hx;have:=wJ.out.size;omega)
      have sk:=Jj d1
      have tZ:Hid (P (flM f.regs.length ((vK (jI f)++y9 (f.blocks.take q) 0)++jM q (kb.phis.take 0))) w2):=Jj (by
       have h:=HV.out.keep _ _ _ tD.out wk;rw [List.take_zero];show P (flM f.regs.length (_++[])) w2
       rw [List.append_nil];exact h)
      clear tu tG tN wk wY hC p0 p1 p2 p3 p4;(go_wp2_with fail);clear d0 d1
      go_loopw [38] (λ i wz=>∃ j:Nat,j<=kb.phis.length/\i=.int .i64 j/\P (flM f.regs.length ((vK (jI f)++y9 (f.blocks.take q) 0)++jM q (kb.phis.take j))) wz/\FrX X w2 wz) (λ i _=>kb.phis.length - (intOf i).toNat)
      case atStart=>exact ⟨0,Nat.zero_le _,rfl,tZ.out,FrX.refl _ _⟩
      case round =>
       obtain ⟨j,hj,rfl,hp,hx⟩:=hrel;obtain ⟨wv,wj,hxC⟩:=tC.out _ hx;have wX:=Jj hp;have ta:=Jj hx;have wu:=Jj wv
       by_cases tg:j<kb.phis.length
       ·obtain ⟨bp,op,pd,rfl,tx,⟨t0,-⟩,Ag,cg,t1,-⟩:=tT.out.at_ tg;have wl:=HK.out _ wj;have t0:=wl _ _ t0;have t1:=wl _ _ t1;have tU:=Jj tx.out;(have tP:(0:Int)<=j:=by omega);(have tO:(j:Int)<kb.phis.length:=by omega);clear hp hx wv wj hxC tx wl;go_upto_region 13 with fail
        obtain ⟨w3,wR,tc,td,wh,ww,-⟩:=named wr #[.int .i64 pd.dst,.slice Ag pd.args.length cg] 55;rw [<- wR];obtain ⟨E,hE⟩:∃ E,E=wr.heap.size:=⟨_,rfl⟩;rw [<- hE] at ww ⊢;have x0:=ww 0 _ rfl;have wM:=Jj wh;clear wR tc td wh ww hE t0 t1;(go_wp2_with fail);refine (HM.out ((vK (jI f)++y9 (f.blocks.take q) 0)++jM q (kb.phis.take j)) pd.dst q (-1) w3 (HV.out.keep _ _ _ wX.out wM.out) (wu.out.trans (FrX.of_below wM.out))).mono ?_
        rintro en w4 ⟨rfl,wT,wV⟩;(have tY:Hid (P (flM f.regs.length ((vK (jI f)++y9 (f.blocks.take q) 0)++jM q (kb.phis.take (j+1)))) w4):=Jj (by rw [q6o tU.out,<- List.append_assoc];exact wT));have sj:=Jj (ta.out.trans ((FrX.of_below wM.out).trans wV));clear wT wV x0;go_wp2_with fail
        go_roundw
        case rel=>exact ⟨j+1,by omega,by go_num,tY.out,sj.out⟩
        case measure=>simp [intOf];omega
       ·obtain rfl:j=kb.phis.length:=by omega
        have tX:Hid (P (flM f.regs.length (((vK (jI f)++y9 (f.blocks.take q) 0)++jM q kb.phis)++xN q (kb.ins.take 0))) wr):=Jj (by
         have h:=wX.out;rw [List.take_of_length_le (J4 _)] at h;rw [List.take_zero];show P (flM f.regs.length (_++[])) wr
         rw [List.append_nil];exact h)
        have d1:=(JK (a:=⟨C,1,none⟩) hxC).trans sk.out;obtain ⟨u38,rfl⟩:∃ u,u=wr:=⟨_,rfl⟩;clear hp hx wv wj hxC;(go_wp2_with fail);clear d1
        go_loopw [52] (λ i wz=>∃ j:Nat,j<=kb.ins.length/\i=.int .i64 j/\P (flM f.regs.length (((vK (jI f)++y9 (f.blocks.take q) 0)++jM q kb.phis)++xN q (kb.ins.take j))) wz/\FrX X w2 wz) (λ i _=>kb.ins.length - (intOf i).toNat)
        case atStart=>exact ⟨0,Nat.zero_le _,rfl,tX.out,ta.out⟩
        case round =>
         obtain ⟨j,hj,rfl,hp,hx⟩:=hrel;obtain ⟨wv,wj,hxC⟩:=tC.out _ hx;have wX:=Jj hp;have ta:=Jj hx;have wu:=Jj wv
         by_cases tg:j<kb.ins.length
         ·obtain ⟨bp,op,xd,rfl,tr,⟨t0,-⟩,⟨t1,-⟩,⟨Ag,cg,t2,-⟩,⟨t3,-⟩,⟨t4,-⟩⟩:=tS.out.at_ tg;have wl:=HK.out _ wj;have t0:=wl _ _ t0;have t1:=wl _ _ t1;have t2:=wl _ _ t2;have t3:=wl _ _ t3;have t4:=wl _ _ t4;have tR:=Jj tr.out;have tP:(0:Int)<=j:=by omega
          (have tO:(j:Int)<kb.ins.length:=by omega);clear hp hx wv wj hxC tr wl;(go_upto_region 18 with fail);obtain ⟨w3,wR,tc,td,wh,ww,-⟩:=named wr #[.int .i64 xd.op,.int .i64 xd.dst,.slice Ag xd.args.length cg,.int .i64 xd.imm,.int .i64 xd.fn] 53;rw [<- wR];obtain ⟨E,hE⟩:∃ E,E=wr.heap.size:=⟨_,rfl⟩;rw [<- hE] at ww ⊢;have x1:=ww 1 _ rfl;have wM:=Jj wh
          clear wR tc td wh ww hE t0 t1 t2 t3 t4;(go_wp2_with fail);refine (HM.out (((vK (jI f)++y9 (f.blocks.take q) 0)++jM q kb.phis)++xN q (kb.ins.take j)) xd.dst q j w3 (HV.out.keep _ _ _ wX.out wM.out) (wu.out.trans (FrX.of_below wM.out))).mono ?_;rintro en w4 ⟨rfl,wT,wV⟩;(have tW:Hid (P (flM f.regs.length (((vK (jI f)++y9 (f.blocks.take q) 0)++jM q kb.phis)++xN q (kb.ins.take (j+1)))) w4):=Jj (by rw [q6p tR.out,<- List.append_assoc];exact wT));have si:=Jj (ta.out.trans ((FrX.of_below wM.out).trans wV));clear wT wV x1;go_wp2_with fail
          go_roundw
          case rel=>exact ⟨j+1,by omega,by go_num,tW.out,si.out⟩
          case measure=>simp [intOf];omega
         ·obtain rfl:j=kb.ins.length:=by omega
          have tV:Hid (P (flM f.regs.length (vK (jI f)++y9 (f.blocks.take (q+1)) 0)) wr):=Jj (by
           have h:=wX.out;rw [List.take_of_length_le (J4 _),List.append_assoc,List.append_assoc,<- q6q sf.out] at h
           exact h)
          clear hp hx wv wj hxC;go_wp2_with fail
          go_roundw
          case rel=>exact ⟨q+1,by omega,by go_num,tV.out,wu.out⟩
          case measure=>simp [intOf];omega
     ·obtain rfl:q=f.blocks.length:=by omega
      have HE:Hid (P (evL f) wr):=Jj (by
       have h:=tD.out;rw [List.take_of_length_le (J4 _)] at h
       exact h)
      (go_wp2_with fail);(go_end0);exact ⟨rfl,HE.out,wJ.out⟩
def qo:List Int->Int
 | []=>0
 | x::r=>if x=0 then qo r else x
theorem xQ (a b:List Int):qo (a++b)=if qo a=0 then qo b else qo a:=by
 induction a with
 | nil=>simp [qo]
 | cons x r ih =>
  simp only [List.cons_append,qo]
  by_cases h:x=0
  ·simp only [if_pos h,ih]
  ·simp only [if_neg h]
theorem q0D {l:List Int} {k:Nat} {x:Int} (h:l[k]?=some x) (h0:qo (l.take k)=0):qo (l.take (k+1))=x:=by
 rw [qG h,xQ,if_pos h0];simp only [qo]
 split <;> simp_all
theorem q3z {l:List Int} {k:Nat} {x:Int} (h:l[k]?=some x) (h0:qo (l.take k)=0) (hx:x≠0):qo l=x:=by
 have e:l=l.take (k+1)++l.drop (k+1):=(List.take_append_drop _ _).symm;rw [e,xQ,q0D h h0,if_neg hx]
theorem jy {l:List Int}:qo l=0↔∀ x∈l,x=0:=by
 induction l with
 | nil=>simp [qo]
 | cons x r ih =>
  simp only [qo,List.mem_cons,forall_eq_or_imp]
  by_cases h:x=0
  ·simp [h,ih]
  ·simp [h]
theorem q8P {α β:Type} {l:List α} {k:Nat} {x:α} (f:α->β) (h:l[k]?=some x):(l.map f)[k]?=some (f x):=by rw [List.getElem?_map,h];rfl
theorem map_take {α β:Type} (l:List α) (k:Nat) (f:α->β):(l.map f).take k=(l.take k).map f:=List.map_take.symm
def reg (regs:List Int) (r:Int):Int:=regs.getD r.toNat 0
def z7 (bs:List qE):Nat:=(bs.map λ b=>b.phis.length+b.ins.length).sum
def vG (f:qB):Bool:=decide (1<=f.blocks.length/\f.blocks.length<=64/\f.regs.length<=256/\f.blocks.length+z7 f.blocks<=256)
def q8W (t:Int):Bool:=decide (t=1\/t=2)
def zv (f:qB):Bool:=f.regs.all q8W && decide (0<=f.params/\f.params<=8/\f.params<=f.regs.length) && decide (f.result=0\/f.result=1\/f.result=2)
def jp (t:yU):Bool :=
 if t.kind=1 then decide (t.to.length=1) else if t.kind=2 then decide (t.to.length=2) && decide (t.to.getD 0 0≠t.to.getD 1 0) else if t.kind=3 then decide (t.to.length=0) else false
def toB (n:Nat) (x:Int):Bool:=decide (x≠0/\0<=x/\x<n)
def yP (n:Nat) (t:yU):Bool:=jp t && t.to.all (toB n)
def zZ (f:qB):Bool:=f.blocks.all λ b=>yP f.blocks.length b.term
def vV (bs:List qE):List qE->Nat->Bool
 | [],_=>true
 | b::r,i=>b.phis.all (λ p=>decide (p.args.length=(qH bs i).length)) && vV bs r (i+1)
def q05 (f:qB):Bool:=vV f.blocks f.blocks 0
def y6 (f:qB):Int:=if vG f then (if zv f then (if zZ f && q05 f then 0 else 6) else 3) else 5
def zq (l:List Int) (n:Int):Bool:=l.all λ a=>decide (0<=a/\a<n)
def jA (f:qB) (p:PhiD):Int :=
 if decide (0<=p.dst/\p.dst<f.regs.length) && zq p.args f.regs.length then (if p.args.all λ a=>decide (reg f.regs a=reg f.regs p.dst) then 0 else 3) else 4
def zu (f:qB) (t:yU):Int:=if t.kind=2 then 2 else if t.kind=3 then f.result else 0
def je (f:qB) (t:yU):Int :=
 if zu f t=0 then (if t.arg=-1 then 0 else 3) else if 0<=t.arg/\t.arg<f.regs.length then (if reg f.regs t.arg=zu f t then 0 else 3) else 4
theorem q07 {bs:List qE} {k:Nat} {b:qE} (h:bs[k]?=some b):z7 (bs.take (k+1))=z7 (bs.take k)+(b.phis.length+b.ins.length):=by
 unfold z7;rw [qG h];simp
theorem yN {α:Type} {l:List α} {k:Nat} {x:α} {p:α->Bool} (h:l[k]?=some x) (h0:(l.take k).all p=true):(l.take (k+1)).all p=p x:=by
 rw [qG h,List.all_append,h0];simp
theorem vS {α:Type} {l:List α} {k:Nat} {x:α} {p:α->Bool} (h:l[k]?=some x) (hx:p x=false):l.all p=false:=by
 rw [List.all_eq_false];exact ⟨x,Jz h,by simp [hx]⟩
theorem yu {α:Type} {l:List α} {k:Nat} {p:α->Bool} (h:(l.take k).all p=true) (hk:l.length<=k):l.all p=true:=by rwa [List.take_of_length_le hk] at h
theorem jW (bs l r:List qE) (i:Nat):vV bs (l++r) i=(vV bs l i && vV bs r (i+l.length)):=by
 induction l generalizing i with
 | nil=>simp [vV]
 | cons b l ih=>simp only [List.cons_append,vV,ih,List.length_cons,Bool.and_assoc];congr 3;omega
def xj (bs:List qE) (k:Nat):Bool:=vV bs (bs.take k) 0
theorem q3f {bs:List qE} {k:Nat} {b:qE} (h:bs[k]?=some b) (h0:xj bs k=true):xj bs (k+1)=b.phis.all (λ p=>decide (p.args.length=(qH bs k).length)):=by
 have hk:k<bs.length:=(Jk h).1;unfold xj at h0 ⊢;rw [qG h,jW,h0,List.length_take,Nat.min_eq_left (by omega),Nat.zero_add];simp [vV]
theorem q3e {bs:List qE} {k:Nat} {b:qE} (h:bs[k]?=some b) (hb:b.phis.all (λ p=>decide (p.args.length=(qH bs k).length))=false):vV bs bs 0=false:=by
 have hk:k<bs.length:=(Jk h).1;have e:bs=bs.take (k+1)++bs.drop (k+1):=(List.take_append_drop _ _).symm;have h2:vV bs (bs.take (k+1)) 0=false:=by
  rw [qG h,jW,List.length_take,Nat.min_eq_left (by omega),Nat.zero_add];simp only [vV,hb,Bool.false_and,Bool.and_false]
 have h3:vV bs (bs.take (k+1)++bs.drop (k+1)) 0=false:=by rw [jW,h2];rfl
 rwa [<- e] at h3
theorem q3g {bs:List qE} {k:Nat} (h:xj bs k=true) (hk:bs.length<=k):vV bs bs 0=true:=by unfold xj at h;rwa [List.take_of_length_le hk] at h
theorem jS {regs:List Int} {r:Int} {x:Int} {k:Nat} (hr:r=k) (h:regs[k]?=some x):reg regs r=x:=by
 subst hr;rw [reg,Int.toNat_natCast,JJ,h];rfl
def isIn (n:Nat) (a:Int):Bool:=decide (0<=a/\a<n)
def yY (f:qB) (x:qN):Int:=if isIn f.regs.length x.dst then reg f.regs x.dst else 1
def yI (f:qB) (x:qN):Option (List Int × Int) :=
 if x.op=1 then some ([],yY f x) else if x.op=2 then some ([yY f x],yY f x) else if x.op=12\/x.op=13 then some ([1,1],2) else if x.op=14 then some ([2],2)
 else if x.op=15 then some ([1],1) else if x.op=16 then some ([1,1],0) else if x.op=18 then some ([1],0) else if 3<=x.op/\x.op<=11 then some ([1,1],1) else none
def zQ (regs:List Int):List Int->List Int->Bool
 | a::r,t::s=>decide (reg regs a=t) && zQ regs r s
 | _,_=>true
def jG (f:qB) (x:qN) (ts:List Int) (d:Int) (bad:Bool):Int :=
 if zq x.args f.regs.length && (decide (d=0) || isIn f.regs.length x.dst) then
  (if zQ f.regs x.args ts && (if d=0 then decide (x.dst=-1) else decide (0<d/\reg f.regs x.dst=d)) && (decide (x.op=1) || decide (x.imm=0)) && (decide (x.op=17) || decide (x.fn=0)) && !bad then 0 else 3)
 else 4
def qh (m:List qB) (i:Int):qB:=m.getD i.toNat default
def xZ (g:qB):Bool:=decide (g.params<0\/(g.regs.length:Int)<g.params)
def zm (m:List qB) (f:qB) (x:qN):Int :=
 if x.op=17 then
  (if isIn m.length x.fn then
   (if (x.args.length:Int)=(qh m x.fn).params then jG f x (if xZ (qh m x.fn) then [] else (qh m x.fn).regs.take (qh m x.fn).params.toNat) (qh m x.fn).result (xZ (qh m x.fn)) else 6) else 4)
 else match yI f x with
  | none=>6
  | some (ts,d)=>if x.args.length=ts.length then jG f x ts d (decide (x.op=1/\d=2/\x.imm≠0/\x.imm≠1)) else 6
def qt (m:List qB) (f:qB) (b:qE):Int :=
 if qo (b.phis.map (jA f))=0 then (if qo (b.ins.map (zm m f))=0 then je f b.term else qo (b.ins.map (zm m f))) else qo (b.phis.map (jA f))
def zh (m:List qB) (f:qB):Int:=if y6 f=0 then qo (f.blocks.map (qt m f)) else y6 f
def yx (m:List qB):List qB->Nat->Int × Int
 | [],_=>(0,-1)
 | f::r,i=>if zh m f=0 then yx m r (i+1) else (zh m f,i)
def jV (m:List qB):Int × Int:=if 32<m.length then (5,-1) else yx m m 0
def q03 (f:qB):Bool:=f.blocks.all λ b=>decide (b.phis.length=0)
def yk:List qB->Nat->Int × Int
 | [],_=>(0,-1)
 | f::r,i=>if q03 f then yk r (i+1) else (6,i)
def v8 (m:List qB):Int × Int:=if (jV m).1=0 then yk m 0 else jV m
def zx (m:List qB):Prop:=(jV m).1=0
theorem q04 (m l r:List qB) (i:Nat):yx m (l++r) i=if (yx m l i).1=0 then yx m r (i+l.length) else yx m l i:=by
 induction l generalizing i with
 | nil=>simp [yx]
 | cons f l ih =>
  simp only [List.cons_append,yx]
  by_cases h:zh m f=0
  ·simp only [if_pos h,ih,List.length_cons];congr 2;omega
  ·simp only [if_neg h]
theorem q6l {m l:List qB} {i:Nat}:(yx m l i).1=0↔∀ f∈l,zh m f=0:=by
 induction l generalizing i with
 | nil=>simp [yx]
 | cons f l ih =>
  simp only [yx,List.mem_cons,forall_eq_or_imp]
  by_cases h:zh m f=0
  ·simp [h,ih]
  ·simp [h]
theorem q9p {m l:List qB} {i:Nat} (h:(yx m l i).1=0):yx m l i=(0,-1):=by
 induction l generalizing i with
 | nil=>rfl
 | cons f l ih =>
  simp only [yx] at h ⊢
  by_cases hf:zh m f=0
  ·simp only [if_pos hf] at h ⊢;exact ih h
  ·simp only [if_neg hf] at h;exact absurd h hf
theorem q1n {m:List qB} {k:Nat} {f:qB} (h:m[k]?=some f) (h0:(yx m (m.take k) 0).1=0):yx m (m.take (k+1)) 0=if zh m f=0 then (0,-1) else (zh m f,(k:Int)):=by
 have hk:k<m.length:=(Jk h).1;rw [qG h,q04,if_pos h0,List.length_take,Nat.min_eq_left (by omega),Nat.zero_add];simp [yx]
theorem q6m {m:List qB} {k:Nat} {f:qB} (h:m[k]?=some f) (h0:(yx m (m.take k) 0).1=0) (hf:zh m f≠0):yx m m 0=(zh m f,(k:Int)):=by
 have e:m=m.take (k+1)++m.drop (k+1):=(List.take_append_drop _ _).symm;have h1:=q1n h h0;rw [if_neg hf] at h1;have h2:yx m (m.take (k+1)++m.drop (k+1)) 0=(zh m f,(k:Int)):=by
  rw [q04,h1,if_neg (by exact hf)]
 rwa [<- e] at h2
theorem blockE_zero {m:List qB} {f:qB} {b:qE}:qt m f b=0↔(∀ p∈b.phis,jA f p=0)/\(∀ x∈b.ins,zm m f x=0)/\je f b.term=0:=by
 unfold qt;(have h1:qo (b.phis.map (jA f))=0↔∀ p∈b.phis,jA f p=0:=by rw [jy];simp);(have h2:qo (b.ins.map (zm m f))=0↔∀ x∈b.ins,zm m f x=0:=by rw [jy];simp);rw [<- h1,<- h2]
 split
 ·split <;> simp_all
 ·simp_all
theorem funE_zero {m:List qB} {f:qB}:zh m f=0↔y6 f=0/\∀ b∈f.blocks,qt m f b=0:=by
 unfold zh;(have h1:qo (f.blocks.map (qt m f))=0↔∀ b∈f.blocks,qt m f b=0:=by rw [jy];simp);rw [<- h1]
 split <;> simp_all
theorem proper_iff {m:List qB}:zx m↔m.length<=32/\∀ f∈m,zh m f=0:=by
 unfold zx jV
 split
 ·simp;omega
 ·rw [q6l];simp;omega
def Lim (f:qB):Prop:=∀ b∈f.blocks,b.phis.length<=1000000/\b.ins.length<=1000000
theorem Lim.at_ {f:qB} (h:Lim f) {k:Nat} {b:qE} (hb:f.blocks[k]?=some b):b.phis.length<=1000000/\b.ins.length<=1000000:=h b (Jz hb)
set_option maxRecDepth 100000 in
set_option maxHeartbeats 4000000 in
theorem q2g (f:qB) (v:Value) (w:World) (hv:VFun w v f) (wk:Lim f) :
  Calls Tryz.prog 111 #[v] w λ e w'=>e=.returned (.bool (vG f))/\Below w.heap.size w w':=by
 obtain ⟨Ar,cr,A,c,rfl,hr,hb,-,-⟩:=hv;have hbl:=hb.len;have hrl:=hr.len
 by_cases wj:1<=f.blocks.length/\f.blocks.length<=64/\f.regs.length<=256
 ·obtain ⟨h1,h2,h3⟩:=wj;(go_enter Tryz.func111,Tryz.ntmps111);(go_wp2_with fail);obtain ⟨w1,wl,wJ,wQ,wh,wR,-⟩:=named w #[.int .i64 f.params,.int .i64 f.result,.slice Ar f.regs.length cr,.slice A f.blocks.length c] 30;rw [<- wl];clear wl wR;have wJ:w.heap.size<w1.heap.size:=by omega
  go_loopw [3,28] (λ q i wr=>∃ k:Nat,k<=f.blocks.length/\i=.int .i64 k/\q=.int .i64 ((f.blocks.length+z7 (f.blocks.take k):Nat):Int)/\z7 (f.blocks.take k)<=k * 2000000/\Below w1.heap.size w1 wr) (λ _ i _=>f.blocks.length - (intOf i).toNat)
  case atStart=>exact ⟨0,Nat.zero_le _,rfl,rfl,Nat.zero_le _,J5 _ _⟩
  case round =>
   obtain ⟨k,hk,rfl,rfl,hi,wg⟩:=hrel;have hs:=wg.size;have wO:Kept w1 wr:=q7 wg;have hB:Below w.heap.size w wr:=wh.trans (wg.mono (by omega))
   by_cases wM:k<f.blocks.length
   ·obtain ⟨b,o,kb,rfl,wv,⟨Ap,cp,hphi,hphis⟩,⟨Ai,ci,hins,hinss⟩,⟨hkd,-⟩,⟨har,-⟩,⟨At,ct,hto,htos⟩⟩:=(SBlks.keep (wQ.trans wO) hb).at_ wM;obtain ⟨hl1,hl2⟩:=wk.at_ wv.out;have wm:=q07 wv.out;have ww:=Jj wm;clear wm;(have hn:((f.blocks.length+z7 (f.blocks.take k):Nat):Int)=(f.blocks.length:Int)+(z7 (f.blocks.take k):Int):=by simp);generalize z7 (f.blocks.take k)=q at *;clear hn;go_wp2_with fail
    go_roundw
    case rel=>exact ⟨k+1,by omega,by go_num,by rw [ww.out];congr 1;omega,by rw [ww.out];omega,wg.alloc (by omega) _⟩
    case measure=>simp [intOf];omega
   ·have wu:f.blocks.take k=f.blocks:=List.take_of_length_le (by omega);rw [wu];have hd:vG f=decide (((f.blocks.length+z7 f.blocks:Nat):Int)<=256):=by
     unfold vG;congr 1;rw [eq_iff_iff];omega
    have HD:=Jj hd;clear hd wu hi;generalize z7 f.blocks=q at *;(go_wp2_with fail);(go_ret);exact ⟨by rw [HD.out];simp,hB⟩
 ·have hd:vG f=false:=by
   unfold vG;exact decide_eq_false (by omega)
  rw [hd];clear hd
  by_cases q1:f.blocks.length<1
  ·clear wj;(go_enter Tryz.func111,Tryz.ntmps111);(go_wp2_with fail);all_goals (go_ret;exact ⟨rfl,(J5 _ _).alloc (J4 _) _⟩)
  ·by_cases q2:64<f.blocks.length
   ·clear wj;(go_enter Tryz.func111,Tryz.ntmps111);(go_wp2_with fail);all_goals (go_ret;exact ⟨rfl,(J5 _ _).alloc (J4 _) _⟩)
   ·(have q3:256<f.regs.length:=by omega);clear wj;(go_enter Tryz.func111,Tryz.ntmps111);(go_wp2_with fail);all_goals (go_ret;exact ⟨rfl,(J5 _ _).alloc (J4 _) _⟩)
set_option maxRecDepth 100000 in
set_option maxHeartbeats 4000000 in
theorem q3k (f:qB) (v:Value) (w:World) (hv:VFun w v f) :
  Calls Tryz.prog 112 #[v] w λ e w'=>e=.returned (.bool (zv f))/\Below w.heap.size w w':=by
 obtain ⟨Ar,cr,A,c,rfl,hr,hb,-,-⟩:=hv;have hrl:=hr.len;(go_enter Tryz.func112,Tryz.ntmps112);(go_wp2_with fail);obtain ⟨w1,wj,wl,wm,wg,wh,-⟩:=named w #[.int .i64 f.params,.int .i64 f.result,.slice Ar f.regs.length cr,.slice A f.blocks.length c] 30;have hc0:=wh 0 _ rfl;have hcr:=wh 1 _ rfl;have hc2:=wh 2 _ rfl;rw [<- wj]
 clear wj wh;have wl:w.heap.size<w1.heap.size:=by omega
 go_loopw [8] (λ i wr=>∃ k:Nat,k<=f.regs.length/\i=.int .i64 k/\Hid ((f.regs.take k).all q8W=true)/\wr=w1) (λ i _=>f.regs.length - (intOf i).toNat)
 case atStart=>exact ⟨0,Nat.zero_le _,rfl,Jj rfl,rfl⟩
 case round =>
  obtain ⟨k,hk,rfl,hi,rfl⟩:=hrel
  by_cases wk:k<f.regs.length
  ·obtain ⟨b,o,x,rfl,hx,hxc,-⟩:=(SInts.keep wm hr).int wk
   by_cases h1:x=1
   ·subst h1;go_wp2_with fail
    go_roundw
    case rel=>exact ⟨k+1,by omega,by go_num,Jj (by rw [yN hx.out hi.out];rfl),trivial⟩
    case measure=>simp [intOf];omega
   ·by_cases h2:x=2
    ·subst h2;clear h1;go_wp2_with fail
     go_roundw
     case rel=>exact ⟨k+1,by omega,by go_num,Jj (by rw [yN hx.out hi.out];rfl),trivial⟩
     case measure=>simp [intOf];omega
    ·have hf:q8W x=false:=decide_eq_false (by omega);(have h1':(x != 1)=true:=by simpa using h1);(have h2':(x != 2)=true:=by simpa using h2);have HF:=Jj hf;clear h1 h2 hf;(go_wp2_with fail);(go_ret);exact ⟨by unfold zv;rw [vS hx.out HF.out];rfl,wg⟩
  ·have hd:=yu hi.out (Nat.le_of_not_lt wk);have HD:=Jj hd;clear hd
   by_cases hp:0<=f.params/\f.params<=8/\f.params<=f.regs.length
   ·obtain ⟨p1,p2,p3⟩:=hp;have HT:Hid (zv f=decide (f.result=0\/f.result=1\/f.result=2)):=Jj (by unfold zv;rw [HD.out,decide_eq_true (show 0<=f.params/\f.params<=8/\f.params<=f.regs.length from ⟨p1,p2,p3⟩)];rfl)
    by_cases r0:f.result=0
    ·(have HR:Hid (zv f=true):=Jj (by rw [HT.out];exact decide_eq_true (by omega)));(have r0':(f.result == 0)=true:=by simpa using r0);clear r0 HT;(go_wp2_with fail);(go_ret);exact ⟨by rw [HR.out];rfl,wg⟩
    ·by_cases r1:f.result=1
     ·(have HR:Hid (zv f=true):=Jj (by rw [HT.out];exact decide_eq_true (by omega)));(have r0':(f.result == 0)=false:=by simpa using r0);(have r1':(f.result == 1)=true:=by simpa using r1);clear r0 r1 HT;(go_wp2_with fail);(go_ret);exact ⟨by rw [HR.out];rfl,wg⟩
     ·(have HR:Hid (zv f=decide (f.result=2)):=Jj (by rw [HT.out];congr 1;rw [eq_iff_iff];omega));(have r0':(f.result == 0)=false:=by simpa using r0);(have r1':(f.result == 1)=false:=by simpa using r1);clear r0 r1 HT;(go_wp2_with fail);(go_ret);exact ⟨by rw [HR.out];simp [Bool.beq_eq_decide_eq],wg⟩
   ·have HT:Hid (zv f=false):=Jj (by unfold zv;rw [decide_eq_false hp,Bool.and_false];rfl)
    by_cases p1:f.params<0
    ·clear hp;(go_wp2_with fail);all_goals (go_ret;exact ⟨by rw [HT.out];rfl,wg⟩)
    ·by_cases p2:8<f.params
     ·clear hp;(go_wp2_with fail);all_goals (go_ret;exact ⟨by rw [HT.out];rfl,wg⟩)
     ·(have p3:(f.regs.length:Int)<f.params:=by omega);clear hp;(go_wp2_with fail);all_goals (go_ret;exact ⟨by rw [HT.out];rfl,wg⟩)
def zM (a:Int) (n:Int):Bool:=decide (0<=a/\a<n)
def q23 (l:List Int) (n:Int):Bool:=l.getLast? == some n
structure Grid (w:World) (G n:Nat) (V:Nat->Value) (L:Nat->List Int):Prop where
 row:w.rowIs G 27 n V
 own:∀ i,i<n->w.ownsRow (G+1) 3 1 (V i) (L i).length ((L i).map (Value.int .i64))
 apart:∀ i j,i<n->j<n->i≠j->(V i).ownBlock=none\/(V i).ownBlock≠(V j).ownBlock
theorem Grid.congr {w:World} {G n:Nat} {V:Nat->Value} {L L':Nat->List Int} (h:Grid w G n V L) (e:∀ i,i<n->L i=L' i):Grid w G n V L' :=
 ⟨h.row,λ i hi=>by rw [<- e i hi];exact h.own i hi,h.apart⟩
theorem Grid.alloc {w:World} {G n:Nat} {V:Nat->Value} {L:Nat->List Int} (h:Grid w G n V L) (o:Obj):Grid (w.alloc o) G n V L :=
 ⟨h.row.alloc o,λ i hi=>(h.own i hi).alloc o,h.apart⟩
theorem Grid.made (w:World) (G n:Nat) (hG:G=w.heap.size):Grid (w.alloc (.cells (madeCells #[.slice none 0 0] n) 27)) G n (λ _=>.slice none 0 0) (λ _=>[]):=by
 subst hG;exact ⟨World.rowIs_made w _ n _,λ i _=>World.ownsRow_nil _ _ _ _,λ i j _ _ _=>.inl rfl⟩
theorem Grid.push {w w3:World} {G n:Nat} {V:Nat->Value} {L:Nat->List Int} (h:Grid w G n V L) {t:Nat} (ht:t<n) {g cap:Nat} {x:Int}
  (wj:w3.ownsRow (G+1) 3 1 (.slice (some ⟨g,0,none⟩) ((L t).length+1) cap) ((L t).length+1) ((L t).map (Value.int .i64)++[.int .i64 x]))
  (wg:w.grownBy w3 (V t).ownBlock) (wk:(V t).ownBlock=some g\/g=w.heap.size) :
  Grid (w3.setCell ⟨G,t,none⟩ (.slice (some ⟨g,0,none⟩) ((L t).length+1) cap)) G n (λ j=>if j=t then .slice (some ⟨g,0,none⟩) ((L t).length+1) cap else V j) (λ j=>if j=t then L t++[x] else L j):=by
 (have wm:w3.heap[G]?=w.heap[G]?:=wg.block G h.row.lt (λ e=>by have:=((h.own t ht).lt G e.symm).1;omega));have wh:w3.rowIs G 27 n V:=h.row.of_block wm;refine ⟨wh.set t _,λ j hj=>?_,λ i j hi hj wl=>?_⟩
 ·by_cases e:j=t
  ·subst e;simp only [if_true];(have:=ownsRow_setCell_below wj (a:=⟨G,j,none⟩) (by show G<G+1;omega) (.slice (some ⟨g,0,none⟩) ((L j).length+1) cap));simpa using this
  ·simp only [if_neg e];exact ownsRow_setCell_below ((h.own j hj).kept wg (h.apart j t hj ht e)) (a:=⟨G,t,none⟩) (by show G<G+1;omega) _
 ·have key:∀ j,j<n->j≠t->(V j).ownBlock=none\/(V j).ownBlock≠some g:=λ j hj wu=>by
   rcases wk with e | e
   ·rw [<- e];exact h.apart j t hj ht wu
   ·cases hb:(V j).ownBlock with
    | none=>exact .inl rfl
    | some b=>right;intro e2;have:=((h.own j hj).lt b hb).2;simp at e2;omega
  by_cases ei:i=t
  ·subst ei;simp only [if_true,if_neg (Ne.symm wl)];right;rcases key j hj (Ne.symm wl) with e | e
   ·rw [e];simp [Value.ownBlock]
   ·intro e2;exact e (e2.symm.trans rfl)
  ·by_cases ej:j=t
   ·subst ej;simp only [if_true,if_neg ei];exact key i hi ei
   ·simp only [if_neg ei,if_neg ej];exact h.apart i j hi hj wl
theorem Tryz.info27:(Tryz.prog.info? 27).map (λ i=>(i.zero,i.size,i.bytes))=some (some (.slice none 0 0),1,24):=by kernel_rfl
def LJ (bs:List qE) (k:Nat) (t:List Int) (i:Nat):List Int:=qH (bs.take k) i++(if zd i t then [(k:Int)] else [])
theorem qBa (bs:List qE) (k i:Nat):LJ bs k [] i=qH (bs.take k) i:=by simp [LJ,zd]
theorem qBe {bs:List qE} {k:Nat} {x:qE} (i:Nat) (h:bs[k]?=some x):LJ bs k x.term.to i=qH (bs.take (k+1)) i:=(xC i h).symm
theorem qAG (bs:List qE) (k:Nat) (t:List Int) (i:Nat):q23 (LJ bs k t i) k=zd i t:=by
 unfold LJ q23;cases h:zd i t
 ·simp only [if_neg Bool.false_ne_true,List.append_nil];rw [beq_eq_false_iff_ne];intro e;have hm:=List.mem_of_getLast? e;have:=qw (bs.take k) 0 i _ hm;simp at this;omega
 ·simp
theorem qBc (bs:List qE) (k:Nat) (t:List Int) (i:Nat):(LJ bs k t i).length<=bs.length+1:=by
 unfold LJ;have:=vU (bs.take k) 0 i;rw [List.length_append,qH];have h2:(bs.take k).length<=bs.length:=by simp;omega
 split <;> simp <;> omega
theorem qBd (bs:List qE) (k:Nat) (t:List Int) (i:Nat) (hk:k<=1000000) (h:bs.length<=1000000):∀ x∈LJ bs k t i,I64 x:=by
 intro x hx;unfold LJ at hx;rcases List.mem_append.1 hx with hx | hx
 ·exact yE _ _ (by simp;omega) x hx
 ·split at hx
  ·rw [List.mem_singleton.1 hx];unfold I64;omega
  ·simp at hx
theorem q5a {bs:List qE} {k:Nat} {t:List Int} {j:Nat} {x:Int} (hx:t[j]?=some x) (i:Nat) (h:x≠i):LJ bs k (t.take j) i=LJ bs k (t.take (j+1)) i:=by
 unfold LJ;rw [xt _ hx,beq_eq_false_iff_ne.2 h,Bool.or_false]
theorem q9J {bs:List qE} {k:Nat} {t:List Int} {j:Nat} {x:Int} (hx:t[j]?=some x) (i:Nat) (h:zd x (t.take j)=true):LJ bs k (t.take j) i=LJ bs k (t.take (j+1)) i:=by
 by_cases e:x=i
 ·unfold LJ;rw [xt _ hx,<- e,h];rfl
 ·exact q5a hx i e
theorem qBb {bs:List qE} {k:Nat} {t:List Int} {j:Nat} {q:Nat} (hx:t[j]?=some (q:Int)) (i:Nat) (h:zd q (t.take j)=false) :
  (if i=q then LJ bs k (t.take j) q++[(k:Int)] else LJ bs k (t.take j) i)=LJ bs k (t.take (j+1)) i:=by
 by_cases e:i=q
 ·subst e;rw [if_pos rfl];unfold LJ;rw [xt _ hx,h];simp
 ·rw [if_neg e,q5a hx i (λ e2=>e (by omega))]
def RRow (w:World) (b o:Nat) (xs:List Int):Prop:=CS w b o 1 RInt xs
def kT (bs:List qE):List (List Int):=(List.range bs.length).map λ i=>qH bs (i:Nat)
theorem k8 (bs:List qE):(kT bs).length=bs.length:=by simp [kT]
theorem q2P {bs:List qE} {k:Nat} {x:List Int} (h:(kT bs)[k]?=some x):x=qH bs k:=by
 unfold kT at h;rw [List.getElem?_map] at h;obtain ⟨i,hi,rfl⟩:=Option.map_eq_some_iff.1 h;obtain ⟨hl,rfl⟩:=Jk hi;simp
theorem RRow.keep {w w':World} (h:Kept w w') (b o:Nat) (x:List Int) (hv:RRow w b o x):RRow w' b o x:=CS.keep h (RInt.keep h) hv
theorem Grid.reads {w:World} {G:Nat} {V:Nat->Value} {bs:List qE} (h:Grid w G bs.length V (λ i=>qH bs i)) (hn:bs.length<=1000000):SL w 1 RRow (some ⟨G,0,none⟩) bs.length (kT bs):=by
 (refine ⟨by rw [k8];omega,⟨by unfold maxLen;omega,λ e=>by cases e⟩,λ _=>⟨G,0,rfl,λ i x hi=>?_⟩⟩);(have hl:i<bs.length:=by have:=(Jk hi).1;rwa [k8] at this);rw [q2P hi,Nat.mul_one,Nat.zero_add];obtain ⟨A,c,e,hs⟩:=ql (h.own i hl) (yE _ _ (by omega));exact ⟨A,c,(h.row.cell hl).trans (congrArg some e),hs⟩
end Go.Proofs.YtfoggldjjnabcaaGreatDoor
