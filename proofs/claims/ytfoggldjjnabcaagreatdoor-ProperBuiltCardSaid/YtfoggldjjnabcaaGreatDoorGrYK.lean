/- The program's eachNamed: it hands each register that is named, and where, to what it is given. -/
import Derived.Test.YtfoggldjjnabcaaGreatDoorModAK
import Derived.Test.YtfoggldjjnabcaaGreatDoorPpBK
import Derived.Test.YtfoggldjjnabcaaGreatDoorLvSK
import Derived.Test.YtfoggldjjnabcaaGreatDoorChkDK
import Derived.Test.YtfoggldjjnabcaaGreatDoorDmAK
import Derived.Test.YtfoggldjjnabcaaGreatDoorDmMK
import Derived.Test.YtfoggldjjnabcaaGreatDoorGrNK
import Derived.Test.YtfoggldjjnabcaaGreatDoorDmEK
import Derived.WalkSpells
import Derived.StillTailTactics
set_option linter.unusedVariables false
set_option linter.unusedSimpArgs false
namespace Go.Proofs.YtfoggldjjnabcaaGreatDoor
open Go.ChangeShapes Go.WideShapes Go.RowKit Go.Deep
def nmP (f:qB) (p:PhiD) (al:List Int):List Mk:=al.mapIdx λ n q=>⟨p.args.getD n 0,q,((qR f q.toNat).length:Int)⟩
def nmX (i j:Nat) (args:List Int):List Mk:=args.map λ a=>⟨a,(i:Int),(j:Int)⟩
def jL (i:Nat) (l:List qN):List Mk:=(l.mapIdx λ j x=>nmX i j x.args).flatten
def nmT (i:Nat) (b:qE):List Mk:=if 0<=b.term.arg then [⟨b.term.arg,(i:Int),(b.ins.length:Int)⟩] else []
def y8 (f:qB) (i:Nat) (l:List PhiD):List Mk:=l.flatMap λ p=>nmP f p (qH f.blocks (i:Int))
def vt (f:qB):List qE->Nat->List Mk
 | [],_=>[]
 | b::l,i=>(y8 f i b.phis++jL i b.ins++nmT i b)++vt f l (i+1)
def nmL (f:qB):List Mk:=vt f f.blocks 0
theorem q3Z (f:qB):∀ (l:List qE) (i:Nat) (b:qE),vt f (l++[b]) i=vt f l i++(y8 f (i+l.length) b.phis++jL (i+l.length) b.ins++nmT (i+l.length) b)
 | [],i,b=>by simp [vt]
 | a::l,i,b=>by
  show (y8 f i a.phis++jL i a.ins++nmT i a)++vt f (l++[b]) (i+1)=((y8 f i a.phis++jL i a.ins++nmT i a)++vt f l (i+1))++_;rw [q3Z f l (i+1) b,List.length_cons,show i+1+l.length=i+(l.length+1) by omega];simp only [List.append_assoc]
theorem q3Y {f:qB} {k:Nat} {b:qE} (h:f.blocks[k]?=some b):vt f (f.blocks.take (k+1)) 0=vt f (f.blocks.take k) 0++(y8 f k b.phis++jL k b.ins++nmT k b):=by
 have hk:k<f.blocks.length:=(Jk h).1;rw [qG h,q3Z,List.length_take,Nat.min_eq_left (by omega),Nat.zero_add]
theorem q6i {f:qB} {l:List PhiD} {k i:Nat} {p:PhiD} (h:l[k]?=some p):y8 f i (l.take (k+1))=y8 f i (l.take k)++nmP f p (qH f.blocks (i:Int)):=by
 unfold y8;rw [qG h,List.flatMap_append];simp
theorem q8F {f:qB} {p:PhiD} {al:List Int} {k:Nat} {q:Int} (h:al[k]?=some q):nmP f p (al.take (k+1))=nmP f p (al.take k)++[⟨p.args.getD k 0,q,((qR f q.toNat).length:Int)⟩]:=by
 have hk:k<al.length:=(Jk h).1;(unfold nmP;rw [qG h,List.mapIdx_append]);simp [List.length_take,Nat.min_eq_left (Nat.le_of_lt hk)]
theorem q8H {l:List qN} {k i:Nat} {x:qN} (h:l[k]?=some x):jL i (l.take (k+1))=jL i (l.take k)++nmX i k x.args:=by
 have hk:k<l.length:=(Jk h).1;(unfold jL;rw [qG h,List.mapIdx_append,List.flatten_append]);simp [List.length_take,Nat.min_eq_left (Nat.le_of_lt hk)]
theorem q8E {args:List Int} {k i j:Nat} {a:Int} (h:args[k]?=some a):nmX i j (args.take (k+1))=nmX i j (args.take k)++[⟨a,(i:Int),(j:Int)⟩]:=by
 unfold nmX;rw [qG h,List.map_append];rfl
theorem q5r (f:qB):∀ (l:List qE) (i k:Nat) (b:qE) (e:Mk),l[k]?=some b->e∈(y8 f (i+k) b.phis++jL (i+k) b.ins++nmT (i+k) b)->e∈vt f l i
 | [],i,k,b,e,h,_=>by simp at h
 | a::l,i,0,b,e,h,he=>by
  (have:a=b:=by simpa using h);subst this;exact List.mem_append_left _ he
 | a::l,i,k+1,b,e,h,he=>by
  refine List.mem_append_right _ (q5r f l (i+1) k b e (by simpa using h) ?_);rw [show i+1+k=i+(k+1) by omega];exact he
theorem q2b {f:qB} {k:Nat} {b:qE} {e:Mk} (h:f.blocks[k]?=some b) (he:e∈y8 f k b.phis\/e∈jL k b.ins\/e∈nmT k b):e∈nmL f:=by
 refine q5r f f.blocks 0 k b e h ?_;rw [Nat.zero_add];rcases he with he | he | he
 ·exact List.mem_append_left _ (List.mem_append_left _ he)
 ·exact List.mem_append_left _ (List.mem_append_right _ he)
 ·exact List.mem_append_right _ he
theorem q9s {f:qB} {i n:Nat} {l:List PhiD} {p:PhiD} {q:Int} (hp:p∈l) (hq:(qH f.blocks (i:Int))[n]?=some q):(⟨p.args.getD n 0,q,((qR f q.toNat).length:Int)⟩:Mk)∈y8 f i l:=by
 unfold y8 nmP;refine List.mem_flatMap.2 ⟨p,hp,List.mem_mapIdx.2 ⟨n,(Jk hq).1,?_⟩⟩;rw [(Jk hq).2]
theorem q9t {i j:Nat} {l:List qN} {x:qN} {a:Int} (hx:l[j]?=some x) (ha:a∈x.args):(⟨a,(i:Int),(j:Int)⟩:Mk)∈jL i l:=by
 unfold jL nmX;refine List.mem_flatten.2 ⟨x.args.map λ a=>(⟨a,(i:Int),(j:Int)⟩:Mk),List.mem_mapIdx.2 ⟨j,(Jk hx).1,?_⟩,List.mem_map.2 ⟨a,ha,rfl⟩⟩;rw [(Jk hx).2]
structure qBt (P:List Mk->World->Prop) (X:Nat->Prop) (Q:Mk->Prop) (cl:FuncId) (c1 c2 c3 c4:Value) (w0:World):Prop where
 en:∀ (args:Array Value) (w:World),(callFunc cl args).run Tryz.prog w=.ok (.enter cl args) w
 low:∀ b,X b->b<w0.heap.size
 keep:∀ l w w',P l w->Below w.heap.size w w'->P l w'
 call:∀ l (e:Mk) w,P l w->FrX X w0 w->Q e->Calls Tryz.prog cl #[.int .i64 e.r,e.v,c1,c2,c3,c4] w λ en w'=>en=.returned (.tuple #[])/\P (l++[e]) w'/\FrX X w w'
set_option maxRecDepth 100000 in
set_option maxHeartbeats 32000000 in
theorem q1V {P:List Mk->World->Prop} {X:Nat->Prop} {Q:Mk->Prop} {cl:FuncId} {c1 c2 c3 c4:Value} (f:qB) (vf:Value) (w00 w:World) (V:qBt P X Q cl c1 c2 c3 c4 w)
  (hf:VFun w00 vf f) (hK:∀ w',FrX X w w'->Kept w00 w') (hP:P [] w) (hnb:f.blocks.length<=1000)
  (tY:∀ (i:Nat) (b:qE),f.blocks[i]?=some b->∀ p∈b.phis,p.args.length=(qH f.blocks (i:Int)).length) (hQ:∀ e∈nmL f,Q e) :
  Calls Tryz.prog 80 #[vf,.func (.func cl) #[] #[c1,c2,c3,c4]] w λ en w'=>en=.returned (.tuple #[])/\P (nmL f) w'/\FrX X w w':=by
 have sf:=hf;obtain ⟨Ar,cr,Ab,cb,rfl,sC,tG,-,-⟩:=hf;have hbl:=tG.len;have sY:=Jj tG;have HK:=Jj hK;have HV:=Jj V;have HP:=Jj hP;have HF:=Jj sf;have sS:=Jj tY
 have HQ:=Jj hQ;clear sC tG V hP hK sf tY hQ;(go_enter Tryz.func80,Tryz.ntmps80);(go_upto_region 1 with fail);obtain ⟨w1,tV,sB,sd,wQ,ta,-⟩:=named w #[.int .i64 f.params,.int .i64 f.result,.slice Ar f.regs.length cr,.slice Ab f.blocks.length cb] 30;rw [<- tV];obtain ⟨A,hA⟩:∃ A,A=w.heap.size:=⟨_,rfl⟩;rw [<- hA] at ta ⊢;have f0:w1.cell? ⟨A,0,none⟩=some (.int .i64 f.params):=ta 0 _ rfl
 have f1:w1.cell? ⟨A,1,none⟩=some (.int .i64 f.result):=ta 1 _ rfl;have f2:w1.cell? ⟨A,2,none⟩=some (.slice Ar f.regs.length cr):=ta 2 _ rfl;have f3:w1.cell? ⟨A,3,none⟩=some (.slice Ab f.blocks.length cb):=ta 3 _ rfl;have tS:=Jj wQ;have sw:=Jj (xM f _ w1 (VFun.keep (λ a v h=>sd _ _ (HK.out w (FrX.refl _ _) _ _ h)) HF.out) (by omega));have HA:=Jj hA;clear tV sB sd wQ ta hA;(go_wp2_with fail);refine sw.out.mono ?_
 rintro e w2 ⟨⟨VA,GA,rfl,hGA,wZ⟩,wU⟩;have hAw:A<w1.heap.size:=block_lt_of_cell f0;(have wv:Hid (w.heap.size<=A/\A<w2.heap.size/\w.heap.size<=GA):=Jj ⟨by rw [HA.out];exact J4 _,by have:=wU.size;omega,by have:=tS.out.size;omega⟩);have f0:=q7 wU _ _ f0;have f1:=q7 wU _ _ f1;have f2:=q7 wU _ _ f2;have f3:=q7 wU _ _ f3;have su:Hid (Below w.heap.size w w2):=Jj (tS.out.trans (wU.mono tS.out.size));have sX:=Jj wZ
 have sq:Hid (w2.cell? ⟨A,0,none⟩=some (.int .i64 f.params)/\w2.cell? ⟨A,1,none⟩=some (.int .i64 f.result)/\w2.cell? ⟨A,2,none⟩=some (.slice Ar f.regs.length cr)/\w2.cell? ⟨A,3,none⟩=some (.slice Ab f.blocks.length cb)):=Jj ⟨f0,f1,f2,f3⟩;have sW:Hid (P [] w2):=Jj (HV.out.keep _ _ _ HP.out su.out)
 
 have HX:Hid (∀ wr,FrX X w2 wr->FrX X w wr/\(∀ a v,w2.cell? a=some v->¬ X a.block->wr.cell? a=some v)):=Jj (λ wr h =>
  ⟨(FrX.of_below su.out).trans h,λ a v ha hn=>(JK (h.block a.block (block_lt_of_cell ha) hn)).trans ha⟩)
 have wl:Hid (∀ b,w.heap.size<=b->¬ X b):=Jj (λ b hb hx=>by have:=HV.out.low _ hx;omega)
 have r8:Hid (∀ q,q<f.blocks.length->∃ A c,VA q=.slice A (qH f.blocks (q:Int)).length c/\∀ wr,FrX X w2 wr->SL wr 1 RInt A c (qH f.blocks (q:Int))):=Jj (λ q hq=>by
  obtain ⟨A',c',tX,hs'⟩:=ql (wZ.own q hq) (yE _ _ (by omega));refine ⟨A',c',tX,λ wr hx=>?_⟩;(obtain ⟨A2,c2,tW,sy⟩:=ql (qJ (wZ.own q hq) (λ g hg=>hx.block g ((wZ.own q hq).lt g hg).2 (wl.out g (by have:=((wZ.own q hq).lt g hg).1;have:=wv.out.2.2;omega)))) (yE _ _ (by omega)));rw [tX] at tW;cases tW
  exact sy)
 clear wU hGA wZ hAw f0 f1 f2 sw;(go_wp2_with fail);clear f3
 go_loopw [20] (λ i wr=>∃ k:Nat,k<=f.blocks.length/\i=.int .i64 k/\P (vt f (f.blocks.take k) 0) wr/\FrX X w2 wr) (λ i _=>f.blocks.length - (intOf i).toNat)
 case atStart=>exact ⟨0,Nat.zero_le _,rfl,sW.out,FrX.refl _ _⟩
 case round =>
  obtain ⟨q,hq,rfl,hp,hx⟩:=hrel;have sk:=Jj hp;have sL:=Jj hx;have tH:=Jj (HX.out _ hx).1;clear hp hx
  by_cases tC:q<f.blocks.length
  ·obtain ⟨bt,ot,kb,rfl,sc,⟨Ap,cp,p0,s0⟩,⟨Ai,ci,p1,s1⟩,⟨p2,-⟩,⟨p3,-⟩,At,ct,p4,-⟩:=sY.out.at_ tC;have wY:=HK.out _ tH.out;have p0:=wY _ _ p0;have p1:=wY _ _ p1;have p2:=wY _ _ p2;have p3:=wY _ _ p3;have p4:=wY _ _ p4;have sR:=Jj s0;have sQ:=Jj s1
   have wW:=Jj sc.out;have hl0:=s0.len;have hl1:=s1.len;(have hq0:(0:Int)<=q:=by omega);(have hq1:(q:Int)<f.blocks.length:=by omega);obtain ⟨Aq,cq,hVq,hSq⟩:=r8.out q tC;have sN:=Jj hVq;have sO:=Jj hSq;clear s0 s1 sc wY hVq hSq
   (go_upto_region 5 with fail);obtain ⟨w3,tU,sx,sG,wm,tf,-⟩:=named wr #[.slice Ap kb.phis.length cp,.slice Ai kb.ins.length ci,.int .i64 kb.term.kind,.int .i64 kb.term.arg,.slice At kb.term.to.length ct] 51;rw [<- tU];obtain ⟨C,hC⟩:∃ C,C=wr.heap.size:=⟨_,rfl⟩;rw [<- hC] at tf ⊢;have d0:w3.cell? ⟨C,0,none⟩=some (.slice Ap kb.phis.length cp):=tf 0 _ rfl;have d1:w3.cell? ⟨C,1,none⟩=some (.slice Ai kb.ins.length ci):=tf 1 _ rfl;have d3:w3.cell? ⟨C,3,none⟩=some (.int .i64 kb.term.arg):=tf 3 _ rfl
   have tw:Hid (∀ wz,FrX X w3 wz->FrX X w2 wz/\FrX X w wz/\(∀ a v,w3.cell? a=some v->w.heap.size<=a.block->wz.cell? a=some v)):=Jj (λ wz h=>by
    have h1:=(sL.out.trans (FrX.of_below wm)).trans h
    exact ⟨h1,(HX.out _ h1).1,λ a v ha hn=>(JK (h.block a.block (block_lt_of_cell ha) (wl.out _ hn))).trans ha⟩)
   (have ss:Hid (w.heap.size<=C):=Jj (by have:=tH.out.size;omega));have sr:=Jj (And.intro d1 d3)
   have sV:Hid (P (vt f (f.blocks.take q) 0++y8 f q (kb.phis.take 0)) w3):=Jj (by
    have h:=HV.out.keep _ _ _ sk.out wm;rw [List.take_zero];show P (_++[]) w3
    rw [List.append_nil];exact h)
   clear tU sx sG wm tf hC p0 p1 p2 p3 p4 d1 d3;(go_wp2_with fail);clear d0
   go_loopw [28] (λ i wz=>∃ j:Nat,j<=kb.phis.length/\i=.int .i64 j/\P (vt f (f.blocks.take q) 0++y8 f q (kb.phis.take j)) wz/\FrX X w3 wz) (λ i _=>kb.phis.length - (intOf i).toNat)
   case atStart=>exact ⟨0,Nat.zero_le _,rfl,sV.out,FrX.refl _ _⟩
   case round =>
    obtain ⟨j,hj,rfl,hp,hx⟩:=hrel;obtain ⟨wh,wj,hxC⟩:=tw.out _ hx;have tj:=Jj hp;have tu:=Jj hx;have tK:=Jj wh;have wJ:=Jj wj
    by_cases tF:j<kb.phis.length
    ·obtain ⟨bp,op,pd,rfl,tD,⟨t0,-⟩,Ag,cg,t1,sg⟩:=sR.out.at_ tF;have wu:=HK.out _ wj;have t0:=wu _ _ t0;have t1:=wu _ _ t1;have sp:=Jj tD.out;have tN:=Jj sg;have sm:=Jj (sS.out q kb wW.out pd (Jz tD.out));have sJ:=sg.len;have sI:(0:Int)<=j:=by omega
     (have sH:(j:Int)<kb.phis.length:=by omega);have g0:wr.cell? ⟨GA,q,none⟩=some (.slice Aq (qH f.blocks (q:Int)).length cq):=by
      rw [<- sN.out];exact (HX.out _ wh).2 _ _ (sX.out.row.cell tC) (wl.out _ wv.out.2.2)
     clear hp hx wh wj hxC tD wu sg;(go_upto_region 8 with fail);obtain ⟨w4,td,tB,tr,wg,wT,-⟩:=named wr #[.int .i64 pd.dst,.slice Ag pd.args.length cg] 55;rw [<- td];obtain ⟨E,hE⟩:∃ E,E=wr.heap.size:=⟨_,rfl⟩;rw [<- hE] at wT ⊢;have x1:w4.cell? ⟨E,1,none⟩=some (.slice Ag pd.args.length cg):=wT 1 _ rfl;have g0:=tr _ _ g0;have sM:=Jj x1
     have sZ:Hid (w.heap.size<=E):=Jj (by have:=wJ.out.size;omega)
     have tM:Hid (∀ wz,FrX X w4 wz->FrX X w3 wz/\FrX X w2 wz/\FrX X w wz/\(∀ a v,w4.cell? a=some v->w.heap.size<=a.block->wz.cell? a=some v)):=Jj (λ wz h=>by
      have h1:=(tu.out.trans (FrX.of_below wg)).trans h;obtain ⟨h2,h3,-⟩:=tw.out _ h1
      exact ⟨h1,h2,h3,λ a v ha hn=>(JK (h.block a.block (block_lt_of_cell ha) (wl.out _ hn))).trans ha⟩)
     have tP:Hid (P ((vt f (f.blocks.take q) 0++y8 f q (kb.phis.take j))++nmP f pd ((qH f.blocks (q:Int)).take 0)) w4):=Jj (by
      have h:=HV.out.keep _ _ _ tj.out wg;rw [List.take_zero];show P (_++[]) w4
      rw [List.append_nil];exact h)
     have sK:=vU f.blocks 0 (q:Int);(have sK:(qH f.blocks (q:Int)).length<=1000:=by unfold qH;omega);clear td tB tr wg wT hE t0 t1 x1;(go_wp2_with fail);clear g0
     go_loopw [37] (λ i wy=>∃ n:Nat,n<=(qH f.blocks (q:Int)).length/\i=.int .i64 n/\P ((vt f (f.blocks.take q) 0++y8 f q (kb.phis.take j))++nmP f pd ((qH f.blocks (q:Int)).take n)) wy/\FrX X w4 wy) (λ i _=>(qH f.blocks (q:Int)).length - (intOf i).toNat)
     case atStart=>exact ⟨0,Nat.zero_le _,rfl,tP.out,FrX.refl _ _⟩
     case round =>
      obtain ⟨n,hn,rfl,hp,hx⟩:=hrel;obtain ⟨wR,wh,wj,hxE⟩:=tM.out _ hx;have th:=Jj hp;have tJ:=Jj hx;have ww:=Jj wj
      by_cases tE:n<(qH f.blocks (q:Int)).length
      ·obtain ⟨ba,oa,xa,rfl,tz,t2,-⟩:=(sO.out wr wh).at_ tE;obtain ⟨pa,rfl,tZ⟩:=q9C tz.out;rw [Nat.mul_one] at t2;(obtain ⟨bg,og,ya,rfl,wX,t3,-⟩:=(SInts.keep (HK.out _ wj) tN.out).at_ (k:=n) (by have:=sm.out;omega));rw [Nat.mul_one] at t3;have x1:=hxE _ _ sM.out sZ.out;obtain ⟨f0,f1,f2,f3⟩:=sq.out;have f0:=(HX.out _ wh).2 _ _ f0 (wl.out _ wv.out.1);have f1:=(HX.out _ wh).2 _ _ f1 (wl.out _ wv.out.1)
       have f2:=(HX.out _ wh).2 _ _ f2 (wl.out _ wv.out.1);have f3:=(HX.out _ wh).2 _ _ f3 (wl.out _ wv.out.1);(have sF:(0:Int)<=n:=by omega);(have sE:(n:Int)<(qH f.blocks (q:Int)).length:=by omega);(have hn2:(n:Int)<pd.args.length:=by have:=sm.out;omega);have tq:f.blocks[pa]?=some f.blocks[pa]:=Jq tZ;obtain ⟨kp,sb⟩:∃ kp,kp=f.blocks[pa]:=⟨_,rfl⟩;rw [<- sb] at tq;have tc:Hid (pd.args.getD n 0=ya/\((qR f ((pa:Nat):Int).toNat).length:Int)=kp.ins.length):=Jj ⟨by rw [JJ,wX.out];rfl,by rw [Int.toNat_natCast,qe tq]⟩
       have si:=Jj tz.out
       have tQ:Hid (∀ W,Below wr.heap.size wr W->Calls Tryz.prog 119 #[.agg #[.int .i64 f.params,.int .i64 f.result,.slice Ar f.regs.length cr,.slice (some ⟨bt,ot,none⟩) f.blocks.length cb],.int .i64 (pa:Int)] W λ e w'=>e=.returned (.agg #[.int .i64 (pa:Int),.int .i64 (kp.ins.length:Int)])/\Below W.heap.size W w'):=Jj (λ W hW =>
        q24 f _ W (VFun.keep (λ a v h=>q7 hW _ _ (HK.out _ ww.out _ _ h)) HF.out) pa kp tq)
       have tp:Hid (∀ W,Below wr.heap.size wr W->Calls Tryz.prog cl #[.int .i64 ya,.agg #[.int .i64 (pa:Int),.int .i64 (kp.ins.length:Int)],c1,c2,c3,c4] W λ en w'=>en=.returned (.tuple #[])/\P ((vt f (f.blocks.take q) 0++y8 f q (kb.phis.take j))++nmP f pd ((qH f.blocks (q:Int)).take (n+1))) w'/\FrX X wr w'):=Jj (λ W hW=>by
        have sD:(⟨ya,(pa:Int),(kp.ins.length:Int)⟩:Mk)∈y8 f q kb.phis:=by
         rw [<- tc.out.1,<- tc.out.2];exact q9s (Jz sp.out) si.out
        refine (HV.out.call _ ⟨ya,(pa:Int),(kp.ins.length:Int)⟩ W (HV.out.keep _ _ _ th.out hW) (ww.out.trans (FrX.of_below hW)) (HQ.out _ (q2b wW.out (.inl sD)))).mono ?_;rintro en w' ⟨h1,h2,h3⟩;refine ⟨h1,?_,(FrX.of_below hW).trans h3⟩
        rw [q8F si.out,tc.out.1,tc.out.2,<- List.append_assoc];exact h2)
       clear hp hx wR wh wj hxE tz wX tq sb tZ;(go_upto_region 11 with fail);have hS:∀ W,Below wr.heap.size wr W->W.cell? ⟨E,1,none⟩=some (.slice (some ⟨bg,og,none⟩) pd.args.length cg)/\W.cell? ⟨bg,og+n,none⟩=some (.int .i64 ya)/\W.cell? ⟨A,0,none⟩=some (.int .i64 f.params)/\W.cell? ⟨A,1,none⟩=some (.int .i64 f.result)/\W.cell? ⟨A,2,none⟩=some (.slice Ar f.regs.length cr)/\W.cell? ⟨A,3,none⟩=some (.slice (some ⟨bt,ot,none⟩) f.blocks.length cb):=λ W hW =>
        ⟨q7 hW _ _ x1,q7 hW _ _ t3,q7 hW _ _ f0,q7 hW _ _ f1,q7 hW _ _ f2,q7 hW _ _ f3⟩
       have hS0:=hS wr.drew (J5 _ wr).drew;have HS:=Jj hS;clear hS t2 t3 x1 f0 f1 f2 f3;refine qS (L:=9) (S:=λ W:World=>W.cell? ⟨E,1,none⟩=some (.slice (some ⟨bg,og,none⟩) pd.args.length cg)/\W.cell? ⟨bg,og+n,none⟩=some (.int .i64 ya)/\W.cell? ⟨A,0,none⟩=some (.int .i64 f.params)/\W.cell? ⟨A,1,none⟩=some (.int .i64 f.result)/\W.cell? ⟨A,2,none⟩=some (.slice Ar f.regs.length cr)/\W.cell? ⟨A,3,none⟩=some (.slice (some ⟨bt,ot,none⟩) f.blocks.length cb)) (by kernel_rfl) (by rfl) (by kernel_rfl) (by kernel_rfl) ?_;change wpAnyH _ _ _ _ _ _ _ _ (World.drew _);refine tk 0 42 hS0 ?_;simp only [J6,aS,J1,J2];refine tk 1 43 hS0 ?_;simp only [J6,aS,J1,J2]
       refine tk 2 44 hS0 ?_;simp only [J6,aS,J1,J2];refine tk 3 45 hS0 ?_;simp only [J6,aS,J1,J2];refine tk 4 46 hS0 ?_;simp only [J6,aS,J1,J2];refine tk 5 47 hS0 ?_;simp only [J6,aS,J1,J2];refine tk 6 48 hS0 ?_
       simp only [J6,aS,J1,J2];refine tk 7 49 hS0 ?_;simp only [J6,aS,J1,J2];refine zk (i:=8) (by kernel_rfl) (λ o ho K' hK=>?_);(simp only [JZ,JX,JY,J0] at ho;subst ho);(go_simp);refine (tQ.out wr.drew (J5 _ wr).drew).mono ?_;rintro en w5 ⟨rfl,tg⟩;have wk:Below wr.heap.size wr w5:=(J5 _ wr).drew.trans tg
       have tR:=Jj wk;(go_wp2_with fail);refine hK.out _ _ (HS.out w5 wk) ?_;clear hK K' hS0 tg wk;(try simp only [J6,aS,J1,J2]);refine wpAnyH_done (by kernel_rfl) ?_ _;refine vL (by decide) (λ o ho K' hK=>?_);(simp only [JZ,JX,JY,J0] at ho;subst ho);go_simp
       rw [HV.out.en,Oper.upon_enter];refine (tp.out w5 tR.out).mono ?_;rintro en w6 ⟨rfl,wM,wO⟩;have wV:=Jj wM;have tm:=Jj (tJ.out.trans wO);clear wM wO;(go_wp2_with fail);refine hK.out _ _ ?_;clear hK K'
       go_wp2_with fail
       go_roundw
       case rel=>exact ⟨n+1,by omega,by go_num,wV.out,tm.out⟩
       case measure=>simp [intOf];omega
      ·obtain rfl:n=(qH f.blocks (q:Int)).length:=by omega
       have tO:Hid (P (vt f (f.blocks.take q) 0++y8 f q (kb.phis.take (j+1))) wr):=Jj (by
        have h:=th.out;rw [List.take_of_length_le (J4 _),List.append_assoc,<- q6i sp.out] at h
        exact h)
       have tL:=Jj wR;clear hp hx wR wh wj hxE;go_wp2_with fail
       go_roundw
       case rel=>exact ⟨j+1,by omega,by go_num,tO.out,tL.out⟩
       case measure=>simp [intOf];omega
    ·obtain rfl:j=kb.phis.length:=by omega
     have sU:Hid (P ((vt f (f.blocks.take q) 0++y8 f q kb.phis)++jL q (kb.ins.take 0)) wr):=Jj (by
      have h:=tj.out;rw [List.take_of_length_le (J4 _)] at h;rw [List.take_zero];show P (_++[]) wr
      rw [List.append_nil];exact h)
     have d1:=hxC _ _ sr.out.1 ss.out;obtain ⟨u28,rfl⟩:∃ u,u=wr:=⟨_,rfl⟩;clear hp hx wh wj hxC;(go_wp2_with fail);clear d1
     go_loopw [57] (λ i wz=>∃ j:Nat,j<=kb.ins.length/\i=.int .i64 j/\P ((vt f (f.blocks.take q) 0++y8 f q kb.phis)++jL q (kb.ins.take j)) wz/\FrX X w3 wz) (λ i _=>kb.ins.length - (intOf i).toNat)
     case atStart=>exact ⟨0,Nat.zero_le _,rfl,sU.out,tu.out⟩
     case round =>
      obtain ⟨j,hj,rfl,hp,hx⟩:=hrel;obtain ⟨wh,wj,hxC⟩:=tw.out _ hx;have tj:=Jj hp;have tu:=Jj hx;have tK:=Jj wh;have wJ:=Jj wj
      by_cases tF:j<kb.ins.length
      ·obtain ⟨bp,op,xd,rfl,tT,⟨t0,-⟩,⟨t1,-⟩,⟨Ag,cg,t2,sg⟩,⟨t3,-⟩,⟨t4,-⟩⟩:=sQ.out.at_ tF;have wu:=HK.out _ wj;have t0:=wu _ _ t0;have t1:=wu _ _ t1;have t2:=wu _ _ t2;have t3:=wu _ _ t3;have t4:=wu _ _ t4;have sh:=Jj tT.out;have tN:=Jj sg
       have sJ:=sg.len;(have sI:(0:Int)<=j:=by omega);(have sH:(j:Int)<kb.ins.length:=by omega);clear hp hx wh wj hxC tT wu sg;(go_upto_region 17 with fail);obtain ⟨w4,td,tB,tr,wg,wT,-⟩:=named wr #[.int .i64 xd.op,.int .i64 xd.dst,.slice Ag xd.args.length cg,.int .i64 xd.imm,.int .i64 xd.fn] 53;rw [<- td];obtain ⟨E,hE⟩:∃ E,E=wr.heap.size:=⟨_,rfl⟩;rw [<- hE] at wT ⊢
       have x2:w4.cell? ⟨E,2,none⟩=some (.slice Ag xd.args.length cg):=wT 2 _ rfl
       have tM:Hid (∀ wz,FrX X w4 wz->FrX X w3 wz/\FrX X w wz):=Jj (λ wz h=>by
        have h1:=(tu.out.trans (FrX.of_below wg)).trans h
        exact ⟨h1,(tw.out _ h1).2.1⟩)
       have tP:Hid (P (((vt f (f.blocks.take q) 0++y8 f q kb.phis)++jL q (kb.ins.take j))++nmX q j (xd.args.take 0)) w4):=Jj (by
        have h:=HV.out.keep _ _ _ tj.out wg;rw [List.take_zero];show P (_++[]) w4
        rw [List.append_nil];exact h)
       clear td tB tr wg wT hE t0 t1 t2 t3 t4;(go_wp2_with fail);clear x2
       go_loopw [65] (λ i wy=>∃ n:Nat,n<=xd.args.length/\i=.int .i64 n/\P (((vt f (f.blocks.take q) 0++y8 f q kb.phis)++jL q (kb.ins.take j))++nmX q j (xd.args.take n)) wy/\FrX X w4 wy) (λ i _=>xd.args.length - (intOf i).toNat)
       case atStart=>exact ⟨0,Nat.zero_le _,rfl,tP.out,FrX.refl _ _⟩
       case round =>
        obtain ⟨n,hn,rfl,hp,hx⟩:=hrel;obtain ⟨wR,wj⟩:=tM.out _ hx;have th:=Jj hp;have tJ:=Jj hx;have ww:=Jj wj
        by_cases tE:n<xd.args.length
        ·obtain ⟨bg,og,ya,rfl,wX,t3,-⟩:=(SInts.keep (HK.out _ wj) tN.out).at_ tE;rw [Nat.mul_one] at t3;(have sF:(0:Int)<=n:=by omega);(have sE:(n:Int)<xd.args.length:=by omega);have tc:=Jj wX.out;have tp:=Jj (HV.out.call _ ⟨ya,(q:Int),(j:Int)⟩ wr th.out ww.out (HQ.out _ (q2b wW.out (.inr (.inl (q9t sh.out (Jz wX.out)))))));clear hp hx wR wj wX;(go_wp2_with fail);rw [HV.out.en,Oper.upon_enter]
         refine tp.out.mono ?_;rintro en w6 ⟨rfl,wM,wO⟩;(have wV:Hid (P (((vt f (f.blocks.take q) 0++y8 f q kb.phis)++jL q (kb.ins.take j))++nmX q j (xd.args.take (n+1))) w6):=Jj (by rw [q8E tc.out,<- List.append_assoc];exact wM));have tm:=Jj (tJ.out.trans wO);clear wM wO t3;go_wp2_with fail
         go_roundw
         case rel=>exact ⟨n+1,by omega,by go_num,wV.out,tm.out⟩
         case measure=>simp [intOf];omega
        ·obtain rfl:n=xd.args.length:=by omega
         have tO:Hid (P ((vt f (f.blocks.take q) 0++y8 f q kb.phis)++jL q (kb.ins.take (j+1))) wr):=Jj (by
          have h:=th.out;rw [List.take_of_length_le (J4 _),List.append_assoc,<- q8H sh.out] at h
          exact h)
         have tL:=Jj wR;clear hp hx wR wj;go_wp2_with fail
         go_roundw
         case rel=>exact ⟨j+1,by omega,by go_num,tO.out,tL.out⟩
         case measure=>simp [intOf];omega
      ·(obtain rfl:j=kb.ins.length:=by omega);have d3:=hxC _ _ sr.out.2 ss.out;have sj:=Jj wh
       have sn:Hid (P ((vt f (f.blocks.take q) 0++y8 f q kb.phis)++jL q kb.ins) wr):=Jj (by
        have h:=tj.out
        rw [List.take_of_length_le (J4 _)] at h;exact h)
       by_cases ht:0<=kb.term.arg
       ·have tx:Hid (nmT q kb=[⟨kb.term.arg,(q:Int),(kb.ins.length:Int)⟩]):=Jj (if_pos ht);obtain ⟨f0,f1,f2,f3⟩:=sq.out;have f0:=(HX.out _ wh).2 _ _ f0 (wl.out _ wv.out.1);have f1:=(HX.out _ wh).2 _ _ f1 (wl.out _ wv.out.1);have f2:=(HX.out _ wh).2 _ _ f2 (wl.out _ wv.out.1);have f3:=(HX.out _ wh).2 _ _ f3 (wl.out _ wv.out.1)
        have tQ:Hid (∀ W,Below wr.heap.size wr W->Calls Tryz.prog 119 #[.agg #[.int .i64 f.params,.int .i64 f.result,.slice Ar f.regs.length cr,.slice (some ⟨bt,ot,none⟩) f.blocks.length cb],.int .i64 (q:Int)] W λ e w'=>e=.returned (.agg #[.int .i64 (q:Int),.int .i64 (kb.ins.length:Int)])/\Below W.heap.size W w'):=Jj (λ W hW =>
         q24 f _ W (VFun.keep (λ a v h=>q7 hW _ _ (HK.out _ wJ.out _ _ h)) HF.out) q kb wW.out)
        have tp:Hid (∀ W,Below wr.heap.size wr W->Calls Tryz.prog cl #[.int .i64 kb.term.arg,.agg #[.int .i64 (q:Int),.int .i64 (kb.ins.length:Int)],c1,c2,c3,c4] W λ en w'=>en=.returned (.tuple #[])/\P (vt f (f.blocks.take (q+1)) 0) w'/\FrX X wr w'):=Jj (λ W hW=>by
         (refine (HV.out.call _ ⟨kb.term.arg,(q:Int),(kb.ins.length:Int)⟩ W (HV.out.keep _ _ _ sn.out hW) (wJ.out.trans (FrX.of_below hW)) (HQ.out _ (q2b wW.out (.inr (.inr (by rw [tx.out];exact List.mem_singleton.2 rfl)))))).mono ?_);rintro en w' ⟨h1,h2,h3⟩;refine ⟨h1,?_,(FrX.of_below hW).trans h3⟩;rw [q3Y wW.out,tx.out];simp only [List.append_assoc] at h2 ⊢
         exact h2)
        have HS:Hid (∀ W,Below wr.heap.size wr W->W.cell? ⟨C,3,none⟩=some (.int .i64 kb.term.arg)/\W.cell? ⟨A,0,none⟩=some (.int .i64 f.params)/\W.cell? ⟨A,1,none⟩=some (.int .i64 f.result)/\W.cell? ⟨A,2,none⟩=some (.slice Ar f.regs.length cr)/\W.cell? ⟨A,3,none⟩=some (.slice (some ⟨bt,ot,none⟩) f.blocks.length cb)):=Jj (λ W hW =>
         ⟨q7 hW _ _ d3,q7 hW _ _ f0,q7 hW _ _ f1,q7 hW _ _ f2,q7 hW _ _ f3⟩)
        clear hp hx wh wj hxC;(go_upto_region 24 with fail);have hS0:=HS.out wr.drew (J5 _ wr).drew;clear d3 f0 f1 f2 f3;refine qS (L:=7) (S:=λ W:World=>W.cell? ⟨C,3,none⟩=some (.int .i64 kb.term.arg)/\W.cell? ⟨A,0,none⟩=some (.int .i64 f.params)/\W.cell? ⟨A,1,none⟩=some (.int .i64 f.result)/\W.cell? ⟨A,2,none⟩=some (.slice Ar f.regs.length cr)/\W.cell? ⟨A,3,none⟩=some (.slice (some ⟨bt,ot,none⟩) f.blocks.length cb)) (by kernel_rfl) (by rfl) (by kernel_rfl) (by kernel_rfl) ?_;change wpAnyH _ _ _ _ _ _ _ _ (World.drew _);refine tk 0 81 hS0 ?_;simp only [J6,aS,J1,J2];refine tk 1 82 hS0 ?_
        simp only [J6,aS,J1,J2];refine tk 2 83 hS0 ?_;simp only [J6,aS,J1,J2];refine tk 3 84 hS0 ?_;simp only [J6,aS,J1,J2];refine tk 4 85 hS0 ?_;simp only [J6,aS,J1,J2];refine tk 5 86 hS0 ?_;simp only [J6,aS,J1,J2]
        refine zk (i:=6) (by kernel_rfl) (λ o ho K' hK=>?_);(simp only [JZ,JX,JY,J0] at ho;subst ho);(go_simp);refine (tQ.out wr.drew (J5 _ wr).drew).mono ?_;rintro en w5 ⟨rfl,tg⟩;have wk:Below wr.heap.size wr w5:=(J5 _ wr).drew.trans tg;have tR:=Jj wk;(go_wp2_with fail);refine hK.out _ _ (HS.out w5 wk) ?_
        clear hK K' hS0 tg wk;(try simp only [J6,aS,J1,J2]);refine wpAnyH_done (by kernel_rfl) ?_ _;refine vL (by decide) (λ o ho K' hK=>?_);(simp only [JZ,JX,JY,J0] at ho;subst ho);(go_simp);rw [HV.out.en,Oper.upon_enter];refine (tp.out w5 tR.out).mono ?_;rintro en w6 ⟨rfl,wM,wO⟩
        have wV:=Jj wM;have tm:=Jj (sj.out.trans wO);clear wM wO;(go_wp2_with fail);refine hK.out _ _ ?_;clear hK K';go_wp2_with fail
        go_roundw
        case rel=>exact ⟨q+1,by omega,by go_num,wV.out,tm.out⟩
        case measure=>simp [intOf];omega
       ·have tx:Hid (nmT q kb=[]):=Jj (if_neg ht)
        have wV:Hid (P (vt f (f.blocks.take (q+1)) 0) wr):=Jj (by
         have h:=sn.out;rw [q3Y wW.out,tx.out,List.append_nil,<- List.append_assoc]
         exact h)
        clear hp hx wh wj hxC;go_wp2_with fail
        go_roundw
        case rel=>exact ⟨q+1,by omega,by go_num,wV.out,sj.out⟩
        case measure=>simp [intOf];omega
  ·obtain rfl:q=f.blocks.length:=by omega
   have HE:Hid (P (nmL f) wr):=Jj (by
    have h:=sk.out;rw [List.take_of_length_le (J4 _)] at h
    exact h)
   (go_wp2_with fail);(go_end0);exact ⟨rfl,HE.out,tH.out⟩
theorem vT {ops:Array Oper} {rest:List Oper} {o:Oper} {a:Act} {w:World} {Q:Exit->Act->World->Prop} (wj:o.guard=none) (s x:Operand) (t t':TypeId)
  (ho:o.op=.call { callee:=.builtin .append,args:=#[s,x],argTypes:=#[t,t'] }) (vs vx:Value) (hs:a.eval s=vs) (hx:a.eval x=vx) {v':Value} {w':World}
  (hr:(Builtin.append_ #[t,t'] o.type #[vs,vx]).run Tryz.prog w=.ok v' w')
  (h:wpList Tryz.prog ops Q rest (a.put o.dst v') w'):wpList Tryz.prog ops Q (o::rest) a w:=by
 refine wpList_plain wj λ K hK=>?_;unfold Oper.wp execOp;simp only [ho,resolve,invoke,builtin,Sem.run_bind,Sem.run_pure,Result.andThen_ok,List.map_toArray,List.map_cons,List.map_nil,hs,hx,hr];exact hK _ _ h
def q5Y (xs:List Int) (w:World) (e:Ending) (w':World):Prop:=(∃ v,e=.returned v/\w'.ownsRow w.heap.size 3 1 v xs.length (xs.map (Value.int .i64)))/\Below w.heap.size w w'
set_option maxRecDepth 100000 in
theorem zj (xs:List Int) (v:Value) (w:World) (hv:VS w 1 RInt v xs) (hn:xs.length<=1000000):Calls Tryz.prog 49 #[v] w (q5Y xs w):=by
 obtain ⟨A,c,rfl,hs⟩:=hv;have wh:=Lib.run_eql_slice_nil (P:=Tryz.prog) w 27 3 A xs.length c 0 0 Tryz.underlying27;cases A with
 | none =>
  obtain rfl:xs=[]:=by
   rcases Nat.eq_zero_or_pos xs.length with h0 | h0
   ·exact List.length_eq_zero_iff.1 h0
   ·obtain ⟨b,o,e,_⟩:=hs.2.2 h0;cases e
  obtain rfl:c=0:=hs.2.1.2 rfl;clear hs wh;have wh:=Lib.run_eql_slice_nil (P:=Tryz.prog) w 27 3 none 0 0 0 0 Tryz.underlying27;(go_enter Tryz.func49,Tryz.ntmps49);(go_wp2_with (simp only [wh,Option.isNone]));(go_ret);exact ⟨⟨_,rfl,World.ownsRow_nil _ _ _ _⟩,J5 _ _⟩
 | some ad =>
  obtain ⟨v',w',hr,-,hg,wg,-⟩:=yQ 27 (w:=w.alloc (.cells #[] 3)) (heap_alloc_new w (.cells #[] 3)) (SInts.keep (qc w _) hs) rfl hn;(have hB:Below w.heap.size w w':=((J5 w.heap.size w).alloc (J4 _) (.cells #[] 3)).grown hg (by simp) (λ k hk=>by have:=J3 hk;omega));have HF:=Jj (And.intro wg hB);clear wg hB hg hs;(go_enter Tryz.func49,Tryz.ntmps49);(go_wp2_with (first | (at_builtin;refine vT rfl (.tmp 5) (.tmp 6) 27 27 rfl _ _ rfl rfl hr ?_) | simp only [wh,Option.isNone]));(go_ret);exact ⟨⟨v',rfl,HF.out.1⟩,HF.out.2⟩
def q9F (r:Nat->Bool) (n:Nat) (w:World) (e:Ending) (w':World):Prop :=
 (∃ G,e=.returned (.slice (some ⟨G,0,none⟩) n n)/\w.heap.size<=G/\w'.rowIs G 3 n (λ i=>.int .i64 (yl r i)))/\Below w.heap.size w w'
set_option maxRecDepth 100000 in
set_option maxHeartbeats 4000000 in
theorem q1P (H n:Nat) (r:Nat->Bool) (w:World) (wg:w.rowIs H 4 n (λ x=>.bool (r x))) (hn:n<=1000000) :
  Calls Tryz.prog 47 #[.slice (some ⟨H,0,none⟩) n n] w (q9F r n w):=by
 have wu:=run_make_row' (P:=Tryz.prog) 27 3 (.int .i64 0) 8 Tryz.underlying27 Tryz.info3 rfl .i64 .i64 n (by omega) (by omega);(go_enter Tryz.func47,Tryz.ntmps47);(go_wp2_with fail);clear wu;have wO:=World.rowIs_made w (.int .i64 0) n 3;have ww:Below w.heap.size w (w.alloc (.cells (madeCells #[.int .i64 0] n) 3)):=(J5 _ _).alloc (J4 _) _;obtain ⟨G,hG⟩:∃ G,G=w.heap.size:=⟨_,rfl⟩;have HG:=Jj hG;have wV:=wg.of_block (ww.block H wg.lt)
 (have hHG:H<G:=by rw [hG];exact wg.lt);rw [<- hG] at wO ww ⊢;generalize w.alloc (.cells (madeCells #[.int .i64 0] n) 3)=w1 at *;clear wg hG
 go_loopw [4,12] (λ m i wr=>∃ k:Nat,k<=n/\i=.int .i64 k/\m=.int .i64 ((List.range k).countP r)/\wr.rowIs H 4 n (λ x=>.bool (r x))/\wr.rowIs G 3 n (λ j=>.int .i64 (if j<k then yl r j else 0))/\Below G w wr) (λ _ i _=>n - (intOf i).toNat)
 case atStart=>exact ⟨0,Nat.zero_le _,rfl,rfl,wV,wO.congr λ j _=>by simp,ww⟩
 case round =>
  obtain ⟨k,hk,rfl,rfl,wm,wj,wR⟩:=hrel;have wT:=Jj wm;have wJ:=Jj wR
  by_cases wM:k<n
  ·have hc:=wm.cell wM;have hgc:=wj.cell wM;have hgf:=wj.frozen k;have wQ:=j7 r k;have hcl:=yR r k;have wk (x:Int) (hx:x=yl r k):=(wj.set k (.int .i64 x)).congr (g:=λ j=>.int .i64 (if j<k+1 then yl r j else 0)) λ j _=>by
    by_cases e:j=k
    ·subst e;simp [hx]
    ·(have:(j<k+1)=(j<k):=by rw [eq_iff_iff];omega);simp only [if_neg e,this]
   have wl:=Jj wk;have wU:=Jj wQ;clear wk wQ wm wj wR;cases wh:r k
   ·rw [wh] at hc;(have hm:Hid ((-1:Int)=yl r k):=Jj (by unfold yl;rw [wh];rfl));(have wv:Hid ((List.range (k+1)).countP r=(List.range k).countP r):=Jj (by rw [wU.out,wh];rfl));clear wh;generalize (List.range k).countP r=m at *;go_wp2_with fail
    go_roundw
    case rel=>exact ⟨k+1,by omega,by go_num,by rw [wv.out],wT.out.setOther (by show H≠G;omega) _,wl.out _ hm.out,wJ.out.setCell (by show G<=G;omega) _⟩
    case measure=>simp [intOf];omega
   ·rw [wh] at hc;(have hm:Hid ((((List.range k).countP r:Nat):Int)=yl r k):=Jj (by unfold yl;rw [if_pos wh]));(have wv:Hid ((List.range (k+1)).countP r=(List.range k).countP r+1):=Jj (by rw [wU.out,wh];rfl));clear wh;generalize (List.range k).countP r=m at *;go_wp2_with fail
    go_roundw
    case rel=>exact ⟨k+1,by omega,by go_num,by rw [wv.out];go_num,wT.out.setOther (by show H≠G;omega) _,wl.out _ hm.out,wJ.out.setCell (by show G<=G;omega) _⟩
    case measure=>simp [intOf];omega
  ·have wW:=Jj (wj.congr (g:=λ j=>.int .i64 (yl r j)) λ j hj=>by rw [if_pos (by omega)]);clear wj;(go_wp2_with fail);(go_ret);exact ⟨⟨G,rfl,by have:=HG.out;omega,wW.out⟩,by rw [<- HG.out];exact wJ.out⟩
def AJ (bs:List qE) (k j i:Nat):List Int:=qH (bs.take k) i++(if i∈(nxF bs k).take j then [(k:Int)] else [])
theorem q31 (bs:List qE) (k i:Nat):AJ bs k 0 i=qH (bs.take k) i:=by simp [AJ]
theorem qBj {bs:List qE} {k:Nat} (hk:k<bs.length) {i:Nat} (hi:i<bs.length) {j:Nat} (hj:(nxF bs k).length<=j):AJ bs k j i=AJ bs (k+1) 0 i:=by
 rw [q31];have hb:bs[k]?=some bs[k]:=Jq hk;rw [xC i hb];unfold AJ;rw [List.take_of_length_le hj];(congr 1);have:(i∈nxF bs k)↔zd i bs[k].term.to=true:=by
  rw [yW hb];unfold zd;rw [List.any_eq_true];constructor
  ·rintro ⟨_,h⟩;exact ⟨_,h,by simp⟩
  ·rintro ⟨x,hx,e⟩;rw [beq_iff_eq] at e;exact ⟨hi,e ▸ hx⟩
 by_cases h:i∈nxF bs k
 ·rw [if_pos h,if_pos (this.1 h)]
 ·rw [if_neg h,if_neg (λ e=>h (this.2 e))]
theorem qBg {bs:List qE} {k j q:Nat} (hq:(nxF bs k)[j]?=some q) (i:Nat):(if i=q then AJ bs k j q++[(k:Int)] else AJ bs k j i)=AJ bs k (j+1) i:=by
 (have hnd:(nxF bs k).Nodup:=by unfold nxF;split;exact ju _ _;simp);have wX:q ∉ (nxF bs k).take j:=by
  have:=hnd;rw [<- List.take_append_drop j (nxF bs k),List.nodup_append] at this;intro h;refine this.2.2 q h q ?_ rfl;(have h2:((nxF bs k).drop j)[0]?=some q:=by rw [List.getElem?_drop];exact hq);exact Jz h2
 unfold AJ;rw [qG hq]
 by_cases e:i=q
 ·subst e;rw [if_pos rfl,if_neg wX,if_pos (by simp)];simp
 ·rw [if_neg e];congr 1
  by_cases h:i∈(nxF bs k).take j
  ·rw [if_pos h,if_pos (by simp [h])]
  ·rw [if_neg h,if_neg (by simp [h,e])]
theorem qBh (bs:List qE) (k j i:Nat):(AJ bs k j i).length<=bs.length+1:=by
 unfold AJ;have:=vU (bs.take k) 0 i;rw [List.length_append,qH];have h2:(bs.take k).length<=bs.length:=by simp;omega
 split <;> simp <;> omega
theorem qBi (bs:List qE) (k j i:Nat) (hk:k<=1000000) (h:bs.length<=1000000):∀ x∈AJ bs k j i,I64 x:=by
 intro x hx;unfold AJ at hx;rcases List.mem_append.1 hx with hx | hx
 ·exact yE _ _ (by simp;omega) x hx
 ·split at hx
  ·rw [List.mem_singleton.1 hx];unfold I64;omega
  ·simp at hx
def qBV (bs:List qE) (w:World) (e:Ending) (w':World):Prop :=
 (∃ V G K,e=.returned (.slice (some ⟨G,0,none⟩) bs.length bs.length)/\w.heap.size<=G/\Gri w' G K bs.length V (λ i=>qH bs i))/\Below w.heap.size w w'
set_option maxRecDepth 100000 in
set_option maxHeartbeats 8000000 in
theorem q4P (f:qB) (v:Value) (w:World) (hv:VFun w v f) (hn:f.blocks.length<=1000) :
  Calls Tryz.prog 48 #[v] w (qBV f.blocks w):=by
 have th:=hv;obtain ⟨Ar,cr,A,c,rfl,-,-,-,-⟩:=hv;have HV:=Jj th;obtain ⟨i0,hi,td,tc,wJ⟩:=info_parts Tryz.info3;have HI:=Jj (And.intro hi (And.intro td (And.intro tc wJ)));clear hi td tc wJ th;have tG:=run_make_row' (P:=Tryz.prog) 65 27 (.slice none 0 0) 24 Tryz.underlying65 Tryz.info27 rfl .i64 .i64 f.blocks.length (by omega) (by omega);(go_enter Tryz.func48,Tryz.ntmps48);go_upto_region 2 with fail
 clear tG;obtain ⟨w1,tf,tm,tr,wm,wM,-⟩:=named w #[.int .i64 f.params,.int .i64 f.result,.slice Ar f.regs.length cr,.slice A f.blocks.length c] 30;rw [<- tf];obtain ⟨G,hG⟩:∃ G,G=w.heap.size+1:=⟨_,rfl⟩;have wh:=World.rowIs_made w1 (.slice none 0 0) f.blocks.length 27;have wU:Below w1.heap.size w1 (w1.alloc (.cells (madeCells #[.slice none 0 0] f.blocks.length) 27)):=(J5 _ _).alloc (J4 _) _;(have wJ:(w1.alloc (.cells (madeCells #[.slice none 0 0] f.blocks.length) 27)).heap.size=w1.heap.size+1:=by simp);rw [tm,<- hG] at wh wU wJ;rw [<- hG]
 generalize w1.alloc (.cells (madeCells #[.slice none 0 0] f.blocks.length) 27)=w2 at *;have ww:=yB wU (by omega);have c0:=ww _ _ (wM 0 _ rfl);have c1:=ww _ _ (wM 1 _ rfl);have c2:=ww _ _ (wM 2 _ rfl);have c3:=ww _ _ (wM 3 _ rfl);(have hgw:w.heap.size<G:=by omega);(have hg2:G<w2.heap.size:=by omega);have tD:Hid (Below w.heap.size w w2):=Jj (wm.trans (wU.mono (by omega)))
 have HN:=Jj (jt f _ w2 (VFun.keep (tr.trans ww) HV.out) (by omega));have wO:=Jj wh;clear tf tm tr wm wM wU wJ ww hG wh HV;(go_wp2_with fail);refine HN.out.mono ?_;rintro e w3 ⟨⟨Vn,Gn,rfl,hGn,tx⟩,wT⟩;have hz3:=wT.size;have tC:Hid (Below w.heap.size w w3):=Jj (tD.out.trans (wT.mono tD.out.size));have tu:Gri w3 G w3.heap.size f.blocks.length (λ _=>.slice none 0 0) (AJ f.blocks 0 0) :=
  ⟨wO.out.of_block (wT.block G wO.out.lt),λ i hi=>by rw [q31,List.take_zero];exact World.ownsRow_nil _ _ _ _,λ _ _ _ _ _=>.inl rfl,by omega⟩
 have wZ:=Jj tx;have hGn2:w2.heap.size<=Gn:=hGn;clear tx wT hGn HN c0 c1 c2 c3;go_wp2_with fail
 go_loopw [15] (λ i wr=>∃ (k:Nat) (V:Nat->Value),k<=f.blocks.length/\i=.int .i64 k/\BB w3.heap.size G w3 wr/\Gri wr G w3.heap.size f.blocks.length V (AJ f.blocks k 0)) (λ i _=>f.blocks.length - (intOf i).toNat)
 case atStart=>exact ⟨0,_,Nat.zero_le _,rfl,BB.refl _ _ _,tu⟩
 case round =>
  obtain ⟨k,V,hk,rfl,wR,hg⟩:=hrel;obtain ⟨wo,rfl⟩:∃ wo,wo=wr:=⟨wr,rfl⟩;have hGnl:=wZ.out.row.lt;have wv:Gri wo Gn (Gn+2) f.blocks.length Vn (λ i=>zs (nxF f.blocks i)):=wZ.out.of_blocks (wR.block Gn hGnl (by omega)) (λ g h1 h2=>wR.block g h2 (by omega));have HG:=Jj hg;have tB:=Jj wR;clear hg wR tu
  by_cases wY:k<f.blocks.length
  ·have tp:=wv.row.cell wY;(have hll:(nxF f.blocks k).length<=f.blocks.length:=by unfold nxF;split;exact xI _ _;simp);(obtain ⟨Al,cl,tg,tj⟩:=yg (B:=λ g=>Gn+2<=g/\g<w3.heap.size) (xs:=zs (nxF f.blocks k)) (w:=w3) (wZ.out.own k wY) (λ y hy=>by obtain ⟨q,hq,rfl⟩:=y4 hy;have:=zD f.blocks k q hq;unfold I64;omega) (λ _ h1 h2=>⟨h1,h2⟩));rw [tg] at tp;rw [qg] at tp;have tJ:=Jj tj;clear tg tj wv;go_wp2_with fail
   go_loopw [22] (λ i wr=>∃ (j:Nat) (V:Nat->Value),j<=(nxF f.blocks k).length/\i=.int .i64 j/\BB w3.heap.size G w3 wr/\Gri wr G w3.heap.size f.blocks.length V (AJ f.blocks k j)) (λ i _=>(nxF f.blocks k).length - (intOf i).toNat)
   case atStart=>exact ⟨0,V,Nat.zero_le _,rfl,tB.out,HG.out⟩
   case round =>
    obtain ⟨j,V',hj,rfl,wQ,wj⟩:=hrel;have tz:=Jj wQ;(have wW:=SIntsB.go (B:=λ g=>Gn+2<=g/\g<w3.heap.size) (B':=λ _=>True) (w:=w3) (w':=wr) (λ a v hb ha=>(JK (wQ.block a.block hb.2 (by have:=hb.1;omega))).trans ha) (λ _ _=>trivial) tJ.out);have tE:=wQ.size;clear wQ
    by_cases tH:j<(nxF f.blocks k).length
    ·(obtain ⟨bl,ol,y,rfl,hy,-,wV,-⟩:=wW.at_ (k:=j) (by rw [qg];exact tH));obtain ⟨q,hq,rfl⟩:=jD hy.out;have wu:q<f.blocks.length:=zD f.blocks k q (Jz hq);(have wV:wr.cell? ⟨bl,ol+j,none⟩=some (.int .i64 (q:Int)):=by rw [Nat.mul_one] at wV;exact wV);(have hq0:(0:Int)<=q:=by omega);(have hq1:(q:Int)<f.blocks.length:=by omega);have wh:=wj.row.cell wu;have tF:VS wr 1 RInt (V' q) (AJ f.blocks k j q):=ql (wj.own q wu) (qBi _ _ _ _ (by omega) (by omega));have hla:=qBh f.blocks k j q
     have HQ:=Jj hq;clear hq wW;go_wp2_with (at_builtin;refine wpList_append_lies _ rfl (.tmp 31) (.tmp 33) 27 rfl w3.heap.size 3 i0 (.int .i64 0) 1 8 Tryz.underlying27 HI.out.1 HI.out.2.1 HI.out.2.2.1 HI.out.2.2.2 rfl (by decide) (V' q) _ _ rfl ((wj.own q wu).alloc _) ⟨wr.heap.size,0,none⟩ 1 1 [.int .i64 k] rfl rfl ?c1 ?c2 ?c0 ?c3 ?c4 ?c5 (wr.heap.size+1) ?c6 ?_)
     case c1=>exact qm wr _ _ rfl
     case c2=>exact ints_oneCell .i64 [(k:Int)]
     case c0=>omega
     case c3=>unfold maxLen;omega
     case c4=>omega
     case c5=>simp;omega
     case c6=>simp
     intro g cap w4 wk wg wl hlt4;have tw:=(Gri.push (wj.alloc _) wu wk wg (by simpa using wl)).congr (λ i _=>qBg HQ.out i);(have hG4:w4.heap[G]?=(wr.alloc (.cells #[.int .i64 k] 3)).heap[G]?:=wg.block _ (by simp;omega) (λ e=>by have:=((wj.own q wu).lt _ e.symm).1;omega));have hrow4:=(JK (a:=⟨G,q,none⟩) hG4).trans ((wj.row.alloc _).cell wu);have hfr4:=(World.frozen?_of_block (a:=⟨G,q,none⟩) hG4).trans ((wj.row.alloc _).frozen q);(have tL:Hid (BB w3.heap.size G w3 w4):=Jj ((tz.out.alloc tE _).grown wg (by simp;omega) (λ g hg=>.inr (by have:=((wj.own q wu).lt g hg).1;omega))));have tK:=Jj tw;clear tw wk wg wl hG4 wj wh tF;go_wp2_with fail
     go_roundw
     case rel=>exact ⟨j+1,_,by omega,by go_num,tL.out.setCell (.inl rfl) _,tK.out⟩
     case measure=>simp [intOf];omega
    ·have ta:=Jj (wj.congr (λ i hi=>qBj wY hi (by omega)));clear wj wW;go_wp2_with fail
     go_roundw
     case rel=>exact ⟨k+1,V',by omega,by go_num,tz.out,ta.out⟩
     case measure=>simp [intOf];omega
  ·have tq:f.blocks.take k=f.blocks:=List.take_of_length_le (by omega);have ta:=Jj (HG.out.congr (L':=λ i=>qH f.blocks i) (λ i _=>by rw [q31,tq]));clear tq wv;(go_wp2_with fail);(go_ret);exact ⟨⟨V,G,_,rfl,by omega,ta.out⟩,tC.out.trans (tB.out.below tC.out.size (by omega))⟩
end Go.Proofs.YtfoggldjjnabcaaGreatDoor
