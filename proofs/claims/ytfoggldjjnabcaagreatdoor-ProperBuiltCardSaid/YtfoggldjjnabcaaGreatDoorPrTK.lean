/- fits, and ofInstr: it does what the document says. -/
import Derived.Test.YtfoggldjjnabcaaGreatDoorModAK
import Derived.Test.YtfoggldjjnabcaaGreatDoorInsCK
import Derived.Test.YtfoggldjjnabcaaGreatDoorEqEK
import Derived.Test.YtfoggldjjnabcaaGreatDoorLvSK
import Derived.Test.YtfoggldjjnabcaaGreatDoorPrpK
set_option linter.unusedVariables false
set_option linter.unusedSimpArgs false
namespace Go.Proofs.YtfoggldjjnabcaaGreatDoor
open Go.ChangeShapes Go.WideShapes Go.RowKit Go.Deep
theorem q2w (w:World) (A B C:Obj):∃ w4,w4=((w.alloc A).alloc B).alloc C/\w.heap.size+1+1<w4.heap.size/\Below w.heap.size w w4 /\
  w4.heap[w.heap.size]?=some A/\w4.heap[w.heap.size+1]?=some B/\w4.heap[w.heap.size+1+1]?=some C:=by
 refine ⟨_,rfl,by simp,(((J5 _ w).alloc (J4 _) _).alloc (by simp) _).alloc (by simp;omega) _,?_,?_,?_⟩
 ·show (((w.heap.push A).push B).push C)[w.heap.size]?=some A;rw [Array.getElem?_push,if_neg (by simp;omega),Array.getElem?_push,if_neg (by simp),Array.getElem?_push,if_pos rfl]
 ·show (((w.heap.push A).push B).push C)[w.heap.size+1]?=some B;rw [Array.getElem?_push,if_neg (by simp),Array.getElem?_push,if_pos (by simp)]
 ·show (((w.heap.push A).push B).push C)[w.heap.size+1+1]?=some C;rw [Array.getElem?_push,if_pos (by simp)]
theorem typesB_iff {regs:List Int}:∀ {l ts:List Int},zQ regs l ts=true↔∀ (j:Nat) (a t:Int),l[j]?=some a->ts[j]?=some t->reg regs a=t:=by
 intro l
 induction l with
 | nil=>intro ts;simp [zQ]
 | cons a l ih =>
  intro ts;cases ts with
  | nil=>simp [zQ]
  | cons t ts =>
   simp only [zQ,Bool.and_eq_true,decide_eq_true_eq,ih];constructor
   ·rintro ⟨h1,h2⟩ j b s hb hs;cases j with
    | zero=>simp at hb hs;rw [<- hb,<- hs];exact h1
    | succ j=>exact h2 j b s (by simpa using hb) (by simpa using hs)
   ·intro h;exact ⟨h 0 a t rfl rfl,λ j b s hb hs=>h (j+1) b s (by simpa using hb) (by simpa using hs)⟩
def yr (f:qB) (x:qN) (d:Int):Bool:=if d=0 then decide (x.dst=-1) else decide (reg f.regs x.dst=d)
def qy (x:qN):Bool:=(decide (x.op=1) || decide (x.imm=0)) && (decide (x.op=17) || decide (x.fn=0))
def zz (f:qB) (x:qN) (many:Int) (ts:List Int) (d:Int):Bool:=decide ((ts.length:Int)=many) && (zQ f.regs x.args ts && (yr f x d && qy x))
set_option maxRecDepth 100000 in
set_option maxHeartbeats 4000000 in
theorem q3y (f:qB) (x:qN) (many:Int) (ts:List Int) (d:Int) (vf vx vA:Value) (w:World) (hf:VFun w vf f) (hx:VIns w vx x) (hA:qAz w vA many ts d)
  (wY:zq x.args f.regs.length=true) (hn:(x.args.length:Int)=many) (hd:d=0\/zM x.dst f.regs.length=true) :
  Calls Tryz.prog 144 #[vf,vx,vA] w λ e w'=>e=.returned (.bool (zz f x many ts d))/\Below w.heap.size w w':=by
 obtain ⟨Ar,cr,Ab,cb,rfl,hr,si,tK,tH⟩:=hf;obtain ⟨A,c,rfl,tf,tL,tS,tO,tP⟩:=hx;obtain ⟨At,ct,rfl,tp,wW,wU⟩:=hA;obtain ⟨op,dst,args,imm,fn⟩:=x;dsimp only at *;have sb:=hr.len;have sm:=tf.len;have htl:=tp.len
 by_cases hm:(ts.length:Int)=many
 ·(have sd:((ts.length:Int) != many)=false:=by simp [hm]);have wm:args.length=ts.length:=by omega
  have HF:Hid (zz f ⟨op,dst,args,imm,fn⟩ many ts d=(zQ f.regs args ts && (yr f ⟨op,dst,args,imm,fn⟩ d && qy ⟨op,dst,args,imm,fn⟩))):=Jj (by
   unfold zz;rw [decide_eq_true hm,Bool.true_and])
  have HL:=Jj wm;have tz:=Jj wY;clear hm hn wm wY;(go_enter Tryz.func144,Tryz.ntmps144);(go_wp2_with fail);obtain ⟨w3,wR,tq,wj,hF3,hX3,hW3⟩:=q2w w (.cells #[.int .i64 f.params,.int .i64 f.result,.slice Ar f.regs.length cr,.slice Ab f.blocks.length cb] 30) (.cells #[.int .i64 op,.int .i64 dst,.slice A args.length c,.int .i64 imm,.int .i64 fn] 53) (.cells #[.int .i64 many,.slice At ts.length ct,.int .i64 d] 204);rw [<- wR];clear wR;have u2:=(qD hF3 2).trans rfl
  have x0:=(qD hX3 0).trans rfl;have x1:=(qD hX3 1).trans rfl;have x2:=(qD hX3 2).trans rfl;have x3:=(qD hX3 3).trans rfl;have x4:=(qD hX3 4).trans rfl;have y0:=(qD hW3 0).trans rfl;have y1:=(qD hW3 1).trans rfl;have y2:=(qD hW3 2).trans rfl;have wJ:=q7 wj
  have th:=SInts.keep wJ tf;have tJ:=SInts.keep wJ hr;have tm:=SInts.keep wJ tp;clear hF3 hX3 hW3
  go_loopw [18] (λ i wr=>∃ k q:Nat,k<=args.length/\i=.int .i64 k/\Hid (∀ (j:Nat) (a t:Int),j<k->args[j]?=some a->ts[j]?=some t->reg f.regs a=t)/\wr=w3.drewN q) (λ i _=>args.length - (intOf i).toNat)
  case atStart=>exact ⟨0,0,Nat.zero_le _,rfl,Jj (λ j a t h=>absurd h (Nat.not_lt_zero j)),rfl⟩
  case round =>
   obtain ⟨k,q,hk,rfl,hi,rfl⟩:=hrel
   by_cases tM:k<args.length
   ·obtain ⟨b,o,a,rfl,ha,hac,-⟩:=th.int tM;(obtain ⟨b2,o2,t,rfl,ht,htc,-⟩:=tm.int (k:=k) (by rw [<- HL.out];exact tM));(have hkt:k<ts.length:=by rw [<- HL.out];exact tM);obtain ⟨sp,sn⟩:=q2E tz.out ha.out;obtain ⟨an,rfl,sk⟩:=q0a sp sn;obtain ⟨br,or_,z,rfl,hz,tY,-⟩:=tJ.int sk;have HZ:Hid (reg f.regs an=z):=Jj (jS rfl hz.out)
    by_cases tc:z=t
    ·(have tF:(z != t)=false:=by simp [tc]);have sq:=Jj tc;clear tc;(go_wp2_with fail);(go_quiet (fail));go_wp2_with fail
     go_roundw
     case rel=>exact ⟨k+1,_,by omega,by go_num,Jj (λ j a' t' hj tw tC=>by
      by_cases e:j=k
      ·subst e;have e1:=J3 (tw.symm.trans ha.out);have e2:=J3 (tC.symm.trans ht.out);rw [e1,e2,HZ.out,sq.out]
      ·exact hi.out j a' t' (by omega) tw tC),rfl⟩
     case measure=>simp [intOf];omega
    ·have tF:(z != t)=true:=by simp [tc]
     have HE:Hid (zz f ⟨op,dst,args,imm,fn⟩ many ts d=false):=Jj (by
      rw [HF.out];have:zQ f.regs args ts=false:=by
       cases e:zQ f.regs args ts
       ·rfl
       ·exact absurd (HZ.out.symm.trans (typesB_iff.1 e k _ _ ha.out ht.out)) tc
      rw [this];rfl)
     clear tc;(go_wp2_with fail);(go_quiet (fail));(go_wp2_with fail);(go_ret);exact ⟨by rw [HE.out];rfl,below_drewN (below_drewN wj _) _⟩
   ·have HT:Hid (zz f ⟨op,dst,args,imm,fn⟩ many ts d=(yr f ⟨op,dst,args,imm,fn⟩ d && qy ⟨op,dst,args,imm,fn⟩)):=Jj (by
     rw [HF.out];have:zQ f.regs args ts=true:=typesB_iff.2 λ j a' t' tw tC=>hi.out j a' t' (by have:=(Jk tw).1;omega) tw tC
     rw [this,Bool.true_and])
    clear hi HF
    by_cases wv:d=0
    ·have tR:(d == 0)=true:=by simp [wv]
     by_cases wO:dst=-1
     ·have tQ:(dst != -1)=false:=by simp [wO]
      have HB:Hid (zz f ⟨op,dst,args,imm,fn⟩ many ts d=qy ⟨op,dst,args,imm,fn⟩):=Jj (by
       rw [HT.out];unfold yr;rw [if_pos wv,decide_eq_true wO,Bool.true_and])
      clear wv wO hd
      by_cases wk:imm=0
      ·have tN:(imm != 0)=false:=by simp [wk]
       by_cases wg:fn=0
       ·(have wX:(fn == 0)=true:=by simp [wg]);(have HR:Hid (qy ⟨op,dst,args,imm,fn⟩=true):=Jj (by unfold qy;simp [wk,wg]));clear wk wg;(go_wp2_with fail);(go_ret);exact ⟨by rw [HB.out,HR.out];rfl,below_drewN wj _⟩
       ·have wX:(fn == 0)=false:=by simp [wg]
        by_cases ho:op=17
        ·(have tr:(op == 17)=true:=by simp [ho]);(have HR:Hid (qy ⟨op,dst,args,imm,fn⟩=true):=Jj (by unfold qy;simp [wk,ho]));clear wk wg ho;(go_wp2_with fail);(go_ret);exact ⟨by rw [HB.out,HR.out];rfl,below_drewN wj _⟩
        ·(have tr:(op == 17)=false:=by simp [ho]);(have HR:Hid (qy ⟨op,dst,args,imm,fn⟩=false):=Jj (by unfold qy;simp [wg,ho]));clear wk wg ho;(go_wp2_with fail);(go_ret);exact ⟨by rw [HB.out,HR.out];rfl,below_drewN wj _⟩
      ·have tN:(imm != 0)=true:=by simp [wk]
       by_cases wl:op=1
       ·(have wV:(op != 1)=false:=by simp [wl]);have tr:(op == 17)=false:=by simp [wl]
        by_cases wg:fn=0
        ·(have wX:(fn == 0)=true:=by simp [wg]);(have HR:Hid (qy ⟨op,dst,args,imm,fn⟩=true):=Jj (by unfold qy;simp [wl,wg]));clear wk wl wg;(go_wp2_with fail);(go_ret);exact ⟨by rw [HB.out,HR.out];rfl,below_drewN wj _⟩
        ·(have wX:(fn == 0)=false:=by simp [wg]);(have HR:Hid (qy ⟨op,dst,args,imm,fn⟩=false):=Jj (by unfold qy;simp [wl,wg]));clear wk wl wg;(go_wp2_with fail);(go_ret);exact ⟨by rw [HB.out,HR.out];rfl,below_drewN wj _⟩
       ·(have wV:(op != 1)=true:=by simp [wl]);(have HR:Hid (qy ⟨op,dst,args,imm,fn⟩=false):=Jj (by unfold qy;simp [wl,wk]));clear wk wl;(go_wp2_with fail);(go_ret);exact ⟨by rw [HB.out,HR.out];rfl,below_drewN wj _⟩
     ·have tQ:(dst != -1)=true:=by simp [wO]
      have HE:Hid (zz f ⟨op,dst,args,imm,fn⟩ many ts d=false):=Jj (by
       rw [HT.out];unfold yr;rw [if_pos wv,decide_eq_false wO,Bool.false_and])
      clear wv wO hd;(go_wp2_with fail);(go_ret);exact ⟨by rw [HE.out];rfl,below_drewN wj _⟩
    ·(have tR:(d == 0)=false:=by simp [wv]);have tu:0<=dst/\dst<f.regs.length:=of_decide_eq_true (hd.resolve_left wv);obtain ⟨dn,rfl,sh⟩:=q0a tu.1 tu.2;obtain ⟨br,or_,z,rfl,hz,tY,-⟩:=tJ.int sh;have HZ:Hid (reg f.regs dn=z):=Jj (jS rfl hz.out);have hin1:=tu.1;have hin2:=tu.2;clear tu hd
     by_cases td:z=d
     ·have tF:(z != d)=false:=by simp [td]
      have HB:Hid (zz f ⟨op,dn,args,imm,fn⟩ many ts d=qy ⟨op,dn,args,imm,fn⟩):=Jj (by
       rw [HT.out];unfold yr;rw [if_neg wv,HZ.out,decide_eq_true td,Bool.true_and])
      clear wv td;(go_wp2_with fail);go_quiet (fail)
      by_cases wk:imm=0
      ·have tN:(imm != 0)=false:=by simp [wk]
       by_cases wg:fn=0
       ·(have wX:(fn == 0)=true:=by simp [wg]);(have HR:Hid (qy ⟨op,dn,args,imm,fn⟩=true):=Jj (by unfold qy;simp [wk,wg]));clear wk wg;(go_wp2_with fail);(go_ret);exact ⟨by rw [HB.out,HR.out];rfl,below_drewN wj _⟩
       ·have wX:(fn == 0)=false:=by simp [wg]
        by_cases ho:op=17
        ·(have tr:(op == 17)=true:=by simp [ho]);(have HR:Hid (qy ⟨op,dn,args,imm,fn⟩=true):=Jj (by unfold qy;simp [wk,ho]));clear wk wg ho;(go_wp2_with fail);(go_ret);exact ⟨by rw [HB.out,HR.out];rfl,below_drewN wj _⟩
        ·(have tr:(op == 17)=false:=by simp [ho]);(have HR:Hid (qy ⟨op,dn,args,imm,fn⟩=false):=Jj (by unfold qy;simp [wg,ho]));clear wk wg ho;(go_wp2_with fail);(go_ret);exact ⟨by rw [HB.out,HR.out];rfl,below_drewN wj _⟩
      ·have tN:(imm != 0)=true:=by simp [wk]
       by_cases wl:op=1
       ·(have wV:(op != 1)=false:=by simp [wl]);have tr:(op == 17)=false:=by simp [wl]
        by_cases wg:fn=0
        ·(have wX:(fn == 0)=true:=by simp [wg]);(have HR:Hid (qy ⟨op,dn,args,imm,fn⟩=true):=Jj (by unfold qy;simp [wl,wg]));clear wk wl wg;(go_wp2_with fail);(go_ret);exact ⟨by rw [HB.out,HR.out];rfl,below_drewN wj _⟩
        ·(have wX:(fn == 0)=false:=by simp [wg]);(have HR:Hid (qy ⟨op,dn,args,imm,fn⟩=false):=Jj (by unfold qy;simp [wl,wg]));clear wk wl wg;(go_wp2_with fail);(go_ret);exact ⟨by rw [HB.out,HR.out];rfl,below_drewN wj _⟩
       ·(have wV:(op != 1)=true:=by simp [wl]);(have HR:Hid (qy ⟨op,dn,args,imm,fn⟩=false):=Jj (by unfold qy;simp [wl,wk]));clear wk wl;(go_wp2_with fail);(go_ret);exact ⟨by rw [HB.out,HR.out];rfl,below_drewN wj _⟩
     ·have tF:(z != d)=true:=by simp [td]
      have HE:Hid (zz f ⟨op,dn,args,imm,fn⟩ many ts d=false):=Jj (by
       rw [HT.out];unfold yr;rw [if_neg wv,HZ.out,decide_eq_false td,Bool.false_and])
      clear wv td;(go_wp2_with fail);(go_quiet (fail));(go_wp2_with fail);(go_ret);exact ⟨by rw [HE.out];rfl,below_drewN (below_drewN wj _) _⟩
 ·(have sd:((ts.length:Int) != many)=true:=by simp [hm]);(have HE:Hid (zz f ⟨op,dst,args,imm,fn⟩ many ts d=false):=Jj (by unfold zz;rw [decide_eq_false hm,Bool.false_and]));clear hm hn;(go_enter Tryz.func144,Tryz.ntmps144);(go_wp2_with fail);obtain ⟨w3,wR,tq,wj,hF3,hX3,hW3⟩:=q2w w (.cells #[.int .i64 f.params,.int .i64 f.result,.slice Ar f.regs.length cr,.slice Ab f.blocks.length cb] 30) (.cells #[.int .i64 op,.int .i64 dst,.slice A args.length c,.int .i64 imm,.int .i64 fn] 53) (.cells #[.int .i64 many,.slice At ts.length ct,.int .i64 d] 204);rw [<- wR];clear wR;have u2:=(qD hF3 2).trans rfl
  have x0:=(qD hX3 0).trans rfl;have x1:=(qD hX3 1).trans rfl;have x2:=(qD hX3 2).trans rfl;have x3:=(qD hX3 3).trans rfl;have x4:=(qD hX3 4).trans rfl;have y0:=(qD hW3 0).trans rfl;have y1:=(qD hW3 1).trans rfl;have y2:=(qD hW3 2).trans rfl;have wJ:=q7 wj
  have th:=SInts.keep wJ tf;have tJ:=SInts.keep wJ hr;have tm:=SInts.keep wJ tp;clear hF3 hX3 hW3;(go_ret);exact ⟨by rw [HE.out];rfl,wj⟩
def yw (m:List qB) (f:qB) (x:qN):Int :=
 if yM m x=0 then
  (if (x.args.length:Int)=jo m x then
   (if zq x.args f.regs.length=true then
    (if yz m f x=0\/zM x.dst f.regs.length=true then
     (if zz f x (jo m x) (yZ m f x) (yz m f x)=true then 0 else 3)
    else 4)
   else 4)
  else 6)
 else yM m x
set_option maxRecDepth 100000 in
set_option maxHeartbeats 4000000 in
theorem q3V (m:List qB) (f:qB) (x:qN) (vm vf vx:Value) (w:World) (hm:VMod w vm m) (hf:VFun w vf f) (hx:VIns w vx x) :
  Calls Tryz.prog 137 #[vm,vf,vx] w λ e w'=>e=.returned (q1U (yw m f x))/\Below w.heap.size w w':=by
 have tW:=hm;have wg:=hf;have tB:=hx;obtain ⟨Am,cm,rfl,hms⟩:=hm;obtain ⟨Ar,cr,Ab,cb,rfl,hr,si,tK,tH⟩:=hf;obtain ⟨A,c,rfl,tf,tL,tS,tO,tP⟩:=hx;have sb:=hr.len;have sm:=tf.len
 by_cases hE:yM m x=0
 ·have HE:=Jj hE;(go_enter Tryz.func137,Tryz.ntmps137);(go_wp2_with fail);obtain ⟨w3,wR,tq,wj,hM3,hF3,hX3⟩:=q2w w (.cells #[.slice Am m.length cm] 24) (.cells #[.int .i64 f.params,.int .i64 f.result,.slice Ar f.regs.length cr,.slice Ab f.blocks.length cb] 30) (.cells #[.int .i64 x.op,.int .i64 x.dst,.slice A x.args.length c,.int .i64 x.imm,.int .i64 x.fn] 53);rw [<- wR];clear wR;have wJ:=q7 wj;refine (q0E m f x _ _ _ w3 (VMod.keep wJ tW) (VFun.keep wJ wg) (VIns.keep wJ tB)).mono ?_;rintro e w4 ⟨⟨a1,A1,n1,c1,d1,rfl,hv⟩,tg⟩
  obtain ⟨A2,c2,tX,tp,wW,wU⟩:=hv hE;clear hE hv;rw [HE.out,jP,tX];clear tX;have HT:=Jj (rfl:yZ m f x=yZ m f x);(have wM:Hid (yw m f x=if (x.args.length:Int)=jo m x then (if zq x.args f.regs.length=true then (if yz m f x=0\/zM x.dst f.regs.length=true then (if zz f x (jo m x) (yZ m f x) (yz m f x)=true then 0 else 3) else 4) else 4) else 6):=Jj (by unfold yw;rw [if_pos HE.out]));generalize jo m x=nn at *;generalize yZ m f x=tt at *;generalize yz m f x=dd at *
  have hB4:Below w.heap.size w w4:=wj.trans (tg.mono wj.size);have hF4:=(tg.block _ (qW hF3)).trans hF3;have hX4:=(tg.block _ (qW hX3)).trans hX3;clear hF3 hX3 hM3;have u0:=(qD hF4 0).trans rfl;have u1:=(qD hF4 1).trans rfl;have u2:=(qD hF4 2).trans rfl;have u3:=(qD hF4 3).trans rfl;have x0:=(qD hX4 0).trans rfl
  have x1:=(qD hX4 1).trans rfl;have x2:=(qD hX4 2).trans rfl;have x3:=(qD hX4 3).trans rfl;have x4:=(qD hX4 4).trans rfl;have hsz4:w.heap.size+1+1<w4.heap.size:=Nat.lt_of_lt_of_le tq tg.size;(have hsz4':w.heap.size+1<w4.heap.size:=by omega);clear hF4 hX4 tq
  by_cases wm:(x.args.length:Int)=nn
  ·(have sf:((x.args.length:Int) != nn)=false:=by simp [wm]);have ww:=Jj wm;clear wm;(go_wp2_with fail);obtain ⟨w5,tV,tZ,wT,sj,tD,-⟩:=named w4 #[.int .i64 nn,.slice A2 tt.length c2,.int .i64 dd] 204;rw [<- tV];have hK5:Kept w w5:=(q7 hB4).trans wT;have hB5:Below w.heap.size w w5:=hB4.trans (sj.mono hB4.size);have hsz5:w.heap.size+1+1<w5.heap.size:=by omega
   (have hsz5':w.heap.size+1<w5.heap.size:=by omega);have y0:w5.cell? ⟨w4.heap.size,0,none⟩=some (.int .i64 nn):=tD 0 _ rfl;have y1:w5.cell? ⟨w4.heap.size,1,none⟩=some (.slice A2 tt.length c2):=tD 1 _ rfl;have y2:w5.cell? ⟨w4.heap.size,2,none⟩=some (.int .i64 dd):=tD 2 _ rfl;have u0:=wT _ _ u0;have u1:=wT _ _ u1;have u2:=wT _ _ u2;have u3:=wT _ _ u3;have x0:=wT _ _ x0
   have x1:=wT _ _ x1;have x2:=wT _ _ x2;have x3:=wT _ _ x3;have x4:=wT _ _ x4;have tj:=SInts.keep wT tp;clear tV tZ tD;refine (q2D x.args _ _ _ ⟨A,c,rfl,SInts.keep hK5 tf⟩).mono ?_;rintro e w' ⟨rfl,rfl⟩;cases tE:zq x.args f.regs.length
   ·(have tU:Hid (yw m f x=4):=Jj (by rw [wM.out,if_pos ww.out,if_neg (by rw [tE];decide)]));clear tE;(go_wp2_with fail);(go_ret);exact ⟨by rw [tU.out];rfl,hB5⟩
   ·have ta:=Jj tE;clear tE
    by_cases wv:dd=0
    ·(have tR:(dd != 0)=false:=by simp [wv]);have tx:=Jj wv;clear wv;(go_wp2_with fail);refine (q3y f x nn tt dd _ _ _ w5 (VFun.keep hK5 wg) (VIns.keep hK5 tB) ⟨A2,c2,rfl,tj,wW,wU⟩ ta.out ww.out (.inl tx.out)).mono ?_;rintro e w6 ⟨rfl,tT⟩;have hB6:Below w.heap.size w w6:=hB5.trans (tT.mono hB5.size);cases wu:zz f x nn tt dd
     ·(have wZ:Hid (yw m f x=3):=Jj (by rw [wM.out,if_pos ww.out,if_pos ta.out,if_pos (.inl tx.out),if_neg (by rw [wu];decide)]));clear wu;(go_wp2_with fail);(go_ret);exact ⟨by rw [wZ.out];rfl,hB6⟩
     ·have wZ:Hid (yw m f x=0):=Jj (by rw [wM.out,if_pos ww.out,if_pos ta.out,if_pos (.inl tx.out),if_pos wu]);clear wu;(go_wp2_with fail);(go_ret);exact ⟨by rw [wZ.out];rfl,hB6⟩
    ·(have tR:(dd != 0)=true:=by simp [wv]);have tx:=Jj wv;clear wv;(go_wp2_with fail);refine (zl _ _ _).mono ?_;rintro e w' ⟨rfl,rfl⟩;cases wY:zM x.dst f.regs.length
     ·(have tU:Hid (yw m f x=4):=Jj (by rw [wM.out,if_pos ww.out,if_pos ta.out,if_neg (by rw [wY];rintro (h | h);exact tx.out h;cases h)]));clear wY;(go_wp2_with fail);(go_ret);exact ⟨by rw [tU.out];rfl,hB5⟩
     ·have tz:=Jj wY;clear wY;(go_wp2_with fail);refine (q3y f x nn tt dd _ _ _ w5 (VFun.keep hK5 wg) (VIns.keep hK5 tB) ⟨A2,c2,rfl,tj,wW,wU⟩ ta.out ww.out (.inr tz.out)).mono ?_;rintro e w6 ⟨rfl,tT⟩;have hB6:Below w.heap.size w w6:=hB5.trans (tT.mono hB5.size);cases wu:zz f x nn tt dd
      ·(have wZ:Hid (yw m f x=3):=Jj (by rw [wM.out,if_pos ww.out,if_pos ta.out,if_pos (.inr tz.out),if_neg (by rw [wu];decide)]));clear wu;(go_wp2_with fail);(go_ret);exact ⟨by rw [wZ.out];rfl,hB6⟩
      ·have wZ:Hid (yw m f x=0):=Jj (by rw [wM.out,if_pos ww.out,if_pos ta.out,if_pos (.inr tz.out),if_pos wu]);clear wu;(go_wp2_with fail);(go_ret);exact ⟨by rw [wZ.out];rfl,hB6⟩
  ·(have sf:((x.args.length:Int) != nn)=true:=by simp [wm]);have sr:Hid (yw m f x=6):=Jj (by rw [wM.out,if_neg wm]);clear wm;(go_wp2_with fail);(go_ret);exact ⟨by rw [sr.out];rfl,hB4.alloc hB4.size _⟩
 ·(have HE:Hid (yw m f x=yM m x):=Jj (by unfold yw;rw [if_neg hE]));have ss:=Jj hE;clear hE;(go_enter Tryz.func137,Tryz.ntmps137);(go_wp2_with fail);obtain ⟨w3,wR,tq,wj,hM3,hF3,hX3⟩:=q2w w (.cells #[.slice Am m.length cm] 24) (.cells #[.int .i64 f.params,.int .i64 f.result,.slice Ar f.regs.length cr,.slice Ab f.blocks.length cb] 30) (.cells #[.int .i64 x.op,.int .i64 x.dst,.slice A x.args.length c,.int .i64 x.imm,.int .i64 x.fn] 53);rw [<- wR];clear wR;have wJ:=q7 wj
  refine (q0E m f x _ _ _ w3 (VMod.keep wJ tW) (VFun.keep wJ wg) (VIns.keep wJ tB)).mono ?_;rintro e w4 ⟨⟨a1,A1,n1,c1,d1,rfl,hv⟩,tg⟩;have hB4:Below w.heap.size w w4:=wj.trans (tg.mono wj.size);clear hv;have HP:=Jj (yL ss.out);rw [HP.out];(go_wp2_with fail);(go_ret);exact ⟨by rw [HE.out,HP.out];rfl,hB4.alloc hB4.size _⟩
theorem vX (a:Int) (n:Nat):zM a n=isIn n a:=rfl
section
variable {f:qB} {x:qN} (wh:∀ a:Int,isIn f.regs.length a=true->reg f.regs a=1\/reg f.regs a=2)
include wh
theorem k9 (ts:List Int) (d:Int) (bad:Bool):jG f x ts d bad =
  if zq x.args f.regs.length=true then (if d=0\/isIn f.regs.length x.dst=true then (if (zQ f.regs x.args ts && (yr f x d && qy x) && !bad)=true then 0 else 3) else 4) else 4:=by
 unfold jG;cases h1:zq x.args f.regs.length
 ·rfl
 ·simp only [Bool.true_and,if_true]
  by_cases h2:d=0
  ·(have e:yr f x d=decide (x.dst=-1):=by unfold yr;rw [if_pos h2]);simp only [h2,decide_true,Bool.true_or,if_true,true_or];rw [h2] at e;rw [e];(congr 2);unfold qy;cases zQ f.regs x.args ts <;> cases decide (x.dst=-1) <;> cases (decide (x.op=1) || decide (x.imm=0)) <;> cases (decide (x.op=17) || decide (x.fn=0)) <;> cases bad <;> rfl
  ·simp only [h2,decide_false,Bool.false_or,false_or,if_false];cases h3:isIn f.regs.length x.dst
   ·simp
   ·simp only [if_true];have e:decide (0<d/\reg f.regs x.dst=d)=yr f x d:=by
     unfold yr;rw [if_neg h2];(congr 1);rw [eq_iff_iff];constructor
     ·exact λ h=>h.2
     ·intro h;exact ⟨by rcases wh _ h3 with h4 | h4 <;> omega,h⟩
    rw [e];(congr 2);unfold qy;cases zQ f.regs x.args ts <;> cases yr f x d <;> cases (decide (x.op=1) || decide (x.imm=0)) <;> cases (decide (x.op=17) || decide (x.fn=0)) <;> cases bad <;> rfl
theorem qAZ (m:List qB) (wQ:x.op=17):yw m f x=zm m f x:=by
 (have e1:jo m x=(qh m x.fn).params:=by unfold jo;rw [if_pos wQ]);(have e2:yZ m f x=(qh m x.fn).regs.take (qz (qh m x.fn)):=by unfold yZ;rw [if_pos wQ]);(have e3:yz m f x=(qh m x.fn).result:=by unfold yz;rw [if_pos wQ]);unfold yw zm;rw [if_pos wQ,e1,e2,e3];cases h1:isIn m.length x.fn
 ·(have e0:yM m x=4:=by unfold yM;rw [if_pos wQ,vX,h1];rfl);rw [e0];rfl
 ·(have e0:yM m x=0:=by unfold yM;rw [if_pos wQ,vX,h1];rfl);rw [e0,if_pos rfl,if_pos rfl];generalize qh m x.fn=g
  by_cases h2:(x.args.length:Int)=g.params
  ·rw [if_pos h2,if_pos h2,k9 wh];simp only [vX];cases ho:xZ g
   ·have ho:=of_decide_eq_false ho;(have et:qz g=g.params.toNat:=by unfold qz;omega);(have el:(((g.regs.take (qz g)).length:Nat):Int)=g.params:=by rw [List.length_take];unfold qz;omega);have ef:zz f x g.params (g.regs.take (qz g)) g.result=(zQ f.regs x.args (g.regs.take g.params.toNat) && (yr f x g.result && qy x)):=by
     unfold zz;rw [decide_eq_true el,Bool.true_and,et]
    rw [ef];simp
   ·have ho:=of_decide_eq_true ho;(have el:¬ (((g.regs.take (qz g)).length:Nat):Int)=g.params:=by rw [List.length_take];unfold qz;omega);have ef:zz f x g.params (g.regs.take (qz g)) g.result=false:=by
     unfold zz;rw [decide_eq_false el,Bool.false_and]
    rw [ef];simp
  ·rw [if_neg h2,if_neg h2]
theorem qBn (m:List qB) (h:x.op=1):yw m f x=zm m f x:=by
 (have e0:yM m x=0:=by unfold yM;rw [if_neg (by omega),if_pos (by omega)]);(have e1:jo m x=0:=by unfold jo;rw [if_neg (by omega),if_pos h]);(have e2:yZ m f x=[]:=by unfold yZ;rw [if_neg (by omega),if_pos h]);(have e3:yz m f x=zi f x:=by unfold yz;rw [if_neg (by omega),if_pos h]);(have es:yI f x=some ([],yY f x):=by unfold yI;rw [if_pos h]);(have ec:zi f x≠0:=by unfold zi;split <;> decide);unfold yw zm;rw [if_pos e0,e1,e2,e3,if_neg (show ¬ x.op=17 by omega),es];dsimp only
 by_cases h2:x.args.length=0
 ·rw [if_pos (show (x.args.length:Int)=_ by omega),if_pos (show x.args.length=([]:List Int).length by simpa using h2),k9 wh];simp only [vX];rcases (show isIn f.regs.length x.dst=false\/isIn f.regs.length x.dst=true by cases isIn f.regs.length x.dst <;> simp) with h3 | h3
  ·(have:yY f x=1:=by unfold yY;rw [h3];rfl);rw [this];simp [ec,h3]
  ·(have ed:yY f x=reg f.regs x.dst:=by unfold yY;rw [h3];rfl);have hr:=wh _ h3;rw [ed];(have sc:reg f.regs x.dst≠0:=by omega);(have eb:yr f x (reg f.regs x.dst)=true:=by unfold yr;rw [if_neg sc];simp);(have et:zQ f.regs x.args []=true:=by cases x.args <;> rfl);(have ef:zz f x 0 [] (zi f x)=(yr f x (zi f x) && qy x):=by unfold zz;simp [et]);rw [ef,eb,et];have ek:yr f x (zi f x)=!decide (x.op=1/\reg f.regs x.dst=2/\x.imm≠0/\x.imm≠1):=by
    unfold yr;rw [if_neg ec];have:(reg f.regs x.dst=zi f x)↔¬ (x.op=1/\reg f.regs x.dst=2/\x.imm≠0/\x.imm≠1):=by
     unfold zi;rw [vX,h3]
     by_cases hc:reg f.regs x.dst=2/\(x.imm=0\/x.imm=1)
     ·rw [if_pos ⟨rfl,hc⟩];constructor
      ·rintro h4 ⟨_,_,h5,h6⟩;exact hc.2.elim h5 h6
      ·exact λ _=>hc.1
     ·rw [if_neg (λ h4=>hc h4.2)];constructor
      ·intro h4 h5;omega
      ·intro h4;rcases hr with h5 | h5
       ·exact h5
       ·exact absurd ⟨h,h5,λ h6=>hc ⟨h5,.inl h6⟩,λ h6=>hc ⟨h5,.inr h6⟩⟩ h4
    by_cases hc:reg f.regs x.dst=zi f x
    ·rw [decide_eq_true hc,decide_eq_false (this.1 hc)];rfl
    ·rw [decide_eq_false hc,decide_eq_true (Decidable.not_not.1 λ h4=>hc (this.2 h4))];rfl
   rw [ek];simp only [h3,or_true,if_true,Bool.true_and];rw [Bool.and_comm]
 ·rw [if_neg (show ¬ (x.args.length:Int)=_ by omega),if_neg (show ¬ x.args.length=([]:List Int).length by simpa using h2)]
theorem qBm (m:List qB) (h:x.op=2):yw m f x=zm m f x:=by
 (have e0:yM m x=0:=by unfold yM;rw [if_neg (by omega),if_pos (by omega)]);(have e1:jo m x=1:=by unfold jo;rw [if_neg (by omega),if_neg (by omega),if_pos (by omega)]);(have e2:yZ m f x=[j8 f x]:=by unfold yZ;rw [if_neg (by omega),if_neg (by omega),if_pos h]);(have e3:yz m f x=j8 f x:=by unfold yz;rw [if_neg (by omega),if_neg (by omega),if_pos h]);(have es:yI f x=some ([yY f x],yY f x):=by unfold yI;rw [if_neg (by omega),if_pos h]);unfold yw zm;rw [if_pos e0,e1,e2,e3,if_neg (show ¬ x.op=17 by omega),es];dsimp only
 by_cases h2:x.args.length=1
 ·rw [if_pos (show (x.args.length:Int)=_ by omega),if_pos (show x.args.length=[yY f x].length by simpa using h2),k9 wh];simp only [vX];obtain ⟨op,dst,args,imm,fn⟩:=x;dsimp only at *;obtain ⟨a,rfl⟩:=List.length_eq_one_iff.1 h2;cases h4:zq [a] f.regs.length
  ·rfl
  ·(have ha:isIn f.regs.length a=true:=by simpa [zq,isIn] using h4);(have ec:j8 f ⟨op,dst,[a],imm,fn⟩=reg f.regs a:=by show (if zM a f.regs.length=true then reg f.regs a else 1)=_;rw [vX,ha];rfl);have hra:=wh _ ha;rw [ec];rcases (show isIn f.regs.length dst=false\/isIn f.regs.length dst=true by cases isIn f.regs.length dst <;> simp) with h3 | h3
   ·(have:yY f ⟨op,dst,[a],imm,fn⟩=1:=by unfold yY;rw [h3];rfl);rw [this];(have:reg f.regs a≠0:=by omega);simp [this,h3]
   ·(have ed:yY f ⟨op,dst,[a],imm,fn⟩=reg f.regs dst:=by unfold yY;rw [h3];rfl);have hrd:=wh _ h3;rw [ed];have ef:zz f ⟨op,dst,[a],imm,fn⟩ 1 [reg f.regs a] (reg f.regs a)=(decide (reg f.regs dst=reg f.regs a) && qy ⟨op,dst,[a],imm,fn⟩):=by
     unfold zz yr;rw [if_neg (by omega)];simp [zQ]
    have eg:(zQ f.regs [a] [reg f.regs dst] && (yr f ⟨op,dst,[a],imm,fn⟩ (reg f.regs dst) && qy ⟨op,dst,[a],imm,fn⟩) && !decide (op=1/\reg f.regs dst=2/\imm≠0/\imm≠1))=(decide (reg f.regs dst=reg f.regs a) && qy ⟨op,dst,[a],imm,fn⟩):=by
     unfold yr;rw [if_neg (by omega),decide_eq_false (show ¬ (op=1/\_) by omega)];simp [zQ,eq_comm]
    rw [ef,eg];simp [h3]
 ·rw [if_neg (show ¬ (x.args.length:Int)=_ by omega),if_neg (show ¬ x.args.length=[yY f x].length by simpa using h2)]
theorem q84 (m:List qB) (wQ:x.op≠17) (h1:x.op≠1) (h2:x.op≠2):yw m f x=zm m f x:=by
 unfold zm;rw [if_neg wQ]
 by_cases hk:1<=x.op/\x.op<=18
 ·(have e0:yM m x=0:=by unfold yM;rw [if_neg wQ,if_pos hk]);have es:yI f x=some (yZ m f x,yz m f x)/\jo m x=(yZ m f x).length:=by
   unfold yI yZ yz jo;obtain ⟨op,dst,args,imm,fn⟩:=x;dsimp only at *;(obtain rfl | rfl | rfl | rfl | rfl | rfl | rfl | rfl | rfl | rfl | rfl | rfl | rfl | rfl | rfl:op=3\/op=4\/op=5\/op=6\/op=7\/op=8\/op=9\/op=10\/op=11\/op=12\/op=13\/op=14\/op=15\/op=16\/op=18:=by omega);all_goals exact ⟨rfl,rfl⟩
  unfold yw;rw [if_pos e0,es.1,es.2];dsimp only
  by_cases h3:x.args.length=(yZ m f x).length
  ·rw [if_pos (by omega),if_pos h3,k9 wh,decide_eq_false (show ¬ (x.op=1/\_) from λ h=>h1 h.1)];have ef:zz f x ((yZ m f x).length:Nat) (yZ m f x) (yz m f x)=(zQ f.regs x.args (yZ m f x) && (yr f x (yz m f x) && qy x)):=by
    unfold zz;rw [decide_eq_true rfl,Bool.true_and]
   rw [ef];simp [vX]
  ·rw [if_neg (by omega),if_neg h3]
 ·(have e0:yM m x=6:=by unfold yM;rw [if_neg wQ,if_neg hk]);have es:yI f x=none:=by
   unfold yI;rw [if_neg (by omega),if_neg (by omega),if_neg (by omega),if_neg (by omega),if_neg (by omega),if_neg (by omega),if_neg (by omega),if_neg (by omega)]
  unfold yw;rw [e0,es]
  rfl
end
theorem q9f (m:List qB) (f:qB) (x:qN) (tG:∀ t∈f.regs,t=1\/t=2):yw m f x=zm m f x:=by
 have wh:∀ a:Int,isIn f.regs.length a=true->reg f.regs a=1\/reg f.regs a=2:=λ a h=>by
  have h:=of_decide_eq_true h;obtain ⟨k,rfl⟩:=Int.eq_ofNat_of_zero_le h.1;(have hk:k<f.regs.length:=by omega);rw [jS rfl (Jq hk)];exact tG _ (List.getElem_mem hk)
 by_cases wQ:x.op=17
 ·exact qAZ wh m wQ
 ·by_cases h1:x.op=1
  ·exact qBn wh m h1
  ·by_cases h2:x.op=2
   ·exact qBm wh m h2
   ·exact q84 wh m wQ h1 h2
theorem qBp:kQ:=λ m f x vm vf vx w hm hf hx tG=>by
 rw [<- q9f m f x tG];exact q3V m f x vm vf vx w hm hf hx
end Go.Proofs.YtfoggldjjnabcaaGreatDoor

namespace Go.Proofs.YtfoggldjjnabcaaGreatDoor
open Go.ChangeShapes Go.WideShapes Go.RowKit Go.Deep
def exP:qB:=⟨1,1,[1],[⟨[],[],⟨3,0,[]⟩⟩]⟩
set_option maxRecDepth 100000 in
theorem q8j:yD [exP] 0=(0,-1):=by
 have h:yD [exP] 0=yK exP:=by
  unfold yD;rw [if_neg (by simp;rfl),if_pos ⟨by decide,by decide⟩];rfl
 rw [h];(have h1:qs exP.blocks.length (λ j=>qI exP.blocks j == false)=-1:=by rfl);(have h2:qs exP.regs.length (λ j=>yv exP j == true)=-1:=by rfl);(have h3:qs exP.regs.length (λ j=>jf exP j == true)=-1:=by rfl);unfold yK;rw [h1,h2,h3];rfl
theorem q8B:yD [] 0=(1,-1):=by
 unfold yD;rw [if_neg (by simp;rfl),if_neg (by simp)]
theorem qA3 {w:World} {N:Nat} (b0:w.heap[N]?=some (.cells #[.int .i64 1] 3)) (b1:w.heap[N+1]?=some (.cells #[.slice none 0 0,.slice none 0 0,.int .i64 3,.int .i64 0,.slice none 0 0] 51)) :
  VFun w (.agg #[.int .i64 1,.int .i64 1,.slice (some ⟨N,0,none⟩) 1 1,.slice (some ⟨N+1,0,none⟩) 1 1]) exP:=by
 (have i64:∀ z:Int,0<=z/\z<=10->I64 z:=λ z hz=>by unfold I64;omega);(have nil:∀ {α:Type} (sz:Nat) (R:World->Nat->Nat->α->Prop),SL w sz R none 0 []:=λ sz R=>⟨J4 _,⟨by unfold maxLen;omega,λ _=>rfl⟩,λ hp=>absurd hp (by simp)⟩);refine ⟨some ⟨N,0,none⟩,1,some ⟨N+1,0,none⟩,1,rfl,⟨J4 _,⟨by unfold maxLen;omega,λ e=>by cases e⟩,λ _=>⟨N,0,rfl,λ i x hi=>?_⟩⟩,⟨J4 _,⟨by unfold maxLen;omega,λ e=>by cases e⟩,λ _=>⟨N+1,0,rfl,λ i x hi=>?_⟩⟩,i64 _ (by decide),i64 _ (by decide)⟩
 ·match i,hi with
  | 0,hi=>obtain rfl:=J3 hi;exact ⟨q6 b0 0,i64 _ (by decide)⟩
 ·match i,hi with
  | 0,hi =>
   obtain rfl:=J3 hi;exact ⟨⟨none,0,q6 b1 0,nil _ _⟩,⟨none,0,q6 b1 1,nil _ _⟩,⟨q6 b1 2,i64 _ (by decide)⟩,⟨q6 b1 3,i64 _ (by decide)⟩,⟨none,0,q6 b1 4,nil _ _⟩⟩
set_option maxRecDepth 100000 in
set_option maxHeartbeats 8000000 in
theorem q7f (OI:kQ) (w:World) (hG:OfNone w):Calls Tryz.prog 13 #[] w λ e w'=>e=.returned (.bool true)/\Below w.heap.size w w':=by
 have wv:=Jj OI;have HG:=Jj hG;clear OI hG;(go_enter Tryz.func13,Tryz.ntmps13);(go_wp2_with fail);obtain ⟨w4,wk,wl,wg,b0,b1,b2,b3⟩:=yS w (.cells #[.int .i64 1] 3) (.cells #[.slice none 0 0,.slice none 0 0,.int .i64 3,.int .i64 0,.slice none 0 0] 51)
  (.cells #[.int .i64 1,.int .i64 1,.slice (some ⟨w.heap.size,0,none⟩) 1 1,.slice (some ⟨w.heap.size+1,0,none⟩) 1 1] 30) (.cells #[.int .i64 1,.int .i64 1,.slice (some ⟨w.heap.size,0,none⟩) 1 1,.slice (some ⟨w.heap.size+1,0,none⟩) 1 1] 30)
 rw [<- wk];clear wk;obtain ⟨N,hN⟩:∃ N,N=w.heap.size:=⟨_,rfl⟩;rw [<- hN] at wl b0 b1 b2 b3 ⊢;have HV:Hid (VFun w4 (.agg #[.int .i64 1,.int .i64 1,.slice (some ⟨N,0,none⟩) 1 1,.slice (some ⟨N+1,0,none⟩) 1 1]) exP):=Jj (qA3 b0 b1)
 have wM:Hid (VMod w4 (.agg #[.slice (some ⟨N+1+1+1,0,none⟩) 1 1]) [exP]):=Jj (by
  obtain ⟨Ar,cr,Ab,cb,e,g1,g2,g3,g4⟩:=HV.out;simp only [Value.agg.injEq,Array.mk.injEq,List.cons.injEq,Value.slice.injEq,and_true,true_and] at e;obtain ⟨-,-,⟨rfl,-,rfl⟩,rfl,-,rfl⟩:=e;refine ⟨_,1,rfl,J4 _,⟨by unfold maxLen;omega,λ e=>by cases e⟩,λ _=>⟨N+1+1+1,0,rfl,λ i x hi=>?_⟩⟩
  match i,hi with
  | 0,hi =>
   obtain rfl:=J3 hi
   exact ⟨⟨q6 b3 0,g3⟩,⟨q6 b3 1,g4⟩,⟨_,_,q6 b3 2,g1⟩,_,_,q6 b3 3,g2⟩)
 have wh:=Jj (show Below w.heap.size w w4 from by first | exact wg | (rw [hN] at wg;exact wg))
 have ww:=Jj (q0x wv.out [exP] 0 _ w4 wM.out ⟨by decide,λ f hf=>by
  obtain rfl:=List.mem_singleton.1 hf;refine ⟨by decide,by decide,by decide,λ b hb=>?_⟩;obtain rfl:=List.mem_singleton.1 hb
  exact ⟨by decide,by decide,by decide,λ x hx=>(by cases hx),λ x hx=>(by cases hx)⟩⟩ (HG.out.keep (q7 wh.out)))
 clear hN wl wg b0 b1 b2 b3;refine ww.out.mono ?_;rintro e w5 ⟨⟨ve,rfl,hc⟩,wu⟩;rw [q8j] at hc;obtain rfl:=hc.nil rfl;have wj:Hid (Below w.heap.size w w5):=Jj (wh.out.trans (wu.mono wh.out.size));(have wJ:=Jj (q0x wv.out [] 0 (.agg #[.slice none 0 0]) w5 ⟨none,0,rfl,J4 _,⟨by unfold maxLen;omega,λ _=>rfl⟩,λ hp=>absurd hp (by simp)⟩ ⟨by decide,λ f hf=>(by cases hf)⟩ (HG.out.keep (q7 wj.out))));clear hc wu ww;go_wp2_with fail
 refine wJ.out.mono ?_;rintro e w7 ⟨⟨ve,rfl,hc⟩,wm⟩;rw [q8B] at hc;obtain rfl:ve=.iface 39 (.int .i64 1):=by
  rcases hc with ⟨h,-⟩ | ⟨-,-,h⟩ | ⟨-,h,-⟩
  ·exact absurd h (by decide)
  ·exact h
  ·exact absurd h (by decide)
 have wO:Hid (Below w.heap.size w w7):=Jj (wj.out.trans (wm.mono wj.out.size));have hq:=qAo 1 1 w7;clear hc wm wJ;(go_wp2_with fail);(go_ret);exact ⟨rfl,wO.out⟩
def q1M (P:SsP) (r:Nat):qN:=⟨1,(zrN P r:Int),[],0,0⟩
def zt (P:SsP) (b:Nat):List qN:=if b=0 then (zrL P).map (q1M P) else []
noncomputable def q1C (P:SsP) (b i:Nat) (x:qN):qN:=⟨x.op,if 0<=x.dst then (dsN P b i:Int) else -1,x.args.map λ a=>((vr P a.toNat b i:Nat):Int),x.imm,x.fn⟩
noncomputable def q1B (P:SsP) (b r:Nat):PhiD:=⟨(phN P b r:Int),(qH P.f.blocks b).map λ p=>((vr P r p.toNat (qR P.f p.toNat).length:Nat):Int)⟩
noncomputable def kO (P:SsP) (b:Nat):yU:=⟨(qP P.f b).term.kind,if 0<=(qP P.f b).term.arg then ((vr P (qP P.f b).term.arg.toNat b (qR P.f b).length:Nat):Int) else -1,(qP P.f b).term.to⟩
noncomputable def vw (P:SsP) (b:Nat):qE:=⟨(phL P b).map (q1B P b),zt P b++(qR P.f b).mapIdx (q1C P b),kO P b⟩
noncomputable def qU (P:SsP):qB:=⟨P.f.params,P.f.result,(vI P).map λ r=>P.f.regs.getD r 0,(List.range P.f.blocks.length).map (vw P)⟩
theorem zo {P:SsP} {b:Nat} (hb:b<P.f.blocks.length):(qU P).blocks[b]?=some (vw P b):=by
 show ((List.range P.f.blocks.length).map (vw P))[b]?=_;rw [List.getElem?_map,List.getElem?_range hb];rfl
theorem q94 {P:SsP} {b i:Nat} {x:qN} (hx:(qR P.f b)[i]?=some x):(vw P b).ins[(zt P b).length+i]?=some (q1C P b i x):=by
 show (zt P b++(qR P.f b).mapIdx (q1C P b))[(zt P b).length+i]?=_;rw [List.getElem?_append_right (by omega),Nat.add_sub_cancel_left,List.getElem?_mapIdx,hx];rfl
theorem q4I (P:SsP) (b:Nat):(vw P b).ins.length=(zt P b).length+(qR P.f b).length:=by
 show (zt P b++(qR P.f b).mapIdx (q1C P b)).length=_;rw [List.length_append,List.length_mapIdx]
structure SsT (m t:List qB) (n:Nat) (P:SsP) (D:Nat->Nat->Prop) (ord:Nat->Nat):Prop where
 hf:m[n]?=some P.f
 ht:t=m.set n (qU P)
 ok:SsOk m P D ord
 prop:zx m
section
variable {m t:List qB} {n:Nat} {P:SsP} {D:Nat->Nat->Prop} {ord:Nat->Nat}
theorem SsT.here (T:SsT m t n P D ord):t.getD n default=qU P:=by
 have:=(Jk T.hf).1;rw [T.ht,JJ,List.getElem?_set_self this];rfl
theorem SsT.other (T:SsT m t n P D ord) {i:Nat} (h:i≠n):t.getD i default=m.getD i default:=by
 rw [T.ht,JJ,List.getElem?_set_ne (λ e=>h e.symm),<- JJ]
end
theorem q6Z (P:SsP) (b:Nat):(phL P b).Nodup:=List.nodup_range.filter _
theorem q1G:∀ (l k:List qE) (i:Nat) (x:Int),l.map (λ b=>b.term.to)=k.map (λ b=>b.term.to)->zS l i x=zS k i x
 | [],[],i,x,h=>rfl
 | [],b::k,i,x,h=>by simp at h
 | a::l,[],i,x,h=>by simp at h
 | a::l,b::k,i,x,h=>by
  rw [List.map_cons,List.map_cons] at h;injection h with h1 h2;show (if zd x a.term.to then [(i:Int)] else [])++zS l (i+1) x=(if zd x b.term.to then [(i:Int)] else [])++zS k (i+1) x;rw [h1,q1G l k (i+1) x h2]
theorem x9 (P:SsP) (x:Int):qH (qU P).blocks x=qH P.f.blocks x:=by
 refine q1G _ _ _ _ ?_;refine List.ext_getElem? λ i=>?_;rw [List.getElem?_map,List.getElem?_map]
 by_cases hi:i<P.f.blocks.length
 ·rw [zo hi,Jq hi];show some (qP P.f i).term.to=some P.f.blocks[i].term.to;rw [show qP P.f i=P.f.blocks[i] from qv (Jq hi)]
 ·rw [List.getElem?_eq_none (by show ((List.range P.f.blocks.length).map (vw P)).length<=i;simp;omega),List.getElem?_eq_none (by omega)]
end Go.Proofs.YtfoggldjjnabcaaGreatDoor

namespace Go.Proofs.YtfoggldjjnabcaaGreatDoor
open Go.ChangeShapes Go.WideShapes Go.RowKit Go.Deep
def qBx (m:List qB):Prop:=∀ g∈m,∀ b∈g.blocks,∀ x∈b.ins,(x.op=16\/x.op=18)->x.dst=-1
theorem qAi {m:List qB} {f:qB} {x:qN} (h:zm m f x=0) (ho:x.op=16\/x.op=18):x.dst=-1:=by
 unfold zm at h;rw [if_neg (by omega)] at h;have hs:∃ ts,yI f x=some (ts,0):=by
  unfold yI;rcases ho with ho | ho
  ·rw [if_neg (by omega),if_neg (by omega),if_neg (by omega),if_neg (by omega),if_neg (by omega),if_pos ho];exact ⟨_,rfl⟩
  ·rw [if_neg (by omega),if_neg (by omega),if_neg (by omega),if_neg (by omega),if_neg (by omega),if_neg (by omega),if_pos ho];exact ⟨_,rfl⟩
 obtain ⟨ts,hs⟩:=hs;rw [hs] at h;obtain ⟨-,h⟩:=qf (by decide) h;obtain ⟨-,g2⟩:=jR h;rcases g2 with g2 | g2
 ·exact g2.2
 ·exact absurd g2.1 (by decide)
theorem q8C {m:List qB} (hp:zx m):qBx m:=λ g hg b hb x hx ho=>by
 have h0:zh m g=0:=(proper_iff.1 hp).2 g hg;obtain ⟨-,wg⟩:=funE_zero.1 h0;exact qAi ((blockE_zero.1 (wg b hb)).2.1 x hx) ho
theorem q1q {bs:List qE}:∀ (l:List qE) (i:Nat),(∀ k b,l[k]?=some b->∀ p∈b.phis,p.args.length=(qH bs ((i+k:Nat):Int)).length)->vV bs l i=true
 | [],_,_=>rfl
 | b::l,i,h=>by
  simp only [vV,Bool.and_eq_true];refine ⟨List.all_eq_true.2 λ p hp=>decide_eq_true (h 0 b rfl p hp),q1q l (i+1) λ k c hk p hp=>?_⟩;have:=h (k+1) c hk p hp
  rwa [show i+(k+1)=i+1+k by omega] at this
structure SigAs (m t:List qB):Prop where
 len:t.length=m.length
 par:∀ i,(qh t i).params=(qh m i).params
 res:∀ i,(qh t i).result=(qh m i).result
 odd:∀ i,xZ (qh t i)=xZ (qh m i)
 regs:∀ i,xZ (qh m i)=false->(qh t i).regs.take (qh t i).params.toNat=(qh m i).regs.take (qh m i).params.toNat
theorem SigAs.ins {m t:List qB} (h:SigAs m t) (f:qB) (x:qN):zm t f x=zm m f x:=by
 unfold zm;rw [h.odd,h.res,h.len];have e:(if xZ (qh m x.fn)=true then [] else (qh t x.fn).regs.take (qh t x.fn).params.toNat)=(if xZ (qh m x.fn)=true then [] else (qh m x.fn).regs.take (qh m x.fn).params.toNat):=by
  cases q:xZ (qh m x.fn) with
  | true=>rfl
  | false=>exact h.regs x.fn q
 rw [e,h.par]
theorem SigAs.block {m t:List qB} (h:SigAs m t) (f:qB) (b:qE):qt t f b=qt m f b:=by
 unfold qt;rw [show zm t f=zm m f from funext λ x=>h.ins f x]
theorem SigAs.fun_ {m t:List qB} (h:SigAs m t) (f:qB):zh t f=zh m f:=by
 unfold zh;rw [show qt t f=qt m f from funext λ x=>h.block f x]
theorem q9T {m:List qB} {n:Nat} {f g:qB} (hf:m[n]?=some f) (h1:g.params=f.params) (h2:g.result=f.result) (h3:xZ g=xZ f) (h4:g.regs.take g.params.toNat=f.regs.take f.params.toNat):SigAs m (m.set n g):=by
 have hn:=(Jk hf).1;have key:∀ i:Int,(qh (m.set n g) i=g/\qh m i=f)\/qh (m.set n g) i=qh m i:=λ i=>by
  by_cases e:i.toNat=n
  ·left;unfold qh;rw [e,JJ,List.getElem?_set_self hn,JJ,hf];exact ⟨rfl,rfl⟩
  ·right;unfold qh;rw [JJ,List.getElem?_set_ne (λ h=>e h.symm),<- JJ]
 refine ⟨List.length_set,λ i=>?_,λ i=>?_,λ i=>?_,λ i hi=>?_⟩
 ·rcases key i with ⟨a,b⟩ | a
  ·rw [a,b];exact h1
  ·rw [a]
 ·rcases key i with ⟨a,b⟩ | a
  ·rw [a,b];exact h2
  ·rw [a]
 ·rcases key i with ⟨a,b⟩ | a
  ·rw [a,b];exact h3
  ·rw [a]
 ·rcases key i with ⟨a,b⟩ | a
  ·rw [a,b];exact h4
  ·rw [a]
def q4T (f g:qB) (a b:Int):Prop:=InR g.regs.length b/\reg g.regs b=reg f.regs a
structure qAM (f g:qB) (φ:Int->Int) (x y:qN):Prop where
 op:y.op=x.op
 imm:y.imm=x.imm
 fn:y.fn=x.fn
 args:y.args=x.args.map φ
 ty:∀ a∈x.args,q4T f g a (φ a)
 none:x.dst=-1->y.dst=-1
 dst:InR f.regs.length x.dst->q4T f g x.dst y.dst
theorem q39 {f g:qB} {φ:Int->Int}:∀ (l ts:List Int),(∀ a∈l,q4T f g a (φ a))->zQ g.regs (l.map φ) ts=zQ f.regs l ts
 | [],ts,_=>by cases ts <;> rfl
 | a::l,[],_=>rfl
 | a::l,t::ts,h=>by
  show (decide (reg g.regs (φ a)=t) && zQ g.regs (l.map φ) ts)=(decide (reg f.regs a=t) && zQ f.regs l ts);rw [(h a (List.mem_cons_self ..)).2,q39 l ts (λ b hb=>h b (List.mem_cons_of_mem _ hb))]
theorem q5i {f g:qB} {φ:Int->Int} {x y:qN} (A:qAM f g φ x y) {ts:List Int} {d:Int} {bad:Bool} (h:jG f x ts d bad=0):jG g y ts d bad=0:=by
 obtain ⟨hin,hd⟩:=jR h;unfold jG at h ⊢;obtain ⟨h1,h⟩:=qf (by decide) h;obtain ⟨h2,-⟩:=qf (by decide) h;have k1:zq y.args g.regs.length=true:=by
  rw [A.args];refine List.all_eq_true.2 λ b hb=>?_;obtain ⟨a,ha,rfl⟩:=List.mem_map.1 hb;exact decide_eq_true (A.ty a ha).1
 have k2:(decide (d=0) || isIn g.regs.length y.dst)=true:=by
  rw [Bool.or_eq_true];rcases hd with ⟨q,_⟩ | ⟨_,q⟩
  ·exact .inl (decide_eq_true q)
  ·exact .inr (decide_eq_true (A.dst q).1)
 have k3:(if d=0 then decide (y.dst=-1) else decide (0<d/\reg g.regs y.dst=d))=true:=by
  simp only [Bool.and_eq_true] at h2;have h3:=h2.1.1.1.2;rcases hd with ⟨q,q2⟩ | ⟨q,q2⟩
  ·rw [if_pos q];exact decide_eq_true (A.none q2)
  ·rw [if_neg (by omega)] at h3 ⊢;have:=of_decide_eq_true h3;refine decide_eq_true ⟨this.1,?_⟩;rw [(A.dst q2).2];exact this.2
 (rw [if_pos (by rw [Bool.and_eq_true];exact ⟨k1,k2⟩)]);refine if_pos ?_;simp only [Bool.and_eq_true] at h2 ⊢;(refine ⟨⟨⟨⟨?_,k3⟩,by rw [A.op,A.imm];exact h2.1.1.2⟩,by rw [A.op,A.fn];exact h2.1.2⟩,h2.2⟩);rw [A.args,q39 _ _ A.ty];exact h2.1.1.1.1
theorem q7v {f:qB} {x:qN} {ts:List Int} {d:Int} {bad:Bool} (h:jG f x ts d bad=0):x.dst=-1\/InR f.regs.length x.dst:=by
 rcases (jR h).2 with ⟨_,q⟩ | ⟨_,q⟩
 ·exact .inl q
 ·exact .inr q
theorem qAk {m:List qB} {f g:qB} {φ:Int->Int} {x y:qN} (A:qAM f g φ x y) (h:zm m f x=0):zm m g y=0:=by
 unfold zm at h ⊢;rw [A.op,A.fn,A.args,List.length_map]
 by_cases wg:x.op=17
 ·rw [if_pos wg] at h ⊢;obtain ⟨h1,h⟩:=qf (by decide) h;obtain ⟨h2,h⟩:=qf (by decide) h;rw [if_pos h1,if_pos h2];exact q5i A h
 ·rw [if_neg wg] at h ⊢;cases hs:yI f x with
  | none=>rw [hs] at h;have h:(6:Int)=0:=h;omega
  | some p =>
   obtain ⟨ts,d⟩:=p;rw [hs] at h;obtain ⟨hl,h⟩:=qf (by decide) h;have hd:=q7v h;have hT:yY g y=yY f x:=by
    unfold yY isIn;rcases hd with q | q
    ·rw [if_neg (by rw [A.none q];simp),if_neg (by rw [q];simp)]
    ·have q1:0<=y.dst/\y.dst<(g.regs.length:Int):=(A.dst q).1;have q2:0<=x.dst/\x.dst<(f.regs.length:Int):=q;rw [if_pos (decide_eq_true q1),if_pos (decide_eq_true q2)];exact (A.dst q).2
   (have wh:yI g y=some (ts,d):=by rw [<- hs];unfold yI;rw [hT,A.op]);rw [wh];show (if x.args.length=ts.length then jG g y ts d _ else 6)=0;rw [if_pos hl,A.imm];exact q5i A h
theorem q9O {f g:qB} {x y:yU} (hk:y.kind=x.kind) (hr:g.result=f.result) (h1:x.arg=-1->y.arg=-1) (h2:InR f.regs.length x.arg->q4T f g x.arg y.arg) (h:je f x=0):je g y=0:=by
 (have hw:zu g y=zu f x:=by unfold zu;rw [hk,hr]);unfold je at h ⊢;rw [hw]
 by_cases h0:zu f x=0
 ·rw [if_pos h0] at h ⊢;obtain ⟨q,-⟩:=qf (by decide) h;exact if_pos (h1 q)
 ·rw [if_neg h0] at h ⊢;obtain ⟨q,h⟩:=qf (by decide) h;obtain ⟨q2,-⟩:=qf (by decide) h;obtain ⟨a,b⟩:=h2 q;have a:0<=y.arg/\y.arg<(g.regs.length:Int):=a;rw [if_pos a,if_pos (by rw [b];exact q2)]
end Go.Proofs.YtfoggldjjnabcaaGreatDoor
