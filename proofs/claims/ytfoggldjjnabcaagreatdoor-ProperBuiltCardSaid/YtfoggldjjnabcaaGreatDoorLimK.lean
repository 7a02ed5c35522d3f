/- The program's namedTooSoon: what it tells. -/
import Derived.Test.YtfoggldjjnabcaaGreatDoorModAK
import Derived.Test.YtfoggldjjnabcaaGreatDoorPrpK
import Derived.Test.YtfoggldjjnabcaaGreatDoorGrYK
import Derived.Test.YtfoggldjjnabcaaGreatDoorPpIK
import Derived.Test.YtfoggldjjnabcaaGreatDoorAheadGK
import Derived.Test.YtfoggldjjnabcaaGreatDoorPpBK
import Derived.Test.YtfoggldjjnabcaaGreatDoorChkDK
import Derived.StillTailTactics
set_option linter.unusedVariables false
set_option linter.unusedSimpArgs false
namespace Go.Proofs.YtfoggldjjnabcaaGreatDoor
open Go.ChangeShapes Go.WideShapes Go.RowKit Go.Deep
theorem Below.step {a b c:World} (h:Below a.heap.size a b) (k:Below b.heap.size b c):Below a.heap.size a c:=h.trans (k.mono h.size)
def jf (f:qB) (j:Nat):Bool:=(nmL f).any λ e=>decide (e.r=(j:Int)) && q7I f e
def qB9 (f:qB) (w:World) (e:Ending) (w':World):Prop :=
 (∃ G,e=.returned (.slice (some ⟨G,0,none⟩) f.regs.length f.regs.length)/\w.heap.size<=G/\w'.rowIs G 4 f.regs.length (λ j=>.bool (jf f j)))/\Below w.heap.size w w'
section
variable (n nb H:Nat) (F1:Nat->Value) (D:Nat->Nat->Bool)
def KP (lab:Nat->Nat) (W:World) (v:Value):Prop:=∃ GK,v=.slice (some ⟨GK,0,none⟩) n n/\H<=GK/\W.rowIs GK 90 (2 * n) F1/\lab GK=1
def DP2 (lab:Nat->Nat) (W:World) (v:Value):Prop:=∃ G D0,v=.slice (some ⟨G,0,none⟩) nb nb/\H<=G/\BGr W G D0 nb D/\lab G=2/\∀ x,x<nb->lab (D0+x)=2
def XP (lab:Nat->Nat) (W:World) (p:Value) (ty:TypeId) (t:Nat) (u:Value):Prop:=∃ B,p=.pointer (some ⟨B,0,none⟩)/\H<=B/\W.heap[B]?=some (.cells #[u] ty)/\lab B=t
variable {n nb H F1 D}
variable {lab lab':Nat->Nat} {W W':World} {v p u:Value} {ty:TypeId} {t:Nat}
theorem KP.go (h:KP n H F1 lab W v) (hb:∀ b,b<W.heap.size->lab b=1->W'.heap[b]?=W.heap[b]?/\lab' b=1):KP n H F1 lab' W' v:=by
 obtain ⟨GK,e,h1,h2,h3⟩:=h;obtain ⟨q1,q2⟩:=hb GK h2.lt h3;exact ⟨GK,e,h1,h2.of_block q1,q2⟩
theorem DP2.go (h:DP2 nb H D lab W v) (hb:∀ b,b<W.heap.size->lab b=2->W'.heap[b]?=W.heap[b]?/\lab' b=2):DP2 nb H D lab' W' v:=by
 obtain ⟨G,D0,e,h1,h2,h3,h4⟩:=h;obtain ⟨q1,q2⟩:=hb G h2.row.lt h3;exact ⟨G,D0,e,h1,⟨h2.row.of_block q1,λ a ha=>(h2.cells a ha).of_block (hb _ (h2.cells a ha).lt (h4 a ha)).1,h2.lt⟩,q2,λ x hx=>(hb _ (h2.cells x hx).lt (h4 x hx)).2⟩
theorem XP.go (h:XP H lab W p ty t u) (hb:∀ b,b<W.heap.size->lab b=t->W'.heap[b]?=W.heap[b]?/\lab' b=t):XP H lab' W' p ty t u:=by
 obtain ⟨B,e,h1,h2,h3⟩:=h;obtain ⟨q1,q2⟩:=hb B (qW h2) h3;exact ⟨B,e,h1,q1.trans h2,q2⟩
end
theorem xK {l:Array Bool} {k:Nat} (h:l[k]?.getD false=true):l[k]?=some true:=by
 cases e:l[k]? with
 | none=>rw [e] at h;cases h
 | some b=>rw [e] at h;exact congrArg some h
theorem vW {ops:Array Oper} {l:Array Bool} (hr:Region.ready .any ops l=[]) {i:Nat} {o:Oper} (hi:i<l.size) (ho:ops[i]?=some o) (wg:∀ e∈o.after,Region.binds .any e=true->l.getD e.on false=true):l[i]?=some true:=by
 have hl:l[i]?=some l[i]:=Array.getElem?_eq_getElem hi;cases hb:l[i] with
 | true=>rw [hl,hb]
 | false =>
  (have:i∈Region.ready .any ops l:=mem_ready.2 ⟨by unfold Array.getD;rw [dif_pos hi];exact hb,o,ho,wg⟩);rw [hr] at this;cases this
theorem q2f {l:Array Bool} {k:Nat} (h:l.getD k true=false):¬ l[k]?=some true:=λ e=>by
 obtain ⟨hk,e⟩:=Array.getElem?_eq_some_iff.1 e;unfold Array.getD at h;rw [dif_pos hk] at h;exact absurd (h.symm.trans e) (by decide)
theorem qr {l:Array Bool} {i j:Nat} (h:l[j]?=some true) (hi:i<l.size):(l.setIfInBounds i true)[j]?=some true:=by
 rw [Array.getElem?_setIfInBounds]
 by_cases e:i=j
 ·subst e;rw [if_pos rfl,if_pos hi]
 ·rw [if_neg e];exact h
structure RgI (f:qB) (F:Value) (N:Nat) (w1:World) (l:Array Bool) (a:Act) (W:World):Prop where
 sz:l.size=8
 st:∃ (t3 t4 t6 t7 t8 t9:Value) (lab:Nat->Nat),a=⟨#[F,.pointer (some ⟨N,0,none⟩),.slice none 0 0,t3,t4,undef,t6,t7,t8,t9,undef,undef,undef,undef,undef,undef,undef,undef],[]⟩ /\
  Below w1.heap.size w1 W/\(∀ b,b<w1.heap.size->lab b=0)/\(l[0]?=some true->t6=F)/\(l[2]?=some true->t8=F) /\
  (l[1]?=some true->KP f.regs.length w1.heap.size (mkF (evL f)) lab W t7)/\(l[3]?=some true->DP2 f.blocks.length w1.heap.size (dmB f.blocks) lab W t9) /\
  (l[6]?=some true->l[1]?=some true/\l[4]?=some true)/\(l[7]?=some true->l[3]?=some true/\l[5]?=some true) /\
  (l[4]?=some true->∃ u,XP w1.heap.size lab W t3 131 3 u/\(l[6]?=some true->u=t7))/\(l[5]?=some true->∃ u,XP w1.heap.size lab W t4 59 4 u/\(l[7]?=some true->u=t9))
set_option maxRecDepth 100000 in
set_option maxHeartbeats 16000000 in
theorem ka (f:qB) (vf:Value) (w:World) (hf:VFun w vf f) (hn:f.regs.length<=300) (td:f.blocks.length<=1000) (hG:OfNone w)
  (tw:∀ (i:Nat) (b:qE),f.blocks[i]?=some b->∀ p∈b.phis,p.args.length=(qH f.blocks (i:Int)).length)
  (hQ:∀ e∈nmL f,(0<=e.r/\e.r<f.regs.length)/\0<=e.b/\e.b<f.blocks.length) (hm:∀ r,(yy (evL f) r).b<f.blocks.length) :
  Calls Tryz.prog 39 #[vf] w (qB9 f w):=by
 have tx:=hf;obtain ⟨Ar,cr,Ab,cb,rfl,tK,tO,tL,-⟩:=hf;have tf:=Jj tx;have HG:=Jj hG;have wW:=run_make_row' (P:=Tryz.prog) 64 4 (.bool false) 1 Tryz.underlying64 Tryz.info4 rfl .i64 .i64 f.regs.length (by omega) (by omega);have tS:=Jj wW;have tQ:=Jj tw;have HQ:=Jj hQ;have HM:=Jj hm
 clear tx tK tO tL hG wW tw hQ hm;(go_enter Tryz.func39,Tryz.ntmps39);(go_upto_region 1 with fail);obtain ⟨w1,wY,tJ,hk1,wM,wO,-⟩:=named w #[.int .i64 f.params,.int .i64 f.result,.slice Ar f.regs.length cr,.slice Ab f.blocks.length cb] 30;rw [<- wY];obtain ⟨N,hN⟩:∃ N,N=w.heap.size:=⟨_,rfl⟩;rw [<- hN] at wO ⊢;have f0:w1.cell? ⟨N,0,none⟩=some (.int .i64 f.params):=wO 0 _ rfl;have f1:w1.cell? ⟨N,1,none⟩=some (.int .i64 f.result):=wO 1 _ rfl
 have f2:w1.cell? ⟨N,2,none⟩=some (.slice Ar f.regs.length cr):=wO 2 _ rfl;have f3:w1.cell? ⟨N,3,none⟩=some (.slice Ab f.blocks.length cb):=wO 3 _ rfl;(have bF:w1.heap[N]?=some (.cells #[.int .i64 f.params,.int .i64 f.result,.slice Ar f.regs.length cr,.slice Ab f.blocks.length cb] 30):=by rw [wY,hN];exact heap_alloc_new _ _);have wv:=Jj wM;have tW:=Jj bF;have HN:=Jj hN;have hNw:N<w1.heap.size:=by omega
 have tz:Hid (∀ W,Below w1.heap.size w1 W->Calls Tryz.prog 78 #[.agg #[.int .i64 f.params,.int .i64 f.result,.slice Ar f.regs.length cr,.slice Ab f.blocks.length cb]] W (q6A f W)):=Jj (λ W hW =>
  q4z f _ W (VFun.keep (q7 (wv.out.trans (hW.mono wv.out.size))) tf.out) hn (HG.out.keep (q7 (wv.out.trans (hW.mono wv.out.size)))))
 have tC:Hid (∀ W,Below w1.heap.size w1 W->Calls Tryz.prog 79 #[.agg #[.int .i64 f.params,.int .i64 f.result,.slice Ar f.regs.length cr,.slice Ab f.blocks.length cb]] W (q9H f.blocks W)):=Jj (λ W hW =>
  kj f _ W (VFun.keep (q7 (wv.out.trans (hW.mono wv.out.size))) tf.out) td)
 have HFF:=Jj (And.intro f0 (And.intro f1 (And.intro f2 f3)));clear wY tJ wM wO hN bF;rename_i K aK;have tF:=Jj aK;clear aK;obtain ⟨F,hF⟩:∃ F,F=Value.agg #[.int .i64 f.params,.int .i64 f.result,.slice Ar f.regs.length cr,.slice Ab f.blocks.length cb]:=⟨_,rfl⟩;rw [<- hF];rw [<- hF] at tz tC;have tB:=Jj hF
 have tg:Hid (∀ W,Below w1.heap.size w1 W->W.cell? ⟨N,0,none⟩=some (.int .i64 f.params)/\W.cell? ⟨N,1,none⟩=some (.int .i64 f.result)/\W.cell? ⟨N,2,none⟩=some (.slice Ar f.regs.length cr)/\W.cell? ⟨N,3,none⟩=some (.slice Ab f.blocks.length cb)):=Jj (λ W hW =>
  ⟨q7 hW _ _ f0,q7 hW _ _ f1,q7 hW _ _ f2,q7 hW _ _ f3⟩)
 clear f0 f1 f2 f3 hF;refine q1N (RgI f F N w1) (by kernel_rfl) (λ l a w h=>h.sz) ?_ ?_
 ·intro l a W hI;have wJ:=hI.sz;have HI:=Jj hI;constructor
  ·intro hr;have h0:l[0]?=some true:=vW hr (by omega) rfl (by simp);have h2:l[2]?=some true:=vW hr (by omega) rfl (by simp);have h4:l[4]?=some true:=vW hr (by omega) rfl (by simp);have h5:l[5]?=some true:=vW hr (by omega) rfl (by simp);have h1:l[1]?=some true:=vW hr (by omega) rfl (by simp [h0]);have h3:l[3]?=some true:=vW hr (by omega) rfl (by simp [h2,h1]);have h6:l[6]?=some true:=vW hr (by omega) rfl (by simp [h0,h1,h2,h3,h4,h5]);have h7:l[7]?=some true:=vW hr (by omega) rfl (by simp [h0,h1,h2,h3,h4,h5,h6])
   obtain ⟨t3,t4,t6,t7,t8,t9,lab,rfl,hb,wh,e0,e2,e1,e3,o6,o7,e4,e5⟩:=hI.st;obtain rfl:=e0 h0;obtain ⟨GK,rfl,hGK,ww,lK⟩:=e1 h1;obtain ⟨G,D0,rfl,hGG,wT,lG,lD⟩:=e3 h3;obtain ⟨u,⟨BK,rfl,hBK,cBK,lBK⟩,q4⟩:=e4 h4;obtain ⟨u',⟨BD,rfl,hBD,cBD,lBD⟩,q5⟩:=e5 h5;obtain rfl:=q4 h6;obtain rfl:=q5 h7;have wZ:=e2 h2
   subst wZ;have wQ:=Jj hb;have HR:=Jj ww;have th:=Jj wT;have tD:=Jj cBK;have tE:=Jj cBD;have HII:=Jj (And.intro hGK (And.intro hGG (And.intro hBK hBD)));obtain ⟨f0,f1,f2,f3⟩:=tg.out W hb;refine tF.out _ _ ?_
   have wW:=tS.out;clear tF HI h0 h1 h2 h3 h4 h5 h6 h7 hr hb wh e0 e2 e1 e3 o6 o7 e4 e5 q4 q5 hGK ww lK hGG wT lG lD hBK cBK lBK hBD cBD lBD hI;(go_upto_region 3 with fail);obtain ⟨W3,hW3⟩:∃ W3,W3=(W.alloc (.cells (madeCells #[.bool false] f.regs.length) 4)).alloc (.cells #[.slice (some ⟨W.heap.size,0,none⟩) f.regs.length f.regs.length] 64):=⟨_,rfl⟩;obtain ⟨GS,hGS⟩:∃ GS,GS=W.heap.size:=⟨_,rfl⟩;obtain ⟨bM,bB,ta,wj⟩:=kN W GS hGS _ _ W3 hW3;rw [<- hW3,<- hGS];rw [hGS] at wj;rw [<- hGS] at bB
   have wR:=q7 wj;have f0:=wR _ _ f0;have f1:=wR _ _ f1;have f2:=wR _ _ f2;have f3:=wR _ _ f3;have tu:=qW tD.out;have tr:=qW tE.out;have tq:=HR.out.lt;have tG:=th.out.row.lt
   have tp:∀ a,a<f.blocks.length->D0+a<W.heap.size:=λ a ha=>(th.out.cells a ha).lt;have tm:N<W.heap.size:=by have:=wQ.out.size;omega
   have hP:SnP f Ar Ab cr cb GK N BK BD (GS+1) GS G D0 [] W3:=⟨⟨_,bM,size_madeCells _ _,λ i hi=>by simp [madeCells,hi,Nat.mod_one]⟩,
    HR.out.of_block (wj.block _ tq),th.out.below wj,(wj.block _ tm).trans ((wQ.out.block N hNw).trans tW.out),(wj.block _ tu).trans tD.out,(wj.block _ tr).trans tE.out,bB⟩
   have HV:Hid (qBt (SnP f Ar Ab cr cb GK N BK BD (GS+1) GS G D0) (λ b=>b=GS) (λ e=>(0<=e.r/\e.r<f.regs.length)/\0<=e.b/\e.b<f.blocks.length) 81 (.pointer (some ⟨N,0,none⟩)) (.pointer (some ⟨BK,0,none⟩)) (.pointer (some ⟨BD,0,none⟩)) (.pointer (some ⟨GS+1,0,none⟩)) W3):=Jj
    ⟨xx Tryz.func81 (by kernel_rfl) rfl,λ b hb=>by show b<W3.heap.size;rw [hb];omega,λ l u u' h h2=>h.below h2,
     λ l e u hp hx hq=>q6N e hp (by omega) (by omega) (λ a ha=>by have:=tp a ha;omega) (by omega) (by omega) (by omega) (by omega) hq.1.1 hq.1.2 hq.2.1 hq.2.2 HM.out td⟩
   have hBW:Below w.heap.size w W3:=wv.out.trans ((wQ.out.trans (wj.mono wQ.out.size)).mono wv.out.size);(have hKW:∀ w',FrX (λ b=>b=GS) W3 w'->Below w.heap.size w w':=λ w' h=>hBW.trans (h.below hBW.size (λ k hk=>by rw [hk];have:=wv.out.size;have:=wQ.out.size;omega)));have tV:=Jj (q1V f _ w W3 HV.out tf.out (λ w' h=>q7 (hKW w' h)) hP td tQ.out HQ.out);have tT:=Jj hKW;(have tU:Hid (w.heap.size<=GS):=Jj (by have:=wv.out.size;have:=wQ.out.size;omega));clear hW3 hGS bM bB ta wj wR tu tr tq tG tp tm hP hBW hKW wW;(go_wp2_with fail);refine tV.out.mono ?_;rintro e w7 ⟨rfl,tc,tj⟩
   have b1:=q6 tc.bs 0;have tR:=Jj tc;have tP:=Jj (tT.out _ tj);clear tc tj f0 f1 f2 f3;(go_wp2_with fail);(go_ret);exact ⟨⟨GS,rfl,tU.out,tR.out.s⟩,tP.out⟩
  ·intro i hm;obtain ⟨hl,o,ho,wg⟩:=mem_ready.1 hm;have tM:i<8:=(Array.getElem?_eq_some_iff.1 ho).1;have wl:=Jj wg;have HO:=Jj ho;have wX:=Jj hl;clear hm hl ho wg hI;refine q7Y ?_ (by exact tM);intro o2 wm K2 hK2
   rcases (show i=0\/i=1\/i=2\/i=3\/i=4\/i=5\/i=6\/i=7 by omega) with rfl | rfl | rfl | rfl | rfl | rfl | rfl | rfl
   ·have ho:=HO.out;simp only [JZ,JX,JY,J0] at wm ho;have wg:=wl.out;rw [<- ho] at wg;simp at wg;clear ho;subst wm;obtain ⟨t3,t4,t6,t7,t8,t9,lab,rfl,hb,wh,e0,e2,e1,e3,o6,o7,e4,e5⟩:=HI.out.st;obtain ⟨f0,f1,f2,f3⟩:=tg.out W hb
    (go_simp);rw [<- tB.out];refine hK2.out _ _ ⟨by simp [wJ],t3,t4,F,t7,t8,t9,lab,rfl,hb,wh,λ _=>rfl,λ h=>e2 (qQ h (by decide)),λ h=>e1 (qQ h (by decide)),λ h=>e3 (qQ h (by decide)),λ h=>?_,λ h=>?_,λ h=>?_,λ h=>?_⟩
    ·have q:=o6 (qQ h (by decide));exact ⟨qr q.1 (by omega),qr q.2 (by omega)⟩
    ·have q:=o7 (qQ h (by decide));exact ⟨qr q.1 (by omega),qr q.2 (by omega)⟩
    ·obtain ⟨u,q1,q2⟩:=e4 (qQ h (by decide));exact ⟨u,q1,λ h=>q2 (qQ h (by decide))⟩
    ·obtain ⟨u,q1,q2⟩:=e5 (qQ h (by decide));exact ⟨u,q1,λ h=>q2 (qQ h (by decide))⟩
   ·have ho:=HO.out;simp only [JZ,JX,JY,J0] at wm ho;have wg:=wl.out;rw [<- ho] at wg;simp at wg;clear ho;subst wm;obtain ⟨t3,t4,t6,t7,t8,t9,lab,rfl,hb,wh,e0,e2,e1,e3,o6,o7,e4,e5⟩:=HI.out.st;have tH:=e0 (xK (wg rfl))
    rw [tH];(go_simp);refine (tz.out W hb).mono ?_;rintro e W' ⟨⟨GK,rfl,hGK,ww⟩,hbW⟩;(have wk:Hid (∀ b k,b<W.heap.size->lab b=k->W'.heap[b]?=W.heap[b]?/\qk lab W.heap.size 1 b=k):=Jj (λ b k hb hl=>⟨hbW.block b hb,by rw [qT hb];exact hl⟩));have wu:=hb.trans (hbW.mono hb.size);have hsW:=hb.size;(go_wp2_with fail);refine hK2.out _ _ ⟨by simp [wJ],t3,t4,F,_,t8,t9,qk lab W.heap.size 1,rfl,wu,λ b hb=>by rw [qT (by omega)];exact wh b hb,λ _=>rfl,λ h=>e2 (qQ h (by decide)),λ _=>⟨GK,rfl,by omega,ww,ze hGK⟩,λ h=>(e3 (qQ h (by decide))).go (λ b h1 h2=>wk.out b 2 h1 h2),λ h=>?_,λ h=>?_,λ h=>?_,λ h=>?_⟩
    ·have q:=o6 (qQ h (by decide));exact ⟨qr q.1 (by omega),qr q.2 (by omega)⟩
    ·have q:=o7 (qQ h (by decide));exact ⟨qr q.1 (by omega),qr q.2 (by omega)⟩
    ·obtain ⟨u,q1,q2⟩:=e4 (qQ h (by decide));exact ⟨u,q1.go (λ b h1 h2=>wk.out b 3 h1 h2),λ h=>absurd (o6 (qQ h (by decide))).1 (q2f wX.out)⟩
    ·obtain ⟨u,q1,q2⟩:=e5 (qQ h (by decide));exact ⟨u,q1.go (λ b h1 h2=>wk.out b 4 h1 h2),λ h=>q2 (qQ h (by decide))⟩
   ·have ho:=HO.out;simp only [JZ,JX,JY,J0] at wm ho;have wg:=wl.out;rw [<- ho] at wg;simp at wg;clear ho;subst wm;obtain ⟨t3,t4,t6,t7,t8,t9,lab,rfl,hb,wh,e0,e2,e1,e3,o6,o7,e4,e5⟩:=HI.out.st;obtain ⟨f0,f1,f2,f3⟩:=tg.out W hb
    (go_simp);rw [<- tB.out];refine hK2.out _ _ ⟨by simp [wJ],t3,t4,t6,t7,F,t9,lab,rfl,hb,wh,λ h=>e0 (qQ h (by decide)),λ _=>rfl,λ h=>e1 (qQ h (by decide)),λ h=>e3 (qQ h (by decide)),λ h=>?_,λ h=>?_,λ h=>?_,λ h=>?_⟩
    ·have q:=o6 (qQ h (by decide));exact ⟨qr q.1 (by omega),qr q.2 (by omega)⟩
    ·have q:=o7 (qQ h (by decide));exact ⟨qr q.1 (by omega),qr q.2 (by omega)⟩
    ·obtain ⟨u,q1,q2⟩:=e4 (qQ h (by decide));exact ⟨u,q1,λ h=>q2 (qQ h (by decide))⟩
    ·obtain ⟨u,q1,q2⟩:=e5 (qQ h (by decide));exact ⟨u,q1,λ h=>q2 (qQ h (by decide))⟩
   ·have ho:=HO.out;simp only [JZ,JX,JY,J0] at wm ho;have wg:=wl.out;rw [<- ho] at wg;simp at wg;clear ho;subst wm;obtain ⟨t3,t4,t6,t7,t8,t9,lab,rfl,hb,wh,e0,e2,e1,e3,o6,o7,e4,e5⟩:=HI.out.st;have wZ:=e2 (xK (wg.1 rfl))
    rw [wZ];(go_simp);refine (tC.out W hb).mono ?_;rintro e W' ⟨⟨G,D0,rfl,hGG,wT,-⟩,hbW⟩;(have wk:Hid (∀ b k,b<W.heap.size->lab b=k->W'.heap[b]?=W.heap[b]?/\qk lab W.heap.size 2 b=k):=Jj (λ b k hb hl=>⟨hbW.block b hb,by rw [qT hb];exact hl⟩));have wu:=hb.trans (hbW.mono hb.size);have hsW:=hb.size;have hDG:=wT.lt;go_wp2_with fail
    refine hK2.out _ _ ⟨by simp [wJ],t3,t4,t6,t7,F,_,qk lab W.heap.size 2,rfl,wu,λ b hb=>by rw [qT (by omega)];exact wh b hb,λ h=>e0 (qQ h (by decide)),λ _=>rfl,λ h=>(e1 (qQ h (by decide))).go (λ b h1 h2=>wk.out b 1 h1 h2),λ _=>⟨G,D0,rfl,by omega,wT,ze hGG,λ x hx=>ze (by omega)⟩,λ h=>?_,λ h=>?_,λ h=>?_,λ h=>?_⟩
    ·have q:=o6 (qQ h (by decide));exact ⟨qr q.1 (by omega),qr q.2 (by omega)⟩
    ·have q:=o7 (qQ h (by decide));exact ⟨qr q.1 (by omega),qr q.2 (by omega)⟩
    ·obtain ⟨u,q1,q2⟩:=e4 (qQ h (by decide));exact ⟨u,q1.go (λ b h1 h2=>wk.out b 3 h1 h2),λ h=>q2 (qQ h (by decide))⟩
    ·obtain ⟨u,q1,q2⟩:=e5 (qQ h (by decide));exact ⟨u,q1.go (λ b h1 h2=>wk.out b 4 h1 h2),λ h=>absurd (o7 (qQ h (by decide))).1 (q2f wX.out)⟩
   ·have ho:=HO.out;simp only [JZ,JX,JY,J0] at wm ho;have wg:=wl.out;rw [<- ho] at wg;simp at wg;clear ho;subst wm;obtain ⟨t3,t4,t6,t7,t8,t9,lab,rfl,hb,wh,e0,e2,e1,e3,o6,o7,e4,e5⟩:=HI.out.st;obtain ⟨W',hW'⟩:∃ W',W'=W.alloc (.cells #[.slice none 0 0] 131):=⟨_,rfl⟩
    (have hbW:Below W.heap.size W W':=by rw [hW'];exact (J5 _ _).alloc (J4 _) _);(have wk:Hid (∀ b k,b<W.heap.size->lab b=k->W'.heap[b]?=W.heap[b]?/\qk lab W.heap.size 3 b=k):=Jj (λ b k hb hl=>⟨hbW.block b hb,by rw [qT hb];exact hl⟩));have wu:=hb.trans (hbW.mono hb.size);have hsW:=hb.size;(go_simp);rw [<- hW'];refine hK2.out _ _ ⟨by simp [wJ],.pointer (some ⟨W.heap.size,0,none⟩),t4,t6,t7,t8,t9,qk lab W.heap.size 3,rfl,wu,λ b hb=>by rw [qT (by omega)];exact wh b hb,λ h=>e0 (qQ h (by decide)),λ h=>e2 (qQ h (by decide)),λ h=>(e1 (qQ h (by decide))).go (λ b h1 h2=>wk.out b 1 h1 h2),λ h=>(e3 (qQ h (by decide))).go (λ b h1 h2=>wk.out b 2 h1 h2),λ h=>?_,λ h=>?_,λ h=>?_,λ h=>?_⟩
    ·have q:=o6 (qQ h (by decide));exact ⟨qr q.1 (by omega),qr q.2 (by omega)⟩
    ·have q:=o7 (qQ h (by decide));exact ⟨qr q.1 (by omega),qr q.2 (by omega)⟩
    ·exact ⟨.slice none 0 0,⟨W.heap.size,rfl,by omega,by rw [hW'];exact heap_alloc_new _ _,ze (J4 _)⟩,λ h=>absurd (o6 (qQ h (by decide))).2 (q2f wX.out)⟩
    ·obtain ⟨u,q1,q2⟩:=e5 (qQ h (by decide));exact ⟨u,q1.go (λ b h1 h2=>wk.out b 4 h1 h2),λ h=>q2 (qQ h (by decide))⟩
   ·have ho:=HO.out;simp only [JZ,JX,JY,J0] at wm ho;have wg:=wl.out;rw [<- ho] at wg;simp at wg;clear ho;subst wm;obtain ⟨t3,t4,t6,t7,t8,t9,lab,rfl,hb,wh,e0,e2,e1,e3,o6,o7,e4,e5⟩:=HI.out.st;obtain ⟨W',hW'⟩:∃ W',W'=W.alloc (.cells #[.slice none 0 0] 59):=⟨_,rfl⟩
    (have hbW:Below W.heap.size W W':=by rw [hW'];exact (J5 _ _).alloc (J4 _) _);(have wk:Hid (∀ b k,b<W.heap.size->lab b=k->W'.heap[b]?=W.heap[b]?/\qk lab W.heap.size 4 b=k):=Jj (λ b k hb hl=>⟨hbW.block b hb,by rw [qT hb];exact hl⟩));have wu:=hb.trans (hbW.mono hb.size);have hsW:=hb.size;(go_simp);rw [<- hW'];refine hK2.out _ _ ⟨by simp [wJ],t3,.pointer (some ⟨W.heap.size,0,none⟩),t6,t7,t8,t9,qk lab W.heap.size 4,rfl,wu,λ b hb=>by rw [qT (by omega)];exact wh b hb,λ h=>e0 (qQ h (by decide)),λ h=>e2 (qQ h (by decide)),λ h=>(e1 (qQ h (by decide))).go (λ b h1 h2=>wk.out b 1 h1 h2),λ h=>(e3 (qQ h (by decide))).go (λ b h1 h2=>wk.out b 2 h1 h2),λ h=>?_,λ h=>?_,λ h=>?_,λ h=>?_⟩
    ·have q:=o6 (qQ h (by decide));exact ⟨qr q.1 (by omega),qr q.2 (by omega)⟩
    ·have q:=o7 (qQ h (by decide));exact ⟨qr q.1 (by omega),qr q.2 (by omega)⟩
    ·obtain ⟨u,q1,q2⟩:=e4 (qQ h (by decide));exact ⟨u,q1.go (λ b h1 h2=>wk.out b 3 h1 h2),λ h=>q2 (qQ h (by decide))⟩
    ·exact ⟨.slice none 0 0,⟨W.heap.size,rfl,by omega,by rw [hW'];exact heap_alloc_new _ _,ze (J4 _)⟩,λ h=>absurd (o7 (qQ h (by decide))).2 (q2f wX.out)⟩
   ·have ho:=HO.out;simp only [JZ,JX,JY,J0] at wm ho;have wg:=wl.out;rw [<- ho] at wg;simp at wg;clear ho;subst wm;obtain ⟨t3,t4,t6,t7,t8,t9,lab,rfl,hb,wh,e0,e2,e1,e3,o6,o7,e4,e5⟩:=HI.out.st;have wV:=Jj (xK (wg.2.1 rfl))
    have wU:=Jj (xK (wg.1 rfl));clear wg;obtain ⟨u,⟨B,rfl,hB,hcB,hlB⟩,-⟩:=e4 wU.out;have KV:=e1 wV.out;have KV2:=Jj KV;obtain ⟨GK,rfl,-⟩:=KV;have c0:=q6 hcB 0;have z0:=qC hcB 0;obtain ⟨W',hW'⟩:∃ W',W'=W.setCell ⟨B,0,none⟩ (.slice (some ⟨GK,0,none⟩) f.regs.length f.regs.length):=⟨_,rfl⟩
    (have wk:Hid (∀ b k,k≠3->b<W.heap.size->lab b=k->W'.heap[b]?=W.heap[b]?/\lab b=k):=Jj (λ b k hk tN hl=>⟨by rw [hW'];exact JQ _ _ _ _ (λ e=>hk (by rw [<- hl,e];exact hlB)),hl⟩));(have wu:Below w1.heap.size w1 W':=by rw [hW'];exact hb.setCell hB _);(go_simp);rw [<- hW'];refine hK2.out _ _ ⟨by simp [wJ],.pointer (some ⟨B,0,none⟩),t4,t6,(.slice (some ⟨GK,0,none⟩) f.regs.length f.regs.length),t8,t9,lab,rfl,wu,wh,λ h=>e0 (qQ h (by decide)),λ h=>e2 (qQ h (by decide)),λ h=>(e1 (qQ h (by decide))).go (λ b h1 h2=>wk.out b 1 (by decide) h1 h2),λ h=>(e3 (qQ h (by decide))).go (λ b h1 h2=>wk.out b 2 (by decide) h1 h2),λ h=>?_,λ h=>?_,λ h=>?_,λ h=>?_⟩
    ·exact ⟨qr wV.out (by omega),qr wU.out (by omega)⟩
    ·have q:=o7 (qQ h (by decide));exact ⟨qr q.1 (by omega),qr q.2 (by omega)⟩
    ·exact ⟨_,⟨B,rfl,hB,by rw [hW'];exact qK (i:=0) _ hcB,hlB⟩,λ _=>rfl⟩
    ·obtain ⟨u,q1,q2⟩:=e5 (qQ h (by decide));exact ⟨u,q1.go (λ b h1 h2=>wk.out b 4 (by decide) h1 h2),λ h=>q2 (qQ h (by decide))⟩
   ·have ho:=HO.out;simp only [JZ,JX,JY,J0] at wm ho;have wg:=wl.out;rw [<- ho] at wg;simp at wg;clear ho;subst wm;obtain ⟨t3,t4,t6,t7,t8,t9,lab,rfl,hb,wh,e0,e2,e1,e3,o6,o7,e4,e5⟩:=HI.out.st;have wV:=Jj (xK (wg.2.1 rfl))
    have wU:=Jj (xK (wg.1 rfl));clear wg;obtain ⟨u,⟨B,rfl,hB,hcB,hlB⟩,-⟩:=e5 wU.out;have KV:=e3 wV.out;have KV2:=Jj KV;obtain ⟨G,D0,rfl,-⟩:=KV;have c0:=q6 hcB 0;have z0:=qC hcB 0;obtain ⟨W',hW'⟩:∃ W',W'=W.setCell ⟨B,0,none⟩ (.slice (some ⟨G,0,none⟩) f.blocks.length f.blocks.length):=⟨_,rfl⟩
    (have wk:Hid (∀ b k,k≠4->b<W.heap.size->lab b=k->W'.heap[b]?=W.heap[b]?/\lab b=k):=Jj (λ b k hk tN hl=>⟨by rw [hW'];exact JQ _ _ _ _ (λ e=>hk (by rw [<- hl,e];exact hlB)),hl⟩));(have wu:Below w1.heap.size w1 W':=by rw [hW'];exact hb.setCell hB _);(go_simp);rw [<- hW'];refine hK2.out _ _ ⟨by simp [wJ],t3,.pointer (some ⟨B,0,none⟩),t6,t7,t8,(.slice (some ⟨G,0,none⟩) f.blocks.length f.blocks.length),lab,rfl,wu,wh,λ h=>e0 (qQ h (by decide)),λ h=>e2 (qQ h (by decide)),λ h=>(e1 (qQ h (by decide))).go (λ b h1 h2=>wk.out b 1 (by decide) h1 h2),λ h=>(e3 (qQ h (by decide))).go (λ b h1 h2=>wk.out b 2 (by decide) h1 h2),λ h=>?_,λ h=>?_,λ h=>?_,λ h=>?_⟩
    ·have q:=o6 (qQ h (by decide));exact ⟨qr q.1 (by omega),qr q.2 (by omega)⟩
    ·exact ⟨qr wV.out (by omega),qr wU.out (by omega)⟩
    ·obtain ⟨u,q1,q2⟩:=e4 (qQ h (by decide));exact ⟨u,q1.go (λ b h1 h2=>wk.out b 3 (by decide) h1 h2),λ h=>q2 (qQ h (by decide))⟩
    ·exact ⟨_,⟨B,rfl,hB,by rw [hW'];exact qK (i:=0) _ hcB,hlB⟩,λ _=>rfl⟩
 ·exact ⟨by rfl,undef,undef,undef,undef,undef,undef,λ _=>0,rfl,(J5 _ _).drew,λ _ _=>rfl,λ h=>absurd h (by simp),λ h=>absurd h (by simp),λ h=>absurd h (by simp),λ h=>absurd h (by simp),λ h=>absurd h (by simp),λ h=>absurd h (by simp),λ h=>absurd h (by simp),λ h=>absurd h (by simp)⟩
end Go.Proofs.YtfoggldjjnabcaaGreatDoor

namespace Go.Proofs.YtfoggldjjnabcaaGreatDoor
open Go.ChangeShapes Go.WideShapes Go.RowKit Go.Deep
def qs (n:Nat) (F:Nat->Bool):Int:=match (List.range n).find? F with | some j=>(j:Int) | none=>-1
theorem q79 {n:Nat} {F:Nat->Bool} {j:Nat} (hj:j<n) (h:F j=true) (hb:∀ i,i<j->F i=false):qs n F=j:=by
 unfold qs;have:(List.range n).find? F=some j:=by
  rw [List.find?_range_eq_some];exact ⟨h,by simpa using hj,λ i hi=>by simp [hb i hi]⟩
 rw [this]
theorem j5 {n:Nat} {F:Nat->Bool} (h:∀ i,i<n->F i=false):qs n F=-1:=by
 unfold qs;have:(List.range n).find? F=none:=by
  rw [List.find?_eq_none];intro i hi;rw [h i (List.mem_range.1 hi)];simp
 rw [this]
set_option maxRecDepth 100000 in
theorem xp (n G c:Nat) (F:Nat->Bool) (x:Bool) (w:World) (hr:w.rowIs G 4 n (λ j=>.bool (F j))) (hn:n<=1000000) :
  Calls Tryz.prog 37 #[.slice (some ⟨G,0,none⟩) n c,.bool x] w λ e w'=>e=.returned (.int .i64 (qs n λ j=>F j == x))/\w'=w:=by
 (go_enter Tryz.func37,Tryz.ntmps37);go_wp2_with fail
 go_loopw [8] (λ i wr=>∃ j:Nat,j<=n/\i=.int .i64 j/\Hid (∀ i,i<j->(F i == x)=false)/\wr=w) (λ i _=>n - (intOf i).toNat)
 case atStart=>exact ⟨0,Nat.zero_le _,rfl,Jj (λ i hi=>by omega),rfl⟩
 case round =>
  obtain ⟨j,hj,rfl,hi,rfl⟩:=hrel
  by_cases wh:j<n
  ·have c0:=hr.cell wh;(have hj0:(0:Int)<=j:=by omega);have hj1:(j:Int)<n:=by omega
   by_cases wg:F j=x
   ·(have hb:(x == F j)=true:=by rw [wg];simp);(have HE:Hid (qs n (λ j=>F j == x)=j):=Jj (q79 wh (by rw [wg];simp) hi.out));clear wg;(go_wp2_with fail);(go_ret);exact ⟨by rw [HE.out];rfl,rfl⟩
   ·have hb:(x == F j)=false:=by rw [beq_eq_false_iff_ne];exact λ e=>wg e.symm
    have HN:Hid (∀ i,i<j+1->(F i == x)=false):=Jj (λ i h=>by
     by_cases e:i=j
     ·subst e;rw [beq_eq_false_iff_ne];exact wg
     ·exact hi.out i (by omega))
    clear wg;go_wp2_with fail
    go_roundw
    case rel=>exact ⟨j+1,by omega,by go_num,HN,trivial⟩
    case measure=>simp [intOf];omega
  ·(obtain rfl:j=n:=by omega);have HE:Hid (qs j (λ j=>F j == x)=-1):=Jj (j5 hi.out);clear hr;(go_wp2_with fail);(go_ret);exact ⟨by rw [HE.out];rfl,rfl⟩
set_option maxRecDepth 100000 in
theorem q1W (n G c:Nat) (F:Nat->Bool) (x:Bool) (w:World) (hr:w.rowIs G 4 n (λ j=>.bool (F j))) (hn:n<=1000000) :
  Calls Tryz.prog 35 #[.slice (some ⟨G,0,none⟩) n c,.bool x] w λ e w'=>e=.returned (.bool (decide (0<=qs n λ j=>F j == x)))/\w'=w:=by
 have HI:=Jj (xp n G c F x w hr hn);generalize qs n (λ j=>F j == x)=q at *;(go_enter Tryz.func35,Tryz.ntmps35);(go_wp2_with fail);refine HI.out.mono ?_;rintro e w' ⟨rfl,rfl⟩;(go_wp2_with fail);(go_ret);exact ⟨rfl,rfl⟩
theorem q4d {f:qB} (h:zv f=true):∀ t∈f.regs,t=1\/t=2:=λ t ht=>by
 unfold zv at h;rw [Bool.and_eq_true,Bool.and_eq_true] at h;exact of_decide_eq_true (List.all_eq_true.1 h.1.1 t ht)
set_option maxRecDepth 100000 in
set_option maxHeartbeats 4000000 in
theorem q4q (OI:kQ) (m:List qB) (f:qB) (vm vf:Value) (w:World) (hm:VMod w vm m) (hf:VFun w vf f) (ww:Lim f) :
  Calls Tryz.prog 75 #[vm,vf] w λ e w'=>e=.returned (q1U (zh m f))/\Below w.heap.size w w':=by
 have tj:=hm;have wV:=hf;obtain ⟨Am,cm,rfl,th⟩:=hm;obtain ⟨Ar,cr,Ab,cb,rfl,hr,tB,hp64,hr64⟩:=hf;have hbl:=tB.len;(go_enter Tryz.func75,Tryz.ntmps75);(go_wp2_with fail);obtain ⟨wa,tw,tx,tH,tC,tz,-⟩:=named w #[.slice Am m.length cm] 24;obtain ⟨w1,wT,tg,wj,tD,wm,-⟩:=named wa #[.int .i64 f.params,.int .i64 f.result,.slice Ar f.regs.length cr,.slice Ab f.blocks.length cb] 30
 rw [<- tw,<- wT];rw [tx] at wm;have hB1:Below w.heap.size w w1:=tC.trans (tD.mono (by omega));have q0:w1.cell? ⟨w.heap.size,0,none⟩=some (.slice Am m.length cm):=wj _ _ (tz 0 _ rfl);have f0:w1.cell? ⟨w.heap.size+1,0,none⟩=some (.int .i64 f.params):=wm 0 _ rfl;have f1:w1.cell? ⟨w.heap.size+1,1,none⟩=some (.int .i64 f.result):=wm 1 _ rfl;have f2:w1.cell? ⟨w.heap.size+1,2,none⟩=some (.slice Ar f.regs.length cr):=wm 2 _ rfl;have f3:w1.cell? ⟨w.heap.size+1,3,none⟩=some (.slice Ab f.blocks.length cb):=wm 3 _ rfl;have tg:w.heap.size+1<w1.heap.size:=by omega
 clear tw wT tx tz wm tH wj tC tD;have wj:=q7 hB1;refine (q2g f _ _ (VFun.keep wj wV) ww).mono ?_;rintro e w2 ⟨rfl,tr⟩;have hB2:Below w.heap.size w w2:=hB1.trans (tr.mono hB1.size);have wl:=q7 tr;have q0:=wl _ _ q0;have f0:=wl _ _ f0;have f1:=wl _ _ f1
 have f2:=wl _ _ f2;have f3:=wl _ _ f3;(have hs2:w.heap.size+1<w2.heap.size:=by have:=tr.size;omega);cases wO:vG f
 ·(have HE:Hid (zh m f=5):=Jj (by unfold zh y6;rw [wO];rfl));clear wO;(go_wp2_with fail);(go_ret);exact ⟨by rw [HE.out];rfl,hB2⟩
 ·have tc:=Jj wO;(have hn64:f.blocks.length<=64:=by unfold vG at wO;exact (of_decide_eq_true wO).2.1);clear wO;(go_wp2_with fail);refine (q3k f _ _ (VFun.keep (wj.trans wl) wV)).mono ?_;rintro e w3 ⟨rfl,tq⟩;have hB3:Below w.heap.size w w3:=hB2.trans (tq.mono hB2.size);have wv:=q7 tq;have q0:=wv _ _ q0
  have f0:=wv _ _ f0;have f1:=wv _ _ f1;have f2:=wv _ _ f2;have f3:=wv _ _ f3;cases wY:zv f
  ·(have HE:Hid (zh m f=3):=Jj (by unfold zh y6;rw [tc.out,wY];rfl));clear wY;(go_wp2_with fail);(go_ret);exact ⟨by rw [HE.out];rfl,hB3⟩
  ·have td:=Jj wY;clear wY;(go_wp2_with fail);refine (q2o f _ _ (VFun.keep ((wj.trans wl).trans wv) wV)).mono ?_;rintro e w4 ⟨rfl,tp⟩;have hB4:Below w.heap.size w w4:=hB3.trans (tp.mono hB3.size);have wJ:=q7 tp;have q0:=wJ _ _ q0;have f0:=wJ _ _ f0
   have f1:=wJ _ _ f1;have f2:=wJ _ _ f2;have f3:=wJ _ _ f3;cases ta:zZ f
   ·(have HE:Hid (zh m f=6):=Jj (by unfold zh y6;rw [tc.out,td.out,ta];rfl));clear ta;(go_wp2_with fail);(go_ret);exact ⟨by rw [HE.out];rfl,hB4⟩
   ·have tF:=Jj ta;clear ta;(go_wp2_with fail);refine (q2S f _ _ (VFun.keep (((wj.trans wl).trans wv).trans wJ) wV) (by omega)).mono ?_;rintro e w5 ⟨rfl,tm⟩;have hB5:Below w.heap.size w w5:=hB4.trans (tm.mono hB4.size);have wQ:=q7 tm;have hK5:=(((wj.trans wl).trans wv).trans wJ).trans wQ;have q0:=wQ _ _ q0
    have f0:=wQ _ _ f0;have f1:=wQ _ _ f1;have f2:=wQ _ _ f2;have f3:=wQ _ _ f3;(have hs5:w.heap.size+1<w5.heap.size:=by have:=tq.size;have:=tp.size;have:=tm.size;omega);cases wZ:q05 f
    ·(have HE:Hid (zh m f=6):=Jj (by unfold zh y6;rw [tc.out,td.out,tF.out,wZ];rfl));clear wZ;(go_wp2_with fail);(go_ret);exact ⟨by rw [HE.out];rfl,hB5⟩
    ·have HO:Hid (zh m f=qo (f.blocks.map (qt m f))):=Jj (by
      have:y6 f=0:=by unfold y6;rw [tc.out,td.out,tF.out,wZ];rfl
      unfold zh;rw [if_pos this])
     clear wZ;go_wp2_with fail
     go_loopw [29] (λ i wr=>∃ k:Nat,k<=f.blocks.length/\i=.int .i64 k/\Below w5.heap.size w5 wr/\Hid (qo ((f.blocks.take k).map (qt m f))=0)) (λ i _=>f.blocks.length - (intOf i).toNat)
     case atStart=>exact ⟨0,Nat.zero_le _,rfl,J5 _ _,Jj rfl⟩
     case round =>
      obtain ⟨k,hk,rfl,wg,hi⟩:=hrel;have wh:Kept w5 wr:=q7 wg;have hB:Below w.heap.size w wr:=hB5.trans (wg.mono hB5.size);have tG:=wg.size;have a0:=wh _ _ q0;have e0:=wh _ _ f0;have e1:=wh _ _ f1;have e2:=wh _ _ f2;have e3:=wh _ _ f3
      (have n0:w.heap.size<wr.heap.size:=by omega);have n1:w.heap.size+1<wr.heap.size:=by omega
      by_cases wU:k<f.blocks.length
      ·obtain ⟨bb,oo,b,rfl,hx,⟨Ap,cp,h0,z0⟩,⟨Ai,ci,h1,z1⟩,⟨h2,z2⟩,⟨h3,z3⟩,⟨At,ct,h4,z4⟩⟩:=(SBlks.keep (hK5.trans wh) tB).at_ wU;(go_wp2_with fail);obtain ⟨wn,wR,tf,wu,wW,-,-⟩:=named wr #[.slice Ap b.phis.length cp,.slice Ai b.ins.length ci,.int .i64 b.term.kind,.int .i64 b.term.arg,.slice At b.term.to.length ct] 51;have wk:Below w5.heap.size w5 wn:=wg.trans (wW.mono (by omega));have hBn:Below w.heap.size w wn:=hB.trans (wW.mono hB.size);rw [<- wR];clear wR tf;have hK:=(hK5.trans wh).trans wu;refine (q3W OI m f b _ _ _ _ (VMod.keep hK tj) (VFun.keep hK wV) ⟨Ap,cp,Ai,ci,At,ct,rfl,SPhis.keep wu z0,SInss.keep wu z1,SInts.keep wu z4,z2,z3⟩ (q4d td.out)).mono ?_
       rintro e w7 ⟨rfl,wX⟩;have wM:Below w5.heap.size w5 w7:=wk.trans (wX.mono wk.size);have hB7:Below w.heap.size w w7:=hBn.trans (wX.mono hBn.size)
       by_cases hc:qt m f b=0
       ·have HC:=Jj hc;rw [hc,jP];clear hc;go_wp2_with fail
        go_roundw
        case rel=>exact ⟨k+1,by omega,by go_num,wM,Jj (by rw [jZ (qt m f) hx.out hi.out];exact HC.out)⟩
        case measure=>simp [intOf];omega
       ·(have HC:Hid (zh m f=qt m f b):=Jj (by rw [HO.out];exact yp (qt m f) hx.out hi.out hc));rw [yL hc];have tu:=Jj hc;clear hc;(go_wp2_with fail);(go_ret);exact ⟨by rw [HC.out,yL tu.out];rfl,hB7⟩
      ·(have HE:Hid (zh m f=0):=Jj (by rw [HO.out];exact yq (qt m f) hi.out (Nat.le_of_not_lt wU)));(go_wp2_with fail);(go_ret);exact ⟨by rw [HE.out];rfl,hB⟩
def ErrAt (w:World) (v:Value) (p:Int × Int):Prop :=
 (p.1=0/\v=.nilIface)\/(p.1≠0/\p.2=-1/\v=.iface 39 (.int .i64 p.1)) \/
 (p.1≠0/\0<=p.2/\∃ g,v=.iface 72 (.pointer (some ⟨g,0,none⟩))/\w.cell? ⟨g,0,none⟩=some (.int .i64 p.2)/\w.cell? ⟨g,1,none⟩=some (.iface 39 (.int .i64 p.1)))
theorem ErrAt.keep {w w':World} (h:Kept w w') {v:Value} {p:Int × Int} (hv:ErrAt w v p):ErrAt w' v p:=by
 rcases hv with h1 | h1 | ⟨h1,h2,g,h3,h4,h5⟩
 ·exact .inl h1
 ·exact .inr (.inl h1)
 ·exact .inr (.inr ⟨h1,h2,g,h3,h _ _ h4,h _ _ h5⟩)
theorem ErrAt.nil {w:World} {v:Value} {p:Int × Int} (hv:ErrAt w v p) (hp:p.1=0):v=.nilIface:=by
 rcases hv with h1 | h1 | h1
 ·exact h1.2
 ·exact absurd hp h1.1
 ·exact absurd hp h1.1
theorem ErrAt.iface {w:World} {v:Value} {p:Int × Int} (hv:ErrAt w v p) (hp:p.1≠0):∃ t x,v=.iface t x:=by
 rcases hv with h1 | h1 | ⟨_,_,g,h3,_⟩
 ·exact absurd h1.1 hp
 ·exact ⟨_,_,h1.2.2⟩
 ·exact ⟨_,_,h3⟩
set_option maxRecDepth 100000 in
set_option maxHeartbeats 4000000 in
theorem xi (OI:kQ) (m:List qB) (vm:Value) (w:World) (hm:VMod w vm m) (ww:∀ f∈m,Lim f) :
  Calls Tryz.prog 34 #[vm] w λ e w'=>(∃ v,e=.returned v/\ErrAt w' v (jV m))/\Below w.heap.size w w':=by
 have tj:=hm;obtain ⟨Am,cm,rfl,th⟩:=hm;have hml:=th.len
 by_cases tE:32<m.length
 ·have HE:Hid (jV m=(5,-1)):=Jj (if_pos tE);(go_enter Tryz.func34,Tryz.ntmps34);(go_wp2_with fail);(go_ret);exact ⟨⟨_,rfl,by rw [HE.out];exact .inr (.inl ⟨by decide,rfl,rfl⟩)⟩,(J5 _ _).alloc (J4 _) _⟩
 ·have HM:Hid (jV m=yx m m 0):=Jj (if_neg tE);(go_enter Tryz.func34,Tryz.ntmps34);(go_wp2_with fail);obtain ⟨w1,wT,tg,wj,hB1,wm,-⟩:=named w #[.slice Am m.length cm] 24;rw [<- wT];have q0:w1.cell? ⟨w.heap.size,0,none⟩=some (.slice Am m.length cm):=wm 0 _ rfl;(have tg:w.heap.size<w1.heap.size:=by omega);clear wT wm
  go_loopw [14] (λ i wr=>∃ k:Nat,k<=m.length/\i=.int .i64 k/\Below w1.heap.size w1 wr/\Hid ((yx m (m.take k) 0).1=0)) (λ i _=>m.length - (intOf i).toNat)
  case atStart=>exact ⟨0,Nat.zero_le _,rfl,J5 _ _,Jj rfl⟩
  case round =>
   obtain ⟨k,hk,rfl,wg,hi⟩:=hrel;have wh:Kept w1 wr:=q7 wg;have hB:Below w.heap.size w wr:=hB1.trans (wg.mono hB1.size);have tG:=wg.size;have a0:=wh _ _ q0;have n0:w.heap.size<wr.heap.size:=by omega
   by_cases wU:k<m.length
   ·obtain ⟨bb,oo,f,rfl,hx,⟨h0,z0⟩,⟨h1,z1⟩,⟨Ar,cr,h2,z2⟩,Ab,cb,h3,z3⟩:=(SFuns.keep (wj.trans wh) th).at_ wU;(go_wp2_with fail);obtain ⟨wn,wR,tf,wu,wW,-,-⟩:=named wr #[.int .i64 f.params,.int .i64 f.result,.slice Ar f.regs.length cr,.slice Ab f.blocks.length cb] 30;have wk:Below w1.heap.size w1 wn:=wg.trans (wW.mono (by omega));have hBn:Below w.heap.size w wn:=hB.trans (wW.mono hB.size);rw [<- wR];clear wR tf;have hK:=(wj.trans wh).trans wu;refine (q4q OI m f _ _ _ (VMod.keep hK tj) ⟨Ar,cr,Ab,cb,rfl,SInts.keep wu z2,SBlks.keep wu z3,z0,z1⟩ (ww f (Jz hx.out))).mono ?_
    rintro e w7 ⟨rfl,wX⟩;have wM:Below w1.heap.size w1 w7:=wk.trans (wX.mono wk.size);have hB7:Below w.heap.size w w7:=hBn.trans (wX.mono hBn.size)
    by_cases hc:zh m f=0
    ·have HC:=Jj hc;rw [hc,jP];clear hc;go_wp2_with fail
     go_roundw
     case rel=>exact ⟨k+1,by omega,by go_num,wM,Jj (by rw [q1n hx.out hi.out,if_pos HC.out])⟩
     case measure=>simp [intOf];omega
    ·(have HC:Hid (jV m=(zh m f,(k:Int))):=Jj (by rw [HM.out];exact q6m hx.out hi.out hc));rw [yL hc];have tu:=Jj hc;clear hc;(go_wp2_with fail);(go_ret);exact ⟨⟨_,rfl,by rw [HC.out];exact .inr (.inr ⟨tu.out,by show (0:Int)<=k;omega,w7.heap.size,rfl,by simp,by simp⟩)⟩,hB7.alloc hB7.size _⟩
   ·have HE:Hid (jV m=(0,-1)):=Jj (by
     have:=hi.out;rw [List.take_of_length_le (Nat.le_of_not_lt wU)] at this
     rw [HM.out];exact q9p this)
    (go_wp2_with fail);(go_ret);exact ⟨⟨_,rfl,by rw [HE.out];exact .inl ⟨rfl,rfl⟩⟩,hB⟩
theorem q2h {m:List qB} {f:qB} {x:qN} (h:zm m f x=0):(∀ a∈x.args,InR f.regs.length a)/\(x.dst=-1\/InR f.regs.length x.dst):=by
 unfold zm at h
 by_cases wg:x.op=17
 ·rw [if_pos wg] at h;obtain ⟨h1,h⟩:=qf (by decide) h;obtain ⟨h2,h⟩:=qf (by decide) h;obtain ⟨g1,g2⟩:=jR h;exact ⟨g1,by rcases g2 with g2 | g2;exact .inl g2.2;exact .inr g2.2⟩
 ·rw [if_neg wg] at h
  split at h
  ·exact absurd h (by decide)
  ·rename_i ts d hs;obtain ⟨hl,h⟩:=qf (by decide) h;obtain ⟨g1,g2⟩:=jR h;exact ⟨g1,by rcases g2 with g2 | g2;exact .inl g2.2;exact .inr g2.2⟩
theorem q0X {f:qB} {t:yU} (h:je f t=0):t.arg=-1\/InR f.regs.length t.arg:=by
 unfold je at h
 by_cases h0:zu f t=0
 ·rw [if_pos h0] at h;exact .inl (qf (by decide) h).1
 ·rw [if_neg h0] at h;exact .inr (qf (by decide) h).1
theorem jX {m:List qB} (h:yF m):∀ f∈m,Lim f:=λ f hf b hb=>by
 have:=(h.2 f hf).2.2.2 b hb;exact ⟨by have:=this.2.1;omega,by have:=this.1;omega⟩
end Go.Proofs.YtfoggldjjnabcaaGreatDoor
