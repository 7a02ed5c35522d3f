/- The program's ssa.Build. -/
import Derived.Test.YtfoggldjjnabcaaGreatDoorModAK
import Derived.Test.YtfoggldjjnabcaaGreatDoorSpWK
import Derived.Test.YtfoggldjjnabcaaGreatDoorSpSK
import Derived.Test.YtfoggldjjnabcaaGreatDoorGrJK
import Derived.Deep.DeepCutAuto
import Derived.Test.YtfoggldjjnabcaaGreatDoorAheadGK
import Derived.Test.YtfoggldjjnabcaaGreatDoorSsVK
import Derived.Test.YtfoggldjjnabcaaGreatDoorLtDK
set_option linter.unusedVariables false
set_option linter.unusedSimpArgs false
namespace Go.Proofs.YtfoggldjjnabcaaGreatDoor
open Go.ChangeShapes Go.WideShapes Go.RowKit Go.Deep
def q0U:Value:=.agg #[.int .i64 0,.int .i64 0,.slice none 0 0,.slice none 0 0]
def qBu (B:Nat->Prop) (w:World) (v:Value) (f:qB):Prop :=
 ∃ Ar cr Ab cb,v=.agg #[.int .i64 f.params,.int .i64 f.result,.slice Ar f.regs.length cr,.slice Ab f.blocks.length cb]/\SL w 1 (RIntB B) Ar cr f.regs/\SL w 5 (RBlkB B) Ab cb f.blocks/\I64 f.params/\I64 f.result
def lgB (f:qB):Bool:=decide (256<f.blocks.length+zR f.blocks) || decide (256<f.regs.length)
noncomputable def bdF (f:qB):qB:=qU (q9 (qL f))
def qBU (m:List qB) (a:Int) (w:World) (e:Ending) (w':World):Prop :=
 (∃ vf ve,e=.returned (.tuple #[vf,ve]) /\
  (((v8 m).1≠0/\vf=q0U/\ErrAt w' ve (v8 m)) \/
   ((v8 m).1=0/\¬ (0<=a/\a<m.length)/\vf=q0U/\ve=.iface 39 (.int .i64 1)) \/
   ((v8 m).1=0/\∃ n f,a=((n:Nat):Int)/\m[n]?=some f /\
    ((lgB (bdF f)=true/\vf=q0U/\ve=.iface 39 (.int .i64 5)) \/
     (lgB (bdF f)=false/\ve=.nilIface/\qBu (BG w.heap.size w') w' vf (bdF f))))))/\Below w.heap.size w w'
theorem q9L {l:List Nat}:∀ u∈zCs l,u.oneCell'=true:=by
 intro u hu;unfold zCs at hu;obtain ⟨r,-,hr⟩:=List.mem_flatMap.1 hu;unfold zC at hr;simp only [List.mem_cons,List.not_mem_nil,or_false] at hr;rcases hr with rfl | rfl | rfl | rfl | rfl <;> rfl
theorem xH {w:World} {base:Nat} {e:TypeId} {sz n:Nat} {v:Value} {cs:List Value} (h:w.ownsRow base e sz v n cs):∃ A c,v=.slice A n c:=by
 rcases h.2 with ⟨rfl,h0⟩ | ⟨g,c,cur,rfl,-⟩
 ·exact ⟨none,0,by rw [h0]⟩
 ·exact ⟨_,c,rfl⟩
theorem q7l {w:World} {base:Nat} {e:TypeId} {n:Nat} {v:Value} {cs:List Value} (h:w.ownsRow base e 5 v n cs) (h1:∀ u∈cs,u.oneCell'=true):SrcI w v n cs:=by
 have hl:=h.1;have h':=h;rcases h.2 with ⟨rfl,h0⟩ | ⟨g,c,cur,rfl,-⟩
 ·exact ⟨⟨none,0,by rw [h0],λ a ha=>(by cases ha),λ hp=>absurd hp (by omega)⟩,hl,h1⟩
 ·refine ⟨⟨_,c,rfl,λ a ha j u hu=>?_,λ _=>by simp⟩,hl,h1⟩;cases ha;(rw [Addr.add_lit,Nat.zero_add,h'.cellAt j (by have:=(Jk hu).1;omega)]);exact hu
set_option maxRecDepth 100000 in
set_option maxHeartbeats 32000000 in
theorem q7F (OI:kQ) (m:List qB) (a:Int) (vm:Value) (w:World) (hm:VMod w vm m) (sV:yF m) :
  Calls Tryz.prog 8 #[vm,.int .i64 a] w (qBU m a w):=by
 have rc:=hm;obtain ⟨Am,cm,rfl,sB⟩:=hm;have hml:=sB.len;have pk:=Jj sB;have HM:=Jj rc;have tw:=Jj sV;have pe:=Jj OI;clear sB rc sV;go_enter Tryz.func8,Tryz.ntmps8
 (go_upto_region 1 with fail);obtain ⟨w1,tr⟩:∃ w1,w1=(w.alloc (.cells #[.slice Am m.length cm] 24)).alloc (.cells #[.int .i64 0,.int .i64 0,.slice none 0 0,.slice none 0 0] 30):=⟨_,rfl⟩;(have rl:Below w.heap.size w w1:=by rw [tr];exact ((J5 _ w).alloc (J4 _) _).alloc (by simp) _);(have b0:w1.heap[w.heap.size]?=some (.cells #[.slice Am m.length cm] 24):=by rw [tr];exact xG w _ _);(have b1:w1.heap[w.heap.size+1]?=some (.cells #[.int .i64 0,.int .i64 0,.slice none 0 0,.slice none 0 0] 30):=by rw [tr];simpa using heap_alloc_new (w.alloc _) _);(have tu:w1.heap.size=w.heap.size+2:=by rw [tr];simp);obtain ⟨N,hN⟩:∃ N,N=w.heap.size:=⟨_,rfl⟩;rw [<- tr];rw [<- hN] at b0 b1 tu ⊢
 have c0:=q6 b0 0;have sj:=Jj rl;have ry:=Jj b0;have rx:=Jj b1;have wj:Hid (w1.heap.size=N+2/\N=w.heap.size):=Jj ⟨tu,hN⟩;clear tr rl b0 b1 tu hN;have rn:=Jj (q6Y pe.out m _ w1 (VMod.keep (q7 sj.out) HM.out) (jX tw.out));(go_upto_region 2 with (go_at_call 18;refine rn.out.mono ?_;rintro e w2 ⟨⟨ve,rfl,he⟩,tO⟩;have HE:=Jj he;have wY:=Jj tO;clear he tO));clear c0
 (have tU:=Jj ((wY.out.block N (by have:=wj.out;omega)).trans ry.out));(have wg:=Jj ((wY.out.block (N+1) (by have:=wj.out;omega)).trans rx.out));have wR:Hid (Below w.heap.size w w2):=Jj (sj.out.trans (wY.out.mono sj.out.size));(have sd:Hid (N+1<w2.heap.size):=Jj (by have:=wY.out.size;have:=wj.out;omega));clear ry rx sj wY rn
 by_cases hp:(v8 m).1=0
 ·have rA:=HE.out.nil hp;subst rA;have tx:=Jj hp;clear hp HE
  by_cases sy:a<0
  ·(have tG:¬ (0<=a/\a<m.length):=by omega);have y0:=q6 wg.out 0;have y1:=q6 wg.out 1;have y2:=q6 wg.out 2;have y3:=q6 wg.out 3;have yf0:=qA wg.out 0;have yf1:=qA wg.out 1;have yf2:=qA wg.out 2;have yf3:=qA wg.out 3
   have sH:=Jj tG;clear tG;(go_wp2_with fail);(have wU:Hid (Kept w2 ((((w2.setCell ⟨N+1,0,none⟩ (.int .i64 0)).setCell ⟨N+1,1,none⟩ (.int .i64 0)).setCell ⟨N+1,2,none⟩ (.slice none 0 0)).setCell ⟨N+1,3,none⟩ (.slice none 0 0))):=Jj (λ a v h=>(JK (by by_cases e:a.block=N+1;{ rw [e,qp wg.out,wg.out] };{ exact zb _ e _ _ _ _ })).trans h));(have ww:Hid (Below w.heap.size w ((((w2.setCell ⟨N+1,0,none⟩ (.int .i64 0)).setCell ⟨N+1,1,none⟩ (.int .i64 0)).setCell ⟨N+1,2,none⟩ (.slice none 0 0)).setCell ⟨N+1,3,none⟩ (.slice none 0 0))):=Jj ((((wR.out.setCell (by show w.heap.size<=N+1;have:=wj.out;omega) _).setCell (by show w.heap.size<=N+1;have:=wj.out;omega) _).setCell (by show w.heap.size<=N+1;have:=wj.out;omega) _).setCell (by show w.heap.size<=N+1;have:=wj.out;omega) _));(refine bodyPost_ret (zK rfl _ _ (N+1) 30 #[.int .i64 0,.int .i64 0,.slice none 0 0,.slice none 0 0] (0,0) _ (by rfl) (qp wg.out _ _ _ _) Tryz.underlying30 (by rfl) (by obtain ⟨i,h1,_,h3,_⟩:=info_parts Tryz.info30;rw [h1];exact congrArg some h3)) rfl ?_);exact ⟨⟨_,_,rfl,.inr (.inl ⟨tx.out,sH.out,rfl,rfl⟩)⟩,ww.out⟩
  by_cases rL:(m.length:Int)<=a
  ·(have tG:¬ (0<=a/\a<m.length):=by omega);have x0:=q6 tU.out 0;have y0:=q6 wg.out 0;have y1:=q6 wg.out 1;have y2:=q6 wg.out 2;have y3:=q6 wg.out 3;have yf0:=qA wg.out 0;have yf1:=qA wg.out 1;have yf2:=qA wg.out 2
   have yf3:=qA wg.out 3;have sH:=Jj tG;clear tG;(go_wp2_with fail);(have wU:Hid (Kept w2 ((((w2.setCell ⟨N+1,0,none⟩ (.int .i64 0)).setCell ⟨N+1,1,none⟩ (.int .i64 0)).setCell ⟨N+1,2,none⟩ (.slice none 0 0)).setCell ⟨N+1,3,none⟩ (.slice none 0 0))):=Jj (λ a v h=>(JK (by by_cases e:a.block=N+1;{ rw [e,qp wg.out,wg.out] };{ exact zb _ e _ _ _ _ })).trans h));(have ww:Hid (Below w.heap.size w ((((w2.setCell ⟨N+1,0,none⟩ (.int .i64 0)).setCell ⟨N+1,1,none⟩ (.int .i64 0)).setCell ⟨N+1,2,none⟩ (.slice none 0 0)).setCell ⟨N+1,3,none⟩ (.slice none 0 0))):=Jj ((((wR.out.setCell (by show w.heap.size<=N+1;have:=wj.out;omega) _).setCell (by show w.heap.size<=N+1;have:=wj.out;omega) _).setCell (by show w.heap.size<=N+1;have:=wj.out;omega) _).setCell (by show w.heap.size<=N+1;have:=wj.out;omega) _));(refine bodyPost_ret (zK rfl _ _ (N+1) 30 #[.int .i64 0,.int .i64 0,.slice none 0 0,.slice none 0 0] (0,0) _ (by rfl) (qp wg.out _ _ _ _) Tryz.underlying30 (by rfl) (by obtain ⟨i,h1,_,h3,_⟩:=info_parts Tryz.info30;rw [h1];exact congrArg some h3)) rfl ?_);exact ⟨⟨_,_,rfl,.inr (.inl ⟨tx.out,sH.out,rfl,rfl⟩)⟩,ww.out⟩
  obtain ⟨n,rfl⟩:∃ n:Nat,a=(n:Int):=⟨a.toNat,by omega⟩;(have rJ:(0:Int)<=n:=by omega);(have rH:(n:Int)<m.length:=by omega);clear sy rL;(have sx:n<m.length:=by omega);obtain ⟨bm,om,f,rfl,hx,⟨h0,z0⟩,⟨h1,z1⟩,⟨Ar,cr,h2,z2⟩,Ab,cb,h3,z3⟩:=(SFuns.keep (q7 wR.out) pk.out).at_ sx;have x0:=q6 tU.out 0;have tB:Hid (m[n]?=some f):=hx;have pi:=Jj sx
  have wh:=Jj (q93 tx.out tw.out (Jz tB.out));have rZ:=Jj (q7i f _ w2 ⟨Ar,cr,Ab,cb,rfl,z2,z3,z0,z1⟩ (tw.out.2 f (Jz tB.out)));clear z0 z1 z2 z3 hx sx;(go_upto_region 7 with (go_at_call 19;refine rZ.out.mono ?_;rintro e w3 ⟨⟨Ar2,cr2,Ab2,cb2,G2,rfl,sX,tO,hG2,su,r9,sY⟩,tL⟩;have rm:=Jj sX;have wY:=Jj tO;have tc:=Jj (And.intro r9 sY);have wv:=Jj tL;clear sX tO hG2 su r9 sY tL));clear h0 h1 h2 h3;have tN:Below w3.heap.size w3 (w3.alloc (.cells #[.int .i64 f.params,.int .i64 f.result,.slice Ar2 f.regs.length cr2,.slice Ab2 (qb f.blocks).length cb2] 30)):=(J5 _ _).alloc (J4 _) _;have b7:(w3.alloc (.cells #[.int .i64 f.params,.int .i64 f.result,.slice Ar2 f.regs.length cr2,.slice Ab2 (qb f.blocks).length cb2] 30)).heap[w3.heap.size]?=some (.cells #[.int .i64 f.params,.int .i64 f.result,.slice Ar2 f.regs.length cr2,.slice Ab2 (qb f.blocks).length cb2] 30):=heap_alloc_new _ _;generalize w3.alloc (.cells #[.int .i64 f.params,.int .i64 f.result,.slice Ar2 f.regs.length cr2,.slice Ab2 (qb f.blocks).length cb2] 30)=w4 at *;obtain ⟨N7,hN7⟩:∃ N7,N7=w3.heap.size:=⟨_,rfl⟩
  rw [<- hN7] at b7 ⊢;have rp:=Jj hN7;have wJ:=Jj tN;have rz:=Jj b7;have c70:=q6 b7 0;have c71:=q6 b7 1;have c72:=q6 b7 2;have c73:=q6 b7 3;have x0:w4.cell? ⟨N,0,none⟩=some (.slice (some ⟨bm,om,none⟩) m.length cm):=q7 wJ.out _ _ (q7 wv.out _ _ x0)
  have rX:Hid (Below w.heap.size w w4):=Jj (wR.out.trans ((wv.out.trans (wJ.out.mono wv.out.size)).mono wR.out.size));have tj:Hid (VFun w4 (.agg #[.int .i64 f.params,.int .i64 f.result,.slice Ar2 f.regs.length cr2,.slice Ab2 (qb f.blocks).length cb2]) (qL f)):=Jj
   ⟨Ar2,cr2,Ab2,cb2,rfl,SInts.keep (q7 wJ.out) (SL.imp (λ _ _ _ h=>h.2) rm.out),SBlks.keep (q7 wJ.out) (SL.imp (λ b o x h=>RBlkB.plain b o x h) wY.out),tc.out.1,tc.out.2⟩
  have rS:=Jj (q2M m n (qL f) _ _ w4 (VMod.keep (q7 rX.out) HM.out) tj.out pi.out ⟨by rw [List.length_set];exact tw.out.1,λ x hx=>by
   rcases List.mem_or_eq_of_mem_set hx with h | h
   ·exact tw.out.2 x h
   ·rw [h];exact q0Y (tw.out.2 f (Jz tB.out))⟩ (q00 (jr tx.out).1 tB.out))
  clear hN7 tN b7 rJ rH;(go_upto_region 10 with (go_at_call 20;refine rS.out.mono ?_;rintro e w5 ⟨⟨G3,A,rfl,hG3,hA,hAW⟩,rk⟩;have tz:=Jj (And.intro hG3 hA);have pr:=Jj hAW;have wX:=Jj rk;clear hG3 hA hAW rk));clear c70 c71 c72 c73 x0;have wO:Below w3.heap.size w3 w5:=wJ.out.trans (wX.out.mono wJ.out.size);have tq:=Jj wO;have tg:SL w5 5 (RBlkB (BG w2.heap.size w5)) Ab2 cb2 (qb f.blocks):=SBlksB.go (xm wO) (BG.below wO (J4 _)) wY.out;have sE:Hid (SL w5 1 (RIntB (BG w2.heap.size w5)) Ar2 cr2 f.regs):=Jj (SIntsB.go (xm wO) (BG.below wO (J4 _)) rm.out);have hz:0<(qb f.blocks).length:=wh.out.nb.1;obtain ⟨gb,ob,kb,rfl,rg,sp⟩:=tg.at_ hz
  have sO:=Jj tg;have sK:Hid ((qb f.blocks)[0]?=some kb):=rg;obtain ⟨rj,⟨Aq,cq,g0,rD⟩,⟨Ai,ci,g1,tu⟩,g2,g3,⟨At,ct,g4,rC⟩⟩:=sp;rw [Nat.zero_mul,Nat.add_zero] at g0 g1;have sQ:=Jj rj;have p8:=Jj tu;have HC5:=Jj (And.intro g0 g1);have b7:=(wX.out.block N7 (qW rz.out)).trans rz.out;have tW:=Jj b7
  have sm:0<(qL f).blocks.length:=hz;have g3c:=tz.out.2.row.cell sm;clear rD tu rC g2 g3 g4 rj rg tg wO;have hS:∀ w',Below w5.heap.size w5 w'->w'.cell? ⟨N7,0,none⟩=some (.int .i64 f.params)/\w'.cell? ⟨N7,1,none⟩=some (.int .i64 f.result)/\w'.cell? ⟨N7,2,none⟩=some (.slice Ar2 f.regs.length cr2)/\w'.cell? ⟨N7,3,none⟩=some (.slice (some ⟨gb,ob,none⟩) (qb f.blocks).length cb2)/\w'.cell? ⟨G3,0,none⟩=some (.slice (some ⟨G3+1,0,none⟩) f.regs.length f.regs.length)/\w'.cell? ⟨gb,ob+1,none⟩=some (.slice Ai kb.ins.length ci):=λ w' h=>⟨q7 h _ _ (q6 b7 0),q7 h _ _ (q6 b7 1),q7 h _ _ (q6 b7 2),q7 h _ _ (q6 b7 3),q7 h _ _ g3c,q7 h _ _ g1⟩;have hS0:=hS w5.drew (J5 _ _).drew;refine qS (L:=16) (S:=λ w'=>w'.cell? ⟨N7,0,none⟩=some (.int .i64 f.params)/\w'.cell? ⟨N7,1,none⟩=some (.int .i64 f.result)/\w'.cell? ⟨N7,2,none⟩=some (.slice Ar2 f.regs.length cr2)/\w'.cell? ⟨N7,3,none⟩=some (.slice (some ⟨gb,ob,none⟩) (qb f.blocks).length cb2)/\w'.cell? ⟨G3,0,none⟩=some (.slice (some ⟨G3+1,0,none⟩) f.regs.length f.regs.length)/\w'.cell? ⟨gb,ob+1,none⟩=some (.slice Ai kb.ins.length ci)) (by kernel_rfl) (by rfl) (by kernel_rfl) (by kernel_rfl) ?_;change wpAnyH _ _ _ _ _ _ _ _ (World.drew _);refine tk 0 50 hS0 ?_;simp only [J6,aS,J1,J2]
  refine tk 1 51 hS0 ?_;simp only [J6,aS,J1,J2];refine tk 2 52 hS0 ?_;simp only [J6,aS,J1,J2];refine tk 3 53 hS0 ?_;simp only [J6,aS,J1,J2];refine tk 4 54 hS0 ?_;simp only [J6,aS,J1,J2];refine tk 5 55 hS0 ?_
  simp only [J6,aS,J1,J2];refine tk 7 57 hS0 ?_;simp only [J6,aS,J1,J2];refine tk 8 58 hS0 ?_;simp only [J6,aS,J1,J2];refine tk 9 59 hS0 ?_;simp only [J6,aS,J1,J2];refine tk 10 60 hS0 ?_;simp only [J6,aS,J1,J2]
  refine tk 11 61 hS0 ?_;simp only [J6,aS,J1,J2];refine zk (i:=6) (by kernel_rfl) (λ o ho K' hK=>?_);(simp only [JZ,JX,JY,J0] at ho;subst ho);(go_simp);(have rO:=Jj (q32 (qL f) (.agg #[.int .i64 f.params,.int .i64 f.result,.slice Ar2 f.regs.length cr2,.slice (some ⟨gb,ob,none⟩) (qb f.blocks).length cb2]) w5.drew (G3+1) (A 0) (VFun.keep (q7 ((wX.out.mono (J4 _)).trans ((J5 _ w5).drew.mono wX.out.size))) tj.out) ((tz.out.2.cells 0 sm).of_block (by rfl)) (by have:=wh.out.nr;omega) (by have:=wh.out.par;exact ⟨this.1,this.2.2⟩)));refine rO.out.mono ?_;rintro e wA ⟨⟨vz,rfl,sr⟩,hbA⟩;have hb5A:Below w5.heap.size w5 wA:=(J5 _ w5).drew.trans (hbA.mono (J4 _))
  have hSA:=hS wA hb5A;have tX:=Jj hb5A;obtain ⟨Az,cz,rfl⟩:=xH sr;have pc:=Jj sr;(go_wp2_with fail);refine hK.out _ _ hSA ?_;clear hK K' hbA hb5A sr;refine zk (i:=12) (by kernel_rfl) (λ o ho K' hK=>?_);simp only [JZ,JX,JY,J0] at ho;subst ho
  (go_simp);obtain ⟨csI,hcsI,tD⟩:=q8X p8.out;have sN:=Jj hcsI;have hbB:Below w5.heap.size w5 (wA.alloc (.cells #[.slice Az (zrK (qL f).params (A 0) (qL f).regs.length).length cz,.slice Ai kb.ins.length ci] 49)):=tX.out.alloc tX.out.size _;have hrB:(wA.alloc (.cells #[.slice Az (zrK (qL f).params (A 0) (qL f).regs.length).length cz,.slice Ai kb.ins.length ci] 49)).heap[wA.heap.size]?=some (.cells #[.slice Az (zrK (qL f).params (A 0) (qL f).regs.length).length cz,.slice Ai kb.ins.length ci] 49):=heap_alloc_new _ _;have sU:=q7l (pc.out.alloc (.cells #[.slice Az (zrK (qL f).params (A 0) (qL f).regs.length).length cz,.slice Ai kb.ins.length ci] 49)) q9L;have sW:=tD.keep hbB;obtain ⟨gB,hgB⟩:∃ gB,gB=wA.heap.size:=⟨_,rfl⟩;rw [<- hgB] at hrB ⊢
  have HGB:=Jj hgB;have hABs:Below wA.heap.size wA (wA.alloc (.cells #[.slice Az (zrK (qL f).params (A 0) (qL f).regs.length).length cz,.slice Ai kb.ins.length ci] 49)):=(J5 _ _).alloc (J4 _) _;generalize wA.alloc (.cells #[.slice Az (zrK (qL f).params (A 0) (qL f).regs.length).length cz,.slice Ai kb.ins.length ci] 49)=wB at *;have sR:=Jj hbB;have hSB:=hS wB hbB
  have ta:wB.rowIs gB 49 2 (λ d=>if d=0 then .slice Az (zrK (qL f).params (A 0) (qL f).regs.length).length cz else .slice Ai kb.ins.length ci):=⟨_,hrB,rfl,λ d hd=>by
   match d,hd with
   | 0,_=>rfl
   | 1,_=>rfl⟩
  have pq:=Jj (q4B (w:=wB) (L:=λ d=>if d=0 then (zrK (qL f).params (A 0) (qL f).regs.length).length else kb.ins.length) (C:=λ d=>if d=0 then zCs (zrK (qL f).params (A 0) (qL f).regs.length) else csI) ta (λ d hd=>by
   match d,hd with
   | 0,_=>exact sU
   | 1,_=>exact sW) (by decide) (by
   have h1:(zrK (qL f).params (A 0) (qL f).regs.length).length<=(qL f).regs.length:=q2I _ _ _;have h2:=wh.out.nr;have h3:=wh.out.ok.fn.items kb (Jz sK.out)
   simp only [yj,if_pos rfl,if_neg (show ¬ (1:Nat)=0 by decide)];show _+_+_<=_;simp;omega))
  refine hK.out _ _ hSB ?_;clear hK K' hcsI tD sU sW hrB hgB ta;refine zk (i:=13) (by kernel_rfl) (λ o ho K' hK=>?_);(simp only [JZ,JX,JY,J0] at ho;subst ho);(go_simp);refine pq.out.mono ?_;rintro e wC ⟨⟨vc,rfl,ss⟩,hbC⟩;obtain ⟨Ac,cc,rfl⟩:=xH ss;have pf:=Jj ss
  have HBC:=Jj hbC;have hb5C:Below w5.heap.size w5 wC:=sR.out.trans (hbC.mono sR.out.size);have wm:=Jj hb5C;have hSC:=hS wC hb5C;(go_wp2_with fail);refine hK.out _ _ hSC ?_;clear hK K' hbC hb5C ss;refine tk 14 64 hSC ?_;simp only [J6,aS,J1,J2]
  refine tk 15 65 hSC ?_;simp only [J6,aS,J1,J2];refine wpAnyH_done (by kernel_rfl) ?_ _;have hfz:=((sQ.out.2.same (wm.out.block gb sQ.out.2.lt)).free (ob+1));refine vL (by decide) (λ o ho K' hK=>?_);(simp only [JZ,JX,JY,J0] at ho;subst ho);have scell:=hSC.2.2.2.2.2;(go_simp);have sZ:yj (λ d=>if d=0 then (zrK (qL f).params (A 0) (qL f).regs.length).length else kb.ins.length) 2=(zrK (qL f).params (A 0) (qL f).regs.length).length+kb.ins.length:=by simp [yj]
  (have r8:q4m (λ d=>if d=0 then zCs (zrK (qL f).params (A 0) (qL f).regs.length) else csI) 2=zCs (zrK (qL f).params (A 0) (qL f).regs.length)++csI:=by simp [q4m]);(have hWA:∀ b r,A b r=(q9 (qL f)).W b r:=λ b r=>by rw [Bool.eq_iff_iff,pr.out b r,qBl]);have sk:zrK (qL f).params (A 0) (qL f).regs.length=zrL (q9 (qL f)):=by
   unfold zrK zrL;(congr 1);(funext r);rw [hWA];rfl
  (have hW2C:Below w2.heap.size w2 wC:=((wv.out.trans (tq.out.mono wv.out.size)).trans (wm.out.mono (by have:=wv.out.size;have:=tq.out.size;omega))));have sn:=q3C (HT:=w2.heap.size) (wC:=wC) (bs:=qb f.blocks) (k:=kb) (Ac:=Ac) (cc:=cc) (l:=zrK (qL f).params (A 0) (qL f).regs.length) (csI:=csI) (SBlksB.go (xm wm.out) (BG.below wm.out (J4 _)) sO.out) sK.out wh.out.ok.plain (by rw [<- r8];exact pf.out) sZ
   (Rows.imp (λ x c hx=>CIns.go (xm wm.out) (BG.below wm.out (J4 _)) hx) sN.out) (by have:=sR.out.size;have:=tq.out.size;have:=wv.out.size;omega) (λ r hr=>by rw [sk] at hr;have:=wh.out.zr.2 r hr;have:=wh.out.nr;omega)
   (SIntsB.go (xm wm.out) (BG.below wm.out (J4 _)) sE.out)
  have hgbN:gb<N7:=by
   obtain ⟨b',o',k',e,-,rF⟩:=wY.out.at_ hz;cases e;have:=rF.1.2.lt;have:=rp.out;omega
  have hothD:∀ y,y≠gb->(wC.setCell ⟨gb,ob+1,none⟩ (.slice Ac (yj (λ d=>if d=0 then (zrK (qL f).params (A 0) (qL f).regs.length).length else kb.ins.length) 2) cc)).heap[y]?=wC.heap[y]?:=λ y hy=>JQ _ _ _ _ hy;have hW2D:Below w2.heap.size w2 (wC.setCell ⟨gb,ob+1,none⟩ (.slice Ac (yj (λ d=>if d=0 then (zrK (qL f).params (A 0) (qL f).regs.length).length else kb.ins.length) 2) cc)):=hW2C.setCell (p:=⟨gb,ob+1,none⟩) sQ.out.1 _;refine hK.out _ _ ?_;clear hK K' hS hS0 hSA hSB hSC scell hfz g0 g1 g3c b7 sZ r8 sm;generalize wC.setCell ⟨gb,ob+1,none⟩ (.slice Ac (yj (λ d=>if d=0 then (zrK (qL f).params (A 0) (qL f).regs.length).length else kb.ins.length) 2) cc)=wD at *;have rW:=Jj hWA;have tQ:=Jj hW2D;have sS:(zF (q9 (qL f))).blocks=(qb f.blocks).set 0 ⟨kb.phis,(zrL (q9 (qL f))).map zI++kb.ins,kb.term⟩:=by
   (have hk:qP (qL f) 0=kb:=by unfold qP;rw [JJ,show (qL f).blocks[0]?=some kb from sK.out];rfl);rw [<- hk];rfl
  (have tV:Hid (SL wD 5 (RBlkB (BG w2.heap.size wD)) (some ⟨gb,ob,none⟩) cb2 (zF (q9 (qL f))).blocks):=Jj (by rw [sS,<- sk];exact sn.1));have tR:Hid (SL wD 1 (RIntB (BG w2.heap.size wD)) Ar2 cr2 f.regs):=Jj sn.2;have wu:Hid ((zF (q9 (qL f))).blocks.length=(qb f.blocks).length):=Jj yO;have hb5D:∀ y,y≠gb->y<w5.heap.size->wD.heap[y]?=w5.heap[y]?:=λ y h1 h2=>(hothD y h1).trans (wm.out.block y h2)
  have pp:Hid (BG1 wD G3 (qL f).blocks.length (qL f).regs.length A):=Jj (tz.out.2.of_blocks λ y h1 h2=>hb5D y (by have:=tz.out.1;have:=wJ.out.size;have:=rp.out;omega) (by
   by_cases e:y=G3
   ·subst e;exact tz.out.2.row.lt
   ·obtain ⟨a,rfl⟩:∃ a,y=G3+1+a:=⟨y - G3 - 1,by omega⟩
    exact (tz.out.2.cells a (by omega)).lt))
  have wM:=(hb5D N7 (by omega) (qW tW.out)).trans tW.out;have rv:=Jj wM;have th:Hid (VFun wD (.agg #[.int .i64 f.params,.int .i64 f.result,.slice Ar2 f.regs.length cr2,.slice (some ⟨gb,ob,none⟩) (qb f.blocks).length cb2]) (zF (q9 (qL f)))):=Jj
   ⟨Ar2,cr2,some ⟨gb,ob,none⟩,cb2,by rw [wu.out];rfl,SL.imp (λ _ _ _ h=>h.2) tR.out,SL.imp (λ b o x h=>RBlkB.plain b o x h) tV.out,tc.out.1,tc.out.2⟩
  have c70:=q6 wM 0;have c71:=q6 wM 1;have c72:=q6 wM 2;have c73:=q6 wM 3;clear sn sS wM hothD hb5D sk hWA hW2C hW2D hgbN
  have sq:=(q3N (zF (q9 (qL f))) _ wD G3 A th.out (by rw [wu.out];exact pp.out) (by have:=wh.out.nb;rw [yO];show (qL f).blocks.length<=_;omega) (by have:=wh.out.nr;show (qL f).regs.length<=_;omega) (λ b hb=>by
   have h:=wh.out.blk b hb
   exact ⟨by omega,λ x hx=>(h.2.1 x hx).2.1⟩) (by rw [wu.out];exact hz))
  rw [wu.out] at sq;have pb:=Jj sq;clear sq;go_wp2_with fail
  (refine pb.out.mono ?_;rintro e wE ⟨⟨Gp,Kp,Vp,he,hGp,ri⟩,hbE⟩;rw [wu.out] at he;subst he;have po:=Jj (And.intro hGp ri);have tp:=Jj hbE;clear hGp ri hbE)
  clear c70 c71 c72 c73
  have rt:Hid (Gri wE Gp Kp (zF (q9 (qL f))).blocks.length Vp (λ b=>zs (phL (q9 (qL f)) b))):=Jj (by
   have h:=po.out.2
   rw [show (λ b=>zs (phK (zF (q9 (qL f))).blocks A b (zF (q9 (qL f))).regs.length))=λ b=>zs (phL (q9 (qL f)) b) from funext λ b=>by
    rw [<- qAW (f:=qL f) wh.out.nb.1 rW.out b];rfl] at h
   exact h)
  have sD:Hid (VFun wE (.agg #[.int .i64 f.params,.int .i64 f.result,.slice Ar2 f.regs.length cr2,.slice (some ⟨gb,ob,none⟩) (qb f.blocks).length cb2]) (zF (q9 (qL f)))):=Jj (VFun.keep (q7 tp.out) th.out);have wQ:Hid (Below w2.heap.size w2 wE):=Jj (tQ.out.trans (tp.out.mono tQ.out.size));have wM:=(tp.out.block N7 (qW rv.out)).trans rv.out;have ru:=Jj wM;have c70:=q6 wM 0;have c71:=q6 wM 1;have c72:=q6 wM 2;have c73:=q6 wM 3;have td:=q3Q w2.heap.size (zF (q9 (qL f))) wE (phL (q9 (qL f))) Gp Kp Vp Ar2 (some ⟨gb,ob,none⟩) cr2 cb2
   (SL.imp (λ _ _ _ h=>h.2) (SIntsB.go (xm tp.out) (BG.below tp.out (J4 _)) tR.out)) (SBlksB.go (xm tp.out) (BG.below tp.out (J4 _)) tV.out) rt.out (by have:=wh.out.par;exact ⟨this.1,this.2.2⟩) (by rw [wu.out];have h:(qb f.blocks).length<=64:=wh.out.nb.2;omega) (by have:=wh.out.nr;show (qL f).regs.length<=_;omega)
   (λ b _=>by have:=wh.out.ph b;exact ⟨by omega,this.2⟩) (λ b hb=>by
    have h:=wh.out.blk b hb
    exact ⟨by omega,λ x hx=>(h.2.1 x hx).2.1⟩)
  rw [wu.out] at td;have sF:=Jj td;clear td wM;go_wp2_with fail
  (refine sF.out.mono ?_;rintro e wF ⟨K,lab,vR,vB,PV,IV,TV,YS,he,hKF,tH,hbF,hLR,hOS⟩;have rM:e=.returned (.agg #[.int .i64 f.params,.int .i64 f.result,vR,vB]):=he;subst rM;rw [wh.out.regs_eq] at hLR;obtain ⟨AR,cR,hvR⟩:=xH hLR.own;obtain ⟨AB,cB,hvB⟩:=xH hOS.rB.own;rw [wu.out] at hvB;subst hvR hvB;clear he;have pm:=Jj hKF;have tT:=Jj tH;have si:=Jj hbF;have rq:=Jj hLR;have tm:=Jj hOS;clear hKF tH hbF hLR hOS)
  clear c70 c71 c72 c73;obtain ⟨nR,hnR⟩:∃ nR,nR=(qU (q9 (qL f))).regs.length:=⟨_,rfl⟩;have sG:=Jj hnR;rw [<- hnR];clear hnR;(go_upto_region 13 with fail);have hbFG:Below wF.heap.size wF (wF.alloc (.cells #[.int .i64 f.params,.int .i64 f.result,.slice AR nR cR,.slice AB (qb f.blocks).length cB] 30)):=(J5 _ _).alloc (J4 _) _;have b12:(wF.alloc (.cells #[.int .i64 f.params,.int .i64 f.result,.slice AR nR cR,.slice AB (qb f.blocks).length cB] 30)).heap[wF.heap.size]?=some (.cells #[.int .i64 f.params,.int .i64 f.result,.slice AR nR cR,.slice AB (qb f.blocks).length cB] 30):=heap_alloc_new _ _;generalize wF.alloc (.cells #[.int .i64 f.params,.int .i64 f.result,.slice AR nR cR,.slice AB (qb f.blocks).length cB] 30)=wG at *
  obtain ⟨N12,hN12⟩:∃ N12,N12=wF.heap.size:=⟨_,rfl⟩;rw [<- hN12] at b12 ⊢;have sI:=Jj hN12;have sf:=Jj hbFG;have tY:=Jj b12;have sh:=Jj (q8i th.out);have hnE:∀ b,b<(zF (q9 (qL f))).blocks.length->b<(qL f).blocks.length:=λ b hb=>by rw [wu.out] at hb;exact hb
  have rY:Hid (VFun wG (.agg #[.int .i64 f.params,.int .i64 f.result,.slice AR nR cR,.slice AB (qb f.blocks).length cB]) ⟨f.params,f.result,(qU (q9 (qL f))).regs,jK (qL f) (q9 (qL f))⟩):=Jj (by
   obtain ⟨Ar',cr',Ab',cb',e1,e2,tZ,sb⟩:=q1z (B:=λ _=>True) (phs:=λ b=>(zy (zF (q9 (qL f))) (phL (q9 (qL f))) b).map λ d=>(⟨d,[]⟩:PhiD)) rq.out tm.out.rB
    (λ b hb=>q82 (tm.out.rP b hb) (by unfold zy;rw [List.length_map,List.length_range])) (λ b hb=>⟨_,tm.out.rI b hb⟩) tm.out.rT
    (λ z hz=>by
     obtain ⟨r,-,rfl⟩:=List.mem_map.1 hz
     exact q7s sh.out.regs r) (λ b hb=>wh.out.out64 sh.out (hnE b hb)) (λ _ _ _=>trivial) (λ _ _ _=>trivial)
   simp only [Value.slice.injEq] at e1 e2;obtain ⟨rfl,-,rfl⟩:=e1;obtain ⟨rfl,-,rfl⟩:=e2;refine ⟨AR,cR,AB,cB,?_,SInts.keep (q7 sf.out) (SL.imp (λ _ _ _ h=>h.2) tZ),SBlks.keep (q7 sf.out) (SL.imp (λ b o x h=>RBlkB.plain b o x h) sb),tc.out.1,tc.out.2⟩;have rK:(jK (qL f) (q9 (qL f))).length=(qb f.blocks).length:=by unfold jK;rw [List.length_map,List.length_range,wu.out]
   rw [rK,sG.out])
  have rh:=q3l _ _ wG rY.out (by
   show (jK (qL f) (q9 (qL f))).length<=1000;unfold jK;rw [List.length_map,List.length_range,wu.out];have h:(qb f.blocks).length<=64:=wh.out.nb.2
   omega) (λ b hb=>by
   have hb:b∈jK (qL f) (q9 (qL f)):=hb;unfold jK at hb;obtain ⟨i,hi,rfl⟩:=List.mem_map.1 hb;rw [List.mem_range] at hi;have h1:=(wh.out.ph i).1;obtain ⟨kb',hk⟩:∃ kb',(zF (q9 (qL f))).blocks[i]?=some kb':=⟨_,Jq hi⟩;have h2:=(wh.out.blk kb' (Jz hk)).1;refine ⟨?_,?_⟩
   ·show ((zy _ _ i).map _).length<=1000;unfold zy;rw [List.length_map,List.length_map,List.length_range];omega
   ·show (qd _ _ i).length<=1000;unfold qd
    rw [List.length_mapIdx,qe hk];omega)
  have pn:Hid (Calls Tryz.prog 25 #[.agg #[.int .i64 f.params,.int .i64 f.result,.slice AR nR cR,.slice AB (qb f.blocks).length cB]] wG λ e w'=>e=.returned (.bool (lgB (bdF f)))/\Below wG.heap.size wG w'):=Jj (rh.mono (λ e w' h=>⟨by
   rw [h.1];show Ending.returned (.bool (decide (256<(jK (qL f) (q9 (qL f))).length+zR (jK (qL f) (q9 (qL f)))) || decide (256<(qU (q9 (qL f))).regs.length)))=_
   rw [wh.out.out_items.1,wh.out.out_items.2];rfl,h.2⟩))
  have c120:=q6 b12 0;have c121:=q6 b12 1;have c122:=q6 b12 2;have c123:=q6 b12 3;have pj:=Jj hnE;clear hN12 hbFG b12 rh hnE;(go_wp2_with fail);refine pn.out.mono ?_;rintro e wH ⟨rfl,hbH⟩
  have HBH:=Jj hbH;have hbFH:Below wF.heap.size wF wH:=sf.out.trans (hbH.mono sf.out.size);have sL:=Jj hbFH;have tC:Hid (Below wE.heap.size wE wH):=Jj (si.out.trans (hbFH.mono si.out.size));have tP:Hid (Below w2.heap.size w2 wH):=Jj (wQ.out.trans (tC.out.mono wQ.out.size));have wV:=Jj ((tP.out.block (N+1) sd.out).trans wg.out);have wk:=Jj ((hbH.block N12 (qW tY.out)).trans tY.out);have wW:=Jj ((tC.out.block N7 (qW ru.out)).trans ru.out);have rU:Hid (Below w.heap.size w wH):=Jj (wR.out.trans (tP.out.mono wR.out.size))
  clear c120 c121 c122 c123 hbH hbFH;cases sc:lgB (bdF f)
  ·have c120:=q6 wk.out 0;have c121:=q6 wk.out 1;have c122:=q6 wk.out 2;have c123:=q6 wk.out 3;have c70:=q6 wW.out 0;have c71:=q6 wW.out 1;have c72:=q6 wW.out 2;have c73:=q6 wW.out 3;have sJ:=Jj sc
   clear sc;(go_wp2_with fail);clear c120 c121 c122 c123 c70 c71 c72 c73;have hosH:OutS wH K (qk lab wF.heap.size 1) (zF (q9 (qL f))) (phL (q9 (qL f))) (zF (q9 (qL f))).blocks.length (.slice AB (qb f.blocks).length cB) PV IV TV YS:=tm.out.chg (S:=λ _=>False) (Chg.of_below sL.out) (λ h=>h) (λ h=>h) (λ _ _=>⟨λ h=>h,λ h=>h⟩);have hKH:K<=wH.heap.size:=by
    (obtain ⟨g,cap,e,-,-⟩:=tm.out.rB.own.form (by rw [wu.out];exact hz));(have h1:=tm.out.rB.own.lt g (by rw [e];rfl));have:=sL.out.size;omega
   have hlowH:∀ k,k<wE.heap.size->qk lab wF.heap.size 1 k<=1:=λ k hk=>by
    rw [qT (by have:=si.out.size;omega)];exact (tT.out k hk).1
   have sw:=q2a wE wH (zF (q9 (qL f))) (phL (q9 (qL f))) (AEp (q9 (qL f))) (λ b=>(vw (q9 (qL f)) b).ins) (λ b=>(kO (q9 (qL f)) b).arg) (Ap (q9 (qL f))) K (qk lab wF.heap.size 1)
    (.agg #[.int .i64 f.params,.int .i64 f.result,.slice Ar2 f.regs.length cr2,.slice (some ⟨gb,ob,none⟩) (qb f.blocks).length cb2]) (.slice AR nR cR) (.slice AB (qb f.blocks).length cB) PV IV TV YS Gp Kp Vp
    wh.out.nm sD.out rt.out tC.out hlowH hKH hosH (by rw [wu.out];exact hz) (by rw [wu.out];have h:(qb f.blocks).length<=64:=wh.out.nb.2;omega) (by have:=wh.out.nr;show (qL f).regs.length<=_;omega) (by have:=wh.out.par;exact ⟨this.1,this.2.2⟩)
    (λ b _=>by have:=wh.out.ph b;exact ⟨by omega,this.2⟩) (λ b hb=>by
     have h:=wh.out.blk b hb
     exact ⟨by omega,h.2.1,h.2.2⟩)
   rw [wu.out] at sw;have pg:=Jj sw;have tS:=Jj hlowH;(have wT:Hid (LRw wH K (qk lab wF.heap.size 1) 2 3 1 (.slice AR nR cR) (qU (q9 (qL f))).regs.length ((qU (q9 (qL f))).regs.map (Value.int .i64))):=Jj (by rw [sG.out];exact rq.out.chg (S:=λ _=>False) (Chg.of_below sL.out) (λ h=>h)));clear sw hlowH hKH hosH;refine pg.out.mono ?_;rintro e wI ⟨he,wl,lab',tf,hB,hP,hI,hT⟩;subst he;have HCH:=Jj wl
   have tE:LRw wI K lab' 2 3 1 (.slice AR nR cR) (qU (q9 (qL f))).regs.length ((qU (q9 (qL f))).regs.map (Value.int .i64)):=by
    have h:=wT.out.chg0 wl (by decide);exact ⟨h.own,λ g hg=>(tf g (wT.out.own.lt g hg).2).trans (wT.out.lb g hg)⟩
   (have hWI:Below wE.heap.size wE wI:=tC.out.trans ⟨wl.os,wl.tape,wl.output,wl.size,λ y hy=>wl.block y (by have:=tC.out.size;omega) (by have h1:=tS.out y hy;show ¬ 3<=qk lab wF.heap.size 1 y;omega)⟩);have hW2I:Below w2.heap.size w2 wI:=wQ.out.trans (hWI.mono wQ.out.size);have tK:=q1z (B:=BG w2.heap.size wI) (phs:=λ b=>(List.range (phL (q9 (qL f)) b).length).map (phF (zF (q9 (qL f))) (phL (q9 (qL f))) (Ap (q9 (qL f))) b)) tE hB hP hI hT
    (λ z hz=>by
     rw [<- wh.out.regs_eq] at hz;obtain ⟨r,-,rfl⟩:=List.mem_map.1 hz
     exact q7s sh.out.regs r) (λ b hb=>wh.out.fin64 (q8i tj.out) sh.out (pj.out b hb))
    (λ g h0 hf=>⟨by
     by_cases hg:g<wE.heap.size
     ·(have h1:=tf g (by have:=tC.out.size;omega));(rw [h0,qT (by have:=si.out.size;omega)] at h1);exact (tT.out g hg).2 h1.symm
     ·have:=wQ.out.size;omega,hf⟩) (λ g h0 hf=>⟨by have:=wQ.out.size;have:=pm.out;omega,hf⟩)
   rw [wh.out.fin_eq] at tK;obtain ⟨Ar',cr',Ab',cb',e1,e2,tZ,sb⟩:=tK;simp only [Value.slice.injEq] at e1 e2;obtain ⟨rfl,-,rfl⟩:=e1;obtain ⟨rfl,-,rfl⟩:=e2;have wZ:=qW wk.out;(have b12I:=(wl.block N12 wZ (by show ¬ 3<=qk lab wF.heap.size 1 N12;rw [ze (by have:=sI.out;omega)];decide)).trans wk.out);have byI:=(hW2I.block (N+1) sd.out).trans wg.out;have rQ:=Jj byI
   have p7:=Jj tZ;have p9:=Jj sb;have sC:=Jj hW2I;have c120:=q6 b12I 0;have c121:=q6 b12I 1;have c122:=q6 b12I 2;have c123:=q6 b12I 3;have y0:=q6 byI 0;have y1:=q6 byI 1
   have y2:=q6 byI 2;have y3:=q6 byI 3;have yf0:=qA byI 0;have yf1:=qA byI 1;have yf2:=qA byI 2;have yf3:=qA byI 3;clear tZ sb hW2I hWI b12I byI wZ hB hP hI hT tE wl tf;(go_wp2_with fail);have sM:Hid (Below w.heap.size w ((((wI.setCell ⟨N+1,0,none⟩ (.int .i64 f.params)).setCell ⟨N+1,1,none⟩ (.int .i64 f.result)).setCell ⟨N+1,2,none⟩ (.slice AR nR cR)).setCell ⟨N+1,3,none⟩ (.slice AB (qb f.blocks).length cB))):=Jj (((((wR.out.trans (sC.out.mono wR.out.size)).setCell (by show w.heap.size<=N+1;have:=wj.out;omega) _).setCell (by show w.heap.size<=N+1;have:=wj.out;omega) _).setCell (by show w.heap.size<=N+1;have:=wj.out;omega) _).setCell (by show w.heap.size<=N+1;have:=wj.out;omega) _)
   have tF:∀ y,y≠N+1->((((wI.setCell ⟨N+1,0,none⟩ (.int .i64 f.params)).setCell ⟨N+1,1,none⟩ (.int .i64 f.result)).setCell ⟨N+1,2,none⟩ (.slice AR nR cR)).setCell ⟨N+1,3,none⟩ (.slice AB (qb f.blocks).length cB)).heap[y]?=wI.heap[y]?:=λ y hy=>zb wI hy _ _ _ _;(have tJ:KeptB (BG w2.heap.size wI) wI ((((wI.setCell ⟨N+1,0,none⟩ (.int .i64 f.params)).setCell ⟨N+1,1,none⟩ (.int .i64 f.result)).setCell ⟨N+1,2,none⟩ (.slice AR nR cR)).setCell ⟨N+1,3,none⟩ (.slice AB (qb f.blocks).length cB)):=λ a v hb ha=>(JK (tF a.block (by have:=hb.1;have:=sd.out;omega))).trans ha);(have tM:∀ b,BG w2.heap.size wI b->BG w.heap.size ((((wI.setCell ⟨N+1,0,none⟩ (.int .i64 f.params)).setCell ⟨N+1,1,none⟩ (.int .i64 f.result)).setCell ⟨N+1,2,none⟩ (.slice AR nR cR)).setCell ⟨N+1,3,none⟩ (.slice AB (qb f.blocks).length cB)) b:=λ b hb=>⟨by have:=hb.1;have:=wR.out.size;omega,hb.2.same (tF b (by have:=hb.1;have:=sd.out;omega))⟩);have rN:(qU (q9 (qL f))).blocks.length=(qb f.blocks).length:=by
    show ((List.range (qb f.blocks).length).map (vw (q9 (qL f)))).length=_;rw [List.length_map,List.length_range]
   refine bodyPost_ret (zK rfl _ _ (N+1) 30 #[.int .i64 f.params,.int .i64 f.result,.slice AR nR cR,.slice AB (qb f.blocks).length cB] (0,0) _ (by rfl) (qp rQ.out _ _ _ _) Tryz.underlying30 (by rfl) (by obtain ⟨i,h1,_,h3,_⟩:=info_parts Tryz.info30;rw [h1];exact congrArg some h3)) rfl ?_
   exact ⟨⟨_,_,rfl,.inr (.inr ⟨tx.out,n,f,rfl,tB.out,.inr ⟨sJ.out,rfl,AR,cR,AB,cB,by
    show Value.agg #[.int .i64 f.params,.int .i64 f.result,.slice AR nR cR,.slice AB (qb f.blocks).length cB]=Value.agg #[.int .i64 f.params,.int .i64 f.result,.slice AR (qU (q9 (qL f))).regs.length cR,.slice AB (qU (q9 (qL f))).blocks.length cB]
    rw [rN,sG.out],SIntsB.go tJ tM p7.out,SBlksB.go tJ tM p9.out,tc.out.1,tc.out.2⟩⟩)⟩,sM.out⟩
  ·have y0:=q6 wV.out 0;have y1:=q6 wV.out 1;have y2:=q6 wV.out 2;have y3:=q6 wV.out 3;have yf0:=qA wV.out 0;have yf1:=qA wV.out 1;have yf2:=qA wV.out 2;have yf3:=qA wV.out 3;have sJ:=Jj sc
   clear sc;(go_wp2_with fail);(have ww:Hid (Below w.heap.size w ((((wH.setCell ⟨N+1,0,none⟩ (.int .i64 0)).setCell ⟨N+1,1,none⟩ (.int .i64 0)).setCell ⟨N+1,2,none⟩ (.slice none 0 0)).setCell ⟨N+1,3,none⟩ (.slice none 0 0))):=Jj ((((rU.out.setCell (by show w.heap.size<=N+1;have:=wj.out;omega) _).setCell (by show w.heap.size<=N+1;have:=wj.out;omega) _).setCell (by show w.heap.size<=N+1;have:=wj.out;omega) _).setCell (by show w.heap.size<=N+1;have:=wj.out;omega) _));(refine bodyPost_ret (zK rfl _ _ (N+1) 30 #[.int .i64 0,.int .i64 0,.slice none 0 0,.slice none 0 0] (0,0) _ (by rfl) (qp wV.out _ _ _ _) Tryz.underlying30 (by rfl) (by obtain ⟨i,h1,_,h3,_⟩:=info_parts Tryz.info30;rw [h1];exact congrArg some h3)) rfl ?_);exact ⟨⟨_,_,rfl,.inr (.inr ⟨tx.out,n,f,rfl,tB.out,.inl ⟨sJ.out,rfl,rfl⟩⟩)⟩,ww.out⟩
 ·obtain ⟨t,x,rfl⟩:=x7 HE.out hp;have y0:=q6 wg.out 0;have y1:=q6 wg.out 1;have y2:=q6 wg.out 2;have y3:=q6 wg.out 3;have yf0:=qA wg.out 0;have yf1:=qA wg.out 1;have yf2:=qA wg.out 2;have yf3:=qA wg.out 3
  (go_wp2_with fail);(have wU:Hid (Kept w2 ((((w2.setCell ⟨N+1,0,none⟩ (.int .i64 0)).setCell ⟨N+1,1,none⟩ (.int .i64 0)).setCell ⟨N+1,2,none⟩ (.slice none 0 0)).setCell ⟨N+1,3,none⟩ (.slice none 0 0))):=Jj (λ a v h=>(JK (by by_cases e:a.block=N+1;{ rw [e,qp wg.out,wg.out] };{ exact zb _ e _ _ _ _ })).trans h));(have ww:Hid (Below w.heap.size w ((((w2.setCell ⟨N+1,0,none⟩ (.int .i64 0)).setCell ⟨N+1,1,none⟩ (.int .i64 0)).setCell ⟨N+1,2,none⟩ (.slice none 0 0)).setCell ⟨N+1,3,none⟩ (.slice none 0 0))):=Jj ((((wR.out.setCell (by show w.heap.size<=N+1;have:=wj.out;omega) _).setCell (by show w.heap.size<=N+1;have:=wj.out;omega) _).setCell (by show w.heap.size<=N+1;have:=wj.out;omega) _).setCell (by show w.heap.size<=N+1;have:=wj.out;omega) _));(refine bodyPost_ret (zK rfl _ _ (N+1) 30 #[.int .i64 0,.int .i64 0,.slice none 0 0,.slice none 0 0] (0,0) _ (by rfl) (qp wg.out _ _ _ _) Tryz.underlying30 (by rfl) (by obtain ⟨i,h1,_,h3,_⟩:=info_parts Tryz.info30;rw [h1];exact congrArg some h3)) rfl ?_);exact ⟨⟨_,_,rfl,.inl ⟨hp,rfl,HE.out.keep wU.out⟩⟩,ww.out⟩
def WInt (B:Nat->Prop) (w:World) (b o:Nat) (x:Int):Prop:=B b/\(∃ y:Int,w.cell? ⟨b,o,none⟩=some (.int .i64 y))/\w.frozen? ⟨b,o,none⟩=false
def WInsS (B:Nat->Prop) (w:World) (b o:Nat) (x:qN):Prop:=CS w b (o+2) 1 (WInt B) x.args
def WBlkS (B:Nat->Prop) (w:World) (b o:Nat) (k:qE):Prop:=CS w b (o+1) 5 (WInsS B) k.ins/\CS w b (o+4) 1 (WInt B) k.term.to
structure WStp (w w':World):Prop where
 slice:∀ a A l c,w.cell? a=some (.slice A l c)->w'.cell? a=some (.slice A l c)
 num:∀ a (y:Int),w.cell? a=some (.int .i64 y)->(∃ z:Int,w'.cell? a=some (.int .i64 z))/\w'.frozen? a=w.frozen? a
theorem WStp.below {w w':World} (h:Below w.heap.size w w'):WStp w w' :=
 ⟨λ a A l c ha=>q7 h _ _ ha,λ a y ha=>⟨⟨y,q7 h _ _ ha⟩,h.frozen (block_lt_of_cell ha)⟩⟩
section
variable {w w':World} {B:Nat->Prop} (h:WStp w w')
include h
theorem WInt.go (b o:Nat) (x:Int) (hv:WInt B w b o x):WInt B w' b o x:=by
 obtain ⟨h1,⟨y,h2⟩,h3⟩:=hv;obtain ⟨h4,h5⟩:=h.num _ _ h2;exact ⟨h1,h4,h5.trans h3⟩
theorem CSW.go {α:Type} {sz:Nat} {R:World->Nat->Nat->α->Prop} (hR:∀ b o x,R w b o x->R w' b o x) {b o:Nat} {xs:List α} (hv:CS w b o sz R xs):CS w' b o sz R xs:=by
 obtain ⟨A,c,e,h1⟩:=hv;exact ⟨A,c,h.slice _ _ _ _ e,SL.imp hR h1⟩
theorem WInsS.go (b o:Nat) (x:qN) (hv:WInsS B w b o x):WInsS B w' b o x:=CSW.go h (WInt.go h) hv
theorem WBlkS.go (b o:Nat) (x:qE) (hv:WBlkS B w b o x):WBlkS B w' b o x:=⟨CSW.go h (WInsS.go h) hv.1,CSW.go h (WInt.go h) hv.2⟩
end
def BN (N M:Nat) (b:Nat):Prop:=N<=b/\b<M
theorem WInt.of {N:Nat} {w:World} (b o:Nat) (x:Int) (h:RIntB (BG N w) w b o x):WInt (BN N w.heap.size) w b o x:=⟨⟨h.1.1,block_lt_of_cell h.2.1⟩,⟨x,h.2.1⟩,h.1.2.free o⟩
theorem WInsS.of {N:Nat} {w:World} (b o:Nat) (x:qN) (h:RInsB (BG N w) w b o x):WInsS (BN N w.heap.size) w b o x:=by
 obtain ⟨_,_,_,⟨A,c,e,h1⟩,_⟩:=h;exact ⟨A,c,e,SL.imp WInt.of h1⟩
theorem WBlkS.of {N:Nat} {w:World} (b o:Nat) (x:qE) (h:RBlkB (BG N w) w b o x):WBlkS (BN N w.heap.size) w b o x:=by
 obtain ⟨_,_,⟨A,c,e,h1⟩,_,_,⟨A',c',e',h2⟩⟩:=h;exact ⟨⟨A,c,e,SL.imp WInsS.of h1⟩,⟨A',c',e',SL.imp WInt.of h2⟩⟩
end Go.Proofs.YtfoggldjjnabcaaGreatDoor

namespace Go.Proofs.YtfoggldjjnabcaaGreatDoor
open Go.ChangeShapes Go.WideShapes Go.RowKit Go.Deep
theorem q1u:∀ {l:List qE} {b:qE},b∈l->b.phis.length+b.ins.length<=zR l
 | x::l,b,h=>by
  (have e:zR (x::l)=(x.phis.length+x.ins.length)+zR l:=by unfold zR;rw [List.map_cons,List.sum_cons]);rcases List.mem_cons.1 h with rfl | h
  ·omega
  ·have:=q1u h;omega
theorem q92 (f:qB):(bdF f).blocks.length=(qb f.blocks).length:=by
 show ((List.range (qL f).blocks.length).map (vw (q9 (qL f)))).length=_;rw [List.length_map,List.length_range];rfl
theorem q7m {m:List qB} {f:qB} (hP:(v8 m).1=0) (hs:yF m) (hf:f∈m) (hl:lgB (bdF f)=false):jC (bdF f):=by
 have hB:=q93 hP hs hf;obtain ⟨hn1,hn2⟩:=hB.nb;have hp:=hB.par;unfold lgB at hl;rw [Bool.or_eq_false_iff] at hl;have h1:=of_decide_eq_false hl.1;have h2:=of_decide_eq_false hl.2;have hbl:(bdF f).blocks.length=(qL f).blocks.length:=q92 f;refine ⟨by omega,by omega,by show (qL f).params<=1000;omega,λ b hb=>?_⟩
 have hi:=q1u hb;obtain ⟨i,wg⟩:=List.mem_iff_getElem?.1 hb;(have wh:i<(qL f).blocks.length:=by have:=(Jk wg).1;omega);have e:b=vw (q9 (qL f)) i:=by
  have h:(bdF f).blocks[i]?=some (vw (q9 (qL f)) i):=zo (P:=q9 (qL f)) wh;rw [h] at wg;exact (J3 wg).symm
 have hk:qP (qL f) i∈(qL f).blocks:=by
  (have:(qL f).blocks[i]?=some (qP (qL f) i):=by unfold qP;rw [JJ,Jq wh];rfl);exact Jz this
 obtain ⟨s1,s2,s3,s4,s5⟩:=hB.small.2.2.2 _ hk;refine ⟨by omega,by omega,by rw [e];exact s3,λ x hx=>?_,λ x hx=>?_⟩
 ·rw [e] at hx;rcases List.mem_append.1 (show x∈zt (q9 (qL f)) i++(qR (qL f) i).mapIdx (q1C (q9 (qL f)) i) from hx) with h | h
  ·unfold zt at h
   split at h
   ·obtain ⟨r,-,rfl⟩:=List.mem_map.1 h;show ([]:List Int).length<=300;simp
   ·cases h
  ·obtain ⟨j,hj,rfl⟩:=List.mem_mapIdx.1 h;show (List.map _ _).length<=300;rw [List.length_map];exact s4 _ (List.getElem_mem hj)
 ·rw [e] at hx;obtain ⟨r,-,rfl⟩:=List.mem_map.1 (show x∈(phL (q9 (qL f)) i).map (q1B (q9 (qL f)) i) from hx);show (List.map _ (qH (qL f).blocks (i:Int))).length<=300;rw [List.length_map];have:=vU (qL f).blocks 0 (i:Int);unfold qH;omega
theorem q7G {m:List qB} {n:Nat} {f:qB} (hP:(v8 m).1=0) (hf:m[n]?=some f) (hl:lgB (bdF f)=false):zx (m.set n (bdF f))/\yK (bdF f)=(0,-1):=by
 obtain ⟨hp,wm⟩:=jr hP;have ww:=Jz hf;have wh:=(Jk hf).1;have wl:=q00 hp hf;(have wj:(vQ m n f)[n]?=some (qL f):=by unfold vQ;rw [List.getElem?_set_self wh]);have h0:=(proper_iff.1 wl).2 _ (Jz wj);have wu:∀ b∈(qL f).blocks,b.phis=[]:=λ c hc=>by
  obtain ⟨j,hj⟩:=List.mem_iff_getElem?.1 hc;obtain ⟨i,b,hb,-,-,rfl⟩:=xA hj;show b.phis.map _=[];rw [wm f ww b (Jz hb)];rfl
 have wk:∀ b,b<(qL f).blocks.length->qI (qL f).blocks b=true:=λ b hb=>kV hb;have wv:SsOk (vQ m n f) (q9 (qL f)) (DBl (qL f).blocks) (y7 (qL f).blocks):=q5h (q2j h0) wk wu;have T:SsT (vQ m n f) (m.set n (bdF f)) n (q9 (qL f)) (DBl (qL f).blocks) (y7 (qL f).blocks) :=
  ⟨wj,by unfold vQ;rw [List.set_set];rfl,wv,wl⟩
 have wg:=hl;unfold lgB at wg;rw [Bool.or_eq_false_iff] at wg;have h1:=of_decide_eq_false wg.1;have h2:=of_decide_eq_false wg.2;have hbl:(bdF f).blocks.length=(qL f).blocks.length:=q92 f;refine ⟨T.proper ?_ ?_,q5H T wk⟩
 ·have:(bdF f).regs.length=(vI (q9 (qL f))).length:=by
   show ((vI (q9 (qL f))).map _).length=_;rw [List.length_map]
  omega
 ·show (qL f).blocks.length+z7 (bdF f).blocks<=256;have:z7 (bdF f).blocks=zR (bdF f).blocks:=rfl;omega
theorem q91 {m:List qB} {n:Nat} {f:qB} (hP:(v8 m).1=0) (hs:yF m) (hf:m[n]?=some f) (hl:lgB (bdF f)=false):yF (m.set n (bdF f)):=by
 (refine ⟨by rw [List.length_set];exact hs.1,λ g hg=>?_⟩);rcases List.mem_or_eq_of_mem_set hg with hg | rfl
 ·exact hs.2 g hg
 ·exact q7m hP hs (Jz hf) hl
theorem q7H {m:List qB} {n:Nat} {f:qB} (hP:(v8 m).1=0) (hf:m[n]?=some f) (hl:lgB (bdF f)=false):yD (m.set n (bdF f)) ((n:Nat):Int)=(0,-1):=by
 obtain ⟨h1,h2⟩:=q7G hP hf hl;have wh:=(Jk hf).1;unfold yD;(rw [if_neg (by show ¬ (jV _).1≠0;simp;exact h1),if_pos ⟨by omega,by rw [List.length_set];omega⟩,Int.toNat_natCast,JJ,List.getElem?_set_self wh]);exact h2
end Go.Proofs.YtfoggldjjnabcaaGreatDoor
