/- The reference's CopyFunc: new memory that reads alike. -/
import Derived.Test.YtfoggldjjnabcaaGreatDoorModAK
import Derived.Test.YtfoggldjjnabcaaGreatDoorDmMK
import Derived.Test.YtfoggldjjnabcaaGreatDoorDmAK
import Derived.Deep.RegionHeld3
import Derived.Deep.DeepCutAuto
set_option linter.unusedVariables false
set_option linter.unusedSimpArgs false
namespace Go.Proofs.YtfoggldjjnabcaaGreatDoor
open Go.ChangeShapes Go.WideShapes Go.RowKit Go.Deep
def FCopy (n:Nat) (w:World) (f:qB) (r:Value):Prop :=
 ∃ ur Ab cb Mid,r=.agg #[.int .i64 f.params,.int .i64 f.result,ur,.slice Ab f.blocks.length cb]/\(n<=Mid/\Mid<=w.heap.size)/\w.ownsRow n 3 1 ur f.regs.length (f.regs.map (Value.int .i64))/\(∀ g,ur.ownBlock=some g->g<Mid) /\
  SL w 5 (RBlkB (λ b=>Mid<=b)) Ab cb f.blocks/\(∃ Ar cr,ur=.slice Ar f.regs.length cr/\SL w 1 (RIntB (λ b=>n<=b)) Ar cr f.regs)/\I64 f.params/\I64 f.result
set_option maxRecDepth 100000 in
set_option maxHeartbeats 8000000 in
theorem q2r (f:qB) (v:Value) (w:World) (hv:VFun w v f) (tm:jC f) :
  Calls Tryz.prog 45 #[v] w λ e w'=>(∃ r,e=.returned r/\FCopy w.heap.size w' f r)/\Below w.heap.size w w':=by
 obtain ⟨Ar,cr,Ab,cb,rfl,hr,hb,sc,tV⟩:=hv;obtain ⟨i52,p1,p2,p3,p4⟩:=info_parts Tryz.info55;have wQ:=Jj (And.intro p1 (And.intro p2 (And.intro p3 p4)));clear p1 p2 p3 p4;obtain ⟨i45,p1,p2,p3,p4⟩:=info_parts Tryz.info53;have wR:=Jj (And.intro p1 (And.intro p2 (And.intro p3 p4)));clear p1 p2 p3 p4;obtain ⟨i43,p1,p2,p3,p4⟩:=info_parts Tryz.info51;have wT:=Jj (And.intro p1 (And.intro p2 (And.intro p3 p4)))
 clear p1 p2 p3 p4;have hrl:=hr.len;have hbl:=hb.len;(go_enter Tryz.func45,Tryz.ntmps45);(go_wp2_with fail);obtain ⟨w1,sC,sE,sI,sO,tF,-⟩:=named w #[.int .i64 f.params,.int .i64 f.result,.slice Ar f.regs.length cr,.slice Ab f.blocks.length cb] 30;obtain ⟨w2,tP,tS,tc,sN,tE,tB⟩:=named w1 #[.int .i64 0,.int .i64 0,.slice none 0 0,.slice none 0 0] 30;(have tH:w2.heap[w1.heap.size]?=some (.cells #[.int .i64 0,.int .i64 0,.slice none 0 0,.slice none 0 0] 30 (0,0)):=by rw [tP];exact heap_alloc_new _ _);rw [sE] at tS tE tB tH
 have r9:=Jj tH;clear tH;have f0:w2.cell? ⟨w.heap.size,0,none⟩=some (.int .i64 f.params):=tc _ _ (tF 0 _ rfl);have f1:w2.cell? ⟨w.heap.size,1,none⟩=some (.int .i64 f.result):=tc _ _ (tF 1 _ rfl);have f2:w2.cell? ⟨w.heap.size,2,none⟩=some (.slice Ar f.regs.length cr):=tc _ _ (tF 2 _ rfl);have f3:w2.cell? ⟨w.heap.size,3,none⟩=some (.slice Ab f.blocks.length cb):=tc _ _ (tF 3 _ rfl);have hK:=sI.trans tc;have hB2:Below w.heap.size w w2:=sO.trans (sN.mono (by omega));rw [<- sC,<- tP]
 have tT:=SInts.keep hK hr;(have sF:w.heap.size+1<w2.heap.size:=by omega);(have hl2':w.heap.size<w2.heap.size:=by omega);(have tU:f.regs.length<=1000000:=by have:=tm.2.1;omega);have HS2:=Jj tS;clear sC tP sE tS tF sI tc sO sN;go_cut [3] (λ s3 wx=>∃ go vr,s3=.pointer (some ⟨go,0,none⟩)/\w2.heap.size<=go/\go<wx.heap.size/\Below w2.heap.size w2 wx/\wx.heap[go]?=some (.cells #[.int .i64 f.params,.int .i64 f.result,vr,.slice none 0 0] 30 (0,0))/\(wx.ownsRow w2.heap.size 3 1 vr f.regs.length (f.regs.map (Value.int .i64))/\vr.ownBlock≠some go)/\VS wx 1 (RIntB (λ b=>w2.heap.size<=b/\b≠go)) vr f.regs)
 case first =>
  have hS:∀ w',Below w2.heap.size w2 w'->w'.cell? ⟨w.heap.size,0,none⟩=some (.int .i64 f.params)/\w'.cell? ⟨w.heap.size,1,none⟩=some (.int .i64 f.result)/\w'.cell? ⟨w.heap.size,2,none⟩=some (.slice Ar f.regs.length cr) :=
   λ w' h=>⟨q7 h _ _ f0,q7 h _ _ f1,q7 h _ _ f2⟩
  go_region_held3 (λ w'=>w'.cell? ⟨w.heap.size,0,none⟩=some (.int .i64 f.params)/\w'.cell? ⟨w.heap.size,1,none⟩=some (.int .i64 f.result)/\w'.cell? ⟨w.heap.size,2,none⟩=some (.slice Ar f.regs.length cr))
   (first
    | (refine hS _ ?_;repeat (first | exact J5 _ _ | refine Below.drew ?_ | refine Below.setCell ?_ (by first | omega | (simp;done) | (simp;omega)) _ | refine Below.alloc ?_ (by first | omega | (simp;done) | (simp;omega)) _ | refine Below.grown ?_ wg (by first | omega | (simp;done) | (simp;omega)) (λ k hk=>by first | (simp at hk;omega) | (cases hk;omega)))))
   (first
    | (refine z8 (by rfl) _ _ (by rfl) _ _ _ _ _ (by rfl) (by rfl) (q2Q _ _) (SInts.keep (q5u _ _) tT) rfl tU ?_;intro v1 c1 wA wl wg hownR;have wJ:=wg.size;simp at wJ)
    | (refine z8 (by rfl) _ _ (by rfl) _ _ _ _ _ (by rfl) (by rfl) (jF _ _ _) (SInts.keep (q5t _ _ _) tT) rfl tU ?_;intro v1 c1 wA wl wg hownR;have wJ:=wg.size;simp at wJ;have wj:=vY wg (show _=some (.cells #[.int .i64 0,.int .i64 0,.slice none 0 0,.slice none 0 0] 30 (0,0)) from yi _ _ _) (by omega);have bx0:=q6 wj 0;have bx1:=q6 wj 1;have bx2:=q6 wj 2;have bx3:=q6 wj 3;have by0:=qA wj 0;have by1:=qA wj 1;have by2:=qA wj 2;have by3:=qA wj 3;simp at bx0 bx1 bx2 bx3)
    | (refine z8 (by rfl) _ _ (by rfl) _ _ _ _ _ (by rfl) (by rfl) (yi _ _ _) (SInts.keep (q5t _ _ _) tT) rfl tU ?_;intro v1 c1 wA wl wg hownR;have wJ:=wg.size;simp at wJ;have wj:=vY wg (show _=some (.cells #[.int .i64 0,.int .i64 0,.slice none 0 0,.slice none 0 0] 30 (0,0)) from jF _ _ _) (by omega);have bx0:=q6 wj 0;have bx1:=q6 wj 1;have bx2:=q6 wj 2;have bx3:=q6 wj 3;have by0:=qA wj 0;have by1:=qA wj 1;have by2:=qA wj 2;have by3:=qA wj 3;simp at bx0 bx1 bx2 bx3))
  ·have hBA:Below w2.heap.size w2 wA:=(((J5 _ w2).alloc (J4 _) _).drew).grown wg (by simp) (λ k hk=>Nat.le_of_eq (J3 hk));(go_wp2_with fail);go_meet
   exact ⟨_,_,rfl,by omega,by simp,hBA.alloc (by omega) _,heap_alloc_new _ _,⟨World.ownsRow.alloc hownR.1 _,λ e=>by have:=(hownR.1.lt _ e).2;omega⟩,v1,c1,rfl,
    SIntsB.go (KeptB.of (qc _ _)) (λ b hb=>by obtain ⟨h1,h2⟩:=hb;simp at h1;omega) (SIntsB.lt wl)⟩
  ·(have hBA:Below w2.heap.size w2 wA:=((((J5 _ w2).alloc (J4 _) _).alloc (by simp) _).drew).grown wg (by simp;omega) (λ k hk=>Nat.le_of_eq (J3 hk)));(go_wp2_with fail);go_meet
   exact ⟨_,_,rfl,by omega,by simp;omega,(((hBA.setCell (by show _<=w2.heap.size+1;omega) _).setCell (by show _<=w2.heap.size+1;omega) _).setCell (by show _<=w2.heap.size+1;omega) _).setCell (by show _<=w2.heap.size+1;omega) _,qp wj _ _ _ _,⟨jJ hownR.1 (λ x hx=>zb _ (by rcases hownR.2 with h | h <;> (have:=J3 (hx.symm.trans h);first | omega | (simp at this;omega))) _ _ _ _),λ e=>by rcases hownR.2 with h | h <;> (have:=J3 (e.symm.trans h);first | omega | (simp at this;done) | (simp at this;omega))⟩,v1,c1,rfl,
    SIntsB.go ((j4 _ _ _ _ _ _).mono (λ b hb=>hb.2)) (λ b hb=>hb) (SL.imp (RIntB.go (B:=λ b=>b=w2.heap.size\/b=w2.heap.size+1+1) (KeptB.of (Kept.refl _)) (λ b hb=>by omega)) (by simpa using wl))⟩
  ·(have hBA:Below w2.heap.size w2 wA:=((((J5 _ w2).alloc (J4 _) _).alloc (by simp) _).drew).grown wg (by simp;omega) (λ k hk=>by have:=J3 hk;omega));(go_wp2_with fail);go_meet
   exact ⟨_,_,rfl,by omega,by simp;omega,(((hBA.setCell (J4 _) _).setCell (J4 _) _).setCell (J4 _) _).setCell (J4 _) _,qp wj _ _ _ _,⟨vq (jJ hownR.1 (λ x hx=>zb _ (by rcases hownR.2 with h | h <;> (have:=J3 (hx.symm.trans h);first | omega | (simp at this;omega))) _ _ _ _)) (by omega),λ e=>by rcases hownR.2 with h | h <;> (have:=J3 (e.symm.trans h);first | omega | (simp at this;done) | (simp at this;omega))⟩,v1,c1,rfl,
    SIntsB.go ((j4 _ _ _ _ _ _).mono (λ b hb=>hb.2)) (λ b hb=>hb) (SL.imp (RIntB.go (B:=λ b=>b=w2.heap.size+1\/b=w2.heap.size+1+1) (KeptB.of (Kept.refl _)) (λ b hb=>by omega)) (by simpa using wl))⟩
 case rest =>
  obtain ⟨go,vr,rfl,hgo1,hgo2,sM,sn,⟨howR,hneR⟩,Av,cv,rfl,sR⟩:=hcut;have th:=SIntsB.lt sR;obtain ⟨M,hM⟩:∃ M,M=wc.heap.size:=⟨_,rfl⟩;(have hMs:M<=wc.heap.size:=by omega);(have hgoM:go<M:=by omega);rw [<- hM] at th;(have hltR:∀ g,(Value.slice Av f.regs.length cv).ownBlock=some g->g<M:=λ g hg=>by have:=(howR.lt g hg).2;omega);have sQ:=Jj hltR;have r8:=Jj hneR
  have sZ:=Jj howR;clear hltR hneR howR;have hN2:w2.heap.size<=wc.heap.size:=sM.size;(have hN2M:w2.heap.size<=M:=by omega);clear hM;go_wp2_with fail
  go_loopw [4] (λ i wr=>∃ (k:Nat) (u:Value) (cs:List Value),k<=f.blocks.length/\i=.int .i64 k/\Below w2.heap.size w2 wr/\M<=wr.heap.size /\
   wr.heap[go]?=some (.cells #[.int .i64 f.params,.int .i64 f.result,.slice Av f.regs.length cv,u] 30 (0,0)) /\
   SL wr 1 (RIntB (λ b=>(w2.heap.size<=b/\b≠go)/\b<M)) Av cv f.regs/\Hid (wr.ownsRow w2.heap.size 3 1 (.slice Av f.regs.length cv) f.regs.length (f.regs.map (Value.int .i64)))/\wr.ownsRow M 51 5 u k cs/\Rows 5 (CBlk (λ b=>M<=b/\some b≠u.ownBlock) wr) (f.blocks.take k) cs) (λ i _=>f.blocks.length - (intOf i).toNat)
  case atStart=>exact ⟨0,.slice none 0 0,[],Nat.zero_le _,rfl,sM,hMs,sn,th,sZ,World.ownsRow_nil _ _ _ _,rfl⟩
  case round =>
   obtain ⟨k,u,cs,hk,rfl,tG,hMw,tx,tq,wX,wM,wu⟩:=hrel;obtain ⟨wo,rfl⟩:∃ wo,wo=wr:=⟨wr,rfl⟩;have ta:Kept w2 wo:=yB tG (J4 _);have g0:=q6 tx 0;have g1:=q6 tx 1;have g2:=q6 tx 2;have g3:=q6 tx 3;have f3':=ta _ _ f3
   by_cases sd:k<f.blocks.length
   ·obtain ⟨bb,oo,b,rfl,hb,⟨Ap,cp,tX,wV⟩,⟨Ai,ci,si,tw⟩,⟨sX,tu⟩,⟨sY,tJ⟩,⟨At,ct,sS,tQ⟩⟩:=(SBlks.keep (hK.trans ta) hb).at_ sd;have tp:q5Z b:=tm.2.2.2 b (Jz hb.out);clear g0 g1 g2 g3;(go_wp2_with fail);obtain ⟨w3,sB,sD,sH,sr,td,-⟩:=named wo #[.slice Ap b.phis.length cp,.slice Ai b.ins.length ci,.int .i64 b.term.kind,.int .i64 b.term.arg,.slice At b.term.to.length ct] 51;have b0:w3.cell? ⟨wo.heap.size,0,none⟩=some (.slice Ap b.phis.length cp):=td 0 _ rfl;have b1:w3.cell? ⟨wo.heap.size,1,none⟩=some (.slice Ai b.ins.length ci):=td 1 _ rfl;have b2:w3.cell? ⟨wo.heap.size,2,none⟩=some (.int .i64 b.term.kind):=td 2 _ rfl;have b3:w3.cell? ⟨wo.heap.size,3,none⟩=some (.int .i64 b.term.arg):=td 3 _ rfl
    have b4:w3.cell? ⟨wo.heap.size,4,none⟩=some (.slice At b.term.to.length ct):=td 4 _ rfl;have wv:=SInts.keep sH tQ;(have hl3:wo.heap.size<w3.heap.size:=by omega);(have ww:b.term.to.length<=1000000:=by have:=tp.2.2.1;omega);rw [<- sB];have HS3:=Jj sD;clear sB sD td tX si sX sY sS
    go_cut [6] (λ s6 wx=>∃ gc A c,s6=.pointer (some ⟨gc,0,none⟩)/\w3.heap.size<=gc/\gc<wx.heap.size/\Below w3.heap.size w3 wx /\
     wx.heap[gc]?=some (.cells #[.slice none 0 0,.slice none 0 0,.int .i64 b.term.kind,.int .i64 b.term.arg,.slice A b.term.to.length c] 51 (0,0))/\SL wx 1 (RIntB (λ x=>w3.heap.size<=x/\x≠gc)) A c b.term.to)
    case first =>
     have hS:∀ w',Below w3.heap.size w3 w'->w'.cell? ⟨wo.heap.size,2,none⟩=some (.int .i64 b.term.kind)/\w'.cell? ⟨wo.heap.size,3,none⟩=some (.int .i64 b.term.arg)/\w'.cell? ⟨wo.heap.size,4,none⟩=some (.slice At b.term.to.length ct) :=
      λ w' h=>⟨q7 h _ _ b2,q7 h _ _ b3,q7 h _ _ b4⟩
     go_region_held3 (λ w'=>w'.cell? ⟨wo.heap.size,2,none⟩=some (.int .i64 b.term.kind)/\w'.cell? ⟨wo.heap.size,3,none⟩=some (.int .i64 b.term.arg)/\w'.cell? ⟨wo.heap.size,4,none⟩=some (.slice At b.term.to.length ct))
      (first
       | (refine hS _ ?_;repeat (first | exact J5 _ _ | refine Below.drew ?_ | refine Below.setCell ?_ (by first | omega | (simp;done) | (simp;omega)) _ | refine Below.alloc ?_ (by first | omega | (simp;done) | (simp;omega)) _ | refine Below.grown ?_ wg (by first | omega | (simp;done) | (simp;omega)) (λ k hk=>by first | (simp at hk;omega) | (cases hk;omega)))))
      (first
       | (refine z8 (by rfl) _ _ (by rfl) _ _ _ _ _ (by rfl) (by rfl) (q2Q _ _) (SInts.keep (q5u _ _) wv) rfl ww ?_;intro v1 c1 wA wl wg hownR;clear hownR;have wJ:=wg.size;simp at wJ)
       | (refine z8 (by rfl) _ _ (by rfl) _ _ _ _ _ (by rfl) (by rfl) (jF _ _ _) (SInts.keep (q5t _ _ _) wv) rfl ww ?_;intro v1 c1 wA wl wg hownR;clear hownR;have wJ:=wg.size;simp at wJ;have wj:=vY wg (show _=some (.cells #[.slice none 0 0,.slice none 0 0,.int .i64 0,.int .i64 0,.slice none 0 0] 51 (0,0)) from yi _ _ _) (by omega);have bx0:=q6 wj 0;have by0:=qA wj 0;have bx1:=q6 wj 1;have by1:=qA wj 1;have bx2:=q6 wj 2;have by2:=qA wj 2;have bx3:=q6 wj 3;have by3:=qA wj 3;have bx4:=q6 wj 4;have by4:=qA wj 4;simp at bx0 bx1 bx2 bx3 bx4)
       | (refine z8 (by rfl) _ _ (by rfl) _ _ _ _ _ (by rfl) (by rfl) (yi _ _ _) (SInts.keep (q5t _ _ _) wv) rfl ww ?_;intro v1 c1 wA wl wg hownR;clear hownR;have wJ:=wg.size;simp at wJ;have wj:=vY wg (show _=some (.cells #[.slice none 0 0,.slice none 0 0,.int .i64 0,.int .i64 0,.slice none 0 0] 51 (0,0)) from jF _ _ _) (by omega);have bx0:=q6 wj 0;have by0:=qA wj 0;have bx1:=q6 wj 1;have by1:=qA wj 1;have bx2:=q6 wj 2;have by2:=qA wj 2;have bx3:=q6 wj 3;have by3:=qA wj 3;have bx4:=q6 wj 4;have by4:=qA wj 4;simp at bx0 bx1 bx2 bx3 bx4))
     ·have hBA:Below w3.heap.size w3 wA:=(((J5 _ w3).alloc (J4 _) _).drew).grown wg (by simp) (λ k hk=>Nat.le_of_eq (J3 hk));(go_wp2_with fail);go_meet
      exact ⟨_,_,_,rfl,by omega,by simp,hBA.alloc (by omega) _,heap_alloc_new _ _,
       SIntsB.go (KeptB.of (qc _ _)) (λ b hb=>by obtain ⟨h1,h2⟩:=hb;simp at h1;omega) (SIntsB.lt wl)⟩
     ·(have hBA:Below w3.heap.size w3 wA:=((((J5 _ w3).alloc (J4 _) _).alloc (by simp) _).drew).grown wg (by simp;omega) (λ k hk=>Nat.le_of_eq (J3 hk)));(go_wp2_with fail);go_meet
      exact ⟨_,_,_,rfl,by omega,by simp;omega,(((((hBA.setCell (by show _<=w3.heap.size+1;omega) _).setCell (by show _<=w3.heap.size+1;omega) _).setCell (by show _<=w3.heap.size+1;omega) _).setCell (by show _<=w3.heap.size+1;omega) _).setCell (by show _<=w3.heap.size+1;omega) _),q01 wj _ _ _ _ _,
       SIntsB.go ((q06 _ _ _ _ _ _ _).mono (λ b hb=>hb.2)) (λ b hb=>hb) (SL.imp (RIntB.go (B:=λ b=>b=w3.heap.size\/b=w3.heap.size+1+1) (KeptB.of (Kept.refl _)) (λ b hb=>by omega)) (by simpa using wl))⟩
     ·(have hBA:Below w3.heap.size w3 wA:=((((J5 _ w3).alloc (J4 _) _).alloc (by simp) _).drew).grown wg (by simp;omega) (λ k hk=>by have:=J3 hk;omega));(go_wp2_with fail);go_meet
      exact ⟨_,_,_,rfl,by omega,by simp;omega,(((((hBA.setCell (J4 _) _).setCell (J4 _) _).setCell (J4 _) _).setCell (J4 _) _).setCell (J4 _) _),q01 wj _ _ _ _ _,
       SIntsB.go ((q06 _ _ _ _ _ _ _).mono (λ b hb=>hb.2)) (λ b hb=>hb) (SL.imp (RIntB.go (B:=λ b=>b=w3.heap.size+1\/b=w3.heap.size+1+1) (KeptB.of (Kept.refl _)) (λ b hb=>by omega)) (by simpa using wl))⟩
    case rest =>
     obtain ⟨gc,Ac,cc,rfl,hgc1,wY,sq,tD,sk⟩:=hcut;have sh:=q7 sq;have b0:=sh _ _ b0;have b1:=sh _ _ b1;obtain ⟨w4,rfl⟩:∃ w4,w4=wc:=⟨wc,rfl⟩;have hl4:=sq.size;have tC:=SIntsB.lt sk;go_wp2_with fail
     go_loopw [7] (λ i wr=>∃ (j:Nat) (u1:Value) (cs1:List Value),j<=b.phis.length/\i=.int .i64 j/\BB w4.heap.size gc w4 wr /\
      wr.heap[gc]?=some (.cells #[u1,.slice none 0 0,.int .i64 b.term.kind,.int .i64 b.term.arg,.slice Ac b.term.to.length cc] 51 (0,0)) /\
      wr.ownsRow w4.heap.size 55 2 u1 j cs1/\Rows 2 (CPhi (λ x=>w4.heap.size<=x/\some x≠u1.ownBlock) wr) (b.phis.take j) cs1) (λ i _=>b.phis.length - (intOf i).toNat)
     case atStart=>exact ⟨0,.slice none 0 0,[],Nat.zero_le _,rfl,BB.refl _ _ _,tD,World.ownsRow_nil _ _ _ _,rfl⟩
     case round =>
      obtain ⟨j,u1,cs1,hj,rfl,tf,wO,wh,wk⟩:=hrel;have tR:=tf.size;have sf:=tf.kept;(have y0:=sf _ _ ⟨by show wo.heap.size<w4.heap.size;omega,by show wo.heap.size≠gc;omega⟩ b0);have hkW:Kept wo wr:=λ a v h=>by
       have sd:=block_lt_of_cell h;exact sf a v ⟨by omega,by omega⟩ (sh _ _ (sH _ _ h))
      have z0:=q6 wO 0;have z0:wr.cell? ⟨gc,0,none⟩=some u1:=z0;have zf:=qA wO 0
      by_cases tL:j<b.phis.length
      ·obtain ⟨bp,op,p,rfl,hp,⟨sU,tr⟩,Aa,ca,sV,tZ⟩:=(SPhis.keep hkW wV).at_ tL;have sK:bp<w4.heap.size:=by
        obtain ⟨b',o',p',e',_,⟨h',_⟩,_⟩:=wV.at_ tL;simp only [J0,Addr.mk.injEq] at e';obtain ⟨rfl,rfl,-⟩:=e';have:=block_lt_of_cell h';dsimp only at this;omega
       (have hj0:(0:Int)<=j:=by omega);(have hj1:(j:Int)<b.phis.length:=by omega);have hpl300:b.phis.length<=300:=tp.2.1;(have sb:p.args.length<=1000000:=by have:=tp.2.2.2.2 p (Jz hp.out);omega);have hS:∀ w',Below w4.heap.size wr w'->w'.cell? ⟨gc,0,none⟩=some u1/\w'.cell? ⟨wo.heap.size,0,none⟩=some (.slice (some ⟨bp,op,none⟩) b.phis.length cp) /\
         w'.cell? ⟨bp,op+j * 2,none⟩=some (.int .i64 p.dst)/\w'.cell? ⟨bp,op+j * 2+1,none⟩=some (.slice Aa p.args.length ca):=λ w' h =>
        ⟨(h.cell (p:=⟨gc,0,none⟩) wY).trans z0,(h.cell (p:=⟨wo.heap.size,0,none⟩) (by show wo.heap.size<w4.heap.size;omega)).trans y0,
         (h.cell (p:=⟨bp,op+j * 2,none⟩) sK).trans sU,(h.cell (p:=⟨bp,op+j * 2+1,none⟩) sK).trans sV⟩
       go_wp2_with fail
       refine qS (L:=20) (S:=λ w'=>w'.cell? ⟨gc,0,none⟩=some u1/\w'.cell? ⟨wo.heap.size,0,none⟩=some (.slice (some ⟨bp,op,none⟩) b.phis.length cp) /\
         w'.cell? ⟨bp,op+j * 2,none⟩=some (.int .i64 p.dst)/\w'.cell? ⟨bp,op+j * 2+1,none⟩=some (.slice Aa p.args.length ca)) (by kernel_rfl) (by rfl) (by kernel_rfl) (by kernel_rfl) ?_
       change wpAnyH _ _ _ _ _ _ _ _ (World.drew _);have hS0:=hS wr.drew (J5 _ _).drew;refine tk 0 51 hS0 ?_;simp only [J6,aS,J1,J2];refine tk 1 52 hS0 ?_;simp only [J6,aS,J1,J2];refine tk 2 53 hS0 ?_;simp only [J6,aS,J1,J2];refine tk 3 54 hS0 ?_
       simp only [J6,aS,J1,J2];refine tk 4 55 hS0 ?_;simp only [J6,aS,J1,J2];refine tk 5 56 hS0 ?_;simp only [J6,aS,J1,J2];refine tk 6 57 hS0 ?_;simp only [J6,aS,J1,J2];refine tk 7 58 hS0 ?_;simp only [J6,aS,J1,J2]
       refine tk 9 60 hS0 ?_;simp only [J6,aS,J1,J2];refine tk 10 61 hS0 ?_;simp only [J6,aS,J1,J2];refine tk 11 62 hS0 ?_;simp only [J6,aS,J1,J2];refine tk 12 63 hS0 ?_;simp only [J6,aS,J1,J2];refine tk 13 64 hS0 ?_
       simp only [J6,aS,J1,J2];refine tk 14 65 hS0 ?_;simp only [J6,aS,J1,J2];refine zk (i:=8) (by kernel_rfl) (λ o ho K hK=>?_);(simp only [JZ,JX,JY,J0] at ho;subst ho);(go_simp);have sL:Below w4.heap.size wr (wr.alloc (.cells #[] 3)).drew:=((J5 _ wr).alloc tR _).drew;refine hK.out _ _ (hS _ sL) ?_;clear hK K
       refine zk (i:=15) (by kernel_rfl) (λ o ho K hK=>?_);(simp only [JZ,JX,JY,J0] at ho;subst ho);refine z8 (by rfl) _ _ (by rfl) _ _ _ _ _ (by rfl) (by rfl) (q2Q wr _) (SInts.keep (q5u _ _) tZ) rfl sb ?_;(intro v1 c1 wA wl wg hownR;clear hownR);have hsA:=wg.size;simp at hsA;(have hbA:Below w4.heap.size wr wA:=sL.grown wg (by simp;omega) (λ k hk=>by have:=J3 hk;omega));have hSA:=hS _ hbA;refine hK.out _ _ hSA ?_
       clear hK K;simp only [J6,aS,J1,J2];refine tk 16 67 hSA ?_;simp only [J6,aS,J1,J2];refine zk (i:=17) (by kernel_rfl) (λ o ho K hK=>?_);(simp only [JZ,JX,JY,J0] at ho;subst ho);(go_simp);have hbB:Below w4.heap.size wr (wA.alloc (.cells #[.int .i64 p.dst,.slice v1 p.args.length c1] 55)):=hbA.alloc (by omega) _;refine hK.out _ _ (hS _ hbB) ?_
       clear hK K;refine zk (i:=18) (by kernel_rfl) (λ o ho K hK=>?_);(simp only [JZ,JX,JY,J0] at ho;subst ho);have hownA:wA.ownsRow w4.heap.size 55 2 u1 j cs1:=by
        refine World.ownsRow.kept (w:=(wr.alloc (.cells #[] 3)).drew) (World.ownsRow.alloc (w:=wr) wh _) wg ?_;cases hu:u1.ownBlock with
        | none=>exact .inl rfl
        | some g=>right;intro e;have:=(wh.lt g hu).2;have:=J3 e;omega
       refine step_append_lies _ (by rfl) _ _ _ (by rfl) w4.heap.size 55 i52 (.agg #[.int .i64 0,.slice none 0 0]) 2 32 Tryz.underlying48 wQ.out.1 wQ.out.2.1 wQ.out.2.2.1 wQ.out.2.2.2 rfl (by decide) u1 j cs1 (by rfl) (hownA.alloc _)
        ⟨wA.heap.size,0,none⟩ 1 1 [.int .i64 p.dst,.slice v1 p.args.length c1] (by rfl) (by rfl) (zE wA #[.int .i64 p.dst,.slice v1 p.args.length c1] _ rfl) (by simp [Value.oneCell']) (by decide) (by unfold maxLen;omega) (by omega) (by simp;omega) (wA.heap.size+1) (by simp) ?_
       intro g cap wC hownC hgrowC hlocC hltC;have hsC:=hgrowC.size;simp at hsC;(have hbC:Below w4.heap.size wr wC:=hbB.grown hgrowC (by simp;omega) (λ k hk=>(wh.lt k hk).1));have hSC:=hS _ hbC;refine hK.out _ _ hSC ?_;clear hK K;simp only [J6,aS,J1,J2];refine tk 19 70 hSC ?_
       simp only [J6,aS,J1,J2];refine wpAnyH_done (by kernel_rfl) ?_ _;refine vL (by decide) (λ o ho K hK=>?_);(simp only [JZ,JX,JY,J0] at ho;subst ho);have hgcC:wC.heap[gc]?=some (.cells #[u1,.slice none 0 0,.int .i64 b.term.kind,.int .i64 b.term.arg,.slice Ac b.term.to.length cc] 51 (0,0)):=(hbC.block gc wY).trans wO;have x0:wC.cell? ⟨gc,0,none⟩=some u1:=q6 hgcC 0;have xf:wC.frozen? ⟨gc,0,none⟩=false:=qA hgcC 0;(go_simp);refine hK.out _ _ ?_
       clear hK K;have hkF:KeptB (λ x=>(w4.heap.size<=x/\some x≠u1.ownBlock)/\x<wr.heap.size) wr (wC.setCell ⟨gc,0,none⟩ (.slice (some ⟨g,0,none⟩) (j+1) cap)) :=
        (((KeptB.of (q5u wr (.cells #[] 3))).trans ((zU wg).mono (λ x hx=>by intro e;have:=J3 e;omega))).trans (KeptB.of (qc _ _))).trans
         (((zU hgrowC).mono (λ x hx=>hx.1.2)).trans ((zW wC ⟨gc,0,none⟩ _).mono (λ x hx=>by show x≠gc;omega)))
       have hkA:KeptB (λ x=>(x=wr.heap.size\/x=wr.heap.size+1)/\x<wA.heap.size) wA (wC.setCell ⟨gc,0,none⟩ (.slice (some ⟨g,0,none⟩) (j+1) cap)) :=
        (KeptB.of (qc _ _)).trans (((zU hgrowC).mono (λ x hx e=>by have:=(wh.lt x e.symm).2;omega)).trans ((zW wC ⟨gc,0,none⟩ _).mono (λ x hx=>by show x≠gc;omega)))
       have wW:SL wA 1 (RIntB (λ x=>(x=wr.heap.size\/x=wr.heap.size+1)/\x<wA.heap.size)) v1 c1 p.args:=SIntsB.lt (by simpa using wl);have hnewP:CPhi (λ x=>w4.heap.size<=x/\some x≠(Value.slice (some ⟨g,0,none⟩) (j+1) cap).ownBlock) (wC.setCell ⟨gc,0,none⟩ (.slice (some ⟨g,0,none⟩) (j+1) cap)) p [.int .i64 p.dst,.slice v1 p.args.length c1] :=
        ⟨v1,c1,rfl,SIntsB.go hkA (λ x hx=>⟨by omega,λ e=>by
         have sy:x=g:=J3 e;rcases hlocC with h | h
         ·have:=(wh.lt g h).2;omega
         ·omega⟩) wW,tr⟩
       have hrowsF:=Rows.push (F:=CPhi) (λ _ _ _ _ _ _ h1 h2 h3=>CPhi.go h1 h2 h3) (λ _ _ _ _ h=>CPhi.lt h) wk hkF (u':=.slice (some ⟨g,0,none⟩) (j+1) cap) (λ x h1 h2 h3 e=>by
         have sy:x=g:=J3 e;rcases hlocC with h | h
         ·subst sy;exact h2 h.symm
         ·omega) rfl hnewP
       have hbbF:BB w4.heap.size gc w4 (wC.setCell ⟨gc,0,none⟩ (.slice (some ⟨g,0,none⟩) (j+1) cap)):=(tf.trans (BB.of_below hbC (J4 _))).setCell (.inl rfl) _;have hgcF:=qK (i:=0) (.slice (some ⟨g,0,none⟩) (j+1) cap) hgcC;have hownF:(wC.setCell ⟨gc,0,none⟩ (.slice (some ⟨g,0,none⟩) (j+1) cap)).ownsRow w4.heap.size 55 2 (.slice (some ⟨g,0,none⟩) (j+1) cap) (j+1) (cs1++[.int .i64 p.dst,.slice v1 p.args.length c1]):=ownsRow_setCell_below hownC wY _;rw [<- qG hp.out] at hrowsF;have HR:=Jj hrowsF;have HO:=Jj hownF;have HG:Hid ((wC.setCell ⟨gc,0,none⟩ (.slice (some ⟨g,0,none⟩) (j+1) cap)).heap[gc]?=some (.cells #[.slice (some ⟨g,0,none⟩) (j+1) cap,.slice none 0 0,.int .i64 b.term.kind,.int .i64 b.term.arg,.slice Ac b.term.to.length cc] 51 (0,0))):=Jj hgcF;generalize wC.setCell ⟨gc,0,none⟩ (.slice (some ⟨g,0,none⟩) (j+1) cap)=wF at *;clear hrowsF hownF hgcF hkF hkA hnewP hgcC x0 xf
       go_wp2_with fail
       go_roundw
       case rel=>exact ⟨j+1,_,_,by omega,by go_num,hbbF,HG.out,HO.out,HR.out⟩
       case measure=>simp [intOf];omega
      ·(obtain rfl:j=b.phis.length:=by omega);rw [List.take_of_length_le (J4 _)] at wk;have tW:VS wr 2 (RPhiB (λ x=>w4.heap.size<=x)) u1 b.phis:=wk.reads wh (λ g o x c h1 h2 h3 _ h4=>CPhi.reads (B:=λ x=>w4.heap.size<=x) h2 (CPhi.go (KeptB.of (Kept.refl _)) (λ _ h=>h.1) h3) h4);obtain ⟨A1,d1,rfl,tY⟩:=tW;have tY:=SPhisB.lt tY;(have y1:=sf _ _ ⟨by show wo.heap.size<w4.heap.size;omega,by show wo.heap.size≠gc;omega⟩ b1);clear wh wk;obtain ⟨w5,rfl⟩:∃ w5,w5=wr:=⟨wr,rfl⟩;have tz:gc<w5.heap.size:=by omega
       go_wp2_with fail
       go_loopw [8] (λ i wr=>∃ (j:Nat) (u1:Value) (cs1:List Value),j<=b.ins.length/\i=.int .i64 j/\BB w5.heap.size gc w5 wr /\
        wr.heap[gc]?=some (.cells #[.slice A1 b.phis.length d1,u1,.int .i64 b.term.kind,.int .i64 b.term.arg,.slice Ac b.term.to.length cc] 51 (0,0)) /\
        wr.ownsRow w5.heap.size 53 5 u1 j cs1/\Rows 5 (CIns (λ x=>w5.heap.size<=x/\some x≠u1.ownBlock) wr) (b.ins.take j) cs1) (λ i _=>b.ins.length - (intOf i).toNat)
       case atStart=>exact ⟨0,.slice none 0 0,[],Nat.zero_le _,rfl,BB.refl _ _ _,wO,World.ownsRow_nil _ _ _ _,rfl⟩
       case round =>
        obtain ⟨j,u1,cs1,hj,rfl,wZ,wm,wh,wk⟩:=hrel;have tj:=wZ.size;have sG:=wZ.kept;(have i1:=sG _ _ ⟨by show wo.heap.size<w5.heap.size;omega,by show wo.heap.size≠gc;omega⟩ y1);have hkI:Kept wo wr:=λ a v h=>by
         have sd:=block_lt_of_cell h;exact sG a v ⟨by omega,by omega⟩ (hkW _ _ h)
        by_cases tL:j<b.ins.length
        ·obtain ⟨bp,op,x,rfl,hx,⟨h0,sx⟩,⟨h1,sw⟩,⟨Aa,ca,hxa,tN⟩,⟨h3,su⟩,⟨h4,ss⟩⟩:=(SInss.keep hkI tw).at_ tL;have hil300:b.ins.length<=300:=tp.1;(have tO:x.args.length<=1000000:=by have:=tp.2.2.2.1 x (Jz hx.out);omega);(have hlx:wo.heap.size<wr.heap.size:=by omega);(go_wp2_with (at_builtin;refine xT rfl _ _ rfl _ _ _ _ _ rfl rfl (q7p wr _ _) (SInts.keep (qAJ wr _ _) tN) rfl tO ?_));(intro v1 c1 wA wl wg hownR hatR;clear hownR hatR);have hsA:=wg.size;simp at hsA;have hbA:Below w5.heap.size wr wA:=(((J5 _ wr).alloc tj _).alloc (by simp;omega) _).grown wg (by simp;omega) (λ k hk=>by have:=J3 hk;omega)
         have hgxA:=vY wg (xG wr _ _) (by omega);have hgcA:=vY wg (q7q wr _ _ _ wm) (by omega);(have sW:gc≠wr.heap.size:=by omega);(have hne':wr.heap.size≠gc:=by omega);have x0:wA.cell? ⟨wr.heap.size,0,none⟩=some (.int .i64 x.op):=q6 hgxA 0;have x1:wA.cell? ⟨wr.heap.size,1,none⟩=some (.int .i64 x.dst):=q6 hgxA 1;have x2:wA.cell? ⟨wr.heap.size,2,none⟩=some (.slice Aa x.args.length ca):=q6 hgxA 2;have x3:wA.cell? ⟨wr.heap.size,3,none⟩=some (.int .i64 x.imm):=q6 hgxA 3;have x4:wA.cell? ⟨wr.heap.size,4,none⟩=some (.int .i64 x.fn):=q6 hgxA 4
         have xf:wA.frozen? ⟨wr.heap.size,2,none⟩=false:=qA hgxA 2;have z1:wA.cell? ⟨gc,1,none⟩=some u1:=q6 hgcA 1;have hownA:wA.ownsRow w5.heap.size 53 5 u1 j cs1:=World.ownsRow.kept (World.ownsRow.alloc (World.ownsRow.alloc wh _) _) wg (q0c wh (by omega));have hownB:(wA.setCell ⟨wr.heap.size,2,none⟩ (.slice v1 x.args.length c1)).ownsRow w5.heap.size 53 5 u1 j cs1:=World.ownsRow.kept hownA (q6y _ _ _) (q0c wh (J4 _));have hgcB:(wA.setCell ⟨wr.heap.size,2,none⟩ (.slice v1 x.args.length c1)).heap[gc]?=_:=(JQ _ _ _ _ sW).trans hgcA;have hbB:Below w5.heap.size wr (wA.setCell ⟨wr.heap.size,2,none⟩ (.slice v1 x.args.length c1)):=hbA.setCell tj _;(go_wp2_with (at_builtin;refine wpList_append_lies _ rfl _ _ _ rfl w5.heap.size 53 i45 (.agg #[.int .i64 0,.int .i64 0,.slice none 0 0,.int .i64 0,.int .i64 0]) 5 56 Tryz.underlying49 wR.out.1 wR.out.2.1 wR.out.2.2.1 wR.out.2.2.2 rfl (by decide) u1 j cs1 rfl (hownB.alloc _) ⟨wA.heap.size,0,none⟩ 1 1 [.int .i64 x.op,.int .i64 x.dst,.slice v1 x.args.length c1,.int .i64 x.imm,.int .i64 x.fn] rfl rfl (zE _ #[.int .i64 x.op,.int .i64 x.dst,.slice v1 x.args.length c1,.int .i64 x.imm,.int .i64 x.fn] _ (by simp)) (by simp [Value.oneCell']) (by decide) (by unfold maxLen;omega) (by omega) (by simp;omega) (wA.heap.size+1) (by simp) ?_));intro g cap wC hownC hgrowC hlocC hltC;have hsC:=hgrowC.size
         simp at hsC;(have hbC:Below w5.heap.size wr wC:=(hbB.alloc (by simp;omega) _).grown hgrowC (by simp;omega) (λ k hk=>(wh.lt k hk).1));have hgcC:wC.heap[gc]?=some (.cells #[.slice A1 b.phis.length d1,u1,.int .i64 b.term.kind,.int .i64 b.term.arg,.slice Ac b.term.to.length cc] 51 (0,0)):=(hbC.block gc tz).trans wm;have zc:wC.cell? ⟨gc,1,none⟩=some u1:=q6 hgcC 1;have zf:wC.frozen? ⟨gc,1,none⟩=false:=qA hgcC 1;obtain ⟨wF,hwF⟩:∃ wF,wF=wC.setCell ⟨gc,1,none⟩ (.slice (some ⟨g,0,none⟩) (j+1) cap):=⟨_,rfl⟩;(have hkC:KeptB (λ y=>y≠gc) wC wF:=by rw [hwF];exact zW wC ⟨gc,1,none⟩ _);have hkF:KeptB (λ y=>(w5.heap.size<=y/\some y≠u1.ownBlock)/\y<wr.heap.size) wr wF :=
          ((((KeptB.of (qAJ wr _ _)).trans ((zU wg).mono (λ y hy=>by intro e;have:=J3 e;omega))).trans ((zW wA ⟨wr.heap.size,2,none⟩ _).mono (λ y hy=>by show y≠wr.heap.size;omega))).trans (KeptB.of (qc _ _))).trans
           (((zU hgrowC).mono (λ y hy=>hy.1.2)).trans (hkC.mono (λ y hy=>by omega)))
         have hkA:KeptB (λ y=>(y=wr.heap.size+1\/y=wr.heap.size+1+1)/\y<wA.heap.size) wA wF :=
          (((zW wA ⟨wr.heap.size,2,none⟩ _).mono (λ y hy=>by show y≠wr.heap.size;omega)).trans (KeptB.of (qc _ _))).trans
           (((zU hgrowC).mono (λ y hy e=>by have:=(wh.lt y e.symm).2;omega)).trans (hkC.mono (λ y hy=>by omega)))
         have wW:SL wA 1 (RIntB (λ y=>(y=wr.heap.size+1\/y=wr.heap.size+1+1)/\y<wA.heap.size)) v1 c1 x.args:=SIntsB.lt (by simpa using wl);have hnewP:CIns (λ y=>w5.heap.size<=y/\some y≠(Value.slice (some ⟨g,0,none⟩) (j+1) cap).ownBlock) wF x [.int .i64 x.op,.int .i64 x.dst,.slice v1 x.args.length c1,.int .i64 x.imm,.int .i64 x.fn] :=
          ⟨v1,c1,rfl,SIntsB.go hkA (λ y hy=>⟨by omega,λ e=>by
           have tg:y=g:=J3 e;rcases hlocC with h | h
           ·have:=(wh.lt g h).2;omega
           ·omega⟩) wW,sx,sw,su,ss⟩
         have hrowsF:=Rows.push (F:=CIns) (λ _ _ _ _ _ _ h1 h2 h3=>CIns.go h1 h2 h3) (λ _ _ _ _ h=>CIns.lt h) wk hkF (u':=.slice (some ⟨g,0,none⟩) (j+1) cap) (λ y h1 h2 h3 e=>by
           have tg:y=g:=J3 e;rcases hlocC with h | h
           ·subst tg;exact h2 h.symm
           ·omega) rfl hnewP
         (have hbbF:BB w5.heap.size gc w5 wF:=by rw [hwF];exact (wZ.trans (BB.of_below hbC (J4 _))).setCell (.inl rfl) _);have hgcF:wF.heap[gc]?=some (.cells #[.slice A1 b.phis.length d1,.slice (some ⟨g,0,none⟩) (j+1) cap,.int .i64 b.term.kind,.int .i64 b.term.arg,.slice Ac b.term.to.length cc] 51 (0,0)):=by
          rw [hwF];exact qK (i:=1) (.slice (some ⟨g,0,none⟩) (j+1) cap) hgcC
         (have hownF:wF.ownsRow w5.heap.size 53 5 (.slice (some ⟨g,0,none⟩) (j+1) cap) (j+1) (cs1++[.int .i64 x.op,.int .i64 x.dst,.slice v1 x.args.length c1,.int .i64 x.imm,.int .i64 x.fn]):=by rw [hwF];exact ownsRow_setCell_below hownC tz _);rw [<- qG hx.out] at hrowsF;have HR:=Jj hrowsF;have HO:=Jj hownF;have HG:=Jj hgcF;have HB:=Jj hbbF;have HW:=Jj hwF;clear hrowsF hownF hgcF hkF hkA hnewP hbbF hkC hwF x0 x1 x2 x3 x4 xf z1 hgxA hgcA hgcB;go_wp2_with fail
         rw [<- HW.out]
         go_roundw
         case rel=>exact ⟨j+1,_,_,by omega,by go_num,HB.out,HG.out,HO.out,HR.out⟩
         case measure=>simp [intOf];omega
        ·(obtain rfl:j=b.ins.length:=by omega);rw [List.take_of_length_le (J4 _)] at wk;have hinv:VS wr 5 (RInsB (λ x=>w5.heap.size<=x)) u1 b.ins:=wk.reads wh (λ g o x c h1 h2 h3 _ h4=>CIns.reads (B:=λ x=>w5.heap.size<=x) h2 (CIns.go (KeptB.of (Kept.refl _)) (λ _ h=>h.1) h3) h4);obtain ⟨A2,d2,rfl,sj⟩:=hinv;have sj:=SInssB.lt sj;clear wh wk;have hl5:=tf.size;have hlr:=wZ.size;have wU:wo.heap.size<=gc:=by omega
         have tK:BB wo.heap.size gc wo wr:=(((BB.of_below sr (J4 _)).trans (BB.of_below sq (by omega))).trans (tf.mono (by omega))).trans (wZ.mono (by omega));have hallB:Below wo.heap.size wo wr:=tK.below (J4 _) wU;have hgoI:wr.heap[go]?=some (.cells #[.int .i64 f.params,.int .i64 f.result,.slice Av f.regs.length cv,u] 30 (0,0)):=(hallB.block go (by omega)).trans tx;have hgrI:wo.grownBy wr (some gc):=⟨hallB.os,hallB.tape,hallB.output,hallB.size,λ k hk _=>hallB.block k hk⟩;have hownI:wr.ownsRow M 51 5 u k cs:=World.ownsRow.kept wM hgrI (q0c wM wU);have o3:wr.cell? ⟨go,3,none⟩=some u:=q6 hgoI 3;have of:wr.frozen? ⟨go,3,none⟩=false:=qA hgoI 3;have c0:wr.cell? ⟨gc,0,none⟩=some (.slice A1 b.phis.length d1):=q6 wm 0;have c1:wr.cell? ⟨gc,1,none⟩=some (.slice A2 b.ins.length d2):=q6 wm 1
         have c2:wr.cell? ⟨gc,2,none⟩=some (.int .i64 b.term.kind):=q6 wm 2;have c3:wr.cell? ⟨gc,3,none⟩=some (.int .i64 b.term.arg):=q6 wm 3;have c4:wr.cell? ⟨gc,4,none⟩=some (.slice Ac b.term.to.length cc):=q6 wm 4;have hn70:f.blocks.length<=70:=tm.1;(go_wp2_with (at_builtin;refine wpList_append_lies _ rfl _ _ _ rfl M 51 i43 (.agg #[.slice none 0 0,.slice none 0 0,.int .i64 0,.int .i64 0,.slice none 0 0]) 5 88 Tryz.underlying28 wT.out.1 wT.out.2.1 wT.out.2.2.1 wT.out.2.2.2 rfl (by decide) u k cs rfl (hownI.alloc _) ⟨wr.heap.size,0,none⟩ 1 1 [.slice A1 b.phis.length d1,.slice A2 b.ins.length d2,.int .i64 b.term.kind,.int .i64 b.term.arg,.slice Ac b.term.to.length cc] rfl rfl (zE wr #[.slice A1 b.phis.length d1,.slice A2 b.ins.length d2,.int .i64 b.term.kind,.int .i64 b.term.arg,.slice Ac b.term.to.length cc] _ rfl) (by simp [Value.oneCell']) (by decide) (by unfold maxLen;omega) (by omega) (by simp;omega) (wr.heap.size+1) (by simp) ?_));intro g cap wC hownC hgrowC hlocC hltC;have hsC:=hgrowC.size;simp at hsC;have hMr:M<=wr.heap.size:=by omega
         (have hbM:Below M wr wC:=((J5 M wr).alloc hMr _).grown hgrowC (by simp;omega) (λ k hk=>(hownI.lt k hk).1));have hbMo:Below M wo wC:=(hallB.mono hMw).trans hbM;have hgoC:wC.heap[go]?=_:=(hbM.block go hgoM).trans hgoI;have z3:wC.cell? ⟨go,3,none⟩=some u:=q6 hgoC 3;have zf:wC.frozen? ⟨go,3,none⟩=false:=qA hgoC 3;obtain ⟨wF,hwF⟩:∃ wF,wF=wC.setCell ⟨go,3,none⟩ (.slice (some ⟨g,0,none⟩) (k+1) cap):=⟨_,rfl⟩;(have hsF:wF.heap.size=wC.heap.size:=by rw [hwF];simp [World.setCell]);(have hkC:KeptB (λ y=>y≠go) wC wF:=by rw [hwF];exact zW wC ⟨go,3,none⟩ _);have hbF:Below w2.heap.size w2 wF:=by
          rw [hwF];exact (tG.trans (hbMo.mono hN2M)).setCell (by show _<=go;omega) _
         have hgoF:wF.heap[go]?=some (.cells #[.int .i64 f.params,.int .i64 f.result,.slice Av f.regs.length cv,.slice (some ⟨g,0,none⟩) (k+1) cap] 30 (0,0)):=by
          rw [hwF];exact qK (i:=3) (.slice (some ⟨g,0,none⟩) (k+1) cap) hgoC
         (have hownF:wF.ownsRow M 51 5 (.slice (some ⟨g,0,none⟩) (k+1) cap) (k+1) (cs++[.slice A1 b.phis.length d1,.slice A2 b.ins.length d2,.int .i64 b.term.kind,.int .i64 b.term.arg,.slice Ac b.term.to.length cc]):=by rw [hwF];exact ownsRow_setCell_below hownC hgoM _);have hregF:SL wF 1 (RIntB (λ b=>(w2.heap.size<=b/\b≠go)/\b<M)) Av cv f.regs :=
          SIntsB.go (((BB.of_below (g:=go) hbMo (J4 _)).kept.trans (hkC.mono (λ y hy=>hy.2))).mono (λ y hy=>⟨hy.2,hy.1.2⟩)) (λ _ h=>h) tq
         have howF:wF.ownsRow w2.heap.size 3 1 (.slice Av f.regs.length cv) f.regs.length (f.regs.map (Value.int .i64)):=jJ wX.out (λ x hx=>by
          rw [hwF]
          exact (JQ _ _ _ _ (show x≠go from λ e=>r8.out (by rw [hx,e]))).trans (hbMo.block x (sQ.out x hx)))
         have sJ:∀ x,u.ownBlock=some x->x<wo.heap.size:=λ x hx=>(wM.lt x hx).2;have hkR:KeptB (λ y=>wo.heap.size<=y/\y<wr.heap.size) wr wF :=
          ((KeptB.of (qc wr _)).trans ((zU hgrowC).mono (λ y hy e=>by have:=sJ y e.symm;omega))).trans (hkC.mono (λ y hy=>by omega))
         have hBg:∀ y,wo.heap.size<=y->y<wr.heap.size->M<=y/\some y≠(Value.slice (some ⟨g,0,none⟩) (k+1) cap).ownBlock:=λ y h1 h2=>⟨by omega,λ e=>by
          have tg:y=g:=J3 e;rcases hlocC with h | h
          ·have:=sJ g h;omega
          ·omega⟩
         have hphF:=SPhisB.go (B':=λ y=>M<=y/\some y≠(Value.slice (some ⟨g,0,none⟩) (k+1) cap).ownBlock) (w':=wF) ((wZ.kept.mono (λ y hy=>⟨hy.2,by omega⟩)).trans (hkR.mono (λ y hy=>⟨by omega,by omega⟩))) (λ y hy=>hBg y (by omega) (by omega)) tY;have hinF:=SInssB.go (B':=λ y=>M<=y/\some y≠(Value.slice (some ⟨g,0,none⟩) (k+1) cap).ownBlock) (w':=wF) (hkR.mono (λ y hy=>⟨by omega,hy.2⟩)) (λ y hy=>hBg y (by omega) hy.2) sj;have htoF:=SIntsB.go (B':=λ y=>M<=y/\some y≠(Value.slice (some ⟨g,0,none⟩) (k+1) cap).ownBlock) (w':=wF) (((tf.kept.mono (λ y hy=>⟨hy.2,hy.1.2⟩)).trans (wZ.kept.mono (λ y hy=>⟨by omega,hy.1.2⟩))).trans (hkR.mono (λ y hy=>⟨by omega,by omega⟩))) (λ y hy=>hBg y (by omega) (by omega)) tC;have hnewB:CBlk (λ y=>M<=y/\some y≠(Value.slice (some ⟨g,0,none⟩) (k+1) cap).ownBlock) wF b [.slice A1 b.phis.length d1,.slice A2 b.ins.length d2,.int .i64 b.term.kind,.int .i64 b.term.arg,.slice Ac b.term.to.length cc] :=
          ⟨_,_,_,_,_,_,rfl,hphF,hinF,htoF,tu,tJ⟩
         have hkF:KeptB (λ y=>(M<=y/\some y≠u.ownBlock)/\y<wo.heap.size) wo wF :=
          (((tK.kept.mono (λ y hy=>⟨hy.2,by omega⟩)).trans (KeptB.of (qc wr _))).trans ((zU hgrowC).mono (λ y hy=>hy.1.2))).trans (hkC.mono (λ y hy=>by omega))
         have hrowsF:=Rows.push (F:=CBlk) (λ _ _ _ _ _ _ h1 h2 h3=>CBlk.go h1 h2 h3) (λ _ _ _ _ h=>CBlk.lt h) wu hkF (u':=.slice (some ⟨g,0,none⟩) (k+1) cap) (λ y h1 h2 h3 e=>by
           have tg:y=g:=J3 e;rcases hlocC with h | h
           ·subst tg;exact h2 h.symm
           ·omega) rfl hnewB
         rw [<- qG hb.out] at hrowsF;(have hMF:M<=wF.heap.size:=by omega);have HR:=Jj hrowsF;have HO:=Jj hownF;have HG:=Jj hgoF;have HB:=Jj hbF;have HE:=Jj hregF;have HQ:=Jj howF;have HW:=Jj hwF
         clear hrowsF hownF hgoF hkF hnewB hbF hkC hwF hregF howF hphF hinF htoF hkR hBg hgoC hbM hbMo hgoI;(go_wp2_with fail);rw [<- HW.out]
         go_roundw
         case rel=>exact ⟨k+1,_,_,by omega,by go_num,HB.out,hMF,HG.out,HE.out,HQ,HO.out,HR.out⟩
         case measure=>simp [intOf];omega
   ·(obtain rfl:k=f.blocks.length:=by omega);rw [List.take_of_length_le (J4 _)] at wu;have sm:VS wo 5 (RBlkB (λ x=>M<=x)) u f.blocks:=wu.reads wM (λ g o x c h1 h2 h3 _ h4=>CBlk.reads (B:=λ x=>M<=x) h2 (CBlk.go (KeptB.of (Kept.refl _)) (λ _ h=>h.1) h3) h4);obtain ⟨A3,d3,rfl,sp⟩:=sm;clear wu wM;have r0:wo.cell? ⟨w.heap.size+1,0,none⟩=some (.int .i64 0):=ta _ _ (tE 0 _ rfl);have r1:wo.cell? ⟨w.heap.size+1,1,none⟩=some (.int .i64 0):=ta _ _ (tE 1 _ rfl);have r2:wo.cell? ⟨w.heap.size+1,2,none⟩=some (.slice none 0 0):=ta _ _ (tE 2 _ rfl);have r3:wo.cell? ⟨w.heap.size+1,3,none⟩=some (.slice none 0 0):=ta _ _ (tE 3 _ rfl)
    have tM:∀ i,wo.frozen? ⟨w.heap.size+1,i,none⟩=false:=λ i=>by
     have h1:=tB i;unfold World.frozen? at h1 ⊢;rw [tG.block _ sF];exact h1
    have r4:=tM 0;have r5:=tM 1;have r6:=tM 2;have r7:=tM 3;have tH:=(tG.block _ sF).trans r9.out;(go_wp2_with fail);clear r0 r1 r2 r3 r4 r5 r6 r7;have hbkF:=qp tH (.int .i64 f.params) (.int .i64 f.result) (.slice Av f.regs.length cv) (.slice A3 f.blocks.length d3);have hkF:=j4 wo (w.heap.size+1) (.int .i64 f.params) (.int .i64 f.result) (.slice Av f.regs.length cv) (.slice A3 f.blocks.length d3)
    have hwF:Below w.heap.size w ((((wo.setCell ⟨w.heap.size+1,0,none⟩ (.int .i64 f.params)).setCell ⟨w.heap.size+1,1,none⟩ (.int .i64 f.result)).setCell ⟨w.heap.size+1,2,none⟩ (.slice Av f.regs.length cv)).setCell ⟨w.heap.size+1,3,none⟩ (.slice A3 f.blocks.length d3)) :=
     ((((hB2.trans (tG.mono (by omega))).setCell (by show _<=w.heap.size+1;omega) _).setCell (by show _<=w.heap.size+1;omega) _).setCell (by show _<=w.heap.size+1;omega) _).setCell (by show _<=w.heap.size+1;omega) _
    have howF:((((wo.setCell ⟨w.heap.size+1,0,none⟩ (.int .i64 f.params)).setCell ⟨w.heap.size+1,1,none⟩ (.int .i64 f.result)).setCell ⟨w.heap.size+1,2,none⟩ (.slice Av f.regs.length cv)).setCell ⟨w.heap.size+1,3,none⟩ (.slice A3 f.blocks.length d3)).ownsRow w2.heap.size 3 1 (.slice Av f.regs.length cv) f.regs.length (f.regs.map (Value.int .i64)) :=
     jJ wX.out (λ x hx=>zb _ (by have:=(wX.out.lt x hx).1;omega) _ _ _ _)
    (have hsF:M<=((((wo.setCell ⟨w.heap.size+1,0,none⟩ (.int .i64 f.params)).setCell ⟨w.heap.size+1,1,none⟩ (.int .i64 f.result)).setCell ⟨w.heap.size+1,2,none⟩ (.slice Av f.regs.length cv)).setCell ⟨w.heap.size+1,3,none⟩ (.slice A3 f.blocks.length d3)).heap.size:=by simpa [World.setCell] using hMw);generalize ((((wo.setCell ⟨w.heap.size+1,0,none⟩ (.int .i64 f.params)).setCell ⟨w.heap.size+1,1,none⟩ (.int .i64 f.result)).setCell ⟨w.heap.size+1,2,none⟩ (.slice Av f.regs.length cv)).setCell ⟨w.heap.size+1,3,none⟩ (.slice A3 f.blocks.length d3))=wF at *;(refine bodyPost_ret (results_cell_row rfl _ _ (w.heap.size+1) 30 #[.int .i64 f.params,.int .i64 f.result,.slice Av f.regs.length cv,.slice A3 f.blocks.length d3] (0,0) _ (by rfl) hbkF Tryz.underlying30 (by rfl) (by obtain ⟨i,h1,_,h3,_⟩:=info_parts Tryz.info30;rw [h1];exact congrArg some h3)) rfl ?_);refine ⟨⟨_,rfl,_,A3,d3,M,rfl,⟨by omega,hsF⟩,vq howF (by omega),sQ.out,?_,⟨Av,cv,rfl,?_⟩,sc,tV⟩,hwF⟩
    ·exact SBlksB.go (hkF.mono (λ y hy=>by omega)) (λ y hy=>hy) sp
    ·exact SIntsB.go (hkF.mono (λ y hy=>by omega)) (λ y hy=>by omega) tq
theorem FCopy.cells {n:Nat} {w:World} {f:qB} {r:Value} (h:FCopy n w f r):∃ c0 c1 c2 c3,r=.agg #[c0,c1,c2,c3]/\CFun (λ b=>n<=b) w f [c0,c1,c2,c3]:=by
 obtain ⟨ur,Ab,cb,Mid,rfl,hM,-,-,h1,⟨Ar,cr,rfl,h2⟩,h3,h4⟩:=h;exact ⟨_,_,_,_,rfl,Ar,cr,Ab,cb,rfl,h2,SBlksB.go (KeptB.of (Kept.refl _)) (λ b hb=>by omega) h1,h3,h4⟩
theorem q2s (f:qB) (v:Value) (w:World) (hv:VFun w v f) (tm:jC f) :
  Calls Tryz.prog 45 #[v] w λ e w'=>(∃ r,e=.returned r/\∃ c0 c1 c2 c3,r=.agg #[c0,c1,c2,c3]/\CFun (λ b=>w.heap.size<=b) w' f [c0,c1,c2,c3])/\Below w.heap.size w w' :=
 (q2r f v w hv tm).mono λ e w' h=>by
  obtain ⟨⟨r,he,hr⟩,hb⟩:=h;exact ⟨⟨r,he,hr.cells⟩,hb⟩
end Go.Proofs.YtfoggldjjnabcaaGreatDoor
