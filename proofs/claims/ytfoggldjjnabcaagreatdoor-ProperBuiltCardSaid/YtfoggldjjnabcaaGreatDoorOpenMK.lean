/- The reference's Copy: a module in new memory. -/
import Derived.Test.YtfoggldjjnabcaaGreatDoorModAK
import Derived.Test.YtfoggldjjnabcaaGreatDoorCopyK
import Derived.Test.YtfoggldjjnabcaaGreatDoorPrTK
import Derived.Test.YtfoggldjjnabcaaGreatDoorPpYK
import Derived.BigQuiet
import Derived.ProofKit
import Derived.Test.YtfoggldjjnabcaaGreatDoorPrpK
import Derived.ChangeArms
import Derived.FnData
import Derived.LaidLaws
set_option linter.unusedVariables false
set_option linter.unusedSimpArgs false
namespace Go.Proofs.YtfoggldjjnabcaaGreatDoor
open Go.ChangeShapes Go.WideShapes Go.RowKit Go.Deep
theorem q2p {w w':World} {base base' n size:Nat} {e:TypeId} {v:Value} {xs:List Value} (h:w.ownsRow base e size v n xs) (hb:∀ g,v.ownBlock=some g->w'.heap[g]?=w.heap[g]?) (hk:base'<=base):w'.ownsRow base' e size v n xs:=by
 obtain ⟨h1,h2⟩:=h;refine ⟨h1,?_⟩;rcases h2 with h2 | ⟨g,cap,cur,hv,wu,hh,rest⟩
 ·exact .inl h2
 ·exact .inr ⟨g,cap,cur,hv,Nat.le_trans hk wu,(hb g (by rw [hv];rfl)).trans hh,rest⟩
set_option maxRecDepth 100000 in
set_option maxHeartbeats 8000000 in
theorem q8r (m:List qB) (v:Value) (w:World) (hv:VMod w v m) (tj:yF m) :
  Calls Tryz.prog 17 #[v] w λ e w'=>(∃ u cs,e=.returned (.agg #[u])/\w'.ownsRow w.heap.size 30 4 u m.length cs/\Rows 4 (CFun (λ b=>w.heap.size<=b/\some b≠u.ownBlock) w') m cs)/\Below w.heap.size w w':=by
 obtain ⟨A,c,rfl,hm⟩:=hv;have hml:=hm.len;obtain ⟨i25,p1,p2,p3,p4⟩:=info_parts Tryz.info30;have wj:=Jj (And.intro p1 (And.intro p2 (And.intro p3 p4)));clear p1 p2 p3 p4;(go_enter Tryz.func17,Tryz.ntmps17);(go_wp2_with fail);obtain ⟨w1,th,wW,tu,wu,tz,-⟩:=named w #[.slice A m.length c] 24;obtain ⟨w2,wV,tq,ta,tB,-,-⟩:=named w1 #[.slice none 0 0] 24
 obtain ⟨w3,wU,tp,wZ,tf,-,-⟩:=named w2 #[.slice none 0 0] 24;(have wM:w2.heap[w1.heap.size]?=some (.cells #[.slice none 0 0] 24 (0,0)):=by rw [wV];exact heap_alloc_new _ _);(have wl:w3.heap[w2.heap.size]?=some (.cells #[.slice none 0 0] 24 (0,0)):=by rw [wU];exact heap_alloc_new _ _);have wk:w3.heap[w1.heap.size]?=some (.cells #[.slice none 0 0] 24 (0,0)):=(tf.block _ (by omega)).trans wM;have q0:w3.cell? ⟨w.heap.size,0,none⟩=some (.slice A m.length c):=wZ _ _ (ta _ _ (tz 0 _ rfl));have hK:=(tu.trans ta).trans wZ;have hB3:Below w.heap.size w w3:=(wu.trans (tB.mono (by omega))).trans (tf.mono (by omega));rw [<- th,<- wV,<- wU];rw [tq,wW] at wl tp
 rw [wW] at wk;have tL:=Jj wl;have tK:=Jj wk;(have hlw:w.heap.size<w3.heap.size:=by omega);(have tG:w.heap.size+1<w3.heap.size:=by omega);(have wY:w.heap.size+1+1<w3.heap.size:=by omega);clear th wV wU wW tq tp tz tu ta wZ wu tB tf wM wl wk
 go_loopw [4] (λ i wr=>∃ (k:Nat) (u:Value) (cs:List Value),k<=m.length/\i=.int .i64 k/\BB w3.heap.size (w.heap.size+1+1) w3 wr /\
  wr.heap[w.heap.size+1+1]?=some (.cells #[u] 24 (0,0)) /\
  wr.ownsRow w3.heap.size 30 4 u k cs/\Rows 4 (CFun (λ b=>w3.heap.size<=b/\some b≠u.ownBlock) wr) (m.take k) cs) (λ i _=>m.length - (intOf i).toNat)
 case atStart=>exact ⟨0,.slice none 0 0,[],Nat.zero_le _,rfl,BB.refl _ _ _,tL.out,World.ownsRow_nil _ _ _ _,rfl⟩
 case round =>
  obtain ⟨k,u,cs,hk,rfl,wm,tw,wh,wg⟩:=hrel;have tD:=wm.size;have tr:=wm.kept;(have y0:=tr _ _ ⟨by show w.heap.size<w3.heap.size;omega,by show w.heap.size≠w.heap.size+1+1;omega⟩ q0);have hkW:Kept w wr:=λ a v h=>by
   have wX:=block_lt_of_cell h;exact tr a v ⟨by omega,by omega⟩ (hK _ _ h)
  have z0:wr.cell? ⟨w.heap.size+1+1,0,none⟩=some u:=q6 tw 0
  by_cases wX:k<m.length
  ·obtain ⟨bf,of,f,rfl,hf,⟨h0,wQ⟩,⟨h1,wO⟩,⟨Ar,cr,h2,wv⟩,Ab,cb,h3,wJ⟩:=(SFuns.keep hkW hm).at_ wX;have wT:bf<w3.heap.size:=by
    obtain ⟨b',o',f',e',_,⟨h',_⟩,_⟩:=hm.at_ wX;simp only [J0,Addr.mk.injEq] at e';obtain ⟨rfl,rfl,-⟩:=e';have:=block_lt_of_cell h';dsimp only at this;omega
   have tm:jC f:=tj.2 f (Jz hf.out);have tH:=Jj tm;clear tm;(have hj0:(0:Int)<=k:=by omega);(have hj1:(k:Int)<m.length:=by omega);have hm40:m.length<=40:=tj.1;have hS:∀ w',Below w3.heap.size wr w'->w'.cell? ⟨w.heap.size+1+1,0,none⟩=some u/\w'.cell? ⟨w.heap.size,0,none⟩=some (.slice (some ⟨bf,of,none⟩) m.length c) /\
     w'.cell? ⟨bf,of+k * 4,none⟩=some (.int .i64 f.params)/\w'.cell? ⟨bf,of+k * 4+1,none⟩=some (.int .i64 f.result)/\w'.cell? ⟨bf,of+k * 4+2,none⟩=some (.slice Ar f.regs.length cr)/\w'.cell? ⟨bf,of+k * 4+3,none⟩=some (.slice Ab f.blocks.length cb):=λ w' h =>
    ⟨(h.cell (p:=⟨w.heap.size+1+1,0,none⟩) wY).trans z0,(h.cell (p:=⟨w.heap.size,0,none⟩) (by show w.heap.size<w3.heap.size;omega)).trans y0,
     (h.cell (p:=⟨bf,of+k * 4,none⟩) wT).trans h0,(h.cell (p:=⟨bf,of+k * 4+1,none⟩) wT).trans h1,(h.cell (p:=⟨bf,of+k * 4+2,none⟩) wT).trans h2,(h.cell (p:=⟨bf,of+k * 4+3,none⟩) wT).trans h3⟩
   go_wp2_with fail
   refine qS (L:=11) (S:=λ w'=>w'.cell? ⟨w.heap.size+1+1,0,none⟩=some u/\w'.cell? ⟨w.heap.size,0,none⟩=some (.slice (some ⟨bf,of,none⟩) m.length c) /\
     w'.cell? ⟨bf,of+k * 4,none⟩=some (.int .i64 f.params)/\w'.cell? ⟨bf,of+k * 4+1,none⟩=some (.int .i64 f.result)/\w'.cell? ⟨bf,of+k * 4+2,none⟩=some (.slice Ar f.regs.length cr)/\w'.cell? ⟨bf,of+k * 4+3,none⟩=some (.slice Ab f.blocks.length cb)) (by kernel_rfl) (by rfl) (by kernel_rfl) (by kernel_rfl) ?_
   change wpAnyH _ _ _ _ _ _ _ _ (World.drew _);have hS0:=hS wr.drew (J5 _ _).drew;refine tk 0 12 hS0 ?_;simp only [J6,aS,J1,J2];refine tk 1 13 hS0 ?_;simp only [J6,aS,J1,J2];refine tk 2 14 hS0 ?_;simp only [J6,aS,J1,J2];refine tk 3 15 hS0 ?_
   simp only [J6,aS,J1,J2];refine tk 4 16 hS0 ?_;simp only [J6,aS,J1,J2];refine tk 5 17 hS0 ?_;simp only [J6,aS,J1,J2];refine zk (i:=6) (by kernel_rfl) (λ o ho K hK=>?_);(simp only [JZ,JX,JY,J0] at ho;subst ho);(go_simp);refine hK.out _ _ hS0 ?_
   clear hK K;refine zk (i:=7) (by kernel_rfl) (λ o ho K hK=>?_);(simp only [JZ,JX,JY,J0] at ho;subst ho);(go_simp);refine (q2s f _ wr.drew ⟨Ar,cr,Ab,cb,rfl,wv,wJ,wQ,wO⟩ tH.out).mono ?_;rintro e wA ⟨⟨r,rfl,c0,c1,c2,c3,rfl,td⟩,hbA0⟩;have hbA0:Below wr.heap.size wr wA:=(J5 wr.heap.size wr).drew.trans hbA0;have td:CFun (λ b=>wr.heap.size<=b) wA f [c0,c1,c2,c3]:=td;obtain ⟨A1,d1,A2,d2,e,tE,wu,-,-⟩:=td
   simp only [List.cons.injEq,and_true] at e;obtain ⟨rfl,rfl,rfl,rfl⟩:=e;have hsA:=hbA0.size;have hbA:Below w3.heap.size wr wA:=hbA0.mono tD;(go_wp2_with fail);refine hK.out _ _ (hS _ hbA) ?_;clear hK K;refine zk (i:=8) (by kernel_rfl) (λ o ho K hK=>?_);simp only [JZ,JX,JY,J0] at ho;subst ho
   (go_simp);have hbB:Below w3.heap.size wr (wA.alloc (.cells #[.int .i64 f.params,.int .i64 f.result,.slice A1 f.regs.length d1,.slice A2 f.blocks.length d2] 30)):=hbA.alloc (by omega) _;refine hK.out _ _ (hS _ hbB) ?_;clear hK K;refine zk (i:=9) (by kernel_rfl) (λ o ho K hK=>?_);(simp only [JZ,JX,JY,J0] at ho;subst ho);have tc:wr.grownBy wA (some wr.heap.size):=⟨hbA0.os,hbA0.tape,hbA0.output,hbA0.size,λ k hk _=>hbA0.block k hk⟩;have hownA:wA.ownsRow w3.heap.size 30 4 u k cs:=World.ownsRow.kept wh tc (q0c wh (J4 _));refine step_append_lies _ (by rfl) _ _ _ (by rfl) w3.heap.size 30 i25 (.agg #[.int .i64 0,.int .i64 0,.slice none 0 0,.slice none 0 0]) 4 64 Tryz.underlying22 wj.out.1 wj.out.2.1 wj.out.2.2.1 wj.out.2.2.2 rfl (by decide) u k cs (by rfl) (hownA.alloc _)
    ⟨wA.heap.size,0,none⟩ 1 1 [.int .i64 f.params,.int .i64 f.result,.slice A1 f.regs.length d1,.slice A2 f.blocks.length d2] (by rfl) (by rfl) (zE wA #[.int .i64 f.params,.int .i64 f.result,.slice A1 f.regs.length d1,.slice A2 f.blocks.length d2] _ rfl) (by simp [Value.oneCell']) (by decide) (by unfold maxLen;omega) (by omega) (by simp;omega) (wA.heap.size+1) (by simp) ?_
   intro g cap wC hownC hgrowC hlocC hltC;have hsC:=hgrowC.size;simp at hsC;have tx:∀ x,u.ownBlock=some x->x<wr.heap.size:=λ x hx=>(wh.lt x hx).2;(have hbC:Below w3.heap.size wr wC:=hbB.grown hgrowC (by simp;omega) (λ k hk=>(wh.lt k hk).1));have hSC:=hS _ hbC;refine hK.out _ _ hSC ?_;clear hK K;simp only [J6,aS,J1,J2]
   refine tk 10 22 hSC ?_;simp only [J6,aS,J1,J2];refine wpAnyH_done (by kernel_rfl) ?_ _;refine vL (by decide) (λ o ho K hK=>?_);(simp only [JZ,JX,JY,J0] at ho;subst ho);have hgoC:wC.heap[w.heap.size+1+1]?=some (.cells #[u] 24 (0,0)):=(hbC.block _ wY).trans tw;have x0:wC.cell? ⟨w.heap.size+1+1,0,none⟩=some u:=q6 hgoC 0;have xf:wC.frozen? ⟨w.heap.size+1+1,0,none⟩=false:=qA hgoC 0;go_simp
   refine hK.out _ _ ?_;clear hK K;obtain ⟨wF,hwF⟩:∃ wF,wF=wC.setCell ⟨w.heap.size+1+1,0,none⟩ (.slice (some ⟨g,0,none⟩) (k+1) cap):=⟨_,rfl⟩;(have hkC:KeptB (λ y=>y≠w.heap.size+1+1) wC wF:=by rw [hwF];exact zW wC ⟨w.heap.size+1+1,0,none⟩ _);have hkR:KeptB (λ y=>wr.heap.size<=y/\y<wA.heap.size) wA wF :=
    ((KeptB.of (qc wA _)).trans ((zU hgrowC).mono (λ y hy e=>by have:=tx y e.symm;omega))).trans (hkC.mono (λ y hy=>by omega))
   have hBg:∀ y,wr.heap.size<=y->y<wA.heap.size->w3.heap.size<=y/\some y≠(Value.slice (some ⟨g,0,none⟩) (k+1) cap).ownBlock:=λ y h1 h2=>⟨by omega,λ e=>by
    have tg:y=g:=J3 e;rcases hlocC with h | h
    ·have:=tx g h;omega
    ·omega⟩
   have hrF:=SIntsB.go (B':=λ y=>w3.heap.size<=y/\some y≠(Value.slice (some ⟨g,0,none⟩) (k+1) cap).ownBlock) (w':=wF) hkR (λ y hy=>hBg y hy.1 hy.2) (SIntsB.lt tE);have hbF:=SBlksB.go (B':=λ y=>w3.heap.size<=y/\some y≠(Value.slice (some ⟨g,0,none⟩) (k+1) cap).ownBlock) (w':=wF) hkR (λ y hy=>hBg y hy.1 hy.2) (SBlksB.lt wu);have ww:CFun (λ y=>w3.heap.size<=y/\some y≠(Value.slice (some ⟨g,0,none⟩) (k+1) cap).ownBlock) wF f [.int .i64 f.params,.int .i64 f.result,.slice A1 f.regs.length d1,.slice A2 f.blocks.length d2]:=⟨A1,d1,A2,d2,rfl,hrF,hbF,wQ,wO⟩;have hkF:KeptB (λ y=>(w3.heap.size<=y/\some y≠u.ownBlock)/\y<wr.heap.size) wr wF :=
    ((((BB.of_below (g:=w.heap.size+1+1) hbA0 (J4 _)).kept.mono (λ y hy=>⟨hy.2,by omega⟩)).trans (KeptB.of (qc wA _))).trans ((zU hgrowC).mono (λ y hy=>hy.1.2))).trans (hkC.mono (λ y hy=>by omega))
   have hrowsF:=Rows.push (F:=CFun) (λ _ _ _ _ _ _ h1 h2 h3=>CFun.go h1 h2 h3) (λ _ _ _ _ h=>CFun.lt h) wg hkF (u':=.slice (some ⟨g,0,none⟩) (k+1) cap) (λ y h1 h2 h3 e=>by
     have tg:y=g:=J3 e;rcases hlocC with h | h
     ·subst tg;exact h2 h.symm
     ·omega) rfl ww
   (have hbbF:BB w3.heap.size (w.heap.size+1+1) w3 wF:=by rw [hwF];exact (wm.trans (BB.of_below hbC (J4 _))).setCell (.inl rfl) _);have hgoF:wF.heap[w.heap.size+1+1]?=some (.cells #[.slice (some ⟨g,0,none⟩) (k+1) cap] 24 (0,0)):=by
    rw [hwF];exact qK (i:=0) (.slice (some ⟨g,0,none⟩) (k+1) cap) hgoC
   (have hownF:wF.ownsRow w3.heap.size 30 4 (.slice (some ⟨g,0,none⟩) (k+1) cap) (k+1) (cs++[.int .i64 f.params,.int .i64 f.result,.slice A1 f.regs.length d1,.slice A2 f.blocks.length d2]):=by rw [hwF];exact ownsRow_setCell_below hownC wY _);rw [<- qG hf.out] at hrowsF;have HR:=Jj hrowsF;have HO:=Jj hownF;have HG:=Jj hgoF;have HB:=Jj hbbF;rw [<- hwF];clear hrowsF hownF hgoF hkF hkR ww hbbF hkC hwF x0 xf hgoC hrF hbF hBg;go_wp2_with fail
   go_roundw
   case rel=>exact ⟨k+1,_,_,by omega,by go_num,HB.out,HG.out,HO.out,HR.out⟩
   case measure=>simp [intOf];omega
  ·(obtain rfl:k=m.length:=by omega);rw [List.take_of_length_le (J4 _)] at wg;have wR:=(wm.block _ tG (by omega)).trans tK.out;have r0:wr.cell? ⟨w.heap.size+1,0,none⟩=some (.slice none 0 0):=q6 wR 0;have r1:wr.frozen? ⟨w.heap.size+1,0,none⟩=false:=qA wR 0;(have hN1:w.heap.size+1<w3.heap.size:=by omega);rcases wh.2 with ⟨hv,hn⟩ | ⟨g,cap,cur,hv,-⟩
   ·subst hv;have tF:m=[]:=List.length_eq_zero_iff.1 hn;subst tF;clear wg wh;(go_wp2_with fail);have hbkF:(wr.setCell ⟨w.heap.size+1,0,none⟩ (.slice none 0 0)).heap[w.heap.size+1]?=some (.cells #[.slice none 0 0] 24 (0,0)):=qK (i:=0) _ wR;refine bodyPost_ret (results_cell_row rfl _ _ (w.heap.size+1) 24 #[.slice none 0 0] (0,0) _ (by rfl) hbkF Tryz.underlying24 (by rfl) (by kernel_rfl)) rfl ?_;exact ⟨⟨_,[],rfl,World.ownsRow_nil _ _ _ _,rfl⟩,((hB3.trans ((wm.below (m:=w.heap.size) (by omega) (by omega)))).setCell (by show _<=w.heap.size+1;omega) _)⟩
   ·subst hv;have tC:=Jj wh;have tJ:=Jj wg;clear wg wh;(go_wp2_with fail);have hbkF:(wr.setCell ⟨w.heap.size+1,0,none⟩ (.slice (some ⟨g,0,none⟩) m.length cap)).heap[w.heap.size+1]?=some (.cells #[.slice (some ⟨g,0,none⟩) m.length cap] 24 (0,0)):=qK (i:=0) _ wR;refine bodyPost_ret (results_cell_row rfl _ _ (w.heap.size+1) 24 #[.slice (some ⟨g,0,none⟩) m.length cap] (0,0) _ (by rfl) hbkF Tryz.underlying24 (by rfl) (by kernel_rfl)) rfl ?_;refine ⟨⟨_,cs,rfl,?_,?_⟩,((hB3.trans ((wm.below (m:=w.heap.size) (by omega) (by omega)))).setCell (by show _<=w.heap.size+1;omega) _)⟩
    ·exact q2p tC.out (λ x hx=>JQ _ _ _ _ (by have:=(tC.out.lt x hx).1;show x≠w.heap.size+1;omega)) (by omega)
    ·exact Rows.imp (λ x c hx=>CFun.go ((zW wr ⟨w.heap.size+1,0,none⟩ _).mono (λ y hy=>by show y≠w.heap.size+1;have:=hy.1;omega)) (λ y hy=>⟨by have:=hy.1;omega,hy.2⟩) hx) tJ.out
def Says (p:Prop) (B:Nat) (w:World) (e:Ending) (w':World):Prop:=(∃ b:Bool,e=.returned (.bool b)/\(b=true->p))/\Below B w w'
theorem Says.no {p:Prop} {B:Nat} {w w':World} (h:Below B w w'):Says p B w (.returned (.bool false)) w':=⟨⟨false,rfl,λ h=>by cases h⟩,h⟩
set_option maxRecDepth 100000 in
set_option maxHeartbeats 4000000 in
theorem q6O (m:List qB) (v:Value) (w:World) (hv:VMod w v m) :
  Calls Tryz.prog 7 #[v] w (Says (yF m) w.heap.size w):=by
 obtain ⟨A,c,rfl,hm⟩:=hv;have hml:=hm.len
 by_cases h40:40<m.length
 ·(go_enter Tryz.func7,Tryz.ntmps7);(go_wp2_with fail);(go_ret);exact Says.no ((J5 _ _).alloc (J4 _) _)
 ·(go_enter Tryz.func7,Tryz.ntmps7);(go_wp2_with fail);obtain ⟨w1,tu,tG,tV,wX,tm,-⟩:=named w #[.slice A m.length c] 24;have tm:=tm 0 _ rfl;(have tG:w.heap.size<w1.heap.size:=by omega);rw [<- tu];clear tu
  go_loopw [3] (λ i wr=>∃ k:Nat,k<=m.length/\i=.int .i64 k/\Below w1.heap.size w1 wr/\Upto jC m k) (λ i _=>m.length - (intOf i).toNat)
  case atStart=>exact ⟨0,Nat.zero_le _,rfl,J5 _ _,Upto.zero⟩
  case round =>
   obtain ⟨k,hk,rfl,wk,tw⟩:=hrel;obtain ⟨wo,rfl⟩:∃ wo,wo=wr:=⟨wr,rfl⟩;have hs:=wk.size;have tz:Kept w1 wo:=q7 wk;have hbox:=tz _ _ tm;have hB:Below w.heap.size w wo:=wX.trans (wk.mono (by omega))
   by_cases tR:k<m.length
   ·obtain ⟨b,o,f,rfl,hf,⟨hp,-⟩,⟨hr,-⟩,⟨Ar,cr,wZ,wU⟩,⟨Ab,cb,tp,wl⟩⟩:=(SFuns.keep (tV.trans tz) hm).at_ tR;have hrl:=wU.len;have hbl:=wl.len
    by_cases tx:f.blocks.length<=70/\f.regs.length<=300/\f.params<=1000
    ·obtain ⟨tQ,tP,tO⟩:=tx;(go_wp2_with fail);clear hp hr wZ;obtain ⟨w2,tr,tF,tU,wu,tj,-⟩:=named wo #[.int .i64 f.params,.int .i64 f.result,.slice Ar f.regs.length cr,.slice Ab f.blocks.length cb] 30;have tj:=tj 3 _ rfl;(have tF:wo.heap.size<w2.heap.size:=by omega);rw [<- tr];clear tr tp
     go_loopw [5] (λ i wr=>∃ j:Nat,j<=f.blocks.length/\i=.int .i64 j/\Below w2.heap.size w2 wr/\Upto q5Z f.blocks j) (λ i _=>f.blocks.length - (intOf i).toNat)
     case atStart=>exact ⟨0,Nat.zero_le _,rfl,J5 _ _,Upto.zero⟩
     case round =>
      obtain ⟨j,hj,rfl,wg,wT⟩:=hrel;have hs':=wg.size;have wW:Kept w2 wr:=q7 wg;have hbox':=wW _ _ tj;have hB':Below w.heap.size w wr:=hB.trans ((wu.mono (by omega)).trans (wg.mono (by omega)))
      by_cases tf:j<f.blocks.length
      ·obtain ⟨b',o',kb,rfl,tT,⟨Ap,cp,ta,wh⟩,⟨Ai,ci,tg,wj⟩,⟨tS,-⟩,⟨tW,-⟩,⟨At,ct,tD,wY⟩⟩:=(SBlks.keep (tU.trans wW) wl).at_ tf;have hpl:=wh.len;have hil:=wj.len;have htl:=wY.len
       by_cases wV:kb.ins.length<=300/\kb.phis.length<=300/\kb.term.to.length<=70
       ·obtain ⟨tN,tM,tL⟩:=wV;(go_wp2_with fail);clear ta tS tW tD;obtain ⟨w3,tq,tE,tB,wm,th,-⟩:=named wr #[.slice Ap kb.phis.length cp,.slice Ai kb.ins.length ci,.int .i64 kb.term.kind,.int .i64 kb.term.arg,.slice At kb.term.to.length ct] 51;have hc30:=th 0 _ rfl;have hc31:=th 1 _ rfl;(have tE:wr.heap.size<w3.heap.size:=by omega);have hB3:Below w.heap.size w w3:=hB'.trans (wm.mono (by omega));rw [<- tq]
        clear tq tg th;have wO:=SInss.keep tB wj;have ww:=SPhis.keep tB wh;clear wj wh
        go_loopw [7] (λ i wi=>∃ n q:Nat,n<=kb.ins.length/\i=.int .i64 n/\wi=w3.drewN q/\Upto (λ x:qN=>x.args.length<=300) kb.ins n) (λ i _=>kb.ins.length - (intOf i).toNat)
        case atStart=>exact ⟨0,0,Nat.zero_le _,rfl,rfl,Upto.zero⟩
        case round =>
         obtain ⟨n,q,hn,rfl,rfl,wv⟩:=hrel
         by_cases td:n<kb.ins.length
         ·obtain ⟨b3,o3,x,rfl,hx,-,-,⟨Aa,ca,tY,wQ⟩,-,-⟩:=wO.at_ td;have tX:=wQ.len
          by_cases wJ:x.args.length<=300
          ·go_wp2_with fail
           go_roundw
           case rel=>exact ⟨n+1,_,by omega,by go_num,rfl,wv.succ hx.out wJ⟩
           case measure=>simp [intOf];omega
          ·(go_wp2_with fail);(go_ret);exact Says.no (below_drewN hB3 _)
         ·(go_wp2_with fail);have tC:=wv.all (by omega);have tZ:=Jj tC;clear tC wv
          go_loopw [8] (λ i wi=>∃ n q:Nat,n<=kb.phis.length/\i=.int .i64 n/\wi=w3.drewN q/\Upto (λ x:PhiD=>x.args.length<=300) kb.phis n) (λ i _=>kb.phis.length - (intOf i).toNat)
          case atStart=>exact ⟨0,q,Nat.zero_le _,rfl,rfl,Upto.zero⟩
          case round =>
           obtain ⟨n',q',hn',rfl,rfl,wR⟩:=hrel
           by_cases tc:n'<kb.phis.length
           ·obtain ⟨b4,o4,x,rfl,hx,-,⟨Aa,ca,tY,wQ⟩⟩:=ww.at_ tc;have tX:=wQ.len
            by_cases wJ:x.args.length<=300
            ·go_wp2_with fail
             go_roundw
             case rel=>exact ⟨n'+1,_,by omega,by go_num,rfl,wR.succ hx.out wJ⟩
             case measure=>simp [intOf];omega
            ·(go_wp2_with fail);(go_ret);exact Says.no (below_drewN hB3 _)
           ·go_wp2_with fail
            go_roundw
            case rel=>exact ⟨j+1,by omega,by go_num,below_drewN ((wg.trans (wm.mono (by omega)))) _,wT.succ tT.out ⟨tN,tM,tL,tZ.out,wR.all (by omega)⟩⟩
            case measure=>simp [intOf];omega
       ·(have wM:300<kb.ins.length\/300<kb.phis.length\/70<kb.term.to.length:=by omega);clear wV
        by_cases tK:300<kb.ins.length
        ·clear wM;(go_wp2_with fail);all_goals (go_ret;exact Says.no (hB'.alloc (by omega) _))
        ·by_cases tJ:300<kb.phis.length
         ·clear wM;(go_wp2_with fail);all_goals (go_ret;exact Says.no (hB'.alloc (by omega) _))
         ·(have tH:70<kb.term.to.length:=by omega);clear wM;(go_wp2_with fail);all_goals (go_ret;exact Says.no (hB'.alloc (by omega) _))
      ·go_wp2_with fail
       go_roundw
       case rel=>exact ⟨k+1,by omega,by go_num,wk.trans ((wu.mono (by omega)).trans (wg.mono (by omega))),tw.succ hf.out ⟨tQ,tP,tO,wT.all (by omega)⟩⟩
       case measure=>simp [intOf];omega
    ·(have wM:70<f.blocks.length\/300<f.regs.length\/1000<f.params:=by omega);clear tx
     by_cases tK:70<f.blocks.length
     ·clear wM;(go_wp2_with fail);all_goals (go_ret;exact Says.no (hB.alloc (by omega) _))
     ·by_cases tJ:300<f.regs.length
      ·clear wM;(go_wp2_with fail);all_goals (go_ret;exact Says.no (hB.alloc (by omega) _))
      ·(have tH:1000<f.params:=by omega);clear wM;(go_wp2_with fail);all_goals (go_ret;exact Says.no (hB.alloc (by omega) _))
   ·(go_wp2_with fail);(go_ret);exact ⟨⟨true,rfl,λ _=>⟨by omega,tw.all (by omega)⟩⟩,hB⟩
theorem Rows.at4 {α:Type} {F:α->List Value->Prop}:∀ {l:List α} {cs:List Value} {k:Nat} {x:α},Rows 4 F l cs->l[k]?=some x->∃ c0 c1 c2 c3,F x [c0,c1,c2,c3]/\cs[k * 4]?=some c0/\cs[k * 4+1]?=some c1/\cs[k * 4+2]?=some c2/\cs[k * 4+3]?=some c3
 | [],_,_,_,_,h=>by simp at h
 | y::l,cs,k,x,⟨c,r,e,hl,hy,hr⟩,h=>by
  subst e
  match c,hl with
  | [d0,d1,d2,d3],_ =>
   cases k with
   | zero =>
    obtain rfl:=J3 h;exact ⟨d0,d1,d2,d3,hy,rfl,rfl,rfl,rfl⟩
   | succ k =>
    obtain ⟨c0,c1,c2,c3,h0,h1,h2,h3,h4⟩:=Rows.at4 hr (show l[k]?=some x from h);have e:∀ i,([d0,d1,d2,d3]++r)[(k+1) * 4+i]?=r[k * 4+i]?:=λ i=>by
     rw [show (k+1) * 4+i=(k * 4+i)+4 by omega];rfl
    exact ⟨c0,c1,c2,c3,h0,(e 0).trans h1,(e 1).trans h2,(e 2).trans h3,(e 3).trans h4⟩
theorem Rows.set4 {α:Type} {F:α->List Value->Prop} {x:α} {c0 c1 c2 c3:Value} (hx:F x [c0,c1,c2,c3]):∀ {l:List α} {cs:List Value} {k:Nat},Rows 4 F l cs->k<l.length->Rows 4 F (l.set k x) ((((cs.set (k * 4) c0).set (k * 4+1) c1).set (k * 4+2) c2).set (k * 4+3) c3)
 | [],_,_,_,h=>by simp at h
 | y::l,cs,k,⟨c,r,e,hl,hy,hr⟩,h=>by
  subst e
  match c,hl with
  | [d0,d1,d2,d3],_ =>
   cases k with
   | zero=>exact ⟨[c0,c1,c2,c3],r,rfl,rfl,hx,hr⟩
   | succ k =>
    have ih:=Rows.set4 hx hr (show k<l.length by simpa using h);refine ⟨[d0,d1,d2,d3],_,?_,rfl,hy,ih⟩;rw [show (k+1) * 4=k * 4+4 by omega]
    rfl
theorem q9X {m:List qB} {k g cu cr7 cb7:Nat} {gd:qB} {w4 w5 w8 w9:World} {cs:List Value} {Ar7 Ab7:Option Addr} (wg:w5.ownsRow w4.heap.size 30 4 (.slice (some ⟨g,0,none⟩) m.length cu) m.length cs)
  (wh:Rows 4 (CFun (λ b=>w4.heap.size<=b/\some b≠(Value.slice (some ⟨g,0,none⟩) m.length cu).ownBlock) w5) m cs) (wu:Below w4.heap.size w4 w5) (wm:Below w5.heap.size w5 w8) (hk:k<m.length)
  (hV4:VFun w4 (.agg #[.int .i64 gd.params,.int .i64 gd.result,.slice Ar7 gd.regs.length cr7,.slice Ab7 gd.blocks.length cb7]) gd)
  (hw:w9=(((w8.setCell ⟨g,k * 4,none⟩ (.int .i64 gd.params)).setCell ⟨g,k * 4+1,none⟩ (.int .i64 gd.result)).setCell ⟨g,k * 4+2,none⟩ (.slice Ar7 gd.regs.length cr7)).setCell ⟨g,k * 4+3,none⟩ (.slice Ab7 gd.blocks.length cb7)) :
  VMod w9 (.agg #[.slice (some ⟨g,0,none⟩) m.length cu]) (m.set k gd)/\Below w4.heap.size w8 w9:=by
 have wk:=wg.lt g rfl;have own8:=q2p (w':=w8) wg (λ x hx=>wm.block x (wg.lt x hx).2) (J4 _);have own9:w9.ownsRow w4.heap.size 30 4 (.slice (some ⟨g,0,none⟩) m.length cu) m.length ((((cs.set (k * 4) (.int .i64 gd.params)).set (k * 4+1) (.int .i64 gd.result)).set (k * 4+2) (.slice Ar7 gd.regs.length cr7)).set (k * 4+3) (.slice Ab7 gd.blocks.length cb7)):=by
  rw [hw];exact ((((own8.stored (k * 4) (.int .i64 gd.params)).1.stored (k * 4+1) (.int .i64 gd.result)).1.stored (k * 4+2) (.slice Ar7 gd.regs.length cr7)).1.stored (k * 4+3) (.slice Ab7 gd.blocks.length cb7)).1
 have wj:∀ y,y≠g->w9.heap[y]?=w8.heap[y]?:=λ y hy=>by
  rw [hw];exact (((JQ _ _ _ _ hy).trans (JQ _ _ _ _ hy)).trans (JQ _ _ _ _ hy)).trans (JQ _ _ _ _ hy)
 have hK5:KeptB (λ b=>w4.heap.size<=b/\some b≠(Value.slice (some ⟨g,0,none⟩) m.length cu).ownBlock) w5 w9:=λ a x hb ha=>by
  refine (JK ?_).trans ha;exact (wj a.block (λ e=>hb.2 (by rw [e];rfl))).trans (wm.block a.block (block_lt_of_cell ha))
 have hK4:Kept w4 w9:=λ a x ha=>by
  have hl:=block_lt_of_cell ha;refine (JK ?_).trans ha;exact (wj a.block (by omega)).trans ((wm.block a.block (by have:=wu.size;omega)).trans (wu.block a.block hl))
 let F:qB->List Value->Prop:=λ x c=>∃ Ar cr Aq cq,c=[.int .i64 x.params,.int .i64 x.result,.slice Ar x.regs.length cr,.slice Aq x.blocks.length cq]/\SL w9 1 RInt Ar cr x.regs/\SL w9 5 RBlk Aq cq x.blocks/\I64 x.params/\I64 x.result
 have hR0:Rows 4 F m cs:=wh.imp λ x c hx=>by
  obtain ⟨Ar,cr,Aq,cq,e,g1,g2,g3,g4⟩:=hx;exact ⟨Ar,cr,Aq,cq,e,SL.imp (λ b o x hx=>RIntB.plain b o x (RIntB.go hK5 (λ _ h=>h) b o x hx)) g1,SL.imp (λ b o x hx=>RBlkB.plain b o x (RBlkB.go hK5 (λ _ h=>h) b o x hx)) g2,g3,g4⟩
 have wl:F gd [.int .i64 gd.params,.int .i64 gd.result,.slice Ar7 gd.regs.length cr7,.slice Ab7 gd.blocks.length cb7]:=by
  obtain ⟨Ar,cr,Aq,cq,e,g1,g2,g3,g4⟩:=VFun.keep hK4 hV4;simp only [Value.agg.injEq,Array.mk.injEq,List.cons.injEq,Value.slice.injEq,and_true,true_and] at e;obtain ⟨⟨rfl,rfl⟩,rfl,rfl⟩:=e;exact ⟨_,_,_,_,rfl,g1,g2,g3,g4⟩
 have hR:=Rows.set4 wl hR0 hk;have hl:(m.set k gd).length=m.length:=List.length_set
 have hV:VS w9 4 RFun (.slice (some ⟨g,0,none⟩) m.length cu) (m.set k gd):=Rows.reads hR (by rw [hl];exact own9) (λ y o x c h1 h2 hx hl hc=>by
  obtain ⟨Ar,cr,Aq,cq,rfl,g1,g2,g3,g4⟩:=hx
  exact ⟨⟨hc 0 _ rfl,g3⟩,⟨hc 1 _ rfl,g4⟩,⟨Ar,cr,hc 2 _ rfl,g1⟩,⟨Aq,cq,hc 3 _ rfl,g2⟩⟩)
 obtain ⟨A,c,e,hs⟩:=hV;refine ⟨⟨A,c,by rw [e],hs⟩,?_⟩;rw [hw];exact (((J5 _ _).setCell wk.1 _).setCell wk.1 _ |>.setCell wk.1 _).setCell wk.1 _
set_option maxRecDepth 100000 in
set_option maxHeartbeats 16000000 in
theorem q6X (OI:kQ) (m:List qB) (a:Int) (v:Value) (w:World) (hv:VMod w v m) (hG:OfNone w) :
  Calls Tryz.prog 5 #[v,.int .i64 a] w λ e w'=>e=.returned (.bool true)/\Below w.heap.size w w':=by
 have tF:=hv;obtain ⟨Am,cm,rfl,tL⟩:=hv;have hml:=tL.len;have HV:=Jj tF;have tw:=Jj OI;have HG:=Jj hG;clear tF tL OI hG;(go_enter Tryz.func5,Tryz.ntmps5);go_upto_region 1 with fail
 obtain ⟨w1,tE,tV,tM,wm,tN,-⟩:=named w #[.slice Am m.length cm] 24;rw [<- tE];have HU:=Jj (q7f tw.out w1 (HG.out.keep tM));have c0:=tN 0 _ rfl;have tU:=Jj wm;obtain ⟨N,hN⟩:∃ N,N=w.heap.size:=⟨_,rfl⟩;rw [<- hN] at c0 ⊢;have HN:=Jj hN;clear tE tV wm tN tM hN
 (go_wp2_with fail);refine HU.out.mono ?_;rintro e w2 ⟨rfl,tp⟩;have c0:=q7 tp _ _ c0;have tB:Hid (Below w.heap.size w w2):=Jj (tU.out.trans (tp.mono tU.out.size));clear tp HU;(go_wp2_with fail);refine (q6O m _ w2 (VMod.keep (q7 tB.out) HV.out)).mono ?_;rintro e w3 ⟨⟨bs,rfl,td⟩,tm⟩
 have c0:=q7 tm _ _ c0;have ta:Hid (Below w.heap.size w w3):=Jj (tB.out.trans (tm.mono tB.out.size));clear tm;cases bs
 ·clear td;(go_wp2_with fail);(go_ret);exact ⟨rfl,ta.out⟩
 have tu:=Jj (td rfl);clear td;(go_wp2_with fail);refine (q7F tw.out m a _ w3 (VMod.keep (q7 ta.out) HV.out) tu.out).mono ?_;rintro e w4 ⟨⟨vf,ve,rfl,hc⟩,tj⟩;have c0:=q7 tj _ _ c0;have wZ:Hid (Below w.heap.size w w4):=Jj (ta.out.trans (tj.mono ta.out.size));have tx:=Jj hc;clear tj hc
 by_cases ww:ve=.nilIface
 ·obtain ⟨n,f,hn,hf,tc,tf,wv⟩:∃ (n:Nat) (f:qB),a=(n:Int)/\m[n]?=some f/\(v8 m).1=0/\lgB (bdF f)=false/\VFun w4 vf (bdF f):=by
   rcases tx.out with ⟨h,h1,h2⟩ | ⟨-,-,h1,h2⟩ | ⟨hp,n,f,hn,hf,⟨-,h1,h2⟩ | ⟨hl,h1,Ar,cr,Ab,cb,e,g1,g2,g3,g4⟩⟩
   ·obtain ⟨t,x,e⟩:=x7 h2 h;rw [ww] at e;cases e
   ·rw [ww] at h2;cases h2
   ·rw [ww] at h2;cases h2
   ·exact ⟨n,f,hn,hf,hp,hl,Ar,cr,Ab,cb,e,SL.imp RIntB.plain g1,SL.imp RBlkB.plain g2,g3,g4⟩
  subst ww hn;have tK:n<m.length:=(Jk hf).1;(have hn0:(0:Int)<=n:=by omega);(have hn1:(n:Int)<m.length:=by omega);have tR:=Jj (q7H tc hf tf);have wR:=Jj (q91 tc tu.out hf tf);obtain ⟨g,hg⟩:∃ g,g=bdF f:=⟨_,rfl⟩;rw [<- hg] at tR wR wv;clear tc tf hf hg tx
  have tr:=Jj wv;obtain ⟨Ar,cr,Ab,cb,rfl,-,-,-,-⟩:=wv;(go_upto_region 6 with fail);obtain ⟨w5,tD,tH,tg,tP,wM,-⟩:=named w4 #[.int .i64 g.params,.int .i64 g.result,.slice Ar g.regs.length cr,.slice Ab g.blocks.length cb] 30;rw [<- tD];obtain ⟨G,hGG⟩:∃ G,G=w4.heap.size:=⟨_,rfl⟩;rw [<- hGG] at wM tH ⊢;have g0:=wM 0 _ rfl;have g1:=wM 1 _ rfl
  have g2:=wM 2 _ rfl;have g3:=wM 3 _ rfl;have c0:=tg _ _ c0;have wY:Hid (Below w.heap.size w w5):=Jj (wZ.out.trans (tP.mono wZ.out.size));have tq:=Jj (VFun.keep tg tr.out);have tS:=Jj (q8r m _ w5 (VMod.keep (q7 wY.out) HV.out) tu.out);clear tD tH tg tP wM hGG;(go_wp2_with fail);refine tS.out.mono ?_
  rintro e w6 ⟨⟨u,cs,rfl,wj,wh⟩,wW⟩;obtain ⟨q,cu,rfl⟩:∃ q cu,u=.slice (some ⟨q,0,none⟩) m.length cu:=by
   rcases wj.2 with ⟨rfl,h0⟩ | ⟨q,cu,cur,rfl,-⟩
   ·omega
   ·exact ⟨q,cu,rfl⟩
  have wg:∀ i,i<4->∃ y,w6.cell? ⟨q,n * 4+i,none⟩=some y:=λ i hi=>by
   obtain ⟨d0,d1,d2,d3,-,g0,g1,g2,g3⟩:=Rows.at4 wh (Jq tK);have h:=wj.cellAt (n * 4+i) (by omega);rcases i with _ | _ | _ | _ | i
   ·exact ⟨_,h.trans g0⟩
   ·exact ⟨_,h.trans g1⟩
   ·exact ⟨_,h.trans g2⟩
   ·exact ⟨_,h.trans g3⟩
   ·omega
  obtain ⟨y0,x0⟩:=wg 0 (by omega);obtain ⟨y1,x1⟩:=wg 1 (by omega);obtain ⟨y2,x2⟩:=wg 2 (by omega);obtain ⟨y3,x3⟩:=wg 3 (by omega);have x0:w6.cell? ⟨q,n * 4,none⟩=some y0:=x0;have tJ:=wj.lt q rfl;have wJ:=q7 wW;have c0:=wJ _ _ c0;have g0:=wJ _ _ g0
  have g1:=wJ _ _ g1;have g2:=wJ _ _ g2;have g3:=wJ _ _ g3;have tT:Hid (Below w.heap.size w w6):=Jj (wY.out.trans (wW.mono wY.out.size));have sc:=Jj wW;have wu:=Jj wj;have wT:=Jj wh;have tX:=Jj tJ;clear wW wj wh wg wJ tS tJ
  (go_upto_region 9 with fail);obtain ⟨w7,tC,tG,wk,wV,th,-⟩:=named w6 #[.slice (some ⟨q,0,none⟩) m.length cu] 24;rw [<- tC];obtain ⟨T,hT⟩:∃ T,T=w6.heap.size:=⟨_,rfl⟩;rw [<- hT] at th tG ⊢;have t0:=th 0 _ rfl;have c0:=wk _ _ c0;have g0:=wk _ _ g0;have g1:=wk _ _ g1
  have g2:=wk _ _ g2;have g3:=wk _ _ g3;have x0:=wk _ _ x0;have x1:=wk _ _ x1;have x2:=wk _ _ x2;have x3:=wk _ _ x3;have own7:=q2p (w':=w7) wu.out (λ x hx=>wV.block x (wu.out.lt x hx).2) (J4 _);have f0:=own7.frozenAt (n * 4);have f1:=own7.frozenAt (n * 4+1)
  have f2:=own7.frozenAt (n * 4+2);have f3:=own7.frozenAt (n * 4+3);have hq7:q<w7.heap.size:=(own7.lt q rfl).2;have tZ:Hid (Below w.heap.size w w7):=Jj (tT.out.trans (wV.mono tT.out.size));have sb:=Jj wV;(have wX:Hid (T≠q):=Jj (by have:=tX.out.2;omega));have tW:Hid (w7.cell? ⟨T,0,none⟩=some (.slice (some ⟨q,0,none⟩) m.length cu)):=Jj t0;clear tC tG wk wV th hT own7;go_upto_region 10 with fail
  obtain ⟨w8,wU⟩:∃ w8,w8=(((w7.setCell ⟨q,n * 4,none⟩ (.int .i64 g.params)).setCell ⟨q,n * 4+1,none⟩ (.int .i64 g.result)).setCell ⟨q,n * 4+2,none⟩ (.slice Ar g.regs.length cr)).setCell ⟨q,n * 4+3,none⟩ (.slice Ab g.blocks.length cb):=⟨_,rfl⟩;rw [<- wU];obtain ⟨wO,wQ⟩:=q9X wu.out wT.out sc.out sb.out tK tq.out wU;have wl:w8.heap[T]?=w7.heap[T]?:=by
   rw [wU];exact (((JQ _ _ _ _ wX.out).trans (JQ _ _ _ _ wX.out)).trans (JQ _ _ _ _ wX.out)).trans (JQ _ _ _ _ wX.out)
  have t0:w8.cell? ⟨T,0,none⟩=some (.slice (some ⟨q,0,none⟩) m.length cu):=(JK (a:=⟨T,0,none⟩) wl).trans tW.out;have tz:Hid (Below w.heap.size w w8):=Jj (tZ.out.trans (wQ.mono wY.out.size));have tQ:=Jj (q0x tw.out (m.set n g) ((n:Nat):Int) _ w8 wO wR.out (HG.out.keep (q7 tz.out)));clear wU wO wQ wl c0 g0 g1 g2 g3 x0 x1 x2 x3 f0 f1 f2 f3;(go_wp2_with fail);refine tQ.out.mono ?_;rintro e w9 ⟨⟨ve,rfl,hc⟩,tO⟩;rw [tR.out] at hc;obtain rfl:=hc.nil rfl
  have tY:Hid (Below w.heap.size w w9):=Jj (tz.out.trans (tO.mono tz.out.size));clear hc tO tQ;(go_wp2_with fail);(go_ret);exact ⟨rfl,tY.out⟩
 ·obtain ⟨wv,t,x,rfl⟩:vf=q0U/\∃ t x,ve=.iface t x:=by
   rcases tx.out with ⟨h,h1,h2⟩ | ⟨-,-,h1,h2⟩ | ⟨-,n,f,-,-,⟨-,h1,h2⟩ | ⟨-,h1,-⟩⟩
   ·exact ⟨h1,x7 h2 h⟩
   ·exact ⟨h1,_,_,h2⟩
   ·exact ⟨h1,_,_,h2⟩
   ·exact absurd h1 ww
  unfold q0U at wv;subst wv;clear ww;(go_wp2_with fail);(go_ret);exact ⟨rfl,wZ.out.alloc wZ.out.size _⟩
section
variable {H:Type} {enc:TypeId × Value->H} {P:Program} {w:World} {base:Nat} {spare:Nat->Bool} {wg:Bool}
theorem yV {t:TypeId} {fs:Array Field} {fuel:Nat} {cs:List Value} {y:DataW H × List MemPlace} (ht:P.underlying t=some (.struct fs)) (h:DataW.trod enc P w base spare wg fuel t cs=some y)
  (i:Nat) (f:Field) (hf:fs[i]?=some f):∃ n z,DataW.trod enc P w base spare wg n f.type ((cs.drop f.offset).take (P.cellsOf f.type))=some z:=by
 obtain ⟨xs,n,_,_,_,wj,hx⟩:=DataW.trod_struct ht h;(have hi:i<xs.length:=by rw [wj];exact (Array.getElem?_eq_some_iff.1 hf).1);exact ⟨n,xs[i],(hx i f hf).trans (Jq hi)⟩
theorem x6 {t:TypeId} {fs:Array Field} {fuel:Nat} {cs:List Value} {y:DataW H × List MemPlace} (ht:P.underlying t=some (.struct fs)) (h:DataW.trod enc P w base spare wg fuel t cs=some y)
  (i:Nat) {f:Field} (hf:fs[i]?=some f) {t':TypeId} {c k:Nat} (wh:f.type=t') (hk:f.offset=k) (hc:P.cellsOf t'=c):∃ n z,DataW.trod enc P w base spare wg n t' ((cs.drop k).take c)=some z:=by
 subst wh hk hc;exact yV ht h i f hf
theorem jB {cs:List Value} {k:Nat} (hk:k<cs.length):(cs.drop k).take 1=[cs[k]]:=by
 rw [List.drop_eq_getElem_cons hk];rfl
theorem q1v {t:TypeId} {n k:Nat} {cs:List Value} {z:DataW H × List MemPlace} (ht:P.underlying t=some (.int .i64)) (hk:k<cs.length) (h:DataW.trod enc P w base spare wg n t ((cs.drop k).take 1)=some z) :
  ∃ x,cs[k]?=some (.int .i64 x)/\I64 x:=by
 rw [jB hk] at h;obtain ⟨x,hx,_,hw⟩:=DataW.trod_int ht h;exact ⟨x,by rw [Jq hk];exact congrArg some (List.cons.inj hx).1,q7Z hw⟩
theorem yH {α:Type} [Inhabited α] {t e:TypeId} {sz:Nat} {R:World->Nat->Nat->α->Prop} {n k:Nat} {cs:List Value} {z:DataW H × List MemPlace} (ht:P.underlying t=some (.slice e)) (wl:P.cellsOf e=sz) (wk:0<sz)
  (hR:q1I enc P w base spare wg e sz R) (hk:k<cs.length) (h:DataW.trod enc P w base spare wg n t ((cs.drop k).take 1)=some z):∃ A c xs,cs[k]?=some (.slice A xs.length c)/\SL w sz R A c xs:=by
 rw [jB hk] at h;obtain ⟨xs,A,c,e,hs⟩:=q9g ht wl wk hR h;exact ⟨A,c,xs,by rw [Jq hk,e],hs⟩
end
theorem Tryz.cells3:Tryz.prog.cellsOf 3=1:=by kernel_rfl
theorem Tryz.cells2:Tryz.prog.cellsOf 2=1:=by kernel_rfl
theorem Tryz.cells27:Tryz.prog.cellsOf 27=1:=by kernel_rfl
section
variable {H:Type} {enc:TypeId × Value->H} {w:World} {base:Nat} {spare:Nat->Bool} {wg:Bool}
theorem q6b:q1I enc Tryz.prog w base spare wg 3 1 RInt:=λ n b o cs y wj wm h=>by
 obtain ⟨x,rfl,_,hw⟩:=DataW.trod_int Tryz.underlying3 h;exact ⟨x,(wm 0 (by omega)).trans rfl,q7Z hw⟩
theorem vZ {fs:Array Field} {t:TypeId} {fuel:Nat} {cs:List Value} {y:DataW H × List MemPlace} (ht:Tryz.prog.underlying t=some (.struct fs)) (h:DataW.trod enc Tryz.prog w base spare wg fuel t cs=some y)
  (i:Nat) (f:Field) (hf:fs[i]?=some f) (wh:f.type=3) (hk:f.offset<cs.length):∃ x,cs[f.offset]?=some (.int .i64 x)/\I64 x:=by
 obtain ⟨n,z,hz⟩:=yV ht h i f hf;rw [wh,Tryz.cells3] at hz;exact q1v Tryz.underlying3 hk hz
theorem q40 {fs:Array Field} {t:TypeId} {fuel:Nat} {cs:List Value} {y:DataW H × List MemPlace} (ht:Tryz.prog.underlying t=some (.struct fs)) (h:DataW.trod enc Tryz.prog w base spare wg fuel t cs=some y)
  (i:Nat) (f:Field) (hf:fs[i]?=some f) (wh:f.type=2) (hk:f.offset<cs.length):∃ x,cs[f.offset]?=some (.int .i64 x)/\I64 x:=by
 obtain ⟨n,z,hz⟩:=yV ht h i f hf;rw [wh,Tryz.cells2] at hz;exact q1v Tryz.underlying2 hk hz
theorem ja {fs:Array Field} {t:TypeId} {fuel:Nat} {cs:List Value} {y:DataW H × List MemPlace} (ht:Tryz.prog.underlying t=some (.struct fs)) (h:DataW.trod enc Tryz.prog w base spare wg fuel t cs=some y)
  (i:Nat) (f:Field) (hf:fs[i]?=some f) (wh:f.type=27) (hk:f.offset<cs.length):∃ A c,∃ xs:List Int,cs[f.offset]?=some (.slice A xs.length c)/\SL w 1 RInt A c xs:=by
 obtain ⟨n,z,hz⟩:=yV ht h i f hf;rw [wh,Tryz.cells27] at hz;exact yH Tryz.underlying27 Tryz.cells3 (by omega) q6b hk hz
end
end Go.Proofs.YtfoggldjjnabcaaGreatDoor

namespace Go.Proofs.YtfoggldjjnabcaaGreatDoor
open Go.ChangeShapes Go.WideShapes Go.RowKit Go.Deep
theorem Tryz.ofNoneAt:Tryz.prog.globalNamed "fettle/proper.ofNone"=some 1:=by kernel_rfl
theorem Tryz.ofNoneTy:(Tryz.prog.globals[1]?).map (·.type)=some 90:=by kernel_rfl
theorem Tryz.cells190:Tryz.prog.cellsOf 90=2:=by kernel_rfl
theorem Tryz.cells13:Tryz.prog.cellsOf 3=1:=by kernel_rfl
theorem q88 {W:World} {l:List (String × DataW Unit)} {ps:List MemPlace} (h:DataW.LaidVars Tryz.prog W (("fettle/proper.ofNone",.agg [.lit (.int .i64 (-1)),.lit (.int .i64 (-2))])::l) ps):OfNone W:=by
 obtain ⟨g,t,cs,fuel,p,q,h1,h2,h3,h4,-,-⟩:=h;obtain rfl:=J3 (Tryz.ofNoneAt.symm.trans h1);obtain rfl:=J3 (Tryz.ofNoneTy.symm.trans h2);obtain ⟨xs,n,-,hx,wh,hsz,hf⟩:=DataW.trod_struct Tryz.underlying90 h4;rw [Tryz.cells190] at wh;have wk:xs.map (·.1)=[.lit (.int .i64 (-1)),.lit (.int .i64 (-2))]:=by
  have:=congrArg Prod.fst hx;injection this with this;exact this.symm
 have wm:∀ (i:Nat) (z:Int),i<2->(∀ y,xs[i]?=some y->y.1=(.lit (.int .i64 z):DataW Unit))->DataW.trod (λ _=>()) Tryz.prog W 0 (λ _=>true) false n 3 ((cs.toList.drop i).take (Tryz.prog.cellsOf 3))=xs[i]?->W.cell? ⟨1,i,none⟩=some (.int .i64 z):=by
  intro i z hi hy wg;rw [Tryz.cells13] at wg;(have hk:i<cs.toList.length:=by rw [wh];exact hi);rw [jB hk] at wg;have wl:i<xs.length:=by
   have:=congrArg List.length wk;rw [List.length_map] at this;simp at this;omega
  rw [Jq wl] at wg;obtain ⟨x,ww,wv,-⟩:=DataW.trod_int Tryz.underlying3 wg;have:=hy _ (Jq wl);rw [wv] at this;(have wu:x=z:=by injection this with this;injection this);rw [World.var?_cell Tryz.ofNoneAt h3 i];(have:cs[i]?=cs.toList[i]?:=by simp);rw [this,Jq hk];rw [(List.cons.inj ww).1,wu]
 have wj:∀ (i:Nat) (z:Int),([.lit (.int .i64 (-1)),.lit (.int .i64 (-2))]:List (DataW Unit))[i]?=some (.lit (.int .i64 z))->∀ y,xs[i]?=some y->y.1=(.lit (.int .i64 z):DataW Unit):=λ i z hz y hy=>by
  rw [<- wk,List.getElem?_map,hy] at hz;exact J3 hz
 exact ⟨wm 0 (-1) (by omega) (wj 0 _ rfl) (hf 0 _ rfl),wm 1 (-2) (by omega) (wj 1 _ rfl) (hf 1 _ rfl)⟩
theorem Tryz.cells48:Tryz.prog.cellsOf 48=1:=by kernel_rfl
theorem Tryz.cells49:Tryz.prog.cellsOf 49=1:=by kernel_rfl
theorem Tryz.cells28:Tryz.prog.cellsOf 28=1:=by kernel_rfl
theorem Tryz.cells22:Tryz.prog.cellsOf 22=1:=by kernel_rfl
theorem Tryz.cells55:Tryz.prog.cellsOf 55=2:=by kernel_rfl
theorem Tryz.cells53:Tryz.prog.cellsOf 53=5:=by kernel_rfl
theorem Tryz.cells47:Tryz.prog.cellsOf 47=3:=by kernel_rfl
theorem Tryz.cells51:Tryz.prog.cellsOf 51=5:=by kernel_rfl
theorem Tryz.cells30:Tryz.prog.cellsOf 30=4:=by kernel_rfl
theorem Tryz.cells24:Tryz.prog.cellsOf 24=1:=by kernel_rfl
section
variable {H:Type} {enc:TypeId × Value->H} {w:World} {base:Nat} {spare:Nat->Bool} {wh:Bool}
theorem q6a:q1I enc Tryz.prog w base spare wh 55 2 RPhi:=λ n b o cs y wj wg h=>by
 (obtain ⟨x,h0,w0⟩:=vZ Tryz.underlying55 h 0 _ rfl rfl (by simp;omega));(obtain ⟨A,c,xs,h1,w1⟩:=ja Tryz.underlying55 h 1 _ rfl rfl (by simp;omega));exact ⟨⟨x,xs⟩,⟨(wg 0 (by omega)).trans h0,w0⟩,A,c,(wg 1 (by omega)).trans h1,w1⟩
theorem q6c:q1I enc Tryz.prog w base spare wh 53 5 RIns:=λ n b o cs y wj wg h=>by
 (obtain ⟨x0,h0,w0⟩:=vZ Tryz.underlying53 h 0 _ rfl rfl (by simp;omega));(obtain ⟨x1,h1,w1⟩:=vZ Tryz.underlying53 h 1 _ rfl rfl (by simp;omega));(obtain ⟨A,c,xs,h2,w2⟩:=ja Tryz.underlying53 h 2 _ rfl rfl (by simp;omega));(obtain ⟨x3,h3,w3⟩:=q40 Tryz.underlying53 h 3 _ rfl rfl (by simp;omega));(obtain ⟨x4,h4,w4⟩:=vZ Tryz.underlying53 h 4 _ rfl rfl (by simp;omega));exact ⟨⟨x0,x1,xs,x3,x4⟩,⟨(wg 0 (by omega)).trans h0,w0⟩,⟨(wg 1 (by omega)).trans h1,w1⟩,⟨A,c,(wg 2 (by omega)).trans h2,w2⟩,⟨(wg 3 (by omega)).trans h3,w3⟩,⟨(wg 4 (by omega)).trans h4,w4⟩⟩
theorem q6e:q1I enc Tryz.prog w base spare wh 51 5 RBlk:=λ n b o cs y wj wg h=>by
 obtain ⟨n0,z0,wv⟩:=x6 Tryz.underlying51 h 0 rfl rfl rfl Tryz.cells48;(obtain ⟨A0,c0,ps,h0,w0⟩:=yH Tryz.underlying48 Tryz.cells55 (by omega) q6a (by simp;omega) wv);obtain ⟨n1,z1,wu⟩:=x6 Tryz.underlying51 h 1 rfl rfl rfl Tryz.cells49;(obtain ⟨A1,c1,is,h1,w1⟩:=yH Tryz.underlying49 Tryz.cells53 (by omega) q6c (by simp;omega) wu);obtain ⟨n2,z2,wl⟩:=x6 Tryz.underlying51 h 2 rfl rfl rfl Tryz.cells47;(have hl2:((cs.drop 2).take 3).length=3:=by simp;omega);(obtain ⟨x2,h2,w2⟩:=vZ Tryz.underlying47 wl 0 _ rfl rfl (by simp;omega));(obtain ⟨x3,h3,w3⟩:=vZ Tryz.underlying47 wl 1 _ rfl rfl (by simp;omega));obtain ⟨A4,c4,xs,h4,w4⟩:=ja Tryz.underlying47 wl 2 _ rfl rfl (by simp;omega)
 (have g (i:Nat) (hi:i<3):((cs.drop 2).take 3)[i]?=cs[2+i]?:=by rw [List.getElem?_take_of_lt hi,List.getElem?_drop]);exact ⟨⟨ps,is,⟨x2,x3,xs⟩⟩,⟨A0,c0,(wg 0 (by omega)).trans h0,w0⟩,⟨A1,c1,(wg 1 (by omega)).trans h1,w1⟩,⟨(wg 2 (by omega)).trans ((g 0 (by omega)).symm.trans h2),w2⟩,⟨(wg 3 (by omega)).trans ((g 1 (by omega)).symm.trans h3),w3⟩,⟨A4,c4,(wg 4 (by omega)).trans ((g 2 (by omega)).symm.trans h4),w4⟩⟩
theorem q6d:q1I enc Tryz.prog w base spare wh 30 4 RFun:=λ n b o cs y wj wg h=>by
 (obtain ⟨x0,h0,w0⟩:=vZ Tryz.underlying30 h 0 _ rfl rfl (by simp;omega));(obtain ⟨x1,h1,w1⟩:=vZ Tryz.underlying30 h 1 _ rfl rfl (by simp;omega));(obtain ⟨A2,c2,xs,h2,w2⟩:=ja Tryz.underlying30 h 2 _ rfl rfl (by simp;omega));obtain ⟨n3,z3,wk⟩:=x6 Tryz.underlying30 h 3 rfl rfl rfl Tryz.cells28;(obtain ⟨A3,c3,bs,h3,w3⟩:=yH Tryz.underlying28 Tryz.cells51 (by omega) q6e (by simp;omega) wk);exact ⟨⟨x0,x1,xs,bs⟩,⟨(wg 0 (by omega)).trans h0,w0⟩,⟨(wg 1 (by omega)).trans h1,w1⟩,⟨A2,c2,(wg 2 (by omega)).trans h2,w2⟩,⟨A3,c3,(wg 3 (by omega)).trans h3,w3⟩⟩
set_option maxRecDepth 100000 in
theorem qBo {r:Go.Reach} {b0:Nat} {v:Value} {d:DataW H} {p:List MemPlace} (hv:Value.okWide Tryz.prog w r b0 24 v) (h:DataW.Trod enc Tryz.prog w base spare wh 24 v d p):∃ m,VMod w v m:=by
 obtain ⟨cs,rfl,wm⟩:=okWide_struct Tryz.underlying24 hv;rw [Tryz.cells24] at wm;obtain ⟨l⟩:=cs
 match l,wm with
 | [a],_ =>
  obtain ⟨fuel,hf⟩:=h;have hf:DataW.trod enc Tryz.prog w base spare wh fuel 24 [a]=some (_,p):=hf;obtain ⟨n3,z3,wk⟩:=x6 Tryz.underlying24 hf 0 rfl rfl rfl Tryz.cells22;obtain ⟨A3,c3,bs,h3,w3⟩:=yH Tryz.underlying22 Tryz.cells30 (by omega) q6d (by simp) wk;obtain rfl:=J3 h3;exact ⟨bs,A3,c3,rfl,w3⟩
end
end Go.Proofs.YtfoggldjjnabcaaGreatDoor
