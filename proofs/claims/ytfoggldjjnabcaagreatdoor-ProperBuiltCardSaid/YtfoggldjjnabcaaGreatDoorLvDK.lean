/- The program's goBack. -/
import Derived.Test.YtfoggldjjnabcaaGreatDoorModAK
import Derived.Test.YtfoggldjjnabcaaGreatDoorLvCK
import Derived.BigQuiet
set_option linter.unusedVariables false
set_option linter.unusedSimpArgs false
namespace Go.Proofs.YtfoggldjjnabcaaGreatDoor
open Go.ChangeShapes Go.WideShapes Go.RowKit Go.Deep
theorem q4k (w:World):(sizeOf (Tryz.prog.elem 143)).run Tryz.prog w=.ok 2 w:=by kernel_rfl
theorem q44:Tryz.prog.underlying 143=some (.slice (Tryz.prog.elem 143)):=by kernel_rfl
theorem q85 {w:World} {K:Nat} {v:Value} {op:List (Nat × Nat)} {e:Nat × Nat} (h:w.ownsRow K 201 2 v (op++[e]).length (opF (op++[e]))) :
  ∃ g cap,v=.slice (some ⟨g,0,none⟩) (op.length+1) cap/\w.cell? ⟨g,op.length * 2,none⟩=some (.int .i64 (e.1:Int))/\w.cell? ⟨g,op.length * 2+1,none⟩=some (.int .i64 (e.2:Int))/\op.length+1<=cap/\cap<=maxLen /\
   (∀ W,(Instr.slice 143 (.slice (some ⟨g,0,none⟩) (op.length+1) cap) none (some (.int .i64 op.length)) none).run Tryz.prog W=.ok (.slice (some ⟨g,0,none⟩) op.length cap) W) /\
   w.ownsRow K 201 2 (.slice (some ⟨g,0,none⟩) op.length cap) op.length (opF op):=by
 (have hl:(op++[e]).length=op.length+1:=by simp);rw [hl] at h;have h0:=h;obtain ⟨h1,⟨-,h2⟩ | ⟨g,cap,cur,rfl,hb,hh,hn,hc,hsz,ht⟩⟩:=h
 ·omega
 ·(have hf:(opF op).length=op.length * 2:=by rw [q9h];omega);have hs:opF (op++[e])=opF op++[.int .i64 (e.1:Int),.int .i64 (e.2:Int)]:=q3T op e.1 e.2;refine ⟨g,cap,rfl,?_,?_,hn,hc,λ W=>?_,ownsRow_pop hf (by rw [<- hs];exact h0)⟩
  ·rw [h0.cellAt _ (by omega),hs,List.getElem?_append_right (by omega)];simp [hf]
  ·rw [h0.cellAt _ (by omega),hs,List.getElem?_append_right (by omega)];simp [hf]
  ·rw [run_slice_h W 143 (some ⟨g,0,none⟩) (op.length+1) cap q44 .i64 op.length (by omega) (by omega),q4k];(have tL:cap≠0:=by omega);simp [Result.andThen,sliced,tL,Addr.add]
set_option maxRecDepth 100000 in
set_option maxHeartbeats 8000000 in
theorem q56 (bs:List qE) (Wa:World) (H Ga R K:Nat) (W:World) (vo:Value) (s:LvS) (h:WsM Wa H Ga bs.length R K W vo (mkB bs) (phB bs) s) (hf:FewS bs.length R s) (hn:bs.length<=64) (hR:R<=256)
  (tq:SL Wa 1 RRow (some ⟨Ga,0,none⟩) bs.length (kT bs)) (wj:GotS bs s) (wg:ToldS bs s) :
  Calls Tryz.prog 127 #[.pointer (some ⟨H+4 * (bs.length+1),0,none⟩)] W λ e W'=>e=.returned (.tuple #[])/\∃ vo' s',WsM Wa H Ga bs.length R K W' vo' (mkB bs) (phB bs) s'/\GroS H (H+4 * (bs.length+1)) W W' vo vo'/\GotS bs s'/\ToldS bs s'/\s'.op=[]:=by
 obtain ⟨P,hP⟩:∃ P,H+4 * (bs.length+1)=P:=⟨_,rfl⟩;have HP:=Jj hP;have HM:=Jj h;have HF:=Jj hf;have sf:=Jj tq;have tz:=Jj (And.intro wj wg);have HZ:Hid (Wa.heap.size=H/\H<=P):=Jj ⟨h.hz,by omega⟩;(have hnR:bs.length * R<=16384:=by have:=Nat.mul_le_mul hn hR;omega);have tP:=Jj hnR
 rw [hP];clear h hf tq wj wg hP hnR;(go_enter Tryz.func127,Tryz.ntmps127);(go_wp2_with fail);go_loopg [] (msS bs.length R s) (λ gk wq=>∃ (v':Value) (s':LvS),gk=msS bs.length R s'/\WsM Wa H Ga bs.length R K wq v' (mkB bs) (phB bs) s'/\FewS bs.length R s'/\GotS bs s'/\ToldS bs s'/\GroS H P W wq vo v')
 case atStart=>exact ⟨vo,s,rfl,HM.out,HF.out,tz.out.1,tz.out.2,GroS.refl _ _ _ _⟩
 case round =>
  obtain ⟨v',s',wY,hM,hF,wj,wg,hG⟩:=hrel;obtain ⟨wL,rfl⟩:∃ wL,wL=wr:=⟨_,rfl⟩;obtain ⟨p0,-,-,-,-,p5,p6⟩:=hM.cells HP.out;have tx:=Jj hM;have tY:=Jj hF;have tD:=Jj hG;have tC:=Jj wj;have tr:=Jj wg;have HK:=Jj wY
  rcases List.eq_nil_or_concat s'.op with he | ⟨op,⟨b,r⟩,he⟩
  ·have ho:=hM.op;rw [he] at ho;obtain ⟨Av,cv,hv⟩:=qX ho;rw [hv] at p5;have HE:=Jj he;clear hM hF wj wg hG he ho hv p0 p6 wY;(go_wp2_with fail);(go_end0);exact ⟨rfl,v',s',tx.out,tD.out,tC.out,tr.out,HE.out⟩
  ·rw [List.concat_eq_append] at he;have ho:=hM.op;rw [he] at ho;obtain ⟨g,cap,hv,wV,wU,ta,hcm,wk,ww⟩:=q85 ho;have HE:=Jj he;have tH:op.length<=16384:=by
    have h1:=hF.le;have:=tP.out;rw [he] at h1;simp at h1;omega
   (have tp:b<bs.length/\r<R:=hF.2 (b,r) (by rw [he];simp));rw [hv] at p5;have HV:=Jj hv;have tc:=Jj ww;have wv:=Jj tp;have wM:=Jj wk;(have hgP:P<g:=by have h1:=(ho.lt g (by rw [hv];rfl)).1;have:=hM.hk;have:=HP.out;omega);(have hgS:g<wL.heap.size:=(ho.lt g (by rw [hv];rfl)).2);clear hM hF wj wg hG he ho hv ww tp wk wY
   obtain ⟨lo,wT⟩:∃ lo,op.length=lo:=⟨_,rfl⟩;have tV:=Jj wT;rw [wT] at p5 wV wU ta tH;rw [wT] at wM HV;have ew:IntKind.i64.wrap (lo:Int)=(lo:Int):=Go.IntWalk.i64_in _ (by omega);(have hl0:(0:Int)<=lo:=by omega);(have hl1:(lo:Int)<(lo:Int)+1:=by omega);clear wT;go_upto_region 1 with fail
   refine qS (L:=13) (S:=λ w':World=>w'.cell? ⟨P,5,none⟩=some (.slice (some ⟨g,0,none⟩) (lo+1) cap)/\w'.cell? ⟨g,lo * 2,none⟩=some (.int .i64 (b:Int))/\w'.cell? ⟨g,lo * 2+1,none⟩=some (.int .i64 (r:Int))) (by kernel_rfl) (by rfl) (by kernel_rfl) (by kernel_rfl) ?_;change wpAnyH _ _ _ _ _ _ _ _ (World.drew _);have hS0:wL.drew.cell? ⟨P,5,none⟩=some (.slice (some ⟨g,0,none⟩) (lo+1) cap)/\wL.drew.cell? ⟨g,lo * 2,none⟩=some (.int .i64 (b:Int))/\wL.drew.cell? ⟨g,lo * 2+1,none⟩=some (.int .i64 (r:Int)):=⟨p5,wV,wU⟩;refine tk 0 11 hS0 ?_;simp only [J6,aS,J1,J2];refine tk 1 12 hS0 ?_;simp only [J6,aS,J1,J2];refine tk 2 13 hS0 ?_;simp only [J6,aS,J1,J2]
   refine tk 3 14 hS0 ?_;simp only [J6,aS,J1,J2];refine tk 4 15 hS0 ?_;simp only [J6,aS,J1,J2];refine tk 5 16 hS0 ?_;simp only [J6,aS,J1,J2];refine tk 6 17 hS0 ?_;simp only [J6,aS,J1,J2];refine tk 7 18 hS0 ?_
   simp only [J6,aS,J1,J2];refine tk 8 19 hS0 ?_;simp only [J6,aS,J1,J2];refine tk 9 20 hS0 ?_;simp only [J6,aS,J1,J2];refine tk 10 21 hS0 ?_;simp only [J6,aS,J1,J2];refine tk 11 22 hS0 ?_;simp only [J6,aS,J1,J2]
   refine zk (i:=12) (by kernel_rfl) (λ o ho K' hK=>?_);(simp only [JZ,JX,JY,J0] at ho;subst ho);(go_simp);have wl:Below wL.heap.size wL (wL.alloc (.cells #[.int .i64 0,.int .i64 0] 201)).drew:=((J5 _ wL).alloc (J4 _) _).drew;(have hPW:P<wL.heap.size:=by omega);have hS1:(wL.alloc (.cells #[.int .i64 0,.int .i64 0] 201)).drew.cell? ⟨P,5,none⟩=some (.slice (some ⟨g,0,none⟩) (lo+1) cap)/\(wL.alloc (.cells #[.int .i64 0,.int .i64 0] 201)).drew.cell? ⟨g,lo * 2,none⟩=some (.int .i64 (b:Int))/\(wL.alloc (.cells #[.int .i64 0,.int .i64 0] 201)).drew.cell? ⟨g,lo * 2+1,none⟩=some (.int .i64 (r:Int)) :=
    ⟨(wl.cell (p:=⟨P,5,none⟩) hPW).trans p5,(wl.cell (p:=⟨g,lo * 2,none⟩) hgS).trans wV,(wl.cell (p:=⟨g,lo * 2+1,none⟩) hgS).trans wU⟩
   refine hK.out _ _ hS1 ?_;clear hK K';refine wpAnyH_done (by kernel_rfl) ?_ _;refine vL (by decide) (λ o ho K' hK=>?_);(simp only [JZ,JX,JY,J0] at ho;subst ho);(go_simp);refine hK.out _ _ ?_;clear hK K';obtain ⟨Q,hQ⟩:∃ Q,Q=wL.heap.size:=⟨_,rfl⟩
   obtain ⟨wA,hwA⟩:∃ wA,wA=(wL.alloc (.cells #[.int .i64 (b:Int),.int .i64 (r:Int)] 201)).drew:=⟨_,rfl⟩;(have hbQ:wA.heap[Q]?=some (.cells #[.int .i64 (b:Int),.int .i64 (r:Int)] 201):=by rw [hwA,hQ];exact heap_alloc_new _ _);(have hbelA:Below wL.heap.size wL wA:=by rw [hwA];exact ((J5 _ _).alloc (J4 _) _).drew);have hMA:=tx.out.below hbelA;(have hzA:wA.heap.size=Q+1:=by rw [hwA,hQ];show (wL.alloc _).heap.size=_;simp);have HQ:Hid (Q=wL.heap.size/\wA.heap.size=Q+1/\P<Q):=Jj ⟨hQ,hzA,by omega⟩;have sd:=Jj hbQ;have wR:=Jj hbelA;have tT:=Jj hMA
   (have wO:Hid (wA.ownsRow K 201 2 (.slice (some ⟨g,0,none⟩) lo cap) op.length (opF op)):=Jj (by have h1:=tc.out;rw [tV.out] at h1 ⊢;exact qJ h1 (λ x hx=>hbelA.block x (h1.lt x hx).2)));obtain ⟨-,-,-,-,-,r5,r6⟩:=hMA.cells HP.out;rw [HV.out] at r5;rw [<- hwA,<- hQ];have wk:=wM.out;clear hwA hQ hbQ hbelA hMA hS0 hS1 wl p5 p6 wV wU hzA p0;(go_wp2_with fail);refine qS (L:=14) (S:=λ w':World=>w'.cell? ⟨P,5,none⟩=some (.slice (some ⟨g,0,none⟩) (lo+1) cap)) (by kernel_rfl) (by rfl) (by kernel_rfl) (by kernel_rfl) ?_;change wpAnyH _ _ _ _ _ _ _ _ (World.drew _)
   have hS2:wA.drew.cell? ⟨P,5,none⟩=some (.slice (some ⟨g,0,none⟩) (lo+1) cap):=r5;have tK:wA.drew.frozen? ⟨P,5,none⟩=false:=r6;refine tk 0 23 hS2 ?_;simp only [J6,aS,J1,J2];refine tk 1 24 hS2 ?_;simp only [J6,aS,J1,J2];refine tk 2 25 hS2 ?_;simp only [J6,aS,J1,J2];refine tk 3 26 hS2 ?_
   simp only [J6,aS,J1,J2];refine tk 4 27 hS2 ?_;simp only [J6,aS,J1,J2];refine tk 5 28 hS2 ?_;simp only [J6,aS,J1,J2];refine tk 6 29 hS2 ?_;simp only [J6,aS,J1,J2];refine tk 7 30 hS2 ?_;simp only [J6,aS,J1,J2]
   refine tk 8 31 hS2 ?_;simp only [J6,aS,J1,J2];refine tk 9 32 hS2 ?_;simp only [J6,aS,J1,J2];refine tk 10 33 hS2 ?_;simp only [J6,aS,J1,J2];refine tk 11 34 hS2 ?_;simp only [J6,aS,J1,J2];refine tk 12 35 hS2 ?_
   simp only [J6,aS,J1,J2];refine tk 13 36 hS2 ?_;simp only [J6,aS,J1,J2];refine wpAnyH_done (by kernel_rfl) ?_ _;refine vL (by decide) (λ o ho K' hK=>?_);(simp only [JZ,JX,JY,J0] at ho;subst ho);(go_simp);refine hK.out _ _ ?_;clear hK K'
   obtain ⟨wP,hwP⟩:∃ wP,wP=(wA.setCell ⟨P,5,none⟩ (.slice (some ⟨g,0,none⟩) lo cap)).drew:=⟨_,rfl⟩;have hMP:WsM Wa H Ga bs.length R K wP (.slice (some ⟨g,0,none⟩) lo cap) (mkB bs) (phB bs) ⟨s'.A,s'.E,op⟩:=by
    (have h1:=WsM.setOp tT.out (W7:=wA) (v':=.slice (some ⟨g,0,none⟩) lo cap) (l:=op) ⟨rfl,rfl,rfl,J4 _,λ _ _ _=>rfl,λ x h=>.inl (by rw [HV.out];exact h)⟩ wO.out);rw [HP.out] at h1;rw [hwP];exact h1.below (J5 _ _).drew
   have hbQ:wP.heap[Q]?=some (.cells #[.int .i64 (b:Int),.int .i64 (r:Int)] 201):=by
    rw [hwP];(have h1:(wA.setCell ⟨P,5,none⟩ (.slice (some ⟨g,0,none⟩) lo cap)).heap[Q]?=wA.heap[Q]?:=JQ _ _ _ _ (by have:=HQ.out;show Q≠P;omega));exact h1.trans sd.out
   have hGP:GroS H P W wP vo (.slice (some ⟨g,0,none⟩) lo cap):=by
    rw [hwP];(refine (tD.out.mono wR.out).trans (GroS.trans (b:=wA) (v:=.slice (some ⟨g,0,none⟩) lo cap) ⟨rfl,rfl,rfl,J4 _,λ _ _ _ _=>rfl,λ x h=>.inl (by rw [HV.out];exact h)⟩ ?_));exact (GroS.store wA (.slice (some ⟨g,0,none⟩) lo cap) (p:=⟨P,5,none⟩) (by have:=HZ.out;show H<=P/\P<=P;omega) _).mono (J5 _ _).drew
   have wJ:FewS bs.length R ⟨s'.A,s'.E,op⟩:=by
    have h1:=tY.out;unfold FewS at h1 ⊢;rw [HE.out] at h1;exact ⟨by have:=h1.1;simp at this;show op.length<=q4F bs.length R s'.A;omega,λ x hx=>h1.2 x (by have hx:x∈op:=hx;simp [hx])⟩
   (have wm:msS bs.length R s'=msS bs.length R ⟨s'.A,s'.E,op⟩+1:=by unfold msS;rw [HE.out];simp;omega);have wh:=MidS.start tC.out tr.out HE.out;have tQ:=Jj wm;have tf:=Jj wh;have tg:=Jj wJ;have tB:=Jj hGP;have tu:=Jj hMP;have wu:=Jj hbQ;obtain ⟨t0,-⟩:=hMP.cells HP.out
   have d0:=q6 hbQ 0;obtain ⟨A3,c3,wX,th⟩:=q2G sf.out wv.out.1 (J5 Wa.heap.size Wa);obtain ⟨m,hm⟩:∃ m,(qH bs b).length=m:=⟨_,rfl⟩;(have hm64:m<=64:=by rw [<- hm];have:=vU bs 0 b;unfold qH;omega);have tw:=Jj hm;rw [hm] at wX;(have tG:=q7 (show Below Wa.heap.size Wa wP by rw [HZ.out.1];exact hMP.bel) _ _ wX);have tN:=Jj th;have hb0:(0:Int)<=b:=by omega
   (have hb1:(b:Int)<bs.length:=by have:=wv.out.1;omega);rw [<- hwP];clear hwP hMP hbQ hGP wJ wm wh th wX hm hS2 tK r5 r6 wk;(go_wp2_with fail);(go_quiet (fail));have wW:Below wP.heap.size wP (wP.drewN nq):=below_drewN (J5 _ _) nq;have tS:=Jj (tu.out.below wW);have wQ:Hid ((wP.drewN nq).heap[Q]?=some (.cells #[.int .i64 (b:Int),.int .i64 (r:Int)] 201)):=Jj ((wW.block Q (Array.getElem?_eq_some_iff.1 wu.out).1).trans wu.out);have tW:=Jj (tB.out.mono wW)
   have tO:Hid ((Value.slice (some ⟨g,0,none⟩) lo cap).ownBlock≠some Q):=Jj (λ e=>by
    have e:g=Q:=by injection e
    have:=HQ.out;omega)
   clear wW t0 d0 tG tu wu tB;generalize wP.drewN nq=wC at *;go_wp2_with fail
   go_loopw [46] (λ s46 wq=>∃ (j:Nat) (v2:Value) (s2:LvS),j<=m/\s46=.int .i64 (j:Int)/\WsM Wa H Ga bs.length R K wq v2 (mkB bs) (phB bs) s2/\FewS bs.length R s2/\MidS bs (b,r) j s2/\msS bs.length R s2=msS bs.length R ⟨s'.A,s'.E,op⟩/\GroS H P wC wq (.slice (some ⟨g,0,none⟩) lo cap) v2) (λ s46 _=>m - (intOf s46).toNat)
   case atStart=>exact ⟨0,_,_,Nat.zero_le _,rfl,tS.out,tg.out,tf.out,rfl,GroS.refl _ _ _ _⟩
   case round =>
    obtain ⟨j,v2,s2,hj,rfl,hM,hF,wh,wm,hG⟩:=hrel;have tR:=Jj hM;have tZ:=Jj hF;have tE:=Jj hG;have HDJ:=Jj wh;have tM:=Jj wm
    by_cases tJ:j<m
    ·(have tm:Below Wa.heap.size Wa wr:=by rw [HZ.out.1];exact hM.bel);(obtain ⟨bt,ot,x,rfl,hx,hxc,-⟩:=(SInts.keep (q7 tm) tN.out).int (k:=j) (by rw [tw.out];exact tJ));obtain ⟨q,rfl,hq⟩:=q9C hx.out;(have hbQ2:wr.heap[Q]?=some (.cells #[.int .i64 (b:Int),.int .i64 (r:Int)] 201):=(hG.block Q (Array.getElem?_eq_some_iff.1 wQ.out).1 (by have:=HQ.out;omega) tO.out).trans wQ.out);have d1:=q6 hbQ2 1;have wZ:=q29 Wa H Ga bs.length R K wr v2 (mkB bs) (phB bs) s2 hM hF hn hR q r hq wv.out.2;rw [HP.out] at wZ;have sc:=Jj wZ;have tX:=Jj (hF.atE (mkB bs) (phB bs) hq wv.out.2)
     have sb:=Jj (wh.step wv.out.1 hx.out);have td:=Jj ((q9l (mkB bs) (phB bs) (s:=s2) hq wv.out.2).trans wm);(have hj0:(0:Int)<=j:=by omega);(have hj1:(j:Int)<m:=by omega);clear hM hF hG tm hx hbQ2 wZ wh wm;(go_wp2_with (go_at_call 141;refine sc.out.mono ?_;rintro e w5 ⟨rfl,v3,hM5,hG5⟩));rw [HP.out] at hG5
     go_roundw
     case rel=>exact ⟨j+1,v3,_,by omega,by go_num,hM5,tX.out,by simpa using sb.out,td.out,tE.out.trans hG5⟩
     case measure=>simp [intOf];omega
    ·(obtain rfl:j=m:=by omega);(have tF:=Jj (wh.done (by rw [show ((b,r):Nat × Nat).1=b from rfl,tw.out];exact J4 _)));(have tj:msS bs.length R s2<gk:=by rw [HK.out,tQ.out,tM.out];omega);have tU:=Jj tj;clear hM hF hG wh wm tj;(go_wp2_with fail);go_roundg (msS bs.length R s2)
     case measure=>exact tU.out
     case rel=>exact ⟨v2,s2,rfl,tR.out,tZ.out,tF.out.1,tF.out.2,tW.out.trans tE.out⟩
end Go.Proofs.YtfoggldjjnabcaaGreatDoor
