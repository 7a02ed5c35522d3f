/- The program's wantsOf. -/
import Derived.Test.YtfoggldjjnabcaaGreatDoorModAK
import Derived.Test.YtfoggldjjnabcaaGreatDoorLvCK
import Derived.Test.YtfoggldjjnabcaaGreatDoorLvDK
import Derived.Test.YtfoggldjjnabcaaGreatDoorChkDK
import Derived.BigQuiet
import Derived.Test.YtfoggldjjnabcaaGreatDoorLimK
import Derived.Test.YtfoggldjjnabcaaGreatDoorPrTK
import Derived.Test.YtfoggldjjnabcaaGreatDoorPpIK
import Derived.Test.YtfoggldjjnabcaaGreatDoorLtDK
import Derived.Test.YtfoggldjjnabcaaGreatDoorSsIK
import Derived.Test.YtfoggldjjnabcaaGreatDoorLvSK
set_option linter.unusedVariables false
set_option linter.unusedSimpArgs false
namespace Go.Proofs.YtfoggldjjnabcaaGreatDoor
open Go.ChangeShapes Go.WideShapes Go.RowKit Go.Deep
section
variable {Wa:World} {H Ga n R K:Nat} {W W':World} {vo:Value} {mk ph:Nat->Nat->Bool} {s:LvS}
theorem WsM.frame (h:WsM Wa H Ga n R K W vo mk ph s) (h1:W'.os=W.os) (h2:W'.tape=W.tape) (h3:W'.output=W.output) (h4:W.heap.size<=W'.heap.size) (hb:∀ y,y<=H+4 * (n+1)->W'.heap[y]?=W.heap[y]?) (ho:∀ g,vo.ownBlock=some g->W'.heap[g]?=W.heap[g]?):WsM Wa H Ga n R K W' vo mk ph s :=
 ⟨h.hz,h.hk,(hb _ (J4 _)).trans h.box,h.g1.of_blocks λ y _ hy=>hb y (by omega),h.g2.of_blocks λ y _ hy=>hb y (by omega),h.g3.of_blocks λ y _ hy=>hb y (by omega),h.g4.of_blocks λ y _ hy=>hb y (by omega),
  qJ h.op ho,h.bel.trans ⟨h1,h2,h3,h4,λ y hy=>hb y (by omega)⟩,Nat.le_trans h.kw h4⟩
theorem WsM.row1 (h:WsM Wa H Ga n R K W vo mk ph s) {i:Nat} (hi:i<n) (hf:FrX (λ b=>b=H+1+i) W W') {m:Nat->Bool} (hr:W'.rowIs (H+1+i) 4 R (λ r=>.bool (m r))):WsM Wa H Ga n R K W' vo (λ b r=>if b=i then m r else mk b r) ph s:=by
 have hP:H+4 * (n+1)<W.heap.size:=(Array.getElem?_eq_some_iff.1 h.box).1;have hs:∀ y,y<=H+4 * (n+1)->y≠H+1+i->W'.heap[y]?=W.heap[y]?:=λ y h1 h2=>hf.block y (by omega) h2;have hk:=h.hk
 refine ⟨h.hz,h.hk,(hs _ (J4 _) (by omega)).trans h.box,⟨h.g1.row.of_block (hs _ (by omega) (by omega)),λ a ha=>?_⟩,h.g2.of_blocks λ y h1 hy=>hs y (by omega) (by omega),h.g3.of_blocks λ y h1 hy=>hs y (by omega) (by omega),h.g4.of_blocks λ y h1 hy=>hs y (by omega) (by omega),
  qJ h.op (λ g hg=>hf.block g (h.op.lt g hg).2 (λ e=>by have:=(h.op.lt g hg).1;have e:g=H+1+i:=e;omega)),h.bel.trans (hf.below (by omega) (λ b hb=>by have hb:b=H+1+i:=hb;omega)),Nat.le_trans h.kw hf.size⟩
 by_cases e:a=i
 ·subst e;exact hr.congr λ r _=>by rw [if_pos rfl]
 ·exact ((h.g1.cells a ha).of_block (hs _ (by omega) (by omega))).congr λ r _=>by rw [if_neg e]
theorem WsM.set2 (h:WsM Wa H Ga n R K W vo mk ph s) {b:Nat} (r:Nat) (hb:b<n):WsM Wa H Ga n R K (W.setCell ⟨H+(n+1)+1+b,r,none⟩ (.bool true)) vo mk (vM ph b r) s:=by
 have hs:∀ y,y≠H+(n+1)+1+b->(W.setCell ⟨H+(n+1)+1+b,r,none⟩ (.bool true)).heap[y]?=W.heap[y]?:=λ y hy=>JQ _ _ _ _ hy;have:=h.hk
 exact ⟨h.hz,h.hk,(hs _ (by omega)).trans h.box,h.g1.of_blocks λ y _ hy=>hs y (by omega),h.g2.set b r hb,h.g3.of_blocks λ y h1 hy=>hs y (by omega),h.g4.of_blocks λ y h1 hy=>hs y (by omega),
  qJ h.op (λ g hg=>hs g (by have:=(h.op.lt g hg).1;omega)),h.bel.setCell (by show H<=H+(n+1)+1+b;omega) _,by have:=h.kw;simpa using this⟩
theorem WsM.maps (h:WsM Wa H Ga n R K W vo mk ph s) {mk' ph':Nat->Nat->Bool} (h1:∀ a b,a<n->b<R->mk a b=mk' a b) (h2:∀ a b,a<n->b<R->ph a b=ph' a b):WsM Wa H Ga n R K W vo mk' ph' s :=
 ⟨h.hz,h.hk,h.box,h.g1.congr h1,h.g2.congr h2,h.g3,h.g4,h.op,h.bel,h.kw⟩
theorem WsM.rek (h:WsM Wa H Ga n R K W (.slice none 0 0) mk ph s) (he:s.op=[]) {K':Nat} (h1:H+4 * (n+1)<K') (h2:K'<=W.heap.size):WsM Wa H Ga n R K' W (.slice none 0 0) mk ph s :=
 ⟨h.hz,h1,h.box,h.g1,h.g2,h.g3,h.g4,by rw [he];exact World.ownsRow_nil _ _ _ _,h.bel,h2⟩
end
def s0:LvS:=⟨λ _ _=>false,λ _ _=>false,[]⟩
def mkS (bs:List qE) (i b r:Nat):Bool:=decide (b<i) && mkB bs b r
def phS (bs:List qE) (i b r:Nat):Bool:=decide (b<i) && phB bs b r
def qB1 (bs:List qE) (R:Nat) (w:World) (e:Ending) (w':World):Prop :=
 ∃ Wa H Ga K vo s,e=.returned (.pointer (some ⟨H+4 * (bs.length+1),0,none⟩))/\w.heap.size<=H/\WsM Wa H Ga bs.length R K w' vo (mkB bs) (phB bs) s/\GotS bs s/\ToldS bs s/\s.op=[]/\Below w.heap.size w w'
set_option maxRecDepth 100000 in
set_option maxHeartbeats 16000000 in
theorem q35 (f:qB) (v:Value) (w:World) (hv:VFun w v f) (tD:qAF f):Calls Tryz.prog 94 #[v] w (qB1 f.blocks f.regs.length w):=by
 have sn:=hv;obtain ⟨Ar,cr,A,c,rfl,-,sE,-,-⟩:=hv;have sb:=Jj sE;clear sE;have td:=Jj tD;have ta:=tD.nb;have wU:=tD.nr;(go_enter Tryz.func94,Tryz.ntmps94);go_upto_region 1 with fail
 obtain ⟨w1,sm,wM,su,wY,tq,-⟩:=named w #[.int .i64 f.params,.int .i64 f.result,.slice Ar f.regs.length cr,.slice A f.blocks.length c] 30;rw [<- sm];have c0:w1.cell? ⟨w.heap.size,0,none⟩=some (.int .i64 f.params):=tq 0 _ rfl;have c1:w1.cell? ⟨w.heap.size,1,none⟩=some (.int .i64 f.result):=tq 1 _ rfl;have c2:w1.cell? ⟨w.heap.size,2,none⟩=some (.slice Ar f.regs.length cr):=tq 2 _ rfl;have c3:w1.cell? ⟨w.heap.size,3,none⟩=some (.slice A f.blocks.length c):=tq 3 _ rfl;obtain ⟨N,hN⟩:∃ N,N=w.heap.size:=⟨_,rfl⟩;have tG:Hid (w1.heap.size=N+1/\N=w.heap.size):=Jj ⟨by rw [wM,hN],hN⟩;have rX:=Jj wY
 have hV1:=VFun.keep su sn;rw [<- hN] at c0 c1 c2 c3 ⊢;clear sm wM su tq wY sn hN tD;(go_quiet (fail));have tQ:Below w1.heap.size w1 (w1.drewN nq):=below_drewN (J5 _ _) nq;have tj:=q7 tQ;have c0:=tj _ _ c0;have c1:=tj _ _ c1;have c2:=tj _ _ c2
 have c3:=tj _ _ c3;have hVd:=VFun.keep tj hV1;have rg:=Jj tQ;(have sR:Hid ((w1.drewN nq).heap.size=N+1):=Jj (by rw [<- tG.out.1];rfl));clear tQ tj hV1;generalize w1.drewN nq=wd at *;(go_wp2_with fail);refine (xM f _ wd hVd (by omega)).mono ?_;rintro e Wa ⟨⟨V,Ga,rfl,hGa,sw⟩,wQ⟩
 obtain ⟨H,hH⟩:∃ H,H=Wa.heap.size:=⟨_,rfl⟩;have rh:=Jj (Grid.reads sw (by omega));(have sc:Hid (Below w.heap.size w Wa):=Jj (rX.out.trans ((rg.out.trans (wQ.mono rg.out.size)).mono (by have:=tG.out;omega))));have rc:=Jj (SBlks.keep (q7 sc.out) sb.out);have HVA:=Jj (VFun.keep (q7 wQ) hVd);have HC:Hid (Wa.cell? ⟨N,0,none⟩=some (.int .i64 f.params)/\Wa.cell? ⟨N,1,none⟩=some (.int .i64 f.result)/\Wa.cell? ⟨N,2,none⟩=some (.slice Ar f.regs.length cr)/\Wa.cell? ⟨N,3,none⟩=some (.slice A f.blocks.length c)):=Jj ⟨q7 wQ _ _ c0,q7 wQ _ _ c1,q7 wQ _ _ c2,q7 wQ _ _ c3⟩;(have sX:Hid (H=Wa.heap.size/\w.heap.size<=H/\N<H/\N=w.heap.size):=Jj ⟨hH,by have:=wQ.size;have:=sR.out;have:=tG.out;omega,by have:=wQ.size;have:=sR.out;omega,tG.out.2⟩);clear c0 c1 c2 c3 wQ sw hGa hVd hH;go_wp2_with fail
 refine (jQ f.blocks.length f.regs.length ta wU Wa).mono ?_;rintro e wt1 ⟨rfl,sC,sj,sI⟩;have sN:=Jj sj;have r9:=Jj sC;have tz:=Jj sI;clear sj sC sI;(go_wp2_with fail);refine (jQ f.blocks.length f.regs.length ta wU wt1).mono ?_;rintro e wt2 ⟨rfl,sB,si,sH⟩
 have sM:=Jj si;have tp:=Jj sB;have tg:=Jj sH;clear si sB sH;(go_wp2_with fail);refine (jQ f.blocks.length f.regs.length ta wU wt2).mono ?_;rintro e wt3 ⟨rfl,sy,sh,sG⟩;have sL:=Jj sh;have r8:=Jj sy
 have wT:=Jj sG;clear sh sy sG;(go_wp2_with fail);refine (jQ f.blocks.length f.regs.length ta wU wt3).mono ?_;rintro e wt4 ⟨rfl,sx,sf,sF⟩;have sK:=Jj sf;have sZ:=Jj sx;have ww:=Jj sF;clear sf sx sF
 (go_upto_region 3 with fail);have e1:Wa.heap.size=H:=sX.out.1.symm;(have e2:wt1.heap.size=H+(f.blocks.length+1):=by have:=sN.out;omega);(have e3:wt2.heap.size=H+2 * (f.blocks.length+1):=by have:=sM.out;omega);(have e4:wt3.heap.size=H+3 * (f.blocks.length+1):=by have:=sL.out;omega);(have e5:wt4.heap.size=H+4 * (f.blocks.length+1):=by have:=sK.out;omega);rw [e1,e2,e3,e4];obtain ⟨W5,hW5⟩:∃ W5,W5=wt4.alloc (.cells #[.slice (some ⟨Ga,0,none⟩) f.blocks.length f.blocks.length,.slice (some ⟨H,0,none⟩) f.blocks.length f.blocks.length,.slice (some ⟨H+(f.blocks.length+1),0,none⟩) f.blocks.length f.blocks.length,.slice (some ⟨H+2 * (f.blocks.length+1),0,none⟩) f.blocks.length f.blocks.length,.slice (some ⟨H+3 * (f.blocks.length+1),0,none⟩) f.blocks.length f.blocks.length,.slice none 0 0] 145):=⟨_,rfl⟩;have wh:Below wt4.heap.size wt4 W5:=by rw [hW5];exact (J5 _ _).alloc (J4 _) _
 (have sd:W5.heap.size=wt4.heap.size+1:=by rw [hW5];simp);(have sD:W5.heap[wt4.heap.size]?=some (.cells #[.slice (some ⟨Ga,0,none⟩) f.blocks.length f.blocks.length,.slice (some ⟨H,0,none⟩) f.blocks.length f.blocks.length,.slice (some ⟨H+(f.blocks.length+1),0,none⟩) f.blocks.length f.blocks.length,.slice (some ⟨H+2 * (f.blocks.length+1),0,none⟩) f.blocks.length f.blocks.length,.slice (some ⟨H+3 * (f.blocks.length+1),0,none⟩) f.blocks.length f.blocks.length,.slice none 0 0] 145):=by rw [hW5];exact heap_alloc_new _ _);have hM:WsM Wa H Ga f.blocks.length f.regs.length (H+4 * (f.blocks.length+1)+1) W5 (.slice none 0 0) (λ _ _=>false) (λ _ _=>false) s0:=by
  (have g1:=r9.out;rw [e1] at g1);(have g2:=tp.out;rw [e2] at g2);(have g3:=r8.out;rw [e3] at g3);(have g4:=sZ.out;rw [e4] at g4);refine ⟨e1,by omega,by rw [<- e5];exact sD,?_,?_,?_,?_,World.ownsRow_nil _ _ _ _,?_,by omega⟩
  ·exact g1.of_blocks λ y _ hy=>(wh.block y (by omega)).trans ((ww.out.block y (by omega)).trans ((wT.out.block y (by omega)).trans (tg.out.block y (by omega))))
  ·exact g2.of_blocks λ y _ hy=>(wh.block y (by omega)).trans ((ww.out.block y (by omega)).trans (wT.out.block y (by omega)))
  ·exact g3.of_blocks λ y _ hy=>(wh.block y (by omega)).trans (ww.out.block y (by omega))
  ·exact g4.of_blocks λ y _ hy=>wh.block y (by omega)
  ·have h1:=((((tz.out.trans (tg.out.mono (by omega))).trans (wT.out.mono (by omega))).trans (ww.out.mono (by omega))).trans (wh.mono (by omega)));rw [e1] at h1;exact h1
 rw [<- hW5,e5];obtain ⟨P,hP⟩:∃ P,P=H+4 * (f.blocks.length+1):=⟨_,rfl⟩;rw [<- hP];rw [<- hP] at hM;have HP:=Jj hP;have HM:=Jj hM;have sJ:Hid (W5.heap.size=P+1):=Jj (by rw [sd,e5,hP]);clear e1 e2 e3 e4 e5 hW5 wh sd sD hM hP sN sM sL sK r9 tp r8 sZ tz tg wT ww;have rj:=run_make_row' (P:=Tryz.prog) 65 27 (.slice none 0 0) 24 Tryz.underlying65 Tryz.info27 rfl .i64 .i64 f.blocks.length (by omega) (by omega)
 (go_upto_region 4 with fail);clear rj;obtain ⟨UB,hUB⟩:∃ UB,UB=W5.heap.size:=⟨_,rfl⟩;obtain ⟨W6,hW6⟩:∃ W6,W6=W5.alloc (.cells (madeCells #[.slice none 0 0] f.blocks.length) 27):=⟨_,rfl⟩;(have wX:Below W5.heap.size W5 W6:=by rw [hW6];exact (J5 _ _).alloc (J4 _) _);(have tV:Hid (W6.rowIs UB 27 f.blocks.length (λ _=>.slice none 0 0)):=Jj (by rw [hW6,hUB];exact World.rowIs_made _ _ _ _));have tX:=Jj (HM.out.below wX);(have tu:Hid (UB=P+1/\W6.heap.size=P+2):=Jj ⟨by rw [hUB,sJ.out],by rw [hW6];simp [sJ.out]⟩);have tY:Hid (Below Wa.heap.size Wa W6):=Jj (by have h1:=tX.out.bel;rw [<- tX.out.hz] at h1;exact h1)
 obtain ⟨c0,c1,c2,c3⟩:=HC.out;have c3:=q7 tY.out _ _ c3;rw [<- hUB,<- hW6];clear hUB hW6 wX c0 c1 c2 HM;(go_wp2_with fail);clear c3
 go_loopw [42] (λ s42 wq=>∃ (i:Nat) (Vu:Nat->Value),i<=f.blocks.length/\s42=.int .i64 (i:Int)/\WsM Wa H Ga f.blocks.length f.regs.length (H+4 * (f.blocks.length+1)+1) wq (.slice none 0 0) (mkS f.blocks i) (phS f.blocks i) s0/\wq.rowIs UB 27 f.blocks.length Vu /\
  (∀ j k,j<i->f.blocks[j]?=some k->wq.ownsRow (P+2) 3 1 (Vu j) (usB k).length ((usB k).map λ y:Nat=>Value.int .i64 (y:Int)))) (λ s42 _=>f.blocks.length - (intOf s42).toNat)
 case atStart=>exact ⟨0,_,Nat.zero_le _,rfl,by have h1:=tX.out.maps (mk':=mkS f.blocks 0) (ph':=phS f.blocks 0) (λ _ _ _ _=>by simp [mkS]) (λ _ _ _ _=>by simp [phS]);rw [<- HP.out];exact h1,tV.out,λ j k hj=>by omega⟩
 case round =>
  obtain ⟨i,Vu,hi,rfl,hM,wg,wZ⟩:=hrel;obtain ⟨wL,rfl⟩:∃ wL,wL=wr:=⟨_,rfl⟩;have HML:=Jj hM;have ry:=Jj wg;have tT:=Jj wZ;(have wu:Below Wa.heap.size Wa wL:=by have h1:=hM.bel;rw [<- hM.hz] at h1;exact h1);have HBW:=Jj wu
  by_cases tc:i<f.blocks.length
  ·obtain ⟨bk,ok,k,rfl,hk,⟨A1,c1,k0',wM⟩,⟨A2,c2,k1',tC⟩,k2',k3',A3,c3,k4',tB⟩:=rc.out.at_ tc;have wj:=q7 wu;have k0:=wj _ _ k0';have k1:=wj _ _ k1';have k2:=wj _ _ k2'.1;have k3:=wj _ _ k3'.1;have k4:=wj _ _ k4';(have rn:(0:Int)<=i:=by omega);have rm:(i:Int)<f.blocks.length:=by omega
   have wJ:=Jj hk;have tW:=Jj wM;have rv:Hid (VBlk Wa (.agg #[.slice A1 k.phis.length c1,.slice A2 k.ins.length c2,.int .i64 k.term.kind,.int .i64 k.term.arg,.slice A3 k.term.to.length c3]) k):=Jj ⟨A1,c1,A2,c2,A3,c3,rfl,wM,tC,tB,k2'.2,k3'.2⟩;obtain ⟨Q,hQ⟩:∃ Q,Q=wL.heap.size:=⟨_,rfl⟩;obtain ⟨wB,hwB⟩:∃ wB,wB=wL.alloc (.cells #[.slice A1 k.phis.length c1,.slice A2 k.ins.length c2,.int .i64 k.term.kind,.int .i64 k.term.arg,.slice A3 k.term.to.length c3] 51):=⟨_,rfl⟩;(have hbQ:wB.heap[Q]?=some (.cells #[.slice A1 k.phis.length c1,.slice A2 k.ins.length c2,.int .i64 k.term.kind,.int .i64 k.term.arg,.slice A3 k.term.to.length c3] 51):=by rw [hwB,hQ];exact heap_alloc_new _ _);(have hbelB:Below wL.heap.size wL wB:=by rw [hwB];exact (J5 _ _).alloc (J4 _) _);have hMB:=hM.below hbelB;have hzP:P+2<=Q:=by have:=wg.lt;have:=tu.out;omega
   (have HQ:Hid (Q=wL.heap.size/\wB.heap.size=Q+1/\P+2<=Q):=Jj ⟨hQ,by rw [hwB,hQ];simp,hzP⟩);have hroB:=wg.of_block (hbelB.block UB wg.lt);have tf:=Jj hMB;have tZ:=Jj hbQ;have sS:=Jj hroB;have tR:Hid (∀ j k,j<i->f.blocks[j]?=some k->wB.ownsRow (P+2) 3 1 (Vu j) (usB k).length ((usB k).map λ y:Nat=>Value.int .i64 (y:Int))):=Jj (λ j k hj hk=>qJ (tT.out j k hj hk) (λ g hg=>hbelB.block g ((tT.out j k hj hk).lt g hg).2));obtain ⟨-,p1,-⟩:=hMB.cells HP.out.symm;have g1r:=hMB.g1.row.cell tc;have q0:=q6 hbQ 0
   have q1:=q6 hbQ 1;have q2:=q6 hbQ 2;have q3:=q6 hbQ 3;have q4:=q6 hbQ 4;(go_upto_region 7 with fail);rw [<- hwB,<- hQ];clear hM wg wZ wu wj k0 k1 k2 k3 k4 k0' k1' k2' k3' k4' wM tC tB hk hwB hQ hbQ hbelB hMB hroB;(have hGMz:Wa.heap.size<=H+1+i/\H+1+i<P/\UB=P+1:=by have:=tf.out.hz;have:=HP.out;have:=tu.out;omega);have wv:=Jj hGMz
   have hS:∀ w',FrX (λ b=>b=H+1+i) wB w'->w'.cell? ⟨Q,0,none⟩=some (.slice A1 k.phis.length c1)/\w'.cell? ⟨Q,1,none⟩=some (.slice A2 k.ins.length c2)/\w'.cell? ⟨Q,2,none⟩=some (.int .i64 k.term.kind)/\w'.cell? ⟨Q,3,none⟩=some (.int .i64 k.term.arg)/\w'.cell? ⟨Q,4,none⟩=some (.slice A3 k.term.to.length c3)/\w'.cell? ⟨P,1,none⟩=some (.slice (some ⟨H,0,none⟩) f.blocks.length f.blocks.length)/\w'.cell? ⟨H,i,none⟩=some (.slice (some ⟨H+1+i,0,none⟩) f.regs.length f.regs.length):=λ w' hf=>by
    (have hq:w'.heap[Q]?=wB.heap[Q]?:=hf.block Q (by have:=HQ.out;omega) (by have:=HQ.out;have:=wv.out;show ¬ Q=H+1+i;omega));(have hp:w'.heap[P]?=wB.heap[P]?:=hf.block P (by have:=HQ.out;omega) (by have:=wv.out;show ¬ P=H+1+i;omega));(have hh:w'.heap[H]?=wB.heap[H]?:=hf.block H (by have:=HQ.out;have:=wv.out;omega) (by show ¬ H=H+1+i;omega));exact ⟨(JK (a:=⟨Q,0,none⟩) hq).trans q0,(JK (a:=⟨Q,1,none⟩) hq).trans q1,(JK (a:=⟨Q,2,none⟩) hq).trans q2,(JK (a:=⟨Q,3,none⟩) hq).trans q3,(JK (a:=⟨Q,4,none⟩) hq).trans q4,(JK (a:=⟨P,1,none⟩) hp).trans p1,(JK (a:=⟨H,i,none⟩) hh).trans g1r⟩
   have hS0:=hS wB.drew (FrX.refl _ _).drew;clear q0 q1 q2 q3 q4 p1 g1r hGMz;refine qS (L:=12) (S:=λ w':World=>w'.cell? ⟨Q,0,none⟩=some (.slice A1 k.phis.length c1)/\w'.cell? ⟨Q,1,none⟩=some (.slice A2 k.ins.length c2)/\w'.cell? ⟨Q,2,none⟩=some (.int .i64 k.term.kind)/\w'.cell? ⟨Q,3,none⟩=some (.int .i64 k.term.arg)/\w'.cell? ⟨Q,4,none⟩=some (.slice A3 k.term.to.length c3)/\w'.cell? ⟨P,1,none⟩=some (.slice (some ⟨H,0,none⟩) f.blocks.length f.blocks.length)/\w'.cell? ⟨H,i,none⟩=some (.slice (some ⟨H+1+i,0,none⟩) f.regs.length f.regs.length)) (by kernel_rfl) (by rfl) (by kernel_rfl) (by kernel_rfl) ?_;change wpAnyH _ _ _ _ _ _ _ _ (World.drew _);refine tk 0 47 hS0 ?_;simp only [J6,aS,J1,J2];refine tk 1 48 hS0 ?_;simp only [J6,aS,J1,J2];refine tk 2 49 hS0 ?_
   simp only [J6,aS,J1,J2];refine tk 3 50 hS0 ?_;simp only [J6,aS,J1,J2];refine tk 4 51 hS0 ?_;simp only [J6,aS,J1,J2];refine tk 5 52 hS0 ?_;simp only [J6,aS,J1,J2];refine tk 6 53 hS0 ?_;simp only [J6,aS,J1,J2]
   refine tk 7 54 hS0 ?_;simp only [J6,aS,J1,J2];refine tk 8 55 hS0 ?_;simp only [J6,aS,J1,J2];refine tk 9 56 hS0 ?_;simp only [J6,aS,J1,J2];refine zk (i:=10) (by kernel_rfl) (λ o ho K' hK=>?_);(simp only [JZ,JX,JY,J0] at ho;subst ho);go_simp
   (have hGMr:wB.drew.rowIs (H+1+i) 4 f.regs.length (λ _=>.bool false):=(tf.out.g1.cells i tc).congr λ r _=>by unfold mkS;rw [decide_eq_false (by omega)];rfl);(have hbwB:Below Wa.heap.size Wa wB:=by have h1:=tf.out.bel;rw [<- tf.out.hz] at h1;exact h1);refine (q4a Wa wB.drew k _ rv.out (H+1+i) f.regs.length hbwB.drew wv.out.1 hGMr (td.out.use i k wJ.out) wU).mono ?_;rintro e w5 ⟨vu,rfl,tL,ss,tm⟩;obtain ⟨Av,cv,th⟩:=qX tL;subst th;dsimp only;have wl:FrX (λ b=>b=H+1+i) wB w5:=⟨tm.os,tm.tape,tm.output,tm.size,tm.block⟩;have hS5:=hS _ wl
   refine hK.out _ _ hS5 ?_;clear hK K';(try simp only [J6,aS,J1,J2]);refine tk 11 58 hS5 ?_;simp only [J6,aS,J1,J2];refine wpAnyH_done (by kernel_rfl) ?_ _;refine vL (by decide) (λ o ho K' hK=>?_);(simp only [JZ,JX,JY,J0] at ho;subst ho);have hrU:w5.rowIs UB 27 f.blocks.length Vu:=sS.out.of_block (wl.block UB sS.out.lt (by have:=wv.out;show ¬ UB=H+1+i;omega))
   have xU:=hrU.cell tc;have fU:=hrU.frozen i;(go_simp);refine hK.out _ _ ?_;clear hK K' hS5 xU fU hS0 hS;have hM5:=tf.out.row1 tc wl (ss:w5.rowIs (H+1+i) 4 f.regs.length (λ r=>.bool (mkI k.ins k.ins.length r)));have hsU:∀ y,y≠UB->(w5.setCell ⟨UB,i,none⟩ (.slice Av (usB k).length cv)).heap[y]?=w5.heap[y]?:=λ y hy=>JQ _ _ _ _ hy;obtain ⟨W8,hW8⟩:∃ W8,W8=w5.setCell ⟨UB,i,none⟩ (.slice Av (usB k).length cv):=⟨_,rfl⟩;have hM8:WsM Wa H Ga f.blocks.length f.regs.length (H+4 * (f.blocks.length+1)+1) W8 (.slice none 0 0) (mkS f.blocks (i+1)) (λ b r=>phS f.blocks i b r) s0:=by
    have h1:=(hM5.frame (W':=W8) (by rw [hW8];rfl) (by rw [hW8];rfl) (by rw [hW8];rfl) (by rw [hW8];show _<=(w5.setCell _ _).heap.size;simp) (λ y hy=>by rw [hW8];exact hsU y (by have:=wv.out;have:=HP.out;omega)) (λ g hg=>by cases hg)).maps (mk':=mkS f.blocks (i+1)) (ph':=phS f.blocks i) (λ a b ha hb=>by
     show (if a=i then mkI k.ins k.ins.length b else mkS f.blocks i a b)=_;unfold mkS
     by_cases e:a=i
     ·subst e;rw [if_pos rfl,decide_eq_true (by omega),q4x wJ.out];rfl
     ·rw [if_neg e]
      by_cases e2:a<i
      ·rw [decide_eq_true e2,decide_eq_true (by omega)]
      ·rw [decide_eq_false e2,decide_eq_false (by omega)]) (λ _ _ _ _=>rfl)
    exact h1
   (have sp:W8.rowIs UB 27 f.blocks.length (λ j=>if j=i then .slice Av (usB k).length cv else Vu j):=by rw [hW8];exact (hrU.set i _));have sk:∀ j k2,j<i+1->f.blocks[j]?=some k2->W8.ownsRow (P+2) 3 1 (if j=i then .slice Av (usB k).length cv else Vu j) (usB k2).length ((usB k2).map λ y:Nat=>Value.int .i64 (y:Int)):=λ j k2 hj tN=>by
    have wV:∀ y,P+2<=y->W8.heap[y]?=w5.heap[y]?:=λ y hy=>by rw [hW8];exact hsU y (by have:=wv.out;omega)
    by_cases e:j=i
    ·subst e;rw [wJ.out] at tN;cases tN;rw [if_pos rfl];(have h1:w5.ownsRow (P+2) 3 1 (.slice Av (usB k).length cv) (usB k).length ((usB k).map λ y:Nat=>Value.int .i64 (y:Int)):=zw tL (by show P+2<=wB.heap.size;have:=HQ.out;omega));exact qJ h1 (λ g hg=>wV g (h1.lt g hg).1)
    ·rw [if_neg e];have h1:=tR.out j k2 (by omega) tN;exact qJ h1 (λ g hg=>(wV g (h1.lt g hg).1).trans (wl.block g (h1.lt g hg).2 (by have:=(h1.lt g hg).1;have:=wv.out;show ¬ g=H+1+i;omega)))
   have hbQ8:W8.heap[Q]?=some (.cells #[.slice A1 k.phis.length c1,.slice A2 k.ins.length c2,.int .i64 k.term.kind,.int .i64 k.term.arg,.slice A3 k.term.to.length c3] 51):=by
    rw [hW8];exact (hsU Q (by have:=wv.out;have:=HQ.out;omega)).trans ((wl.block Q (by have:=HQ.out;omega) (by have:=HQ.out;have:=wv.out;show ¬ Q=H+1+i;omega)).trans tZ.out)
   have rM:=Jj hM8;have rD:=Jj sp;have ru:=Jj sk;have x0:=q6 hbQ8 0;have sU:=Jj (td.out.phi i k wJ.out);have hpl:k.phis.length<=300:=sU.out.1;rw [<- hW8];clear hW8 hM8 sp sk hbQ8 hM5 hsU hrU tL ss tm wl hGMr hbwB;go_wp2_with fail
   clear x0
   go_loopw [62] (λ s62 wq=>∃ j:Nat,j<=k.phis.length/\s62=.int .i64 (j:Int)/\WsM Wa H Ga f.blocks.length f.regs.length (H+4 * (f.blocks.length+1)+1) wq (.slice none 0 0) (mkS f.blocks (i+1)) (λ b r=>phS f.blocks i b r || (decide (b=i) && phI k.phis j r)) s0/\wq.rowIs UB 27 f.blocks.length (λ j=>if j=i then .slice Av (usB k).length cv else Vu j) /\
    (∀ j k2,j<i+1->f.blocks[j]?=some k2->wq.ownsRow (P+2) 3 1 (if j=i then .slice Av (usB k).length cv else Vu j) (usB k2).length ((usB k2).map λ y:Nat=>Value.int .i64 (y:Int)))) (λ s62 _=>k.phis.length - (intOf s62).toNat)
   case atStart=>exact ⟨0,Nat.zero_le _,rfl,rM.out.maps (λ _ _ _ _=>rfl) (λ _ _ _ _=>by simp [phI]),rD.out,ru.out⟩
   case round =>
    obtain ⟨j,hj,rfl,hM,wg,wZ⟩:=hrel;have sV:=Jj hM;have rz:=Jj wg;have tU:=Jj wZ
    by_cases tF:j<k.phis.length
    ·(have wu:Below Wa.heap.size Wa wr:=by have h1:=hM.bel;rw [<- hM.hz] at h1;exact h1);obtain ⟨bp,op,p,rfl,hp,sq,A5,c5,sr,-⟩:=tW.out.at_ tF;have wj:=q7 wu;have d0:=wj _ _ sq.1;have d1:=wj _ _ sr;have wO:=sU.out.2 p (Jz hp.out);(obtain ⟨d,tP,hdR⟩:∃ d:Nat,p.dst=(d:Int)/\d<f.regs.length:=⟨p.dst.toNat,by have:=wO.2.1.1;omega,by have:=wO.2.1.1;have:=wO.2.1.2;omega⟩);clear wO;rw [tP] at d0
     have rW:=Jj tP;have rF:=Jj hp;(have rl:(0:Int)<=j:=by omega);(have rk:(j:Int)<k.phis.length:=by omega);obtain ⟨Q2,hQ2⟩:∃ Q2,Q2=wr.heap.size:=⟨_,rfl⟩;obtain ⟨wC,hwC⟩:∃ wC,wC=wr.alloc (.cells #[.int .i64 (d:Int),.slice A5 p.args.length c5] 55):=⟨_,rfl⟩;(have hbQ2:wC.heap[Q2]?=some (.cells #[.int .i64 (d:Int),.slice A5 p.args.length c5] 55):=by rw [hwC,hQ2];exact heap_alloc_new _ _);(have hbelC:Below wr.heap.size wr wC:=by rw [hwC];exact (J5 _ _).alloc (J4 _) _);have hMC:=hM.below hbelC
     have hroC:=wg.of_block (hbelC.block UB wg.lt);have tr:Hid (∀ j k2,j<i+1->f.blocks[j]?=some k2->wC.ownsRow (P+2) 3 1 (if j=i then .slice Av (usB k).length cv else Vu j) (usB k2).length ((usB k2).map λ y:Nat=>Value.int .i64 (y:Int))):=Jj (λ j k hj hk=>qJ (tU.out j k hj hk) (λ g hg=>hbelC.block g ((tU.out j k hj hk).lt g hg).2));obtain ⟨-,-,p2,-⟩:=hMC.cells HP.out.symm;obtain ⟨G2,hG2⟩:∃ G2,G2=H+(f.blocks.length+1):=⟨_,rfl⟩;obtain ⟨g2a,g2b,g2c⟩:=hMC.g2.at_ tc hdR;rw [<- hG2] at p2 g2a g2b g2c;have r0:=q6 hbQ2 0;have rK:=Jj hMC;have rA:=Jj hroC
     have tp:=Jj hG2;(go_upto_region 11 with fail);rw [<- hwC,<- hQ2];clear hM wg wZ wu wj sq sr d0 d1 hp tP hQ2 hwC hbQ2 hbelC hMC hroC hG2;have hS0:wC.drew.cell? ⟨P,2,none⟩=some (.slice (some ⟨G2,0,none⟩) f.blocks.length f.blocks.length)/\wC.drew.cell? ⟨G2,i,none⟩=some (.slice (some ⟨G2+1+i,0,none⟩) f.regs.length f.regs.length)/\wC.drew.cell? ⟨Q2,0,none⟩=some (.int .i64 (d:Int)):=⟨p2,g2a,r0⟩;have rq:wC.drew.cell? ⟨G2+1+i,d,none⟩=_:=g2b;have rp:wC.drew.frozen? ⟨G2+1+i,d,none⟩=false:=g2c;(have hd0:(0:Int)<=d:=by omega);have hd1:(d:Int)<f.regs.length:=by omega
     clear p2 g2a r0 g2b g2c;refine qS (L:=10) (S:=λ w':World=>w'.cell? ⟨P,2,none⟩=some (.slice (some ⟨G2,0,none⟩) f.blocks.length f.blocks.length)/\w'.cell? ⟨G2,i,none⟩=some (.slice (some ⟨G2+1+i,0,none⟩) f.regs.length f.regs.length)/\w'.cell? ⟨Q2,0,none⟩=some (.int .i64 (d:Int))) (by kernel_rfl) (by rfl) (by kernel_rfl) (by kernel_rfl) ?_;change wpAnyH _ _ _ _ _ _ _ _ (World.drew _);refine tk 0 66 hS0 ?_;simp only [J6,aS,J1,J2];refine tk 1 67 hS0 ?_;simp only [J6,aS,J1,J2];refine tk 2 68 hS0 ?_;simp only [J6,aS,J1,J2]
     refine tk 3 69 hS0 ?_;simp only [J6,aS,J1,J2];refine tk 4 70 hS0 ?_;simp only [J6,aS,J1,J2];refine tk 5 71 hS0 ?_;simp only [J6,aS,J1,J2];refine tk 6 72 hS0 ?_;simp only [J6,aS,J1,J2];refine tk 7 73 hS0 ?_
     simp only [J6,aS,J1,J2];refine tk 8 74 hS0 ?_;simp only [J6,aS,J1,J2];refine tk 9 75 hS0 ?_;simp only [J6,aS,J1,J2];refine wpAnyH_done (by kernel_rfl) ?_ _;refine vL (by decide) (λ o ho K' hK=>?_);(simp only [JZ,JX,JY,J0] at ho;subst ho);go_simp
     refine hK.out _ _ ?_;clear hK K' hS0 rq rp;obtain ⟨W9,hW9⟩:∃ W9,W9=(wC.setCell ⟨G2+1+i,d,none⟩ (.bool true)).drew:=⟨_,rfl⟩;have tK:∀ y,y≠G2+1+i->W9.heap[y]?=wC.heap[y]?:=λ y hy=>by rw [hW9];exact JQ _ _ _ _ hy
     have rL:Hid (WsM Wa H Ga f.blocks.length f.regs.length (H+4 * (f.blocks.length+1)+1) W9 (.slice none 0 0) (mkS f.blocks (i+1)) (λ b r=>phS f.blocks i b r || (decide (b=i) && phI k.phis (j+1) r)) s0):=Jj (by
      have h1:=(rK.out.set2 d tc).below (J5 _ _).drew;rw [<- tp.out,<- hW9] at h1;refine h1.maps (λ _ _ _ _=>rfl) λ a b ha hb=>?_;unfold vM;rw [q81 rF.out,rW.out]
      by_cases e:a=i/\b=d
      ·obtain ⟨rfl,rfl⟩:=e;rw [if_pos ⟨rfl,rfl⟩];simp
      ·rw [if_neg e]
       by_cases e1:a=i
       ·subst e1;have:¬ d=b:=λ h=>e ⟨rfl,h.symm⟩;(have h3:¬ ((d:Int)=(b:Int)):=by omega);simp [h3]
       ·simp [e1])
     (have rC:=Jj (rA.out.of_block (tK UB (by have:=wv.out;have:=tu.out;have:=HP.out;have:=tp.out;omega))));(have rt:Hid (∀ j k2,j<i+1->f.blocks[j]?=some k2->W9.ownsRow (P+2) 3 1 (if j=i then .slice Av (usB k).length cv else Vu j) (usB k2).length ((usB k2).map λ y:Nat=>Value.int .i64 (y:Int))):=Jj (λ j k hj hk=>qJ (tr.out j k hj hk) (λ g hg=>tK g (by have:=((tr.out j k hj hk).lt g hg).1;have:=HP.out;have:=tp.out;omega))));rw [<- hW9];clear hW9 tK;go_wp2_with fail
     go_roundw
     case rel=>exact ⟨j+1,by omega,by go_num,rL.out,rC.out,rt.out⟩
     case measure=>simp [intOf];omega
    ·obtain rfl:j=k.phis.length:=by omega
     have rJ:=Jj (sV.out.maps (mk':=mkS f.blocks (i+1)) (ph':=phS f.blocks (i+1)) (λ _ _ _ _=>rfl) (λ a b ha hb=>by
      unfold phS
      by_cases e:a=i
      ·subst e;rw [decide_eq_false (by omega),decide_eq_true (rfl:a=a),decide_eq_true (show a<a+1 by omega),qAX wJ.out];simp
      ·rw [decide_eq_false e]
       by_cases e2:a<i
       ·rw [decide_eq_true e2,decide_eq_true (by omega)];simp
       ·rw [decide_eq_false e2,decide_eq_false (by omega)];simp))
     clear hM wg wZ;go_wp2_with fail
     go_roundw
     case rel=>exact ⟨i+1,_,by omega,by go_num,rJ.out,rz.out,tU.out⟩
     case measure=>simp [intOf];omega
  ·(obtain rfl:i=f.blocks.length:=by omega);have hM2:WsM Wa H Ga f.blocks.length f.regs.length wL.heap.size wL (.slice none 0 0) (mkB f.blocks) (phB f.blocks) (stL f.blocks 0) :=
    (hM.rek rfl (K':=wL.heap.size) (by have:=wg.lt;have:=tu.out;have:=HP.out;omega) (J4 _)).maps (λ a b ha _=>by unfold mkS;rw [decide_eq_true ha];rfl) (λ a b ha _=>by unfold phS;rw [decide_eq_true ha];rfl)
   have rN:=Jj hM2;have c3:=q7 wu _ _ HC.out.2.2.2;have wW:FewS f.blocks.length f.regs.length (stL f.blocks 0):=⟨Nat.zero_le _,λ x hx=>by cases hx⟩;have tw:=Jj wW;have wR:Hid (UB<wL.heap.size/\UB=P+1):=Jj ⟨wg.lt,tu.out.1⟩;clear hM wg wZ wu hM2 wW;(go_wp2_with fail);clear c3
   go_loopw [81] (λ s81 wq=>∃ (i:Nat) (v':Value),i<=f.blocks.length/\s81=.int .i64 (i:Int)/\WsM Wa H Ga f.blocks.length f.regs.length wL.heap.size wq v' (mkB f.blocks) (phB f.blocks) (stL f.blocks i)/\FewS f.blocks.length f.regs.length (stL f.blocks i)/\GroS H P wL wq (.slice none 0 0) v') (λ s81 _=>f.blocks.length - (intOf s81).toNat)
   case atStart=>exact ⟨0,_,Nat.zero_le _,rfl,rN.out,tw.out,GroS.refl _ _ _ _⟩
   case round =>
    obtain ⟨i,v',hi2,rfl,hM,hF,hG⟩:=hrel;obtain ⟨wK,rfl⟩:∃ wK,wK=wr:=⟨_,rfl⟩;have HMK:=Jj hM;have rU:=Jj hF;have HGK:=Jj hG
    by_cases wk:i<f.blocks.length
    ·(have wu:Below Wa.heap.size Wa wK:=by have h1:=hM.bel;rw [<- hM.hz] at h1;exact h1);obtain ⟨bk,ok,k,rfl,hk,⟨A1,c1,k0',wM⟩,⟨A2,c2,k1',tC⟩,k2',k3',A3,c3,k4',tB⟩:=rc.out.at_ wk;have wj:=q7 wu;have k0:=wj _ _ k0';have k1:=wj _ _ k1';have k2:=wj _ _ k2'.1;have k3:=wj _ _ k3'.1;have k4:=wj _ _ k4';have rn:(0:Int)<=i:=by omega
     (have rm:(i:Int)<f.blocks.length:=by omega);have wJ:=Jj hk;have tW:=Jj wM;have tH:=tT.out i k wk hk;obtain ⟨Av,cv,th⟩:=qX tH;have HVU:=Jj th
     have rx:Hid (∀ w':World,(∀ g,P+2<=g->g<wL.heap.size->w'.heap[g]?=wL.heap[g]?)->∀ (j r:Nat),(usB k)[j]?=some r->∃ g,Av=some ⟨g,0,none⟩/\w'.cell? ⟨g,j,none⟩=some (.int .i64 (r:Int))):=Jj (λ w' hw j r hj=>by
      have h1:=tH;rw [th] at h1;have tF:=(Jk hj).1;rcases h1.2 with ⟨h0,_⟩ | ⟨g,cap,cur,ri,-⟩
      ·omega
      ·cases ri;refine ⟨g,rfl,?_⟩;have hl:=h1.lt g rfl;refine (JK (a:=⟨g,j,none⟩) (hw g hl.1 hl.2)).trans ?_
       rw [h1.cellAt j (by omega),List.getElem?_map,hj];rfl)
     obtain ⟨lz,tE⟩:∃ lz,(usB k).length=lz:=⟨_,rfl⟩;(have hlz9:lz<=90001:=by rw [<- tE];exact q9N (td.out.use i k hk));have sW:=Jj tE;have hULT:=qAS (td.out.use i k hk);have tS:=Jj hULT;have hkU:∀ b,P<b->b<wL.heap.size->wK.heap[b]?=wL.heap[b]?:=λ b h1 h2=>hG.block b h2 (by omega) (λ e=>by cases e);have xU0:wK.cell? ⟨UB,i,none⟩=some (.slice Av lz cv):=by
      (refine (JK (a:=⟨UB,i,none⟩) (hkU UB (by have:=wR.out;omega) wR.out.1)).trans ?_);rw [ry.out.cell wk,th,tE]
     obtain ⟨Q,hQ⟩:∃ Q,Q=wK.heap.size:=⟨_,rfl⟩;obtain ⟨wB,hwB⟩:∃ wB,wB=wK.alloc (.cells #[.slice A1 k.phis.length c1,.slice A2 k.ins.length c2,.int .i64 k.term.kind,.int .i64 k.term.arg,.slice A3 k.term.to.length c3] 51):=⟨_,rfl⟩;(have hbQ:wB.heap[Q]?=some (.cells #[.slice A1 k.phis.length c1,.slice A2 k.ins.length c2,.int .i64 k.term.kind,.int .i64 k.term.arg,.slice A3 k.term.to.length c3] 51):=by rw [hwB,hQ];exact heap_alloc_new _ _);(have hbelB:Below wK.heap.size wK wB:=by rw [hwB];exact (J5 _ _).alloc (J4 _) _);(have HQ:Hid (Q=wK.heap.size/\wB.heap.size=Q+1/\wL.heap.size<=Q/\P<Q):=Jj ⟨hQ,by rw [hwB,hQ];simp,by rw [hQ];exact hG.size,by have:=hG.size;have:=wR.out;omega⟩);(have xU:=(hbelB.cell (p:=⟨UB,i,none⟩) (by show UB<wK.heap.size;have:=hG.size;have:=wR.out;omega)).trans xU0);have tf:=Jj (hM.below hbelB);have tZ:=Jj hbQ;have sY:=Jj (hG.mono hbelB)
     (have rH:Hid (v'.ownBlock≠some Q):=Jj (λ e=>by have:=(hM.op.lt Q e).2;have:=HQ.out;omega));(go_upto_region 17 with fail);rw [<- hwB,<- hQ];clear hM hF hG wu wj k0 k1 k2 k3 k4 k0' k1' k2' k3' k4' wM tC tB hk tH th tE hULT hkU xU0 hQ hwB hbQ hbelB;(go_wp2_with fail);clear xU
     go_loopw [91] (λ s91 wq=>∃ (j:Nat) (v2:Value),j<=lz/\s91=.int .i64 (j:Int)/\WsM Wa H Ga f.blocks.length f.regs.length wL.heap.size wq v2 (mkB f.blocks) (phB f.blocks) (atBs (phB f.blocks) (stL f.blocks i) i ((usB k).take j))/\FewS f.blocks.length f.regs.length (atBs (phB f.blocks) (stL f.blocks i) i ((usB k).take j))/\GroS H P wB wq v' v2) (λ s91 _=>lz - (intOf s91).toNat)
     case atStart=>exact ⟨0,v',Nat.zero_le _,rfl,tf.out,rU.out,GroS.refl _ _ _ _⟩
     case round =>
      obtain ⟨j,v2,hj,rfl,hM,hF,hG⟩:=hrel;have sV:=Jj hM;have HFJ:=Jj hF;have rQ:=Jj hG
      by_cases tF:j<lz
      ·(obtain ⟨r,hr⟩:∃ r,(usB k)[j]?=some r:=⟨_,Jq (by rw [sW.out];exact tF)⟩);have hrR:=tS.out r (Jz hr);obtain ⟨g,rfl,xg⟩:=rx.out wr (λ g h1 h2=>((sY.out.trans hG).block g h2 (by omega) (λ e=>by cases e))) j r hr;have wm:=jk Wa H Ga f.blocks.length f.regs.length wL.heap.size wr v2 (mkB f.blocks) (phB f.blocks) _ hM hF ta wU i r wk hrR;rw [<- HP.out] at wm;have tx:=Jj wm;have sO:=Jj hr;have rS:=Jj (hF.atB (phB f.blocks) wk hrR);have rl:(0:Int)<=j:=by omega
       (have rk:(j:Int)<lz:=by omega);clear hM hF hG hr wm;(go_wp2_with (go_at_call 125;refine tx.out.mono ?_;rintro e w5 ⟨rfl,v3,hM5,hG5⟩));rw [<- HP.out] at hG5
       go_roundw
       case rel =>
        refine ⟨j+1,v3,by omega,by go_num,?_,?_,rQ.out.trans hG5⟩
        ·rw [qG sO.out,q2A];exact hM5
        ·rw [qG sO.out,q2A];exact rS.out
       case measure=>simp [intOf];omega
      ·(obtain rfl:j=lz:=by omega);(have et:(usB k).take j=usB k:=List.take_of_length_le (by rw [sW.out];exact J4 _));rw [et] at hM hF;(have hbQ2:wr.heap[Q]?=_:=(hG.block Q (by have:=HQ.out;omega) (by have:=HQ.out;omega) rH.out).trans tZ.out);have x0:=q6 hbQ2 0;(have wm:=q1F f.blocks Wa H Ga f.regs.length wL.heap.size wr v2 (mkB f.blocks) (phB f.blocks) _ hM hF ta wU i wk rh.out k.phis A1 c1 tW.out (by have:=(td.out.phi i k wJ.out).1;omega) (λ p hp=>⟨((td.out.phi i k wJ.out).2 p hp).1,((td.out.phi i k wJ.out).2 p hp).2.2⟩));rw [<- HP.out] at wm;have tx:=Jj wm;have rO:=Jj (sY.out.trans hG)
       have sQ:=Jj (jq wJ.out);clear hM hF hG hbQ2 wm et;(go_wp2_with (go_at_call 126;refine tx.out.mono ?_;rintro e w5 ⟨⟨rfl,v3,hM5,hG5⟩,hF5⟩));rw [<- HP.out] at hG5
       go_roundw
       case rel=>exact ⟨i+1,v3,by omega,by go_num,by rw [sQ.out];exact hM5,by rw [sQ.out];exact hF5,rO.out.trans hG5⟩
       case measure=>simp [intOf];omega
    ·(obtain rfl:i=f.blocks.length:=by omega);have wm:=q56 f.blocks Wa H Ga f.regs.length wL.heap.size wK v' (stL f.blocks f.blocks.length) hM hF ta wU rh.out (q9R f.blocks) (q7k f.blocks _);rw [<- HP.out] at wm;have tx:=Jj wm;clear hM hF hG wm;(go_wp2_with (go_at_call 127;refine tx.out.mono ?_;rintro e w5 ⟨rfl,v3,s3,hM5,hG5,tO,tJ,tM⟩));(go_ret);refine ⟨Wa,H,Ga,wL.heap.size,v3,s3,?_,sX.out.2.1,hM5,tO,tJ,tM,?_⟩
     ·rw [<- HP.out];rfl
     ·have h1:=hM5.bel;rw [<- hM5.hz] at h1;exact sc.out.trans (h1.mono sc.out.size)
end Go.Proofs.YtfoggldjjnabcaaGreatDoor

namespace Go.Proofs.YtfoggldjjnabcaaGreatDoor
open Go.ChangeShapes Go.WideShapes Go.RowKit Go.Deep
theorem qBq {m:List qB} (hp:zx m) (hs:yF m) {f:qB} (hf:f∈m):qAF f:=by
 have hG:=(q1i hp).2 f hf;have wT:=hs.2 f hf;have h0:zh m f=0:=(proper_iff.1 hp).2 f hf;obtain ⟨-,hb⟩:=funE_zero.1 h0;refine ⟨hG.nb.2,hG.nr,λ i k hk=>⟨λ x hx=>?_,?_,?_⟩,λ i k hk=>⟨?_,λ p hp=>hG.phis i k hk p hp⟩⟩
 ·have h1:=q2h ((blockE_zero.1 (hb k (Jz hk))).2.1 x hx);exact ⟨h1.1,h1.2,(wT.2.2.2 k (Jz hk)).2.2.2.1 x hx⟩
 ·exact (wT.2.2.2 k (Jz hk)).1
 ·exact q0X (blockE_zero.1 (hb k (Jz hk))).2.2
 ·exact (wT.2.2.2 k (Jz hk)).2.1
def qB3 (m:List qB) (n:Int) (w:World) (e:Ending) (w':World):Prop :=
 (∃ v,e=.returned v/\((¬ zx m/\ErrAt w' v (jV m))\/(zx m/\¬ (0<=n/\n<m.length)/\v=.iface 39 (.int .i64 1))\/(zx m/\(0<=n/\n<m.length)/\v=.nilIface)))/\Below w.heap.size w w'
theorem x7 {w:World} {v:Value} {p:Int × Int} (h:ErrAt w v p) (hp:p.1≠0):∃ t x,v=.iface t x:=by
 rcases h with h | h | h
 ·exact absurd h.1 hp
 ·exact ⟨_,_,h.2.2⟩
 ·obtain ⟨_,_,g,h3,_⟩:=h;exact ⟨_,_,h3⟩
set_option maxRecDepth 100000 in
set_option maxHeartbeats 8000000 in
theorem q34 (m:List qB) (n:Int) (v:Value) (w:World) (hv:VMod w v m) (wJ:yF m):Calls Tryz.prog 93 #[v,.int .i64 n] w (qB3 m n w):=by
 have ww:=hv;obtain ⟨Am,cm,rfl,hm⟩:=hv;have hml:=hm.len;have wQ:=Jj wJ;clear hm wJ;(go_enter Tryz.func93,Tryz.ntmps93);(go_upto_region 1 with fail);obtain ⟨w1,wu,wM,wm,wg,wO,-⟩:=named w #[.slice Am m.length cm] 24;rw [<- wu]
 have c0:w1.cell? ⟨w.heap.size,0,none⟩=some (.slice Am m.length cm):=wO 0 _ rfl;have wZ:=Jj wg;have wY:Hid (w1.heap.size=w.heap.size+1):=Jj wM;have wX:=Jj (VMod.keep wm ww);clear wu wM wm wO wg ww;(go_wp2_with fail);refine (xi qBp m _ _ wX.out (jX wQ.out)).mono ?_;rintro e w3 ⟨⟨ve,rfl,hErr⟩,wl⟩;have q3:=q7 wl _ _ c0
 (have wk:Hid (Below w.heap.size w w3):=Jj (wZ.out.trans (wl.mono (by have:=wY.out;omega))));have wj:=Jj hErr;clear c0 wl hErr
 by_cases hp:zx m
 ·have wv:=wj.out.nil hp;subst wv;have wh:=Jj hp;clear hp
  by_cases h1:n<0
  ·(go_wp2_with fail);(go_ret);exact ⟨⟨_,rfl,.inr (.inl ⟨wh.out,by omega,rfl⟩)⟩,wk.out⟩
  ·by_cases h2:n<m.length
   ·have h3:decide (n<0)=false:=decide_eq_false h1;(have h4:¬ (m.length:Int)<=n:=by omega);(go_wp2_with fail);(go_ret);exact ⟨⟨_,rfl,.inr (.inr ⟨wh.out,by omega,rfl⟩)⟩,wk.out⟩
   ·have h3:decide (n<0)=false:=decide_eq_false h1;(have h4:(m.length:Int)<=n:=by omega);(go_wp2_with fail);(go_ret);exact ⟨⟨_,rfl,.inr (.inl ⟨wh.out,by omega,rfl⟩)⟩,wk.out⟩
 ·obtain ⟨te,xe,wv⟩:=x7 wj.out hp;subst wv;have wh:=Jj hp;clear hp;(go_wp2_with fail);(go_ret);exact ⟨⟨_,rfl,.inl ⟨wh.out,wj.out⟩⟩,wk.out⟩
def q9G (m:List qB) (n:Int) (w:World) (e:Ending) (w':World):Prop :=
 (∃ va vb ve,e=.returned (.tuple #[va,vb,ve]) /\
  ((va=.slice none 0 0/\vb=.slice none 0 0/\((¬ zx m/\ErrAt w' ve (jV m))\/(zx m/\¬ (0<=n/\n<m.length)/\ve=.iface 39 (.int .i64 1)))) \/
   (zx m/\ve=.nilIface/\∃ (k:Nat) (f:qB) (G3 G4:Nat) (A E:Nat->Nat->Bool),n=(k:Int)/\m[k]?=some f/\va=.slice (some ⟨G3,0,none⟩) f.blocks.length f.blocks.length/\vb=.slice (some ⟨G4,0,none⟩) f.blocks.length f.blocks.length/\w.heap.size<=G3/\G3+f.blocks.length<G4 /\
    BG1 w' G3 f.blocks.length f.regs.length A/\BG1 w' G4 f.blocks.length f.regs.length E/\(∀ b r,A b r=true↔vJ f.blocks false b r)/\(∀ b r,E b r=true↔vJ f.blocks true b r)/\qAF f)))/\Below w.heap.size w w'
set_option maxRecDepth 100000 in
set_option maxHeartbeats 8000000 in
theorem q8R (m:List qB) (n:Int) (v:Value) (w:World) (hv:VMod w v m) (wJ:yF m):Calls Tryz.prog 54 #[v,.int .i64 n] w (q9G m n w):=by
 have ww:=hv;obtain ⟨Am,cm,rfl,hm⟩:=hv;have wQ:=Jj wJ;have tq:=Jj hm;clear hm wJ;(go_enter Tryz.func54,Tryz.ntmps54);(go_upto_region 1 with fail);obtain ⟨w1,wu,wM,wm,wg,wO,-⟩:=named w #[.slice Am m.length cm] 24;rw [<- wu]
 have c0:w1.cell? ⟨w.heap.size,0,none⟩=some (.slice Am m.length cm):=wO 0 _ rfl;have wZ:=Jj wg;have wY:Hid (w1.heap.size=w.heap.size+1):=Jj wM;have wX:=Jj (VMod.keep wm ww);clear wu wM wm wO wg ww;(go_wp2_with fail);refine (q34 m n _ _ wX.out wQ.out).mono ?_;rintro e w3 ⟨⟨ve,rfl,hErr⟩,wl⟩;have q3:=q7 wl _ _ c0
 (have wk:Hid (Below w.heap.size w w3):=Jj (wZ.out.trans (wl.mono (by have:=wY.out;omega))));have wj:=Jj hErr;clear c0 wl hErr;rcases wj.out with ⟨hp,he⟩ | ⟨hp,hn,rfl⟩ | ⟨hp,hn,rfl⟩
 ·obtain ⟨te,xe,wv⟩:=x7 he hp;subst wv;have wh:=Jj hp;have HE:=Jj he;clear hp he;go_wp2_with fail
  (try simp only [Exit.inBlock,Exit.then])
  refine bodyPost_ret (results_tmp3 rfl _ _ _) rfl ?_;exact ⟨⟨_,_,_,rfl,.inl ⟨rfl,rfl,.inl ⟨wh.out,HE.out⟩⟩⟩,wk.out⟩
 ·have wh:=Jj (And.intro hp hn);clear hp hn;go_wp2_with fail
  (try simp only [Exit.inBlock,Exit.then])
  refine bodyPost_ret (results_tmp3 rfl _ _ _) rfl ?_;exact ⟨⟨_,_,_,rfl,.inl ⟨rfl,rfl,.inr ⟨wh.out.1,wh.out.2,rfl⟩⟩⟩,wk.out⟩
 ·obtain ⟨k,rfl⟩:∃ k:Nat,n=(k:Int):=⟨n.toNat,by omega⟩;(have tg:k<m.length:=by omega);have tc:Kept w w3:=q7 wk.out;obtain ⟨b,o,f,rfl,hF,⟨c0,z0⟩,⟨c1,z1⟩,⟨Ar,cr,c2,z2⟩,⟨Ab,cb,c3,z3⟩⟩:=(SFuns.keep tc tq.out).at_ tg;have wV:=qBq hp wQ.out (Jz hF.out);have ta:VFun w3 (.agg #[.int .i64 f.params,.int .i64 f.result,.slice Ar f.regs.length cr,.slice Ab f.blocks.length cb]) f:=⟨Ar,cr,Ab,cb,rfl,z2,z3,z0,z1⟩;have th:=Jj (q35 f _ w3 ta wV);have wh:=Jj hp;have tp:=Jj wV
  have tu:=Jj hF;(have hk0:(0:Int)<=k:=by omega);(have wm:(k:Int)<m.length:=by omega);clear hp hn tc wV ta hF z0 z1 z2 z3;(go_wp2_with fail);refine th.out.mono ?_;rintro e w4 ⟨Wa,H,Ga,K,vo,s,rfl,hH,hM,wW,wR,wU,tf⟩;obtain ⟨P,hP⟩:∃ P,H+4 * (f.blocks.length+1)=P:=⟨_,rfl⟩;obtain ⟨-,-,-,p3,p4,-⟩:=hM.cells hP
  have HM:=Jj hM;have tm:=Jj (qAQ wW wR wU);have tj:=Jj (qAP wW wR wU);have tw:Hid (Below w.heap.size w w4):=Jj (wk.out.trans (tf.mono wk.out.size));(have tr:Hid (w.heap.size<=H):=Jj (by have:=wk.out.size;omega));rw [hP];clear hM wW wR wU tf hP hH;(go_wp2_with fail);go_quiet (fail)
  go_wp2_with fail
  (try simp only [Exit.inBlock,Exit.then])
  refine bodyPost_ret (results_tmp3 rfl _ _ _) rfl ?_;have td:=below_drewN (J5 w4.heap.size w4) nq;refine ⟨⟨_,_,_,rfl,.inr ⟨wh.out,rfl,k,f,_,_,s.A,s.E,rfl,tu.out,rfl,rfl,by have:=tr.out;omega,by omega,(HM.out.below td).g3,(HM.out.below td).g4,tm.out,tj.out,tp.out⟩⟩,below_drewN tw.out nq⟩
theorem q0Y {f:qB} (h:jC f):jC (qL f):=by
 refine ⟨Nat.le_trans (kq _) h.1,h.2.1,h.2.2.1,λ b hb=>?_⟩;have hb:b∈qb f.blocks:=hb;unfold qb zJ at hb;obtain ⟨p,hp,wg⟩:=List.mem_filterMap.1 hb
 split at wg
 ·obtain rfl:=J3 wg;obtain ⟨i,hi⟩:=List.getElem?_of_mem hp;have wh:p.1∈f.blocks:=by
   have:=List.mem_of_mem_take hp;obtain ⟨i,hi⟩:=List.getElem?_of_mem this;rw [List.getElem?_zipIdx] at hi;obtain ⟨y,hy,rfl⟩:=Option.map_eq_some_iff.1 hi;exact Jz hy
  obtain ⟨h1,h2,h3,h4,h5⟩:=h.2.2.2 _ wh;refine ⟨h1,by simpa [q0H] using h2,by simpa [q0H] using h3,h4,λ x hx=>?_⟩;have hx:x∈p.1.phis.map (kB (qI f.blocks) (qH f.blocks p.2)):=hx;obtain ⟨y,hy,rfl⟩:=List.mem_map.1 hx;exact Nat.le_trans (q2C _ _ _) (h5 y hy)
 ·cases wg
def vQ (m:List qB) (n:Nat) (f:qB):List qB:=m.set n (qL f)
theorem q7j {m:List qB} {n:Nat} {f:qB} (hf:m[n]?=some f) (i:Nat):(vQ m n f).getD i default=if i=n then qL f else m.getD i default:=by
 have hl:=(Jk hf).1;unfold vQ;rw [JJ,JJ,List.getElem?_set]
 by_cases h:i=n
 ·subst h;simp [hl]
 ·rw [if_neg (λ e=>h e.symm),if_neg h]
theorem q7n {m:List qB} {n:Nat} {f:qB} (hf:m[n]?=some f) (i:Int):(qh (vQ m n f) i).params=(qh m i).params/\(qh (vQ m n f) i).result=(qh m i).result/\(qh (vQ m n f) i).regs=(qh m i).regs:=by
 unfold qh;rw [q7j hf]
 by_cases h:i.toNat=n
 ·rw [if_pos h,qv (by rw [h];exact hf)];exact ⟨rfl,rfl,rfl⟩
 ·rw [if_neg h];exact ⟨rfl,rfl,rfl⟩
theorem q6x {m:List qB} {n:Nat} {f:qB} (hf:m[n]?=some f) (g:qB) (x:qN):zm (vQ m n f) g x=zm m g x:=by
 obtain ⟨h1,h2,h3⟩:=q7n hf x.fn;(have ho:xZ (qh (vQ m n f) x.fn)=xZ (qh m x.fn):=by unfold xZ;rw [h1,h3]);(have hl:(vQ m n f).length=m.length:=by unfold vQ;exact List.length_set);unfold zm;rw [ho,h1,h2,h3,hl]
theorem q2x {m:List qB} {n:Nat} {f:qB} (hf:m[n]?=some f) (g:qB) (b:qE):qt (vQ m n f) g b=qt m g b:=by
 unfold qt;rw [show zm (vQ m n f) g=zm m g from funext λ x=>q6x hf g x]
theorem q57 {m:List qB} {n:Nat} {f:qB} (hf:m[n]?=some f) (g:qB):zh (vQ m n f) g=zh m g:=by
 unfold zh;rw [show qt (vQ m n f) g=qt m g from funext λ x=>q2x hf g x]
theorem q00 {m:List qB} {n:Nat} {f:qB} (hP:zx m) (hf:m[n]?=some f):zx (vQ m n f):=by
 obtain ⟨wh,wg⟩:=proper_iff.1 hP;rw [proper_iff];(refine ⟨by unfold vQ;rw [List.length_set];exact wh,λ g hg=>?_⟩);rw [q57 hf];unfold vQ at hg;rcases List.mem_or_eq_of_mem_set hg with h | rfl
 ·exact wg g h
 ·exact kg (wg f (Jz hf))
end Go.Proofs.YtfoggldjjnabcaaGreatDoor
