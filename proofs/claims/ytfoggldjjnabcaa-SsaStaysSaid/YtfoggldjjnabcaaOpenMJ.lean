/- The reference's Copy: a module in new memory. -/
import Derived.Test.YtfoggldjjnabcaaCopyJ
import Derived.Test.YtfoggldjjnabcaaStaDJ
import Derived.Test.YtfoggldjjnabcaaSameGJ
import Derived.BigQuiet
import Derived.Deep.RegionHeld3
import Derived.Test.YtfoggldjjnabcaaModAJ
import Derived.ProofKit
namespace Go.Proofs.Ytfoggldjjnabcaa
open Go.ChangeShapes Go.WideShapes Go.RowKit Go.Deep
set_option linter.unusedVariables false
set_option maxRecDepth 100000 in
set_option maxHeartbeats 8000000 in
theorem copy_any (m:List FunD) (v:Value) (w:World) (hv:VMod w v m) (hsm:SmallM m) :
    Calls Try.prog 7 #[v] w fun e w'=>(∃ r,e=.returned r∧∃ A c,r=.agg #[.slice A m.length c]∧SL w' 4 (RFunB (fun b=>w.heap.size≤b)) A c m)∧Below w.heap.size w w':=by
  obtain ⟨A,c,rfl,hm⟩:=hv;have hml:=hm.len;obtain ⟨i25,p1,p2,p3,p4⟩:=info_parts Try.info31;have HI25:=Lib.hid (And.intro p1 (And.intro p2 (And.intro p3 p4)));clear p1 p2 p3 p4;(go_enter Try.func7,Try.ntmps7);(go_wp2_with fail);obtain ⟨w1,hw1,hs1,hk1,hb1,hc1,-⟩:=named w #[.slice A m.length c] 24;obtain ⟨w2,hw2,hs2,hk2,hb2,-,-⟩:=named w1 #[.slice none 0 0] 24
  obtain ⟨w3,hw3,hs3,hk3,hb3,-,-⟩:=named w2 #[.slice none 0 0] 24;(have hbk2:w2.heap[w1.heap.size]?=some (.cells #[.slice none 0 0] 24 (0,0)):=by rw [hw2];exact heap_alloc_new _ _);(have hbk3:w3.heap[w2.heap.size]?=some (.cells #[.slice none 0 0] 24 (0,0)):=by rw [hw3];exact heap_alloc_new _ _);have hbr3:w3.heap[w1.heap.size]?=some (.cells #[.slice none 0 0] 24 (0,0)):=(hb3.block _ (by omega)).trans hbk2;have q0:w3.cell? ⟨w.heap.size,0,none⟩=some (.slice A m.length c):=hk3 _ _ (hk2 _ _ (hc1 0 _ rfl));have hK:=(hk1.trans hk2).trans hk3;have hB3:Below w.heap.size w w3:=(hb1.trans (hb2.mono (by omega))).trans (hb3.mono (by omega));rw [← hw1,← hw2,← hw3];rw [hs2,hs1] at hbk3 hs3
  rw [hs1] at hbr3;have HBK:=Lib.hid hbk3;have HBR:=Lib.hid hbr3;(have hlw:w.heap.size<w3.heap.size:=by omega);(have hlr:w.heap.size+1<w3.heap.size:=by omega);(have hlo:w.heap.size+1+1<w3.heap.size:=by omega);clear hw1 hw2 hw3 hs1 hs2 hs3 hc1 hk1 hk2 hk3 hb1 hb2 hb3 hbk2 hbk3 hbr3
  go_loopw [4] (fun i wr=>∃ (k:Nat) (u:Value) (cs:List Value),k≤m.length∧i=.int .i64 k∧BB w3.heap.size (w.heap.size+1+1) w3 wr ∧
    wr.heap[w.heap.size+1+1]?=some (.cells #[u] 24 (0,0)) ∧
    wr.ownsRow w3.heap.size 31 4 u k cs∧Rows 4 (CFun (fun b=>w3.heap.size≤b∧some b≠u.ownBlock) wr) (m.take k) cs) (fun i _=>m.length - (intOf i).toNat)
  case atStart=>exact ⟨0,.slice none 0 0,[],Nat.zero_le _,rfl,BB.refl _ _ _,HBK.out,World.ownsRow_nil _ _ _ _,rfl⟩
  case round =>
    obtain ⟨k,u,cs,hk,rfl,hbb,hgo,hown,hrows⟩:=hrel;have hsz:=hbb.size;have hkb:=hbb.kept;(have y0:=hkb _ _ ⟨by show w.heap.size<w3.heap.size;omega,by show w.heap.size≠w.heap.size+1+1;omega⟩ q0);have hkW:Kept w wr:=fun a v h=>by
      have hlt:=block_lt_of_cell h;exact hkb a v ⟨by omega,by omega⟩ (hK _ _ h)
    have z0:wr.cell? ⟨w.heap.size+1+1,0,none⟩=some u:=q5 hgo 0
    by_cases hlt:k<m.length
    · obtain ⟨bf,of,f,rfl,hf,⟨h0,h064⟩,⟨h1,h164⟩,⟨Ar,cr,h2,hregs⟩,Ab,cb,h3,hblks⟩:=(SFuns.keep hkW hm).at_ hlt;have hbf:bf<w3.heap.size:=by
        obtain ⟨b',o',f',e',_,⟨h',_⟩,_⟩:=hm.at_ hlt;simp only [Option.some.injEq,Addr.mk.injEq] at e';obtain ⟨rfl,rfl,-⟩:=e';have:=block_lt_of_cell h';dsimp only at this;omega
      have hsf:SmallF f:=hsm.2 f (List.mem_of_getElem? hf.out);have HSF:=Lib.hid hsf;clear hsf;(have hj0:(0:Int)≤k:=by omega);(have hj1:(k:Int)<m.length:=by omega);have hm40:m.length≤40:=hsm.1;have hS:∀ w',Below w3.heap.size wr w'→w'.cell? ⟨w.heap.size+1+1,0,none⟩=some u∧w'.cell? ⟨w.heap.size,0,none⟩=some (.slice (some ⟨bf,of,none⟩) m.length c) ∧
          w'.cell? ⟨bf,of+k * 4,none⟩=some (.int .i64 f.params)∧w'.cell? ⟨bf,of+k * 4+1,none⟩=some (.int .i64 f.result)∧w'.cell? ⟨bf,of+k * 4+2,none⟩=some (.slice Ar f.regs.length cr)∧w'.cell? ⟨bf,of+k * 4+3,none⟩=some (.slice Ab f.blocks.length cb):=fun w' h =>
        ⟨(h.cell (p:=⟨w.heap.size+1+1,0,none⟩) hlo).trans z0,(h.cell (p:=⟨w.heap.size,0,none⟩) (by show w.heap.size<w3.heap.size;omega)).trans y0,
          (h.cell (p:=⟨bf,of+k * 4,none⟩) hbf).trans h0,(h.cell (p:=⟨bf,of+k * 4+1,none⟩) hbf).trans h1,(h.cell (p:=⟨bf,of+k * 4+2,none⟩) hbf).trans h2,(h.cell (p:=⟨bf,of+k * 4+3,none⟩) hbf).trans h3⟩
      go_wp2_with fail
      refine qI (L:=11) (S:=fun w'=>w'.cell? ⟨w.heap.size+1+1,0,none⟩=some u∧w'.cell? ⟨w.heap.size,0,none⟩=some (.slice (some ⟨bf,of,none⟩) m.length c) ∧
          w'.cell? ⟨bf,of+k * 4,none⟩=some (.int .i64 f.params)∧w'.cell? ⟨bf,of+k * 4+1,none⟩=some (.int .i64 f.result)∧w'.cell? ⟨bf,of+k * 4+2,none⟩=some (.slice Ar f.regs.length cr)∧w'.cell? ⟨bf,of+k * 4+3,none⟩=some (.slice Ab f.blocks.length cb)) (by kernel_rfl) (by rfl) (by kernel_rfl) (by kernel_rfl) ?_
      change wpAnyH _ _ _ _ _ _ _ _ (World.drew _);have hS0:=hS wr.drew (Below.refl _ _).drew;refine tk 0 12 hS0 ?_;simp only [Act.put,aS,List.set_cons_zero,List.set_cons_succ];refine tk 1 13 hS0 ?_;simp only [Act.put,aS,List.set_cons_zero,List.set_cons_succ];refine tk 2 14 hS0 ?_;simp only [Act.put,aS,List.set_cons_zero,List.set_cons_succ];refine tk 3 15 hS0 ?_
      simp only [Act.put,aS,List.set_cons_zero,List.set_cons_succ];refine tk 4 16 hS0 ?_;simp only [Act.put,aS,List.set_cons_zero,List.set_cons_succ];refine tk 5 17 hS0 ?_;simp only [Act.put,aS,List.set_cons_zero,List.set_cons_succ];refine oneH (i:=6) (by kernel_rfl) (fun o ho K hK=>?_);(simp only [List.getElem?_toArray,List.getElem?_cons_zero,List.getElem?_cons_succ,Option.some.injEq] at ho;subst ho);(go_simp);refine hK.out _ _ hS0 ?_
      clear hK K;refine oneH (i:=7) (by kernel_rfl) (fun o ho K hK=>?_);(simp only [List.getElem?_toArray,List.getElem?_cons_zero,List.getElem?_cons_succ,Option.some.injEq] at ho;subst ho);(go_simp);refine (copyFunc_any f _ wr.drew ⟨Ar,cr,Ab,cb,rfl,hregs,hblks,h064,h164⟩ HSF.out).mono ?_;rintro e wA ⟨⟨r,rfl,c0,c1,c2,c3,rfl,hcf⟩,hbA0⟩;have hbA0:Below wr.heap.size wr wA:=(Below.refl wr.heap.size wr).drew.trans hbA0;have hcf:CFun (fun b=>wr.heap.size≤b) wA f [c0,c1,c2,c3]:=hcf;obtain ⟨A1,d1,A2,d2,e,hr1,hb1,-,-⟩:=hcf
      simp only [List.cons.injEq,and_true] at e;obtain ⟨rfl,rfl,rfl,rfl⟩:=e;have hsA:=hbA0.size;have hbA:Below w3.heap.size wr wA:=hbA0.mono hsz;(go_wp2_with fail);refine hK.out _ _ (hS _ hbA) ?_;clear hK K;refine oneH (i:=8) (by kernel_rfl) (fun o ho K hK=>?_);simp only [List.getElem?_toArray,List.getElem?_cons_zero,List.getElem?_cons_succ,Option.some.injEq] at ho;subst ho
      (go_simp);have hbB:Below w3.heap.size wr (wA.alloc (.cells #[.int .i64 f.params,.int .i64 f.result,.slice A1 f.regs.length d1,.slice A2 f.blocks.length d2] 31)):=hbA.alloc (by omega) _;refine hK.out _ _ (hS _ hbB) ?_;clear hK K;refine oneH (i:=9) (by kernel_rfl) (fun o ho K hK=>?_);(simp only [List.getElem?_toArray,List.getElem?_cons_zero,List.getElem?_cons_succ,Option.some.injEq] at ho;subst ho);have hgr0:wr.grownBy wA (some wr.heap.size):=⟨hbA0.os,hbA0.tape,hbA0.output,hbA0.size,fun k hk _=>hbA0.block k hk⟩;have hownA:wA.ownsRow w3.heap.size 31 4 u k cs:=World.ownsRow.kept hown hgr0 (own_ne hown (Nat.le_refl _));refine step_append_lies _ (by rfl) _ _ _ (by rfl) w3.heap.size 31 i25 (.agg #[.int .i64 0,.int .i64 0,.slice none 0 0,.slice none 0 0]) 4 64 Try.underlying22 HI25.out.1 HI25.out.2.1 HI25.out.2.2.1 HI25.out.2.2.2 rfl (by decide) u k cs (by rfl) (hownA.alloc _)
        ⟨wA.heap.size,0,none⟩ 1 1 [.int .i64 f.params,.int .i64 f.result,.slice A1 f.regs.length d1,.slice A2 f.blocks.length d2] (by rfl) (by rfl) (qf wA #[.int .i64 f.params,.int .i64 f.result,.slice A1 f.regs.length d1,.slice A2 f.blocks.length d2] _ rfl) (by simp [Value.oneCell']) (by decide) (by unfold maxLen;omega) (by omega) (by simp;omega) (wA.heap.size+1) (by simp) ?_
      intro g cap wC hownC hgrowC hlocC hltC;have hsC:=hgrowC.size;simp at hsC;have hgl:∀ x,u.ownBlock=some x→x<wr.heap.size:=fun x hx=>(hown.lt x hx).2;(have hbC:Below w3.heap.size wr wC:=hbB.grown hgrowC (by simp;omega) (fun k hk=>(hown.lt k hk).1));have hSC:=hS _ hbC;refine hK.out _ _ hSC ?_;clear hK K;simp only [Act.put,aS,List.set_cons_zero,List.set_cons_succ]
      refine tk 10 22 hSC ?_;simp only [Act.put,aS,List.set_cons_zero,List.set_cons_succ];refine wpAnyH_done (by kernel_rfl) ?_ _;refine lastH (by decide) (fun o ho K hK=>?_);(simp only [List.getElem?_toArray,List.getElem?_cons_zero,List.getElem?_cons_succ,Option.some.injEq] at ho;subst ho);have hgoC:wC.heap[w.heap.size+1+1]?=some (.cells #[u] 24 (0,0)):=(hbC.block _ hlo).trans hgo;have x0:wC.cell? ⟨w.heap.size+1+1,0,none⟩=some u:=q5 hgoC 0;have xf:wC.frozen? ⟨w.heap.size+1+1,0,none⟩=false:=q8 hgoC 0;go_simp
      refine hK.out _ _ ?_;clear hK K;obtain ⟨wF,hwF⟩:∃ wF,wF=wC.setCell ⟨w.heap.size+1+1,0,none⟩ (.slice (some ⟨g,0,none⟩) (k+1) cap):=⟨_,rfl⟩;(have hkC:KeptB (fun y=>y≠w.heap.size+1+1) wC wF:=by rw [hwF];exact qn wC ⟨w.heap.size+1+1,0,none⟩ _);have hkR:KeptB (fun y=>wr.heap.size≤y∧y<wA.heap.size) wA wF :=
        ((KeptB.of (qN wA _)).trans ((qm hgrowC).mono (fun y hy e=>by have:=hgl y e.symm;omega))).trans (hkC.mono (fun y hy=>by omega))
      have hBg:∀ y,wr.heap.size≤y→y<wA.heap.size→w3.heap.size≤y∧some y≠(Value.slice (some ⟨g,0,none⟩) (k+1) cap).ownBlock:=fun y h1 h2=>⟨by omega,fun e=>by
        have hyg:y=g:=Option.some.inj e;rcases hlocC with h | h
        · have:=hgl g h;omega
        · omega⟩
      have hrF:=SIntsB.go (B':=fun y=>w3.heap.size≤y∧some y≠(Value.slice (some ⟨g,0,none⟩) (k+1) cap).ownBlock) (w':=wF) hkR (fun y hy=>hBg y hy.1 hy.2) (SIntsB.lt hr1);have hbF:=SBlksB.go (B':=fun y=>w3.heap.size≤y∧some y≠(Value.slice (some ⟨g,0,none⟩) (k+1) cap).ownBlock) (w':=wF) hkR (fun y hy=>hBg y hy.1 hy.2) (SBlksB.lt hb1);have hnew:CFun (fun y=>w3.heap.size≤y∧some y≠(Value.slice (some ⟨g,0,none⟩) (k+1) cap).ownBlock) wF f [.int .i64 f.params,.int .i64 f.result,.slice A1 f.regs.length d1,.slice A2 f.blocks.length d2]:=⟨A1,d1,A2,d2,rfl,hrF,hbF,h064,h164⟩;have hkF:KeptB (fun y=>(w3.heap.size≤y∧some y≠u.ownBlock)∧y<wr.heap.size) wr wF :=
        ((((BB.of_below (g:=w.heap.size+1+1) hbA0 (Nat.le_refl _)).kept.mono (fun y hy=>⟨hy.2,by omega⟩)).trans (KeptB.of (qN wA _))).trans ((qm hgrowC).mono (fun y hy=>hy.1.2))).trans (hkC.mono (fun y hy=>by omega))
      have hrowsF:=Rows.push (F:=CFun) (fun _ _ _ _ _ _ h1 h2 h3=>CFun.go h1 h2 h3) (fun _ _ _ _ h=>CFun.lt h) hrows hkF (u':=.slice (some ⟨g,0,none⟩) (k+1) cap) (fun y h1 h2 h3 e=>by
          have hyg:y=g:=Option.some.inj e;rcases hlocC with h | h
          · subst hyg;exact h2 h.symm
          · omega) rfl hnew
      (have hbbF:BB w3.heap.size (w.heap.size+1+1) w3 wF:=by rw [hwF];exact (hbb.trans (BB.of_below hbC (Nat.le_refl _))).setCell (.inl rfl) _);have hgoF:wF.heap[w.heap.size+1+1]?=some (.cells #[.slice (some ⟨g,0,none⟩) (k+1) cap] 24 (0,0)):=by
        rw [hwF];exact qG (i:=0) (.slice (some ⟨g,0,none⟩) (k+1) cap) hgoC
      (have hownF:wF.ownsRow w3.heap.size 31 4 (.slice (some ⟨g,0,none⟩) (k+1) cap) (k+1) (cs++[.int .i64 f.params,.int .i64 f.result,.slice A1 f.regs.length d1,.slice A2 f.blocks.length d2]):=by rw [hwF];exact ownsRow_setCell_below hownC hlo _);rw [← qC hf.out] at hrowsF;have HR:=Lib.hid hrowsF;have HO:=Lib.hid hownF;have HG:=Lib.hid hgoF;have HB:=Lib.hid hbbF;rw [← hwF];clear hrowsF hownF hgoF hkF hkR hnew hbbF hkC hwF x0 xf hgoC hrF hbF hBg;go_wp2_with fail
      go_roundw
      case rel=>exact ⟨k+1,_,_,by omega,by go_num,HB.out,HG.out,HO.out,HR.out⟩
      case measure=>simp [intOf];omega
    · (obtain rfl:k=m.length:=by omega);rw [List.take_of_length_le (Nat.le_refl _)] at hrows;have hblv:VS wr 4 (RFunB (fun x=>w3.heap.size≤x)) u m:=hrows.reads hown (fun g o x c h1 h2 h3 _ h4=>CFun.reads (B:=fun x=>w3.heap.size≤x) h2 (CFun.go (KeptB.of (Kept.refl _)) (fun _ h=>h.1) h3) h4);obtain ⟨A3,d3,rfl,hbl3⟩:=hblv;clear hrows hown;have hbr:=(hbb.block _ hlr (by omega)).trans HBR.out;have r0:wr.cell? ⟨w.heap.size+1,0,none⟩=some (.slice none 0 0):=q5 hbr 0;have r1:wr.frozen? ⟨w.heap.size+1,0,none⟩=false:=q8 hbr 0;go_wp2_with fail
      have hbkF:(wr.setCell ⟨w.heap.size+1,0,none⟩ (.slice A3 m.length d3)).heap[w.heap.size+1]?=some (.cells #[.slice A3 m.length d3] 24 (0,0)):=qG (i:=0) _ hbr;refine bodyPost_ret (results_cell_row rfl _ _ (w.heap.size+1) 24 #[.slice A3 m.length d3] (0,0) _ (by rfl) hbkF Try.underlying24 (by rfl) (by kernel_rfl)) rfl ?_;(refine ⟨⟨_,rfl,A3,d3,rfl,?_⟩,((hB3.trans ((hbb.below (m:=w.heap.size) (by omega) (by omega)))).setCell (by show _≤w.heap.size+1;omega) _)⟩);exact SL.imp (RFunB.go (B:=fun x=>w3.heap.size≤x) ((qn wr ⟨w.heap.size+1,0,none⟩ _).mono (fun y hy=>by show y≠w.heap.size+1;omega)) (fun y hy=>by omega)) hbl3
set_option linter.unusedSimpArgs false
theorem VFunG.plain {B:Nat→Prop} {w:World} {v:Value} {f:FunD} (h:VFunG B w v f):VFun w v f:=by
  obtain ⟨Ar,cr,Ab,cb,e,h1,h2,h3,h4⟩:=h;exact ⟨Ar,cr,Ab,cb,e,SL.imp RIntB.plain h1,SL.imp RBlkB.plain h2,h3,h4⟩
set_option maxRecDepth 100000 in
set_option maxHeartbeats 16000000 in
theorem ssaStays_walk (OI:OfIns) (m:List FunD) (a:Int) (v:Value) (w:World) (hv:VMod w v m) :
    Calls Try.prog 3 #[v,.int .i64 a] w fun e w'=>e=.returned (.bool true)∧Below w.heap.size w w':=by
  have hv0:=hv;obtain ⟨Am,cm,rfl,hms⟩:=hv;have hml:=hms.len;have HV:=Lib.hid hv0;have HOI:=Lib.hid OI;clear hv0 hms OI;(go_enter Try.func3,Try.ntmps3);(go_wp2_with fail);obtain ⟨w1,hw1,hs1,hk1,hbel1,hc1,-⟩:=named w #[.slice Am m.length cm] 24
  rw [← hw1];refine (up12_any HOI.out w1).mono ?_;rintro e w2 ⟨rfl,hb2⟩;have c0:=q6 hb2 _ _ (hc1 0 _ rfl);have HB2:Hid (Below w.heap.size w w2):=Lib.hid (hbel1.trans (hb2.mono (by omega)));obtain ⟨N,hN⟩:∃ N,N=w.heap.size:=⟨_,rfl⟩;rw [← hN] at c0 ⊢;have HN:=Lib.hid hN;clear hw1 hs1 hbel1 hc1 hb2 hk1 hN
  (go_wp2_with fail);refine (small_any m _ w2 (VMod.keep (q6 HB2.out) HV.out)).mono ?_;rintro e w3 ⟨⟨bs,rfl,hsm⟩,hb3⟩;have c0:=q6 hb3 _ _ c0;have HB3:Hid (Below w.heap.size w w3):=Lib.hid (HB2.out.trans (hb3.mono HB2.out.size));clear hb3;cases bs
  · clear hsm;(go_wp2_with fail);(go_ret);exact ⟨rfl,HB3.out⟩
  have HSM:=Lib.hid (hsm rfl);clear hsm;obtain ⟨gd,b0,hone,htd⟩:=bd_one m a HSM.out;have HONE:=Lib.hid hone;have HTD:=Lib.hid htd;clear hone htd;(go_wp2_with fail);refine (copy_any m _ w3 (VMod.keep (q6 HB3.out) HV.out) HSM.out).mono ?_;rintro e w4 ⟨⟨r,rfl,A1,c1,rfl,hcp⟩,hb4⟩
  have c0:=q6 hb4 _ _ c0;have HB4:Hid (Below w.heap.size w w4):=Lib.hid (HB3.out.trans (hb4.mono HB3.out.size));have HCP:Hid (SL w4 4 RFun A1 c1 m):=Lib.hid (SL.imp RFunB.plain hcp);clear hb4 hcp;(go_upto_region 6 with fail);obtain ⟨w5,hw5,hs5,hk5,hb5,hc5,-⟩:=named w4 #[.slice A1 m.length c1] 24;rw [← hw5];obtain ⟨O,hO⟩:∃ O,O=w4.heap.size:=⟨_,rfl⟩;rw [← hO] at hc5 hs5 ⊢
  have o0:=hc5 0 _ rfl;have c0:=hk5 _ _ c0;have HB5:Hid (Below w.heap.size w w5):=Lib.hid (HB4.out.trans (hb5.mono HB4.out.size));have HVO:Hid (VMod w5 (.agg #[.slice A1 m.length c1]) m):=Lib.hid ⟨A1,c1,rfl,SFuns.keep hk5 HCP.out⟩;have HCC:Hid (w5.cell? ⟨N,0,none⟩=some (.slice Am m.length cm)∧w5.cell? ⟨O,0,none⟩=some (.slice A1 m.length c1)):=Lib.hid ⟨c0,o0⟩;clear hw5 hs5 hk5 hb5 hc5 hO HCP;(go_wp2_with fail);refine (build_any HOI.out m a _ w5 HVO.out HSM.out).mono ?_;intro e w6 hte
  obtain ⟨⟨vf,ve,rfl,hvg,hve⟩,hb6⟩:=HTD.out _ _ _ hte;obtain ⟨Ar,cr,Ab,cb,rfl,hgr,hgb,hg0,hg1⟩:=hvg;have HVG6:Hid (VFun w6 (.agg #[.int .i64 gd.params,.int .i64 gd.result,.slice Ar gd.regs.length cr,.slice Ab gd.blocks.length cb]) gd):=Lib.hid ⟨Ar,cr,Ab,cb,rfl,SL.imp RIntB.plain hgr,SL.imp RBlkB.plain hgb,hg0,hg1⟩;have HGR6:Hid (SL w6 1 (WInt (BN w5.heap.size w6.heap.size)) Ar cr gd.regs):=Lib.hid (SL.imp WInt.of hgr);have HGB6:Hid (SL w6 5 (WBlkS (BN w5.heap.size w6.heap.size)) Ab cb gd.blocks):=Lib.hid (SL.imp WBlkS.of hgb);have HB6:Hid (Below w5.heap.size w5 w6):=Lib.hid hb6;have HVE:=Lib.hid hve;have hnil:∃ x0,(ve=.nilIface∧b0=true∧x0=true)∨(b0=false∧x0=false∧∃ t x,ve=.iface t x):=by
    cases b0 with
    | true=>exact ⟨true,.inl ⟨by rw [if_pos rfl] at hve;exact hve,rfl,rfl⟩⟩
    | false=>exact ⟨false,.inr ⟨rfl,rfl,by rw [if_neg (by simp)] at hve;exact hve⟩⟩
  have HNIL:=Lib.hid hnil;have c0:=q6 hb6 _ _ c0;have o0:=q6 hb6 _ _ o0;clear hte hgr hgb hg0 hg1 hb6 hve hnil;(go_upto_region 7 with fail);obtain ⟨w7,hw7,hs7,hk7,hb7,hc7,-⟩:=named w6 #[.int .i64 gd.params,.int .i64 gd.result,.slice Ar gd.regs.length cr,.slice Ab gd.blocks.length cb] 31;rw [← hw7];obtain ⟨M,hM⟩:∃ M,M=w6.heap.size:=⟨_,rfl⟩;rw [← hM] at hc7 hs7 ⊢
  rw [← hM] at HGR6 HGB6;have c0:=hk7 _ _ c0;have o0:=hk7 _ _ o0;have g0:=hc7 0 _ rfl;have g1:=hc7 1 _ rfl;have g2:=hc7 2 _ rfl;have g3:=hc7 3 _ rfl;have HM:Hid (M=w6.heap.size):=Lib.hid hM;have HB7:Hid (Below w5.heap.size w5 w7):=Lib.hid (HB6.out.trans (hb7.mono HB6.out.size))
  have HVG7:Hid (VFun w7 (.agg #[.int .i64 gd.params,.int .i64 gd.result,.slice Ar gd.regs.length cr,.slice Ab gd.blocks.length cb]) gd):=Lib.hid (VFun.keep hk7 HVG6.out);(have hsm7:M<w7.heap.size:=by omega);have HM7:=Lib.hid hsm7;have HGR7:Hid (CS w7 M 2 1 (WInt (BN w5.heap.size M)) gd.regs):=Lib.hid ⟨Ar,cr,g2,SL.imp (WInt.go (WStp.below hb7)) HGR6.out⟩;have HGB7:Hid (CS w7 M 3 5 (WBlkS (BN w5.heap.size M)) gd.blocks):=Lib.hid ⟨Ab,cb,g3,SL.imp (WBlkS.go (WStp.below hb7)) HGB6.out⟩;clear hw7 hs7 hk7 hb7 hc7 hM HVG6 HGR6 HGB6 HB6 hsm7;(go_wp2_with fail);refine (copyFunc_any gd _ w7 HVG7.out HONE.out.small).mono ?_;rintro e w8 ⟨⟨r,rfl,d0,d1,d2,d3,rfl,Ac,cc,Bc,dc,hcs,hcr,hcb,hp64,hr64⟩,hb8⟩
  simp only [List.cons.injEq,and_true] at hcs;obtain ⟨rfl,rfl,rfl,rfl⟩:=hcs;have c0:=q6 hb8 _ _ c0;have o0:=q6 hb8 _ _ o0;have HB8:Hid (Below w5.heap.size w5 w8):=Lib.hid (HB7.out.trans (hb8.mono HB7.out.size));have HB78:=Lib.hid hb8;have HKR:=Lib.hid hcr;have HKB:=Lib.hid hcb;have HK64:=Lib.hid (And.intro hp64 hr64)
  clear hb8 hcr hcb hp64 hr64 g0 g1 g2 g3;(go_upto_region 8 with fail);obtain ⟨w9,hw9,hs9,hk9,hb9,hc9,-⟩:=named w8 #[.int .i64 gd.params,.int .i64 gd.result,.slice Ac gd.regs.length cc,.slice Bc gd.blocks.length dc] 31;rw [← hw9];obtain ⟨K,hK⟩:∃ K,K=w8.heap.size:=⟨_,rfl⟩;rw [← hK] at hc9 hs9 ⊢;have c0:=hk9 _ _ c0;have o0:=hk9 _ _ o0;have HMK:Hid (M<K∧w7.heap.size≤K):=Lib.hid ⟨by have:=HB78.out.size;have:=HM7.out;omega,by have:=HB78.out.size;omega⟩
  have HKC:Hid (w9.cell? ⟨K,0,none⟩=some (.int .i64 gd.params)∧w9.cell? ⟨K,1,none⟩=some (.int .i64 gd.result)∧w9.cell? ⟨K,2,none⟩=some (.slice Ac gd.regs.length cc)∧w9.cell? ⟨K,3,none⟩=some (.slice Bc gd.blocks.length dc)):=Lib.hid ⟨hc9 0 _ rfl,hc9 1 _ rfl,hc9 2 _ rfl,hc9 3 _ rfl⟩;have HB9:Hid (Below w5.heap.size w5 w9):=Lib.hid (HB8.out.trans (hb9.mono HB8.out.size));have HB79:Hid (Below w7.heap.size w7 w9):=Lib.hid (HB78.out.trans (hb9.mono HB78.out.size));have HKR9:Hid (SL w9 1 (RIntB (fun b=>w7.heap.size≤b)) Ac cc gd.regs):=Lib.hid (SIntsB.go (KeptB.of hk9) (fun _ h=>h) HKR.out);have HKB9:Hid (SL w9 5 (RBlkB (fun b=>w7.heap.size≤b)) Bc dc gd.blocks):=Lib.hid (SBlksB.go (KeptB.of hk9) (fun _ h=>h) HKB.out);clear hw9 hs9 hk9 hb9 hc9 hK HKR HKB HB8 HB78;(go_wp2_with fail);refine (same_any m m _ _ w9 (VMod.keep (q6 HB9.out) HVO.out) (VMod.keep (q6 (HB5.out.trans (HB9.out.mono HB5.out.size))) HV.out)).mono ?_;rintro e wa ⟨rfl,hba⟩
  have hse:same m m=true:=qr rfl;rw [hse];have HBA:Hid (Below w5.heap.size w5 wa):=Lib.hid (HB9.out.trans (hba.mono HB9.out.size));have HB9A:=Lib.hid hba;have hst7:=WStp.below (HB79.out.trans (hba.mono HB79.out.size));have HWF:Hid (WF (BN w5.heap.size M) M gd wa wa):=Lib.hid ⟨CSW.go hst7 (WInt.go hst7) HGR7.out,CSW.go hst7 (WBlkS.go hst7) HGB7.out,FrX.refl _ _⟩;clear hba hse hst7 c0 o0 HGR7 HGB7;obtain ⟨N5,hN5⟩:∃ N5,N5=w5.heap.size:=⟨_,rfl⟩;rw [← hN5] at HWF
  have HN5:=Lib.hid hN5;clear hN5;go_wp2_with fail
  go_loopw [11] (fun i wr=>∃ k:Nat,k≤gd.regs.length∧i=.int .i64 k∧Hid (WF (BN N5 M) M gd wa wr)) (fun i _=>gd.regs.length - (intOf i).toNat)
  case atStart=>exact ⟨0,Nat.zero_le _,rfl,HWF⟩
  case round =>
    obtain ⟨k,hk,rfl,hgi⟩:=hrel;obtain ⟨Ax,cx,x2,hsl⟩:=hgi.out.regs;have hrl:gd.regs.length≤9223372036854775807:=hsl.len
    by_cases hlt:k<gd.regs.length
    · obtain ⟨b,o,x,rfl,hx,hN,⟨y,hy⟩,hfz⟩:=hsl.at_ hlt;rw [Nat.mul_one] at hy hfz;(have hk0:(0:Int)≤k:=by omega);(have hk1:(k:Int)<gd.regs.length:=by omega);clear hsl hx;go_wp2_with fail
      go_roundw
      case rel=>exact ⟨k+1,by omega,by go_num,Lib.hid (hgi.out.set hy hN _)⟩
      case measure=>simp [intOf];omega
    · (obtain rfl:k=gd.regs.length:=by omega);obtain ⟨wo,rfl⟩:∃ wo,wo=wr:=⟨wr,rfl⟩;clear hsl;(go_wp2_with fail);clear x2;have hbq:gd.blocks.length≤70:=HONE.out.small.1
      go_loopw [12] (fun i wr=>∃ k:Nat,k≤gd.blocks.length∧i=.int .i64 k∧Hid (WF (BN N5 M) M gd wa wr)) (fun i _=>gd.blocks.length - (intOf i).toNat)
      case atStart=>exact ⟨0,Nat.zero_le _,rfl,hgi⟩
      case round =>
        obtain ⟨k,hk,rfl,hgi⟩:=hrel;obtain ⟨wp,rfl⟩:∃ wp,wp=wr:=⟨wr,rfl⟩;obtain ⟨Ab,cb,x3,hsb⟩:=hgi.out.blks
        by_cases hlt:k<gd.blocks.length
        · have hkb:gd.blocks[k]?=some gd.blocks[k]:=List.getElem?_eq_getElem hlt;generalize gd.blocks[k]=kb at hkb;have HKB:=Lib.hid hkb;(have hk0:(0:Int)≤k:=by omega);(have hk1:(k:Int)<gd.blocks.length:=by omega);clear hsb hkb;(go_wp2_with fail);clear x3
          go_loopw [13] (fun i wr=>∃ q:Nat,q≤kb.term.to.length∧i=.int .i64 q∧Hid (WF (BN N5 M) M gd wa wr)) (fun i _=>kb.term.to.length - (intOf i).toNat)
          case atStart=>exact ⟨0,Nat.zero_le _,rfl,hgi⟩
          case round =>
            obtain ⟨q,hq,rfl,hgi⟩:=hrel;obtain ⟨wq,rfl⟩:∃ wq,wq=wr:=⟨wr,rfl⟩;obtain ⟨Ab,cb,x3,hsb⟩:=hgi.out.blks;obtain ⟨b,o,kb',rfl,hkb',⟨Ai,ci,xi,hsi⟩,⟨At,ct,xt,hst⟩⟩:=hsb.at_ hlt;obtain rfl:kb=kb':=Option.some.inj (HKB.out.symm.trans hkb'.out);have htl:=hst.len;have hil:=hsi.len
            by_cases hql:q<kb.term.to.length
            · obtain ⟨b2,o2,x,rfl,hx,hN,⟨y,hy⟩,hfz⟩:=hst.at_ hql;rw [Nat.mul_one] at hy hfz;(have hq0:(0:Int)≤q:=by omega);(have hq1:(q:Int)<kb.term.to.length:=by omega);clear hsb hsi hst hx hkb' xi;go_wp2_with fail
              go_roundw
              case rel=>exact ⟨q+1,by omega,by go_num,Lib.hid (hgi.out.set hy hN _)⟩
              case measure=>simp [intOf];omega
            · (obtain rfl:q=kb.term.to.length:=by omega);clear hsb hsi hst hkb' xi;(go_wp2_with fail);clear x3 xt
              go_loopw [14] (fun i wr=>∃ j:Nat,j≤kb.ins.length∧i=.int .i64 j∧Hid (WF (BN N5 M) M gd wa wr)) (fun i _=>kb.ins.length - (intOf i).toNat)
              case atStart=>exact ⟨0,Nat.zero_le _,rfl,hgi⟩
              case round =>
                obtain ⟨j,hj,rfl,hgi⟩:=hrel;obtain ⟨wj,rfl⟩:∃ wj,wj=wr:=⟨wr,rfl⟩;obtain ⟨Ab,cb,x3,hsb⟩:=hgi.out.blks;obtain ⟨b,o,kb',rfl,hkb',⟨Ai,ci,xi,hsi⟩,-⟩:=hsb.at_ hlt;obtain rfl:kb=kb':=Option.some.inj (HKB.out.symm.trans hkb'.out)
                by_cases hjl:j<kb.ins.length
                · have hkd:kb.ins[j]?=some kb.ins[j]:=List.getElem?_eq_getElem hjl;generalize kb.ins[j]=kd at hkd;have HKD:=Lib.hid hkd;(have hj0:(0:Int)≤j:=by omega);(have hj1:(j:Int)<kb.ins.length:=by omega);clear hsb hsi hkd hkb';(go_wp2_with fail);clear x3 xi
                  go_loopw [15] (fun i wr=>∃ n:Nat,n≤kd.args.length∧i=.int .i64 n∧Hid (WF (BN N5 M) M gd wa wr)) (fun i _=>kd.args.length - (intOf i).toNat)
                  case atStart=>exact ⟨0,Nat.zero_le _,rfl,hgi⟩
                  case round =>
                    obtain ⟨n,hn',rfl,hgi⟩:=hrel;obtain ⟨Ab,cb,x3,hsb⟩:=hgi.out.blks;obtain ⟨b,o,kb',rfl,hkb',⟨Ai,ci,xi,hsi⟩,-⟩:=hsb.at_ hlt;obtain rfl:kb=kb':=Option.some.inj (HKB.out.symm.trans hkb'.out);obtain ⟨b2,o2,kd',rfl,hkd',Aa,ca,xa,hsa⟩:=hsi.at_ hjl;obtain rfl:kd=kd':=Option.some.inj (HKD.out.symm.trans hkd'.out);have hal:=hsa.len;have hil:=hsi.len
                    by_cases hnl:n<kd.args.length
                    · obtain ⟨b3,o3,x,rfl,hx,hN,⟨y,hy⟩,hfz⟩:=hsa.at_ hnl;rw [Nat.mul_one] at hy hfz;(have hn0:(0:Int)≤n:=by omega);(have hn1:(n:Int)<kd.args.length:=by omega);clear hsb hsi hsa hx hkb' hkd';go_wp2_with fail
                      go_roundw
                      case rel=>exact ⟨n+1,by omega,by go_num,Lib.hid (hgi.out.set hy hN _)⟩
                      case measure=>simp [intOf];omega
                    · (obtain rfl:n=kd.args.length:=by omega);clear hsb hsi hsa hkb' hkd';go_wp2_with fail
                      go_roundw
                      case rel=>exact ⟨j+1,by omega,by go_num,hgi⟩
                      case measure=>simp [intOf];omega
                · (obtain rfl:j=kb.ins.length:=by omega);have hil:=hsi.len;clear hsb hsi hkb';go_wp2_with fail
                  go_roundw
                  case rel=>exact ⟨k+1,by omega,by go_num,hgi⟩
                  case measure=>simp [intOf];omega
        · (obtain rfl:k=gd.blocks.length:=by omega);have HFR:=Lib.hid hgi.out.fr;have hbw:Below w5.heap.size w5 wp:=by
            refine HBA.out.trans (HFR.out.below HBA.out.size (fun k hk=>?_));rw [← HN5.out];exact hk.1
          have c0:=q6 hbw _ _ HCC.out.1;have o0:=q6 hbw _ _ HCC.out.2;(have hap:∀ b,w7.heap.size≤b→¬ BN N5 M b:=fun b hb hn=>by have:=HM7.out;have:=hn.2;omega);have hkk:KeptB (fun b=>w7.heap.size≤b) w9 wp:=fun a v hb ha=>by
            have h1:=q6 HB9A.out _ _ ha;exact (World.cell?_of_block (HFR.out.block a.block (block_lt_of_cell h1) (hap _ hb))).trans h1
          have HKR:=Lib.hid (SIntsB.go hkk (fun _ h=>h) HKR9.out);have HKB:=Lib.hid (SBlksB.go hkk (fun _ h=>h) HKB9.out);obtain ⟨k0,k1,k2,k3⟩:=HKC.out;have k0:=hkk _ _ HMK.out.2 k0;have k1:=hkk _ _ HMK.out.2 k1;have k2:=hkk _ _ HMK.out.2 k2;have k3:=hkk _ _ HMK.out.2 k3;have HBW:=Lib.hid hbw;clear hsb hgi hap hkk hbw
          (go_wp2_with fail);refine (build_any HOI.out m a _ wp (VMod.keep (q6 HBW.out) HVO.out) HSM.out).mono ?_;intro e wb hte;obtain ⟨⟨vh,vk,rfl,hvg,hve⟩,hbb⟩:=HTD.out _ _ _ hte;obtain ⟨Ar2,cr2,Ab2,cb2,rfl,hgr,hgb,hg0,hg1⟩:=hvg;have HBB:Hid (Below w5.heap.size w5 wb):=Lib.hid (HBW.out.trans (hbb.mono HBW.out.size));have HVH:Hid (VFun wb (.agg #[.int .i64 gd.params,.int .i64 gd.result,.slice Ar2 gd.regs.length cr2,.slice Ab2 gd.blocks.length cb2]) gd):=Lib.hid ⟨Ar2,cr2,Ab2,cb2,rfl,SL.imp RIntB.plain hgr,SL.imp RBlkB.plain hgb,hg0,hg1⟩;have HVK:Hid (VFun wb (.agg #[.int .i64 gd.params,.int .i64 gd.result,.slice Ac gd.regs.length cc,.slice Bc gd.blocks.length dc]) gd):=Lib.hid ⟨Ac,cc,Bc,dc,rfl,SL.imp RIntB.plain (SIntsB.go (KeptB.of (q6 hbb)) (fun _ h=>h) HKR.out),SL.imp RBlkB.plain (SBlksB.go (KeptB.of (q6 hbb)) (fun _ h=>h) HKB.out),HK64.out.1,HK64.out.2⟩;have c0:=q6 hbb _ _ c0
          have o0:=q6 hbb _ _ o0;have k0:=q6 hbb _ _ k0;have k1:=q6 hbb _ _ k1;have k2:=q6 hbb _ _ k2;have k3:=q6 hbb _ _ k3;have hnn:(ve=.nilIface∧vk=.nilIface)∨((∃ t x,ve=.iface t x)∧∃ t x,vk=.iface t x):=by
            obtain ⟨x0,⟨e1,e2,-⟩ | ⟨e2,-,e1⟩⟩:=HNIL.out
            · exact .inl ⟨e1,by rw [e2,if_pos rfl] at hve;exact hve⟩
            · exact .inr ⟨e1,by rw [e2,if_neg (by simp)] at hve;exact hve⟩
          have HNN:=Lib.hid hnn;clear hte hgr hgb hg0 hg1 hbb hve hnn;(go_upto_region 29 with fail);obtain ⟨wc,hwc,hsc,hkc,hbc,hcc,-⟩:=named wb #[.int .i64 gd.params,.int .i64 gd.result,.slice Ar2 gd.regs.length cr2,.slice Ab2 gd.blocks.length cb2] 31;rw [← hwc];obtain ⟨P2,hP2⟩:∃ P2,P2=wb.heap.size:=⟨_,rfl⟩;rw [← hP2] at hcc ⊢;have p0:=hcc 0 _ rfl;have p1:=hcc 1 _ rfl
          have p2:=hcc 2 _ rfl;have p3:=hcc 3 _ rfl;have HBC:Hid (Below w5.heap.size w5 wc):=Lib.hid (HBB.out.trans (hbc.mono HBB.out.size));have hS:∀ W,Below wc.heap.size wc W→W.cell? ⟨O,0,none⟩=some (.slice A1 m.length c1)∧W.cell? ⟨N,0,none⟩=some (.slice Am m.length cm)∧W.cell? ⟨P2,0,none⟩=some (.int .i64 gd.params)∧W.cell? ⟨P2,1,none⟩=some (.int .i64 gd.result)∧W.cell? ⟨P2,2,none⟩=some (.slice Ar2 gd.regs.length cr2)∧W.cell? ⟨P2,3,none⟩=some (.slice Ab2 gd.blocks.length cb2)∧W.cell? ⟨K,0,none⟩=some (.int .i64 gd.params)∧W.cell? ⟨K,1,none⟩=some (.int .i64 gd.result)∧W.cell? ⟨K,2,none⟩=some (.slice Ac gd.regs.length cc)∧W.cell? ⟨K,3,none⟩=some (.slice Bc gd.blocks.length dc):=fun W hW =>
            ⟨q6 hW _ _ (hkc _ _ o0),q6 hW _ _ (hkc _ _ c0),q6 hW _ _ p0,q6 hW _ _ p1,q6 hW _ _ p2,q6 hW _ _ p3,q6 hW _ _ (hkc _ _ k0),q6 hW _ _ (hkc _ _ k1),q6 hW _ _ (hkc _ _ k2),q6 hW _ _ (hkc _ _ k3)⟩
          have HSAME:Hid (∀ W,Below wc.heap.size wc W→Calls Try.prog 10 #[.agg #[.slice A1 m.length c1],.agg #[.slice Am m.length cm]] W fun e w'=>e=.returned (.bool true)∧Below W.heap.size W w'):=Lib.hid (fun W hW=>by
            have hb:=HBC.out.trans (hW.mono HBC.out.size);have h:=same_any m m _ _ W (VMod.keep (q6 hb) HVO.out) (VMod.keep (q6 (HB5.out.trans (hb.mono HB5.out.size))) HV.out);rw [show same m m=true from qr rfl] at h
            exact h)
          have HSF:Hid (∀ W,Below wc.heap.size wc W→Calls Try.prog 11 #[.agg #[.int .i64 gd.params,.int .i64 gd.result,.slice Ar2 gd.regs.length cr2,.slice Ab2 gd.blocks.length cb2],.agg #[.int .i64 gd.params,.int .i64 gd.result,.slice Ac gd.regs.length cc,.slice Bc gd.blocks.length dc]] W fun e w'=>e=.returned (.bool true)∧Below W.heap.size W w'):=Lib.hid (fun W hW=>by
            have hk:=hkc.trans (q6 hW);have h:=sameFunc_any gd gd _ _ W (VFun.keep hk HVH.out) (VFun.keep hk HVK.out);rw [show same gd gd=true from qr rfl] at h
            exact h)
          clear hwc hsc hkc hbc hcc hP2 p0 p1 p2 p3 c0 o0 k0 k1 k2 k3;rcases HNN.out with ⟨rfl,rfl⟩ | ⟨⟨t1,x1,rfl⟩,t2,x2,rfl⟩;all_goals
            go_region_held3 (fun W=>W.cell? ⟨O,0,none⟩=some (.slice A1 m.length c1)∧W.cell? ⟨N,0,none⟩=some (.slice Am m.length cm)∧W.cell? ⟨P2,0,none⟩=some (.int .i64 gd.params)∧W.cell? ⟨P2,1,none⟩=some (.int .i64 gd.result)∧W.cell? ⟨P2,2,none⟩=some (.slice Ar2 gd.regs.length cr2)∧W.cell? ⟨P2,3,none⟩=some (.slice Ab2 gd.blocks.length cb2)∧W.cell? ⟨K,0,none⟩=some (.int .i64 gd.params)∧W.cell? ⟨K,1,none⟩=some (.int .i64 gd.result)∧W.cell? ⟨K,2,none⟩=some (.slice Ac gd.regs.length cc)∧W.cell? ⟨K,3,none⟩=some (.slice Bc gd.blocks.length dc))
              (first
                | exact hS _ HBI.out
                | exact hS _ HBS.out
                | (refine hS _ ?_;repeat (first | exact Below.refl _ _ | refine Below.drew ?_)))
              (first
                | (go_at_call 10;refine (HSAME.out _ (Below.refl wc.heap.size wc).drew).mono ?_;rintro e wd ⟨rfl,hbd⟩;have HBS:=Lib.hid ((Below.refl wc.heap.size wc).drew.trans hbd))
                | (go_at_call 11;refine (HSF.out _ HBS.out).mono ?_;rintro e we ⟨rfl,hbe⟩;have HBI:=Lib.hid (HBS.out.trans (hbe.mono HBS.out.size))))
            (go_wp2_with fail);(go_ret);exact ⟨rfl,HB5.out.trans ((HBC.out.trans (HBI.out.mono HBC.out.size)).mono HB5.out.size)⟩
section
variable {H:Type} {enc:TypeId × Value→H} {P:Program} {w:World} {base:Nat} {spare:Nat→Bool} {held:Bool}
theorem struct_field {t:TypeId} {fs:Array Field} {fuel:Nat} {cs:List Value} {y:DataW H × List MemPlace} (ht:P.underlying t=some (.struct fs)) (h:DataW.trod enc P w base spare held fuel t cs=some y)
    (i:Nat) (f:Field) (hf:fs[i]?=some f):∃ n z,DataW.trod enc P w base spare held n f.type ((cs.drop f.offset).take (P.cellsOf f.type))=some z:=by
  obtain ⟨xs,n,_,_,_,hlen,hx⟩:=DataW.trod_struct ht h;(have hi:i<xs.length:=by rw [hlen];exact (Array.getElem?_eq_some_iff.1 hf).1);exact ⟨n,xs[i],(hx i f hf).trans (List.getElem?_eq_getElem hi)⟩
theorem field_of {t:TypeId} {fs:Array Field} {fuel:Nat} {cs:List Value} {y:DataW H × List MemPlace} (ht:P.underlying t=some (.struct fs)) (h:DataW.trod enc P w base spare held fuel t cs=some y)
    (i:Nat) {f:Field} (hf:fs[i]?=some f) {t':TypeId} {c k:Nat} (hft:f.type=t') (hk:f.offset=k) (hc:P.cellsOf t'=c):∃ n z,DataW.trod enc P w base spare held n t' ((cs.drop k).take c)=some z:=by
  subst hft hk hc;exact struct_field ht h i f hf
theorem drop_take_one {cs:List Value} {k:Nat} (hk:k<cs.length):(cs.drop k).take 1=[cs[k]]:=by
  rw [List.drop_eq_getElem_cons hk];rfl
theorem int_field {t:TypeId} {n k:Nat} {cs:List Value} {z:DataW H × List MemPlace} (ht:P.underlying t=some (.int .i64)) (hk:k<cs.length) (h:DataW.trod enc P w base spare held n t ((cs.drop k).take 1)=some z) :
    ∃ x,cs[k]?=some (.int .i64 x)∧I64 x:=by
  rw [drop_take_one hk] at h;obtain ⟨x,hx,_,hw⟩:=DataW.trod_int ht h;exact ⟨x,by rw [List.getElem?_eq_getElem hk];exact congrArg some (List.cons.inj hx).1,wf_i64 hw⟩
theorem slice_field {α:Type} [Inhabited α] {t e:TypeId} {sz:Nat} {R:World→Nat→Nat→α→Prop} {n k:Nat} {cs:List Value} {z:DataW H × List MemPlace} (ht:P.underlying t=some (.slice e)) (hsz:P.cellsOf e=sz) (hpos:0<sz)
    (hR:Opens enc P w base spare held e sz R) (hk:k<cs.length) (h:DataW.trod enc P w base spare held n t ((cs.drop k).take 1)=some z):∃ A c xs,cs[k]?=some (.slice A xs.length c)∧SL w sz R A c xs:=by
  rw [drop_take_one hk] at h;obtain ⟨xs,A,c,e,hs⟩:=open_vs ht hsz hpos hR h;exact ⟨A,c,xs,by rw [List.getElem?_eq_getElem hk,e],hs⟩
end
theorem Try.cells3:Try.prog.cellsOf 3=1:=by kernel_rfl
theorem Try.cells2:Try.prog.cellsOf 2=1:=by kernel_rfl
theorem Try.cells28:Try.prog.cellsOf 28=1:=by kernel_rfl
section
variable {H:Type} {enc:TypeId × Value→H} {w:World} {base:Nat} {spare:Nat→Bool} {held:Bool}
theorem opens_int:Opens enc Try.prog w base spare held 3 1 RInt:=fun n b o cs y hlen hat h=>by
  obtain ⟨x,rfl,_,hw⟩:=DataW.trod_int Try.underlying3 h;exact ⟨x,(hat 0 (by omega)).trans rfl,wf_i64 hw⟩
theorem field_int {fs:Array Field} {t:TypeId} {fuel:Nat} {cs:List Value} {y:DataW H × List MemPlace} (ht:Try.prog.underlying t=some (.struct fs)) (h:DataW.trod enc Try.prog w base spare held fuel t cs=some y)
    (i:Nat) (f:Field) (hf:fs[i]?=some f) (hft:f.type=3) (hk:f.offset<cs.length):∃ x,cs[f.offset]?=some (.int .i64 x)∧I64 x:=by
  obtain ⟨n,z,hz⟩:=struct_field ht h i f hf;rw [hft,Try.cells3] at hz;exact int_field Try.underlying3 hk hz
theorem field_int64 {fs:Array Field} {t:TypeId} {fuel:Nat} {cs:List Value} {y:DataW H × List MemPlace} (ht:Try.prog.underlying t=some (.struct fs)) (h:DataW.trod enc Try.prog w base spare held fuel t cs=some y)
    (i:Nat) (f:Field) (hf:fs[i]?=some f) (hft:f.type=2) (hk:f.offset<cs.length):∃ x,cs[f.offset]?=some (.int .i64 x)∧I64 x:=by
  obtain ⟨n,z,hz⟩:=struct_field ht h i f hf;rw [hft,Try.cells2] at hz;exact int_field Try.underlying2 hk hz
theorem field_ints {fs:Array Field} {t:TypeId} {fuel:Nat} {cs:List Value} {y:DataW H × List MemPlace} (ht:Try.prog.underlying t=some (.struct fs)) (h:DataW.trod enc Try.prog w base spare held fuel t cs=some y)
    (i:Nat) (f:Field) (hf:fs[i]?=some f) (hft:f.type=28) (hk:f.offset<cs.length):∃ A c,∃ xs:List Int,cs[f.offset]?=some (.slice A xs.length c)∧SL w 1 RInt A c xs:=by
  obtain ⟨n,z,hz⟩:=struct_field ht h i f hf;rw [hft,Try.cells28] at hz;exact slice_field Try.underlying28 Try.cells3 (by omega) opens_int hk hz
end
end Go.Proofs.Ytfoggldjjnabcaa

namespace Go.Proofs.Ytfoggldjjnabcaa
open Go.ChangeShapes Go.WideShapes Go.RowKit Go.Deep
set_option linter.unusedVariables false
theorem Try.cells40:Try.prog.cellsOf 40=1:=by kernel_rfl
theorem Try.cells41:Try.prog.cellsOf 41=1:=by kernel_rfl
theorem Try.cells29:Try.prog.cellsOf 29=1:=by kernel_rfl
theorem Try.cells22:Try.prog.cellsOf 22=1:=by kernel_rfl
theorem Try.cells52:Try.prog.cellsOf 52=2:=by kernel_rfl
theorem Try.cells45:Try.prog.cellsOf 45=5:=by kernel_rfl
theorem Try.cells39:Try.prog.cellsOf 39=3:=by kernel_rfl
theorem Try.cells43:Try.prog.cellsOf 43=5:=by kernel_rfl
theorem Try.cells31:Try.prog.cellsOf 31=4:=by kernel_rfl
theorem Try.cells24:Try.prog.cellsOf 24=1:=by kernel_rfl
section
variable {H:Type} {enc:TypeId × Value→H} {w:World} {base:Nat} {spare:Nat→Bool} {held:Bool}
theorem opens_phi:Opens enc Try.prog w base spare held 52 2 RPhi:=fun n b o cs y hlen hat h=>by
  (obtain ⟨x,h0,w0⟩:=field_int Try.underlying52 h 0 _ rfl rfl (by simp;omega));(obtain ⟨A,c,xs,h1,w1⟩:=field_ints Try.underlying52 h 1 _ rfl rfl (by simp;omega));exact ⟨⟨x,xs⟩,⟨(hat 0 (by omega)).trans h0,w0⟩,A,c,(hat 1 (by omega)).trans h1,w1⟩
theorem opens_ins:Opens enc Try.prog w base spare held 45 5 RIns:=fun n b o cs y hlen hat h=>by
  (obtain ⟨x0,h0,w0⟩:=field_int Try.underlying45 h 0 _ rfl rfl (by simp;omega));(obtain ⟨x1,h1,w1⟩:=field_int Try.underlying45 h 1 _ rfl rfl (by simp;omega));(obtain ⟨A,c,xs,h2,w2⟩:=field_ints Try.underlying45 h 2 _ rfl rfl (by simp;omega));(obtain ⟨x3,h3,w3⟩:=field_int64 Try.underlying45 h 3 _ rfl rfl (by simp;omega));(obtain ⟨x4,h4,w4⟩:=field_int Try.underlying45 h 4 _ rfl rfl (by simp;omega));exact ⟨⟨x0,x1,xs,x3,x4⟩,⟨(hat 0 (by omega)).trans h0,w0⟩,⟨(hat 1 (by omega)).trans h1,w1⟩,⟨A,c,(hat 2 (by omega)).trans h2,w2⟩,⟨(hat 3 (by omega)).trans h3,w3⟩,⟨(hat 4 (by omega)).trans h4,w4⟩⟩
theorem opens_blk:Opens enc Try.prog w base spare held 43 5 RBlk:=fun n b o cs y hlen hat h=>by
  obtain ⟨n0,z0,hz0⟩:=field_of Try.underlying43 h 0 rfl rfl rfl Try.cells40;(obtain ⟨A0,c0,ps,h0,w0⟩:=slice_field Try.underlying40 Try.cells52 (by omega) opens_phi (by simp;omega) hz0);obtain ⟨n1,z1,hz1⟩:=field_of Try.underlying43 h 1 rfl rfl rfl Try.cells41;(obtain ⟨A1,c1,is,h1,w1⟩:=slice_field Try.underlying41 Try.cells45 (by omega) opens_ins (by simp;omega) hz1);obtain ⟨n2,z2,hz2⟩:=field_of Try.underlying43 h 2 rfl rfl rfl Try.cells39;(have hl2:((cs.drop 2).take 3).length=3:=by simp;omega);(obtain ⟨x2,h2,w2⟩:=field_int Try.underlying39 hz2 0 _ rfl rfl (by simp;omega));(obtain ⟨x3,h3,w3⟩:=field_int Try.underlying39 hz2 1 _ rfl rfl (by simp;omega));obtain ⟨A4,c4,xs,h4,w4⟩:=field_ints Try.underlying39 hz2 2 _ rfl rfl (by simp;omega)
  (have g (i:Nat) (hi:i<3):((cs.drop 2).take 3)[i]?=cs[2+i]?:=by rw [List.getElem?_take_of_lt hi,List.getElem?_drop]);exact ⟨⟨ps,is,⟨x2,x3,xs⟩⟩,⟨A0,c0,(hat 0 (by omega)).trans h0,w0⟩,⟨A1,c1,(hat 1 (by omega)).trans h1,w1⟩,⟨(hat 2 (by omega)).trans ((g 0 (by omega)).symm.trans h2),w2⟩,⟨(hat 3 (by omega)).trans ((g 1 (by omega)).symm.trans h3),w3⟩,⟨A4,c4,(hat 4 (by omega)).trans ((g 2 (by omega)).symm.trans h4),w4⟩⟩
theorem opens_fun:Opens enc Try.prog w base spare held 31 4 RFun:=fun n b o cs y hlen hat h=>by
  (obtain ⟨x0,h0,w0⟩:=field_int Try.underlying31 h 0 _ rfl rfl (by simp;omega));(obtain ⟨x1,h1,w1⟩:=field_int Try.underlying31 h 1 _ rfl rfl (by simp;omega));(obtain ⟨A2,c2,xs,h2,w2⟩:=field_ints Try.underlying31 h 2 _ rfl rfl (by simp;omega));obtain ⟨n3,z3,hz3⟩:=field_of Try.underlying31 h 3 rfl rfl rfl Try.cells29;(obtain ⟨A3,c3,bs,h3,w3⟩:=slice_field Try.underlying29 Try.cells43 (by omega) opens_blk (by simp;omega) hz3);exact ⟨⟨x0,x1,xs,bs⟩,⟨(hat 0 (by omega)).trans h0,w0⟩,⟨(hat 1 (by omega)).trans h1,w1⟩,⟨A2,c2,(hat 2 (by omega)).trans h2,w2⟩,⟨A3,c3,(hat 3 (by omega)).trans h3,w3⟩⟩
set_option maxRecDepth 100000 in
theorem open_mod {r:Go.Reach} {b0:Nat} {v:Value} {d:DataW H} {p:List MemPlace} (hv:Value.okWide Try.prog w r b0 24 v) (h:DataW.Trod enc Try.prog w base spare held 24 v d p):∃ m,VMod w v m:=by
  obtain ⟨cs,rfl,hsz⟩:=okWide_struct Try.underlying24 hv;rw [Try.cells24] at hsz;obtain ⟨l⟩:=cs
  match l,hsz with
  | [a],_ =>
    obtain ⟨fuel,hf⟩:=h;have hf:DataW.trod enc Try.prog w base spare held fuel 24 [a]=some (_,p):=hf;obtain ⟨n3,z3,hz3⟩:=field_of Try.underlying24 hf 0 rfl rfl rfl Try.cells22;obtain ⟨A3,c3,bs,h3,w3⟩:=slice_field Try.underlying22 Try.cells31 (by omega) opens_fun (by simp) hz3;obtain rfl:=Option.some.inj h3;exact ⟨bs,A3,c3,rfl,w3⟩
end
end Go.Proofs.Ytfoggldjjnabcaa
