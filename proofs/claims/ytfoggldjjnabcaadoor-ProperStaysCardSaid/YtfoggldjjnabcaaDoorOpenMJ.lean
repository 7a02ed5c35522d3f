/- The reference's Copy: a module in new memory. -/
import Derived.Test.YtfoggldjjnabcaaDoorCopyJ
import Derived.Test.YtfoggldjjnabcaaDoorSmallJ
import Derived.Test.YtfoggldjjnabcaaDoorSameJ
import Derived.Test.YtfoggldjjnabcaaDoorSameGJ
import Derived.BigQuiet
import Derived.Deep.RegionHeld3
import Derived.Test.YtfoggldjjnabcaaDoorModAJ
import Derived.ProofKit
import Derived.Test.YtfoggldjjnabcaaDoorPpCJ
import Derived.ChangeArms
import Derived.FnData
import Derived.LaidLaws
namespace Go.Proofs.YtfoggldjjnabcaaDoor
open Go.ChangeShapes Go.WideShapes Go.RowKit Go.Deep
set_option linter.unusedVariables false
set_option maxRecDepth 100000 in
set_option maxHeartbeats 8000000 in
theorem copy_any (m:List FunD) (v:Value) (w:World) (hv:VMod w v m) (hsm:SmallM m) :
    Calls Tryd.prog 6 #[v] w fun e w'=>(∃ r,e=.returned r∧∃ A c,r=.agg #[.slice A m.length c]∧SL w' 4 (RFunB (fun b=>w.heap.size≤b)) A c m)∧Below w.heap.size w w':=by
  obtain ⟨A,c,rfl,hm⟩:=hv;have hml:=hm.len;obtain ⟨i25,p1,p2,p3,p4⟩:=info_parts Tryd.info39;have HI25:=Lib.hid (And.intro p1 (And.intro p2 (And.intro p3 p4)));clear p1 p2 p3 p4;(go_enter Tryd.func6,Tryd.ntmps6);(go_wp2_with fail);obtain ⟨w1,hw1,hs1,hk1,hb1,hc1,-⟩:=named w #[.slice A m.length c] 24;obtain ⟨w2,hw2,hs2,hk2,hb2,-,-⟩:=named w1 #[.slice none 0 0] 24
  obtain ⟨w3,hw3,hs3,hk3,hb3,-,-⟩:=named w2 #[.slice none 0 0] 24;(have hbk2:w2.heap[w1.heap.size]?=some (.cells #[.slice none 0 0] 24 (0,0)):=by rw [hw2];exact heap_alloc_new _ _);(have hbk3:w3.heap[w2.heap.size]?=some (.cells #[.slice none 0 0] 24 (0,0)):=by rw [hw3];exact heap_alloc_new _ _);have hbr3:w3.heap[w1.heap.size]?=some (.cells #[.slice none 0 0] 24 (0,0)):=(hb3.block _ (by omega)).trans hbk2;have q0:w3.cell? ⟨w.heap.size,0,none⟩=some (.slice A m.length c):=hk3 _ _ (hk2 _ _ (hc1 0 _ rfl));have hK:=(hk1.trans hk2).trans hk3;have hB3:Below w.heap.size w w3:=(hb1.trans (hb2.mono (by omega))).trans (hb3.mono (by omega));rw [← hw1,← hw2,← hw3];rw [hs2,hs1] at hbk3 hs3
  rw [hs1] at hbr3;have HBK:=Lib.hid hbk3;have HBR:=Lib.hid hbr3;(have hlw:w.heap.size<w3.heap.size:=by omega);(have hlr:w.heap.size+1<w3.heap.size:=by omega);(have hlo:w.heap.size+1+1<w3.heap.size:=by omega);clear hw1 hw2 hw3 hs1 hs2 hs3 hc1 hk1 hk2 hk3 hb1 hb2 hb3 hbk2 hbk3 hbr3
  go_loopw [4] (fun i wr=>∃ (k:Nat) (u:Value) (cs:List Value),k≤m.length∧i=.int .i64 k∧BB w3.heap.size (w.heap.size+1+1) w3 wr ∧
    wr.heap[w.heap.size+1+1]?=some (.cells #[u] 24 (0,0)) ∧
    wr.ownsRow w3.heap.size 39 4 u k cs∧Rows 4 (CFun (fun b=>w3.heap.size≤b∧some b≠u.ownBlock) wr) (m.take k) cs) (fun i _=>m.length - (intOf i).toNat)
  case atStart=>exact ⟨0,.slice none 0 0,[],Nat.zero_le _,rfl,BB.refl _ _ _,HBK.out,World.ownsRow_nil _ _ _ _,rfl⟩
  case round =>
    obtain ⟨k,u,cs,hk,rfl,hbb,hgo,hown,hrows⟩:=hrel;have hsz:=hbb.size;have hkb:=hbb.kept;(have y0:=hkb _ _ ⟨by show w.heap.size<w3.heap.size;omega,by show w.heap.size≠w.heap.size+1+1;omega⟩ q0);have hkW:Kept w wr:=fun a v h=>by
      have hlt:=block_lt_of_cell h;exact hkb a v ⟨by omega,by omega⟩ (hK _ _ h)
    have z0:wr.cell? ⟨w.heap.size+1+1,0,none⟩=some u:=q6 hgo 0
    by_cases hlt:k<m.length
    · obtain ⟨bf,of,f,rfl,hf,⟨h0,h064⟩,⟨h1,h164⟩,⟨Ar,cr,h2,hregs⟩,Ab,cb,h3,hblks⟩:=(SFuns.keep hkW hm).at_ hlt;have hbf:bf<w3.heap.size:=by
        obtain ⟨b',o',f',e',_,⟨h',_⟩,_⟩:=hm.at_ hlt;simp only [Option.some.injEq,Addr.mk.injEq] at e';obtain ⟨rfl,rfl,-⟩:=e';have:=block_lt_of_cell h';dsimp only at this;omega
      have hsf:SmallF f:=hsm.2 f (List.mem_of_getElem? hf.out);have HSF:=Lib.hid hsf;clear hsf;(have hj0:(0:Int)≤k:=by omega);(have hj1:(k:Int)<m.length:=by omega);have hm40:m.length≤40:=hsm.1;have hS:∀ w',Below w3.heap.size wr w'→w'.cell? ⟨w.heap.size+1+1,0,none⟩=some u∧w'.cell? ⟨w.heap.size,0,none⟩=some (.slice (some ⟨bf,of,none⟩) m.length c) ∧
          w'.cell? ⟨bf,of+k * 4,none⟩=some (.int .i64 f.params)∧w'.cell? ⟨bf,of+k * 4+1,none⟩=some (.int .i64 f.result)∧w'.cell? ⟨bf,of+k * 4+2,none⟩=some (.slice Ar f.regs.length cr)∧w'.cell? ⟨bf,of+k * 4+3,none⟩=some (.slice Ab f.blocks.length cb):=fun w' h =>
        ⟨(h.cell (p:=⟨w.heap.size+1+1,0,none⟩) hlo).trans z0,(h.cell (p:=⟨w.heap.size,0,none⟩) (by show w.heap.size<w3.heap.size;omega)).trans y0,
          (h.cell (p:=⟨bf,of+k * 4,none⟩) hbf).trans h0,(h.cell (p:=⟨bf,of+k * 4+1,none⟩) hbf).trans h1,(h.cell (p:=⟨bf,of+k * 4+2,none⟩) hbf).trans h2,(h.cell (p:=⟨bf,of+k * 4+3,none⟩) hbf).trans h3⟩
      go_wp2_with fail
      refine qM (L:=11) (S:=fun w'=>w'.cell? ⟨w.heap.size+1+1,0,none⟩=some u∧w'.cell? ⟨w.heap.size,0,none⟩=some (.slice (some ⟨bf,of,none⟩) m.length c) ∧
          w'.cell? ⟨bf,of+k * 4,none⟩=some (.int .i64 f.params)∧w'.cell? ⟨bf,of+k * 4+1,none⟩=some (.int .i64 f.result)∧w'.cell? ⟨bf,of+k * 4+2,none⟩=some (.slice Ar f.regs.length cr)∧w'.cell? ⟨bf,of+k * 4+3,none⟩=some (.slice Ab f.blocks.length cb)) (by kernel_rfl) (by rfl) (by kernel_rfl) (by kernel_rfl) ?_
      change wpAnyH _ _ _ _ _ _ _ _ (World.drew _);have hS0:=hS wr.drew (Below.refl _ _).drew;refine tk 0 12 hS0 ?_;simp only [Act.put,aS,List.set_cons_zero,List.set_cons_succ];refine tk 1 13 hS0 ?_;simp only [Act.put,aS,List.set_cons_zero,List.set_cons_succ];refine tk 2 14 hS0 ?_;simp only [Act.put,aS,List.set_cons_zero,List.set_cons_succ];refine tk 3 15 hS0 ?_
      simp only [Act.put,aS,List.set_cons_zero,List.set_cons_succ];refine tk 4 16 hS0 ?_;simp only [Act.put,aS,List.set_cons_zero,List.set_cons_succ];refine tk 5 17 hS0 ?_;simp only [Act.put,aS,List.set_cons_zero,List.set_cons_succ];refine oneH (i:=6) (by kernel_rfl) (fun o ho K hK=>?_);(simp only [List.getElem?_toArray,List.getElem?_cons_zero,List.getElem?_cons_succ,Option.some.injEq] at ho;subst ho);(go_simp);refine hK.out _ _ hS0 ?_
      clear hK K;refine oneH (i:=7) (by kernel_rfl) (fun o ho K hK=>?_);(simp only [List.getElem?_toArray,List.getElem?_cons_zero,List.getElem?_cons_succ,Option.some.injEq] at ho;subst ho);(go_simp);refine (copyFunc_any f _ wr.drew ⟨Ar,cr,Ab,cb,rfl,hregs,hblks,h064,h164⟩ HSF.out).mono ?_;rintro e wA ⟨⟨r,rfl,c0,c1,c2,c3,rfl,hcf⟩,hbA0⟩;have hbA0:Below wr.heap.size wr wA:=(Below.refl wr.heap.size wr).drew.trans hbA0;have hcf:CFun (fun b=>wr.heap.size≤b) wA f [c0,c1,c2,c3]:=hcf;obtain ⟨A1,d1,A2,d2,e,hr1,hb1,-,-⟩:=hcf
      simp only [List.cons.injEq,and_true] at e;obtain ⟨rfl,rfl,rfl,rfl⟩:=e;have hsA:=hbA0.size;have hbA:Below w3.heap.size wr wA:=hbA0.mono hsz;(go_wp2_with fail);refine hK.out _ _ (hS _ hbA) ?_;clear hK K;refine oneH (i:=8) (by kernel_rfl) (fun o ho K hK=>?_);simp only [List.getElem?_toArray,List.getElem?_cons_zero,List.getElem?_cons_succ,Option.some.injEq] at ho;subst ho
      (go_simp);have hbB:Below w3.heap.size wr (wA.alloc (.cells #[.int .i64 f.params,.int .i64 f.result,.slice A1 f.regs.length d1,.slice A2 f.blocks.length d2] 39)):=hbA.alloc (by omega) _;refine hK.out _ _ (hS _ hbB) ?_;clear hK K;refine oneH (i:=9) (by kernel_rfl) (fun o ho K hK=>?_);(simp only [List.getElem?_toArray,List.getElem?_cons_zero,List.getElem?_cons_succ,Option.some.injEq] at ho;subst ho);have hgr0:wr.grownBy wA (some wr.heap.size):=⟨hbA0.os,hbA0.tape,hbA0.output,hbA0.size,fun k hk _=>hbA0.block k hk⟩;have hownA:wA.ownsRow w3.heap.size 39 4 u k cs:=World.ownsRow.kept hown hgr0 (own_ne hown (Nat.le_refl _));refine step_append_lies _ (by rfl) _ _ _ (by rfl) w3.heap.size 39 i25 (.agg #[.int .i64 0,.int .i64 0,.slice none 0 0,.slice none 0 0]) 4 64 Tryd.underlying22 HI25.out.1 HI25.out.2.1 HI25.out.2.2.1 HI25.out.2.2.2 rfl (by decide) u k cs (by rfl) (hownA.alloc _)
        ⟨wA.heap.size,0,none⟩ 1 1 [.int .i64 f.params,.int .i64 f.result,.slice A1 f.regs.length d1,.slice A2 f.blocks.length d2] (by rfl) (by rfl) (news_cells wA #[.int .i64 f.params,.int .i64 f.result,.slice A1 f.regs.length d1,.slice A2 f.blocks.length d2] _ rfl) (by simp [Value.oneCell']) (by decide) (by unfold maxLen;omega) (by omega) (by simp;omega) (wA.heap.size+1) (by simp) ?_
      intro g cap wC hownC hgrowC hlocC hltC;have hsC:=hgrowC.size;simp at hsC;have hgl:∀ x,u.ownBlock=some x→x<wr.heap.size:=fun x hx=>(hown.lt x hx).2;(have hbC:Below w3.heap.size wr wC:=hbB.grown hgrowC (by simp;omega) (fun k hk=>(hown.lt k hk).1));have hSC:=hS _ hbC;refine hK.out _ _ hSC ?_;clear hK K;simp only [Act.put,aS,List.set_cons_zero,List.set_cons_succ]
      refine tk 10 22 hSC ?_;simp only [Act.put,aS,List.set_cons_zero,List.set_cons_succ];refine wpAnyH_done (by kernel_rfl) ?_ _;refine lastH (by decide) (fun o ho K hK=>?_);(simp only [List.getElem?_toArray,List.getElem?_cons_zero,List.getElem?_cons_succ,Option.some.injEq] at ho;subst ho);have hgoC:wC.heap[w.heap.size+1+1]?=some (.cells #[u] 24 (0,0)):=(hbC.block _ hlo).trans hgo;have x0:wC.cell? ⟨w.heap.size+1+1,0,none⟩=some u:=q6 hgoC 0;have xf:wC.frozen? ⟨w.heap.size+1+1,0,none⟩=false:=qE hgoC 0;go_simp
      refine hK.out _ _ ?_;clear hK K;obtain ⟨wF,hwF⟩:∃ wF,wF=wC.setCell ⟨w.heap.size+1+1,0,none⟩ (.slice (some ⟨g,0,none⟩) (k+1) cap):=⟨_,rfl⟩;(have hkC:KeptB (fun y=>y≠w.heap.size+1+1) wC wF:=by rw [hwF];exact qY wC ⟨w.heap.size+1+1,0,none⟩ _);have hkR:KeptB (fun y=>wr.heap.size≤y∧y<wA.heap.size) wA wF :=
        ((KeptB.of (qL wA _)).trans ((qX hgrowC).mono (fun y hy e=>by have:=hgl y e.symm;omega))).trans (hkC.mono (fun y hy=>by omega))
      have hBg:∀ y,wr.heap.size≤y→y<wA.heap.size→w3.heap.size≤y∧some y≠(Value.slice (some ⟨g,0,none⟩) (k+1) cap).ownBlock:=fun y h1 h2=>⟨by omega,fun e=>by
        have hyg:y=g:=Option.some.inj e;rcases hlocC with h | h
        · have:=hgl g h;omega
        · omega⟩
      have hrF:=SIntsB.go (B':=fun y=>w3.heap.size≤y∧some y≠(Value.slice (some ⟨g,0,none⟩) (k+1) cap).ownBlock) (w':=wF) hkR (fun y hy=>hBg y hy.1 hy.2) (SIntsB.lt hr1);have hbF:=SBlksB.go (B':=fun y=>w3.heap.size≤y∧some y≠(Value.slice (some ⟨g,0,none⟩) (k+1) cap).ownBlock) (w':=wF) hkR (fun y hy=>hBg y hy.1 hy.2) (SBlksB.lt hb1);have hnew:CFun (fun y=>w3.heap.size≤y∧some y≠(Value.slice (some ⟨g,0,none⟩) (k+1) cap).ownBlock) wF f [.int .i64 f.params,.int .i64 f.result,.slice A1 f.regs.length d1,.slice A2 f.blocks.length d2]:=⟨A1,d1,A2,d2,rfl,hrF,hbF,h064,h164⟩;have hkF:KeptB (fun y=>(w3.heap.size≤y∧some y≠u.ownBlock)∧y<wr.heap.size) wr wF :=
        ((((BB.of_below (g:=w.heap.size+1+1) hbA0 (Nat.le_refl _)).kept.mono (fun y hy=>⟨hy.2,by omega⟩)).trans (KeptB.of (qL wA _))).trans ((qX hgrowC).mono (fun y hy=>hy.1.2))).trans (hkC.mono (fun y hy=>by omega))
      have hrowsF:=Rows.push (F:=CFun) (fun _ _ _ _ _ _ h1 h2 h3=>CFun.go h1 h2 h3) (fun _ _ _ _ h=>CFun.lt h) hrows hkF (u':=.slice (some ⟨g,0,none⟩) (k+1) cap) (fun y h1 h2 h3 e=>by
          have hyg:y=g:=Option.some.inj e;rcases hlocC with h | h
          · subst hyg;exact h2 h.symm
          · omega) rfl hnew
      (have hbbF:BB w3.heap.size (w.heap.size+1+1) w3 wF:=by rw [hwF];exact (hbb.trans (BB.of_below hbC (Nat.le_refl _))).setCell (.inl rfl) _);have hgoF:wF.heap[w.heap.size+1+1]?=some (.cells #[.slice (some ⟨g,0,none⟩) (k+1) cap] 24 (0,0)):=by
        rw [hwF];exact qD (i:=0) (.slice (some ⟨g,0,none⟩) (k+1) cap) hgoC
      (have hownF:wF.ownsRow w3.heap.size 39 4 (.slice (some ⟨g,0,none⟩) (k+1) cap) (k+1) (cs++[.int .i64 f.params,.int .i64 f.result,.slice A1 f.regs.length d1,.slice A2 f.blocks.length d2]):=by rw [hwF];exact ownsRow_setCell_below hownC hlo _);rw [← qF hf.out] at hrowsF;have HR:=Lib.hid hrowsF;have HO:=Lib.hid hownF;have HG:=Lib.hid hgoF;have HB:=Lib.hid hbbF;rw [← hwF];clear hrowsF hownF hgoF hkF hkR hnew hbbF hkC hwF x0 xf hgoC hrF hbF hBg;go_wp2_with fail
      go_roundw
      case rel=>exact ⟨k+1,_,_,by omega,by go_num,HB.out,HG.out,HO.out,HR.out⟩
      case measure=>simp [intOf];omega
    · (obtain rfl:k=m.length:=by omega);rw [List.take_of_length_le (Nat.le_refl _)] at hrows;have hblv:VS wr 4 (RFunB (fun x=>w3.heap.size≤x)) u m:=hrows.reads hown (fun g o x c h1 h2 h3 _ h4=>CFun.reads (B:=fun x=>w3.heap.size≤x) h2 (CFun.go (KeptB.of (Kept.refl _)) (fun _ h=>h.1) h3) h4);obtain ⟨A3,d3,rfl,hbl3⟩:=hblv;clear hrows hown;have hbr:=(hbb.block _ hlr (by omega)).trans HBR.out;have r0:wr.cell? ⟨w.heap.size+1,0,none⟩=some (.slice none 0 0):=q6 hbr 0;have r1:wr.frozen? ⟨w.heap.size+1,0,none⟩=false:=qE hbr 0;go_wp2_with fail
      have hbkF:(wr.setCell ⟨w.heap.size+1,0,none⟩ (.slice A3 m.length d3)).heap[w.heap.size+1]?=some (.cells #[.slice A3 m.length d3] 24 (0,0)):=qD (i:=0) _ hbr;refine bodyPost_ret (results_cell_row rfl _ _ (w.heap.size+1) 24 #[.slice A3 m.length d3] (0,0) _ (by rfl) hbkF Tryd.underlying24 (by rfl) (by kernel_rfl)) rfl ?_;(refine ⟨⟨_,rfl,A3,d3,rfl,?_⟩,((hB3.trans ((hbb.below (m:=w.heap.size) (by omega) (by omega)))).setCell (by show _≤w.heap.size+1;omega) _)⟩);exact SL.imp (RFunB.go (B:=fun x=>w3.heap.size≤x) ((qY wr ⟨w.heap.size+1,0,none⟩ _).mono (fun y hy=>by show y≠w.heap.size+1;omega)) (fun y hy=>by omega)) hbl3
set_option linter.unusedSimpArgs false
theorem HoldsE.keep {w w':World} (h:HoldsE w) (hk:Kept w w'):HoldsE w':=hk _ _ h
theorem of_all (v:Value) (p:Int × Int) (w:World) (he:ErrAt w v p) (hp:p=(0,-1)∨1≤p.1∧p.1≤8) (hg:HoldsE w):Calls Tryd.prog 8 #[v] w fun e w'=>e=.returned (.tuple #[.int .i64 p.1,.int .i64 p.2])∧Below w.heap.size w w':=by
  rcases hp with rfl | hp
  · obtain rfl:=he.nil rfl;exact of_nil w
  · exact of_any v p w he hp hg
theorem formE_in (f:FunD):formE f=(0,-1)∨1≤(formE f).1∧(formE f).1≤8:=by
  unfold formE
  split
  · exact .inr ⟨by show (1:Int)≤6;omega,by show (6:Int)≤8;omega⟩
  · split
    · exact .inr ⟨by show (1:Int)≤7;omega,by show (7:Int)≤8;omega⟩
    · split
      · exact .inr ⟨by show (1:Int)≤4;omega,by show (4:Int)≤8;omega⟩
      · exact .inl rfl
theorem formAt_in (m:List FunD) (a:Int):qm m a=(0,-1)∨1≤(qm m a).1∧(qm m a).1≤8:=by
  unfold qm
  split
  · rename_i h;rcases modE_in m with h1 | h1
    · exact absurd h1 h
    · exact .inr ⟨by omega,by omega⟩
  · split
    · exact formE_in _
    · exact .inr ⟨by show (1:Int)≤1;omega,by show (1:Int)≤8;omega⟩
set_option maxRecDepth 100000 in
set_option maxHeartbeats 16000000 in
theorem properStays_walk (OI:OfIns) (m:List FunD) (a:Int) (v:Value) (w:World) (hv:VMod w v m) (hG:OfNone w) (hE:HoldsE w) :
    Calls Tryd.prog 3 #[v,.int .i64 a] w fun e w'=>e=.returned (.bool true)∧Below w.heap.size w w':=by
  have hv0:=hv;obtain ⟨Am,cm,rfl,hms⟩:=hv;have hml:=hms.len;have HV:=Lib.hid hv0;have HOI:=Lib.hid OI;have HG:=Lib.hid hG;have HE:=Lib.hid hE;clear hv0 hms OI hG hE;go_enter Tryd.func3,Tryd.ntmps3
  (go_upto_region 1 with fail);obtain ⟨w1,hw1,hs1,hk1,hbel1,hc1,-⟩:=named w #[.slice Am m.length cm] 24;rw [← hw1];have HU:=Lib.hid (up13_any HOI.out w1 (HG.out.keep hk1));have c0:=hc1 0 _ rfl;have HB1:=Lib.hid hbel1;obtain ⟨N,hN⟩:∃ N,N=w.heap.size:=⟨_,rfl⟩;rw [← hN] at c0 ⊢;have HN:=Lib.hid hN
  clear hw1 hs1 hbel1 hc1 hk1 hN;(go_wp2_with fail);refine HU.out.mono ?_;rintro e w2 ⟨rfl,hb2⟩;have c0:=q7 hb2 _ _ c0;have HB2:Hid (Below w.heap.size w w2):=Lib.hid (HB1.out.trans (hb2.mono HB1.out.size));clear hb2 HU;(go_wp2_with fail);refine (small_any m _ w2 (VMod.keep (q7 HB2.out) HV.out)).mono ?_
  rintro e w3 ⟨⟨bs,rfl,hsm⟩,hb3⟩;have c0:=q7 hb3 _ _ c0;have HB3:Hid (Below w.heap.size w w3):=Lib.hid (HB2.out.trans (hb3.mono HB2.out.size));clear hb3;cases bs
  · clear hsm;(go_wp2_with fail);(go_ret);exact ⟨rfl,HB3.out⟩
  have HSM:=Lib.hid (hsm rfl);clear hsm;(go_wp2_with fail);refine (copy_any m _ w3 (VMod.keep (q7 HB3.out) HV.out) HSM.out).mono ?_;rintro e w4 ⟨⟨r,rfl,A1,c1,rfl,hcp⟩,hb4⟩;have c0:=q7 hb4 _ _ c0;have HB4:Hid (Below w.heap.size w w4):=Lib.hid (HB3.out.trans (hb4.mono HB3.out.size));have HCP:Hid (SL w4 4 RFun A1 c1 m):=Lib.hid (SL.imp RFunB.plain hcp);clear hb4 hcp
  (go_upto_region 6 with fail);obtain ⟨w5,hw5,hs5,hk5,hb5,hc5,-⟩:=named w4 #[.slice A1 m.length c1] 24;rw [← hw5];obtain ⟨O,hO⟩:∃ O,O=w4.heap.size:=⟨_,rfl⟩;rw [← hO] at hc5 hs5 ⊢;have o0:=hc5 0 _ rfl;have c0:=hk5 _ _ c0;have HB5:Hid (Below w.heap.size w w5):=Lib.hid (HB4.out.trans (hb5.mono HB4.out.size));have HVO:Hid (VMod w5 (.agg #[.slice A1 m.length c1]) m):=Lib.hid ⟨A1,c1,rfl,SFuns.keep hk5 HCP.out⟩
  have HCC:Hid (w5.cell? ⟨N,0,none⟩=some (.slice Am m.length cm)∧w5.cell? ⟨O,0,none⟩=some (.slice A1 m.length c1)):=Lib.hid ⟨c0,o0⟩;have HF1:=Lib.hid (form_any HOI.out m a _ w5 HVO.out HSM.out (HG.out.keep (q7 HB5.out)));clear hw5 hs5 hk5 hb5 hc5 hO HCP;(go_wp2_with fail);refine HF1.out.mono ?_;rintro e w6 ⟨⟨v1,rfl,he1⟩,hb6⟩;have HE1:=Lib.hid he1;have c0:=q7 hb6 _ _ c0;have o0:=q7 hb6 _ _ o0
  have H56:=Lib.hid hb6;have HB6:Hid (Below w.heap.size w w6):=Lib.hid (HB5.out.trans (hb6.mono HB5.out.size));have HF2:=Lib.hid (form_any HOI.out m a _ w6 (VMod.keep (q7 HB6.out) HV.out) HSM.out (HG.out.keep (q7 HB6.out)));clear he1 hb6 HF1;(go_wp2_with fail);refine HF2.out.mono ?_;rintro e w7 ⟨⟨v2,rfl,he2⟩,hb7⟩;have HE2:=Lib.hid he2;have c0:=q7 hb7 _ _ c0
  have o0:=q7 hb7 _ _ o0;have H57:Hid (Below w5.heap.size w5 w7):=Lib.hid (H56.out.trans (hb7.mono H56.out.size));have HB7:Hid (Below w.heap.size w w7):=Lib.hid (HB6.out.trans (hb7.mono HB6.out.size));have HO1:=Lib.hid (of_all v1 _ w7 (HE1.out.keep (q7 hb7)) (formAt_in m a) (HE.out.keep (q7 HB7.out)));clear he2 hb7 HF2;(go_wp2_with fail);refine HO1.out.mono ?_;rintro e w8 ⟨rfl,hb8⟩;have c0:=q7 hb8 _ _ c0
  have o0:=q7 hb8 _ _ o0;have H58:Hid (Below w5.heap.size w5 w8):=Lib.hid (H57.out.trans (hb8.mono H57.out.size));have HB8:Hid (Below w.heap.size w w8):=Lib.hid (HB7.out.trans (hb8.mono HB7.out.size));have HO2:=Lib.hid (of_all v2 _ w8 (HE2.out.keep (q7 hb8)) (formAt_in m a) (HE.out.keep (q7 HB8.out)));clear hb8 HO1;obtain ⟨p1,hp1⟩:∃ p1,p1=(qm m a).1:=⟨_,rfl⟩;obtain ⟨p2,hp2⟩:∃ p2,p2=(qm m a).2:=⟨_,rfl⟩;rw [← hp1,← hp2] at HO2 ⊢;clear hp1 hp2 HE1 HE2
  (go_wp2_with fail);refine HO2.out.mono ?_;rintro e w9 ⟨rfl,hb9⟩;have c0:=q7 hb9 _ _ c0;have o0:=q7 hb9 _ _ o0;have H59:Hid (Below w5.heap.size w5 w9):=Lib.hid (H58.out.trans (hb9.mono H58.out.size));have HB9:Hid (Below w.heap.size w w9):=Lib.hid (HB8.out.trans (hb9.mono HB8.out.size))
  have HSAME:Hid (∀ W,Below w5.heap.size w5 W→Calls Tryd.prog 9 #[.agg #[.slice A1 m.length c1],.agg #[.slice Am m.length cm]] W fun e w'=>e=.returned (.bool true)∧Below W.heap.size W w'):=Lib.hid (fun W hW=>by
    have h:=same_any m m _ _ W (VMod.keep (q7 hW) HVO.out) (VMod.keep (q7 (HB5.out.trans (hW.mono HB5.out.size))) HV.out);rw [show same m m=true from qj rfl] at h
    exact h)
  clear hb9 HO2
  by_cases ha:0≤a∧a<m.length
  · obtain ⟨n,rfl⟩:=Int.eq_ofNat_of_zero_le ha.1;have hnl:n<m.length:=by omega
    obtain ⟨bb,oo,f,rfl,hx,⟨h0,z0⟩,⟨h1,z1⟩,⟨Ar,cr,h2,z2⟩,Ab,cb,h3,z3⟩:=(SFuns.keep (q7 H59.out) (show SL w5 4 RFun A1 c1 m from by
      obtain ⟨A,c,e,h⟩:=HVO.out;simp only [Value.agg.injEq,Array.mk.injEq,List.cons.injEq,Value.slice.injEq,and_true,true_and] at e;obtain ⟨rfl,rfl⟩:=e
      exact h)).at_ hnl
    have HVF:Hid (VFun w9 (.agg #[.int .i64 f.params,.int .i64 f.result,.slice Ar f.regs.length cr,.slice Ab f.blocks.length cb]) f):=Lib.hid ⟨Ar,cr,Ab,cb,rfl,z2,z3,z0,z1⟩;obtain ⟨hs1,hs2,-,-⟩:=HSM.out.2 f (List.mem_of_getElem? hx.out);(have hn0:(0:Int)≤n:=by omega);(have hn1:(n:Int)<m.length:=by omega);have hfx:∀ W,Below w9.heap.size w9 W→W.cell? ⟨N,0,none⟩=some (.slice Am m.length cm)∧W.cell? ⟨O,0,none⟩=some (.slice (some ⟨bb,oo,none⟩) m.length c1)∧W.cell? ⟨bb,oo+n * 4,none⟩=some (.int .i64 f.params)∧W.cell? ⟨bb,oo+n * 4+1,none⟩=some (.int .i64 f.result)∧W.cell? ⟨bb,oo+n * 4+2,none⟩=some (.slice Ar f.regs.length cr)∧W.cell? ⟨bb,oo+n * 4+3,none⟩=some (.slice Ab f.blocks.length cb):=fun W hW =>
      ⟨q7 hW _ _ c0,q7 hW _ _ o0,q7 hW _ _ h0,q7 hW _ _ h1,q7 hW _ _ h2,q7 hW _ _ h3⟩
    have HFX:=Lib.hid hfx;have HNR:Hid (f.regs.length≤300∧f.blocks.length≤70):=Lib.hid ⟨hs2,hs1⟩;have HMA:=Lib.hid (makers_any f _ w9 HVF.out (by omega) (HG.out.keep (q7 HB9.out)));have hd:decide ((n:Int)<0)=false:=decide_eq_false (by omega);have hd2:decide ((m.length:Int)≤n)=false:=decide_eq_false (by omega);clear hx z0 z1 z2 z3 ha hfx hs1 hs2;(go_wp2_with fail);refine HMA.out.mono ?_;rintro e wa ⟨⟨G,rfl,hG,hrow⟩,hba⟩
    have HBA:=Lib.hid hba;have HROW:Hid (∃ V,wa.rowIs G 41 (2 * f.regs.length) V):=Lib.hid ⟨_,hrow⟩;have HGG:=Lib.hid hG;have hnr:=HNR.out.1;clear hba hrow hG HMA c0 o0 h0 h1 h2 h3 hd hd2;go_wp2_with fail
    go_loopw [16] (fun i wr=>∃ k:Nat,k≤f.regs.length∧i=.int .i64 (k:Int)∧Hid (FrX (fun b=>b=G) wa wr∧∃ V,wr.rowIs G 41 (2 * f.regs.length) V)) (fun i _=>f.regs.length - (intOf i).toNat)
    case atStart=>exact ⟨0,Nat.zero_le _,rfl,Lib.hid ⟨FrX.refl _ _,HROW.out⟩⟩
    case round =>
      obtain ⟨k,hk,rfl,hgi⟩:=hrel;obtain ⟨hfr,V,hV⟩:=hgi.out
      by_cases hlt:k<f.regs.length
      · have r0:=hV.cell (i:=k * 2) (by omega);have r1:=hV.cell (i:=k * 2+1) (by omega);have q0:=hV.frozen (k * 2);have q1:=hV.frozen (k * 2+1);(have hk0:(0:Int)≤k:=by omega);(have hk1:(k:Int)<f.regs.length:=by omega);have HST:Hid (FrX (fun b=>b=G) wa ((wr.setCell ⟨G,k * 2,none⟩ (.int .i64 99)).setCell ⟨G,k * 2+1,none⟩ (.int .i64 99))∧∃ V,((wr.setCell ⟨G,k * 2,none⟩ (.int .i64 99)).setCell ⟨G,k * 2+1,none⟩ (.int .i64 99)).rowIs G 41 (2 * f.regs.length) V):=Lib.hid
          ⟨(hfr.setCell (p:=⟨G,k * 2,none⟩) (.inl rfl) _).setCell (p:=⟨G,k * 2+1,none⟩) (.inl rfl) _,_,(hV.set (k * 2) (.int .i64 99)).set (k * 2+1) (.int .i64 99)⟩
        clear hV hfr hgi;go_wp2_with fail
        go_roundw
        case rel=>exact ⟨k+1,by omega,by go_num,HST⟩
        case measure=>simp [intOf];omega
      · (obtain rfl:k=f.regs.length:=by omega);obtain ⟨wb,rfl⟩:∃ wb,wb=wr:=⟨wr,rfl⟩;(have hbb':Below w9.heap.size w9 wb:=HBA.out.trans (hfr.below HBA.out.size (fun b hb=>by rw [hb];exact HGG.out)));have HBB:=Lib.hid hbb';have HW9B:Hid (Below w.heap.size w wb):=Lib.hid (HB9.out.trans (hbb'.mono HB9.out.size));obtain ⟨c0,o0,h0,h1,h2,h3⟩:=HFX.out wb hbb';have HMA:=Lib.hid (makers_any f _ wb (VFun.keep (q7 hbb') HVF.out) (by omega) (HG.out.keep (q7 HW9B.out)));clear hfr hV hgi hbb';go_wp2_with fail
        refine HMA.out.mono ?_;rintro e wc ⟨⟨G2,rfl,hG2,hrow⟩,hbc⟩;have HBC:Hid (Below w9.heap.size w9 wc):=Lib.hid (HBB.out.trans (hbc.mono HBB.out.size));have HROW2:=Lib.hid hrow;clear hbc hrow hG2 HMA c0 o0 h0 h1 h2 h3;go_wp2_with fail
        go_loopw [17] (fun i wr=>∃ k:Nat,k≤f.regs.length∧i=.int .i64 (k:Int)∧wr=wc) (fun i _=>f.regs.length - (intOf i).toNat)
        case atStart=>exact ⟨0,Nat.zero_le _,rfl,rfl⟩
        case round =>
          obtain ⟨k,hk,rfl,hww⟩:=hrel;obtain rfl:wc=wr:=hww.symm
          by_cases hlt:k<f.regs.length
          · have r0:wc.cell? ⟨G2,k * 2,none⟩=some (.int .i64 (fstM (evL f) k).b):=by
              have h:=HROW2.out.cell (i:=k * 2) (by omega);(have e:mkF (evL f) (k * 2)=.int .i64 (fstM (evL f) k).b:=by unfold mkF;rw [if_pos (by omega),show k * 2 / 2=k by omega]);rw [e] at h;exact h
            have hb:=fst_lt f k;(have hb1:((fstM (evL f) k).b == 99)=false:=by have:=HNR.out.2;simp;omega);generalize (fstM (evL f) k).b=q at r0 hb1;(have hk0:(0:Int)≤k:=by omega);(have hk1:(k:Int)<f.regs.length:=by omega);clear hb;go_wp2_with fail
            go_roundw
            case rel=>exact ⟨k+1,by omega,by go_num,trivial⟩
            case measure=>simp [intOf];omega
          · (obtain rfl:k=f.regs.length:=by omega);obtain ⟨c0,o0,-,-,-,-⟩:=HFX.out wc HBC.out;have HS:=Lib.hid (HSAME.out wc (H59.out.trans (HBC.out.mono H59.out.size)));have HBE:Hid (Below w.heap.size w wc):=Lib.hid (HB9.out.trans (HBC.out.mono HB9.out.size));(go_wp2_with fail);refine HS.out.mono ?_;rintro e wx ⟨rfl,hbx⟩;have HBX:Hid (Below w.heap.size w wx):=Lib.hid (HBE.out.trans (hbx.mono HBE.out.size));clear hbx
            (go_wp2_with fail);(go_ret);exact ⟨rfl,HBX.out⟩
  · rcases (show a<0∨(0≤a∧(m.length:Int)≤a) by omega) with h | ⟨h0,h1⟩
    · have hd:decide (a<0)=true:=decide_eq_true h;have HS:=Lib.hid (HSAME.out w9 H59.out);clear ha h;(go_wp2_with fail);refine HS.out.mono ?_;rintro e wx ⟨rfl,hbx⟩;have HBX:Hid (Below w.heap.size w wx):=Lib.hid (HB9.out.trans (hbx.mono HB9.out.size));clear hbx;go_wp2_with fail
      (go_ret);exact ⟨rfl,HBX.out⟩
    · have hd:decide (a<0)=false:=decide_eq_false (by omega);have hd2:decide ((m.length:Int)≤a)=true:=decide_eq_true h1;have HS:=Lib.hid (HSAME.out w9 H59.out);clear ha h0 h1;(go_wp2_with fail);refine HS.out.mono ?_;rintro e wx ⟨rfl,hbx⟩;have HBX:Hid (Below w.heap.size w wx):=Lib.hid (HB9.out.trans (hbx.mono HB9.out.size));clear hbx
      (go_wp2_with fail);(go_ret);exact ⟨rfl,HBX.out⟩
section
variable {H:Type} {enc:TypeId × Value→H} {P:Program} {w:World} {base:Nat} {spare:Nat→Bool} {held:Bool}
theorem struct_field {t:TypeId} {fs:Array Field} {fuel:Nat} {cs:List Value} {y:DataW H × List MemPlace} (ht:P.underlying t=some (.struct fs)) (h:DataW.trod enc P w base spare held fuel t cs=some y)
    (i:Nat) (f:Field) (hf:fs[i]?=some f):∃ n z,DataW.trod enc P w base spare held n f.type ((cs.drop f.offset).take (P.cellsOf f.type))=some z:=by
  obtain ⟨xs,n,_,_,_,hlen,hx⟩:=DataW.trod_struct ht h;(have hi:i<xs.length:=by rw [hlen];exact (Array.getElem?_eq_some_iff.1 hf).1);exact ⟨n,xs[i],(hx i f hf).trans (List.getElem?_eq_getElem hi)⟩
theorem field_of {t:TypeId} {fs:Array Field} {fuel:Nat} {cs:List Value} {y:DataW H × List MemPlace} (ht:P.underlying t=some (.struct fs)) (h:DataW.trod enc P w base spare held fuel t cs=some y)
    (i:Nat) {f:Field} (hf:fs[i]?=some f) {t':TypeId} {c k:Nat} (hft:f.type=t') (hk:f.offset=k) (hc:P.cellsOf t'=c):∃ n z,DataW.trod enc P w base spare held n t' ((cs.drop k).take c)=some z:=by
  subst hft hk hc;exact struct_field ht h i f hf
theorem drop_take_one {cs:List Value} {k:Nat} (hk:k<cs.length):(cs.drop k).take 1=[cs[k]]:=by
  rw [List.drop_eq_getElem_cons hk];rfl
theorem int_field {t:TypeId} {n k:Nat} {cs:List Value} {z:DataW H × List MemPlace} (ht:P.underlying t=some (.int .i64)) (hk:k<cs.length) (h:DataW.trod enc P w base spare held n t ((cs.drop k).take 1)=some z) :
    ∃ x,cs[k]?=some (.int .i64 x)∧I64 x:=by
  rw [drop_take_one hk] at h;obtain ⟨x,hx,_,hw⟩:=DataW.trod_int ht h;exact ⟨x,by rw [List.getElem?_eq_getElem hk];exact congrArg some (List.cons.inj hx).1,wf_i64 hw⟩
theorem slice_field {α:Type} [Inhabited α] {t e:TypeId} {sz:Nat} {R:World→Nat→Nat→α→Prop} {n k:Nat} {cs:List Value} {z:DataW H × List MemPlace} (ht:P.underlying t=some (.slice e)) (hsz:P.cellsOf e=sz) (hpos:0<sz)
    (hR:Opens enc P w base spare held e sz R) (hk:k<cs.length) (h:DataW.trod enc P w base spare held n t ((cs.drop k).take 1)=some z):∃ A c xs,cs[k]?=some (.slice A xs.length c)∧SL w sz R A c xs:=by
  rw [drop_take_one hk] at h;obtain ⟨xs,A,c,e,hs⟩:=open_vs ht hsz hpos hR h;exact ⟨A,c,xs,by rw [List.getElem?_eq_getElem hk,e],hs⟩
end
theorem Tryd.cells3:Tryd.prog.cellsOf 3=1:=by kernel_rfl
theorem Tryd.cells2:Tryd.prog.cellsOf 2=1:=by kernel_rfl
theorem Tryd.cells36:Tryd.prog.cellsOf 36=1:=by kernel_rfl
section
variable {H:Type} {enc:TypeId × Value→H} {w:World} {base:Nat} {spare:Nat→Bool} {held:Bool}
theorem opens_int:Opens enc Tryd.prog w base spare held 3 1 RInt:=fun n b o cs y hlen hat h=>by
  obtain ⟨x,rfl,_,hw⟩:=DataW.trod_int Tryd.underlying3 h;exact ⟨x,(hat 0 (by omega)).trans rfl,wf_i64 hw⟩
theorem qw {fs:Array Field} {t:TypeId} {fuel:Nat} {cs:List Value} {y:DataW H × List MemPlace} (ht:Tryd.prog.underlying t=some (.struct fs)) (h:DataW.trod enc Tryd.prog w base spare held fuel t cs=some y)
    (i:Nat) (f:Field) (hf:fs[i]?=some f) (hft:f.type=3) (hk:f.offset<cs.length):∃ x,cs[f.offset]?=some (.int .i64 x)∧I64 x:=by
  obtain ⟨n,z,hz⟩:=struct_field ht h i f hf;rw [hft,Tryd.cells3] at hz;exact int_field Tryd.underlying3 hk hz
theorem field_int64 {fs:Array Field} {t:TypeId} {fuel:Nat} {cs:List Value} {y:DataW H × List MemPlace} (ht:Tryd.prog.underlying t=some (.struct fs)) (h:DataW.trod enc Tryd.prog w base spare held fuel t cs=some y)
    (i:Nat) (f:Field) (hf:fs[i]?=some f) (hft:f.type=2) (hk:f.offset<cs.length):∃ x,cs[f.offset]?=some (.int .i64 x)∧I64 x:=by
  obtain ⟨n,z,hz⟩:=struct_field ht h i f hf;rw [hft,Tryd.cells2] at hz;exact int_field Tryd.underlying2 hk hz
theorem field_ints {fs:Array Field} {t:TypeId} {fuel:Nat} {cs:List Value} {y:DataW H × List MemPlace} (ht:Tryd.prog.underlying t=some (.struct fs)) (h:DataW.trod enc Tryd.prog w base spare held fuel t cs=some y)
    (i:Nat) (f:Field) (hf:fs[i]?=some f) (hft:f.type=36) (hk:f.offset<cs.length):∃ A c,∃ xs:List Int,cs[f.offset]?=some (.slice A xs.length c)∧SL w 1 RInt A c xs:=by
  obtain ⟨n,z,hz⟩:=struct_field ht h i f hf;rw [hft,Tryd.cells36] at hz;exact slice_field Tryd.underlying36 Tryd.cells3 (by omega) opens_int hk hz
end
end Go.Proofs.YtfoggldjjnabcaaDoor

namespace Go.Proofs.YtfoggldjjnabcaaDoor
open Go.ChangeShapes Go.WideShapes Go.RowKit Go.Deep
set_option linter.unusedVariables false
theorem Tryd.ofNoneAt:Tryd.prog.globalNamed "fettle/proper.ofNone"=some 0:=by kernel_rfl
theorem Tryd.ofNoneTy:(Tryd.prog.globals[0]?).map (·.type)=some 41:=by kernel_rfl
theorem Tryd.cells141:Tryd.prog.cellsOf 41=2:=by kernel_rfl
theorem Tryd.cells13:Tryd.prog.cellsOf 3=1:=by kernel_rfl
theorem ofNone_of_vars {W:World} {l:List (String × DataW Unit)} {ps:List MemPlace} (h:DataW.LaidVars Tryd.prog W (("fettle/proper.ofNone",.agg [.lit (.int .i64 (-1)),.lit (.int .i64 (-2))])::l) ps):OfNone W:=by
  obtain ⟨g,t,cs,fuel,p,q,h1,h2,h3,h4,-,-⟩:=h;obtain rfl:=Option.some.inj (Tryd.ofNoneAt.symm.trans h1);obtain rfl:=Option.some.inj (Tryd.ofNoneTy.symm.trans h2);obtain ⟨xs,n,-,hx,hlen,hsz,hf⟩:=DataW.trod_struct Tryd.underlying41 h4;rw [Tryd.cells141] at hlen;have hxs:xs.map (·.1)=[.lit (.int .i64 (-1)),.lit (.int .i64 (-2))]:=by
    have:=congrArg Prod.fst hx;injection this with this;exact this.symm
  have hat:∀ (i:Nat) (z:Int),i<2→(∀ y,xs[i]?=some y→y.1=(.lit (.int .i64 z):DataW Unit))→DataW.trod (fun _=>()) Tryd.prog W 0 (fun _=>true) false n 3 ((cs.toList.drop i).take (Tryd.prog.cellsOf 3))=xs[i]?→W.cell? ⟨0,i,none⟩=some (.int .i64 z):=by
    intro i z hi hy hfi';rw [Tryd.cells13] at hfi';(have hk:i<cs.toList.length:=by rw [hlen];exact hi);rw [drop_take_one hk] at hfi';have hil:i<xs.length:=by
      have:=congrArg List.length hxs;rw [List.length_map] at this;simp at this;omega
    rw [List.getElem?_eq_getElem hil] at hfi';obtain ⟨x,hx1,hx2,-⟩:=DataW.trod_int Tryd.underlying3 hfi';have:=hy _ (List.getElem?_eq_getElem hil);rw [hx2] at this;(have hxz:x=z:=by injection this with this;injection this);rw [World.var?_cell Tryd.ofNoneAt h3 i];(have:cs[i]?=cs.toList[i]?:=by simp);rw [this,List.getElem?_eq_getElem hk];rw [(List.cons.inj hx1).1,hxz]
  have hget:∀ (i:Nat) (z:Int),([.lit (.int .i64 (-1)),.lit (.int .i64 (-2))]:List (DataW Unit))[i]?=some (.lit (.int .i64 z))→∀ y,xs[i]?=some y→y.1=(.lit (.int .i64 z):DataW Unit):=fun i z hz y hy=>by
    rw [← hxs,List.getElem?_map,hy] at hz;exact Option.some.inj hz
  exact ⟨hat 0 (-1) (by omega) (hget 0 _ rfl) (hf 0 _ rfl),hat 1 (-2) (by omega) (hget 1 _ rfl) (hf 1 _ rfl)⟩
theorem Tryd.cells45:Tryd.prog.cellsOf 45=1:=by kernel_rfl
theorem Tryd.cells46:Tryd.prog.cellsOf 46=1:=by kernel_rfl
theorem Tryd.cells37:Tryd.prog.cellsOf 37=1:=by kernel_rfl
theorem Tryd.cells22:Tryd.prog.cellsOf 22=1:=by kernel_rfl
theorem Tryd.cells53:Tryd.prog.cellsOf 53=2:=by kernel_rfl
theorem Tryd.cells51:Tryd.prog.cellsOf 51=5:=by kernel_rfl
theorem Tryd.cells44:Tryd.prog.cellsOf 44=3:=by kernel_rfl
theorem Tryd.cells48:Tryd.prog.cellsOf 48=5:=by kernel_rfl
theorem Tryd.cells39:Tryd.prog.cellsOf 39=4:=by kernel_rfl
theorem Tryd.cells24:Tryd.prog.cellsOf 24=1:=by kernel_rfl
section
variable {H:Type} {enc:TypeId × Value→H} {w:World} {base:Nat} {spare:Nat→Bool} {held:Bool}
theorem opens_phi:Opens enc Tryd.prog w base spare held 53 2 RPhi:=fun n b o cs y hlen hat h=>by
  (obtain ⟨x,h0,w0⟩:=qw Tryd.underlying53 h 0 _ rfl rfl (by simp;omega));(obtain ⟨A,c,xs,h1,w1⟩:=field_ints Tryd.underlying53 h 1 _ rfl rfl (by simp;omega));exact ⟨⟨x,xs⟩,⟨(hat 0 (by omega)).trans h0,w0⟩,A,c,(hat 1 (by omega)).trans h1,w1⟩
theorem opens_ins:Opens enc Tryd.prog w base spare held 51 5 RIns:=fun n b o cs y hlen hat h=>by
  (obtain ⟨x0,h0,w0⟩:=qw Tryd.underlying51 h 0 _ rfl rfl (by simp;omega));(obtain ⟨x1,h1,w1⟩:=qw Tryd.underlying51 h 1 _ rfl rfl (by simp;omega));(obtain ⟨A,c,xs,h2,w2⟩:=field_ints Tryd.underlying51 h 2 _ rfl rfl (by simp;omega));(obtain ⟨x3,h3,w3⟩:=field_int64 Tryd.underlying51 h 3 _ rfl rfl (by simp;omega));(obtain ⟨x4,h4,w4⟩:=qw Tryd.underlying51 h 4 _ rfl rfl (by simp;omega));exact ⟨⟨x0,x1,xs,x3,x4⟩,⟨(hat 0 (by omega)).trans h0,w0⟩,⟨(hat 1 (by omega)).trans h1,w1⟩,⟨A,c,(hat 2 (by omega)).trans h2,w2⟩,⟨(hat 3 (by omega)).trans h3,w3⟩,⟨(hat 4 (by omega)).trans h4,w4⟩⟩
theorem opens_blk:Opens enc Tryd.prog w base spare held 48 5 RBlk:=fun n b o cs y hlen hat h=>by
  obtain ⟨n0,z0,hz0⟩:=field_of Tryd.underlying48 h 0 rfl rfl rfl Tryd.cells45;(obtain ⟨A0,c0,ps,h0,w0⟩:=slice_field Tryd.underlying45 Tryd.cells53 (by omega) opens_phi (by simp;omega) hz0);obtain ⟨n1,z1,hz1⟩:=field_of Tryd.underlying48 h 1 rfl rfl rfl Tryd.cells46;(obtain ⟨A1,c1,is,h1,w1⟩:=slice_field Tryd.underlying46 Tryd.cells51 (by omega) opens_ins (by simp;omega) hz1);obtain ⟨n2,z2,hz2⟩:=field_of Tryd.underlying48 h 2 rfl rfl rfl Tryd.cells44;(have hl2:((cs.drop 2).take 3).length=3:=by simp;omega);(obtain ⟨x2,h2,w2⟩:=qw Tryd.underlying44 hz2 0 _ rfl rfl (by simp;omega));(obtain ⟨x3,h3,w3⟩:=qw Tryd.underlying44 hz2 1 _ rfl rfl (by simp;omega));obtain ⟨A4,c4,xs,h4,w4⟩:=field_ints Tryd.underlying44 hz2 2 _ rfl rfl (by simp;omega)
  (have g (i:Nat) (hi:i<3):((cs.drop 2).take 3)[i]?=cs[2+i]?:=by rw [List.getElem?_take_of_lt hi,List.getElem?_drop]);exact ⟨⟨ps,is,⟨x2,x3,xs⟩⟩,⟨A0,c0,(hat 0 (by omega)).trans h0,w0⟩,⟨A1,c1,(hat 1 (by omega)).trans h1,w1⟩,⟨(hat 2 (by omega)).trans ((g 0 (by omega)).symm.trans h2),w2⟩,⟨(hat 3 (by omega)).trans ((g 1 (by omega)).symm.trans h3),w3⟩,⟨A4,c4,(hat 4 (by omega)).trans ((g 2 (by omega)).symm.trans h4),w4⟩⟩
theorem opens_fun:Opens enc Tryd.prog w base spare held 39 4 RFun:=fun n b o cs y hlen hat h=>by
  (obtain ⟨x0,h0,w0⟩:=qw Tryd.underlying39 h 0 _ rfl rfl (by simp;omega));(obtain ⟨x1,h1,w1⟩:=qw Tryd.underlying39 h 1 _ rfl rfl (by simp;omega));(obtain ⟨A2,c2,xs,h2,w2⟩:=field_ints Tryd.underlying39 h 2 _ rfl rfl (by simp;omega));obtain ⟨n3,z3,hz3⟩:=field_of Tryd.underlying39 h 3 rfl rfl rfl Tryd.cells37;(obtain ⟨A3,c3,bs,h3,w3⟩:=slice_field Tryd.underlying37 Tryd.cells48 (by omega) opens_blk (by simp;omega) hz3);exact ⟨⟨x0,x1,xs,bs⟩,⟨(hat 0 (by omega)).trans h0,w0⟩,⟨(hat 1 (by omega)).trans h1,w1⟩,⟨A2,c2,(hat 2 (by omega)).trans h2,w2⟩,⟨A3,c3,(hat 3 (by omega)).trans h3,w3⟩⟩
set_option maxRecDepth 100000 in
theorem open_mod {r:Go.Reach} {b0:Nat} {v:Value} {d:DataW H} {p:List MemPlace} (hv:Value.okWide Tryd.prog w r b0 24 v) (h:DataW.Trod enc Tryd.prog w base spare held 24 v d p):∃ m,VMod w v m:=by
  obtain ⟨cs,rfl,hsz⟩:=okWide_struct Tryd.underlying24 hv;rw [Tryd.cells24] at hsz;obtain ⟨l⟩:=cs
  match l,hsz with
  | [a],_ =>
    obtain ⟨fuel,hf⟩:=h;have hf:DataW.trod enc Tryd.prog w base spare held fuel 24 [a]=some (_,p):=hf;obtain ⟨n3,z3,hz3⟩:=field_of Tryd.underlying24 hf 0 rfl rfl rfl Tryd.cells22;obtain ⟨A3,c3,bs,h3,w3⟩:=slice_field Tryd.underlying22 Tryd.cells39 (by omega) opens_fun (by simp) hz3;obtain rfl:=Option.some.inj h3;exact ⟨bs,A3,c3,rfl,w3⟩
end
end Go.Proofs.YtfoggldjjnabcaaDoor
