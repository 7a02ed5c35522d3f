/- The program's ssa.Build. -/
import Derived.Test.YtfoggldjjnabcaaSpVJ
import Derived.Test.YtfoggldjjnabcaaSpQJ
import Derived.Test.YtfoggldjjnabcaaSpSJ
import Derived.Test.YtfoggldjjnabcaaGrJJ
import Derived.Deep.DeepCutAuto
namespace Go.Proofs.Ytfoggldjjnabcaa
open Go.ChangeShapes Go.WideShapes Go.RowKit Go.Deep
set_option linter.unusedVariables false
set_option linter.unusedSimpArgs false
def zeroFV:Value:=.agg #[.int .i64 0,.int .i64 0,.slice none 0 0,.slice none 0 0]
def VFunG (B:Nat→Prop) (w:World) (v:Value) (f:FunD):Prop :=
  ∃ Ar cr Ab cb,v=.agg #[.int .i64 f.params,.int .i64 f.result,.slice Ar f.regs.length cr,.slice Ab f.blocks.length cb]∧SL w 1 (RIntB B) Ar cr f.regs∧SL w 5 (RBlkB B) Ab cb f.blocks∧I64 f.params∧I64 f.result
def lgB (f:FunD):Bool:=decide (256<f.blocks.length+qo f.blocks) || decide (256<f.regs.length)
noncomputable def bdF (f:FunD):FunD:=zA (plnOf (trimF f))
def ToldBd (m:List FunD) (a:Int) (w:World) (e:Ending) (w':World):Prop :=
  (∃ vf ve,e=.returned (.tuple #[vf,ve]) ∧
    (((plainE m).1≠0∧vf=zeroFV∧ErrAt w' ve (plainE m)) ∨
     ((plainE m).1=0∧¬ (0≤a∧a<m.length)∧vf=zeroFV∧ve=.iface 50 (.int .i64 1)) ∨
     ((plainE m).1=0∧∃ n f,a=((n:Nat):Int)∧m[n]?=some f ∧
        ((lgB (bdF f)=true∧vf=zeroFV∧ve=.iface 50 (.int .i64 5)) ∨
         (lgB (bdF f)=false∧ve=.nilIface∧VFunG (BG w.heap.size w') w' vf (bdF f))))))∧Below w.heap.size w w'
theorem zCs_one {l:List Nat}:∀ u∈zCs l,u.oneCell'=true:=by
  intro u hu;unfold zCs at hu;obtain ⟨r,-,hr⟩:=List.mem_flatMap.1 hu;unfold zC at hr;simp only [List.mem_cons,List.not_mem_nil,or_false] at hr;rcases hr with rfl | rfl | rfl | rfl | rfl <;> rfl
theorem own_formZ {w:World} {base:Nat} {e:TypeId} {sz n:Nat} {v:Value} {cs:List Value} (h:w.ownsRow base e sz v n cs):∃ A c,v=.slice A n c:=by
  rcases h.2 with ⟨rfl,h0⟩ | ⟨g,c,cur,rfl,-⟩
  · exact ⟨none,0,by rw [h0]⟩
  · exact ⟨_,c,rfl⟩
theorem srcI_own {w:World} {base:Nat} {e:TypeId} {n:Nat} {v:Value} {cs:List Value} (h:w.ownsRow base e 5 v n cs) (h1:∀ u∈cs,u.oneCell'=true):SrcI w v n cs:=by
  have hl:=h.1;have h':=h;rcases h.2 with ⟨rfl,h0⟩ | ⟨g,c,cur,rfl,-⟩
  · exact ⟨⟨none,0,by rw [h0],fun a ha=>(by cases ha),fun hp=>absurd hp (by omega)⟩,hl,h1⟩
  · refine ⟨⟨_,c,rfl,fun a ha j u hu=>?_,fun _=>by simp⟩,hl,h1⟩;cases ha;(rw [Addr.add_lit,Nat.zero_add,h'.cellAt j (by have:=(List.getElem?_eq_some_iff.1 hu).1;omega)]);exact hu
set_option maxRecDepth 100000 in
set_option maxHeartbeats 32000000 in
theorem build_any (OI:OfIns) (m:List FunD) (a:Int) (vm:Value) (w:World) (hm:VMod w vm m) (hsm:SmallM m) :
    Calls Try.prog 8 #[vm,.int .i64 a] w (ToldBd m a w):=by
  have hm0:=hm;obtain ⟨Am,cm,rfl,hms⟩:=hm;have hml:=hms.len;have HMS:=Lib.hid hms;have HM:=Lib.hid hm0;have HSM:=Lib.hid hsm;have HOI:=Lib.hid OI;clear hms hm0 hsm;go_enter Try.func8,Try.ntmps8
  (go_upto_region 1 with fail);obtain ⟨w1,hw1⟩:∃ w1,w1=(w.alloc (.cells #[.slice Am m.length cm] 24)).alloc (.cells #[.int .i64 0,.int .i64 0,.slice none 0 0,.slice none 0 0] 31):=⟨_,rfl⟩;(have hb1:Below w.heap.size w w1:=by rw [hw1];exact ((Below.refl _ w).alloc (Nat.le_refl _) _).alloc (by simp) _);(have b0:w1.heap[w.heap.size]?=some (.cells #[.slice Am m.length cm] 24):=by rw [hw1];exact row_old w _ _);(have b1:w1.heap[w.heap.size+1]?=some (.cells #[.int .i64 0,.int .i64 0,.slice none 0 0,.slice none 0 0] 31):=by rw [hw1];simpa using heap_alloc_new (w.alloc _) _);(have hs1:w1.heap.size=w.heap.size+2:=by rw [hw1];simp);obtain ⟨N,hN⟩:∃ N,N=w.heap.size:=⟨_,rfl⟩;rw [← hw1];rw [← hN] at b0 b1 hs1 ⊢
  have c0:=q5 b0 0;have HB1:=Lib.hid hb1;have HBX:=Lib.hid b0;have HBY:=Lib.hid b1;have HS1:Hid (w1.heap.size=N+2∧N=w.heap.size):=Lib.hid ⟨hs1,hN⟩;clear hw1 hb1 b0 b1 hs1 hN;have HPA:=Lib.hid (plain_all HOI.out m _ w1 (VMod.keep (q6 HB1.out) HM.out) (lim_of_small HSM.out));(go_upto_region 2 with (go_at_call 13;refine HPA.out.mono ?_;rintro e w2 ⟨⟨ve,rfl,he⟩,hb2⟩;have HE:=Lib.hid he;have HB2:=Lib.hid hb2;clear he hb2));clear c0
  (have HBX2:=Lib.hid ((HB2.out.block N (by have:=HS1.out;omega)).trans HBX.out));(have HBY2:=Lib.hid ((HB2.out.block (N+1) (by have:=HS1.out;omega)).trans HBY.out));have HW2:Hid (Below w.heap.size w w2):=Lib.hid (HB1.out.trans (HB2.out.mono HB1.out.size));(have HZ2:Hid (N+1<w2.heap.size):=Lib.hid (by have:=HB2.out.size;have:=HS1.out;omega));clear HBX HBY HB1 HB2 HPA
  by_cases hp:(plainE m).1=0
  · have hve:=HE.out.nil hp;subst hve;have HPL:=Lib.hid hp;clear hp HE
    by_cases hneg:a<0
    · (have hna:¬ (0≤a∧a<m.length):=by omega);have y0:=q5 HBY2.out 0;have y1:=q5 HBY2.out 1;have y2:=q5 HBY2.out 2;have y3:=q5 HBY2.out 3;have yf0:=q8 HBY2.out 0;have yf1:=q8 HBY2.out 1;have yf2:=q8 HBY2.out 2;have yf3:=q8 HBY2.out 3
      have HNA:=Lib.hid hna;clear hna;(go_wp2_with fail);(have HERR2:Hid (Kept w2 ((((w2.setCell ⟨N+1,0,none⟩ (.int .i64 0)).setCell ⟨N+1,1,none⟩ (.int .i64 0)).setCell ⟨N+1,2,none⟩ (.slice none 0 0)).setCell ⟨N+1,3,none⟩ (.slice none 0 0))):=Lib.hid (fun a v h=>(World.cell?_of_block (by by_cases e:a.block=N+1;{ rw [e,qT HBY2.out,HBY2.out] };{ exact qq _ e _ _ _ _ })).trans h));(have HERR:Hid (Below w.heap.size w ((((w2.setCell ⟨N+1,0,none⟩ (.int .i64 0)).setCell ⟨N+1,1,none⟩ (.int .i64 0)).setCell ⟨N+1,2,none⟩ (.slice none 0 0)).setCell ⟨N+1,3,none⟩ (.slice none 0 0))):=Lib.hid ((((HW2.out.setCell (by show w.heap.size≤N+1;have:=HS1.out;omega) _).setCell (by show w.heap.size≤N+1;have:=HS1.out;omega) _).setCell (by show w.heap.size≤N+1;have:=HS1.out;omega) _).setCell (by show w.heap.size≤N+1;have:=HS1.out;omega) _));(refine bodyPost_ret (qi rfl _ _ (N+1) 31 #[.int .i64 0,.int .i64 0,.slice none 0 0,.slice none 0 0] (0,0) _ (by rfl) (qT HBY2.out _ _ _ _) Try.underlying31 (by rfl) (by obtain ⟨i,h1,_,h3,_⟩:=info_parts Try.info31;rw [h1];exact congrArg some h3)) rfl ?_);exact ⟨⟨_,_,rfl,.inr (.inl ⟨HPL.out,HNA.out,rfl,rfl⟩)⟩,HERR.out⟩
    by_cases hge:(m.length:Int)≤a
    · (have hna:¬ (0≤a∧a<m.length):=by omega);have x0:=q5 HBX2.out 0;have y0:=q5 HBY2.out 0;have y1:=q5 HBY2.out 1;have y2:=q5 HBY2.out 2;have y3:=q5 HBY2.out 3;have yf0:=q8 HBY2.out 0;have yf1:=q8 HBY2.out 1;have yf2:=q8 HBY2.out 2
      have yf3:=q8 HBY2.out 3;have HNA:=Lib.hid hna;clear hna;(go_wp2_with fail);(have HERR2:Hid (Kept w2 ((((w2.setCell ⟨N+1,0,none⟩ (.int .i64 0)).setCell ⟨N+1,1,none⟩ (.int .i64 0)).setCell ⟨N+1,2,none⟩ (.slice none 0 0)).setCell ⟨N+1,3,none⟩ (.slice none 0 0))):=Lib.hid (fun a v h=>(World.cell?_of_block (by by_cases e:a.block=N+1;{ rw [e,qT HBY2.out,HBY2.out] };{ exact qq _ e _ _ _ _ })).trans h));(have HERR:Hid (Below w.heap.size w ((((w2.setCell ⟨N+1,0,none⟩ (.int .i64 0)).setCell ⟨N+1,1,none⟩ (.int .i64 0)).setCell ⟨N+1,2,none⟩ (.slice none 0 0)).setCell ⟨N+1,3,none⟩ (.slice none 0 0))):=Lib.hid ((((HW2.out.setCell (by show w.heap.size≤N+1;have:=HS1.out;omega) _).setCell (by show w.heap.size≤N+1;have:=HS1.out;omega) _).setCell (by show w.heap.size≤N+1;have:=HS1.out;omega) _).setCell (by show w.heap.size≤N+1;have:=HS1.out;omega) _));(refine bodyPost_ret (qi rfl _ _ (N+1) 31 #[.int .i64 0,.int .i64 0,.slice none 0 0,.slice none 0 0] (0,0) _ (by rfl) (qT HBY2.out _ _ _ _) Try.underlying31 (by rfl) (by obtain ⟨i,h1,_,h3,_⟩:=info_parts Try.info31;rw [h1];exact congrArg some h3)) rfl ?_);exact ⟨⟨_,_,rfl,.inr (.inl ⟨HPL.out,HNA.out,rfl,rfl⟩)⟩,HERR.out⟩
    obtain ⟨n,rfl⟩:∃ n:Nat,a=(n:Int):=⟨a.toNat,by omega⟩;(have hn0:(0:Int)≤n:=by omega);(have hn1:(n:Int)<m.length:=by omega);clear hneg hge;(have hnl:n<m.length:=by omega);obtain ⟨bm,om,f,rfl,hx,⟨h0,z0⟩,⟨h1,z1⟩,⟨Ar,cr,h2,z2⟩,Ab,cb,h3,z3⟩:=(SFuns.keep (q6 HW2.out) HMS.out).at_ hnl;have x0:=q5 HBX2.out 0;have HFN:Hid (m[n]?=some f):=hx;have HNL:=Lib.hid hnl
    have HBD:=Lib.hid (bdF_of HPL.out HSM.out (List.mem_of_getElem? HFN.out));have HTR:=Lib.hid (trim_any f _ w2 ⟨Ar,cr,Ab,cb,rfl,z2,z3,z0,z1⟩ (HSM.out.2 f (List.mem_of_getElem? HFN.out)));clear z0 z1 z2 z3 hx hnl;(go_upto_region 7 with (go_at_call 12;refine HTR.out.mono ?_;rintro e w3 ⟨⟨Ar2,cr2,Ab2,cb2,G2,rfl,hr2,hb2,hG2,hnm2,hp2,hq2⟩,hbel⟩;have HR2:=Lib.hid hr2;have HB2:=Lib.hid hb2;have HPQ:=Lib.hid (And.intro hp2 hq2);have HW23:=Lib.hid hbel;clear hr2 hb2 hG2 hnm2 hp2 hq2 hbel));clear h0 h1 h2 h3;have hb34:Below w3.heap.size w3 (w3.alloc (.cells #[.int .i64 f.params,.int .i64 f.result,.slice Ar2 f.regs.length cr2,.slice Ab2 (blksT f.blocks).length cb2] 31)):=(Below.refl _ _).alloc (Nat.le_refl _) _;have b7:(w3.alloc (.cells #[.int .i64 f.params,.int .i64 f.result,.slice Ar2 f.regs.length cr2,.slice Ab2 (blksT f.blocks).length cb2] 31)).heap[w3.heap.size]?=some (.cells #[.int .i64 f.params,.int .i64 f.result,.slice Ar2 f.regs.length cr2,.slice Ab2 (blksT f.blocks).length cb2] 31):=heap_alloc_new _ _;generalize w3.alloc (.cells #[.int .i64 f.params,.int .i64 f.result,.slice Ar2 f.regs.length cr2,.slice Ab2 (blksT f.blocks).length cb2] 31)=w4 at *;obtain ⟨N7,hN7⟩:∃ N7,N7=w3.heap.size:=⟨_,rfl⟩
    rw [← hN7] at b7 ⊢;have HN7:=Lib.hid hN7;have HB34:=Lib.hid hb34;have HB7:=Lib.hid b7;have c70:=q5 b7 0;have c71:=q5 b7 1;have c72:=q5 b7 2;have c73:=q5 b7 3;have x0:w4.cell? ⟨N,0,none⟩=some (.slice (some ⟨bm,om,none⟩) m.length cm):=q6 HB34.out _ _ (q6 HW23.out _ _ x0)
    have HW4:Hid (Below w.heap.size w w4):=Lib.hid (HW2.out.trans ((HW23.out.trans (HB34.out.mono HW23.out.size)).mono HW2.out.size));have HVF4:Hid (VFun w4 (.agg #[.int .i64 f.params,.int .i64 f.result,.slice Ar2 f.regs.length cr2,.slice Ab2 (blksT f.blocks).length cb2]) (trimF f)):=Lib.hid
      ⟨Ar2,cr2,Ab2,cb2,rfl,SInts.keep (q6 HB34.out) (SL.imp (fun _ _ _ h=>h.2) HR2.out),SBlks.keep (q6 HB34.out) (SL.imp (fun b o x h=>RBlkB.plain b o x h) HB2.out),HPQ.out.1,HPQ.out.2⟩
    have HWI:=Lib.hid (wantedIn_any m n (trimF f) _ _ w4 (VMod.keep (q6 HW4.out) HM.out) HVF4.out HNL.out ⟨by rw [List.length_set];exact HSM.out.1,fun x hx=>by
      rcases List.mem_or_eq_of_mem_set hx with h | h
      · exact HSM.out.2 x h
      · rw [h];exact small_trim (HSM.out.2 f (List.mem_of_getElem? HFN.out))⟩ (trim_proper (plain_parts HPL.out).1 HFN.out))
    clear hN7 hb34 b7 hn0 hn1;(go_upto_region 10 with (go_at_call 14;refine HWI.out.mono ?_;rintro e w5 ⟨⟨G3,A,rfl,hG3,hA,hAW⟩,hb5⟩;have HG3:=Lib.hid (And.intro hG3 hA);have HAW:=Lib.hid hAW;have HB45:=Lib.hid hb5;clear hG3 hA hAW hb5));clear c70 c71 c72 c73 x0;have hb35:Below w3.heap.size w3 w5:=HB34.out.trans (HB45.out.mono HB34.out.size);have HB35:=Lib.hid hb35;have hbk5:SL w5 5 (RBlkB (BG w2.heap.size w5)) Ab2 cb2 (blksT f.blocks):=SBlksB.go (keptBG hb35) (BG.below hb35 (Nat.le_refl _)) HB2.out;have HRG5:Hid (SL w5 1 (RIntB (BG w2.heap.size w5)) Ar2 cr2 f.regs):=Lib.hid (SIntsB.go (keptBG hb35) (BG.below hb35 (Nat.le_refl _)) HR2.out);have hz:0<(blksT f.blocks).length:=HBD.out.nb.1;obtain ⟨gb,ob,kb,rfl,hkb,hrow⟩:=hbk5.at_ hz
    have HBK5:=Lib.hid hbk5;have HKB:Hid ((blksT f.blocks)[0]?=some kb):=hkb;obtain ⟨hbg,⟨Aq,cq,g0,hs0⟩,⟨Ai,ci,g1,hs1⟩,g2,g3,⟨At,ct,g4,hs4⟩⟩:=hrow;rw [Nat.zero_mul,Nat.add_zero] at g0 g1;have HBG:=Lib.hid hbg;have HSI:=Lib.hid hs1;have HC5:=Lib.hid (And.intro g0 g1);have b7:=(HB45.out.block N7 (qW HB7.out)).trans HB7.out;have HB75:=Lib.hid b7
    have hz2:0<(trimF f).blocks.length:=hz;have g3c:=HG3.out.2.row.cell hz2;clear hs0 hs1 hs4 g2 g3 g4 hbg hkb hbk5 hb35;have hS:∀ w',Below w5.heap.size w5 w'→w'.cell? ⟨N7,0,none⟩=some (.int .i64 f.params)∧w'.cell? ⟨N7,1,none⟩=some (.int .i64 f.result)∧w'.cell? ⟨N7,2,none⟩=some (.slice Ar2 f.regs.length cr2)∧w'.cell? ⟨N7,3,none⟩=some (.slice (some ⟨gb,ob,none⟩) (blksT f.blocks).length cb2)∧w'.cell? ⟨G3,0,none⟩=some (.slice (some ⟨G3+1,0,none⟩) f.regs.length f.regs.length)∧w'.cell? ⟨gb,ob+1,none⟩=some (.slice Ai kb.ins.length ci):=fun w' h=>⟨q6 h _ _ (q5 b7 0),q6 h _ _ (q5 b7 1),q6 h _ _ (q5 b7 2),q6 h _ _ (q5 b7 3),q6 h _ _ g3c,q6 h _ _ g1⟩;have hS0:=hS w5.drew (Below.refl _ _).drew;refine qI (L:=16) (S:=fun w'=>w'.cell? ⟨N7,0,none⟩=some (.int .i64 f.params)∧w'.cell? ⟨N7,1,none⟩=some (.int .i64 f.result)∧w'.cell? ⟨N7,2,none⟩=some (.slice Ar2 f.regs.length cr2)∧w'.cell? ⟨N7,3,none⟩=some (.slice (some ⟨gb,ob,none⟩) (blksT f.blocks).length cb2)∧w'.cell? ⟨G3,0,none⟩=some (.slice (some ⟨G3+1,0,none⟩) f.regs.length f.regs.length)∧w'.cell? ⟨gb,ob+1,none⟩=some (.slice Ai kb.ins.length ci)) (by kernel_rfl) (by rfl) (by kernel_rfl) (by kernel_rfl) ?_;change wpAnyH _ _ _ _ _ _ _ _ (World.drew _);refine tk 0 50 hS0 ?_;simp only [Act.put,aS,List.set_cons_zero,List.set_cons_succ]
    refine tk 1 51 hS0 ?_;simp only [Act.put,aS,List.set_cons_zero,List.set_cons_succ];refine tk 2 52 hS0 ?_;simp only [Act.put,aS,List.set_cons_zero,List.set_cons_succ];refine tk 3 53 hS0 ?_;simp only [Act.put,aS,List.set_cons_zero,List.set_cons_succ];refine tk 4 54 hS0 ?_;simp only [Act.put,aS,List.set_cons_zero,List.set_cons_succ];refine tk 5 55 hS0 ?_
    simp only [Act.put,aS,List.set_cons_zero,List.set_cons_succ];refine tk 7 57 hS0 ?_;simp only [Act.put,aS,List.set_cons_zero,List.set_cons_succ];refine tk 8 58 hS0 ?_;simp only [Act.put,aS,List.set_cons_zero,List.set_cons_succ];refine tk 9 59 hS0 ?_;simp only [Act.put,aS,List.set_cons_zero,List.set_cons_succ];refine tk 10 60 hS0 ?_;simp only [Act.put,aS,List.set_cons_zero,List.set_cons_succ]
    refine tk 11 61 hS0 ?_;simp only [Act.put,aS,List.set_cons_zero,List.set_cons_succ];refine oneH (i:=6) (by kernel_rfl) (fun o ho K' hK=>?_);(simp only [List.getElem?_toArray,List.getElem?_cons_zero,List.getElem?_cons_succ,Option.some.injEq] at ho;subst ho);(go_simp);(have HZO:=Lib.hid (zerosOf_any (trimF f) (.agg #[.int .i64 f.params,.int .i64 f.result,.slice Ar2 f.regs.length cr2,.slice (some ⟨gb,ob,none⟩) (blksT f.blocks).length cb2]) w5.drew (G3+1) (A 0) (VFun.keep (q6 ((HB45.out.mono (Nat.le_refl _)).trans ((Below.refl _ w5).drew.mono HB45.out.size))) HVF4.out) ((HG3.out.2.cells 0 hz2).of_block (by rfl)) (by have:=HBD.out.nr;omega) (by have:=HBD.out.par;exact ⟨this.1,this.2.2⟩)));refine HZO.out.mono ?_;rintro e wA ⟨⟨vz,rfl,hoz⟩,hbA⟩;have hb5A:Below w5.heap.size w5 wA:=(Below.refl _ w5).drew.trans (hbA.mono (Nat.le_refl _))
    have hSA:=hS wA hb5A;have HB5A:=Lib.hid hb5A;obtain ⟨Az,cz,rfl⟩:=own_formZ hoz;have HOZ:=Lib.hid hoz;(go_wp2_with fail);refine hK.out _ _ hSA ?_;clear hK K' hbA hb5A hoz;refine oneH (i:=12) (by kernel_rfl) (fun o ho K' hK=>?_);simp only [List.getElem?_toArray,List.getElem?_cons_zero,List.getElem?_cons_succ,Option.some.injEq] at ho;subst ho
    (go_simp);obtain ⟨csI,hcsI,hsrc⟩:=insB_src HSI.out;have HCSI:=Lib.hid hcsI;have hbB:Below w5.heap.size w5 (wA.alloc (.cells #[.slice Az (zrK (trimF f).params (A 0) (trimF f).regs.length).length cz,.slice Ai kb.ins.length ci] 41)):=HB5A.out.alloc HB5A.out.size _;have hrB:(wA.alloc (.cells #[.slice Az (zrK (trimF f).params (A 0) (trimF f).regs.length).length cz,.slice Ai kb.ins.length ci] 41)).heap[wA.heap.size]?=some (.cells #[.slice Az (zrK (trimF f).params (A 0) (trimF f).regs.length).length cz,.slice Ai kb.ins.length ci] 41):=heap_alloc_new _ _;have hsz:=srcI_own (HOZ.out.alloc (.cells #[.slice Az (zrK (trimF f).params (A 0) (trimF f).regs.length).length cz,.slice Ai kb.ins.length ci] 41)) zCs_one;have hsi:=hsrc.keep hbB;obtain ⟨gB,hgB⟩:∃ gB,gB=wA.heap.size:=⟨_,rfl⟩;rw [← hgB] at hrB ⊢
    have HGB:=Lib.hid hgB;have hABs:Below wA.heap.size wA (wA.alloc (.cells #[.slice Az (zrK (trimF f).params (A 0) (trimF f).regs.length).length cz,.slice Ai kb.ins.length ci] 41)):=(Below.refl _ _).alloc (Nat.le_refl _) _;generalize wA.alloc (.cells #[.slice Az (zrK (trimF f).params (A 0) (trimF f).regs.length).length cz,.slice Ai kb.ins.length ci] 41)=wB at *;have HBB:=Lib.hid hbB;have hSB:=hS wB hbB
    have hrow2:wB.rowIs gB 41 2 (fun d=>if d=0 then .slice Az (zrK (trimF f).params (A 0) (trimF f).regs.length).length cz else .slice Ai kb.ins.length ci):=⟨_,hrB,rfl,fun d hd=>by
      match d,hd with
      | 0,_=>rfl
      | 1,_=>rfl⟩
    have HCC:=Lib.hid (concatI_any (w:=wB) (L:=fun d=>if d=0 then (zrK (trimF f).params (A 0) (trimF f).regs.length).length else kb.ins.length) (C:=fun d=>if d=0 then zCs (zrK (trimF f).params (A 0) (trimF f).regs.length) else csI) hrow2 (fun d hd=>by
      match d,hd with
      | 0,_=>exact hsz
      | 1,_=>exact hsi) (by decide) (by
      have h1:(zrK (trimF f).params (A 0) (trimF f).regs.length).length≤(trimF f).regs.length:=zrK_len _ _ _;have h2:=HBD.out.nr;have h3:=HBD.out.ok.fn.items kb (List.mem_of_getElem? HKB.out)
      simp only [preN,if_pos rfl,if_neg (show ¬ (1:Nat)=0 by decide)];show _+_+_≤_;simp;omega))
    refine hK.out _ _ hSB ?_;clear hK K' hcsI hsrc hsz hsi hrB hgB hrow2;refine oneH (i:=13) (by kernel_rfl) (fun o ho K' hK=>?_);(simp only [List.getElem?_toArray,List.getElem?_cons_zero,List.getElem?_cons_succ,Option.some.injEq] at ho;subst ho);(go_simp);refine HCC.out.mono ?_;rintro e wC ⟨⟨vc,rfl,hoc⟩,hbC⟩;obtain ⟨Ac,cc,rfl⟩:=own_formZ hoc;have HOC:=Lib.hid hoc
    have HBC:=Lib.hid hbC;have hb5C:Below w5.heap.size w5 wC:=HBB.out.trans (hbC.mono HBB.out.size);have HB5C:=Lib.hid hb5C;have hSC:=hS wC hb5C;(go_wp2_with fail);refine hK.out _ _ hSC ?_;clear hK K' hbC hb5C hoc;refine tk 14 64 hSC ?_;simp only [Act.put,aS,List.set_cons_zero,List.set_cons_succ]
    refine tk 15 65 hSC ?_;simp only [Act.put,aS,List.set_cons_zero,List.set_cons_succ];refine wpAnyH_done (by kernel_rfl) ?_ _;have hfz:=((HBG.out.2.same (HB5C.out.block gb HBG.out.2.lt)).free (ob+1));refine lastH (by decide) (fun o ho K' hK=>?_);(simp only [List.getElem?_toArray,List.getElem?_cons_zero,List.getElem?_cons_succ,Option.some.injEq] at ho;subst ho);have scell:=hSC.2.2.2.2.2;(go_simp);have hpn:preN (fun d=>if d=0 then (zrK (trimF f).params (A 0) (trimF f).regs.length).length else kb.ins.length) 2=(zrK (trimF f).params (A 0) (trimF f).regs.length).length+kb.ins.length:=by simp [preN]
    (have hpc:preC (fun d=>if d=0 then zCs (zrK (trimF f).params (A 0) (trimF f).regs.length) else csI) 2=zCs (zrK (trimF f).params (A 0) (trimF f).regs.length)++csI:=by simp [preC]);(have hWA:∀ b r,A b r=(plnOf (trimF f)).W b r:=fun b r=>by rw [Bool.eq_iff_iff,HAW.out b r,plnW]);have hzl:zrK (trimF f).params (A 0) (trimF f).regs.length=zrL (plnOf (trimF f)):=by
      unfold zrK zrL;(congr 1);(funext r);rw [hWA];rfl
    (have hW2C:Below w2.heap.size w2 wC:=((HW23.out.trans (HB35.out.mono HW23.out.size)).trans (HB5C.out.mono (by have:=HW23.out.size;have:=HB35.out.size;omega))));have hst:=store_zeros (HT:=w2.heap.size) (wC:=wC) (bs:=blksT f.blocks) (k:=kb) (Ac:=Ac) (cc:=cc) (l:=zrK (trimF f).params (A 0) (trimF f).regs.length) (csI:=csI) (SBlksB.go (keptBG HB5C.out) (BG.below HB5C.out (Nat.le_refl _)) HBK5.out) HKB.out HBD.out.ok.plain (by rw [← hpc];exact HOC.out) hpn
      (Rows.imp (fun x c hx=>CIns.go (keptBG HB5C.out) (BG.below HB5C.out (Nat.le_refl _)) hx) HCSI.out) (by have:=HBB.out.size;have:=HB35.out.size;have:=HW23.out.size;omega) (fun r hr=>by rw [hzl] at hr;have:=HBD.out.zr.2 r hr;have:=HBD.out.nr;omega)
      (SIntsB.go (keptBG HB5C.out) (BG.below HB5C.out (Nat.le_refl _)) HRG5.out)
    have hgbN:gb<N7:=by
      obtain ⟨b',o',k',e,-,hr'⟩:=HB2.out.at_ hz;cases e;have:=hr'.1.2.lt;have:=HN7.out;omega
    have hothD:∀ y,y≠gb→(wC.setCell ⟨gb,ob+1,none⟩ (.slice Ac (preN (fun d=>if d=0 then (zrK (trimF f).params (A 0) (trimF f).regs.length).length else kb.ins.length) 2) cc)).heap[y]?=wC.heap[y]?:=fun y hy=>Below.heap_setCell _ _ _ _ hy;have hW2D:Below w2.heap.size w2 (wC.setCell ⟨gb,ob+1,none⟩ (.slice Ac (preN (fun d=>if d=0 then (zrK (trimF f).params (A 0) (trimF f).regs.length).length else kb.ins.length) 2) cc)):=hW2C.setCell (p:=⟨gb,ob+1,none⟩) HBG.out.1 _;refine hK.out _ _ ?_;clear hK K' hS hS0 hSA hSB hSC scell hfz g0 g1 g3c b7 hpn hpc hz2;generalize wC.setCell ⟨gb,ob+1,none⟩ (.slice Ac (preN (fun d=>if d=0 then (zrK (trimF f).params (A 0) (trimF f).regs.length).length else kb.ins.length) 2) cc)=wD at *;have HWA:=Lib.hid hWA;have HW2D:=Lib.hid hW2D;have hzf:(zF (plnOf (trimF f))).blocks=(blksT f.blocks).set 0 ⟨kb.phis,(zrL (plnOf (trimF f))).map zI++kb.ins,kb.term⟩:=by
      (have hk:blkAt (trimF f) 0=kb:=by unfold blkAt;rw [List.getD_eq_getElem?_getD,show (trimF f).blocks[0]?=some kb from HKB.out];rfl);rw [← hk];rfl
    (have HBKD:Hid (SL wD 5 (RBlkB (BG w2.heap.size wD)) (some ⟨gb,ob,none⟩) cb2 (zF (plnOf (trimF f))).blocks):=Lib.hid (by rw [hzf,← hzl];exact hst.1));have HRGD:Hid (SL wD 1 (RIntB (BG w2.heap.size wD)) Ar2 cr2 f.regs):=Lib.hid hst.2;have HZL:Hid ((zF (plnOf (trimF f))).blocks.length=(blksT f.blocks).length):=Lib.hid zF_len;have hb5D:∀ y,y≠gb→y<w5.heap.size→wD.heap[y]?=w5.heap[y]?:=fun y h1 h2=>(hothD y h1).trans (HB5C.out.block y h2)
    have HGA:Hid (BG1 wD G3 (trimF f).blocks.length (trimF f).regs.length A):=Lib.hid (HG3.out.2.of_blocks fun y h1 h2=>hb5D y (by have:=HG3.out.1;have:=HB34.out.size;have:=HN7.out;omega) (by
      by_cases e:y=G3
      · subst e;exact HG3.out.2.row.lt
      · obtain ⟨a,rfl⟩:∃ a,y=G3+1+a:=⟨y - G3 - 1,by omega⟩
        exact (HG3.out.2.cells a (by omega)).lt))
    have hd7:=(hb5D N7 (by omega) (qW HB75.out)).trans HB75.out;have HD7:=Lib.hid hd7;have HVFD:Hid (VFun wD (.agg #[.int .i64 f.params,.int .i64 f.result,.slice Ar2 f.regs.length cr2,.slice (some ⟨gb,ob,none⟩) (blksT f.blocks).length cb2]) (zF (plnOf (trimF f)))):=Lib.hid
      ⟨Ar2,cr2,some ⟨gb,ob,none⟩,cb2,by rw [HZL.out];rfl,SL.imp (fun _ _ _ h=>h.2) HRGD.out,SL.imp (fun b o x h=>RBlkB.plain b o x h) HBKD.out,HPQ.out.1,HPQ.out.2⟩
    have c70:=q5 hd7 0;have c71:=q5 hd7 1;have c72:=q5 hd7 2;have c73:=q5 hd7 3;clear hst hzf hd7 hothD hb5D hzl hWA hW2C hW2D hgbN
    have hph:=(phisOfS_any (zF (plnOf (trimF f))) _ wD G3 A HVFD.out (by rw [HZL.out];exact HGA.out) (by have:=HBD.out.nb;rw [zF_len];show (trimF f).blocks.length≤_;omega) (by have:=HBD.out.nr;show (trimF f).regs.length≤_;omega) (fun b hb=>by
      have h:=HBD.out.blk b hb
      exact ⟨by omega,fun x hx=>(h.2.1 x hx).2.1⟩) (by rw [HZL.out];exact hz))
    rw [HZL.out] at hph;have HPH:=Lib.hid hph;clear hph;go_wp2_with fail
    (refine HPH.out.mono ?_;rintro e wE ⟨⟨Gp,Kp,Vp,he,hGp,hgr⟩,hbE⟩;rw [HZL.out] at he;subst he;have HGP:=Lib.hid (And.intro hGp hgr);have HBE:=Lib.hid hbE;clear hGp hgr hbE)
    clear c70 c71 c72 c73
    have HGR:Hid (Gri wE Gp Kp (zF (plnOf (trimF f))).blocks.length Vp (fun b=>zs (phL (plnOf (trimF f)) b))):=Lib.hid (by
      have h:=HGP.out.2
      rw [show (fun b=>zs (phK (zF (plnOf (trimF f))).blocks A b (zF (plnOf (trimF f))).regs.length))=fun b=>zs (phL (plnOf (trimF f)) b) from funext fun b=>by
        rw [← phK_eq (f:=trimF f) HBD.out.nb.1 HWA.out b];rfl] at h
      exact h)
    have HVFE:Hid (VFun wE (.agg #[.int .i64 f.params,.int .i64 f.result,.slice Ar2 f.regs.length cr2,.slice (some ⟨gb,ob,none⟩) (blksT f.blocks).length cb2]) (zF (plnOf (trimF f)))):=Lib.hid (VFun.keep (q6 HBE.out) HVFD.out);have HW2E:Hid (Below w2.heap.size w2 wE):=Lib.hid (HW2D.out.trans (HBE.out.mono HW2D.out.size));have hd7:=(HBE.out.block N7 (qW HD7.out)).trans HD7.out;have HE7:=Lib.hid hd7;have c70:=q5 hd7 0;have c71:=q5 hd7 1;have c72:=q5 hd7 2;have c73:=q5 hd7 3;have hout:=outline_any w2.heap.size (zF (plnOf (trimF f))) wE (phL (plnOf (trimF f))) Gp Kp Vp Ar2 (some ⟨gb,ob,none⟩) cr2 cb2
      (SL.imp (fun _ _ _ h=>h.2) (SIntsB.go (keptBG HBE.out) (BG.below HBE.out (Nat.le_refl _)) HRGD.out)) (SBlksB.go (keptBG HBE.out) (BG.below HBE.out (Nat.le_refl _)) HBKD.out) HGR.out (by have:=HBD.out.par;exact ⟨this.1,this.2.2⟩) (by rw [HZL.out];have h:(blksT f.blocks).length≤64:=HBD.out.nb.2;omega) (by have:=HBD.out.nr;show (trimF f).regs.length≤_;omega)
      (fun b _=>by have:=HBD.out.ph b;exact ⟨by omega,this.2⟩) (fun b hb=>by
        have h:=HBD.out.blk b hb
        exact ⟨by omega,fun x hx=>(h.2.1 x hx).2.1⟩)
    rw [HZL.out] at hout;have HOUT:=Lib.hid hout;clear hout hd7;go_wp2_with fail
    (refine HOUT.out.mono ?_;rintro e wF ⟨K,lab,vR,vB,PV,IV,TV,YS,he,hKF,hlow,hbF,hLR,hOS⟩;have he2:e=.returned (.agg #[.int .i64 f.params,.int .i64 f.result,vR,vB]):=he;subst he2;rw [HBD.out.regs_eq] at hLR;obtain ⟨AR,cR,hvR⟩:=own_formZ hLR.own;obtain ⟨AB,cB,hvB⟩:=own_formZ hOS.rB.own;rw [HZL.out] at hvB;subst hvR hvB;clear he;have HKF:=Lib.hid hKF;have HLOW:=Lib.hid hlow;have HBF:=Lib.hid hbF;have HLR:=Lib.hid hLR;have HOS:=Lib.hid hOS;clear hKF hlow hbF hLR hOS)
    clear c70 c71 c72 c73;obtain ⟨nR,hnR⟩:∃ nR,nR=(zA (plnOf (trimF f))).regs.length:=⟨_,rfl⟩;have HNR:=Lib.hid hnR;rw [← hnR];clear hnR;(go_upto_region 13 with fail);have hbFG:Below wF.heap.size wF (wF.alloc (.cells #[.int .i64 f.params,.int .i64 f.result,.slice AR nR cR,.slice AB (blksT f.blocks).length cB] 31)):=(Below.refl _ _).alloc (Nat.le_refl _) _;have b12:(wF.alloc (.cells #[.int .i64 f.params,.int .i64 f.result,.slice AR nR cR,.slice AB (blksT f.blocks).length cB] 31)).heap[wF.heap.size]?=some (.cells #[.int .i64 f.params,.int .i64 f.result,.slice AR nR cR,.slice AB (blksT f.blocks).length cB] 31):=heap_alloc_new _ _;generalize wF.alloc (.cells #[.int .i64 f.params,.int .i64 f.result,.slice AR nR cR,.slice AB (blksT f.blocks).length cB] 31)=wG at *
    obtain ⟨N12,hN12⟩:∃ N12,N12=wF.heap.size:=⟨_,rfl⟩;rw [← hN12] at b12 ⊢;have HN12:=Lib.hid hN12;have HFG:=Lib.hid hbFG;have HB12:=Lib.hid b12;have HF6:=Lib.hid (f64_of HVFD.out);have hnE:∀ b,b<(zF (plnOf (trimF f))).blocks.length→b<(trimF f).blocks.length:=fun b hb=>by rw [HZL.out] at hb;exact hb
    have HVO:Hid (VFun wG (.agg #[.int .i64 f.params,.int .i64 f.result,.slice AR nR cR,.slice AB (blksT f.blocks).length cB]) ⟨f.params,f.result,(zA (plnOf (trimF f))).regs,outBs (trimF f) (plnOf (trimF f))⟩):=Lib.hid (by
      obtain ⟨Ar',cr',Ab',cb',e1,e2,hsr,hsb⟩:=fun_reads (B:=fun _=>True) (phs:=fun b=>(outPs (zF (plnOf (trimF f))) (phL (plnOf (trimF f))) b).map fun d=>(⟨d,[]⟩:PhiD)) HLR.out HOS.out.rB
        (fun b hb=>phC_phiO (HOS.out.rP b hb) (by unfold outPs;rw [List.length_map,List.length_range])) (fun b hb=>⟨_,HOS.out.rI b hb⟩) HOS.out.rT
        (fun z hz=>by
          obtain ⟨r,-,rfl⟩:=List.mem_map.1 hz
          exact rgT_64 HF6.out.regs r) (fun b hb=>HBD.out.out64 HF6.out (hnE b hb)) (fun _ _ _=>trivial) (fun _ _ _=>trivial)
      simp only [Value.slice.injEq] at e1 e2;obtain ⟨rfl,-,rfl⟩:=e1;obtain ⟨rfl,-,rfl⟩:=e2;refine ⟨AR,cR,AB,cB,?_,SInts.keep (q6 HFG.out) (SL.imp (fun _ _ _ h=>h.2) hsr),SBlks.keep (q6 HFG.out) (SL.imp (fun b o x h=>RBlkB.plain b o x h) hsb),HPQ.out.1,HPQ.out.2⟩;have hl2:(outBs (trimF f) (plnOf (trimF f))).length=(blksT f.blocks).length:=by unfold outBs;rw [List.length_map,List.length_range,HZL.out]
      rw [hl2,HNR.out])
    have hil:=isLarge_any _ _ wG HVO.out (by
      show (outBs (trimF f) (plnOf (trimF f))).length≤1000;unfold outBs;rw [List.length_map,List.length_range,HZL.out];have h:(blksT f.blocks).length≤64:=HBD.out.nb.2
      omega) (fun b hb=>by
      have hb:b∈outBs (trimF f) (plnOf (trimF f)):=hb;unfold outBs at hb;obtain ⟨i,hi,rfl⟩:=List.mem_map.1 hb;rw [List.mem_range] at hi;have h1:=(HBD.out.ph i).1;obtain ⟨kb',hk⟩:∃ kb',(zF (plnOf (trimF f))).blocks[i]?=some kb':=⟨_,List.getElem?_eq_getElem hi⟩;have h2:=(HBD.out.blk kb' (List.mem_of_getElem? hk)).1;refine ⟨?_,?_⟩
      · show ((outPs _ _ i).map _).length≤1000;unfold outPs;rw [List.length_map,List.length_map,List.length_range];omega
      · show (outIs _ _ i).length≤1000;unfold outIs
        rw [List.length_mapIdx,qb hk];omega)
    have HIL:Hid (Calls Try.prog 19 #[.agg #[.int .i64 f.params,.int .i64 f.result,.slice AR nR cR,.slice AB (blksT f.blocks).length cB]] wG fun e w'=>e=.returned (.bool (lgB (bdF f)))∧Below wG.heap.size wG w'):=Lib.hid (hil.mono (fun e w' h=>⟨by
      rw [h.1];show Ending.returned (.bool (decide (256<(outBs (trimF f) (plnOf (trimF f))).length+qo (outBs (trimF f) (plnOf (trimF f)))) || decide (256<(zA (plnOf (trimF f))).regs.length)))=_
      rw [HBD.out.out_items.1,HBD.out.out_items.2];rfl,h.2⟩))
    have c120:=q5 b12 0;have c121:=q5 b12 1;have c122:=q5 b12 2;have c123:=q5 b12 3;have HNE:=Lib.hid hnE;clear hN12 hbFG b12 hil hnE;(go_wp2_with fail);refine HIL.out.mono ?_;rintro e wH ⟨rfl,hbH⟩
    have HBH:=Lib.hid hbH;have hbFH:Below wF.heap.size wF wH:=HFG.out.trans (hbH.mono HFG.out.size);have HFH:=Lib.hid hbFH;have HEH:Hid (Below wE.heap.size wE wH):=Lib.hid (HBF.out.trans (hbFH.mono HBF.out.size));have HW2H:Hid (Below w2.heap.size w2 wH):=Lib.hid (HW2E.out.trans (HEH.out.mono HW2E.out.size));have HYH:=Lib.hid ((HW2H.out.block (N+1) HZ2.out).trans HBY2.out);have HB12H:=Lib.hid ((hbH.block N12 (qW HB12.out)).trans HB12.out);have HE7H:=Lib.hid ((HEH.out.block N7 (qW HE7.out)).trans HE7.out);have HWH:Hid (Below w.heap.size w wH):=Lib.hid (HW2.out.trans (HW2H.out.mono HW2.out.size))
    clear c120 c121 c122 c123 hbH hbFH;cases hlg:lgB (bdF f)
    · have c120:=q5 HB12H.out 0;have c121:=q5 HB12H.out 1;have c122:=q5 HB12H.out 2;have c123:=q5 HB12H.out 3;have c70:=q5 HE7H.out 0;have c71:=q5 HE7H.out 1;have c72:=q5 HE7H.out 2;have c73:=q5 HE7H.out 3;have HLG:=Lib.hid hlg
      clear hlg;(go_wp2_with fail);clear c120 c121 c122 c123 c70 c71 c72 c73;have hosH:OutS wH K (extL lab wF.heap.size 1) (zF (plnOf (trimF f))) (phL (plnOf (trimF f))) (zF (plnOf (trimF f))).blocks.length (.slice AB (blksT f.blocks).length cB) PV IV TV YS:=HOS.out.chg (S:=fun _=>False) (Chg.of_below HFH.out) (fun h=>h) (fun h=>h) (fun _ _=>⟨fun h=>h,fun h=>h⟩);have hKH:K≤wH.heap.size:=by
        (obtain ⟨g,cap,e,-,-⟩:=HOS.out.rB.own.form (by rw [HZL.out];exact hz));(have h1:=HOS.out.rB.own.lt g (by rw [e];rfl));have:=HFH.out.size;omega
      have hlowH:∀ k,k<wE.heap.size→extL lab wF.heap.size 1 k≤1:=fun k hk=>by
        rw [qJ (by have:=HBF.out.size;omega)];exact (HLOW.out k hk).1
      have hnm:=nameArgs_any wE wH (zF (plnOf (trimF f))) (phL (plnOf (trimF f))) (AEp (plnOf (trimF f))) (fun b=>(bBlk (plnOf (trimF f)) b).ins) (fun b=>(bTerm (plnOf (trimF f)) b).arg) (Ap (plnOf (trimF f))) K (extL lab wF.heap.size 1)
        (.agg #[.int .i64 f.params,.int .i64 f.result,.slice Ar2 f.regs.length cr2,.slice (some ⟨gb,ob,none⟩) (blksT f.blocks).length cb2]) (.slice AR nR cR) (.slice AB (blksT f.blocks).length cB) PV IV TV YS Gp Kp Vp
        HBD.out.nm HVFE.out HGR.out HEH.out hlowH hKH hosH (by rw [HZL.out];exact hz) (by rw [HZL.out];have h:(blksT f.blocks).length≤64:=HBD.out.nb.2;omega) (by have:=HBD.out.nr;show (trimF f).regs.length≤_;omega) (by have:=HBD.out.par;exact ⟨this.1,this.2.2⟩)
        (fun b _=>by have:=HBD.out.ph b;exact ⟨by omega,this.2⟩) (fun b hb=>by
          have h:=HBD.out.blk b hb
          exact ⟨by omega,h.2.1,h.2.2⟩)
      rw [HZL.out] at hnm;have HNM:=Lib.hid hnm;have HLOWH:=Lib.hid hlowH;(have HREGH:Hid (LRw wH K (extL lab wF.heap.size 1) 2 3 1 (.slice AR nR cR) (zA (plnOf (trimF f))).regs.length ((zA (plnOf (trimF f))).regs.map (Value.int .i64))):=Lib.hid (by rw [HNR.out];exact HLR.out.chg (S:=fun _=>False) (Chg.of_below HFH.out) (fun h=>h)));clear hnm hlowH hKH hosH;refine HNM.out.mono ?_;rintro e wI ⟨he,hchg,lab',hlab,hB,hP,hI,hT⟩;subst he;have HCH:=Lib.hid hchg
      have hreg:LRw wI K lab' 2 3 1 (.slice AR nR cR) (zA (plnOf (trimF f))).regs.length ((zA (plnOf (trimF f))).regs.map (Value.int .i64)):=by
        have h:=HREGH.out.chg0 hchg (by decide);exact ⟨h.own,fun g hg=>(hlab g (HREGH.out.own.lt g hg).2).trans (HREGH.out.lb g hg)⟩
      (have hWI:Below wE.heap.size wE wI:=HEH.out.trans ⟨hchg.os,hchg.tape,hchg.output,hchg.size,fun y hy=>hchg.block y (by have:=HEH.out.size;omega) (by have h1:=HLOWH.out y hy;show ¬ 3≤extL lab wF.heap.size 1 y;omega)⟩);have hW2I:Below w2.heap.size w2 wI:=HW2E.out.trans (hWI.mono HW2E.out.size);have hfin:=fun_reads (B:=BG w2.heap.size wI) (phs:=fun b=>(List.range (phL (plnOf (trimF f)) b).length).map (phF (zF (plnOf (trimF f))) (phL (plnOf (trimF f))) (Ap (plnOf (trimF f))) b)) hreg hB hP hI hT
        (fun z hz=>by
          rw [← HBD.out.regs_eq] at hz;obtain ⟨r,-,rfl⟩:=List.mem_map.1 hz
          exact rgT_64 HF6.out.regs r) (fun b hb=>HBD.out.fin64 (f64_of HVF4.out) HF6.out (HNE.out b hb))
        (fun g h0 hf=>⟨by
          by_cases hg:g<wE.heap.size
          · (have h1:=hlab g (by have:=HEH.out.size;omega));(rw [h0,qJ (by have:=HBF.out.size;omega)] at h1);exact (HLOW.out g hg).2 h1.symm
          · have:=HW2E.out.size;omega,hf⟩) (fun g h0 hf=>⟨by have:=HW2E.out.size;have:=HKF.out;omega,hf⟩)
      rw [HBD.out.fin_eq] at hfin;obtain ⟨Ar',cr',Ab',cb',e1,e2,hsr,hsb⟩:=hfin;simp only [Value.slice.injEq] at e1 e2;obtain ⟨rfl,-,rfl⟩:=e1;obtain ⟨rfl,-,rfl⟩:=e2;have hsz12:=qW HB12H.out;(have b12I:=(hchg.block N12 hsz12 (by show ¬ 3≤extL lab wF.heap.size 1 N12;rw [extL_new (by have:=HN12.out;omega)];decide)).trans HB12H.out);have byI:=(hW2I.block (N+1) HZ2.out).trans HBY2.out;have HYI:=Lib.hid byI
      have HSR:=Lib.hid hsr;have HSB:=Lib.hid hsb;have HW2I:=Lib.hid hW2I;have c120:=q5 b12I 0;have c121:=q5 b12I 1;have c122:=q5 b12I 2;have c123:=q5 b12I 3;have y0:=q5 byI 0;have y1:=q5 byI 1
      have y2:=q5 byI 2;have y3:=q5 byI 3;have yf0:=q8 byI 0;have yf1:=q8 byI 1;have yf2:=q8 byI 2;have yf3:=q8 byI 3;clear hsr hsb hW2I hWI b12I byI hsz12 hB hP hI hT hreg hchg hlab;(go_wp2_with fail);have HEND:Hid (Below w.heap.size w ((((wI.setCell ⟨N+1,0,none⟩ (.int .i64 f.params)).setCell ⟨N+1,1,none⟩ (.int .i64 f.result)).setCell ⟨N+1,2,none⟩ (.slice AR nR cR)).setCell ⟨N+1,3,none⟩ (.slice AB (blksT f.blocks).length cB))):=Lib.hid (((((HW2.out.trans (HW2I.out.mono HW2.out.size)).setCell (by show w.heap.size≤N+1;have:=HS1.out;omega) _).setCell (by show w.heap.size≤N+1;have:=HS1.out;omega) _).setCell (by show w.heap.size≤N+1;have:=HS1.out;omega) _).setCell (by show w.heap.size≤N+1;have:=HS1.out;omega) _)
      have hoth:∀ y,y≠N+1→((((wI.setCell ⟨N+1,0,none⟩ (.int .i64 f.params)).setCell ⟨N+1,1,none⟩ (.int .i64 f.result)).setCell ⟨N+1,2,none⟩ (.slice AR nR cR)).setCell ⟨N+1,3,none⟩ (.slice AB (blksT f.blocks).length cB)).heap[y]?=wI.heap[y]?:=fun y hy=>qq wI hy _ _ _ _;(have hkb2:KeptB (BG w2.heap.size wI) wI ((((wI.setCell ⟨N+1,0,none⟩ (.int .i64 f.params)).setCell ⟨N+1,1,none⟩ (.int .i64 f.result)).setCell ⟨N+1,2,none⟩ (.slice AR nR cR)).setCell ⟨N+1,3,none⟩ (.slice AB (blksT f.blocks).length cB)):=fun a v hb ha=>(World.cell?_of_block (hoth a.block (by have:=hb.1;have:=HZ2.out;omega))).trans ha);(have hbb2:∀ b,BG w2.heap.size wI b→BG w.heap.size ((((wI.setCell ⟨N+1,0,none⟩ (.int .i64 f.params)).setCell ⟨N+1,1,none⟩ (.int .i64 f.result)).setCell ⟨N+1,2,none⟩ (.slice AR nR cR)).setCell ⟨N+1,3,none⟩ (.slice AB (blksT f.blocks).length cB)) b:=fun b hb=>⟨by have:=hb.1;have:=HW2.out.size;omega,hb.2.same (hoth b (by have:=hb.1;have:=HZ2.out;omega))⟩);have hbl:(zA (plnOf (trimF f))).blocks.length=(blksT f.blocks).length:=by
        show ((List.range (blksT f.blocks).length).map (bBlk (plnOf (trimF f)))).length=_;rw [List.length_map,List.length_range]
      refine bodyPost_ret (qi rfl _ _ (N+1) 31 #[.int .i64 f.params,.int .i64 f.result,.slice AR nR cR,.slice AB (blksT f.blocks).length cB] (0,0) _ (by rfl) (qT HYI.out _ _ _ _) Try.underlying31 (by rfl) (by obtain ⟨i,h1,_,h3,_⟩:=info_parts Try.info31;rw [h1];exact congrArg some h3)) rfl ?_
      exact ⟨⟨_,_,rfl,.inr (.inr ⟨HPL.out,n,f,rfl,HFN.out,.inr ⟨HLG.out,rfl,AR,cR,AB,cB,by
        show Value.agg #[.int .i64 f.params,.int .i64 f.result,.slice AR nR cR,.slice AB (blksT f.blocks).length cB]=Value.agg #[.int .i64 f.params,.int .i64 f.result,.slice AR (zA (plnOf (trimF f))).regs.length cR,.slice AB (zA (plnOf (trimF f))).blocks.length cB]
        rw [hbl,HNR.out],SIntsB.go hkb2 hbb2 HSR.out,SBlksB.go hkb2 hbb2 HSB.out,HPQ.out.1,HPQ.out.2⟩⟩)⟩,HEND.out⟩
    · have y0:=q5 HYH.out 0;have y1:=q5 HYH.out 1;have y2:=q5 HYH.out 2;have y3:=q5 HYH.out 3;have yf0:=q8 HYH.out 0;have yf1:=q8 HYH.out 1;have yf2:=q8 HYH.out 2;have yf3:=q8 HYH.out 3;have HLG:=Lib.hid hlg
      clear hlg;(go_wp2_with fail);(have HERR:Hid (Below w.heap.size w ((((wH.setCell ⟨N+1,0,none⟩ (.int .i64 0)).setCell ⟨N+1,1,none⟩ (.int .i64 0)).setCell ⟨N+1,2,none⟩ (.slice none 0 0)).setCell ⟨N+1,3,none⟩ (.slice none 0 0))):=Lib.hid ((((HWH.out.setCell (by show w.heap.size≤N+1;have:=HS1.out;omega) _).setCell (by show w.heap.size≤N+1;have:=HS1.out;omega) _).setCell (by show w.heap.size≤N+1;have:=HS1.out;omega) _).setCell (by show w.heap.size≤N+1;have:=HS1.out;omega) _));(refine bodyPost_ret (qi rfl _ _ (N+1) 31 #[.int .i64 0,.int .i64 0,.slice none 0 0,.slice none 0 0] (0,0) _ (by rfl) (qT HYH.out _ _ _ _) Try.underlying31 (by rfl) (by obtain ⟨i,h1,_,h3,_⟩:=info_parts Try.info31;rw [h1];exact congrArg some h3)) rfl ?_);exact ⟨⟨_,_,rfl,.inr (.inr ⟨HPL.out,n,f,rfl,HFN.out,.inl ⟨HLG.out,rfl,rfl⟩⟩)⟩,HERR.out⟩
  · obtain ⟨t,x,rfl⟩:=err_form HE.out hp;have y0:=q5 HBY2.out 0;have y1:=q5 HBY2.out 1;have y2:=q5 HBY2.out 2;have y3:=q5 HBY2.out 3;have yf0:=q8 HBY2.out 0;have yf1:=q8 HBY2.out 1;have yf2:=q8 HBY2.out 2;have yf3:=q8 HBY2.out 3
    (go_wp2_with fail);(have HERR2:Hid (Kept w2 ((((w2.setCell ⟨N+1,0,none⟩ (.int .i64 0)).setCell ⟨N+1,1,none⟩ (.int .i64 0)).setCell ⟨N+1,2,none⟩ (.slice none 0 0)).setCell ⟨N+1,3,none⟩ (.slice none 0 0))):=Lib.hid (fun a v h=>(World.cell?_of_block (by by_cases e:a.block=N+1;{ rw [e,qT HBY2.out,HBY2.out] };{ exact qq _ e _ _ _ _ })).trans h));(have HERR:Hid (Below w.heap.size w ((((w2.setCell ⟨N+1,0,none⟩ (.int .i64 0)).setCell ⟨N+1,1,none⟩ (.int .i64 0)).setCell ⟨N+1,2,none⟩ (.slice none 0 0)).setCell ⟨N+1,3,none⟩ (.slice none 0 0))):=Lib.hid ((((HW2.out.setCell (by show w.heap.size≤N+1;have:=HS1.out;omega) _).setCell (by show w.heap.size≤N+1;have:=HS1.out;omega) _).setCell (by show w.heap.size≤N+1;have:=HS1.out;omega) _).setCell (by show w.heap.size≤N+1;have:=HS1.out;omega) _));(refine bodyPost_ret (qi rfl _ _ (N+1) 31 #[.int .i64 0,.int .i64 0,.slice none 0 0,.slice none 0 0] (0,0) _ (by rfl) (qT HBY2.out _ _ _ _) Try.underlying31 (by rfl) (by obtain ⟨i,h1,_,h3,_⟩:=info_parts Try.info31;rw [h1];exact congrArg some h3)) rfl ?_);exact ⟨⟨_,_,rfl,.inl ⟨hp,rfl,HE.out.keep HERR2.out⟩⟩,HERR.out⟩
end Go.Proofs.Ytfoggldjjnabcaa

namespace Go.Proofs.Ytfoggldjjnabcaa
open Go.RowKit
set_option linter.unusedVariables false
def ex12:FunD:=⟨1,1,[1],[⟨[],[],⟨3,0,[]⟩⟩]⟩
theorem ex12_trim:trimF ex12=ex12:=by rfl
theorem ex12_plain:(plainE [ex12]).1=0:=by rfl
theorem ex12_ok:SsOk [ex12] (plnOf ex12) (DBl ex12.blocks) (ordO ex12.blocks):=by
  have h:=ssOk_trim (m:=[ex12]) (f:=ex12) (by rfl) (fun b hb=>by
    obtain rfl:=List.mem_singleton.1 hb;rfl)
  rwa [ex12_trim] at h
theorem ex12_zr:zrL (plnOf ex12)=[]:=by
  rw [List.eq_nil_iff_forall_not_mem];intro r hr;obtain ⟨h1,h2,-⟩:=mem_zrL.1 hr;have h1:r<1:=h1;have h2:(1:Int)≤(r:Int):=h2;omega
theorem ex12_ph:phL (plnOf ex12) 0=[]:=ex12_ok.no_first (by decide)
theorem ex12_vr:vr (plnOf ex12) 0 0 0=0:=by
  have h:=ex12_ok.ask_term (b:=0) (r:=0) (k:=⟨[],[],⟨3,0,[]⟩⟩) rfl (by decide) rfl;have h:VerZ (plnOf ex12) 0 0 0 (vr (plnOf ex12) 0 0 0):=h;generalize hv:vr (plnOf ex12) 0 0 0=v at h;cases h with
  | ins h1=>cases h1
  | phi h1 h2=>rw [ex12_ph] at h2;cases h2
  | par h1 h2 h3=>rfl
  | zero h1 h2 h3 h4=>rw [ex12_zr] at h4;cases h4
  | up h1 h2 h3 h4 h5=>exact absurd rfl h3
theorem ex12_build:zA (plnOf ex12)=ex12:=by
  have hold:oldL (plnOf ex12)=[0]:=by
    unfold oldL;rw [ex12_zr];show List.range 1++[]++(List.range 1).flatMap (oldB (plnOf ex12))=[0];rw [List.range_one,List.flatMap_singleton];unfold oldB;rw [ex12_ph]
    rfl
  have hb:bBlk (plnOf ex12) 0=⟨[],[],⟨3,0,[]⟩⟩:=by
    unfold bBlk;rw [ex12_ph];(have h1:preL (plnOf ex12) 0=[]:=by unfold preL;rw [ex12_zr];rfl);have h2:bTerm (plnOf ex12) 0=⟨3,0,[]⟩:=by
      show (⟨3,if (0:Int)≤0 then ((vr (plnOf ex12) 0 0 0:Nat):Int) else -1,[]⟩:TermD)=_;rw [ex12_vr];rfl
    rw [h1,h2];rfl
  unfold zA;rw [hold];show (⟨1,1,[1],[bBlk (plnOf ex12) 0]⟩:FunD)=_;rw [hb];rfl
theorem ex12_bd:zA (plnOf (trimF ex12))=ex12:=by rw [ex12_trim];exact ex12_build
end Go.Proofs.Ytfoggldjjnabcaa
