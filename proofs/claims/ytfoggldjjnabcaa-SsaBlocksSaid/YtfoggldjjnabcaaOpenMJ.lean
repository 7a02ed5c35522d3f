/- The walk of SsaBlocks. -/
import Derived.Test.YtfoggldjjnabcaaSmallJ
import Derived.BigQuiet
import Derived.Test.YtfoggldjjnabcaaDmFrJ
import Derived.ProofKit
namespace Go.Proofs.Ytfoggldjjnabcaa
open Go.ChangeShapes Go.WideShapes Go.RowKit Go.Deep
set_option linter.unusedVariables false
set_option linter.unusedSimpArgs false
set_option maxRecDepth 100000 in
set_option maxHeartbeats 16000000 in
theorem ssaBlocks_walk (OI:OfIns) (m:List FunD) (a:Int) (v:Value) (w:World) (hv:VMod w v m) :
    Calls Try.prog 4 #[v,.int .i64 a] w fun e w'=>e=.returned (.bool true)∧Below w.heap.size w w':=by
  have hv0:=hv;obtain ⟨Am,cm,rfl,hms⟩:=hv;have hml:=hms.len;have HV:=Lib.hid hv0;have HMS:=Lib.hid hms;have HOI:=Lib.hid OI;clear hv0 hms OI;(go_enter Try.func4,Try.ntmps4);go_wp2_with fail
  obtain ⟨w1,hw1,hs1,hk1,hbel1,hc1,-⟩:=named w #[.slice Am m.length cm] 24;rw [← hw1];refine (up12_any HOI.out w1).mono ?_;rintro e w2 ⟨rfl,hb2⟩;have c0:=q6 hb2 _ _ (hc1 0 _ rfl);have HB2:Hid (Below w.heap.size w w2):=Lib.hid (hbel1.trans (hb2.mono (by omega)));obtain ⟨N,hN⟩:∃ N,N=w.heap.size:=⟨_,rfl⟩;rw [← hN] at c0 ⊢;have HN:=Lib.hid hN
  clear hw1 hs1 hbel1 hc1 hb2 hk1 hN;(go_wp2_with fail);refine (small_any m _ w2 (VMod.keep (q6 HB2.out) HV.out)).mono ?_;rintro e w3 ⟨⟨bs,rfl,hsm⟩,hb3⟩;have c0:=q6 hb3 _ _ c0;have HB3:Hid (Below w.heap.size w w3):=Lib.hid (HB2.out.trans (hb3.mono HB2.out.size));clear hb3;cases bs
  · clear hsm;(go_wp2_with fail);(go_ret);exact ⟨rfl,HB3.out⟩
  have HSM:=Lib.hid (hsm rfl);clear hsm;(go_wp2_with fail);refine (build_any HOI.out m a _ w3 (VMod.keep (q6 HB3.out) HV.out) HSM.out).mono ?_;rintro e w4 ⟨⟨vf,ve,rfl,hc⟩,hb4⟩;have c0:=q6 hb4 _ _ c0;have HB4:Hid (Below w.heap.size w w4):=Lib.hid (HB3.out.trans (hb4.mono HB3.out.size));have HCA:=Lib.hid hc;clear hb4 hc
  by_cases hok:ve=.nilIface
  · obtain ⟨n,f,AR,cR,AB,cB,hn,hf,hvf,hsr,hsb⟩:∃ (n:Nat) (f:FunD) (AR:Option Addr) (cR:Nat) (AB:Option Addr) (cB:Nat),a=(n:Int)∧m[n]?=some f∧vf=.agg #[.int .i64 f.params,.int .i64 f.result,.slice AR (bdF f).regs.length cR,.slice AB (blksT f.blocks).length cB]∧(plainE m).1=0∧SL w4 5 RBlk AB cB (bdF f).blocks:=by
      rcases HCA.out with ⟨h,h1,h2⟩ | ⟨-,-,h1,h2⟩ | ⟨hp,n,f,hn,hf,⟨-,h1,h2⟩ | ⟨-,h1,AR,cR,AB,cB,e,g1,g2,-,-⟩⟩
      · obtain ⟨t,x,e⟩:=err_form h2 h;rw [hok] at e;cases e
      · rw [hok] at h2;cases h2
      · rw [hok] at h2;cases h2
      · have hbl:(bdF f).blocks.length=(blksT f.blocks).length:=by
          show ((List.range (blksT f.blocks).length).map (bBlk (plnOf (trimF f)))).length=_;rw [List.length_map,List.length_range]
        rw [hbl] at e;exact ⟨n,f,AR,cR,AB,cB,hn,hf,e,hp,SL.imp (fun b o x h=>RBlkB.plain b o x h) g2⟩
    subst hok hvf hn;have hnl:n<m.length:=(List.getElem?_eq_some_iff.1 hf).1;(have hn0:(0:Int)≤n:=by omega);(have hn1:(n:Int)<m.length:=by omega);have HBD:=Lib.hid (bdF_of hsr HSM.out (List.mem_of_getElem? hf));obtain ⟨nR,hnR⟩:∃ nR,nR=(bdF f).regs.length:=⟨_,rfl⟩;rw [← hnR];clear hnR hsr HCA;have HGB:=Lib.hid hsb
    have hx5:Below w4.heap.size w4 (w4.alloc (.cells #[.int .i64 f.params,.int .i64 f.result,.slice AR nR cR,.slice AB (blksT f.blocks).length cB] 31)):=(Below.refl _ _).alloc (Nat.le_refl _) _;have b5:(w4.alloc (.cells #[.int .i64 f.params,.int .i64 f.result,.slice AR nR cR,.slice AB (blksT f.blocks).length cB] 31)).heap[w4.heap.size]?=some (.cells #[.int .i64 f.params,.int .i64 f.result,.slice AR nR cR,.slice AB (blksT f.blocks).length cB] 31):=heap_alloc_new _ _;(go_upto_region 6 with fail);generalize w4.alloc (.cells #[.int .i64 f.params,.int .i64 f.result,.slice AR nR cR,.slice AB (blksT f.blocks).length cB] 31)=w5 at *;obtain ⟨N4,hN4⟩:∃ N4,N4=w4.heap.size:=⟨_,rfl⟩;rw [← hN4] at b5 ⊢;have HX5:=Lib.hid hx5;have HB5:=Lib.hid b5;have HN4:=Lib.hid hN4
    have HW5:Hid (Below w.heap.size w w5):=Lib.hid (HB4.out.trans (hx5.mono HB4.out.size));have c0:=q6 hx5 _ _ c0;have hx:=(SFuns.keep (q6 HW5.out) HMS.out).at_ hnl;obtain ⟨bm,om,f',rfl,hxf,⟨h0,z0⟩,⟨h1,z1⟩,⟨Ar,cr,h2,z2⟩,Ab,cb,h3,z3⟩:=hx;(have hff:f'=f:=by have h:=hxf.out;rw [hf] at h;exact (Option.some.inj h).symm);subst hff;have HTR:=Lib.hid (trim_any f' _ w5 ⟨Ar,cr,Ab,cb,rfl,z2,z3,z0,z1⟩ (HSM.out.2 f' (List.mem_of_getElem? hf)));have HF:=Lib.hid hf;clear hsb hx5 b5 hN4 z0 z1 z2 z3 hxf hf
    (go_wp2_with fail);refine HTR.out.mono ?_;rintro e w6 ⟨⟨Ar2,cr2,Ab2,cb2,G2,rfl,hr2,hb2,-,-,hp2,hq2⟩,hb6⟩;have hx7:Below w6.heap.size w6 (w6.alloc (.cells #[.int .i64 f'.params,.int .i64 f'.result,.slice Ar2 f'.regs.length cr2,.slice Ab2 (blksT f'.blocks).length cb2] 31)):=(Below.refl _ _).alloc (Nat.le_refl _) _;have b7:(w6.alloc (.cells #[.int .i64 f'.params,.int .i64 f'.result,.slice Ar2 f'.regs.length cr2,.slice Ab2 (blksT f'.blocks).length cb2] 31)).heap[w6.heap.size]?=some (.cells #[.int .i64 f'.params,.int .i64 f'.result,.slice Ar2 f'.regs.length cr2,.slice Ab2 (blksT f'.blocks).length cb2] 31):=heap_alloc_new _ _;clear h0 h1 h2 h3 c0;(go_upto_region 9 with fail);generalize w6.alloc (.cells #[.int .i64 f'.params,.int .i64 f'.result,.slice Ar2 f'.regs.length cr2,.slice Ab2 (blksT f'.blocks).length cb2] 31)=w7 at *;obtain ⟨N6,hN6⟩:∃ N6,N6=w6.heap.size:=⟨_,rfl⟩
    rw [← hN6] at b7 ⊢;have hb57:Below w5.heap.size w5 w7:=hb6.trans (hx7.mono hb6.size);have b5:=(hb57.block N4 (qR HB5.out)).trans HB5.out;have HW7:Hid (Below w.heap.size w w7):=Lib.hid (HW5.out.trans (hb57.mono HW5.out.size));have HB57:=Lib.hid b5;have HB7:=Lib.hid b7;have HTB:Hid (SL w7 5 RBlk Ab2 cb2 (blksT f'.blocks)):=Lib.hid (SBlks.keep (q6 hx7) (SL.imp (fun b o x h=>RBlkB.plain b o x h) hb2));have HGB7:Hid (SL w7 5 RBlk AB cB (bdF f').blocks):=Lib.hid (SBlks.keep (q6 (HX5.out.trans (hb57.mono HX5.out.size))) HGB.out);have a0:=q5 b5 0
    have a1:=q5 b5 1;have a2:=q5 b5 2;have a3:=q5 b5 3;have e0:=q5 b7 0;have e1:=q5 b7 1;have e2:=q5 b7 2;have e3:=q5 b7 3;clear hx7 b7 b5 hb57 hb6 hr2 hb2 hp2 hq2 hN6;go_wp2_with fail
    go_loopw [11] (fun i wr=>∃ k:Nat,k≤(blksT f'.blocks).length∧i=.int .i64 k∧Below w7.heap.size w7 wr) (fun i _=>(blksT f'.blocks).length - (intOf i).toNat)
    case atStart=>exact ⟨0,Nat.zero_le _,rfl,Below.refl _ _⟩
    case round =>
      obtain ⟨k,hk,rfl,hbr⟩:=hrel;have hkw:=q6 hbr;have HBR:=Lib.hid hbr;have a3:=hkw _ _ a3;have e3:=hkw _ _ e3
      by_cases hlt:k<(blksT f'.blocks).length
      · obtain ⟨bt,ot,kb,rfl,hkb,⟨Ap,cp,p0,-⟩,⟨Ai,ci,p1,-⟩,⟨p2,-⟩,⟨p3,-⟩,At,ct,p4,s4⟩:=(SBlks.keep hkw HTB.out).at_ hlt;have hlt2:k<(bdF f').blocks.length:=by
          show k<((List.range (blksT f'.blocks).length).map (bBlk (plnOf (trimF f')))).length;rw [List.length_map,List.length_range];exact hlt
        obtain ⟨bg,og,gk,rfl,hgk,⟨Aq,cq,g0,-⟩,⟨Aj,cj,g1,-⟩,⟨g2,-⟩,⟨g3,-⟩,Au,cu,g4,s5⟩:=(SBlks.keep hkw HGB7.out).at_ hlt2;have hgk2:gk=bBlk (plnOf (trimF f')) k:=by
          have h:((List.range (blksT f'.blocks).length).map (bBlk (plnOf (trimF f'))))[k]?=some gk:=hgk.out;rw [List.getElem?_map,List.getElem?_range hlt] at h;exact (Option.some.inj h).symm
        have hbk:blkAt (trimF f') k=kb:=qk hkb.out;(have f1:gk.term.kind=kb.term.kind:=by rw [hgk2];show (blkAt (trimF f') k).term.kind=_;rw [hbk]);(have f2:gk.term.to=kb.term.to:=by rw [hgk2];show (blkAt (trimF f') k).term.to=_;rw [hbk]);have f3:decide (gk.term.arg<0)=decide (kb.term.arg<0):=by
          rw [hgk2];show decide ((if 0≤(blkAt (trimF f') k).term.arg then ((vr (plnOf (trimF f')) (blkAt (trimF f') k).term.arg.toNat k (insB (trimF f') k).length:Nat):Int) else -1)<0)=_;rw [hbk]
          by_cases h:0≤kb.term.arg
          · rw [if_pos h,decide_eq_false (by omega),decide_eq_false (by omega)]
          · rw [if_neg h,decide_eq_true (by omega),decide_eq_true (by omega)]
        have f4:kb.ins.length≤gk.ins.length:=by
          rw [hgk2];show _≤(preL (plnOf (trimF f')) k++(insB (trimF f') k).mapIdx (bIns (plnOf (trimF f')) k)).length;rw [List.length_append,List.length_mapIdx,qX (f:=trimF f') hkb.out];omega
        rw [f1] at g2;rw [f2] at g4 s5;(have f5:¬ gk.ins.length<kb.ins.length:=by omega);have HF3:=Lib.hid f3;clear hgk2 hbk f1 f2 hgk hkb f4;(go_upto_region 15 with fail);obtain ⟨w8,hw8⟩:∃ w8,w8=wr.alloc (.cells #[.int .i64 kb.term.kind,.int .i64 kb.term.arg,.slice At kb.term.to.length ct] 39):=⟨_,rfl⟩;(have hx8:Below wr.heap.size wr w8:=by rw [hw8];exact (Below.refl _ _).alloc (Nat.le_refl _) _);have b8:w8.heap[wr.heap.size]?=some (.cells #[.int .i64 kb.term.kind,.int .i64 kb.term.arg,.slice At kb.term.to.length ct] 39):=by rw [hw8];exact heap_alloc_new _ _
        rw [← hw8];have hk8:=q6 hx8;have a3:=hk8 _ _ a3;have e3:=hk8 _ _ e3;have p1:=hk8 _ _ p1;have g1:=hk8 _ _ g1;have g2:=hk8 _ _ g2;have g3:=hk8 _ _ g3;have g4:=hk8 _ _ g4
        have HX8:=Lib.hid hx8;have HS4:=Lib.hid s4;have HS5:=Lib.hid s5;obtain ⟨N8,hN8⟩:∃ N8,N8=wr.heap.size:=⟨_,rfl⟩;rw [← hN8] at b8 ⊢;have HN8:=Lib.hid hN8;have HB8:=Lib.hid b8;clear hw8 hx8 hk8 b8 p0 p2 p3 p4 g0 s4 s5 hN8 hbr hkw;go_upto_region 16 with fail
        obtain ⟨w9,hw9⟩:∃ w9,w9=w8.alloc (.cells #[.int .i64 kb.term.kind,.int .i64 gk.term.arg,.slice Au kb.term.to.length cu] 39):=⟨_,rfl⟩;(have hx9:Below w8.heap.size w8 w9:=by rw [hw9];exact (Below.refl _ _).alloc (Nat.le_refl _) _);(have b9:w9.heap[w8.heap.size]?=some (.cells #[.int .i64 kb.term.kind,.int .i64 gk.term.arg,.slice Au kb.term.to.length cu] 39):=by rw [hw9];exact heap_alloc_new _ _);rw [← hw9];have hk9:=q6 hx9;have a3:=hk9 _ _ a3;have e3:=hk9 _ _ e3;have p1:=hk9 _ _ p1;have g1:=hk9 _ _ g1
        have b8:=(hx9.block N8 (qR HB8.out)).trans HB8.out;obtain ⟨N9,hN9⟩:∃ N9,N9=w8.heap.size:=⟨_,rfl⟩;rw [← hN9] at b9 ⊢;have HX9:Hid (Below wr.heap.size wr w9):=Lib.hid (HX8.out.trans (hx9.mono HX8.out.size));have HB9:=Lib.hid b9;have HB89:=Lib.hid b8;have k0:=q5 b8 0;have k1:=q5 b8 1;have k2:=q5 b8 2
        have l0:=q5 b9 0;have l1:=q5 b9 1;have l2:=q5 b9 2;have f6:decide (gk.ins.length<kb.ins.length)=false:=decide_eq_false f5;have f3:=HF3.out;clear hw9 hx9 hk9 b9 b8 hN9 g2 g3 g4 HB8;(go_big_quiet (fail));have hdr:Below w9.heap.size w9 (w9.drewN nq):=⟨rfl,rfl,rfl,Nat.le_refl _,fun _ _=>rfl⟩;have hkq:=q6 hdr
        have HDR:=Lib.hid hdr;generalize w9.drewN nq=wq at *;have k2:=hkq _ _ k2;have l2:=hkq _ _ l2;have HJQ:Hid (Below wr.heap.size wr wq):=Lib.hid (HX9.out.trans (HDR.out.mono HX9.out.size));clear hdr hkq k0 k1 l0 l1 p1 g1 f5 f6 f3 a3 e3;go_wp2_with fail
        go_loopw [14] (fun i wj=>∃ j:Nat,j≤kb.term.to.length∧i=.int .i64 j∧Below wq.heap.size wq wj) (fun i _=>kb.term.to.length - (intOf i).toNat)
        case atStart=>exact ⟨0,Nat.zero_le _,rfl,Below.refl _ _⟩
        case round =>
          obtain ⟨j,hj,rfl,hbj⟩:=hrel;have hkj:=q6 hbj;have HBJ:=Lib.hid hbj;have k2:=hkj _ _ k2;have l2:=hkj _ _ l2
          by_cases hjl:j<kb.term.to.length
          · obtain ⟨u1,o1,y1,rfl,hy1,d1,-⟩:=(SInts.keep (q6 (HJQ.out.trans (HBJ.out.mono HJQ.out.size))) HS4.out).at_ hjl;obtain ⟨u2,o2,y2,rfl,hy2,d2,-⟩:=(SInts.keep (q6 (HJQ.out.trans (HBJ.out.mono HJQ.out.size))) HS5.out).at_ hjl;obtain rfl:y1=y2:=Option.some.inj (hy1.out.symm.trans hy2.out);rw [Nat.mul_one] at d1 d2;(have hj0:(0:Int)≤j:=by omega);(have hj1:(j:Int)<kb.term.to.length:=by omega);have htl:=HS4.out.len;clear hy1 hy2 hbj hkj;go_wp2_with fail
            (go_quiet (fail));go_wp2_with fail
            go_roundw
            case rel=>exact ⟨j+1,by omega,by go_num,HBJ.out.trans ⟨rfl,rfl,rfl,Nat.le_refl _,fun _ _=>rfl⟩⟩
            case measure=>simp [intOf];omega
          · (obtain rfl:j=kb.term.to.length:=by omega);have hbl:=HTB.out.len;clear hbj hkj;go_wp2_with fail
            go_roundw
            case rel=>exact ⟨k+1,by omega,by go_num,HBR.out.trans ((HJQ.out.trans (HBJ.out.mono HJQ.out.size)).mono HBR.out.size)⟩
            case measure=>simp [intOf];omega
      · (obtain rfl:k=(blksT f'.blocks).length:=by omega);(go_wp2_with fail);(go_ret);exact ⟨rfl,HW7.out.trans (HBR.out.mono HW7.out.size)⟩
  · obtain ⟨hvf,t,x,rfl⟩:vf=zeroFV∧∃ t x,ve=.iface t x:=by
      rcases HCA.out with ⟨h,h1,h2⟩ | ⟨-,-,h1,h2⟩ | ⟨-,n,f,-,-,⟨-,h1,h2⟩ | ⟨-,h1,-⟩⟩
      · exact ⟨h1,err_form h2 h⟩
      · exact ⟨h1,_,_,h2⟩
      · exact ⟨h1,_,_,h2⟩
      · exact absurd h1 hok
    unfold zeroFV at hvf;subst hvf;clear hok;(go_wp2_with fail);(go_ret);exact ⟨rfl,HB4.out.alloc HB4.out.size _⟩
section
variable {H:Type} {enc:TypeId × Value→H} {P:Program} {w:World} {base:Nat} {spare:Nat→Bool} {held:Bool}
theorem struct_field {t:TypeId} {fs:Array Field} {fuel:Nat} {cs:List Value} {y:DataW H × List MemPlace} (ht:P.underlying t=some (.struct fs)) (h:DataW.trod enc P w base spare held fuel t cs=some y)
    (i:Nat) (f:Field) (hf:fs[i]?=some f):∃ n z,DataW.trod enc P w base spare held n f.type ((cs.drop f.offset).take (P.cellsOf f.type))=some z:=by
  obtain ⟨xs,n,_,_,_,hlen,hx⟩:=DataW.trod_struct ht h;(have hi:i<xs.length:=by rw [hlen];exact (Array.getElem?_eq_some_iff.1 hf).1);exact ⟨n,xs[i],(hx i f hf).trans (List.getElem?_eq_getElem hi)⟩
theorem field_of {t:TypeId} {fs:Array Field} {fuel:Nat} {cs:List Value} {y:DataW H × List MemPlace} (ht:P.underlying t=some (.struct fs)) (h:DataW.trod enc P w base spare held fuel t cs=some y)
    (i:Nat) {f:Field} (hf:fs[i]?=some f) {t':TypeId} {c k:Nat} (hft:f.type=t') (hk:f.offset=k) (hc:P.cellsOf t'=c):∃ n z,DataW.trod enc P w base spare held n t' ((cs.drop k).take c)=some z:=by
  subst hft hk hc;exact struct_field ht h i f hf
theorem drop_take_one {cs:List Value} {k:Nat} (hk:k<cs.length):(cs.drop k).take 1=[cs[k]]:=by
  rw [List.drop_eq_getElem_cons hk];rfl
theorem int_field {t:TypeId} {n k:Nat} {cs:List Value} {z:DataW H × List MemPlace} (ht:P.underlying t=some (.int .i64)) (hk:k<cs.length) (h:DataW.trod enc P w base spare held n t ((cs.drop k).take 1)=some z) :
    ∃ x,cs[k]?=some (.int .i64 x)∧I64 x:=by
  rw [drop_take_one hk] at h;obtain ⟨x,hx,_,hw⟩:=DataW.trod_int ht h;exact ⟨x,by rw [List.getElem?_eq_getElem hk];exact congrArg some (List.cons.inj hx).1,wf_i64 hw⟩
theorem slice_field {α:Type} [Inhabited α] {t e:TypeId} {sz:Nat} {R:World→Nat→Nat→α→Prop} {n k:Nat} {cs:List Value} {z:DataW H × List MemPlace} (ht:P.underlying t=some (.slice e)) (hsz:P.cellsOf e=sz) (hpos:0<sz)
    (hR:Opens enc P w base spare held e sz R) (hk:k<cs.length) (h:DataW.trod enc P w base spare held n t ((cs.drop k).take 1)=some z):∃ A c xs,cs[k]?=some (.slice A xs.length c)∧SL w sz R A c xs:=by
  rw [drop_take_one hk] at h;obtain ⟨xs,A,c,e,hs⟩:=open_vs ht hsz hpos hR h;exact ⟨A,c,xs,by rw [List.getElem?_eq_getElem hk,e],hs⟩
end
theorem Try.cells3:Try.prog.cellsOf 3=1:=by kernel_rfl
theorem Try.cells2:Try.prog.cellsOf 2=1:=by kernel_rfl
theorem Try.cells28:Try.prog.cellsOf 28=1:=by kernel_rfl
section
variable {H:Type} {enc:TypeId × Value→H} {w:World} {base:Nat} {spare:Nat→Bool} {held:Bool}
theorem opens_int:Opens enc Try.prog w base spare held 3 1 RInt:=fun n b o cs y hlen hat h=>by
  obtain ⟨x,rfl,_,hw⟩:=DataW.trod_int Try.underlying3 h;exact ⟨x,(hat 0 (by omega)).trans rfl,wf_i64 hw⟩
theorem field_int {fs:Array Field} {t:TypeId} {fuel:Nat} {cs:List Value} {y:DataW H × List MemPlace} (ht:Try.prog.underlying t=some (.struct fs)) (h:DataW.trod enc Try.prog w base spare held fuel t cs=some y)
    (i:Nat) (f:Field) (hf:fs[i]?=some f) (hft:f.type=3) (hk:f.offset<cs.length):∃ x,cs[f.offset]?=some (.int .i64 x)∧I64 x:=by
  obtain ⟨n,z,hz⟩:=struct_field ht h i f hf;rw [hft,Try.cells3] at hz;exact int_field Try.underlying3 hk hz
theorem field_int64 {fs:Array Field} {t:TypeId} {fuel:Nat} {cs:List Value} {y:DataW H × List MemPlace} (ht:Try.prog.underlying t=some (.struct fs)) (h:DataW.trod enc Try.prog w base spare held fuel t cs=some y)
    (i:Nat) (f:Field) (hf:fs[i]?=some f) (hft:f.type=2) (hk:f.offset<cs.length):∃ x,cs[f.offset]?=some (.int .i64 x)∧I64 x:=by
  obtain ⟨n,z,hz⟩:=struct_field ht h i f hf;rw [hft,Try.cells2] at hz;exact int_field Try.underlying2 hk hz
theorem field_ints {fs:Array Field} {t:TypeId} {fuel:Nat} {cs:List Value} {y:DataW H × List MemPlace} (ht:Try.prog.underlying t=some (.struct fs)) (h:DataW.trod enc Try.prog w base spare held fuel t cs=some y)
    (i:Nat) (f:Field) (hf:fs[i]?=some f) (hft:f.type=28) (hk:f.offset<cs.length):∃ A c,∃ xs:List Int,cs[f.offset]?=some (.slice A xs.length c)∧SL w 1 RInt A c xs:=by
  obtain ⟨n,z,hz⟩:=struct_field ht h i f hf;rw [hft,Try.cells28] at hz;exact slice_field Try.underlying28 Try.cells3 (by omega) opens_int hk hz
end
end Go.Proofs.Ytfoggldjjnabcaa

namespace Go.Proofs.Ytfoggldjjnabcaa
open Go.ChangeShapes Go.WideShapes Go.RowKit Go.Deep
set_option linter.unusedVariables false
theorem Try.cells40:Try.prog.cellsOf 40=1:=by kernel_rfl
theorem Try.cells41:Try.prog.cellsOf 41=1:=by kernel_rfl
theorem Try.cells29:Try.prog.cellsOf 29=1:=by kernel_rfl
theorem Try.cells22:Try.prog.cellsOf 22=1:=by kernel_rfl
theorem Try.cells52:Try.prog.cellsOf 52=2:=by kernel_rfl
theorem Try.cells45:Try.prog.cellsOf 45=5:=by kernel_rfl
theorem Try.cells39:Try.prog.cellsOf 39=3:=by kernel_rfl
theorem Try.cells43:Try.prog.cellsOf 43=5:=by kernel_rfl
theorem Try.cells31:Try.prog.cellsOf 31=4:=by kernel_rfl
theorem Try.cells24:Try.prog.cellsOf 24=1:=by kernel_rfl
section
variable {H:Type} {enc:TypeId × Value→H} {w:World} {base:Nat} {spare:Nat→Bool} {held:Bool}
theorem opens_phi:Opens enc Try.prog w base spare held 52 2 RPhi:=fun n b o cs y hlen hat h=>by
  (obtain ⟨x,h0,w0⟩:=field_int Try.underlying52 h 0 _ rfl rfl (by simp;omega));(obtain ⟨A,c,xs,h1,w1⟩:=field_ints Try.underlying52 h 1 _ rfl rfl (by simp;omega));exact ⟨⟨x,xs⟩,⟨(hat 0 (by omega)).trans h0,w0⟩,A,c,(hat 1 (by omega)).trans h1,w1⟩
theorem opens_ins:Opens enc Try.prog w base spare held 45 5 RIns:=fun n b o cs y hlen hat h=>by
  (obtain ⟨x0,h0,w0⟩:=field_int Try.underlying45 h 0 _ rfl rfl (by simp;omega));(obtain ⟨x1,h1,w1⟩:=field_int Try.underlying45 h 1 _ rfl rfl (by simp;omega));(obtain ⟨A,c,xs,h2,w2⟩:=field_ints Try.underlying45 h 2 _ rfl rfl (by simp;omega));(obtain ⟨x3,h3,w3⟩:=field_int64 Try.underlying45 h 3 _ rfl rfl (by simp;omega));(obtain ⟨x4,h4,w4⟩:=field_int Try.underlying45 h 4 _ rfl rfl (by simp;omega));exact ⟨⟨x0,x1,xs,x3,x4⟩,⟨(hat 0 (by omega)).trans h0,w0⟩,⟨(hat 1 (by omega)).trans h1,w1⟩,⟨A,c,(hat 2 (by omega)).trans h2,w2⟩,⟨(hat 3 (by omega)).trans h3,w3⟩,⟨(hat 4 (by omega)).trans h4,w4⟩⟩
theorem opens_blk:Opens enc Try.prog w base spare held 43 5 RBlk:=fun n b o cs y hlen hat h=>by
  obtain ⟨n0,z0,hz0⟩:=field_of Try.underlying43 h 0 rfl rfl rfl Try.cells40;(obtain ⟨A0,c0,ps,h0,w0⟩:=slice_field Try.underlying40 Try.cells52 (by omega) opens_phi (by simp;omega) hz0);obtain ⟨n1,z1,hz1⟩:=field_of Try.underlying43 h 1 rfl rfl rfl Try.cells41;(obtain ⟨A1,c1,is,h1,w1⟩:=slice_field Try.underlying41 Try.cells45 (by omega) opens_ins (by simp;omega) hz1);obtain ⟨n2,z2,hz2⟩:=field_of Try.underlying43 h 2 rfl rfl rfl Try.cells39;(have hl2:((cs.drop 2).take 3).length=3:=by simp;omega);(obtain ⟨x2,h2,w2⟩:=field_int Try.underlying39 hz2 0 _ rfl rfl (by simp;omega));(obtain ⟨x3,h3,w3⟩:=field_int Try.underlying39 hz2 1 _ rfl rfl (by simp;omega));obtain ⟨A4,c4,xs,h4,w4⟩:=field_ints Try.underlying39 hz2 2 _ rfl rfl (by simp;omega)
  (have g (i:Nat) (hi:i<3):((cs.drop 2).take 3)[i]?=cs[2+i]?:=by rw [List.getElem?_take_of_lt hi,List.getElem?_drop]);exact ⟨⟨ps,is,⟨x2,x3,xs⟩⟩,⟨A0,c0,(hat 0 (by omega)).trans h0,w0⟩,⟨A1,c1,(hat 1 (by omega)).trans h1,w1⟩,⟨(hat 2 (by omega)).trans ((g 0 (by omega)).symm.trans h2),w2⟩,⟨(hat 3 (by omega)).trans ((g 1 (by omega)).symm.trans h3),w3⟩,⟨A4,c4,(hat 4 (by omega)).trans ((g 2 (by omega)).symm.trans h4),w4⟩⟩
theorem opens_fun:Opens enc Try.prog w base spare held 31 4 RFun:=fun n b o cs y hlen hat h=>by
  (obtain ⟨x0,h0,w0⟩:=field_int Try.underlying31 h 0 _ rfl rfl (by simp;omega));(obtain ⟨x1,h1,w1⟩:=field_int Try.underlying31 h 1 _ rfl rfl (by simp;omega));(obtain ⟨A2,c2,xs,h2,w2⟩:=field_ints Try.underlying31 h 2 _ rfl rfl (by simp;omega));obtain ⟨n3,z3,hz3⟩:=field_of Try.underlying31 h 3 rfl rfl rfl Try.cells29;(obtain ⟨A3,c3,bs,h3,w3⟩:=slice_field Try.underlying29 Try.cells43 (by omega) opens_blk (by simp;omega) hz3);exact ⟨⟨x0,x1,xs,bs⟩,⟨(hat 0 (by omega)).trans h0,w0⟩,⟨(hat 1 (by omega)).trans h1,w1⟩,⟨A2,c2,(hat 2 (by omega)).trans h2,w2⟩,⟨A3,c3,(hat 3 (by omega)).trans h3,w3⟩⟩
set_option maxRecDepth 100000 in
theorem open_mod {r:Go.Reach} {b0:Nat} {v:Value} {d:DataW H} {p:List MemPlace} (hv:Value.okWide Try.prog w r b0 24 v) (h:DataW.Trod enc Try.prog w base spare held 24 v d p):∃ m,VMod w v m:=by
  obtain ⟨cs,rfl,hsz⟩:=okWide_struct Try.underlying24 hv;rw [Try.cells24] at hsz;obtain ⟨l⟩:=cs
  match l,hsz with
  | [a],_ =>
    obtain ⟨fuel,hf⟩:=h;have hf:DataW.trod enc Try.prog w base spare held fuel 24 [a]=some (_,p):=hf;obtain ⟨n3,z3,hz3⟩:=field_of Try.underlying24 hf 0 rfl rfl rfl Try.cells22;obtain ⟨A3,c3,bs,h3,w3⟩:=slice_field Try.underlying22 Try.cells31 (by omega) opens_fun (by simp) hz3;obtain rfl:=Option.some.inj h3;exact ⟨bs,A3,c3,rfl,w3⟩
end
end Go.Proofs.Ytfoggldjjnabcaa
