/- The reference's Instr, of others. (Written by gen/genrefh.py out of XRefGall.) -/
import Derived.Test.YtfoggldjjnabcaaGreatDoorRefGJ
import Derived.Test.YtfoggldjjnabcaaGreatDoorRefG1J
namespace Go.Proofs.YtfoggldjjnabcaaGreatDoor
open Go.ChangeShapes Go.WideShapes Go.RowKit Go.Deep
set_option linter.unusedVariables false
set_option maxRecDepth 100000 in
set_option maxHeartbeats 16000000 in
theorem instr_ref0 (m:List FunD) (f:FunD) (x:InsD) (v u y:Value) (w:World) (hv:VMod w v m) (hu:VFun w u f) (hy:VIns w y x) (hty:∀ t∈f.regs,t=1∨t=2) (hal:x.args.length≤100000) (hop0:x.op≠1∧x.op≠17) :
    Calls Tryz.prog 86 #[v,u,y] w fun e w'=>e=.returned (.int .i64 (insR m f x))∧Below w.heap.size w w':=by
  have hv0:=hv;have hu0:=hu;have hy0:=hy;obtain ⟨xop,xdst,xargs,ximm,xfn⟩:=x;obtain ⟨Am,cm,rfl,hm⟩:=hv;obtain ⟨Ar,cr,Ab,cb,rfl,hr,hb,hp64,hr64⟩:=hu;obtain ⟨Ax,cx,rfl,hx,hop64,hd64,hi64,hf64⟩:=hy;dsimp only at hop64 hd64 hi64 hf64 hx hal hop0;have HOP:=Lib.hid hop0
  clear hop0;have hrl:=hr.len;have hxl:=hx.len;have hml:=hm.len;obtain ⟨i0,hi,hz0,hz1,hz2⟩:=info_parts Tryz.info3;have HI:=Lib.hid (And.intro hi (And.intro hz0 (And.intro hz1 hz2)));clear hi hz0 hz1 hz2;have HTY:=Lib.hid hty;clear hty
  obtain ⟨w3,hw3,hs3,hb3,hM3,hF3,hX3⟩:=boxes3 w (.cells #[.slice Am m.length cm] 24) (.cells #[.int .i64 f.params,.int .i64 f.result,.slice Ar f.regs.length cr,.slice Ab f.blocks.length cb] 30) (.cells #[.int .i64 xop,.int .i64 xdst,.slice Ax xargs.length cx,.int .i64 ximm,.int .i64 xfn] 53);have cM:w3.cell? ⟨w.heap.size,0,none⟩=some (.slice Am m.length cm):=(q8 hM3 0).trans rfl;have cF0:w3.cell? ⟨w.heap.size+1,0,none⟩=some (.int .i64 f.params):=(q8 hF3 0).trans rfl;have cF1:w3.cell? ⟨w.heap.size+1,1,none⟩=some (.int .i64 f.result):=(q8 hF3 1).trans rfl;have cF2:w3.cell? ⟨w.heap.size+1,2,none⟩=some (.slice Ar f.regs.length cr):=(q8 hF3 2).trans rfl;have cF3:w3.cell? ⟨w.heap.size+1,3,none⟩=some (.slice Ab f.blocks.length cb):=(q8 hF3 3).trans rfl;have cX0:w3.cell? ⟨w.heap.size+1+1,0,none⟩=some (.int .i64 xop):=(q8 hX3 0).trans rfl;have cX1:w3.cell? ⟨w.heap.size+1+1,1,none⟩=some (.int .i64 xdst):=(q8 hX3 1).trans rfl;have cX2:w3.cell? ⟨w.heap.size+1+1,2,none⟩=some (.slice Ax xargs.length cx):=(q8 hX3 2).trans rfl
  have cX3:w3.cell? ⟨w.heap.size+1+1,3,none⟩=some (.int .i64 ximm):=(q8 hX3 3).trans rfl;have cX4:w3.cell? ⟨w.heap.size+1+1,4,none⟩=some (.int .i64 xfn):=(q8 hX3 4).trans rfl;have hk3:=q6 hb3;clear hM3 hF3 hX3;(go_enter Tryz.func86,Tryz.ntmps86);(go_wp2_with fail);rw [← hw3];clear hw3;refine (kinds_any m f ⟨xop,xdst,xargs,ximm,xfn⟩ _ _ _ _ (VMod.keep hk3 hv0) (VFun.keep hk3 hu0) (VIns.keep hk3 hy0)).mono ?_
  rintro e w4 hT;obtain ⟨⟨A4,c4,rfl,hs4,h17⟩,hb4⟩:=hT;have hl4:=hs4.len;have hk4:=q6 hb4;have hB4:Below w.heap.size w w4:=hb3.trans (hb4.mono hb3.size);have hK4:=hk3.trans hk4;have cM:=hk4 _ _ cM;have cF0:=hk4 _ _ cF0;have cF1:=hk4 _ _ cF1
  have cF2:=hk4 _ _ cF2;have cF3:=hk4 _ _ cF3;have cX0:=hk4 _ _ cX0;have cX1:=hk4 _ _ cX1;have cX2:=hk4 _ _ cX2;have cX3:=hk4 _ _ cX3;have cX4:=hk4 _ _ cX4;have hs4':w.heap.size+1+1<w4.heap.size:=Nat.lt_of_lt_of_le hs3 hb4.size;go_upto_if 26 with fail
  go_cut [7,8,9,10] (fun s7 s8 s9 s10 wx=>∃ A c ts d ok odd,s7=.slice A (ts:List Int).length c∧s8=.int .i64 d∧s9=.bool ok∧s10=.bool odd∧SL wx 1 RInt A c ts∧Below w4.heap.size w4 wx∧Hid (insR m f ⟨xop,xdst,xargs,ximm,xfn⟩=tailR f ⟨xop,xdst,xargs,ximm,xfn⟩ ts d ok odd)∧Hid (xop=1→ok=true→0<d)∧I64 d)
  case first =>
    by_cases hop:xop=17
    · exact absurd hop HOP.out.2
    · (have hop':(xop == 17)=false:=by simp [hop]);(have HR:Hid (insR m f ⟨xop,xdst,xargs,ximm,xfn⟩=tailR f ⟨xop,xdst,xargs,ximm,xfn⟩ (kL f ⟨xop,xdst,xargs,ximm,xfn⟩) (kD f ⟨xop,xdst,xargs,ximm,xfn⟩) (kO f ⟨xop,xdst,xargs,ximm,xfn⟩) false):=Lib.hid (by unfold insR;rw [if_neg hop]));clear hop;(go_wp2_with fail);go_meet
      case rel=>exact ⟨_,_,_,_,_,_,rfl,rfl,rfl,rfl,hs4,Below.refl _ _,HR,Lib.hid (kD_pos HTY.out),kD_i64 HTY.out⟩
  case rest =>
    obtain ⟨A5,c5,ts,d,ok,odd,rfl,rfl,rfl,rfl,hs5,hb5,HE,HD0,hd64'⟩:=hcut;obtain ⟨w5,rfl⟩:∃ w5,w5=wc:=⟨wc,rfl⟩;have hl5:=hs5.len;have hk5:=q6 hb5;have hB5:Below w.heap.size w w5:=hB4.trans (hb5.mono hB4.size);have hK5:=hK4.trans hk5;have cF0:=hk5 _ _ cF0;have cF1:=hk5 _ _ cF1;have cF2:=hk5 _ _ cF2
    have cF3:=hk5 _ _ cF3;have cX0:=hk5 _ _ cX0;have cX1:=hk5 _ _ cX1;have cX2:=hk5 _ _ cX2;have cX3:=hk5 _ _ cX3;have cX4:=hk5 _ _ cX4;have hs5':w.heap.size+1+1<w5.heap.size:=Nat.lt_of_lt_of_le hs4' hb5.size;have hx5:=SInts.keep hK5 hx;clear hk5 hb5 hb4 hk4 hs4 h17 cM
    cases ok
    · have HE2:Hid (insR m f ⟨xop,xdst,xargs,ximm,xfn⟩=6):=Lib.hid HE.out;(go_wp2_with fail);(go_ret);exact ⟨by rw [HE2.out];rfl,hB5⟩
    · by_cases hll:xargs.length=ts.length
      · (have hll':((xargs.length:Int) != ts.length)=false:=by simp [hll]);have HE2:Hid (insR m f ⟨xop,xdst,xargs,ximm,xfn⟩=restR f ⟨xop,xdst,xargs,ximm,xfn⟩ ts d odd):=Lib.hid (HE.out.trans (if_pos hll));have HLL:=Lib.hid hll;clear hll HE;go_wp2_with fail
        go_loopw [14,15] (fun bd i wr=>∃ j:Nat,j≤ts.length∧i=.int .i64 j∧bd=.int .i64 (foldB f.regs ((xargs.zip ts).take j))∧Below w5.heap.size w5 wr) (fun _ i _=>ts.length - (intOf i).toNat)
        case atStart=>exact ⟨0,Nat.zero_le _,rfl,rfl,Below.refl _ _⟩
        case round =>
          obtain ⟨j,hj,rfl,rfl,hbel⟩:=hrel;have hs:=hbel.size;have hkw:Kept w5 wr:=q6 hbel;have hBr:Below w.heap.size w wr:=hB5.trans (hbel.mono hB5.size);have cF0:=hkw _ _ cF0;have cF1:=hkw _ _ cF1;have cF2:=hkw _ _ cF2;have cF3:=hkw _ _ cF3;have cX0:=hkw _ _ cX0
          have cX1:=hkw _ _ cX1;have cX2:=hkw _ _ cX2;have cX3:=hkw _ _ cX3;have cX4:=hkw _ _ cX4
          by_cases hjt:j<ts.length
          · obtain ⟨b1,o1,t,rfl,ht,htc,ht64⟩:=(SInts.keep hkw hs5).int hjt;(obtain ⟨b2,o2,a,rfl,ha,hac,-⟩:=(SInts.keep hkw hx5).int (k:=j) (by rw [HLL.out];exact hjt));(have hk0:(0:Int)≤j:=by omega);(have hk1:(j:Int)<ts.length:=by omega);(have hk2:(j:Int)<xargs.length:=by have:=HLL.out;omega);(have hk3:j<xargs.length:=by have:=HLL.out;omega);have HF:=Lib.hid (foldB_step (regs:=f.regs) (List.getElem?_zip_eq_some.2 ⟨ha.out,ht.out⟩));generalize foldB f.regs ((xargs.zip ts).take j)=b0 at *;go_wp2_with fail
            refine qI (L:=13) (S:=fun w'=>w'.cell? ⟨w.heap.size+1,0,none⟩=some (.int .i64 f.params)∧w'.cell? ⟨w.heap.size+1,1,none⟩=some (.int .i64 f.result)∧w'.cell? ⟨w.heap.size+1,2,none⟩=some (.slice Ar f.regs.length cr)∧w'.cell? ⟨w.heap.size+1,3,none⟩=some (.slice Ab f.blocks.length cb)∧w'.cell? ⟨w.heap.size+1+1,2,none⟩=some (.slice (some ⟨b2,o2,none⟩) xargs.length cx)∧w'.cell? ⟨b1,o1+j,none⟩=some (.int .i64 t)∧w'.cell? ⟨b2,o2+j,none⟩=some (.int .i64 a)) (by kernel_rfl) (by rfl) (by kernel_rfl) (by kernel_rfl) ?_;change wpAnyH _ _ _ _ _ _ _ _ (World.drew _);have hS:∀ w',Below wr.heap.size wr w'→w'.cell? ⟨w.heap.size+1,0,none⟩=some (.int .i64 f.params)∧w'.cell? ⟨w.heap.size+1,1,none⟩=some (.int .i64 f.result)∧w'.cell? ⟨w.heap.size+1,2,none⟩=some (.slice Ar f.regs.length cr)∧w'.cell? ⟨w.heap.size+1,3,none⟩=some (.slice Ab f.blocks.length cb)∧w'.cell? ⟨w.heap.size+1+1,2,none⟩=some (.slice (some ⟨b2,o2,none⟩) xargs.length cx)∧w'.cell? ⟨b1,o1+j,none⟩=some (.int .i64 t)∧w'.cell? ⟨b2,o2+j,none⟩=some (.int .i64 a) :=
              fun w' h=>⟨q6 h _ _ cF0,q6 h _ _ cF1,q6 h _ _ cF2,q6 h _ _ cF3,q6 h _ _ cX2,q6 h _ _ htc,q6 h _ _ hac⟩
            have hbdr:Below wr.heap.size wr wr.drew:=(Below.refl _ _).drew;have hS0:=hS wr.drew hbdr;have HREG:=Lib.hid (is_reg f _ a t wr.drew (VFun.keep (hK5.trans (hkw.trans (q6 hbdr))) hu0) ht64);refine tk 0 101 hS0 ?_;simp only [Act.put,aS,List.set_cons_zero,List.set_cons_succ];refine tk 1 102 hS0 ?_;simp only [Act.put,aS,List.set_cons_zero,List.set_cons_succ];refine tk 2 103 hS0 ?_;simp only [Act.put,aS,List.set_cons_zero,List.set_cons_succ]
            refine tk 3 104 hS0 ?_;simp only [Act.put,aS,List.set_cons_zero,List.set_cons_succ];refine tk 4 105 hS0 ?_;simp only [Act.put,aS,List.set_cons_zero,List.set_cons_succ];refine tk 5 106 hS0 ?_;simp only [Act.put,aS,List.set_cons_zero,List.set_cons_succ];refine tk 6 107 hS0 ?_;simp only [Act.put,aS,List.set_cons_zero,List.set_cons_succ];refine tk 7 108 hS0 ?_
            simp only [Act.put,aS,List.set_cons_zero,List.set_cons_succ];refine tk 8 109 hS0 ?_;simp only [Act.put,aS,List.set_cons_zero,List.set_cons_succ];refine tk 9 110 hS0 ?_;simp only [Act.put,aS,List.set_cons_zero,List.set_cons_succ];refine tk 10 111 hS0 ?_;simp only [Act.put,aS,List.set_cons_zero,List.set_cons_succ];refine oneH (i:=11) (by kernel_rfl) (fun o ho K hK=>?_);simp only [List.getElem?_toArray,List.getElem?_cons_zero,List.getElem?_cons_succ,Option.some.injEq] at ho;subst ho
            (go_simp);refine HREG.out.mono ?_;rintro e w6 ⟨rfl,hb6⟩;have hb6':Below wr.heap.size wr w6:=hbdr.trans hb6;have hS6:=hS w6 hb6';(go_wp2_with fail);refine hK.out _ _ hS6 ?_;clear hK K;refine oneH (i:=12) (by kernel_rfl) (fun o ho K hK=>?_)
            (simp only [List.getElem?_toArray,List.getElem?_cons_zero,List.getElem?_cons_succ,Option.some.injEq] at ho;subst ho);(go_simp);refine (qR b0 (isE f.regs a t) _).mono ?_;rintro e w7 ⟨rfl,rfl⟩;(go_wp2_with fail);refine hK.out _ _ hS6 ?_;clear hK K;refine wpAnyH_done (by kernel_rfl) ?_ _;refine lastH (by decide) (fun o ho K hK=>?_)
            (simp only [List.getElem?_toArray,List.getElem?_cons_zero,List.getElem?_cons_succ,Option.some.injEq] at ho;subst ho);(go_simp);refine hK.out _ _ ?_;clear hK K;go_wp2_with fail
            go_roundw
            case rel=>exact ⟨j+1,by omega,by go_num,by rw [HF.out],hbel.trans (hb6'.mono hs)⟩
            case measure=>simp [intOf];omega
          · (have hz:(xargs.zip ts).take j=xargs.zip ts:=List.take_of_length_le (by rw [List.length_zip];omega));(have HE3:Hid (insR m f ⟨xop,xdst,xargs,ximm,xfn⟩=b3R f ⟨xop,xdst,xargs,ximm,xfn⟩ (b2R ⟨xop,xdst,xargs,ximm,xfn⟩ odd (b1R f xdst d (foldB f.regs ((xargs.zip ts).take j))))):=Lib.hid (by rw [hz];exact HE2.out));clear HE2 hz;generalize foldB f.regs ((xargs.zip ts).take j)=b0 at *;have hvf:VFun wr (.agg #[.int .i64 f.params,.int .i64 f.result,.slice Ar f.regs.length cr,.slice Ab f.blocks.length cb]) f:=VFun.keep (hK5.trans hkw) hu0;(go_upto_if 115 with fail);go_cut [14] (fun s14 wx=>s14=.int .i64 (b1R f xdst d b0)∧Below wr.heap.size wr wx)
            case first =>
              by_cases d0:d=0
              · have d0':(d == 0)=true:=by simp [d0]
                by_cases dm:xdst=-1
                · (have dm':(xdst != -1)=false:=by simp [dm]);(have H:Hid (b1R f xdst d b0=b0):=Lib.hid (by unfold b1R;rw [if_pos d0,if_pos dm]));clear d0 dm;(go_wp2_with fail);go_meet
                  case rel=>exact ⟨by rw [H.out],Below.refl _ _⟩
                · (have dm':(xdst != -1)=true:=by rw [bne_iff_ne];exact dm);(have H:Hid (b1R f xdst d b0=qM b0 3):=Lib.hid (by unfold b1R;rw [if_pos d0,if_neg dm]));clear d0 dm;(go_wp2_with fail);refine (qR b0 3 _).mono ?_;rintro e w7 ⟨rfl,rfl⟩;(go_wp2_with fail);go_meet
                  case rel=>exact ⟨by rw [H.out],Below.refl _ _⟩
              · have d0':(d == 0)=false:=by simp [d0]
                by_cases dn:d<0
                · (have dn':decide (d<0)=true:=by simpa using dn);(have H:Hid (b1R f xdst d b0=qM b0 (qM (isE f.regs xdst (-1)) 3)):=Lib.hid (by unfold b1R;rw [if_neg d0,if_pos dn]));clear d0 dn;(go_wp2_with fail);(refine (is_reg f _ xdst (-1) _ hvf (by unfold I64;omega)).mono ?_);rintro e w6 ⟨rfl,hb6⟩;(go_wp2_with fail);refine (qR (isE f.regs xdst (-1)) 3 _).mono ?_;rintro e w7 ⟨rfl,rfl⟩
                  (go_wp2_with fail);refine (qR b0 (qM (isE f.regs xdst (-1)) 3) _).mono ?_;rintro e w7 ⟨rfl,rfl⟩;(go_wp2_with fail);go_meet
                  case rel=>exact ⟨by rw [H.out],hb6⟩
                · (have dn':decide (d<0)=false:=by simpa using dn);(have H:Hid (b1R f xdst d b0=qM b0 (isE f.regs xdst d)):=Lib.hid (by unfold b1R;rw [if_neg d0,if_neg dn]));clear d0 dn;(go_wp2_with fail);refine (is_reg f _ xdst d _ hvf hd64').mono ?_;rintro e w6 ⟨rfl,hb6⟩;(go_wp2_with fail);refine (qR b0 (isE f.regs xdst d) _).mono ?_;rintro e w7 ⟨rfl,rfl⟩
                  (go_wp2_with fail);go_meet
                  case rel=>exact ⟨by rw [H.out],hb6⟩
            case rest =>
              obtain ⟨rfl,hb6⟩:=hcut;obtain ⟨w6,rfl⟩:∃ w6,w6=wc:=⟨wc,rfl⟩;have hk6:=q6 hb6;have hB6:Below w.heap.size w w6:=hBr.trans (hb6.mono hBr.size);have cF2:=hk6 _ _ cF2;have cX0:=hk6 _ _ cX0;have cX1:=hk6 _ _ cX1;have cX3:=hk6 _ _ cX3;have cX4:=hk6 _ _ cX4
              have hs6:w.heap.size+1+1<w6.heap.size:=Nat.lt_of_lt_of_le (Nat.lt_of_lt_of_le hs5' hs) hb6.size;have hr6:=SInts.keep (hK5.trans (hkw.trans hk6)) hr;have HIN:Hid (xop=1→b1R f xdst d b0=0→isIn f.regs.length xdst=true):=Lib.hid (fun h h2=>b1_in (HD0.out h trivial) h2);clear hvf hk6 hb6 hs hbel hkw;generalize b1R f xdst d b0=b1 at *;(go_upto_region 33 with fail);go_cut [157] (fun s157 wx=>s157=.bool (qW ⟨xop,xdst,xargs,ximm,xfn⟩ odd)∧wx=w6)
              case first =>
                (have a1:(xop != 1)=true:=by rw [bne_iff_ne];exact HOP.out.1);(have a3:(xop != 17)=true:=by rw [bne_iff_ne];exact HOP.out.2);rcases (show (ximm != 0)=true∨(ximm != 0)=false by cases (ximm != 0) <;> simp) with a2 | a2
                · skip
                  (have H:Hid (qW ⟨xop,xdst,xargs,ximm,xfn⟩ odd=true):=Lib.hid (by unfold qW;dsimp only;rw [a1,a2];cases odd <;> rfl));(go_wp2_with fail);go_meet
                  case rel=>exact ⟨by rw [H.out],rfl⟩
                · rcases (show (xfn != 0)=true∨(xfn != 0)=false by cases (xfn != 0) <;> simp) with a4 | a4
                  · skip
                    (have H:Hid (qW ⟨xop,xdst,xargs,ximm,xfn⟩ odd=true):=Lib.hid (by unfold qW;dsimp only;rw [a1,a2,a3,a4];cases odd <;> rfl));(go_wp2_with fail);go_meet
                    case rel=>exact ⟨by rw [H.out],rfl⟩
                  · skip
                    (have H:Hid (qW ⟨xop,xdst,xargs,ximm,xfn⟩ odd=odd):=Lib.hid (by unfold qW;dsimp only;rw [a1,a2,a3,a4];cases odd <;> rfl));(go_wp2_with fail);go_meet
                    case rel=>exact ⟨by rw [H.out],rfl⟩
              case rest =>
               obtain ⟨rfl,rfl⟩:=hcut;(go_upto_if 157 with fail);go_cut [14] (fun s14 wx=>s14=.int .i64 (b2R ⟨xop,xdst,xargs,ximm,xfn⟩ odd b1)∧wx=wc)
               case first =>
                have HB:Hid (b2R ⟨xop,xdst,xargs,ximm,xfn⟩ odd b1=if qW ⟨xop,xdst,xargs,ximm,xfn⟩ odd then qM b1 3 else b1):=Lib.hid rfl;generalize qW ⟨xop,xdst,xargs,ximm,xfn⟩ odd=wb at *;cases wb
                · (go_wp2_with fail);go_meet
                  case rel=>exact ⟨by rw [HB.out];rfl,rfl⟩
                · (go_wp2_with fail);refine (qR b1 3 _).mono ?_;rintro e w7 ⟨rfl,rfl⟩;(go_wp2_with fail);go_meet
                  case rel=>exact ⟨by rw [HB.out];rfl,rfl⟩
               case rest =>
                obtain ⟨rfl,rfl⟩:=hcut;have HIN2:Hid (xop=1→b2R ⟨xop,xdst,xargs,ximm,xfn⟩ odd b1=0→isIn f.regs.length xdst=true):=Lib.hid (fun h h2=>HIN.out h (b2_zero h2));clear HIN;generalize b2R ⟨xop,xdst,xargs,ximm,xfn⟩ odd b1=bb at *
                by_cases o1:xop=1
                · exact absurd o1 HOP.out.1
                · (have o1':(xop == 1)=false:=by simp [o1]);(have H:Hid (insR m f ⟨xop,xdst,xargs,ximm,xfn⟩=bb):=Lib.hid (by rw [HE3.out];unfold b3R;rw [if_neg (fun h=>o1 h.1)]));clear o1;(go_wp2_with fail);(go_ret);exact ⟨by rw [H.out];rfl,hB6⟩
      · (have hll':((xargs.length:Int) != ts.length)=true:=by rw [bne_iff_ne];omega);have HE2:Hid (insR m f ⟨xop,xdst,xargs,ximm,xfn⟩=6):=Lib.hid (HE.out.trans (if_neg hll));clear hll HE;(go_wp2_with fail);(go_ret);exact ⟨by rw [HE2.out];rfl,hB5⟩
theorem instr_ref (m:List FunD) (f:FunD) (x:InsD) (v u y:Value) (w:World) (hv:VMod w v m) (hu:VFun w u f) (hy:VIns w y x) (hty:∀ t∈f.regs,t=1∨t=2) (hal:x.args.length≤100000) :
    Calls Tryz.prog 86 #[v,u,y] w fun e w'=>e=.returned (.int .i64 (insR m f x))∧Below w.heap.size w w':=by
  by_cases h1:x.op=1
  · exact instr_ref1 m f x v u y w hv hu hy hty hal h1
  · by_cases h17:x.op=17
    · exact instr_ref17 m f x v u y w hv hu hy hty hal h17
    · exact instr_ref0 m f x v u y w hv hu hy hty hal ⟨h1,h17⟩
end Go.Proofs.YtfoggldjjnabcaaGreatDoor

namespace Go.Proofs.YtfoggldjjnabcaaGreatDoor
open Go.RowKit
set_option linter.unusedVariables false
def Sev (a:Int):Prop:=a=0∨a=3∨a=4
theorem isE_sev (regs:List Int) (r t:Int):Sev (isE regs r t):=by
  unfold isE Sev;split
  · split <;> omega
  · omega
theorem zB {a b:Int} (ha:Sev a) (hb:Sev b):Sev (qM a b):=by
  unfold qM Sev at *;split
  · omega
  · split <;> omega
theorem worstE_four {a b:Int} (ha:Sev a) (hb:Sev b):qM a b=4↔a=4∨b=4:=by
  unfold qM Sev at *;split
  · omega
  · split <;> omega
theorem qf {a b:Int}:qM a b=0↔a=0∧b=0:=by
  constructor
  · exact worstE_zero
  · rintro ⟨rfl,rfl⟩;rfl
theorem isE_four {regs:List Int} {r t:Int}:isE regs r t=4↔isIn regs.length r=false:=by
  unfold isE isIn;rw [decide_eq_false_iff_not];split
  · split <;> simp_all
  · simp_all
theorem isE_zero {regs:List Int} {r t:Int}:isE regs r t=0↔isIn regs.length r=true∧(0≤t→reg regs r=t):=by
  unfold isE isIn;rw [decide_eq_true_iff];split
  · rename_i h
    split
    · rename_i h2;simp only [false_iff,not_and,show (3:Int)≠0 by decide];intro _ h3;exact h2.2 (h3 h2.1)
    · rename_i h2;simp only [true_iff];exact ⟨h,fun h3=>by by_cases h4:reg regs r=t;exact h4;exact absurd ⟨h3,h4⟩ h2⟩
  · rename_i h;simp only [show (4:Int)≠0 by decide,false_iff,not_and];exact fun h2=>absurd h2 h
theorem foldl_sev (regs:List Int) (l:List (Int × Int)) (b:Int) (hb:Sev b) :
    Sev (l.foldl (fun b p=>qM b (isE regs p.1 p.2)) b) ∧
    (l.foldl (fun b p=>qM b (isE regs p.1 p.2)) b=4↔b=4∨∃ p∈l,isE regs p.1 p.2=4) ∧
    (l.foldl (fun b p=>qM b (isE regs p.1 p.2)) b=0↔b=0∧∀ p∈l,isE regs p.1 p.2=0):=by
  induction l generalizing b with
  | nil=>simp [hb]
  | cons p l ih =>
    have h1:=isE_sev regs p.1 p.2;obtain ⟨i1,i2,i3⟩:=ih (qM b (isE regs p.1 p.2)) (zB hb h1);simp only [List.foldl_cons];refine ⟨i1,?_,?_⟩
    · rw [i2,worstE_four hb h1];simp [or_assoc]
    · rw [i3,qf];simp [and_assoc]
theorem foldB_sev (regs:List Int) (l:List (Int × Int)):Sev (foldB regs l):=(foldl_sev regs l 0 (.inl rfl)).1
theorem foldB_four {regs args ts:List Int} (h:args.length=ts.length):foldB regs (args.zip ts)=4↔qQ args regs.length=false:=by
  (unfold foldB;rw [(foldl_sev regs _ 0 (.inl rfl)).2.1]);simp only [show (0:Int)≠4 by decide,false_or];unfold qQ;rw [List.all_eq_false];constructor
  · rintro ⟨p,hp,h4⟩;exact ⟨p.1,(List.of_mem_zip hp).1,by have:=isE_four.1 h4;unfold isIn at this;simpa using this⟩
  · rintro ⟨a,ha,h4⟩;obtain ⟨i,hi,rfl⟩:=List.getElem_of_mem ha;(have hz:i<(args.zip ts).length:=by rw [List.length_zip];omega);refine ⟨(args.zip ts)[i],List.getElem_mem hz,?_⟩;rw [List.getElem_zip,isE_four];unfold isIn;simpa using h4
theorem foldB_zero {regs args ts:List Int} (h:args.length=ts.length) (hat:qQ args regs.length=true) :
    foldB regs (args.zip ts)=0↔∀ (j:Nat) (a t:Int),args[j]?=some a→ts[j]?=some t→0≤t→reg regs a=t:=by
  (unfold foldB;rw [(foldl_sev regs _ 0 (.inl rfl)).2.2]);simp only [true_and];constructor
  · intro hp j a t ha ht h0;have:=hp (a,t) (List.mem_of_getElem? (i:=j) (List.getElem?_zip_eq_some.2 ⟨ha,ht⟩));exact (isE_zero.1 this).2 h0
  · intro hp p hpz;obtain ⟨i,hi,rfl⟩:=List.getElem_of_mem hpz;(have hz:=hi;rw [List.length_zip] at hz);rw [List.getElem_zip,isE_zero];refine ⟨?_,fun h0=>hp i _ _ (List.getElem?_eq_getElem (by omega)) (List.getElem?_eq_getElem (by omega)) h0⟩;have:=List.all_eq_true.1 hat (args[i]'(by omega)) (List.getElem_mem _);unfold isIn;exact this
theorem sev_ext {a b:Int} (ha:Sev a) (hb:Sev b) (h4:a=4↔b=4) (h0:a=0↔b=0):a=b:=by
  unfold Sev at *;omega
theorem b1_sev {f:FunD} {dst d b0:Int} (h:Sev b0):Sev (b1R f dst d b0):=by
  unfold b1R;split
  · split
    · exact h
    · exact zB h (.inr (.inl rfl))
  · split
    · exact zB h (zB (isE_sev _ _ _) (.inr (.inl rfl)))
    · exact zB h (isE_sev _ _ _)
theorem b1_four {f:FunD} {dst d b0:Int} (h:Sev b0):b1R f dst d b0=4↔b0=4∨(d≠0∧isIn f.regs.length dst=false):=by
  unfold b1R;split
  · rename_i hd
    split
    · simp [hd]
    · rw [worstE_four h (.inr (.inl rfl))];simp [hd]
  · rename_i hd
    split
    · rw [worstE_four h (zB (isE_sev _ _ _) (.inr (.inl rfl))),worstE_four (isE_sev _ _ _) (.inr (.inl rfl)),isE_four];simp [hd]
    · rw [worstE_four h (isE_sev _ _ _),isE_four];simp [hd]
theorem b1_zero {f:FunD} {dst d b0:Int}:b1R f dst d b0=0↔b0=0∧(if d=0 then dst=-1 else 0<d∧isIn f.regs.length dst=true∧reg f.regs dst=d):=by
  unfold b1R;split
  · split
    · simp [*]
    · rw [qf];simp [*]
  · rename_i hd
    split
    · rename_i hn;rw [qf,qf];simp only [show (3:Int)≠0 by decide,and_false,false_iff];omega
    · (rename_i hn;rw [qf,isE_zero]);constructor
      · rintro ⟨h1,h2,h3⟩;exact ⟨h1,by omega,h2,h3 (by omega)⟩
      · rintro ⟨h1,_,h2,h3⟩;exact ⟨h1,h2,fun _=>h3⟩
theorem b2_sev {x:InsD} {odd:Bool} {b1:Int} (h:Sev b1):Sev (b2R x odd b1):=by
  unfold b2R;split
  · exact zB h (.inr (.inl rfl))
  · exact h
theorem b2_four {x:InsD} {odd:Bool} {b1:Int} (h:Sev b1):b2R x odd b1=4↔b1=4:=by
  unfold b2R;split
  · rw [worstE_four h (.inr (.inl rfl))];simp
  · rfl
theorem b2_zero_iff {x:InsD} {odd:Bool} {b1:Int}:b2R x odd b1=0↔b1=0∧qW x odd=false:=by
  unfold b2R;split
  · rw [qf];simp [*]
  · simp_all
theorem rest_sev {f:FunD} {x:InsD} {ts:List Int} {d:Int} {odd:Bool}:Sev (restR f x ts d odd):=by
  unfold restR b3R;split
  · exact .inr (.inl rfl)
  · exact b2_sev (b1_sev (foldB_sev _ _))
theorem rest_four {f:FunD} {x:InsD} {ts:List Int} {d:Int} {odd:Bool} (h:x.args.length=ts.length):restR f x ts d odd=4↔qQ x.args f.regs.length=false∨(d≠0∧isIn f.regs.length x.dst=false):=by
  rw [← foldB_four h,← b1_four (foldB_sev _ _),← b2_four (x:=x) (odd:=odd) (b1_sev (foldB_sev _ _))];unfold restR b3R
  split
  · rename_i h2;rw [h2.2.1];decide
  · rfl
theorem rest_zero {f:FunD} {x:InsD} {ts:List Int} {d:Int} {odd:Bool}:restR f x ts d odd=0 ↔
    foldB f.regs (x.args.zip ts)=0∧(if d=0 then x.dst=-1 else 0<d∧isIn f.regs.length x.dst=true∧reg f.regs x.dst=d)∧qW x odd=false∧¬ (x.op=1∧reg f.regs x.dst=2∧x.imm≠0∧x.imm≠1):=by
  unfold restR b3R
  split
  · rename_i h;simp only [show (3:Int)≠0 by decide,false_iff];rintro ⟨_,_,_,h2⟩;exact h2 ⟨h.1,h.2.2⟩
  · rename_i h;rw [b2_zero_iff,b1_zero];constructor
    · rintro ⟨⟨h1,h2⟩,h3⟩;exact ⟨h1,h2,h3,fun h4=>h ⟨h4.1,b2_zero_iff.2 ⟨b1_zero.2 ⟨h1,h2⟩,h3⟩,h4.2⟩⟩
    · rintro ⟨h1,h2,h3,_⟩;exact ⟨⟨h1,h2⟩,h3⟩
theorem sev_if (c e:Prop) [Decidable c] [Decidable e]:Sev (if c then (if e then 0 else 3) else 4):=by
  unfold Sev;by_cases h:c <;> by_cases h2:e <;> simp [h,h2]
theorem restE_sev {f:FunD} {x:InsD} {ts:List Int} {d:Int} {bad:Bool}:Sev (restE f x ts d bad):=by
  unfold restE;exact sev_if _ _
theorem restE_four {f:FunD} {x:InsD} {ts:List Int} {d:Int} {bad:Bool}:restE f x ts d bad=4↔qQ x.args f.regs.length=false∨(d≠0∧isIn f.regs.length x.dst=false):=by
  unfold restE;split
  · rename_i h;simp only [Bool.and_eq_true,Bool.or_eq_true,decide_eq_true_eq] at h;constructor
    · intro h2;split at h2 <;> omega
    · rintro (h2 | ⟨h2,h3⟩)
      · rw [h.1] at h2;cases h2
      · rcases h.2 with h4 | h4
        · exact absurd h4 h2
        · rw [h4] at h3;cases h3
  · rename_i h;simp only [Bool.and_eq_true,Bool.or_eq_true,decide_eq_true_eq,Classical.not_and_iff_not_or_not,not_or,Bool.not_eq_true] at h;simp only [true_iff];exact h
theorem restE_zero {f:FunD} {x:InsD} {ts:List Int} {d:Int} {bad:Bool}:restE f x ts d bad=0 ↔
    qQ x.args f.regs.length=true∧qb f.regs x.args ts=true∧(if d=0 then x.dst=-1 else 0<d∧isIn f.regs.length x.dst=true∧reg f.regs x.dst=d)∧(x.op=1∨x.imm=0)∧(x.op=17∨x.fn=0)∧bad=false:=by
  unfold restE
  by_cases hd:d=0
  · subst hd;(cases qQ x.args f.regs.length <;> cases qb f.regs x.args ts <;> cases bad <;> simp);all_goals by_cases h1:x.dst=-1 <;> by_cases h2:(x.op=1∨x.imm=0) <;> by_cases h3:(x.op=17∨x.fn=0) <;> simp [h1,h2,h3] <;> (first | omega | (intro a;omega) | (intro a b;exact absurd ⟨a,b⟩ h1))
  · (cases qQ x.args f.regs.length <;> cases qb f.regs x.args ts <;> cases bad <;> cases isIn f.regs.length x.dst <;> simp [hd]);all_goals by_cases h1:(0<d∧reg f.regs x.dst=d) <;> by_cases h2:(x.op=1∨x.imm=0) <;> by_cases h3:(x.op=17∨x.fn=0) <;> simp [h1,h2,h3] <;> (first | omega | (intro a;omega) | (intro a b;exact absurd ⟨a,b⟩ h1))
theorem rest_eq {f:FunD} {x:InsD} {ts ts':List Int} {d:Int} {odd bad:Bool} (hl:x.args.length=ts'.length)
    (h0:qQ x.args f.regs.length=true→((if d=0 then x.dst=-1 else 0<d∧isIn f.regs.length x.dst=true∧reg f.regs x.dst=d) →
      ((foldB f.regs (x.args.zip ts')=0∧qW x odd=false∧¬ (x.op=1∧reg f.regs x.dst=2∧x.imm≠0∧x.imm≠1))↔(qb f.regs x.args ts=true∧(x.op=1∨x.imm=0)∧(x.op=17∨x.fn=0)∧bad=false)))) :
    restR f x ts' d odd=restE f x ts d bad:=by
  refine sev_ext rest_sev restE_sev ?_ ?_
  · rw [rest_four hl,restE_four]
  · rw [rest_zero,restE_zero];constructor
    · rintro ⟨h1,h2,h3,h4⟩;have hat:qQ x.args f.regs.length=true:=by
        cases hq:qQ x.args f.regs.length
        · have:=(foldB_four hl).2 hq;omega
        · rfl
      obtain ⟨g1,g2,g3,g4⟩:=(h0 hat h2).1 ⟨h1,h3,h4⟩;exact ⟨hat,g1,h2,g2,g3,g4⟩
    · rintro ⟨hat,g1,h2,g2,g3,g4⟩;obtain ⟨h1,h3,h4⟩:=(h0 hat h2).2 ⟨g1,g2,g3,g4⟩;exact ⟨h1,h2,h3,h4⟩
theorem wrongB_false {x:InsD} {odd:Bool}:qW x odd=false↔(x.op=1∨x.imm=0)∧(x.op=17∨x.fn=0)∧odd=false:=by
  unfold qW;cases odd <;> by_cases h1:x.op=1 <;> by_cases h2:x.imm=0 <;> by_cases h3:x.op=17 <;> by_cases h4:x.fn=0 <;> simp [h1,h2,h3,h4]
theorem tsF_none {l:List Int} (h:l.any (fun t=>decide (t<0))=false):tsF false l=l:=by
  induction l with
  | nil=>rfl
  | cons t l ih =>
    simp only [List.any_cons,Bool.or_eq_false_iff] at h;simp only [tsF,h.1,Bool.or_false,Bool.false_eq_true,if_false];rw [ih h.2]
theorem sig_pos {f:FunD} (h:∀ t∈f.regs,t=1∨t=2) {x:InsD} {ts:List Int} {d:Int} (hs:sigOf f x=some (ts,d)):(∀ t∈ts,0≤t)∧(x.op=1→d=dstT f x)∧x.op≠17:=by
  have hd:=dstT_ty h x;unfold sigOf at hs
  repeat' split at hs
  all_goals first | (cases hs;done) | (obtain ⟨rfl,rfl⟩:=Prod.mk.inj (Option.some.inj hs);refine ⟨by simp;try omega,by omega,by omega⟩)
theorem insR_eq {m:List FunD} {f:FunD} (h:∀ t∈f.regs,t=1∨t=2) (x:InsD):insR m f x=insE m f x:=by
  unfold insR insE
  by_cases h17:x.op=17
  · rw [if_pos h17,if_pos h17];cases isIn m.length x.fn
    · rfl
    · simp only [if_true];generalize funAt m x.fn=g
      by_cases hp:(x.args.length:Int)=g.params
      · rw [if_pos hp,if_pos hp];have hcl:(callP g).length=x.args.length:=by
          unfold callP
          split
          · simp;omega
          · rename_i h;unfold oddB at h;simp at h;simp;omega
        (have hl:x.args.length=(tsF (oddB g) (callP g)).length:=by rw [tsF_len,hcl]);unfold tailR;rw [if_pos rfl,if_pos hl];cases ho:oddB g
        · rw [ho] at hl;(have hc:callP g=g.regs.take g.params.toNat:=by unfold callP;rw [ho];rfl);refine rest_eq hl (fun hat _=>?_);rw [wrongB_false,foldB_zero hl hat];simp only [Bool.false_eq_true,if_false];constructor
          · rintro ⟨h1,⟨h2,h3,h4⟩,_⟩;(have hn:(callP g).any (fun t=>decide (t<0))=false:=by unfold oddF at h4;simpa using h4);refine ⟨typesB_iff.2 (fun j a t ha ht=>?_),h2,h3,by trivial⟩;rw [← hc] at ht;rw [tsF_none hn] at h1;refine h1 j a t ha ht ?_;have:=List.any_eq_false.1 hn t (List.mem_of_getElem? ht);simpa using this
          · rintro ⟨h1,h2,h3,_⟩;have h1:=typesB_iff.1 h1;rw [← hc] at h1;have hn:(callP g).any (fun t=>decide (t<0))=false:=by
              rw [List.any_eq_false];intro t ht;obtain ⟨j,hj,rfl⟩:=List.getElem_of_mem ht;have ha:x.args[j]?=some (x.args[j]'(by omega)):=List.getElem?_eq_getElem _;have:=h1 j _ _ ha (List.getElem?_eq_getElem hj);have h5:=List.all_eq_true.1 hat _ (List.getElem_mem (l:=x.args) (n:=j) (by omega));have h6:=reg_ty' h (r:=x.args[j]'(by omega)) h5;simp;omega
            (refine ⟨fun j a t ha ht _=>?_,⟨h2,h3,by unfold oddF;rw [hn];rfl⟩,fun h4=>by omega⟩);rw [tsF_none hn] at ht;exact h1 j a t ha ht
        · rw [ho] at hl;refine rest_eq hl (fun hat _=>?_);rw [wrongB_false];simp [oddF]
      · rw [if_neg hp,if_neg hp]
  · rw [if_neg h17,if_neg h17];unfold tailR kL kD kO;cases hs:sigOf f x with
    | none=>rfl
    | some q =>
      obtain ⟨ts,d⟩:=q;simp only [Option.isSome_some,if_true,Option.getD_some];obtain ⟨hpos,hd1,-⟩:=sig_pos h hs
      by_cases hl:x.args.length=ts.length
      · rw [if_pos hl,if_pos hl];refine rest_eq hl (fun hat hdd=>?_);rw [wrongB_false,foldB_zero hl hat];have e1:(∀ (j:Nat) (a t:Int),x.args[j]?=some a→ts[j]?=some t→0≤t→reg f.regs a=t)↔qb f.regs x.args ts=true:=by
          rw [typesB_iff];exact ⟨fun g j a t ha ht=>g j a t ha ht (hpos t (List.mem_of_getElem? ht)),fun g j a t ha ht _=>g j a t ha ht⟩
        have hty:=dstT_ty h x;have e2:(x.op=1∧reg f.regs x.dst=2∧x.imm≠0∧x.imm≠1)↔(x.op=1∧d=2∧x.imm≠0∧x.imm≠1):=by
          constructor
          · rintro ⟨g1,g2,g3⟩;have:=hd1 g1;rw [if_neg (by omega)] at hdd;exact ⟨g1,by omega,g3⟩
          · rintro ⟨g1,g2,g3⟩;rw [if_neg (by omega)] at hdd;exact ⟨g1,by omega,g3⟩
        rw [e1,e2,decide_eq_false_iff_not];simp only [and_true];constructor
        · rintro ⟨g1,⟨g2,g3⟩,g4⟩;exact ⟨g1,g2,g3,g4⟩
        · rintro ⟨g1,g2,g3,g4⟩;exact ⟨g1,⟨g2,g3⟩,g4⟩
      · rw [if_neg hl,if_neg hl]
end Go.Proofs.YtfoggldjjnabcaaGreatDoor
