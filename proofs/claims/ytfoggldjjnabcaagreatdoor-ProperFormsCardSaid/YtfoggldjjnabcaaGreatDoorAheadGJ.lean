/- The program's eachMade: it hands each that makes a register to what it is given. -/
import Derived.Test.YtfoggldjjnabcaaGreatDoorInfBJ
import Derived.Deep.DeepCutAuto
import Derived.Deep.QuietTactic
import Derived.BigQuiet
import Derived.Deep.OwnRows
import Derived.Deep.AppendLies
namespace Go.Proofs.YtfoggldjjnabcaaGreatDoor
open Go.ChangeShapes Go.WideShapes Go.RowKit Go.Deep
set_option linter.unusedVariables false
set_option linter.unusedSimpArgs false
theorem boxes2_ (w:World) (M:Nat) (hM:M=w.heap.size) (o0 o1:Obj) (W:World) (hW:W=(w.alloc o0).alloc o1) :
    W.heap[M]?=some o0∧W.heap[M+1]?=some o1∧W.heap.size=M+2∧Below M w W:=by
  subst hM hW;(have hz (u:World) (o:Obj):(u.alloc o).heap.size=u.heap.size+1:=by simp);have hg (u:World) (o:Obj) (k:Nat):(u.alloc o).heap[k]?=if k=u.heap.size then some o else u.heap[k]?:=by
    show (u.heap.push o)[k]?=_;rw [Array.getElem?_push]
  refine ⟨?_,?_,?_,?_⟩
  · simp only [hg,hz];rw [if_neg (by omega)];exact if_pos (by first | trivial | omega)
  · simp only [hg,hz];exact if_pos (by first | trivial | omega)
  · simp [hz]
  · exact ((Below.refl _ w).alloc (Nat.le_refl _) _).alloc (by simp) _
structure Vis (P:List Mk→World→Prop) (X:Nat→Prop) (n:Nat) (cl:FuncId) (c1 c2:Value) (w0:World):Prop where
  en:∀ (args:Array Value) (w:World),(callFunc cl args).run Tryz.prog w=.ok (.enter cl args) w
  low:∀ b,X b→b<w0.heap.size
  keep:∀ l w w',P l w→Below w.heap.size w w'→P l w'
  call:∀ l (e:Mk) w,P l w→FrX X w0 w→0≤e.r→e.r<n→Calls Tryz.prog cl #[.int .i64 e.r,e.v,c1,c2] w fun en w'=>en=.returned (.tuple #[])∧P (l++[e]) w'∧FrX X w w'
set_option maxRecDepth 100000 in
set_option maxHeartbeats 8000000 in
theorem made_any {P:List Mk→World→Prop} {X:Nat→Prop} {n:Nat} {cl:FuncId} {c1 c2:Value} {w0:World} (V:Vis P X n cl c1 c2 w0) (A B:Nat) (Ar:Option Addr) (cr:Nat) (l:List Mk) (e:Mk) (w:World) (hn:n≤9223372036854775807)
    (ha:w.cell? ⟨A,2,none⟩=some (.slice Ar n cr)) (hb:w.cell? ⟨B,0,none⟩=some (.func (.func cl) #[] #[c1,c2])) (hP:P (flM n l) w) (hF:FrX X w0 w) :
    Calls Tryz.prog 116 #[.int .i64 e.r,e.v,.pointer (some ⟨A,0,none⟩),.pointer (some ⟨B,0,none⟩)] w fun en w'=>en=.returned (.tuple #[])∧P (flM n (l++[e])) w'∧FrX X w w':=by
  have HP:=Lib.hid hP;have HF:=Lib.hid hF;have HV:=Lib.hid V;obtain ⟨r,b,a⟩:=e;unfold Mk.v;clear hP hF V;(go_enter Tryz.func116,Tryz.ntmps116);(go_upto_region 1 with fail);obtain ⟨w1,hw1,hs1,hk1,hbel1,hc1,-⟩:=named w #[.int .i64 b,.int .i64 a] 90
  rw [← hw1];have ha:=hk1 _ _ ha;have hb:=hk1 _ _ hb;obtain ⟨N,hN⟩:∃ N,N=w.heap.size:=⟨_,rfl⟩;rw [← hN] at hc1 ⊢;have b0:=hc1 0 _ rfl;have b1:=hc1 1 _ rfl;have HB1:=Lib.hid hbel1;have HN:=Lib.hid hN
  clear hw1 hs1 hk1 hbel1 hc1 hN
  by_cases h0:r<0
  · (have HR:Hid (inRg n ⟨r,b,a⟩=false):=Lib.hid (by unfold inRg;rw [decide_eq_false (by show ¬ (0:Int)≤r;omega)];rfl));(have h0':¬ (0:Int)≤r:=by omega);(go_wp2_with fail);(go_end0);refine ⟨rfl,?_,FrX.of_below HB1.out⟩;rw [flM_snoc,HR.out,if_neg (by simp),List.append_nil];exact HV.out.keep _ _ _ HP.out HB1.out
  by_cases h1:r<n
  · (have HR:Hid (inRg n ⟨r,b,a⟩=true):=Lib.hid (by unfold inRg;rw [decide_eq_true (by show (0:Int)≤r;omega),decide_eq_true (by show r<(n:Int);omega)];rfl));(have HCL:=Lib.hid (HV.out.call (flM n l) ⟨r,b,a⟩ w1 (HV.out.keep _ _ _ HP.out HB1.out) (HF.out.trans (FrX.of_below HB1.out)) (by show (0:Int)≤r;omega) h1));(have h0':(0:Int)≤r:=by omega);clear h0;(go_wp2_with fail);rw [HV.out.en,Oper.upon_enter];refine HCL.out.mono ?_;rintro en w2 ⟨rfl,hp2,hf2⟩;have HP2:=Lib.hid hp2
    have HF2:=Lib.hid hf2;clear hp2 hf2;(go_wp2_with fail);(go_end0);refine ⟨rfl,?_,(FrX.of_below HB1.out).trans HF2.out⟩;rw [flM_snoc,HR.out,if_pos rfl];exact HP2.out
  · (have HR:Hid (inRg n ⟨r,b,a⟩=false):=Lib.hid (by show (decide (0≤r) && decide (r<(n:Int)))=false;rw [decide_eq_false h1,Bool.and_false]));(have h0':(0:Int)≤r:=by omega);clear h0;(go_wp2_with fail);(go_end0);refine ⟨rfl,?_,FrX.of_below HB1.out⟩;rw [flM_snoc,HR.out,if_neg (by simp),List.append_nil];exact HV.out.keep _ _ _ HP.out HB1.out
set_option maxRecDepth 100000 in
set_option maxHeartbeats 16000000 in
theorem eachMade_any {P:List Mk→World→Prop} {X:Nat→Prop} {cl:FuncId} {c1 c2:Value} (f:FunD) (vf:Value) (w00 w:World) (V:Vis P X f.regs.length cl c1 c2 w)
    (hf:VFun w00 vf f) (hK:∀ w',FrX X w w'→Kept w00 w') (hG:∀ w',FrX X w w'→w'.cell? ⟨1,0,none⟩=some (.int .i64 (-1))∧w'.cell? ⟨1,1,none⟩=some (.int .i64 (-2))) (hP:P [] w) :
    Calls Tryz.prog 76 #[vf,.func (.func cl) #[] #[c1,c2]] w fun en w'=>en=.returned (.tuple #[])∧P (evL f) w'∧FrX X w w':=by
  obtain ⟨Ar,cr,Ab,cb,rfl,hr0,hb0,hp0,-⟩:=hf;have hrl:=hr0.len;have hbl:=hb0.len;have HFB:=Lib.hid hb0;have HK:=Lib.hid hK;have HG:=Lib.hid hG;have HV:=Lib.hid V;have HP:=Lib.hid hP;have HP0:=Lib.hid hp0
  clear hr0 hb0 hG V hP hK;(go_enter Tryz.func76,Tryz.ntmps76);(go_upto_region 1 with fail);obtain ⟨w1,hw1⟩:∃ w1,w1=(w.alloc (.cells #[.int .i64 f.params,.int .i64 f.result,.slice Ar f.regs.length cr,.slice Ab f.blocks.length cb] 30)).alloc (.cells #[.func (.func cl) #[] #[c1,c2]] 130):=⟨_,rfl⟩;obtain ⟨A,hA⟩:∃ A,A=w.heap.size:=⟨_,rfl⟩;obtain ⟨bA,bB,hsz,hbel1⟩:=boxes2_ w A hA _ _ w1 hw1;rw [← hw1,← hA];rw [hA] at hbel1;have a0:=q7 bA 0
  have a2:=q7 bA 2;have a3:=q7 bA 3;have HB1:=Lib.hid hbel1;have HBA:=Lib.hid bA;have HBB:=Lib.hid bB;have HA:=Lib.hid hA
  have HX:Hid (∀ wr,FrX X w1 wr→FrX X w wr∧wr.heap[A]?=w1.heap[A]?∧wr.heap[A+1]?=w1.heap[A+1]?):=Lib.hid (fun wr h =>
    ⟨(FrX.of_below HB1.out).trans h,h.block A (by omega) (fun hx=>by have:=HV.out.low _ hx;omega),h.block (A+1) (by omega) (fun hx=>by have:=HV.out.low _ hx;omega)⟩)
  have HM:Hid (∀ (l:List Mk) (r b a:Int) (wr:World),P (flM f.regs.length l) wr→FrX X w1 wr→Calls Tryz.prog 116 #[.int .i64 r,.agg #[.int .i64 b,.int .i64 a],.pointer (some ⟨A,0,none⟩),.pointer (some ⟨A+1,0,none⟩)] wr fun en w'=>en=.returned (.tuple #[])∧P (flM f.regs.length (l++[⟨r,b,a⟩])) w'∧FrX X wr w'):=Lib.hid (fun l r b a wr hp hx=>by
    obtain ⟨h1,h2,h3⟩:=HX.out wr hx;have e2:=(World.cell?_of_block (a:=⟨A,2,none⟩) h2).trans (q7 HBA.out 2);have e0:=(World.cell?_of_block (a:=⟨A+1,0,none⟩) h3).trans (q7 HBB.out 0)
    exact made_any HV.out A (A+1) Ar cr l ⟨r,b,a⟩ wr (by omega) e2 e0 hp h1)
  have HP1:Hid (P [] w1):=Lib.hid (HV.out.keep _ _ _ HP.out HB1.out);clear hw1 hA hsz hbel1 bA bB
  by_cases hpl:(f.regs.length:Int)<f.params
  case' pos =>
    (go_upto_region 3 with fail);obtain ⟨L,hL⟩:∃ L:Int,L=(f.regs.length:Int):=⟨_,rfl⟩;rw [← hL];have hLN:L.toNat=parN f:=by unfold parN;omega
  case' neg =>
    (go_upto_region 3 with fail);obtain ⟨L,hL⟩:∃ L:Int,L=f.params:=⟨_,rfl⟩;rw [← hL];have hLN:L.toNat=parN f:=by unfold parN;omega
  all_goals
    (have hLb:L≤f.regs.length:=by omega);have HLN:=Lib.hid hLN;clear hL hLN hpl
    go_loopw [19] (fun i wr=>∃ k:Nat,k≤L.toNat∧i=.int .i64 k∧P (flM f.regs.length (mkPar k)) wr∧FrX X w1 wr) (fun i _=>L.toNat - (intOf i).toNat)
    case atStart=>exact ⟨0,Nat.zero_le _,rfl,HP1.out,FrX.refl _ _⟩
    case round =>
      obtain ⟨k,hk,rfl,hp,hx⟩:=hrel;have HPK:=Lib.hid hp;have HXK:=Lib.hid hx;obtain ⟨hxw,hxA,hxB⟩:=HX.out _ hx;have HXW:=Lib.hid hxw
      by_cases hlt:k<L.toNat
      · (have hkl:(k:Int)<L:=by omega);obtain ⟨g0,g1⟩:=HG.out _ hxw;clear hp hx hxw hxA hxB;(go_wp2_with fail);refine (HM.out (mkPar k) k (-1) (-2) wr HPK.out HXK.out).mono ?_;rintro en w2 ⟨rfl,hp2,hf2⟩;(have HP2:Hid (P (flM f.regs.length (mkPar (k+1))) w2):=Lib.hid (by rw [mkPar_succ];exact hp2));have HF2:=Lib.hid (HXK.out.trans hf2);clear hp2 hf2
        go_wp2_with fail
        go_roundw
        case rel=>exact ⟨k+1,by omega,by go_num,HP2.out,HF2.out⟩
        case measure=>simp [intOf];omega
      · have hkl:¬ (k:Int)<L:=by omega
        have HP3:Hid (P (flM f.regs.length (mkPar (parN f)++mkBs (f.blocks.take 0) 0)) wr):=Lib.hid (by
          rw [List.take_zero];show P (flM f.regs.length (mkPar (parN f)++[])) wr
          rw [List.append_nil,← HLN.out,show L.toNat=k by omega];exact HPK.out)
        have e3:=(World.cell?_of_block (a:=⟨A,3,none⟩) hxA).trans (q7 HBA.out 3);clear hp hx hxw hxA hxB HPK;(go_wp2_with fail);obtain ⟨u30,rfl⟩:∃ u,u=wr:=⟨_,rfl⟩;clear e3
        go_loopw [30] (fun i wr=>∃ k:Nat,k≤f.blocks.length∧i=.int .i64 k∧P (flM f.regs.length (mkPar (parN f)++mkBs (f.blocks.take k) 0)) wr∧FrX X w1 wr) (fun i _=>f.blocks.length - (intOf i).toNat)
        case atStart=>exact ⟨0,Nat.zero_le _,rfl,HP3.out,HXK.out⟩
        case round =>
          obtain ⟨q,hq,rfl,hp,hx⟩:=hrel;have HPQ:=Lib.hid hp;have HXQ:=Lib.hid hx;have HXW2:=Lib.hid (HX.out _ hx).1;clear hp hx
          by_cases hqt:q<f.blocks.length
          · obtain ⟨bt,ot,kb,rfl,hkb,⟨Ap,cp,p0,s0⟩,⟨Ai,ci,p1,s1⟩,⟨p2,-⟩,⟨p3,-⟩,At,ct,p4,-⟩:=HFB.out.at_ hqt;have hkq:=HK.out _ HXW2.out;have p0:=hkq _ _ p0;have p1:=hkq _ _ p1;have p2:=hkq _ _ p2;have p3:=hkq _ _ p3;have p4:=hkq _ _ p4;have HS0:=Lib.hid s0;have HS1:=Lib.hid s1
            have HKB:=Lib.hid hkb.out;have hl0:=s0.len;have hl1:=s1.len;(have hq0:(0:Int)≤q:=by omega);(have hq1:(q:Int)<f.blocks.length:=by omega);clear s0 s1 hkb hkq;(go_upto_region 10 with fail);obtain ⟨w2,hw2,hs2,hk2,hbel2,hc2,-⟩:=named wr #[.slice Ap kb.phis.length cp,.slice Ai kb.ins.length ci,.int .i64 kb.term.kind,.int .i64 kb.term.arg,.slice At kb.term.to.length ct] 51;rw [← hw2]
            obtain ⟨C,hC⟩:∃ C,C=wr.heap.size:=⟨_,rfl⟩;rw [← hC] at hc2 ⊢;have d0:=hc2 0 _ rfl;have d1:=hc2 1 _ rfl
            have HX2:Hid (∀ wz,FrX X w2 wz→FrX X w1 wz∧FrX X w wz∧wz.heap[C]?=w2.heap[C]?):=Lib.hid (fun wz h=>by
              have h1:=(HXQ.out.trans (FrX.of_below hbel2)).trans h;refine ⟨h1,(HX.out _ h1).1,h.block C (by omega) (fun hx=>?_)⟩
              have:=HV.out.low _ hx;have:=HXW2.out.size;omega)
            have HD1:=Lib.hid d1
            have HP4:Hid (P (flM f.regs.length ((mkPar (parN f)++mkBs (f.blocks.take q) 0)++mkPh q (kb.phis.take 0))) w2):=Lib.hid (by
              have h:=HV.out.keep _ _ _ HPQ.out hbel2;rw [List.take_zero];show P (flM f.regs.length (_++[])) w2
              rw [List.append_nil];exact h)
            clear hw2 hs2 hk2 hbel2 hc2 hC p0 p1 p2 p3 p4;(go_wp2_with fail);clear d0 d1
            go_loopw [38] (fun i wz=>∃ j:Nat,j≤kb.phis.length∧i=.int .i64 j∧P (flM f.regs.length ((mkPar (parN f)++mkBs (f.blocks.take q) 0)++mkPh q (kb.phis.take j))) wz∧FrX X w2 wz) (fun i _=>kb.phis.length - (intOf i).toNat)
            case atStart=>exact ⟨0,Nat.zero_le _,rfl,HP4.out,FrX.refl _ _⟩
            case round =>
              obtain ⟨j,hj,rfl,hp,hx⟩:=hrel;obtain ⟨hx1,hxw,hxC⟩:=HX2.out _ hx;have HPJ:=Lib.hid hp;have HXJ:=Lib.hid hx;have HXJ1:=Lib.hid hx1
              by_cases hjt:j<kb.phis.length
              · obtain ⟨bp,op,pd,rfl,hpd,⟨t0,-⟩,Ag,cg,t1,-⟩:=HS0.out.at_ hjt;have hkj:=HK.out _ hxw;have t0:=hkj _ _ t0;have t1:=hkj _ _ t1;have HPD:=Lib.hid hpd.out;(have hj0:(0:Int)≤j:=by omega);(have hj1:(j:Int)<kb.phis.length:=by omega);clear hp hx hx1 hxw hxC hpd hkj;go_upto_region 13 with fail
                obtain ⟨w3,hw3,hs3,hk3,hbel3,hc3,-⟩:=named wr #[.int .i64 pd.dst,.slice Ag pd.args.length cg] 55;rw [← hw3];obtain ⟨E,hE⟩:∃ E,E=wr.heap.size:=⟨_,rfl⟩;rw [← hE] at hc3 ⊢;have x0:=hc3 0 _ rfl;have HB3:=Lib.hid hbel3;clear hw3 hs3 hk3 hbel3 hc3 hE t0 t1;(go_wp2_with fail);refine (HM.out ((mkPar (parN f)++mkBs (f.blocks.take q) 0)++mkPh q (kb.phis.take j)) pd.dst q (-1) w3 (HV.out.keep _ _ _ HPJ.out HB3.out) (HXJ1.out.trans (FrX.of_below HB3.out))).mono ?_
                rintro en w4 ⟨rfl,hp4,hf4⟩;(have HP5:Hid (P (flM f.regs.length ((mkPar (parN f)++mkBs (f.blocks.take q) 0)++mkPh q (kb.phis.take (j+1)))) w4):=Lib.hid (by rw [mkPh_succ HPD.out,← List.append_assoc];exact hp4));have HF5:=Lib.hid (HXJ.out.trans ((FrX.of_below HB3.out).trans hf4));clear hp4 hf4 x0;go_wp2_with fail
                go_roundw
                case rel=>exact ⟨j+1,by omega,by go_num,HP5.out,HF5.out⟩
                case measure=>simp [intOf];omega
              · obtain rfl:j=kb.phis.length:=by omega
                have HP6:Hid (P (flM f.regs.length (((mkPar (parN f)++mkBs (f.blocks.take q) 0)++mkPh q kb.phis)++mkIn q (kb.ins.take 0))) wr):=Lib.hid (by
                  have h:=HPJ.out;rw [List.take_of_length_le (Nat.le_refl _)] at h;rw [List.take_zero];show P (flM f.regs.length (_++[])) wr
                  rw [List.append_nil];exact h)
                have d1:=(World.cell?_of_block (a:=⟨C,1,none⟩) hxC).trans HD1.out;obtain ⟨u38,rfl⟩:∃ u,u=wr:=⟨_,rfl⟩;clear hp hx hx1 hxw hxC;(go_wp2_with fail);clear d1
                go_loopw [52] (fun i wz=>∃ j:Nat,j≤kb.ins.length∧i=.int .i64 j∧P (flM f.regs.length (((mkPar (parN f)++mkBs (f.blocks.take q) 0)++mkPh q kb.phis)++mkIn q (kb.ins.take j))) wz∧FrX X w2 wz) (fun i _=>kb.ins.length - (intOf i).toNat)
                case atStart=>exact ⟨0,Nat.zero_le _,rfl,HP6.out,HXJ.out⟩
                case round =>
                  obtain ⟨j,hj,rfl,hp,hx⟩:=hrel;obtain ⟨hx1,hxw,hxC⟩:=HX2.out _ hx;have HPJ:=Lib.hid hp;have HXJ:=Lib.hid hx;have HXJ1:=Lib.hid hx1
                  by_cases hjt:j<kb.ins.length
                  · obtain ⟨bp,op,xd,rfl,hxd,⟨t0,-⟩,⟨t1,-⟩,⟨Ag,cg,t2,-⟩,⟨t3,-⟩,⟨t4,-⟩⟩:=HS1.out.at_ hjt;have hkj:=HK.out _ hxw;have t0:=hkj _ _ t0;have t1:=hkj _ _ t1;have t2:=hkj _ _ t2;have t3:=hkj _ _ t3;have t4:=hkj _ _ t4;have HXD:=Lib.hid hxd.out;have hj0:(0:Int)≤j:=by omega
                    (have hj1:(j:Int)<kb.ins.length:=by omega);clear hp hx hx1 hxw hxC hxd hkj;(go_upto_region 18 with fail);obtain ⟨w3,hw3,hs3,hk3,hbel3,hc3,-⟩:=named wr #[.int .i64 xd.op,.int .i64 xd.dst,.slice Ag xd.args.length cg,.int .i64 xd.imm,.int .i64 xd.fn] 53;rw [← hw3];obtain ⟨E,hE⟩:∃ E,E=wr.heap.size:=⟨_,rfl⟩;rw [← hE] at hc3 ⊢;have x1:=hc3 1 _ rfl;have HB3:=Lib.hid hbel3
                    clear hw3 hs3 hk3 hbel3 hc3 hE t0 t1 t2 t3 t4;(go_wp2_with fail);refine (HM.out (((mkPar (parN f)++mkBs (f.blocks.take q) 0)++mkPh q kb.phis)++mkIn q (kb.ins.take j)) xd.dst q j w3 (HV.out.keep _ _ _ HPJ.out HB3.out) (HXJ1.out.trans (FrX.of_below HB3.out))).mono ?_;rintro en w4 ⟨rfl,hp4,hf4⟩;(have HP7:Hid (P (flM f.regs.length (((mkPar (parN f)++mkBs (f.blocks.take q) 0)++mkPh q kb.phis)++mkIn q (kb.ins.take (j+1)))) w4):=Lib.hid (by rw [mkIn_succ HXD.out,← List.append_assoc];exact hp4));have HF7:=Lib.hid (HXJ.out.trans ((FrX.of_below HB3.out).trans hf4));clear hp4 hf4 x1;go_wp2_with fail
                    go_roundw
                    case rel=>exact ⟨j+1,by omega,by go_num,HP7.out,HF7.out⟩
                    case measure=>simp [intOf];omega
                  · obtain rfl:j=kb.ins.length:=by omega
                    have HP8:Hid (P (flM f.regs.length (mkPar (parN f)++mkBs (f.blocks.take (q+1)) 0)) wr):=Lib.hid (by
                      have h:=HPJ.out;rw [List.take_of_length_le (Nat.le_refl _),List.append_assoc,List.append_assoc,← mkBs_succ HKB.out] at h
                      exact h)
                    clear hp hx hx1 hxw hxC;go_wp2_with fail
                    go_roundw
                    case rel=>exact ⟨q+1,by omega,by go_num,HP8.out,HXJ1.out⟩
                    case measure=>simp [intOf];omega
          · obtain rfl:q=f.blocks.length:=by omega
            have HE:Hid (P (evL f) wr):=Lib.hid (by
              have h:=HPQ.out;rw [List.take_of_length_le (Nat.le_refl _)] at h
              exact h)
            (go_wp2_with fail);(go_end0);exact ⟨rfl,HE.out,HXW2.out⟩
end Go.Proofs.YtfoggldjjnabcaaGreatDoor

namespace Go.Proofs.YtfoggldjjnabcaaGreatDoor
open Go.RowKit
set_option linter.unusedVariables false
def qL:List Int→Int
  | []=>0
  | x::r=>if x=0 then qL r else x
theorem firstE_append (a b:List Int):qL (a++b)=if qL a=0 then qL b else qL a:=by
  induction a with
  | nil=>simp [qL]
  | cons x r ih =>
    simp only [List.cons_append,qL]
    by_cases h:x=0
    · simp only [if_pos h,ih]
    · simp only [if_neg h]
theorem firstE_snoc {l:List Int} {k:Nat} {x:Int} (h:l[k]?=some x) (h0:qL (l.take k)=0):qL (l.take (k+1))=x:=by
  rw [qD h,firstE_append,if_pos h0];simp only [qL]
  split <;> simp_all
theorem firstE_stop {l:List Int} {k:Nat} {x:Int} (h:l[k]?=some x) (h0:qL (l.take k)=0) (hx:x≠0):qL l=x:=by
  have e:l=l.take (k+1)++l.drop (k+1):=(List.take_append_drop _ _).symm;rw [e,firstE_append,firstE_snoc h h0,if_neg hx]
theorem firstE_zero {l:List Int}:qL l=0↔∀ x∈l,x=0:=by
  induction l with
  | nil=>simp [qL]
  | cons x r ih =>
    simp only [qL,List.mem_cons,forall_eq_or_imp]
    by_cases h:x=0
    · simp [h,ih]
    · simp [h]
theorem map_at {α β:Type} {l:List α} {k:Nat} {x:α} (f:α→β) (h:l[k]?=some x):(l.map f)[k]?=some (f x):=by rw [List.getElem?_map,h];rfl
theorem map_take {α β:Type} (l:List α) (k:Nat) (f:α→β):(l.map f).take k=(l.take k).map f:=List.map_take.symm
def reg (regs:List Int) (r:Int):Int:=regs.getD r.toNat 0
def z7 (bs:List BlkD):Nat:=(bs.map fun b=>b.phis.length+b.ins.length).sum
def withinB (f:FunD):Bool:=decide (1≤f.blocks.length∧f.blocks.length≤64∧f.regs.length≤256∧f.blocks.length+z7 f.blocks≤256)
def isTy (t:Int):Bool:=decide (t=1∨t=2)
def qd (f:FunD):Bool:=f.regs.all isTy && decide (0≤f.params∧f.params≤8∧f.params≤f.regs.length) && decide (f.result=0∨f.result=1∨f.result=2)
def tosB (t:TermD):Bool :=
  if t.kind=1 then decide (t.to.length=1) else if t.kind=2 then decide (t.to.length=2) && decide (t.to.getD 0 0≠t.to.getD 1 0) else if t.kind=3 then decide (t.to.length=0) else false
def toB (n:Nat) (x:Int):Bool:=decide (x≠0∧0≤x∧x<n)
def ql (n:Nat) (t:TermD):Bool:=tosB t && t.to.all (toB n)
def qr (f:FunD):Bool:=f.blocks.all fun b=>ql f.blocks.length b.term
def meetK (bs:List BlkD):List BlkD→Nat→Bool
  | [],_=>true
  | b::r,i=>b.phis.all (fun p=>decide (p.args.length=(qG bs i).length)) && meetK bs r (i+1)
def meetB (f:FunD):Bool:=meetK f.blocks f.blocks 0
def qU (f:FunD):Int:=if withinB f then (if qd f then (if qr f && meetB f then 0 else 6) else 3) else 5
def qQ (l:List Int) (n:Int):Bool:=l.all fun a=>decide (0≤a∧a<n)
def phiE (f:FunD) (p:PhiD):Int :=
  if decide (0≤p.dst∧p.dst<f.regs.length) && qQ p.args f.regs.length then (if p.args.all fun a=>decide (reg f.regs a=reg f.regs p.dst) then 0 else 3) else 4
def qp (f:FunD) (t:TermD):Int:=if t.kind=2 then 2 else if t.kind=3 then f.result else 0
def termE (f:FunD) (t:TermD):Int :=
  if qp f t=0 then (if t.arg=-1 then 0 else 3) else if 0≤t.arg∧t.arg<f.regs.length then (if reg f.regs t.arg=qp f t then 0 else 3) else 4
theorem itemsK_step {bs:List BlkD} {k:Nat} {b:BlkD} (h:bs[k]?=some b):z7 (bs.take (k+1))=z7 (bs.take k)+(b.phis.length+b.ins.length):=by
  unfold z7;rw [qD h];simp
theorem qw {α:Type} {l:List α} {k:Nat} {x:α} {p:α→Bool} (h:l[k]?=some x) (h0:(l.take k).all p=true):(l.take (k+1)).all p=p x:=by
  rw [qD h,List.all_append,h0];simp
theorem qk {α:Type} {l:List α} {k:Nat} {x:α} {p:α→Bool} (h:l[k]?=some x) (hx:p x=false):l.all p=false:=by
  rw [List.all_eq_false];exact ⟨x,List.mem_of_getElem? h,by simp [hx]⟩
theorem z8 {α:Type} {l:List α} {k:Nat} {p:α→Bool} (h:(l.take k).all p=true) (hk:l.length≤k):l.all p=true:=by rwa [List.take_of_length_le hk] at h
theorem meetK_append (bs l r:List BlkD) (i:Nat):meetK bs (l++r) i=(meetK bs l i && meetK bs r (i+l.length)):=by
  induction l generalizing i with
  | nil=>simp [meetK]
  | cons b l ih=>simp only [List.cons_append,meetK,ih,List.length_cons,Bool.and_assoc];congr 3;omega
def meetUp (bs:List BlkD) (k:Nat):Bool:=meetK bs (bs.take k) 0
theorem meetUp_step {bs:List BlkD} {k:Nat} {b:BlkD} (h:bs[k]?=some b) (h0:meetUp bs k=true):meetUp bs (k+1)=b.phis.all (fun p=>decide (p.args.length=(qG bs k).length)):=by
  have hk:k<bs.length:=(List.getElem?_eq_some_iff.1 h).1;unfold meetUp at h0 ⊢;rw [qD h,meetK_append,h0,List.length_take,Nat.min_eq_left (by omega),Nat.zero_add];simp [meetK]
theorem meetUp_stop {bs:List BlkD} {k:Nat} {b:BlkD} (h:bs[k]?=some b) (hb:b.phis.all (fun p=>decide (p.args.length=(qG bs k).length))=false):meetK bs bs 0=false:=by
  have hk:k<bs.length:=(List.getElem?_eq_some_iff.1 h).1;have e:bs=bs.take (k+1)++bs.drop (k+1):=(List.take_append_drop _ _).symm;have h2:meetK bs (bs.take (k+1)) 0=false:=by
    rw [qD h,meetK_append,List.length_take,Nat.min_eq_left (by omega),Nat.zero_add];simp only [meetK,hb,Bool.false_and,Bool.and_false]
  have h3:meetK bs (bs.take (k+1)++bs.drop (k+1)) 0=false:=by rw [meetK_append,h2];rfl
  rwa [← e] at h3
theorem meetUp_done {bs:List BlkD} {k:Nat} (h:meetUp bs k=true) (hk:bs.length≤k):meetK bs bs 0=true:=by unfold meetUp at h;rwa [List.take_of_length_le hk] at h
theorem reg_of {regs:List Int} {r:Int} {x:Int} {k:Nat} (hr:r=k) (h:regs[k]?=some x):reg regs r=x:=by
  subst hr;rw [reg,Int.toNat_natCast,List.getD_eq_getElem?_getD,h];rfl
def isIn (n:Nat) (a:Int):Bool:=decide (0≤a∧a<n)
def dstT (f:FunD) (x:InsD):Int:=if isIn f.regs.length x.dst then reg f.regs x.dst else 1
def sigOf (f:FunD) (x:InsD):Option (List Int × Int) :=
  if x.op=1 then some ([],dstT f x) else if x.op=2 then some ([dstT f x],dstT f x) else if x.op=12∨x.op=13 then some ([1,1],2) else if x.op=14 then some ([2],2)
  else if x.op=15 then some ([1],1) else if x.op=16 then some ([1,1],0) else if x.op=18 then some ([1],0) else if 3≤x.op∧x.op≤11 then some ([1,1],1) else none
def qb (regs:List Int):List Int→List Int→Bool
  | a::r,t::s=>decide (reg regs a=t) && qb regs r s
  | _,_=>true
def restE (f:FunD) (x:InsD) (ts:List Int) (d:Int) (bad:Bool):Int :=
  if qQ x.args f.regs.length && (decide (d=0) || isIn f.regs.length x.dst) then
    (if qb f.regs x.args ts && (if d=0 then decide (x.dst=-1) else decide (0<d∧reg f.regs x.dst=d)) && (decide (x.op=1) || decide (x.imm=0)) && (decide (x.op=17) || decide (x.fn=0)) && !bad then 0 else 3)
  else 4
def funAt (m:List FunD) (i:Int):FunD:=m.getD i.toNat default
def oddB (g:FunD):Bool:=decide (g.params<0∨(g.regs.length:Int)<g.params)
def insE (m:List FunD) (f:FunD) (x:InsD):Int :=
  if x.op=17 then
    (if isIn m.length x.fn then
      (if (x.args.length:Int)=(funAt m x.fn).params then restE f x (if oddB (funAt m x.fn) then [] else (funAt m x.fn).regs.take (funAt m x.fn).params.toNat) (funAt m x.fn).result (oddB (funAt m x.fn)) else 6) else 4)
  else match sigOf f x with
    | none=>6
    | some (ts,d)=>if x.args.length=ts.length then restE f x ts d (decide (x.op=1∧d=2∧x.imm≠0∧x.imm≠1)) else 6
def qS (m:List FunD) (f:FunD) (b:BlkD):Int :=
  if qL (b.phis.map (phiE f))=0 then (if qL (b.ins.map (insE m f))=0 then termE f b.term else qL (b.ins.map (insE m f))) else qL (b.phis.map (phiE f))
def funE (m:List FunD) (f:FunD):Int:=if qU f=0 then qL (f.blocks.map (qS m f)) else qU f
def modK (m:List FunD):List FunD→Nat→Int × Int
  | [],_=>(0,-1)
  | f::r,i=>if funE m f=0 then modK m r (i+1) else (funE m f,i)
def modE (m:List FunD):Int × Int:=if 32<m.length then (5,-1) else modK m m 0
def Proper (m:List FunD):Prop:=(modE m).1=0
theorem modK_append (m l r:List FunD) (i:Nat):modK m (l++r) i=if (modK m l i).1=0 then modK m r (i+l.length) else modK m l i:=by
  induction l generalizing i with
  | nil=>simp [modK]
  | cons f l ih =>
    simp only [List.cons_append,modK]
    by_cases h:funE m f=0
    · simp only [if_pos h,ih,List.length_cons];congr 2;omega
    · simp only [if_neg h]
theorem modK_zero {m l:List FunD} {i:Nat}:(modK m l i).1=0↔∀ f∈l,funE m f=0:=by
  induction l generalizing i with
  | nil=>simp [modK]
  | cons f l ih =>
    simp only [modK,List.mem_cons,forall_eq_or_imp]
    by_cases h:funE m f=0
    · simp [h,ih]
    · simp [h]
theorem modK_ok {m l:List FunD} {i:Nat} (h:(modK m l i).1=0):modK m l i=(0,-1):=by
  induction l generalizing i with
  | nil=>rfl
  | cons f l ih =>
    simp only [modK] at h ⊢
    by_cases hf:funE m f=0
    · simp only [if_pos hf] at h ⊢;exact ih h
    · simp only [if_neg hf] at h;exact absurd h hf
theorem modK_step {m:List FunD} {k:Nat} {f:FunD} (h:m[k]?=some f) (h0:(modK m (m.take k) 0).1=0):modK m (m.take (k+1)) 0=if funE m f=0 then (0,-1) else (funE m f,(k:Int)):=by
  have hk:k<m.length:=(List.getElem?_eq_some_iff.1 h).1;rw [qD h,modK_append,if_pos h0,List.length_take,Nat.min_eq_left (by omega),Nat.zero_add];simp [modK]
theorem modK_stop {m:List FunD} {k:Nat} {f:FunD} (h:m[k]?=some f) (h0:(modK m (m.take k) 0).1=0) (hf:funE m f≠0):modK m m 0=(funE m f,(k:Int)):=by
  have e:m=m.take (k+1)++m.drop (k+1):=(List.take_append_drop _ _).symm;have h1:=modK_step h h0;rw [if_neg hf] at h1;have h2:modK m (m.take (k+1)++m.drop (k+1)) 0=(funE m f,(k:Int)):=by
    rw [modK_append,h1,if_neg (by exact hf)]
  rwa [← e] at h2
theorem blockE_zero {m:List FunD} {f:FunD} {b:BlkD}:qS m f b=0↔(∀ p∈b.phis,phiE f p=0)∧(∀ x∈b.ins,insE m f x=0)∧termE f b.term=0:=by
  unfold qS;(have h1:qL (b.phis.map (phiE f))=0↔∀ p∈b.phis,phiE f p=0:=by rw [firstE_zero];simp);(have h2:qL (b.ins.map (insE m f))=0↔∀ x∈b.ins,insE m f x=0:=by rw [firstE_zero];simp);rw [← h1,← h2]
  split
  · split <;> simp_all
  · simp_all
theorem funE_zero {m:List FunD} {f:FunD}:funE m f=0↔qU f=0∧∀ b∈f.blocks,qS m f b=0:=by
  unfold funE;(have h1:qL (f.blocks.map (qS m f))=0↔∀ b∈f.blocks,qS m f b=0:=by rw [firstE_zero];simp);rw [← h1]
  split <;> simp_all
theorem proper_iff {m:List FunD}:Proper m↔m.length≤32∧∀ f∈m,funE m f=0:=by
  unfold Proper modE
  split
  · simp;omega
  · rw [modK_zero];simp;omega
end Go.Proofs.YtfoggldjjnabcaaGreatDoor

namespace Go.Proofs.YtfoggldjjnabcaaGreatDoor
open Go.ChangeShapes Go.WideShapes Go.RowKit Go.Deep
set_option linter.unusedVariables false
def Lim (f:FunD):Prop:=∀ b∈f.blocks,b.phis.length≤1000000∧b.ins.length≤1000000
theorem Lim.at_ {f:FunD} (h:Lim f) {k:Nat} {b:BlkD} (hb:f.blocks[k]?=some b):b.phis.length≤1000000∧b.ins.length≤1000000:=h b (List.mem_of_getElem? hb)
set_option maxRecDepth 100000 in
set_option maxHeartbeats 4000000 in
theorem isWithin_any (f:FunD) (v:Value) (w:World) (hv:VFun w v f) (hlim:Lim f) :
    Calls Tryz.prog 111 #[v] w fun e w'=>e=.returned (.bool (withinB f))∧Below w.heap.size w w':=by
  obtain ⟨Ar,cr,A,c,rfl,hr,hb,-,-⟩:=hv;have hbl:=hb.len;have hrl:=hr.len
  by_cases hok:1≤f.blocks.length∧f.blocks.length≤64∧f.regs.length≤256
  · obtain ⟨h1,h2,h3⟩:=hok;(go_enter Tryz.func111,Tryz.ntmps111);(go_wp2_with fail);obtain ⟨w1,hw1,hs1,hk1,hbel1,hc1,-⟩:=named w #[.int .i64 f.params,.int .i64 f.result,.slice Ar f.regs.length cr,.slice A f.blocks.length c] 30;rw [← hw1];clear hw1 hc1;have hs1:w.heap.size<w1.heap.size:=by omega
    go_loopw [3,28] (fun q i wr=>∃ k:Nat,k≤f.blocks.length∧i=.int .i64 k∧q=.int .i64 ((f.blocks.length+z7 (f.blocks.take k):Nat):Int)∧z7 (f.blocks.take k)≤k * 2000000∧Below w1.heap.size w1 wr) (fun _ i _=>f.blocks.length - (intOf i).toNat)
    case atStart=>exact ⟨0,Nat.zero_le _,rfl,rfl,Nat.zero_le _,Below.refl _ _⟩
    case round =>
      obtain ⟨k,hk,rfl,rfl,hi,hbel⟩:=hrel;have hs:=hbel.size;have hkw:Kept w1 wr:=q6 hbel;have hB:Below w.heap.size w wr:=hbel1.trans (hbel.mono (by omega))
      by_cases hlt:k<f.blocks.length
      · obtain ⟨b,o,kb,rfl,hkb,⟨Ap,cp,hphi,hphis⟩,⟨Ai,ci,hins,hinss⟩,⟨hkd,-⟩,⟨har,-⟩,⟨At,ct,hto,htos⟩⟩:=(SBlks.keep (hk1.trans hkw) hb).at_ hlt;obtain ⟨hl1,hl2⟩:=hlim.at_ hkb.out;have hst:=itemsK_step hkb.out;have HST:=Lib.hid hst;clear hst;(have hn:((f.blocks.length+z7 (f.blocks.take k):Nat):Int)=(f.blocks.length:Int)+(z7 (f.blocks.take k):Int):=by simp);generalize z7 (f.blocks.take k)=q at *;clear hn;go_wp2_with fail
        go_roundw
        case rel=>exact ⟨k+1,by omega,by go_num,by rw [HST.out];congr 1;omega,by rw [HST.out];omega,hbel.alloc (by omega) _⟩
        case measure=>simp [intOf];omega
      · have hkk:f.blocks.take k=f.blocks:=List.take_of_length_le (by omega);rw [hkk];have hd:withinB f=decide (((f.blocks.length+z7 f.blocks:Nat):Int)≤256):=by
          unfold withinB;congr 1;rw [eq_iff_iff];omega
        have HD:=Lib.hid hd;clear hd hkk hi;generalize z7 f.blocks=q at *;(go_wp2_with fail);(go_ret);exact ⟨by rw [HD.out];simp,hB⟩
  · have hd:withinB f=false:=by
      unfold withinB;exact decide_eq_false (by omega)
    rw [hd];clear hd
    by_cases q1:f.blocks.length<1
    · clear hok;(go_enter Tryz.func111,Tryz.ntmps111);(go_wp2_with fail);all_goals (go_ret;exact ⟨rfl,(Below.refl _ _).alloc (Nat.le_refl _) _⟩)
    · by_cases q2:64<f.blocks.length
      · clear hok;(go_enter Tryz.func111,Tryz.ntmps111);(go_wp2_with fail);all_goals (go_ret;exact ⟨rfl,(Below.refl _ _).alloc (Nat.le_refl _) _⟩)
      · (have q3:256<f.regs.length:=by omega);clear hok;(go_enter Tryz.func111,Tryz.ntmps111);(go_wp2_with fail);all_goals (go_ret;exact ⟨rfl,(Below.refl _ _).alloc (Nat.le_refl _) _⟩)
set_option maxRecDepth 100000 in
set_option maxHeartbeats 4000000 in
theorem isTyped_any (f:FunD) (v:Value) (w:World) (hv:VFun w v f) :
    Calls Tryz.prog 112 #[v] w fun e w'=>e=.returned (.bool (qd f))∧Below w.heap.size w w':=by
  obtain ⟨Ar,cr,A,c,rfl,hr,hb,-,-⟩:=hv;have hrl:=hr.len;(go_enter Tryz.func112,Tryz.ntmps112);(go_wp2_with fail);obtain ⟨w1,hw1,hs1,hk1,hbel1,hc1,-⟩:=named w #[.int .i64 f.params,.int .i64 f.result,.slice Ar f.regs.length cr,.slice A f.blocks.length c] 30;have hc0:=hc1 0 _ rfl;have hcr:=hc1 1 _ rfl;have hc2:=hc1 2 _ rfl;rw [← hw1]
  clear hw1 hc1;have hs1:w.heap.size<w1.heap.size:=by omega
  go_loopw [8] (fun i wr=>∃ k:Nat,k≤f.regs.length∧i=.int .i64 k∧Hid ((f.regs.take k).all isTy=true)∧wr=w1) (fun i _=>f.regs.length - (intOf i).toNat)
  case atStart=>exact ⟨0,Nat.zero_le _,rfl,Lib.hid rfl,rfl⟩
  case round =>
    obtain ⟨k,hk,rfl,hi,rfl⟩:=hrel
    by_cases hlt:k<f.regs.length
    · obtain ⟨b,o,x,rfl,hx,hxc,-⟩:=(SInts.keep hk1 hr).int hlt
      by_cases h1:x=1
      · subst h1;go_wp2_with fail
        go_roundw
        case rel=>exact ⟨k+1,by omega,by go_num,Lib.hid (by rw [qw hx.out hi.out];rfl),trivial⟩
        case measure=>simp [intOf];omega
      · by_cases h2:x=2
        · subst h2;clear h1;go_wp2_with fail
          go_roundw
          case rel=>exact ⟨k+1,by omega,by go_num,Lib.hid (by rw [qw hx.out hi.out];rfl),trivial⟩
          case measure=>simp [intOf];omega
        · have hf:isTy x=false:=decide_eq_false (by omega);(have h1':(x != 1)=true:=by simpa using h1);(have h2':(x != 2)=true:=by simpa using h2);have HF:=Lib.hid hf;clear h1 h2 hf;(go_wp2_with fail);(go_ret);exact ⟨by unfold qd;rw [qk hx.out HF.out];rfl,hbel1⟩
    · have hd:=z8 hi.out (Nat.le_of_not_lt hlt);have HD:=Lib.hid hd;clear hd
      by_cases hp:0≤f.params∧f.params≤8∧f.params≤f.regs.length
      · obtain ⟨p1,p2,p3⟩:=hp;have HT:Hid (qd f=decide (f.result=0∨f.result=1∨f.result=2)):=Lib.hid (by unfold qd;rw [HD.out,decide_eq_true (show 0≤f.params∧f.params≤8∧f.params≤f.regs.length from ⟨p1,p2,p3⟩)];rfl)
        by_cases r0:f.result=0
        · (have HR:Hid (qd f=true):=Lib.hid (by rw [HT.out];exact decide_eq_true (by omega)));(have r0':(f.result == 0)=true:=by simpa using r0);clear r0 HT;(go_wp2_with fail);(go_ret);exact ⟨by rw [HR.out];rfl,hbel1⟩
        · by_cases r1:f.result=1
          · (have HR:Hid (qd f=true):=Lib.hid (by rw [HT.out];exact decide_eq_true (by omega)));(have r0':(f.result == 0)=false:=by simpa using r0);(have r1':(f.result == 1)=true:=by simpa using r1);clear r0 r1 HT;(go_wp2_with fail);(go_ret);exact ⟨by rw [HR.out];rfl,hbel1⟩
          · (have HR:Hid (qd f=decide (f.result=2)):=Lib.hid (by rw [HT.out];congr 1;rw [eq_iff_iff];omega));(have r0':(f.result == 0)=false:=by simpa using r0);(have r1':(f.result == 1)=false:=by simpa using r1);clear r0 r1 HT;(go_wp2_with fail);(go_ret);exact ⟨by rw [HR.out];simp [Bool.beq_eq_decide_eq],hbel1⟩
      · have HT:Hid (qd f=false):=Lib.hid (by unfold qd;rw [decide_eq_false hp,Bool.and_false];rfl)
        by_cases p1:f.params<0
        · clear hp;(go_wp2_with fail);all_goals (go_ret;exact ⟨by rw [HT.out];rfl,hbel1⟩)
        · by_cases p2:8<f.params
          · clear hp;(go_wp2_with fail);all_goals (go_ret;exact ⟨by rw [HT.out];rfl,hbel1⟩)
          · (have p3:(f.regs.length:Int)<f.params:=by omega);clear hp;(go_wp2_with fail);all_goals (go_ret;exact ⟨by rw [HT.out];rfl,hbel1⟩)
def isAtB (a:Int) (n:Int):Bool:=decide (0≤a∧a<n)
def endsB (l:List Int) (n:Int):Bool:=l.getLast? == some n
structure Grid (w:World) (G n:Nat) (V:Nat→Value) (L:Nat→List Int):Prop where
  row:w.rowIs G 27 n V
  own:∀ i,i<n→w.ownsRow (G+1) 3 1 (V i) (L i).length ((L i).map (Value.int .i64))
  apart:∀ i j,i<n→j<n→i≠j→(V i).ownBlock=none∨(V i).ownBlock≠(V j).ownBlock
theorem Grid.congr {w:World} {G n:Nat} {V:Nat→Value} {L L':Nat→List Int} (h:Grid w G n V L) (e:∀ i,i<n→L i=L' i):Grid w G n V L' :=
  ⟨h.row,fun i hi=>by rw [← e i hi];exact h.own i hi,h.apart⟩
theorem Grid.alloc {w:World} {G n:Nat} {V:Nat→Value} {L:Nat→List Int} (h:Grid w G n V L) (o:Obj):Grid (w.alloc o) G n V L :=
  ⟨h.row.alloc o,fun i hi=>(h.own i hi).alloc o,h.apart⟩
theorem Grid.made (w:World) (G n:Nat) (hG:G=w.heap.size):Grid (w.alloc (.cells (madeCells #[.slice none 0 0] n) 27)) G n (fun _=>.slice none 0 0) (fun _=>[]):=by
  subst hG;exact ⟨World.rowIs_made w _ n _,fun i _=>World.ownsRow_nil _ _ _ _,fun i j _ _ _=>.inl rfl⟩
theorem Grid.push {w w3:World} {G n:Nat} {V:Nat→Value} {L:Nat→List Int} (h:Grid w G n V L) {t:Nat} (ht:t<n) {g cap:Nat} {x:Int}
    (hown:w3.ownsRow (G+1) 3 1 (.slice (some ⟨g,0,none⟩) ((L t).length+1) cap) ((L t).length+1) ((L t).map (Value.int .i64)++[.int .i64 x]))
    (hgrow:w.grownBy w3 (V t).ownBlock) (hloc:(V t).ownBlock=some g∨g=w.heap.size) :
    Grid (w3.setCell ⟨G,t,none⟩ (.slice (some ⟨g,0,none⟩) ((L t).length+1) cap)) G n (fun j=>if j=t then .slice (some ⟨g,0,none⟩) ((L t).length+1) cap else V j) (fun j=>if j=t then L t++[x] else L j):=by
  (have hblk:w3.heap[G]?=w.heap[G]?:=hgrow.block G h.row.lt (fun e=>by have:=((h.own t ht).lt G e.symm).1;omega));have hrow3:w3.rowIs G 27 n V:=h.row.of_block hblk;refine ⟨hrow3.set t _,fun j hj=>?_,fun i j hi hj hij=>?_⟩
  · by_cases e:j=t
    · subst e;simp only [if_true];(have:=ownsRow_setCell_below hown (a:=⟨G,j,none⟩) (by show G<G+1;omega) (.slice (some ⟨g,0,none⟩) ((L j).length+1) cap));simpa using this
    · simp only [if_neg e];exact ownsRow_setCell_below ((h.own j hj).kept hgrow (h.apart j t hj ht e)) (a:=⟨G,t,none⟩) (by show G<G+1;omega) _
  · have key:∀ j,j<n→j≠t→(V j).ownBlock=none∨(V j).ownBlock≠some g:=fun j hj hjt=>by
      rcases hloc with e | e
      · rw [← e];exact h.apart j t hj ht hjt
      · cases hb:(V j).ownBlock with
        | none=>exact .inl rfl
        | some b=>right;intro e2;have:=((h.own j hj).lt b hb).2;simp at e2;omega
    by_cases ei:i=t
    · subst ei;simp only [if_true,if_neg (Ne.symm hij)];right;rcases key j hj (Ne.symm hij) with e | e
      · rw [e];simp [Value.ownBlock]
      · intro e2;exact e (e2.symm.trans rfl)
    · by_cases ej:j=t
      · subst ej;simp only [if_true,if_neg ei];exact key i hi ei
      · simp only [if_neg ei,if_neg ej];exact h.apart i j hi hj hij
theorem Tryz.info27:(Tryz.prog.info? 27).map (fun i=>(i.zero,i.size,i.bytes))=some (some (.slice none 0 0),1,24):=by kernel_rfl
def LJ (bs:List BlkD) (k:Nat) (t:List Int) (i:Nat):List Int:=qG (bs.take k) i++(if hasTo i t then [(k:Int)] else [])
theorem LJ_nil (bs:List BlkD) (k i:Nat):LJ bs k [] i=qG (bs.take k) i:=by simp [LJ,hasTo]
theorem LJ_all {bs:List BlkD} {k:Nat} {x:BlkD} (i:Nat) (h:bs[k]?=some x):LJ bs k x.term.to i=qG (bs.take (k+1)) i:=(aheadL_step i h).symm
theorem LJ_ends (bs:List BlkD) (k:Nat) (t:List Int) (i:Nat):endsB (LJ bs k t i) k=hasTo i t:=by
  unfold LJ endsB;cases h:hasTo i t
  · simp only [if_neg Bool.false_ne_true,List.append_nil];rw [beq_eq_false_iff_ne];intro e;have hm:=List.mem_of_getLast? e;have:=aheadK_mem (bs.take k) 0 i _ hm;simp at this;omega
  · simp
theorem LJ_len (bs:List BlkD) (k:Nat) (t:List Int) (i:Nat):(LJ bs k t i).length≤bs.length+1:=by
  unfold LJ;have:=aheadK_len (bs.take k) 0 i;rw [List.length_append,qG];have h2:(bs.take k).length≤bs.length:=by simp;omega
  split <;> simp <;> omega
theorem LJ_i64 (bs:List BlkD) (k:Nat) (t:List Int) (i:Nat) (hk:k≤1000000) (h:bs.length≤1000000):∀ x∈LJ bs k t i,I64 x:=by
  intro x hx;unfold LJ at hx;rcases List.mem_append.1 hx with hx | hx
  · exact aheadL_i64 _ _ (by simp;omega) x hx
  · split at hx
    · rw [List.mem_singleton.1 hx];unfold I64;omega
    · simp at hx
theorem LJ_out {bs:List BlkD} {k:Nat} {t:List Int} {j:Nat} {x:Int} (hx:t[j]?=some x) (i:Nat) (h:x≠i):LJ bs k (t.take j) i=LJ bs k (t.take (j+1)) i:=by
  unfold LJ;rw [hasTo_step _ hx,beq_eq_false_iff_ne.2 h,Bool.or_false]
theorem LJ_again {bs:List BlkD} {k:Nat} {t:List Int} {j:Nat} {x:Int} (hx:t[j]?=some x) (i:Nat) (h:hasTo x (t.take j)=true):LJ bs k (t.take j) i=LJ bs k (t.take (j+1)) i:=by
  by_cases e:x=i
  · unfold LJ;rw [hasTo_step _ hx,← e,h];rfl
  · exact LJ_out hx i e
theorem LJ_new {bs:List BlkD} {k:Nat} {t:List Int} {j:Nat} {q:Nat} (hx:t[j]?=some (q:Int)) (i:Nat) (h:hasTo q (t.take j)=false) :
    (if i=q then LJ bs k (t.take j) q++[(k:Int)] else LJ bs k (t.take j) i)=LJ bs k (t.take (j+1)) i:=by
  by_cases e:i=q
  · subst e;rw [if_pos rfl];unfold LJ;rw [hasTo_step _ hx,h];simp
  · rw [if_neg e,LJ_out hx i (fun e2=>e (by omega))]
def RRow (w:World) (b o:Nat) (xs:List Int):Prop:=CS w b o 1 RInt xs
def rows (bs:List BlkD):List (List Int):=(List.range bs.length).map fun i=>qG bs (i:Nat)
theorem rows_len (bs:List BlkD):(rows bs).length=bs.length:=by simp [rows]
theorem rows_at {bs:List BlkD} {k:Nat} {x:List Int} (h:(rows bs)[k]?=some x):x=qG bs k:=by
  unfold rows at h;rw [List.getElem?_map] at h;obtain ⟨i,hi,rfl⟩:=Option.map_eq_some_iff.1 h;obtain ⟨hl,rfl⟩:=List.getElem?_eq_some_iff.1 hi;simp
theorem RRow.keep {w w':World} (h:Kept w w') (b o:Nat) (x:List Int) (hv:RRow w b o x):RRow w' b o x:=CS.keep h (RInt.keep h) hv
theorem Grid.reads {w:World} {G:Nat} {V:Nat→Value} {bs:List BlkD} (h:Grid w G bs.length V (fun i=>qG bs i)) (hn:bs.length≤1000000):SL w 1 RRow (some ⟨G,0,none⟩) bs.length (rows bs):=by
  (refine ⟨by rw [rows_len];omega,⟨by unfold maxLen;omega,fun e=>by cases e⟩,fun _=>⟨G,0,rfl,fun i x hi=>?_⟩⟩);(have hl:i<bs.length:=by have:=(List.getElem?_eq_some_iff.1 hi).1;rwa [rows_len] at this);rw [rows_at hi,Nat.mul_one,Nat.zero_add];obtain ⟨A,c,e,hs⟩:=qx (h.own i hl) (aheadL_i64 _ _ (by omega));exact ⟨A,c,(h.row.cell hl).trans (congrArg some e),hs⟩
end Go.Proofs.YtfoggldjjnabcaaGreatDoor
