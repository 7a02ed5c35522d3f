/- The document's amiss of layer 13. -/
import Derived.Test.YtfoggldjjnabcaaGreatDoorRefAJ
import Derived.Test.YtfoggldjjnabcaaGreatDoorPpIJ
import Derived.Deep.RegionHeld3
import Derived.Test.YtfoggldjjnabcaaGreatDoorLimJ
import Derived.Test.YtfoggldjjnabcaaGreatDoorEqEJ
namespace Go.Proofs.YtfoggldjjnabcaaGreatDoor
open Go.ChangeShapes Go.WideShapes Go.RowKit Go.Deep
set_option linter.unusedVariables false
set_option linter.unusedSimpArgs false
def bdR (f:FunD) (D:Nat→Nat→Bool) (r:Nat) (e:Mk):Bool:=decide (e.r=(r:Int)) && !ahR f D r e.b.toNat e.a
theorem any_app {l k:List Mk} {p:Mk→Bool}:(l++k).any p=(l.any p || k.any p):=List.any_append
theorem any_of {l:List Mk} {p:Mk→Bool} {e:Mk} (he:e∈l) (hp:p e=true):l.any p=true:=List.any_eq_true.2 ⟨e,he,hp⟩
set_option maxRecDepth 100000 in
set_option maxHeartbeats 32000000 in
theorem refAmiss_any (f:FunD) (vf:Value) (w:World) (hf:VFun w vf f) (hsm:SmallF f) (r:Nat) (vd:Value) (K:Nat) (Dd:Nat→Nat) (D:Nat→Nat→Bool) (hG:TRow w K f.blocks.length f.blocks.length vd Dd D)
    (hph:∀ (b:Nat) (k:BlkD),f.blocks[b]?=some k→∀ p∈k.phis,p.args.length=(qG f.blocks (b:Int)).length) :
    Calls Tryz.prog 44 #[vf,vd,.int .i64 (r:Int)] w fun e w'=>e=.returned (.bool ((nmL f).any (bdR f D r)))∧Below w.heap.size w w':=by
  have hf0:=hf;obtain ⟨Ar,cr,Ab,cb,rfl,-,hbs,-,-⟩:=hf;have HF:=Lib.hid hf0;have HBS:=Lib.hid hbs;have HG:=Lib.hid hG;have HSM:=Lib.hid hsm;have HPH:=Lib.hid hph;have hbl:=hbs.len;have hnb:f.blocks.length≤70:=hsm.1
  clear hf0 hbs hG hsm hph;(go_enter Tryz.func44,Tryz.ntmps44);(go_upto_region 1 with fail);obtain ⟨w1,hw1,hs1,hk1,hbel1,hc1,-⟩:=named w #[.int .i64 f.params,.int .i64 f.result,.slice Ar f.regs.length cr,.slice Ab f.blocks.length cb] 30;rw [← hw1];obtain ⟨N,hN⟩:∃ N,N=w.heap.size:=⟨_,rfl⟩;rw [← hN] at hc1 ⊢;have hfx:∀ W,Below w1.heap.size w1 W→W.cell? ⟨N,0,none⟩=some (.int .i64 f.params)∧W.cell? ⟨N,1,none⟩=some (.int .i64 f.result)∧W.cell? ⟨N,2,none⟩=some (.slice Ar f.regs.length cr)∧W.cell? ⟨N,3,none⟩=some (.slice Ab f.blocks.length cb):=fun W hW =>
    ⟨q6 hW _ _ (hc1 0 _ rfl),q6 hW _ _ (hc1 1 _ rfl),q6 hW _ _ (hc1 2 _ rfl),q6 hW _ _ (hc1 3 _ rfl)⟩
  have HFX:=Lib.hid hfx;have HB1:=Lib.hid hbel1
  have HAH:Hid (∀ W,Below w1.heap.size w1 W→∀ (b:Nat) (a:Int),b<f.blocks.length→Calls Tryz.prog 89 #[.agg #[.int .i64 f.params,.int .i64 f.result,.slice Ar f.regs.length cr,.slice Ab f.blocks.length cb],vd,.int .i64 (r:Int),.int .i64 (b:Int),.int .i64 a] W fun e w'=>e=.returned (.bool (ahR f D r b a))∧Below W.heap.size W w'):=Lib.hid (fun W hW b a hb =>
    refAheadR_any f _ W (VFun.keep (q6 (hbel1.trans (hW.mono hbel1.size))) HF.out) HSM.out r b a vd K Dd D (HG.out.below (hbel1.trans (hW.mono hbel1.size))) hb)
  clear hw1 hs1 hk1 hbel1 hc1 hN hfx;go_wp2_with fail
  go_loopw [7] (fun i wr=>∃ k:Nat,k≤f.blocks.length∧i=.int .i64 (k:Int)∧Hid (Below w1.heap.size w1 wr∧(nmKp f (f.blocks.take k) 0).any (bdR f D r)=false)) (fun i _=>f.blocks.length - (intOf i).toNat)
  case atStart=>exact ⟨0,Nat.zero_le _,rfl,Lib.hid ⟨Below.refl _ _,rfl⟩⟩
  case round =>
    obtain ⟨k,hk,rfl,hgk⟩:=hrel;have HBR:=Lib.hid hgk.out.1;have HNK:=Lib.hid hgk.out.2;obtain ⟨f0,f1,f2,f3⟩:=HFX.out wr HBR.out;clear hgk
    by_cases hkl:k<f.blocks.length
    · obtain ⟨bb,ob,kb,rfl,hkb,⟨Ap,cp,p0,q0⟩,⟨Ai,ci,p1,q1⟩,⟨p2,q2⟩,⟨p3,q3⟩,⟨At,ct,p4,q4⟩⟩:=(SBlks.keep (q6 (HB1.out.trans (HBR.out.mono HB1.out.size))) HBS.out).at_ hkl;have HKB:=Lib.hid hkb.out;have HP:=Lib.hid q0;have HI:=Lib.hid q1;(have hk0:(0:Int)≤k:=by omega);(have hk1:(k:Int)<f.blocks.length:=by omega);obtain ⟨hsi,hsp,-,hsa,hsq⟩:=HSM.out.2.2.2 kb (List.mem_of_getElem? hkb.out);have HSA:=Lib.hid (And.intro hsa hsq);clear q0 q1 q2 q3 q4 hkb hsa hsq
      (go_upto_region 5 with fail);obtain ⟨w4,hw4,hs4,hk4,hb4,hc4,-⟩:=named wr #[.slice Ap kb.phis.length cp,.slice Ai kb.ins.length ci,.int .i64 kb.term.kind,.int .i64 kb.term.arg,.slice At kb.term.to.length ct] 51;rw [← hw4];obtain ⟨B,hB⟩:∃ B,B=wr.heap.size:=⟨_,rfl⟩;rw [← hB] at hc4 ⊢;have f0:=hk4 _ _ f0;have f1:=hk4 _ _ f1;have f2:=hk4 _ _ f2;have f3:=hk4 _ _ f3
      have HB4:Hid (Below w1.heap.size w1 w4):=Lib.hid (HBR.out.trans (hb4.mono HBR.out.size))
      have HC4:Hid (∀ W,Below w4.heap.size w4 W→W.cell? ⟨B,0,none⟩=some (.slice Ap kb.phis.length cp)∧W.cell? ⟨B,1,none⟩=some (.slice Ai kb.ins.length ci)∧W.cell? ⟨B,3,none⟩=some (.int .i64 kb.term.arg)):=Lib.hid (fun W hW =>
        ⟨q6 hW _ _ (hc4 0 _ rfl),q6 hW _ _ (hc4 1 _ rfl),q6 hW _ _ (hc4 3 _ rfl)⟩)
      have HP4:=Lib.hid (SPhis.keep hk4 HP.out);have HI4:=Lib.hid (SInss.keep hk4 HI.out);have HRA:=Lib.hid (refAhead_any f (k:Int) _ w4 (VFun.keep (q6 (HB1.out.trans (HB4.out.mono HB1.out.size))) HF.out) (by omega));clear hw4 hs4 hk4 hb4 hc4 hB HP HI p0 p1 p2 p3 p4;(go_wp2_with fail);refine HRA.out.mono ?_;rintro e w5 ⟨⟨va,rfl,hva⟩,hb5⟩;obtain ⟨Aa,ca,rfl,hsa⟩:=hva;have hal:=hsa.len
      have HAL:=Lib.hid hsa;have HB5:Hid (Below w1.heap.size w1 w5):=Lib.hid (HB4.out.trans (hb5.mono HB4.out.size));have H45:=Lib.hid hb5;obtain ⟨al,hal0⟩:∃ al,al=qG f.blocks (k:Int):=⟨_,rfl⟩;rw [← hal0] at hsa hal HAL ⊢;have HALL:=Lib.hid hal0;clear hb5 hsa hal0 HRA f0 f1 f2 f3;go_upto_region 7 with fail
      go_loopw [10] (fun i wq=>∃ i':Nat,i'≤kb.phis.length∧i=.int .i64 (i':Int)∧Hid (Below w5.heap.size w5 wq∧(nmPs f k (kb.phis.take i')).any (bdR f D r)=false)) (fun i _=>kb.phis.length - (intOf i).toNat)
      case atStart=>exact ⟨0,Nat.zero_le _,rfl,Lib.hid ⟨Below.refl _ _,rfl⟩⟩
      case round =>
        obtain ⟨i,hi,rfl,hgi⟩:=hrel;have HBI:=Lib.hid hgi.out.1;have HNI:=Lib.hid hgi.out.2;clear hgi;have HW1:Hid (Below w1.heap.size w1 wr):=Lib.hid (HB5.out.trans (HBI.out.mono HB5.out.size));obtain ⟨f0,f1,f2,f3⟩:=HFX.out wr HW1.out;obtain ⟨c0,c1,c3⟩:=HC4.out wr (H45.out.trans (HBI.out.mono H45.out.size));have hpl:=HP4.out.len
        by_cases hil:i<kb.phis.length
        · obtain ⟨bp,op,p,rfl,hpx,-,Aq,cq,d1,d2⟩:=(SPhis.keep (q6 (H45.out.trans (HBI.out.mono H45.out.size))) HP4.out).at_ hil;have HPX:=Lib.hid hpx.out;(have hpa:p.args.length=al.length:=by rw [HALL.out];exact HPH.out k kb HKB.out p (List.mem_of_getElem? hpx.out));have HPA:=Lib.hid hpa;have HARG:=Lib.hid d2;have HD1:=Lib.hid d1;(have hi0:(0:Int)≤i:=by omega);(have hi1:(i:Int)<kb.phis.length:=by omega);clear hpx hpa d2
          obtain ⟨wi,rfl⟩:∃ wi,wi=wr:=⟨wr,rfl⟩;(go_upto_region 10 with fail);clear f0 f1 f2 f3 c0 c1 c3 d1
          go_loopw [11] (fun s wq=>∃ n:Nat,n≤al.length∧s=.int .i64 (n:Int)∧Hid (Below wi.heap.size wi wq∧(nmP f p (al.take n)).any (bdR f D r)=false)) (fun s _=>al.length - (intOf s).toNat)
          case atStart=>exact ⟨0,Nat.zero_le _,rfl,Lib.hid ⟨Below.refl _ _,rfl⟩⟩
          case round =>
            obtain ⟨n,hn,rfl,hgn⟩:=hrel;have HBN:=Lib.hid hgn.out.1;have HNN:=Lib.hid hgn.out.2;clear hgn;have HW5:Hid (Below w5.heap.size w5 wr):=Lib.hid (HBI.out.trans (HBN.out.mono HBI.out.size));have HW1R:Hid (Below w1.heap.size w1 wr):=Lib.hid (HB5.out.trans (HW5.out.mono HB5.out.size))
            by_cases hnl:n<al.length
            · obtain ⟨ba,oa,q,rfl,hq,d3,-⟩:=HAL.out.at_ hnl;rw [Nat.mul_one] at d3;have HQ:=Lib.hid hq.out;(obtain ⟨hq0,hq1⟩:=(by have h:=aheadK_mem f.blocks 0 (k:Int) q (by have h:=List.mem_of_getElem? hq.out;rw [HALL.out] at h;exact h);simpa using h:0≤q∧q<f.blocks.length));obtain ⟨qn,rfl⟩:=Int.eq_ofNat_of_zero_le hq0;(have hqn:qn<f.blocks.length:=by omega);obtain ⟨bb2,ob2,kq,e2,hkq,-,⟨Aj,cj,d4,-⟩,-⟩:=(SBlks.keep (q6 (HB1.out.trans (HW1R.out.mono HB1.out.size))) HBS.out).at_ hqn;simp only [Option.some.injEq,Addr.mk.injEq,and_true] at e2;obtain ⟨rfl,rfl⟩:=e2
              have HINS:Hid ((insB f qn).length=kq.ins.length):=Lib.hid (by rw [insB_at hkq.out]);(obtain ⟨y,hy⟩:∃ y,p.args[n]?=some y:=⟨_,List.getElem?_eq_getElem (by rw [HPA.out];exact hnl)⟩);(obtain ⟨bq,oq,y',rfl,hy',d5,-⟩:=HARG.out.at_ (k:=n) (by rw [HPA.out];exact hnl));obtain rfl:y=y':=Option.some.inj (hy.symm.trans hy'.out);rw [Nat.mul_one] at d5;have HY:=Lib.hid hy
              have HS:Hid (nmP f p (al.take (n+1))=nmP f p (al.take n)++[⟨y,((qn:Nat):Int),(kq.ins.length:Int)⟩]):=Lib.hid (by
                rw [nmP_succ HQ.out,List.getD_eq_getElem?_getD,hy,Int.toNat_natCast,HINS.out];rfl)
              have HMEM:Hid ((⟨y,((qn:Nat):Int),(kq.ins.length:Int)⟩:Mk)∈nmL f):=Lib.hid (mem_nmL HKB.out (.inl (by
                (have h:=mem_nmP (f:=f) (i:=k) (n:=n) (List.mem_of_getElem? HPX.out) (by rw [← HALL.out];exact HQ.out));rw [List.getD_eq_getElem?_getD,hy,Int.toNat_natCast,HINS.out] at h
                exact h)))
              have hpl2:p.args.length≤300:=HSA.out.2 p (List.mem_of_getElem? HPX.out);have hS:∀ W,Below wr.heap.size wr W→W.cell? ⟨B,0,none⟩=some (.slice (some ⟨bp,op,none⟩) kb.phis.length cp)∧W.cell? ⟨bp,op+i * 2+1,none⟩=some (.slice (some ⟨bq,oq,none⟩) p.args.length cq)∧W.cell? ⟨bq,oq+n,none⟩=some (.int .i64 y)∧W.cell? ⟨ba,oa+n,none⟩=some (.int .i64 ((qn:Nat):Int))∧W.cell? ⟨bb,ob+qn * 5+1,none⟩=some (.slice Aj kq.ins.length cj)∧W.cell? ⟨N,0,none⟩=some (.int .i64 f.params)∧W.cell? ⟨N,1,none⟩=some (.int .i64 f.result)∧W.cell? ⟨N,2,none⟩=some (.slice Ar f.regs.length cr)∧W.cell? ⟨N,3,none⟩=some (.slice (some ⟨bb,ob,none⟩) f.blocks.length cb):=fun W hW=>by
                have h5:=HW5.out.trans (hW.mono HW5.out.size);have hi:=HBN.out.trans (hW.mono HBN.out.size);obtain ⟨f0,f1,f2,f3⟩:=HFX.out W (HW1R.out.trans (hW.mono HW1R.out.size));obtain ⟨c0,-,-⟩:=HC4.out W (H45.out.trans (h5.mono H45.out.size));exact ⟨c0,q6 hi _ _ HD1.out,q6 hi _ _ d5,q6 h5 _ _ d3,q6 hW _ _ d4,f0,f1,f2,f3⟩
              have HSS:=Lib.hid hS;(have hn0:(0:Int)≤n:=by omega);(have hn1:(n:Int)<al.length:=by omega);(have hpn:(n:Int)<p.args.length:=by have:=HPA.out;omega);(have hqq0:(0:Int)≤qn:=by omega);(have hqq1:(qn:Int)<f.blocks.length:=by omega);clear hq hkq hy hy' hq0 hq1 d3 d4 d5
              by_cases hyr:y=(r:Int)
              · (have hb1:(y == (r:Int))=true:=by simp [hyr]);obtain ⟨bR,hbR⟩:∃ bR,bR=ahR f D r qn (kq.ins.length:Int):=⟨_,rfl⟩
                have HCALL:Hid (∀ W,Below wr.heap.size wr W→Calls Tryz.prog 89 #[.agg #[.int .i64 f.params,.int .i64 f.result,.slice Ar f.regs.length cr,.slice (some ⟨bb,ob,none⟩) f.blocks.length cb],vd,.int .i64 (r:Int),.int .i64 (qn:Int),.int .i64 (kq.ins.length:Int)] W fun e w'=>e=.returned (.bool bR)∧Below W.heap.size W w'):=Lib.hid (fun W hW=>by
                  rw [hbR];exact HAH.out W (HW1R.out.trans (hW.mono HW1R.out.size)) qn _ (by omega))
                have HBD:Hid (bdR f D r ⟨y,((qn:Nat):Int),(kq.ins.length:Int)⟩=!bR):=Lib.hid (by
                  unfold bdR
                  rw [hbR,decide_eq_true hyr,Int.toNat_natCast,Bool.true_and])
                obtain ⟨x1,x2,x3,x4,x5,x6,x7,x8,x9⟩:=hS wr (Below.refl _ _);clear hbR hyr;(go_upto_region 12 with fail);clear x1 x2 x3 x4 x5 x6 x7 x8 x9;go_region_held3 (fun W=>W.cell? ⟨B,0,none⟩=some (.slice (some ⟨bp,op,none⟩) kb.phis.length cp)∧W.cell? ⟨bp,op+i * 2+1,none⟩=some (.slice (some ⟨bq,oq,none⟩) p.args.length cq)∧W.cell? ⟨bq,oq+n,none⟩=some (.int .i64 y)∧W.cell? ⟨ba,oa+n,none⟩=some (.int .i64 ((qn:Nat):Int))∧W.cell? ⟨bb,ob+qn * 5+1,none⟩=some (.slice Aj kq.ins.length cj)∧W.cell? ⟨N,0,none⟩=some (.int .i64 f.params)∧W.cell? ⟨N,1,none⟩=some (.int .i64 f.result)∧W.cell? ⟨N,2,none⟩=some (.slice Ar f.regs.length cr)∧W.cell? ⟨N,3,none⟩=some (.slice (some ⟨bb,ob,none⟩) f.blocks.length cb))
                  (first
                    | exact hS _ HBZ.out
                    | (refine hS _ ?_;repeat (first | exact Below.refl _ _ | refine Below.drew ?_)))
                  (first
                    | (go_at_call 89;refine (HCALL.out _ (Below.refl wr.heap.size wr).drew).mono ?_;rintro e wz ⟨rfl,hbz⟩;have HBZ:=Lib.hid ((Below.refl wr.heap.size wr).drew.trans hbz)))
                have HW6:Hid (Below wi.heap.size wi wz):=Lib.hid (HBN.out.trans (HBZ.out.mono HBN.out.size));have HWZ:Hid (Below w.heap.size w wz):=Lib.hid (HB1.out.trans ((HW1R.out.trans (HBZ.out.mono HW1R.out.size)).mono HB1.out.size));clear hS;cases bR with
                | false =>
                  (have HE:Hid ((nmL f).any (bdR f D r)=true):=Lib.hid (any_of HMEM.out (by rw [HBD.out];rfl)));(go_wp2_with fail);(go_ret);exact ⟨by rw [HE.out];rfl,HWZ.out⟩
                | true =>
                  have HNX:Hid ((nmP f p (al.take (n+1))).any (bdR f D r)=false):=Lib.hid (by
                    rw [HS.out,any_app,HNN.out,List.any_cons,HBD.out];rfl)
                  go_wp2_with fail
                  go_roundw
                  case rel=>exact ⟨n+1,by omega,by go_num,Lib.hid ⟨HW6.out,HNX.out⟩⟩
                  case measure=>simp [intOf];omega
              · have hb1:(y == (r:Int))=false:=by simp [hyr]
                have HNX:Hid ((nmP f p (al.take (n+1))).any (bdR f D r)=false):=Lib.hid (by
                  rw [HS.out,any_app,HNN.out];unfold bdR
                  simp [hyr])
                obtain ⟨x1,x2,x3,x4,x5,x6,x7,x8,x9⟩:=hS wr (Below.refl _ _);clear hS hyr;(go_wp2_with fail);(go_quiet (fail));go_wp2_with fail
                go_roundw
                case rel=>exact ⟨n+1,by omega,by go_num,Lib.hid ⟨HBN.out.trans ⟨rfl,rfl,rfl,Nat.le_refl _,fun _ _=>rfl⟩,HNX.out⟩⟩
                case measure=>simp [intOf];omega
            · obtain rfl:n=al.length:=by omega
              have HNX:Hid ((nmPs f k (kb.phis.take (i+1))).any (bdR f D r)=false):=Lib.hid (by
                have h:=HNN.out;rw [List.take_length,HALL.out] at h
                rw [nmPs_succ HPX.out,any_app,HNI.out,h];rfl)
              have HBX:Hid (Below w5.heap.size w5 wr):=HW5;go_wp2_with fail
              go_roundw
              case rel=>exact ⟨i+1,by omega,by go_num,Lib.hid ⟨HBX.out,HNX.out⟩⟩
              case measure=>simp [intOf];omega
        · (obtain rfl:i=kb.phis.length:=by omega);(have HNP:Hid ((nmPs f k kb.phis).any (bdR f D r)=false):=Lib.hid (by have h:=HNI.out;rw [List.take_length] at h;exact h));clear f0 f1 f2 f3 c0 c1 c3;obtain ⟨wi,rfl⟩:∃ wi,wi=wr:=⟨wr,rfl⟩;have c0:=(HC4.out wi (H45.out.trans (HBI.out.mono H45.out.size))).1;(go_upto_region 15 with fail);clear c0
          go_loopw [12] (fun s wq=>∃ j:Nat,j≤kb.ins.length∧s=.int .i64 (j:Int)∧Hid (Below wi.heap.size wi wq∧(nmIp k (kb.ins.take j)).any (bdR f D r)=false)) (fun s _=>kb.ins.length - (intOf s).toNat)
          case atStart=>exact ⟨0,Nat.zero_le _,rfl,Lib.hid ⟨Below.refl _ _,rfl⟩⟩
          case round =>
            obtain ⟨j,hj,rfl,hgj⟩:=hrel;have HBJ:=Lib.hid hgj.out.1;have HNJ:=Lib.hid hgj.out.2;clear hgj;have HW5:Hid (Below w5.heap.size w5 wr):=Lib.hid (HBI.out.trans (HBJ.out.mono HBI.out.size));have HW1R:Hid (Below w1.heap.size w1 wr):=Lib.hid (HB5.out.trans (HW5.out.mono HB5.out.size));obtain ⟨c0,c1,c3⟩:=HC4.out wr (H45.out.trans (HW5.out.mono H45.out.size));have hil:=HI4.out.len
            by_cases hjl:j<kb.ins.length
            · obtain ⟨bp,op,x,rfl,hx,-,-,⟨Aq,cq,d1,d2⟩,-⟩:=(SInss.keep (q6 (H45.out.trans (HW5.out.mono H45.out.size))) HI4.out).at_ hjl;have HX:=Lib.hid hx.out;have HARG:=Lib.hid d2;have HD1:=Lib.hid d1;have hxl:x.args.length≤300:=HSA.out.1 x (List.mem_of_getElem? hx.out);(have hj0:(0:Int)≤j:=by omega);(have hj1:(j:Int)<kb.ins.length:=by omega);clear hx d2;obtain ⟨wj,rfl⟩:∃ wj,wj=wr:=⟨wr,rfl⟩
              (go_upto_region 18 with fail);clear c0 c1 c3 d1
              go_loopw [13] (fun s wq=>∃ n:Nat,n≤x.args.length∧s=.int .i64 (n:Int)∧Hid (Below wj.heap.size wj wq∧(nmX k j (x.args.take n)).any (bdR f D r)=false)) (fun s _=>x.args.length - (intOf s).toNat)
              case atStart=>exact ⟨0,Nat.zero_le _,rfl,Lib.hid ⟨Below.refl _ _,rfl⟩⟩
              case round =>
                obtain ⟨n,hn,rfl,hgn⟩:=hrel;have HBN:=Lib.hid hgn.out.1;have HNN:=Lib.hid hgn.out.2;clear hgn;have HW5R:Hid (Below w5.heap.size w5 wr):=Lib.hid (HW5.out.trans (HBN.out.mono HW5.out.size));have HW1S:Hid (Below w1.heap.size w1 wr):=Lib.hid (HB5.out.trans (HW5R.out.mono HB5.out.size));obtain ⟨f0,f1,f2,f3⟩:=HFX.out wr HW1S.out;obtain ⟨c0,c1,c3⟩:=HC4.out wr (H45.out.trans (HW5R.out.mono H45.out.size));have d1:=q6 HBN.out _ _ HD1.out
                by_cases hnl:n<x.args.length
                · obtain ⟨bq,oq,y,rfl,hy,d5,-⟩:=(SInts.keep (q6 HBN.out) HARG.out).at_ hnl;rw [Nat.mul_one] at d5;have HY:=Lib.hid hy.out;have HS:Hid (nmX k j (x.args.take (n+1))=nmX k j (x.args.take n)++[⟨y,(k:Int),(j:Int)⟩]):=Lib.hid (nmX_succ hy.out);have HMEM:Hid ((⟨y,(k:Int),(j:Int)⟩:Mk)∈nmL f):=Lib.hid (mem_nmL HKB.out (.inr (.inl (mem_nmI HX.out (List.mem_of_getElem? hy.out)))));(have hn0:(0:Int)≤n:=by omega);(have hn1:(n:Int)<x.args.length:=by omega);clear hy
                  by_cases hyr:y=(r:Int)
                  · (have hb1:(y == (r:Int))=true:=by simp [hyr]);obtain ⟨bR,hbR⟩:∃ bR,bR=ahR f D r k (j:Int):=⟨_,rfl⟩;have hcall:=HAH.out wr HW1S.out k (j:Int) (by omega);rw [← hbR] at hcall;have HCALL:=Lib.hid hcall
                    have HBD:Hid (bdR f D r ⟨y,(k:Int),(j:Int)⟩=!bR):=Lib.hid (by
                      unfold bdR
                      rw [hbR,decide_eq_true hyr,Int.toNat_natCast,Bool.true_and])
                    clear hbR hyr hcall;(go_wp2_with fail);refine HCALL.out.mono ?_;rintro e wz ⟨rfl,hbz⟩;have HW6:Hid (Below wj.heap.size wj wz):=Lib.hid (HBN.out.trans (hbz.mono HBN.out.size));have HWZ:Hid (Below w.heap.size w wz):=Lib.hid (HB1.out.trans ((HW1S.out.trans (hbz.mono HW1S.out.size)).mono HB1.out.size));clear hbz HCALL f0 f1 f2 f3 c0 c1 c3 d1 d5;cases bR with
                    | false =>
                      (have HE:Hid ((nmL f).any (bdR f D r)=true):=Lib.hid (any_of HMEM.out (by rw [HBD.out];rfl)));(go_wp2_with fail);(go_ret);exact ⟨by rw [HE.out];rfl,HWZ.out⟩
                    | true =>
                      have HNX:Hid ((nmX k j (x.args.take (n+1))).any (bdR f D r)=false):=Lib.hid (by
                        rw [HS.out,any_app,HNN.out,List.any_cons,HBD.out];rfl)
                      go_wp2_with fail
                      go_roundw
                      case rel=>exact ⟨n+1,by omega,by go_num,Lib.hid ⟨HW6.out,HNX.out⟩⟩
                      case measure=>simp [intOf];omega
                  · have hb1:(y == (r:Int))=false:=by simp [hyr]
                    have HNX:Hid ((nmX k j (x.args.take (n+1))).any (bdR f D r)=false):=Lib.hid (by
                      rw [HS.out,any_app,HNN.out];unfold bdR
                      simp [hyr])
                    clear hyr;go_wp2_with fail
                    go_roundw
                    case rel=>exact ⟨n+1,by omega,by go_num,Lib.hid ⟨HBN.out,HNX.out⟩⟩
                    case measure=>simp [intOf];omega
                · obtain rfl:n=x.args.length:=by omega
                  have HNX:Hid ((nmIp k (kb.ins.take (j+1))).any (bdR f D r)=false):=Lib.hid (by
                    have h:=HNN.out;rw [List.take_length] at h
                    rw [nmI_succ HX.out,any_app,HNJ.out,h];rfl)
                  have HBX:Hid (Below wi.heap.size wi wr):=Lib.hid (HBJ.out.trans (HBN.out.mono HBJ.out.size));go_wp2_with fail
                  go_roundw
                  case rel=>exact ⟨j+1,by omega,by go_num,Lib.hid ⟨HBX.out,HNX.out⟩⟩
                  case measure=>simp [intOf];omega
            · (obtain rfl:j=kb.ins.length:=by omega);(have HNI2:Hid ((nmIp k kb.ins).any (bdR f D r)=false):=Lib.hid (by have h:=HNJ.out;rw [List.take_length] at h;exact h));obtain ⟨f0,f1,f2,f3⟩:=HFX.out wr HW1R.out
              have HSUC:Hid ((nmKp f (f.blocks.take (k+1)) 0).any (bdR f D r)=(nmT k kb).any (bdR f D r)):=Lib.hid (by
                rw [nmK_succ HKB.out,any_app,any_app,any_app,HNK.out,HNP.out,HNI2.out];simp)
              obtain ⟨y,hyy⟩:∃ y,y=kb.term.arg:=⟨_,rfl⟩;rw [← hyy] at c3;have HYY:=Lib.hid hyy;clear hyy
              by_cases hyr:y=(r:Int)
              · have hb1:(y == (r:Int))=true:=by simp [hyr]
                have HNT:Hid (nmT k kb=[⟨y,(k:Int),(kb.ins.length:Int)⟩]):=Lib.hid (by
                  unfold nmT
                  rw [← HYY.out,if_pos (by omega)])
                (have HMEM:Hid ((⟨y,(k:Int),(kb.ins.length:Int)⟩:Mk)∈nmL f):=Lib.hid (mem_nmL HKB.out (.inr (.inr (by rw [HNT.out];exact List.mem_singleton.2 rfl)))));obtain ⟨bR,hbR⟩:∃ bR,bR=ahR f D r k (kb.ins.length:Int):=⟨_,rfl⟩;have hcall:=HAH.out wr HW1R.out k (kb.ins.length:Int) (by omega);rw [← hbR] at hcall;have HCALL:=Lib.hid hcall
                have HBD:Hid (bdR f D r ⟨y,(k:Int),(kb.ins.length:Int)⟩=!bR):=Lib.hid (by
                  unfold bdR
                  rw [hbR,decide_eq_true hyr,Int.toNat_natCast,Bool.true_and])
                clear hbR hyr hcall;(go_wp2_with fail);refine HCALL.out.mono ?_;rintro e wz ⟨rfl,hbz⟩;have HW6:Hid (Below w1.heap.size w1 wz):=Lib.hid (HW1R.out.trans (hbz.mono HW1R.out.size));have HWZ:Hid (Below w.heap.size w wz):=Lib.hid (HB1.out.trans (HW6.out.mono HB1.out.size));clear hbz HCALL f0 f1 f2 f3 c0 c1 c3;cases bR with
                | false =>
                  (have HE:Hid ((nmL f).any (bdR f D r)=true):=Lib.hid (any_of HMEM.out (by rw [HBD.out];rfl)));(go_wp2_with fail);(go_ret);exact ⟨by rw [HE.out];rfl,HWZ.out⟩
                | true =>
                  have HNX:Hid ((nmKp f (f.blocks.take (k+1)) 0).any (bdR f D r)=false):=Lib.hid (by
                    rw [HSUC.out,HNT.out,List.any_cons,HBD.out];rfl)
                  go_wp2_with fail
                  go_roundw
                  case rel=>exact ⟨k+1,by omega,by go_num,Lib.hid ⟨HW6.out,HNX.out⟩⟩
                  case measure=>simp [intOf];omega
              · have hb1:(y == (r:Int))=false:=by simp [hyr]
                have HNX:Hid ((nmKp f (f.blocks.take (k+1)) 0).any (bdR f D r)=false):=Lib.hid (by
                  rw [HSUC.out];unfold nmT;rw [← HYY.out]
                  split
                  · rw [List.any_cons];unfold bdR;rw [decide_eq_false hyr];rfl
                  · rfl)
                clear hyr;go_wp2_with fail
                go_roundw
                case rel=>exact ⟨k+1,by omega,by go_num,Lib.hid ⟨HW1R.out,HNX.out⟩⟩
                case measure=>simp [intOf];omega
    · (obtain rfl:k=f.blocks.length:=by omega);(have HE:Hid ((nmL f).any (bdR f D r)=false):=Lib.hid (by have h:=HNK.out;rw [List.take_length] at h;exact h));clear f0 f1 f2;(go_wp2_with fail);(go_ret);exact ⟨by rw [HE.out];rfl,HB1.out.trans (HBR.out.mono HB1.out.size)⟩
def agR (f:FunD) (j:Nat):Bool:=decide (1<cntM (mkBs f.blocks 0) j) || (decide (0<cntM (mkBs f.blocks 0) j) && decide ((j:Int)<f.params))
def snR (f:FunD) (D:Nat→Nat→Bool) (j:Nat):Bool:=(nmL f).any (bdR f D j)
def formR (f:FunD):Int × Int :=
  if 0≤qJ f.blocks.length (fun j=>!fromB f.blocks 0 (-1) j) then (6,-1) else
  if 0≤qJ f.regs.length (fun j=>agR f j) then (7,qJ f.regs.length (fun j=>agR f j)) else
  if 0≤qJ f.regs.length (fun j=>snR f (dmB f.blocks) j) then (4,qJ f.regs.length (fun j=>snR f (dmB f.blocks) j)) else (0,-1)
def NoneB (F:Nat→Bool) (k:Nat):Prop:=∀ i,i<k→F i=false
theorem NoneB.zero (F:Nat→Bool):NoneB F 0:=fun i hi=>by omega
theorem NoneB.succ {F:Nat→Bool} {k:Nat} (h:NoneB F k) (hk:F k=false):NoneB F (k+1):=fun i hi=>by
  by_cases e:i=k
  · rw [e];exact hk
  · exact h i (by omega)
theorem NoneB.at_ {F:Nat→Bool} {k n:Nat} (h:NoneB F k) (hk:F k=true) (hn:k<n):qJ n F=k:=firstB_at hn hk h
theorem NoneB.all {F:Nat→Bool} {n:Nat} (h:NoneB F n):qJ n F=-1:=firstB_none h
set_option maxRecDepth 100000 in
set_option maxHeartbeats 32000000 in
theorem refForm13_any (f:FunD) (vf:Value) (w:World) (hf:VFun w vf f) (hsm:SmallF f)
    (hph:∀ (b:Nat) (k:BlkD),f.blocks[b]?=some k→∀ p∈k.phis,p.args.length=(qG f.blocks (b:Int)).length) :
    Calls Tryz.prog 16 #[vf] w fun e w'=>e=.returned (.tuple #[.int .i64 (formR f).1,.int .i64 (formR f).2])∧Below w.heap.size w w':=by
  have hf0:=hf;obtain ⟨Ar,cr,Ab,cb,rfl,hrs,hbs,-,-⟩:=hf;have HF:=Lib.hid hf0;have HSM:=Lib.hid hsm;have HPH:=Lib.hid hph;have hbl:=hbs.len;have hrl:=hrs.len;have hnb:f.blocks.length≤70:=hsm.1;have hnr:f.regs.length≤300:=hsm.2.1
  clear hf0 hbs hrs hsm hph;(go_enter Tryz.func16,Tryz.ntmps16);(go_upto_region 1 with fail);obtain ⟨w1,hw1,hs1,hk1,hbel1,hc1,-⟩:=named w #[.int .i64 f.params,.int .i64 f.result,.slice Ar f.regs.length cr,.slice Ab f.blocks.length cb] 30;rw [← hw1];obtain ⟨N,hN⟩:∃ N,N=w.heap.size:=⟨_,rfl⟩;rw [← hN] at hc1 ⊢;have hfx:∀ W,Below w1.heap.size w1 W→W.cell? ⟨N,0,none⟩=some (.int .i64 f.params)∧W.cell? ⟨N,1,none⟩=some (.int .i64 f.result)∧W.cell? ⟨N,2,none⟩=some (.slice Ar f.regs.length cr)∧W.cell? ⟨N,3,none⟩=some (.slice Ab f.blocks.length cb):=fun W hW =>
    ⟨q6 hW _ _ (hc1 0 _ rfl),q6 hW _ _ (hc1 1 _ rfl),q6 hW _ _ (hc1 2 _ rfl),q6 hW _ _ (hc1 3 _ rfl)⟩
  have HFX:=Lib.hid hfx;have HB1:=Lib.hid hbel1;have HVF:Hid (∀ W,Below w1.heap.size w1 W→VFun W (.agg #[.int .i64 f.params,.int .i64 f.result,.slice Ar f.regs.length cr,.slice Ab f.blocks.length cb]) f):=Lib.hid (fun W hW=>VFun.keep (q6 (hbel1.trans (hW.mono hbel1.size))) HF.out);have HFR:=Lib.hid (from_any f 0 (-1) _ w1 (HVF.out w1 (Below.refl _ _)) (by omega));obtain ⟨f0,f1,f2,f3⟩:=hfx w1 (Below.refl _ _);clear hw1 hs1 hk1 hbel1 hc1 hN hfx;(go_wp2_with fail);refine HFR.out.mono ?_;rintro e w2 ⟨⟨H,rfl,hH,hrow⟩,hb2⟩
  have HROW:=Lib.hid hrow;have HB2:=Lib.hid hb2;clear hH hrow hb2 HFR f0 f1 f2 f3;go_wp2_with fail
  go_loopw [5] (fun s wr=>∃ k:Nat,k≤f.blocks.length∧s=.int .i64 (k:Int)∧wr=w2∧Hid (NoneB (fun j=>!fromB f.blocks 0 (-1) j) k)) (fun s _=>f.blocks.length - (intOf s).toNat)
  case atStart=>exact ⟨0,Nat.zero_le _,rfl,rfl,Lib.hid (NoneB.zero _)⟩
  case round =>
    obtain ⟨k,hk,rfl,hww,hnone⟩:=hrel;obtain rfl:w2=wr:=hww.symm
    by_cases hkl:k<f.blocks.length
    · have x0:=HROW.out.cell hkl;obtain ⟨bR,hbR⟩:∃ bR,bR=fromB f.blocks 0 (-1) k:=⟨_,rfl⟩;rw [← hbR] at x0;have HBR:=Lib.hid hbR;(have hk0:(0:Int)≤k:=by omega);(have hk1:(k:Int)<f.blocks.length:=by omega);clear hbR;cases bR with
      | false =>
        have HE:Hid (formR f=(6,-1)):=Lib.hid (by
          unfold formR
          rw [NoneB.at_ (F:=fun j=>!fromB f.blocks 0 (-1) j) hnone.out (by show (!fromB f.blocks 0 (-1) k)=true;rw [← HBR.out];rfl) hkl,if_pos (by omega)])
        (go_wp2_with fail);(go_ret2);exact ⟨by rw [HE.out];rfl,HB1.out.trans (HB2.out.mono HB1.out.size)⟩
      | true =>
        (have HNX:Hid (NoneB (fun j=>!fromB f.blocks 0 (-1) j) (k+1)):=Lib.hid (hnone.out.succ (by show (!fromB f.blocks 0 (-1) k)=false;rw [← HBR.out];rfl)));go_wp2_with fail
        go_roundw
        case rel=>exact ⟨k+1,by omega,by go_num,trivial,HNX⟩
        case measure=>simp [intOf];omega
    · (obtain rfl:k=f.blocks.length:=by omega);have HU:Hid (qJ f.blocks.length (fun j=>!fromB f.blocks 0 (-1) j)=-1):=Lib.hid hnone.out.all;go_upto_region 8 with fail
      go_loopw [6] (fun s wr=>∃ k:Nat,k≤f.regs.length∧s=.int .i64 (k:Int)∧Hid (Below w2.heap.size w2 wr∧NoneB (agR f) k)) (fun s _=>f.regs.length - (intOf s).toNat)
      case atStart=>exact ⟨0,Nat.zero_le _,rfl,Lib.hid ⟨Below.refl _ _,NoneB.zero _⟩⟩
      case round =>
        obtain ⟨k,hk,rfl,hgk⟩:=hrel;have HBK:=Lib.hid hgk.out.1;have HNK:=Lib.hid hgk.out.2;clear hgk;have HW1:Hid (Below w1.heap.size w1 wr):=Lib.hid (HB2.out.trans (HBK.out.mono HB2.out.size));obtain ⟨f0,f1,f2,f3⟩:=HFX.out wr HW1.out
        by_cases hkl:k<f.regs.length
        · have HMK:=Lib.hid (refMaker_any f _ wr (HVF.out wr HW1.out) HSM.out k);(go_wp2_with fail);refine HMK.out.mono ?_;rintro e w3 ⟨rfl,hb3⟩;obtain ⟨c,hc⟩:∃ c,c=cntM (mkBs f.blocks 0) k:=⟨_,rfl⟩;rw [← hc];obtain ⟨mb,hmb⟩:∃ mb,mb=(fstM (mkBs f.blocks 0) k).b:=⟨_,rfl⟩;obtain ⟨ma,hma⟩:∃ ma,ma=(fstM (mkBs f.blocks 0) k).a:=⟨_,rfl⟩;rw [← hmb,← hma]
          have HC:=Lib.hid hc;have hb4:Below w3.heap.size w3 (w3.alloc (.cells #[.int .i64 mb,.int .i64 ma] 90)):=(Below.refl _ _).alloc (Nat.le_refl _) _;clear hmb hma hc HMK f0 f1 f2 f3;(go_upto_region 11 with fail);generalize w3.alloc (.cells #[.int .i64 mb,.int .i64 ma] 90)=w4 at *;have HB4:Hid (Below w2.heap.size w2 w4):=Lib.hid (HBK.out.trans ((hb3.trans (hb4.mono hb3.size)).mono HBK.out.size));have HW4:Hid (Below w1.heap.size w1 w4):=Lib.hid (HB2.out.trans (HB4.out.mono HB2.out.size));have HWW:Hid (Below w.heap.size w w4):=Lib.hid (HB1.out.trans (HW4.out.mono HB1.out.size));obtain ⟨f0,f1,f2,f3⟩:=HFX.out w4 HW4.out
          have hpos:agR f k=true→formR f=(7,(k:Int)):=fun h=>by
            unfold formR;rw [HU.out,if_neg (by omega),NoneB.at_ HNK.out h hkl,if_pos (by omega)]
          have HPOS:=Lib.hid hpos;clear hb3 hb4 hpos
          by_cases h1:1<c
          · have hd1:decide ((1:Int)<(c:Int))=true:=decide_eq_true (by omega);(have HE:=Lib.hid (HPOS.out (by unfold agR;rw [← HC.out,decide_eq_true h1];rfl)));(go_wp2_with fail);(go_ret2);exact ⟨by rw [HE.out];rfl,HWW.out⟩
          · have hd1:decide ((1:Int)<(c:Int))=false:=decide_eq_false (by omega)
            by_cases h0:0<c
            · have hd0:decide ((0:Int)<(c:Int))=true:=decide_eq_true (by omega)
              by_cases hp:(k:Int)<f.params
              · have hd2:decide ((k:Int)<f.params)=true:=decide_eq_true hp;(have HE:=Lib.hid (HPOS.out (by unfold agR;rw [← HC.out,decide_eq_true h0,decide_eq_true hp];simp)));(go_wp2_with fail);(go_ret2);exact ⟨by rw [HE.out];rfl,HWW.out⟩
              · have hd2:decide ((k:Int)<f.params)=false:=decide_eq_false hp;(have HNX:Hid (NoneB (agR f) (k+1)):=Lib.hid (HNK.out.succ (by unfold agR;rw [← HC.out,decide_eq_false h1,decide_eq_false hp];simp)));go_wp2_with fail
                go_roundw
                case rel=>exact ⟨k+1,by omega,by go_num,Lib.hid ⟨HB4.out,HNX.out⟩⟩
                case measure=>simp [intOf];omega
            · have hd0:decide ((0:Int)<(c:Int))=false:=decide_eq_false (by omega);(have HNX:Hid (NoneB (agR f) (k+1)):=Lib.hid (HNK.out.succ (by unfold agR;rw [← HC.out,decide_eq_false h1,decide_eq_false h0];rfl)));go_wp2_with fail
              go_roundw
              case rel=>exact ⟨k+1,by omega,by go_num,Lib.hid ⟨HB4.out,HNX.out⟩⟩
              case measure=>simp [intOf];omega
        · (obtain rfl:k=f.regs.length:=by omega);have HU2:Hid (qJ f.regs.length (agR f)=-1):=Lib.hid HNK.out.all;obtain ⟨wk,rfl⟩:∃ wk,wk=wr:=⟨wr,rfl⟩;have HDM:=Lib.hid (refDom_any f _ wk (HVF.out wk HW1.out) (by omega));(go_wp2_with fail);refine HDM.out.mono ?_;rintro e w5 ⟨⟨vd,Dd,rfl,hT⟩,hb5⟩;have HT:=Lib.hid hT;have HB5:Hid (Below w1.heap.size w1 w5):=Lib.hid (HW1.out.trans (hb5.mono HW1.out.size))
          clear hT hb5 HDM f0 f1 f2 f3;go_wp2_with fail
          go_loopw [10] (fun s wr=>∃ k:Nat,k≤f.regs.length∧s=.int .i64 (k:Int)∧Hid (Below w5.heap.size w5 wr∧NoneB (snR f (dmB f.blocks)) k)) (fun s _=>f.regs.length - (intOf s).toNat)
          case atStart=>exact ⟨0,Nat.zero_le _,rfl,Lib.hid ⟨Below.refl _ _,NoneB.zero _⟩⟩
          case round =>
            obtain ⟨k,hk,rfl,hgk⟩:=hrel;have HBJ:=Lib.hid hgk.out.1;have HNJ:=Lib.hid hgk.out.2;clear hgk;have HW6:Hid (Below w1.heap.size w1 wr):=Lib.hid (HB5.out.trans (HBJ.out.mono HB5.out.size));obtain ⟨f0,f1,f2,f3⟩:=HFX.out wr HW6.out
            by_cases hkl:k<f.regs.length
            · have HAM:=Lib.hid (refAmiss_any f _ wr (HVF.out wr HW6.out) HSM.out k vd _ Dd (dmB f.blocks) (HT.out.below HBJ.out) HPH.out);obtain ⟨bR,hbR⟩:∃ bR,bR=(nmL f).any (bdR f (dmB f.blocks) k):=⟨_,rfl⟩;rw [← hbR] at HAM;have HBR:Hid (snR f (dmB f.blocks) k=bR):=Lib.hid hbR.symm;clear hbR;(go_wp2_with fail);refine HAM.out.mono ?_;rintro e w7 ⟨rfl,hb7⟩;have HB7:Hid (Below w5.heap.size w5 w7):=Lib.hid (HBJ.out.trans (hb7.mono HBJ.out.size))
              have HWW:Hid (Below w.heap.size w w7):=Lib.hid (HB1.out.trans ((HB5.out.trans (HB7.out.mono HB5.out.size)).mono HB1.out.size));clear hb7 HAM f0 f1 f2 f3;cases bR with
              | true =>
                have HE:Hid (formR f=(4,(k:Int))):=Lib.hid (by
                  unfold formR
                  rw [HU.out,if_neg (by omega),HU2.out,if_neg (by omega),NoneB.at_ HNJ.out HBR.out hkl,if_pos (by omega)])
                (go_wp2_with fail);(go_ret2);exact ⟨by rw [HE.out];rfl,HWW.out⟩
              | false =>
                have HNX:Hid (NoneB (snR f (dmB f.blocks)) (k+1)):=Lib.hid (HNJ.out.succ HBR.out);go_wp2_with fail
                go_roundw
                case rel=>exact ⟨k+1,by omega,by go_num,Lib.hid ⟨HB7.out,HNX.out⟩⟩
                case measure=>simp [intOf];omega
            · (obtain rfl:k=f.regs.length:=by omega);have HU3:Hid (qJ f.regs.length (snR f (dmB f.blocks))=-1):=Lib.hid HNJ.out.all
              have HE:Hid (formR f=(0,-1)):=Lib.hid (by
                unfold formR
                rw [HU.out,if_neg (by omega),HU2.out,if_neg (by omega),HU3.out,if_neg (by omega)])
              (go_wp2_with fail);(go_ret2);exact ⟨by rw [HE.out];rfl,HB1.out.trans (HW6.out.mono HB1.out.size)⟩
theorem firstB_congr {n:Nat} {F G:Nat→Bool} (h:∀ j,j<n→F j=G j):qJ n F=qJ n G:=by
  rcases firstB_cases n G with ⟨j,h1,h2,h3,h4⟩ | ⟨h1,h2⟩
  · rw [h4];exact firstB_at h1 ((h j h1).trans h2) fun i hi=>(h i (by omega)).trans (h3 i hi)
  · rw [h2];exact firstB_none fun i hi=>(h i hi).trans (h1 i hi)
theorem cntM_app (l k:List Mk) (r:Nat):cntM (l++k) r=cntM l r+cntM k r:=by unfold cntM;rw [List.countP_append]
theorem cnt_par:∀ (n r:Nat),cntM (mkPar n) r=if r<n then 1 else 0
  | 0,r=>by rw [if_neg (by omega)];rfl
  | n+1,r=>by
    rw [mkPar_succ,qs,cnt_par n r];show (if r<n then 1 else 0)+(if ((n:Nat):Int)=(r:Int) then 1 else 0)=_
    by_cases h1:r<n
    · rw [if_pos h1,if_neg (by omega),if_pos (by omega)]
    · by_cases h2:r=n
      · rw [if_neg h1,if_pos (by omega),if_pos (by omega)]
      · rw [if_neg h1,if_neg (by omega),if_neg (by omega)]
theorem cnt_flM {n r:Nat} (hr:r<n):∀ l:List Mk,cntM (flM n l) r=cntM l r
  | []=>rfl
  | e::l=>by
    have ih:=cnt_flM hr l;unfold flM cntM at *;rw [List.filter_cons]
    by_cases h:inRg n e=true
    · rw [if_pos h,List.countP_cons,List.countP_cons,ih]
    · rw [if_neg h,List.countP_cons,ih]
      have:decide (e.r=(r:Int))=false:=decide_eq_false fun h2=>h (by
        unfold inRg;rw [Bool.and_eq_true]
        exact ⟨decide_eq_true (by omega),decide_eq_true (by omega)⟩)
      rw [this];simp
theorem fst_flM {n r:Nat} (hr:r<n):∀ l:List Mk,(flM n l).find? (fun e=>decide (e.r=(r:Int)))=l.find? (fun e=>decide (e.r=(r:Int)))
  | []=>rfl
  | e::l=>by
    have ih:=fst_flM hr l;unfold flM at *;rw [List.filter_cons]
    by_cases h:inRg n e=true
    · rw [if_pos h,List.find?_cons,List.find?_cons,ih]
    · rw [if_neg h,List.find?_cons,ih]
      have:decide (e.r=(r:Int))=false:=decide_eq_false fun h2=>h (by
        unfold inRg;rw [Bool.and_eq_true]
        exact ⟨decide_eq_true (by omega),decide_eq_true (by omega)⟩)
      rw [this]
theorem par_iff {f:FunD} (h0:0≤f.params) {j:Nat} (hj:j<f.regs.length):j<parN f↔(j:Int)<f.params:=by
  unfold parN;omega
theorem again_ag {f:FunD} (h0:0≤f.params) {j:Nat} (hj:j<f.regs.length):againB f j=agR f j:=by
  unfold againB agR evL;rw [cnt_flM hj];unfold mkL;rw [cntM_app,cnt_par];have hp:=par_iff h0 hj
  by_cases h:(j:Int)<f.params
  · rw [if_pos (hp.2 h),decide_eq_true h,Bool.and_true]
    by_cases hc:0<cntM (mkBs f.blocks 0) j
    · rw [decide_eq_true hc,Bool.or_true];exact decide_eq_true (by omega)
    · rw [decide_eq_false hc,Bool.or_false];exact (decide_eq_false (by omega)).trans (decide_eq_false (by omega)).symm
  · rw [if_neg (fun e=>h (hp.1 e)),decide_eq_false h,Bool.and_false,Bool.or_false,Nat.zero_add]
    by_cases hc:1<cntM (mkBs f.blocks 0) j
    · rw [decide_eq_true hc];exact decide_eq_true (by omega)
    · rw [decide_eq_false hc];exact decide_eq_false (by omega)
theorem fst_bs {f:FunD} (h0:0≤f.params) {j:Nat} (hj:j<f.regs.length) (hp:¬ (j:Int)<f.params):fstM (evL f) j=fstM (mkBs f.blocks 0) j:=by
  unfold fstM evL;rw [fst_flM hj];unfold mkL;rw [List.find?_append];have:(mkPar (parN f)).find? (fun e=>decide (e.r=(j:Int)))=none:=by
    rw [List.find?_eq_none];intro e he hd;obtain ⟨r,hr,rfl⟩:∃ r:Nat,r<parN f∧e=⟨(r:Int),-1,-2⟩:=by
      unfold mkPar at he;obtain ⟨r,h1,h2⟩:=List.mem_map.1 he;exact ⟨r,List.mem_range.1 h1,h2.symm⟩
    have h1:(r:Int)=(j:Int):=of_decide_eq_true hd;(have:r=j:=by omega);subst this;exact hp ((par_iff h0 hj).1 hr)
  rw [this];rfl
theorem bad_bd {f:FunD} (h0:0≤f.params) {j:Nat} (hj:j<f.regs.length) {e:Mk} (hb:0≤e.b):(decide (e.r=(j:Int)) && badB f e)=bdR f (dmB f.blocks) j e:=by
  unfold bdR
  by_cases her:e.r=(j:Int)
  · rw [decide_eq_true her,Bool.true_and,Bool.true_and];unfold badB ahR;rw [her,Int.toNat_natCast]
    by_cases hp:(j:Int)<f.params
    · rw [if_pos hp,decide_eq_false (by omega)];rfl
    · rw [if_neg hp,decide_eq_true (by omega),Bool.true_and,fst_bs h0 hj hp];unfold ahB;have heb:((e.b.toNat:Nat):Int)=e.b:=by omega
      by_cases hc:cntM (mkBs f.blocks 0) j=0
      · rw [if_pos hc,fstM_none (by omega)];rw [if_neg (by show ¬ (-1:Int)=e.b;omega)]
        rfl
      · rw [if_neg hc];obtain ⟨d,h1,-⟩:=fst_in hc;rw [heb]
        by_cases hbb:(fstM (mkBs f.blocks 0) j).b=e.b
        · rw [if_pos hbb,if_pos hbb]
        · rw [if_neg hbb,if_neg hbb,decide_eq_true (by omega),Bool.true_and]
  · rw [decide_eq_false her];rfl
theorem soon_sn {f:FunD} (h0:0≤f.params) (hb:∀ e∈nmL f,0≤e.b) {j:Nat} (hj:j<f.regs.length):soonB f j=snR f (dmB f.blocks) j:=by
  unfold soonB snR;have key:∀ l:List Mk,(∀ e∈l,0≤e.b)→(l.any fun e=>decide (e.r=(j:Int)) && badB f e)=l.any (bdR f (dmB f.blocks) j):=by
    intro l
    induction l with
    | nil=>intro _;rfl
    | cons e l ih =>
      intro hl;rw [List.any_cons,List.any_cons,bad_bd h0 hj (hl e (List.mem_cons_self ..)),ih fun x hx=>hl x (List.mem_cons_of_mem _ hx)]
  exact key _ hb
theorem formE_R {f:FunD} (h0:0≤f.params) (hb:∀ e∈nmL f,0≤e.b):formE f=formR f:=by
  have e1:qJ f.blocks.length (fun j=>qv f.blocks j == false)=qJ f.blocks.length (fun j=>!fromB f.blocks 0 (-1) j):=firstB_congr fun j _=>by
    rw [qz];cases qv f.blocks j <;> rfl
  have e2:qJ f.regs.length (fun j=>againB f j == true)=qJ f.regs.length (fun j=>agR f j):=firstB_congr fun j hj=>by
    rw [again_ag h0 hj];cases agR f j <;> rfl
  have e3:qJ f.regs.length (fun j=>soonB f j == true)=qJ f.regs.length (fun j=>snR f (dmB f.blocks) j):=firstB_congr fun j hj=>by
    rw [soon_sn h0 hb hj];cases snR f (dmB f.blocks) j <;> rfl
  unfold formE formR;rw [e1,e2,e3]
end Go.Proofs.YtfoggldjjnabcaaGreatDoor
