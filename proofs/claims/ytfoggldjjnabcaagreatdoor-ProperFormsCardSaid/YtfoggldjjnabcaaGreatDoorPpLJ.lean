/- The reference's Func, and Module. (Written by gen/genrefj.py.) -/
import Derived.Test.YtfoggldjjnabcaaGreatDoorRefIJ
import Derived.Test.YtfoggldjjnabcaaGreatDoorPpUJ
import Derived.Test.YtfoggldjjnabcaaGreatDoorSmallJ
import Derived.Test.YtfoggldjjnabcaaGreatDoorPmEJ
import Derived.BigQuiet
import Derived.Test.YtfoggldjjnabcaaGreatDoorInfBJ
import Derived.ProofKit
import Derived.Test.YtfoggldjjnabcaaGreatDoorPpCJ
import Derived.ChangeArms
import Derived.FnData
import Derived.LaidLaws
namespace Go.Proofs.YtfoggldjjnabcaaGreatDoor
open Go.ChangeShapes Go.WideShapes Go.RowKit Go.Deep
set_option linter.unusedVariables false
theorem outer_good {f:FunD} (h:qU f=0):(∀ t∈f.regs,t=1∨t=2)∧0≤f.result∧∀ b∈f.blocks,b.term.kind=1∨b.term.kind=2∨b.term.kind=3:=by
  unfold qU at h
  split at h
  · split at h
    · rename_i h1 h2;unfold qd at h2;rw [Bool.and_eq_true,Bool.and_eq_true] at h2;refine ⟨fun t ht=>of_decide_eq_true (List.all_eq_true.1 h2.1.1 t ht),by have:=of_decide_eq_true h2.2;omega,fun b hb=>?_⟩
      split at h
      · rename_i h3;rw [Bool.and_eq_true] at h3;have h4:=List.all_eq_true.1 h3.1 b hb;unfold ql at h4;rw [Bool.and_eq_true] at h4;have h5:=h4.1;unfold tosB at h5
        by_cases g1:b.term.kind=1
        · exact .inl g1
        · by_cases g2:b.term.kind=2
          · exact .inr (.inl g2)
          · by_cases g3:b.term.kind=3
            · exact .inr (.inr g3)
            · rw [if_neg g1,if_neg g2,if_neg g3] at h5;cases h5
      · omega
    · omega
  · omega
def SmallG (f:FunD):Prop:=f.blocks.length≤70∧∀ b∈f.blocks,b.ins.length≤300∧b.phis.length≤300∧∀ x∈b.ins,x.args.length≤300
theorem SmallG.of {f:FunD} (h:SmallF f):SmallG f:=⟨h.1,fun b hb=>⟨(h.2.2.2 b hb).1,(h.2.2.2 b hb).2.1,(h.2.2.2 b hb).2.2.2.1⟩⟩
theorem nearS_of {f:FunD} (h:SmallG f):NearS f.blocks:=fun b hb=>by have:=h.2 b hb;exact ⟨by have:=this.2.1;omega,by have:=this.1;omega⟩
def phi1 (f:FunD) (p:PhiD) (k:Nat):Int:=if decide (0≤p.dst∧p.dst<f.regs.length) && qQ (p.args.take k) f.regs.length then 0 else 4
def phi2 (f:FunD) (p:PhiD) (k:Nat):Int:=if (p.args.take k).all (fun a=>decide (reg f.regs a=reg f.regs p.dst)) then 0 else 3
theorem phi1_zero (f:FunD) (p:PhiD):phi1 f p 0=isE f.regs p.dst (-1):=by
  unfold phi1 isE qQ
  by_cases h:0≤p.dst∧p.dst<f.regs.length
  · simp [h]
  · simp [h]
theorem phi1_step {f:FunD} {p:PhiD} {k:Nat} {a:Int} (h:p.args[k]?=some a):phi1 f p (k+1)=qM (phi1 f p k) (isE f.regs a (-1)):=by
  unfold phi1 qQ isE qM;rw [qD h,List.all_append];generalize (p.args.take k).all (fun a=>decide (0≤a∧a<(f.regs.length:Int)))=q;cases q <;> by_cases h1:0≤p.dst∧p.dst<f.regs.length <;> by_cases h3:0≤a∧a<f.regs.length <;> simp [h1,h3]
theorem phi2_step {f:FunD} {p:PhiD} {k:Nat} {a:Int} (h:p.args[k]?=some a) (h0:phi2 f p k=0) (hin:isIn f.regs.length a=true) (hr:0≤reg f.regs p.dst):phi2 f p (k+1)=isE f.regs a (reg f.regs p.dst):=by
  have hin:=of_decide_eq_true hin;unfold phi2 at *;rw [qD h,List.all_append];have h2:(p.args.take k).all (fun a=>decide (reg f.regs a=reg f.regs p.dst))=true:=by
    split at h0
    · assumption
    · omega
  rw [h2];unfold isE;rw [if_pos hin]
  by_cases h3:reg f.regs a=reg f.regs p.dst <;> simp [h3,hr]
theorem phiE_four {f:FunD} {p:PhiD} {k:Nat} (hk:p.args.length≤k) (h:phi1 f p k≠0):phiE f p=4∧phi1 f p k=4:=by
  unfold phi1 at *;rw [List.take_of_length_le hk] at *;unfold phiE
  split at h
  · omega
  · rename_i h2;rw [if_neg h2,if_neg h2];exact ⟨rfl,rfl⟩
theorem phi1_in {f:FunD} {p:PhiD} {k:Nat} (hk:p.args.length≤k) (h:phi1 f p k=0):(decide (0≤p.dst∧p.dst<f.regs.length) && qQ p.args f.regs.length)=true:=by
  unfold phi1 at h;rw [List.take_of_length_le hk] at h
  split at h
  · assumption
  · omega
theorem phiE_in {f:FunD} {p:PhiD} {k:Nat} (hk:p.args.length≤k) (h:(decide (0≤p.dst∧p.dst<f.regs.length) && qQ p.args f.regs.length)=true):phiE f p=phi2 f p k:=by
  unfold phiE phi2;rw [if_pos h,List.take_of_length_le hk]
theorem phiE_three {f:FunD} {p:PhiD} {k:Nat} (h:(decide (0≤p.dst∧p.dst<f.regs.length) && qQ p.args f.regs.length)=true) (h2:phi2 f p k≠0):phiE f p=3∧phi2 f p k=3:=by
  unfold phiE phi2 at *;rw [if_pos h]
  split at h2
  · omega
  · rename_i h3;refine ⟨if_neg (fun h4=>h3 ?_),if_neg h3⟩;rw [List.all_eq_true] at *;exact fun a ha=>h4 a (List.mem_of_mem_take ha)
def Phi2 (f:FunD) (p:PhiD) (a:Nat) (c:Int):Prop :=
  (c=0→(decide (0≤p.dst∧p.dst<f.regs.length) && qQ p.args f.regs.length)=true∧phi2 f p a=0)∧(c≠0→phiE f p=c)
theorem phi2_start {f:FunD} {p:PhiD} {bad:Int} (h1:bad≠0→phiE f p=4∧bad=4) (h2:bad=0→(decide (0≤p.dst∧p.dst<f.regs.length) && qQ p.args f.regs.length)=true):Phi2 f p 0 bad :=
  ⟨fun h=>⟨h2 h,by simp [phi2]⟩,fun h=>(h1 h).1.trans (h1 h).2.symm⟩
theorem phi2_dst {f:FunD} {p:PhiD} {a:Nat} (h:Phi2 f p a 0):0≤p.dst∧p.dst<f.regs.length:=by
  have h1:=(h.1 rfl).1;rw [Bool.and_eq_true] at h1;exact of_decide_eq_true h1.1
theorem phi2_next {f:FunD} {p:PhiD} {a:Nat} {z x:Int} (hz:p.args[a]?=some z) (h:Phi2 f p a 0) (hx:reg f.regs p.dst=x) (hx0:0≤x):Phi2 f p (a+1) (isE f.regs z x):=by
  obtain ⟨h1,h2⟩:=h.1 rfl;have h3:=h1;rw [Bool.and_eq_true] at h3;have h4:isIn f.regs.length z=true:=by
    have:=List.all_eq_true.1 h3.2 z (List.mem_of_getElem? hz);exact this
  (have h5:=phi2_step hz h2 h4 (by rw [hx];exact hx0));rw [hx] at h5;rw [← h5];refine ⟨fun h6=>⟨h1,h6⟩,fun h6=>?_⟩;obtain ⟨h7,h8⟩:=phiE_three h1 h6;rw [h7,h8]
theorem phi2_done {f:FunD} {p:PhiD} {a:Nat} (h:Phi2 f p a 0) (hk:p.args.length≤a):phiE f p=0:=by
  obtain ⟨h1,h2⟩:=h.1 rfl;rw [phiE_in hk h1,h2]
set_option maxRecDepth 100000 in
set_option maxHeartbeats 16000000 in
theorem func_ref (m:List FunD) (n:Nat) (f:FunD) (v:Value) (w:World) (hv:VMod w v m) (hf:m[n]?=some f) (hsm:SmallG f) :
    Calls Tryz.prog 40 #[v,.int .i64 n] w fun e w'=>e=.returned (.int .i64 (funE m f))∧Below w.heap.size w w':=by
  have hv0:=hv;obtain ⟨Am,cm,rfl,hm⟩:=hv;have hml:=hm.len;have hlt:n<m.length:=(List.getElem?_eq_some_iff.1 hf).1;(have hk0:(0:Int)≤n:=by omega);(have hk1:(n:Int)<m.length:=by omega);obtain ⟨b,o,f',rfl,hf',⟨hgp,hgp64⟩,⟨hgr,hgr64⟩,⟨Ar,cr,hgreg,hr⟩,⟨Ab,cb,hgblk,hb⟩⟩:=hm.at_ hlt;obtain rfl:f=f':=Option.some.inj (hf.symm.trans hf'.out);have hbl:=block_lt_of_cell hgp
  have hB2:=fun A B=>((Below.refl w.heap.size w).alloc (Nat.le_refl _) A).alloc (by simp) B;obtain ⟨w2,hw2⟩:∃ w2,w2=(w.alloc (.cells #[.slice (some ⟨b,o,none⟩) m.length cm] 24)).alloc (.cells #[.int .i64 f.params,.int .i64 f.result,.slice Ar f.regs.length cr,.slice Ab f.blocks.length cb] 30):=⟨_,rfl⟩;(have hB2:Below w.heap.size w w2:=by rw [hw2];exact hB2 _ _);(have cM:w2.cell? ⟨w.heap.size,0,none⟩=some (.slice (some ⟨b,o,none⟩) m.length cm):=by rw [hw2];simp);(have cF0:w2.cell? ⟨w.heap.size+1,0,none⟩=some (.int .i64 f.params):=by rw [hw2];simp);(have cF1:w2.cell? ⟨w.heap.size+1,1,none⟩=some (.int .i64 f.result):=by rw [hw2];simp);(have cF2:w2.cell? ⟨w.heap.size+1,2,none⟩=some (.slice Ar f.regs.length cr):=by rw [hw2];simp);(have cF3:w2.cell? ⟨w.heap.size+1,3,none⟩=some (.slice Ab f.blocks.length cb):=by rw [hw2];simp);have hs2:w.heap.size+1<w2.heap.size:=by rw [hw2];simp
  have hk2:=q6 hB2;have hvf0:VFun w (.agg #[.int .i64 f.params,.int .i64 f.result,.slice Ar f.regs.length cr,.slice Ab f.blocks.length cb]) f:=⟨Ar,cr,Ab,cb,rfl,hr,hb,hgp64,hgr64⟩;have hvf:=VFun.keep hk2 hvf0;have HMV:=Lib.hid (VMod.keep hk2 hv0);(have hbl1:b<w.heap.size+1:=by have:=hbl;dsimp only at this;omega);dsimp only at hbl;have HSM:=Lib.hid hsm;have hnn:f.blocks.length≤70:=hsm.1;clear hsm hf' hf hv0 hvf0
  (go_enter Tryz.func40,Tryz.ntmps40);(go_wp2_with fail);rw [← hw2];clear hw2 hgp hgr hgreg hgblk;refine (outer_any f _ _ hvf (by omega) (nearS_of HSM.out)).mono ?_;rintro e w3 ⟨rfl,hb3⟩;have hB3:Below w.heap.size w w3:=hB2.trans (hb3.mono hB2.size)
  by_cases ho:qU f=0
  · (have ho':(qU f != 0)=false:=by simp [ho]);obtain ⟨hty,hres,hkind⟩:=outer_good ho;(have HFE:Hid (funE m f=qL (f.blocks.map (qS m f))):=Lib.hid (by unfold funE;rw [if_pos ho]));have HTY:=Lib.hid hty;have HKI:=Lib.hid hkind;clear ho hty hkind;go_wp2_with fail
    go_loopw [7] (fun i wr=>∃ k:Nat,k≤f.blocks.length∧i=.int .i64 k∧Hid (qL ((f.blocks.map (qS m f)).take k)=0)∧Below w2.heap.size w2 wr) (fun i _=>f.blocks.length - (intOf i).toNat)
    case atStart=>exact ⟨0,Nat.zero_le _,rfl,Lib.hid rfl,hb3⟩
    case round =>
      obtain ⟨k,hk,rfl,hi,hbel⟩:=hrel;obtain ⟨wo,rfl⟩:∃ wo,wo=wr:=⟨wr,rfl⟩;have hs:=hbel.size;have hkw:Kept w2 wo:=q6 hbel;have hB:Below w.heap.size w wo:=hB2.trans (hbel.mono hB2.size);have cF3o:=hkw _ _ cF3
      by_cases hlt:k<f.blocks.length
      · obtain ⟨b2,o2,kb,rfl,hkb,⟨Ap,cp,hphi,hphis⟩,⟨Ai,ci,hins,hinss⟩,⟨hkd,h64k⟩,⟨har,h64a⟩,⟨At,ct,hto,htos⟩⟩:=(SBlks.keep (hk2.trans hkw) hb).at_ hlt;have hpl:=hphis.len;have hil:=hinss.len;have htl:=htos.len;(have hbk0:(0:Int)≤k:=by omega);(have hbk1:(k:Int)<f.blocks.length:=by omega);have HBS:=Lib.hid (HSM.out.2 kb (List.mem_of_getElem? hkb.out));have HSN:Hid (qL ((f.blocks.map (qS m f)).take (k+1))=qS m f kb):=Lib.hid (firstE_snoc (map_at _ hkb.out) hi.out);have HSP:Hid (qS m f kb≠0→funE m f=qS m f kb):=Lib.hid (fun h=>HFE.out.trans (firstE_stop (map_at _ hkb.out) hi.out h))
        have HKB:=Lib.hid (HKI.out kb (List.mem_of_getElem? hkb.out));(go_wp2_with fail);clear hphi hins hkd har hto;obtain ⟨w4,hw4,hs4,hk4,hbel4,hc4,-⟩:=named wo #[.slice Ap kb.phis.length cp,.slice Ai kb.ins.length ci,.int .i64 kb.term.kind,.int .i64 kb.term.arg,.slice At kb.term.to.length ct] 51;have cB0:=hc4 0 _ rfl;have cB1:=hc4 1 _ rfl;have cB2:=hc4 2 _ rfl;have cB3:=hc4 3 _ rfl;have cB4:=hc4 4 _ rfl
        have hb4:Below w2.heap.size w2 w4:=hbel.trans (hbel4.mono (by omega));have hphis4:=SPhis.keep hk4 hphis;have hinss4:=SInss.keep hk4 hinss;have htos4:=SInts.keep hk4 htos;(have hs4:wo.heap.size<w4.heap.size:=by omega);rw [← hw4];clear hw4 hc4 hphis hinss htos
        go_loopw [9] (fun i wr=>∃ j:Nat,j≤kb.phis.length∧i=.int .i64 j∧Hid (qL ((kb.phis.map (phiE f)).take j)=0)∧Below w4.heap.size w4 wr) (fun i _=>kb.phis.length - (intOf i).toNat)
        case atStart=>exact ⟨0,Nat.zero_le _,rfl,Lib.hid rfl,Below.refl _ _⟩
        case round =>
          obtain ⟨j,hj,rfl,hi2,hbel'⟩:=hrel;obtain ⟨wp,rfl⟩:∃ wp,wp=wr:=⟨wr,rfl⟩;have hsp:=hbel'.size;have hkp:Kept w4 wp:=q6 hbel';have hbp:Below w2.heap.size w2 wp:=hb4.trans (hbel'.mono hb4.size);have hBp:Below w.heap.size w wp:=hB2.trans (hbp.mono hB2.size);have cF0p:=q6 hbp _ _ cF0;have cF1p:=q6 hbp _ _ cF1;have cF2p:=q6 hbp _ _ cF2
          have cF3p:=q6 hbp _ _ cF3;have hsw:w.heap.size+1<wp.heap.size:=Nat.lt_of_lt_of_le hs2 hbp.size;have cB0p:=hkp _ _ cB0;have cB1p:=hkp _ _ cB1
          by_cases hjt:j<kb.phis.length
          · obtain ⟨b3',o3',p,rfl,hp,⟨hpd,hpd64⟩,Aa,ca,hag,hags⟩:=(SPhis.keep hkp hphis4).at_ hjt;have hal:=hags.len;(have hj0:(0:Int)≤j:=by omega);(have hj1:(j:Int)<kb.phis.length:=by omega);have HPS:Hid (qL ((kb.phis.map (phiE f)).take (j+1))=phiE f p):=Lib.hid (firstE_snoc (map_at _ hp.out) hi2.out)
            have HPB:Hid (phiE f p≠0→funE m f=phiE f p):=Lib.hid (fun h=>by
              have h1:=firstE_stop (map_at _ hp.out) hi2.out h;have h2:qS m f kb=phiE f p:=by unfold qS;rw [h1,if_neg h]
              rw [HSP.out (by rw [h2];exact h),h2])
            (go_wp2_with fail);clear hpd hag;obtain ⟨w5,hw5,hs5,hk5,hbel5,hc5,-⟩:=named wp #[.int .i64 p.dst,.slice Aa p.args.length ca] 55;have cP0:=hc5 0 _ rfl;have cP1:=hc5 1 _ rfl;(have hb5:Below w2.heap.size w2 w5:=hbp.trans (hbel5.mono (by have:=hbp.size;omega)));have hb45:Below w4.heap.size w4 w5:=hbel'.trans (hbel5.mono hsp);have hags5:=SInts.keep hk5 hags;have hs5:wp.heap.size<w5.heap.size:=by omega
            rw [← hw5];clear hw5 hc5 hags;have hvf5:=VFun.keep (q6 hb5) hvf;(refine (is_reg f _ p.dst (-1) _ hvf5 (by unfold I64;omega)).mono ?_);rintro e w6 ⟨rfl,hb6⟩;have H0:=Lib.hid (phi1_zero f p);go_wp2_with fail
            go_loopw [6,11] (fun bd i wr=>∃ a:Nat,a≤p.args.length∧i=.int .i64 a∧bd=.int .i64 (phi1 f p a)∧Below w5.heap.size w5 wr) (fun _ i _=>p.args.length - (intOf i).toNat)
            case atStart=>exact ⟨0,Nat.zero_le _,rfl,by rw [H0.out],hb6⟩
            case round =>
              obtain ⟨a,ha,rfl,rfl,hbel6⟩:=hrel;have hs:=hbel6.size;have hkw:=q6 hbel6;have cF0q:=hkw _ _ (q6 hb5 _ _ cF0);have cF1q:=hkw _ _ (q6 hb5 _ _ cF1);have cF2q:=hkw _ _ (q6 hb5 _ _ cF2);have cF3q:=hkw _ _ (q6 hb5 _ _ cF3);have cP0q:=hkw _ _ cP0;have cP1q:=hkw _ _ cP1
              by_cases hat:a<p.args.length
              · obtain ⟨b3,o3,z,rfl,hz,hzc,-⟩:=(SInts.keep hkw hags5).int hat;(have ha0:(0:Int)≤a:=by omega);(have ha1:(a:Int)<p.args.length:=by omega);have HF:=Lib.hid (phi1_step (f:=f) hz.out);generalize phi1 f p a=bad at *;(go_wp2_with fail);refine qI (L:=9) (S:=fun w'=>w'.cell? ⟨w.heap.size+1,0,none⟩=some (.int .i64 f.params)∧w'.cell? ⟨w.heap.size+1,1,none⟩=some (.int .i64 f.result)∧w'.cell? ⟨w.heap.size+1,2,none⟩=some (.slice Ar f.regs.length cr)∧w'.cell? ⟨w.heap.size+1,3,none⟩=some (.slice (some ⟨b2,o2,none⟩) f.blocks.length cb)∧w'.cell? ⟨wp.heap.size,1,none⟩=some (.slice (some ⟨b3,o3,none⟩) p.args.length ca)∧w'.cell? ⟨b3,o3+a,none⟩=some (.int .i64 z)) (by kernel_rfl) (by rfl) (by kernel_rfl) (by kernel_rfl) ?_;change wpAnyH _ _ _ _ _ _ _ _ (World.drew _);have hS:∀ w',Below wr.heap.size wr w'→w'.cell? ⟨w.heap.size+1,0,none⟩=some (.int .i64 f.params)∧w'.cell? ⟨w.heap.size+1,1,none⟩=some (.int .i64 f.result)∧w'.cell? ⟨w.heap.size+1,2,none⟩=some (.slice Ar f.regs.length cr)∧w'.cell? ⟨w.heap.size+1,3,none⟩=some (.slice (some ⟨b2,o2,none⟩) f.blocks.length cb)∧w'.cell? ⟨wp.heap.size,1,none⟩=some (.slice (some ⟨b3,o3,none⟩) p.args.length ca)∧w'.cell? ⟨b3,o3+a,none⟩=some (.int .i64 z) :=
                  fun w' h=>⟨q6 h _ _ cF0q,q6 h _ _ cF1q,q6 h _ _ cF2q,q6 h _ _ cF3q,q6 h _ _ cP1q,q6 h _ _ hzc⟩
                have hbdr:Below wr.heap.size wr wr.drew:=(Below.refl _ _).drew;have hS0:=hS wr.drew hbdr;(have HREG:=Lib.hid (is_reg f _ z (-1) wr.drew (VFun.keep (hkw.trans (q6 hbdr)) hvf5) (by unfold I64;omega)));clear cF0q cF1q cF2q cF3q cP1q hzc;refine tk 0 59 hS0 ?_;simp only [Act.put,aS,List.set_cons_zero,List.set_cons_succ];refine tk 1 60 hS0 ?_;simp only [Act.put,aS,List.set_cons_zero,List.set_cons_succ];refine tk 2 61 hS0 ?_
                simp only [Act.put,aS,List.set_cons_zero,List.set_cons_succ];refine tk 3 62 hS0 ?_;simp only [Act.put,aS,List.set_cons_zero,List.set_cons_succ];refine tk 4 63 hS0 ?_;simp only [Act.put,aS,List.set_cons_zero,List.set_cons_succ];refine tk 5 64 hS0 ?_;simp only [Act.put,aS,List.set_cons_zero,List.set_cons_succ];refine tk 6 65 hS0 ?_;simp only [Act.put,aS,List.set_cons_zero,List.set_cons_succ]
                refine oneH (i:=7) (by kernel_rfl) (fun o ho K hK=>?_);(simp only [List.getElem?_toArray,List.getElem?_cons_zero,List.getElem?_cons_succ,Option.some.injEq] at ho;subst ho);(go_simp);refine HREG.out.mono ?_;rintro e w7 ⟨rfl,hb7⟩;have hb6':Below wr.heap.size wr w7:=hbdr.trans hb7;have hS6:=hS w7 hb6';(go_wp2_with fail);refine hK.out _ _ hS6 ?_
                clear hK K;refine oneH (i:=8) (by kernel_rfl) (fun o ho K hK=>?_);(simp only [List.getElem?_toArray,List.getElem?_cons_zero,List.getElem?_cons_succ,Option.some.injEq] at ho;subst ho);(go_simp);refine (qR bad (isE f.regs z (-1)) _).mono ?_;rintro e w7 ⟨rfl,rfl⟩;(go_wp2_with fail);refine hK.out _ _ hS6 ?_;clear hK K
                refine wpAnyH_done (by kernel_rfl) ?_ _;refine lastH (by decide) (fun o ho K hK=>?_);(simp only [List.getElem?_toArray,List.getElem?_cons_zero,List.getElem?_cons_succ,Option.some.injEq] at ho;subst ho);(go_simp);refine hK.out _ _ ?_;clear hK K;go_wp2_with fail
                go_roundw
                case rel=>exact ⟨a+1,by omega,by go_num,by rw [HF.out],hbel6.trans (hb6'.mono hs)⟩
                case measure=>simp [intOf];omega
              · (have hle:p.args.length≤a:=by omega);have HF1:=Lib.hid (fun h=>phiE_four (f:=f) hle h);have HF2:=Lib.hid (fun h=>phi1_in (f:=f) hle h);generalize phi1 f p a=bad at *;clear hle cF0q cF1q cF2q cF3q cP0q;obtain ⟨wq,rfl⟩:∃ wq,wq=wr:=⟨wr,rfl⟩;(go_wp2_with fail);clear cP1q
                go_loopw [6,12] (fun bd i wr=>∃ (a:Nat) (c:Int),a≤p.args.length∧i=.int .i64 a∧bd=.int .i64 c∧Phi2 f p a c∧Below w5.heap.size w5 wr) (fun _ i _=>p.args.length - (intOf i).toNat)
                case atStart=>exact ⟨0,bad,Nat.zero_le _,rfl,rfl,phi2_start HF1.out HF2.out,hbel6⟩
                case round =>
                  obtain ⟨a',c,ha',rfl,rfl,hph,hbel7⟩:=hrel;clear HF1 HF2;obtain ⟨w7,rfl⟩:∃ w7,w7=wr:=⟨wr,rfl⟩;have hs7:=hbel7.size;have hkw7:=q6 hbel7;have cF0r:=hkw7 _ _ (q6 hb5 _ _ cF0);have cF1r:=hkw7 _ _ (q6 hb5 _ _ cF1);have cF2r:=hkw7 _ _ (q6 hb5 _ _ cF2);have cF3r:=hkw7 _ _ (q6 hb5 _ _ cF3)
                  have cP0r:=hkw7 _ _ cP0;have cP1r:=hkw7 _ _ cP1;have hb7:Below w2.heap.size w2 w7:=hb5.trans (hbel7.mono hb5.size);have HPH:=Lib.hid hph;clear hph
                  by_cases hc:c=0
                  · subst hc
                    by_cases hat:a'<p.args.length
                    · obtain ⟨hin1,hin2⟩:=phi2_dst HPH.out;obtain ⟨d,hd⟩:∃ d:Nat,p.dst=d:=⟨p.dst.toNat,by omega⟩;(have hdl:d<f.regs.length:=by omega);obtain ⟨b3,o3,z,rfl,hz,hzc,-⟩:=(SInts.keep hkw7 hags5).int hat;obtain ⟨b8,o8,x,rfl,hx,hxc,hx64⟩:=(SInts.keep (hk2.trans ((q6 hb5).trans hkw7)) hr).int hdl;(have ha0:(0:Int)≤a':=by omega);(have ha1:(a':Int)<p.args.length:=by omega);(have hd0:(0:Int)≤d:=by omega);have hd1:(d:Int)<f.regs.length:=by omega
                      (have hx0:0≤x:=by have:=HTY.out x (List.mem_of_getElem? hx.out);omega);have HNX:=Lib.hid (phi2_next hz.out HPH.out (reg_of hd hx.out) hx0);rw [hd] at cP0r;have hbd7:Below w5.heap.size w5 w7.drew:=hbel7.drew;have hvd:VFun w7.drew (.agg #[.int .i64 f.params,.int .i64 f.result,.slice (some ⟨b8,o8,none⟩) f.regs.length cr,.slice (some ⟨b2,o2,none⟩) f.blocks.length cb]) f:=VFun.keep (w':=w7) hkw7 hvf5;clear hd hin1 hin2 hx0 hat hdl;(go_wp2_with fail);(go_still_tail 12,(by kernel_rfl));change wpList _ _ _ _ _ w7.drew
                      generalize w7.drew=w8 at *;(go_wp2_with fail);refine (is_reg f _ z x _ hvd hx64).mono ?_;rintro e w9 ⟨rfl,hb9⟩;go_wp2_with fail
                      go_roundw
                      case rel=>exact ⟨a'+1,_,by omega,by go_num,rfl,HNX.out,hbd7.trans (hb9.mono hbd7.size)⟩
                      case measure=>simp [intOf];omega
                    · (have ha1:decide ((a':Int)<p.args.length)=false:=by simp;omega);have HE0:=Lib.hid (phi2_done HPH.out (Nat.le_of_not_lt hat));go_wp2_with fail
                      go_roundw
                      case rel=>exact ⟨j+1,by omega,by go_num,Lib.hid (HPS.out.trans HE0.out),hb45.trans (hbel7.mono hb45.size)⟩
                      case measure=>simp [intOf];omega
                  · (have hcb:(c == 0)=false:=by simp [hc]);(have hcn:(c != 0)=true:=by simp [hc]);have HEC:=Lib.hid (HPH.out.2 hc);(have HFC:Hid (funE m f=c):=Lib.hid ((HPB.out (by rw [HEC.out];exact hc)).trans HEC.out));clear hc
                    by_cases hat:a'<p.args.length
                    · (have ha1:decide ((a':Int)<p.args.length)=true:=by simp;omega);(go_wp2_with fail);(go_ret);exact ⟨by rw [HFC.out];rfl,hB2.trans (hb7.mono hB2.size)⟩
                    · (have ha1:decide ((a':Int)<p.args.length)=false:=by simp;omega);(go_wp2_with fail);(go_ret);exact ⟨by rw [HFC.out];rfl,hB2.trans (hb7.mono hB2.size)⟩
          · (have hd1:qL (kb.phis.map (phiE f))=0:=by have:=hi2.out;rwa [List.take_of_length_le (by rw [List.length_map];omega)] at this);have HP0:=Lib.hid hd1;clear hd1;go_wp2_with fail
            go_loopw [13] (fun i wr=>∃ l:Nat,l≤kb.ins.length∧i=.int .i64 l∧Hid (qL ((kb.ins.map (insE m f)).take l)=0)∧Below wp.heap.size wp wr) (fun i _=>kb.ins.length - (intOf i).toNat)
            case atStart=>exact ⟨0,Nat.zero_le _,rfl,Lib.hid rfl,Below.refl _ _⟩
            case round =>
              obtain ⟨l,hl,rfl,hi3,hbel8⟩:=hrel;obtain ⟨wi,rfl⟩:∃ wi,wi=wr:=⟨wr,rfl⟩;have hsi:=hbel8.size;have hki:=q6 hbel8;have hbi:Below w2.heap.size w2 wi:=hbp.trans (hbel8.mono hbp.size);have hki2:=q6 hbi;have cMi:=hki2 _ _ cM;have cF0i:=hki2 _ _ cF0;have cF1i:=hki2 _ _ cF1
              have cF2i:=hki2 _ _ cF2;have cF3i:=hki2 _ _ cF3;have cB1i:=hki _ _ cB1p;have cB2i:=hki _ _ (hkp _ _ cB2);have cB3i:=hki _ _ (hkp _ _ cB3);have cB4i:=hki _ _ (hkp _ _ cB4);have hvfi:=VFun.keep hki2 hvf;have HMi:=Lib.hid (VMod.keep hki2 HMV.out)
              by_cases hlt3:l<kb.ins.length
              · obtain ⟨b6,o6,x,rfl,hx,⟨hx1,hx1'⟩,⟨hx2,hx2'⟩,⟨Aa,ca,hx3,hx3'⟩,⟨hx4,hx4'⟩,⟨hx5,hx5'⟩⟩:=(SInss.keep (hkp.trans hki) hinss4).at_ hlt3;(have hl0:(0:Int)≤l:=by omega);(have hl1:(l:Int)<kb.ins.length:=by omega);(have hal:x.args.length≤100000:=by have:=HBS.out.2.2 x (List.mem_of_getElem? hx.out);omega);have HIS:Hid (qL ((kb.ins.map (insE m f)).take (l+1))=insE m f x):=Lib.hid (firstE_snoc (map_at _ hx.out) hi3.out)
                have HIB:Hid (insE m f x≠0→funE m f=insE m f x):=Lib.hid (fun h=>by
                  have h1:=firstE_stop (map_at _ hx.out) hi3.out h;have h2:qS m f kb=insE m f x:=by unfold qS;rw [if_pos HP0.out,h1,if_neg h]
                  rw [HSP.out (by rw [h2];exact h),h2])
                have hbd8:Below w2.heap.size w2 wi.drew:=hbi.drew;have hbdp:Below wp.heap.size wp wi.drew:=hbel8.drew;have HVI:Hid (VIns wi.drew (.agg #[.int .i64 x.op,.int .i64 x.dst,.slice Aa x.args.length ca,.int .i64 x.imm,.int .i64 x.fn]) x):=Lib.hid ⟨Aa,ca,rfl,hx3',hx1',hx2',hx4',hx5'⟩;have HVF:Hid (VFun wi.drew (.agg #[.int .i64 f.params,.int .i64 f.result,.slice Ar f.regs.length cr,.slice (some ⟨b2,o2,none⟩) f.blocks.length cb]) f):=Lib.hid hvfi;have HVM:Hid (VMod wi.drew (.agg #[.slice (some ⟨b,o,none⟩) m.length cm]) m):=HMi;clear hvfi HMi hlt3 hx3' hal;(have hal:x.args.length≤100000:=by have:=HBS.out.2.2 x (List.mem_of_getElem? hx.out);omega);have HAL:=Lib.hid hal;clear hal
                (go_wp2_with fail);(go_still_tail 7,(by kernel_rfl));change wpList _ _ _ _ _ wi.drew;generalize wi.drew=w8 at *;(go_wp2_with fail);refine (instr_ref m f x _ _ _ _ HVM.out HVF.out HVI.out HTY.out HAL.out).mono ?_;rintro e w9 ⟨rfl,hb9⟩;rw [insR_eq HTY.out];generalize insE m f x=bad at *
                by_cases h0:bad=0
                · subst h0;go_wp2_with fail
                  go_roundw
                  case rel=>exact ⟨l+1,by omega,by go_num,HIS,hbdp.trans (hb9.mono hbdp.size)⟩
                  case measure=>simp [intOf];omega
                · (have h0':(bad != 0)=true:=by simp [h0]);have HFC:=Lib.hid (HIB.out h0);clear h0;(go_wp2_with fail);(go_ret);exact ⟨by rw [HFC.out];rfl,(hB2.trans (hbd8.mono hB2.size)).trans (hb9.mono (hB2.trans (hbd8.mono hB2.size)).size)⟩
              · (have hd3:qL (kb.ins.map (insE m f))=0:=by have:=hi3.out;rwa [List.take_of_length_le (by rw [List.length_map];omega)] at this);(have HBE:Hid (qS m f kb=termE f kb.term):=Lib.hid (by unfold qS;rw [if_pos HP0.out,if_pos hd3]));have hto9:=SInts.keep (hkp.trans hki) htos4;(have hl1:decide ((l:Int)<kb.ins.length)=false:=by simp;omega);clear hd3;(go_wp2_with fail);refine (end_ref f kb.term _ _ _ hvfi ⟨At,ct,rfl,hto9,h64k,h64a⟩ HKB.out hres).mono ?_;rintro e w9 ⟨rfl,hb9⟩;rw [HBE.out] at HSN HSP
                generalize termE f kb.term=bad at *
                by_cases h0:bad=0
                · subst h0;go_wp2_with fail
                  go_roundw
                  case rel=>exact ⟨k+1,by omega,by go_num,HSN,hbi.trans (hb9.mono hbi.size)⟩
                  case measure=>simp [intOf];omega
                · (have h0':(bad != 0)=true:=by simp [h0]);have HFC:=Lib.hid (HSP.out h0);clear h0;(go_wp2_with fail);(go_ret);exact ⟨by rw [HFC.out];rfl,(hB2.trans (hbi.mono hB2.size)).trans (hb9.mono (hB2.trans (hbi.mono hB2.size)).size)⟩
      · (have HD:Hid (funE m f=0):=Lib.hid (by rw [HFE.out];have:=hi.out;rwa [List.take_of_length_le (by rw [List.length_map];omega)] at this));(go_wp2_with fail);(go_ret);exact ⟨by rw [HD.out];rfl,hB⟩
  · (have ho':(qU f != 0)=true:=by rw [bne_iff_ne];exact ho);(have HFE:Hid (funE m f=qU f):=Lib.hid (by unfold funE;rw [if_neg ho]));clear ho;(go_wp2_with fail);(go_ret);exact ⟨by rw [HFE.out];rfl,hB3⟩
set_option maxRecDepth 100000 in
set_option maxHeartbeats 4000000 in
theorem module_ref (m:List FunD) (v:Value) (w:World) (hv:VMod w v m) (hsm:∀ f∈m,SmallG f) :
    Calls Tryz.prog 15 #[v] w fun e w'=>e=.returned (.tuple #[.int .i64 (modE m).1,.int .i64 (modE m).2])∧Below w.heap.size w w':=by
  have hm0:=hv;obtain ⟨Am,cm,rfl,hms⟩:=hv;have hml:=hms.len
  by_cases h32:32<m.length
  · have HE:Hid (modE m=(5,-1)):=Lib.hid (if_pos h32);(go_enter Tryz.func15,Tryz.ntmps15);(go_wp2_with fail);(go_ret2);exact ⟨by rw [HE.out];rfl,(Below.refl _ _).alloc (Nat.le_refl _) _⟩
  · have HM:Hid (modE m=modK m m 0):=Lib.hid (if_neg h32);have HSM:=Lib.hid hsm;clear hsm;(go_enter Tryz.func15,Tryz.ntmps15);(go_wp2_with fail);obtain ⟨w1,hw1,hs1,hk1,hB1,hc1,-⟩:=named w #[.slice Am m.length cm] 24;rw [← hw1];have q0:w1.cell? ⟨w.heap.size,0,none⟩=some (.slice Am m.length cm):=hc1 0 _ rfl;have hs1:w.heap.size<w1.heap.size:=by omega
    clear hw1 hc1
    go_loopw [4] (fun i wr=>∃ k:Nat,k≤m.length∧i=.int .i64 k∧Below w1.heap.size w1 wr∧Hid ((modK m (m.take k) 0).1=0)) (fun i _=>m.length - (intOf i).toNat)
    case atStart=>exact ⟨0,Nat.zero_le _,rfl,Below.refl _ _,Lib.hid rfl⟩
    case round =>
      obtain ⟨k,hk,rfl,hbel,hi⟩:=hrel;have hkw:Kept w1 wr:=q6 hbel;have hB:Below w.heap.size w wr:=hB1.trans (hbel.mono hB1.size);have hso:=hbel.size;have a0:=hkw _ _ q0;have n0:w.heap.size<wr.heap.size:=by omega
      by_cases hlt:k<m.length
      · have hx:=List.getElem?_eq_getElem hlt;generalize m[k]=f at hx;have HX:=Lib.hid hx;have HF:=Lib.hid (HSM.out f (List.mem_of_getElem? hx));have hvm:=VMod.keep (hk1.trans hkw) hm0;clear hx;(go_wp2_with fail);refine (func_ref m k f _ _ hvm HX.out HF.out).mono ?_;rintro e w7 ⟨rfl,hb7⟩
        have hb7':Below w1.heap.size w1 w7:=hbel.trans (hb7.mono hbel.size);have hB7:Below w.heap.size w w7:=hB.trans (hb7.mono hB.size);have HST:=Lib.hid (modK_step HX.out hi.out);have HSP:=Lib.hid (fun h=>HM.out.trans (modK_stop HX.out hi.out h));generalize funE m f=bad at *
        by_cases hc:bad=0
        · subst hc;go_wp2_with fail
          go_roundw
          case rel=>exact ⟨k+1,by omega,by go_num,hb7',Lib.hid (by rw [HST.out];simp)⟩
          case measure=>simp [intOf];omega
        · (have hcb:(bad != 0)=true:=by simp [hc]);have HC:=Lib.hid (HSP.out hc);clear hc;(go_wp2_with fail);(go_ret2);exact ⟨by rw [HC.out];rfl,hB7⟩
      · have HE:Hid (modE m=(0,-1)):=Lib.hid (by
          have:=hi.out;rw [List.take_of_length_le (Nat.le_of_not_lt hlt)] at this
          rw [HM.out];exact modK_ok this)
        (go_wp2_with fail);(go_ret2);exact ⟨by rw [HE.out];rfl,hB⟩
set_option linter.unusedSimpArgs false
set_option maxRecDepth 100000 in
set_option maxHeartbeats 16000000 in
theorem properForms_walk (OI:OfIns) (m:List FunD) (a:Int) (v:Value) (w:World) (hv:VMod w v m) (hG:OfNone w) (hE:HoldsE w) :
    Calls Tryz.prog 4 #[v,.int .i64 a] w fun e w'=>e=.returned (.bool true)∧Below w.heap.size w w':=by
  have hv0:=hv;obtain ⟨Am,cm,rfl,hms⟩:=hv;have hml:=hms.len;have HV:=Lib.hid hv0;have HMS:=Lib.hid hms;have HOI:=Lib.hid OI;have HG:=Lib.hid hG;have HE:=Lib.hid hE;clear hv0 hms OI hG hE
  (go_enter Tryz.func4,Tryz.ntmps4);(go_upto_region 1 with fail);obtain ⟨w1,hw1,hs1,hk1,hbel1,hc1,-⟩:=named w #[.slice Am m.length cm] 24;rw [← hw1];have HU:=Lib.hid (up13_any HOI.out w1 (HG.out.keep hk1));have c0:=hc1 0 _ rfl;have HB1:=Lib.hid hbel1;obtain ⟨N,hN⟩:∃ N,N=w.heap.size:=⟨_,rfl⟩;rw [← hN] at c0 ⊢
  clear hw1 hs1 hbel1 hc1 hk1 hN;(go_wp2_with fail);refine HU.out.mono ?_;rintro e w2 ⟨rfl,hb2⟩;have c0:=q6 hb2 _ _ c0;have HB2:Hid (Below w.heap.size w w2):=Lib.hid (HB1.out.trans (hb2.mono HB1.out.size));clear hb2 HU;(go_wp2_with fail);refine (small_any m _ w2 (VMod.keep (q6 HB2.out) HV.out)).mono ?_
  rintro e w3 ⟨⟨bs,rfl,hsm⟩,hb3⟩;have c0:=q6 hb3 _ _ c0;have HB3:Hid (Below w.heap.size w w3):=Lib.hid (HB2.out.trans (hb3.mono HB2.out.size));clear hb3;cases bs
  · clear hsm;(go_wp2_with fail);(go_ret);exact ⟨rfl,HB3.out⟩
  have HSM:=Lib.hid (hsm rfl);have HF1:=Lib.hid (form_any HOI.out m a _ w3 (VMod.keep (q6 HB3.out) HV.out) HSM.out (HG.out.keep (q6 HB3.out)));clear hsm;(go_wp2_with fail);refine HF1.out.mono ?_;rintro e w4 ⟨⟨v1,rfl,he1⟩,hb4⟩;have HE1:=Lib.hid he1;have c0:=q6 hb4 _ _ c0;have HB4:Hid (Below w.heap.size w w4):=Lib.hid (HB3.out.trans (hb4.mono HB3.out.size))
  have HO1:=Lib.hid (of_all v1 _ w4 HE1.out (formAt_in m a) (HE.out.keep (q6 HB4.out)));clear he1 hb4 HF1;obtain ⟨p1,hp1⟩:∃ p1,p1=(qe m a).1:=⟨_,rfl⟩;obtain ⟨p2,hp2⟩:∃ p2,p2=(qe m a).2:=⟨_,rfl⟩;rw [← hp1,← hp2] at HO1;have HP:=Lib.hid (And.intro hp1 hp2);clear hp1 hp2;(go_wp2_with fail);refine HO1.out.mono ?_
  rintro e w5 ⟨rfl,hb5⟩;have c0:=q6 hb5 _ _ c0;have HB5:Hid (Below w.heap.size w w5):=Lib.hid (HB4.out.trans (hb5.mono HB4.out.size));have HMR:=Lib.hid (module_ref m _ w5 (VMod.keep (q6 HB5.out) HV.out) (fun f hf=>SmallG.of (HSM.out.2 f hf)));clear hb5 HO1;obtain ⟨q1,hq1⟩:∃ q1,q1=(modE m).1:=⟨_,rfl⟩;obtain ⟨q2,hq2⟩:∃ q2,q2=(modE m).2:=⟨_,rfl⟩;rw [← hq1,← hq2] at HMR;have HQ:=Lib.hid (And.intro hq1 hq2)
  clear hq1 hq2;(go_wp2_with fail);refine HMR.out.mono ?_;rintro e w6 ⟨rfl,hb6⟩;have c0:=q6 hb6 _ _ c0;have HB6:Hid (Below w.heap.size w w6):=Lib.hid (HB5.out.trans (hb6.mono HB5.out.size));clear hb6 HMR
  by_cases hp:q1=0
  · subst hp;have HPR:Hid ((modE m).1=0):=Lib.hid HQ.out.1.symm;have HFA:Hid (qe m a=if 0≤a∧a<m.length then formE (m.getD a.toNat default) else (1,-1)):=Lib.hid (by unfold qe;rw [if_neg (by simp [HPR.out])])
    by_cases ha:0≤a∧a<m.length
    · obtain ⟨n,rfl⟩:=Int.eq_ofNat_of_zero_le ha.1;(have hnl:n<m.length:=by omega);obtain ⟨bb,oo,f,rfl,hx,⟨h0,z0⟩,⟨h1,z1⟩,⟨Ar,cr,h2,z2⟩,Ab,cb,h3,z3⟩:=(SFuns.keep (q6 HB6.out) HMS.out).at_ hnl;have HX:=Lib.hid hx.out;(have HFA2:Hid (qe m ((n:Nat):Int)=formE f):=Lib.hid (by rw [HFA.out,if_pos ha,Int.toNat_natCast,List.getD_eq_getElem?_getD,hx.out];rfl));have hfm:=List.mem_of_getElem? hx.out;have HFO:=Lib.hid ((proper_ok HPR.out).2 f hfm);have hf0:funE m f=0:=(proper_iff.1 HPR.out).2 f hfm;obtain ⟨-,hbk⟩:=funE_zero.1 hf0
      have HIN:Hid (∀ b∈f.blocks,(∀ x∈b.ins,∀ a∈x.args,InR f.regs.length a)∧(b.term.arg=-1∨InR f.regs.length b.term.arg)):=Lib.hid (fun b hb=>⟨fun x hx=>(ins_dst ((blockE_zero.1 (hbk b hb)).2.1 x hx)).1,term_arg (blockE_zero.1 (hbk b hb)).2.2⟩);have HER:Hid (formE f=formR f):=Lib.hid (formE_R HFO.out.par.1 (fun e he=>(nmL_ok HFO.out HIN.out e he).2.1));have HRF:=Lib.hid (refForm13_any f (.agg #[.int .i64 f.params,.int .i64 f.result,.slice Ar f.regs.length cr,.slice Ab f.blocks.length cb]) w6 ⟨Ar,cr,Ab,cb,rfl,z2,z3,z0,z1⟩ (HSM.out.2 f hfm) (fun b k hb p hp=>(HFO.out.phis b k hb p hp).1));have HPP:Hid (p1=(formR f).1∧p2=(formR f).2):=Lib.hid ⟨by rw [HP.out.1,HFA2.out,HER.out],by rw [HP.out.2,HFA2.out,HER.out]⟩;have hd1:decide ((n:Int)<0)=false:=decide_eq_false (by omega);have hd2:decide ((m.length:Int)≤n)=false:=decide_eq_false (by omega);(have hn0:(0:Int)≤n:=by omega);(have hn1:(n:Int)<m.length:=by omega);clear hx z0 z1 z2 z3 hfm hf0 hbk ha
      rw [← HPP.out.1,← HPP.out.2] at HRF;(go_wp2_with fail);refine HRF.out.mono ?_;rintro e w7 ⟨rfl,hb7⟩;have HB7:Hid (Below w.heap.size w w7):=Lib.hid (HB6.out.trans (hb7.mono HB6.out.size));clear hb7 HRF c0 h0 h1 h2 h3;(go_wp2_with fail);(go_ret);exact ⟨rfl,HB7.out⟩
    · have HFA2:Hid (qe m a=(1,-1)):=Lib.hid (HFA.out.trans (if_neg ha));have he:=HE1.out;rw [HFA2.out] at he;obtain rfl:v1=.iface 39 (.int .i64 1):=by
        rcases he with ⟨h,-⟩ | ⟨-,-,h⟩ | ⟨-,h,-⟩
        · exact absurd h (by decide)
        · exact h
        · exact absurd h (by decide)
      have hq:=eqlErr 1 1 w6;clear he HE1;rcases (show a<0∨(0≤a∧(m.length:Int)≤a) by omega) with h | ⟨h0,h1⟩
      · have hd:decide (a<0)=true:=decide_eq_true h;clear ha h;(go_wp2_with fail);(go_ret);exact ⟨rfl,HB6.out⟩
      · have hd:decide (a<0)=false:=decide_eq_false (by omega);have hd2:decide ((m.length:Int)≤a)=true:=decide_eq_true h1;clear ha h0 h1;(go_wp2_with fail);(go_ret);exact ⟨rfl,HB6.out⟩
  · (have HFA:Hid (qe m a=modE m):=Lib.hid (if_pos (by rw [← HQ.out.1];exact hp)));(obtain rfl:p1=q1:=by rw [HP.out.1,HFA.out,HQ.out.1]);(obtain rfl:p2=q2:=by rw [HP.out.2,HFA.out,HQ.out.2]);(have hb1:(p1 == 0)=false:=by simp [hp]);(have hb2:(p1 != 0)=true:=by simp [hp]);clear hp;(go_wp2_with fail);(go_ret);exact ⟨rfl,HB6.out⟩
section
variable {H:Type} {enc:TypeId × Value→H} {P:Program} {w:World} {base:Nat} {spare:Nat→Bool} {held:Bool}
theorem struct_field {t:TypeId} {fs:Array Field} {fuel:Nat} {cs:List Value} {y:DataW H × List MemPlace} (ht:P.underlying t=some (.struct fs)) (h:DataW.trod enc P w base spare held fuel t cs=some y)
    (i:Nat) (f:Field) (hf:fs[i]?=some f):∃ n z,DataW.trod enc P w base spare held n f.type ((cs.drop f.offset).take (P.cellsOf f.type))=some z:=by
  obtain ⟨xs,n,_,_,_,hlen,hx⟩:=DataW.trod_struct ht h;(have hi:i<xs.length:=by rw [hlen];exact (Array.getElem?_eq_some_iff.1 hf).1);exact ⟨n,xs[i],(hx i f hf).trans (List.getElem?_eq_getElem hi)⟩
theorem field_of {t:TypeId} {fs:Array Field} {fuel:Nat} {cs:List Value} {y:DataW H × List MemPlace} (ht:P.underlying t=some (.struct fs)) (h:DataW.trod enc P w base spare held fuel t cs=some y)
    (i:Nat) {f:Field} (hf:fs[i]?=some f) {t':TypeId} {c k:Nat} (hft:f.type=t') (hk:f.offset=k) (hc:P.cellsOf t'=c):∃ n z,DataW.trod enc P w base spare held n t' ((cs.drop k).take c)=some z:=by
  subst hft hk hc;exact struct_field ht h i f hf
theorem drop_take_one {cs:List Value} {k:Nat} (hk:k<cs.length):(cs.drop k).take 1=[cs[k]]:=by
  rw [List.drop_eq_getElem_cons hk];rfl
theorem int_field {t:TypeId} {n k:Nat} {cs:List Value} {z:DataW H × List MemPlace} (ht:P.underlying t=some (.int .i64)) (hk:k<cs.length) (h:DataW.trod enc P w base spare held n t ((cs.drop k).take 1)=some z) :
    ∃ x,cs[k]?=some (.int .i64 x)∧I64 x:=by
  rw [drop_take_one hk] at h;obtain ⟨x,hx,_,hw⟩:=DataW.trod_int ht h;exact ⟨x,by rw [List.getElem?_eq_getElem hk];exact congrArg some (List.cons.inj hx).1,wf_i64 hw⟩
theorem slice_field {α:Type} [Inhabited α] {t e:TypeId} {sz:Nat} {R:World→Nat→Nat→α→Prop} {n k:Nat} {cs:List Value} {z:DataW H × List MemPlace} (ht:P.underlying t=some (.slice e)) (hsz:P.cellsOf e=sz) (hpos:0<sz)
    (hR:Opens enc P w base spare held e sz R) (hk:k<cs.length) (h:DataW.trod enc P w base spare held n t ((cs.drop k).take 1)=some z):∃ A c xs,cs[k]?=some (.slice A xs.length c)∧SL w sz R A c xs:=by
  rw [drop_take_one hk] at h;obtain ⟨xs,A,c,e,hs⟩:=open_vs ht hsz hpos hR h;exact ⟨A,c,xs,by rw [List.getElem?_eq_getElem hk,e],hs⟩
end
theorem Tryz.cells3:Tryz.prog.cellsOf 3=1:=by kernel_rfl
theorem Tryz.cells2:Tryz.prog.cellsOf 2=1:=by kernel_rfl
theorem Tryz.cells27:Tryz.prog.cellsOf 27=1:=by kernel_rfl
section
variable {H:Type} {enc:TypeId × Value→H} {w:World} {base:Nat} {spare:Nat→Bool} {held:Bool}
theorem opens_int:Opens enc Tryz.prog w base spare held 3 1 RInt:=fun n b o cs y hlen hat h=>by
  obtain ⟨x,rfl,_,hw⟩:=DataW.trod_int Tryz.underlying3 h;exact ⟨x,(hat 0 (by omega)).trans rfl,wf_i64 hw⟩
theorem field_int {fs:Array Field} {t:TypeId} {fuel:Nat} {cs:List Value} {y:DataW H × List MemPlace} (ht:Tryz.prog.underlying t=some (.struct fs)) (h:DataW.trod enc Tryz.prog w base spare held fuel t cs=some y)
    (i:Nat) (f:Field) (hf:fs[i]?=some f) (hft:f.type=3) (hk:f.offset<cs.length):∃ x,cs[f.offset]?=some (.int .i64 x)∧I64 x:=by
  obtain ⟨n,z,hz⟩:=struct_field ht h i f hf;rw [hft,Tryz.cells3] at hz;exact int_field Tryz.underlying3 hk hz
theorem field_int64 {fs:Array Field} {t:TypeId} {fuel:Nat} {cs:List Value} {y:DataW H × List MemPlace} (ht:Tryz.prog.underlying t=some (.struct fs)) (h:DataW.trod enc Tryz.prog w base spare held fuel t cs=some y)
    (i:Nat) (f:Field) (hf:fs[i]?=some f) (hft:f.type=2) (hk:f.offset<cs.length):∃ x,cs[f.offset]?=some (.int .i64 x)∧I64 x:=by
  obtain ⟨n,z,hz⟩:=struct_field ht h i f hf;rw [hft,Tryz.cells2] at hz;exact int_field Tryz.underlying2 hk hz
theorem field_ints {fs:Array Field} {t:TypeId} {fuel:Nat} {cs:List Value} {y:DataW H × List MemPlace} (ht:Tryz.prog.underlying t=some (.struct fs)) (h:DataW.trod enc Tryz.prog w base spare held fuel t cs=some y)
    (i:Nat) (f:Field) (hf:fs[i]?=some f) (hft:f.type=27) (hk:f.offset<cs.length):∃ A c,∃ xs:List Int,cs[f.offset]?=some (.slice A xs.length c)∧SL w 1 RInt A c xs:=by
  obtain ⟨n,z,hz⟩:=struct_field ht h i f hf;rw [hft,Tryz.cells27] at hz;exact slice_field Tryz.underlying27 Tryz.cells3 (by omega) opens_int hk hz
end
end Go.Proofs.YtfoggldjjnabcaaGreatDoor

namespace Go.Proofs.YtfoggldjjnabcaaGreatDoor
open Go.ChangeShapes Go.WideShapes Go.RowKit Go.Deep
set_option linter.unusedVariables false
theorem Tryz.ofNoneAt:Tryz.prog.globalNamed "fettle/proper.ofNone"=some 1:=by kernel_rfl
theorem Tryz.ofNoneTy:(Tryz.prog.globals[1]?).map (·.type)=some 90:=by kernel_rfl
theorem Tryz.cells190:Tryz.prog.cellsOf 90=2:=by kernel_rfl
theorem Tryz.cells13:Tryz.prog.cellsOf 3=1:=by kernel_rfl
theorem ofNone_of_vars {W:World} {l:List (String × DataW Unit)} {ps:List MemPlace} (h:DataW.LaidVars Tryz.prog W (("fettle/proper.ofNone",.agg [.lit (.int .i64 (-1)),.lit (.int .i64 (-2))])::l) ps):OfNone W:=by
  obtain ⟨g,t,cs,fuel,p,q,h1,h2,h3,h4,-,-⟩:=h;obtain rfl:=Option.some.inj (Tryz.ofNoneAt.symm.trans h1);obtain rfl:=Option.some.inj (Tryz.ofNoneTy.symm.trans h2);obtain ⟨xs,n,-,hx,hlen,hsz,hf⟩:=DataW.trod_struct Tryz.underlying90 h4;rw [Tryz.cells190] at hlen;have hxs:xs.map (·.1)=[.lit (.int .i64 (-1)),.lit (.int .i64 (-2))]:=by
    have:=congrArg Prod.fst hx;injection this with this;exact this.symm
  have hat:∀ (i:Nat) (z:Int),i<2→(∀ y,xs[i]?=some y→y.1=(.lit (.int .i64 z):DataW Unit))→DataW.trod (fun _=>()) Tryz.prog W 0 (fun _=>true) false n 3 ((cs.toList.drop i).take (Tryz.prog.cellsOf 3))=xs[i]?→W.cell? ⟨1,i,none⟩=some (.int .i64 z):=by
    intro i z hi hy hfi';rw [Tryz.cells13] at hfi';(have hk:i<cs.toList.length:=by rw [hlen];exact hi);rw [drop_take_one hk] at hfi';have hil:i<xs.length:=by
      have:=congrArg List.length hxs;rw [List.length_map] at this;simp at this;omega
    rw [List.getElem?_eq_getElem hil] at hfi';obtain ⟨x,hx1,hx2,-⟩:=DataW.trod_int Tryz.underlying3 hfi';have:=hy _ (List.getElem?_eq_getElem hil);rw [hx2] at this;(have hxz:x=z:=by injection this with this;injection this);rw [World.var?_cell Tryz.ofNoneAt h3 i];(have:cs[i]?=cs.toList[i]?:=by simp);rw [this,List.getElem?_eq_getElem hk];rw [(List.cons.inj hx1).1,hxz]
  have hget:∀ (i:Nat) (z:Int),([.lit (.int .i64 (-1)),.lit (.int .i64 (-2))]:List (DataW Unit))[i]?=some (.lit (.int .i64 z))→∀ y,xs[i]?=some y→y.1=(.lit (.int .i64 z):DataW Unit):=fun i z hz y hy=>by
    rw [← hxs,List.getElem?_map,hy] at hz;exact Option.some.inj hz
  exact ⟨hat 0 (-1) (by omega) (hget 0 _ rfl) (hf 0 _ rfl),hat 1 (-2) (by omega) (hget 1 _ rfl) (hf 1 _ rfl)⟩
end Go.Proofs.YtfoggldjjnabcaaGreatDoor
