/- The reference's SameFunc. -/
import Derived.Test.YtfoggldjjnabcaaDoorSameJ
namespace Go.Proofs.YtfoggldjjnabcaaDoor
open Go.ChangeShapes Go.WideShapes Go.RowKit Go.Deep
set_option linter.unusedVariables false
set_option maxRecDepth 100000 in
set_option maxHeartbeats 8000000 in
theorem sameFunc_any (x y:FunD) (v u:Value) (w:World) (hv:VFun w v x) (hu:VFun w u y) :
    Calls Tryd.prog 20 #[v,u] w fun e w'=>e=.returned (.bool (same x y))∧Below w.heap.size w w':=by
  obtain ⟨Ar,cr,Ab,cb,rfl,hr,hb,-,-⟩:=hv;obtain ⟨Br,dr,Bb,db,rfl,kr,kb,-,-⟩:=hu;have hrl:=hr.len;have hbl:=hb.len;have krl:=kr.len;have kbl:=kb.len
  have hB:Below w.heap.size w ((w.alloc (.cells #[.int .i64 x.params,.int .i64 x.result,.slice Ar x.regs.length cr,.slice Ab x.blocks.length cb] 39)).alloc
      (.cells #[.int .i64 y.params,.int .i64 y.result,.slice Br y.regs.length dr,.slice Bb y.blocks.length db] 39)):=((Below.refl _ _).alloc (Nat.le_refl _) _).alloc (by simp) _
  have hK:=q7 hB
  by_cases e1:x.params=y.params
  · have e1':(x.params != y.params)=false:=by simp [e1]
    by_cases e2:x.result=y.result
    · (have e2':(x.result != y.result)=false:=by simp [e2]);have E:=Lib.hid (And.intro e1 e2);clear e1 e2;(go_enter Tryd.func20,Tryd.ntmps20);(go_wp2_with fail);obtain ⟨w1,hw1⟩:∃ w1,w1=(w.alloc (.cells #[.int .i64 x.params,.int .i64 x.result,.slice Ar x.regs.length cr,.slice Ab x.blocks.length cb] 39)).alloc
        (.cells #[.int .i64 y.params,.int .i64 y.result,.slice Br y.regs.length dr,.slice Bb y.blocks.length db] 39):=⟨_,rfl⟩
      (have gx3:w1.cell? ⟨w.heap.size,3,none⟩=some (.slice Ab x.blocks.length cb):=by rw [hw1];simp);(have gy3:w1.cell? ⟨w.heap.size+1,3,none⟩=some (.slice Bb y.blocks.length db):=by rw [hw1];simp);rw [← hw1] at hB hK ⊢;clear hw1;refine (ints_any x.regs y.regs _ _ _ ⟨Ar,cr,rfl,SInts.keep hK hr⟩ ⟨Br,dr,rfl,SInts.keep hK kr⟩).mono ?_;rintro e w' ⟨rfl,n0,rfl⟩;cases hrg:same x.regs y.regs
      · (have E2:Hid (same x y=false):=Lib.hid (qU (fun e=>by have:=qj (show x.regs=y.regs by rw [e]);rw [hrg] at this;cases this)));clear hrg;(go_wp2_with fail);(go_ret);exact ⟨by rw [E2.out];rfl,below_drewN hB _⟩
      · have HRG:=Lib.hid (same_iff.1 hrg);clear hrg
        by_cases e3:x.blocks.length=y.blocks.length
        · (have e3':((x.blocks.length:Int) != y.blocks.length)=false:=by simp [e3]);have E3:=Lib.hid e3;clear e3;(go_wp2_with fail);have hb0:Below w1.heap.size w1 (w1.drewN n0):=below_drewN (Below.refl _ _) _
          go_loopw [5] (fun i wr=>∃ k:Nat,k≤x.blocks.length∧i=.int .i64 k∧Below w1.heap.size w1 wr∧Hid (x.blocks.take k=y.blocks.take k)) (fun i _=>x.blocks.length - (intOf i).toNat)
          case atStart=>exact ⟨0,Nat.zero_le _,rfl,hb0,Lib.hid rfl⟩
          case round =>
            obtain ⟨k,hk,rfl,hbel,hi2⟩:=hrel;have hkr:Kept w1 wr:=q7 hbel;have hx3:=hkr _ _ gx3;have hy3:=hkr _ _ gy3;have hBr:Below w.heap.size w wr:=hB.trans (hbel.mono hB.size)
            by_cases hlt:k<x.blocks.length
            · (have hlt2:k<y.blocks.length:=by have:=E3.out;omega);obtain ⟨b1,o1,p,rfl,hp1,⟨A1,c1,h1,g1⟩,⟨A2,c2,h2,g2⟩,⟨h3,i3⟩,⟨h4,i4⟩,A5,c5,h5,g5⟩:=(SBlks.keep (hK.trans hkr) hb).at_ hlt;obtain ⟨b2,o2,q,rfl,hq1,⟨B1,d1,k1,j1⟩,⟨B2,d2,k2,j2⟩,⟨k3,l3⟩,⟨k4,l4⟩,B5,d5,k5,j5⟩:=(SBlks.keep (hK.trans hkr) kb).at_ hlt2;(have hk0:(0:Int)≤k:=by omega);(have hk1:(k:Int)<x.blocks.length:=by omega);(have hk2:(k:Int)<y.blocks.length:=by omega);(go_wp2_with fail);(go_still_tail 10,(by kernel_rfl));change wpList _ _ _ _ _ wr.drew
              have hvp:VBlk wr.drew (.agg #[.slice A1 p.phis.length c1,.slice A2 p.ins.length c2,.int .i64 p.term.kind,.int .i64 p.term.arg,.slice A5 p.term.to.length c5]) p:=⟨A1,c1,A2,c2,A5,c5,rfl,g1,g2,g5,i3,i4⟩;have hvq:VBlk wr.drew (.agg #[.slice B1 q.phis.length d1,.slice B2 q.ins.length d2,.int .i64 q.term.kind,.int .i64 q.term.arg,.slice B5 q.term.to.length d5]) q:=⟨B1,d1,B2,d2,B5,d5,rfl,j1,j2,j5,l3,l4⟩;have hbd:Below w1.heap.size w1 wr.drew:=hbel.drew;have hBd:Below w.heap.size w wr.drew:=hBr.drew;generalize wr.drew=w2 at *;(go_wp2_with fail);refine (sameBlock_any p q _ _ _ hvp hvq).mono ?_;rintro e w3 ⟨rfl,hb3⟩;have hb3':Below w1.heap.size w1 w3:=hbd.trans (hb3.mono hbd.size)
              have hB3:Below w.heap.size w w3:=hBd.trans (hb3.mono hBd.size);cases hs:same p q
              · (have E2:Hid (same x y=false):=Lib.hid (qU (fun e=>ne_at hp1.out hq1.out (fun e2=>by have:=qj e2;rw [hs] at this;cases this) (by rw [e]))));clear hs;(go_wp2_with fail);(go_ret);exact ⟨by rw [E2.out];rfl,hB3⟩
              · have HS:=Lib.hid (same_iff.1 hs);clear hs;go_wp2_with fail
                go_roundw
                case rel=>exact ⟨k+1,by omega,by go_num,hb3',Lib.hid (qz hi2.out hp1.out hq1.out HS.out)⟩
                case measure=>simp [intOf];omega
            · (have HP:=Lib.hid (take_len_eq hi2.out (Nat.le_of_not_lt hlt) (by have:=E3.out;omega)));(go_wp2_with fail);(go_ret);exact ⟨by rw [qj (fun_ext E.out.1 E.out.2 HRG.out HP.out)];rfl,hBr⟩
        · (have e3':((x.blocks.length:Int) != y.blocks.length)=true:=by rw [bne_iff_ne];omega);have E2:Hid (same x y=false):=Lib.hid (qU (fun e=>e3 (by rw [e])));clear e3;(go_wp2_with fail);(go_ret);exact ⟨by rw [E2.out];rfl,below_drewN hB _⟩
    · (have e2':(x.result != y.result)=true:=by rw [bne_iff_ne];exact e2);have E:Hid (same x y=false):=Lib.hid (qU (fun e=>e2 (by rw [e])));clear e1 e2;(go_enter Tryd.func20,Tryd.ntmps20);(go_wp2_with fail);(go_ret);exact ⟨by rw [E.out];rfl,hB⟩
  · (have e1':(x.params != y.params)=true:=by rw [bne_iff_ne];exact e1);have E:Hid (same x y=false):=Lib.hid (qU (fun e=>e1 (by rw [e])));clear e1;(go_enter Tryd.func20,Tryd.ntmps20);(go_wp2_with fail);(go_ret);exact ⟨by rw [E.out];rfl,hB⟩
set_option maxRecDepth 100000 in
set_option maxHeartbeats 8000000 in
theorem same_any (x y:List FunD) (v u:Value) (w:World) (hv:VMod w v x) (hu:VMod w u y) :
    Calls Tryd.prog 9 #[v,u] w fun e w'=>e=.returned (.bool (same x y))∧Below w.heap.size w w':=by
  obtain ⟨Ab,cb,rfl,hb⟩:=hv;obtain ⟨Bb,db,rfl,kb⟩:=hu;have hbl:=hb.len;have kbl:=kb.len;have hB:Below w.heap.size w ((w.alloc (.cells #[.slice Ab x.length cb] 24)).alloc (.cells #[.slice Bb y.length db] 24)):=((Below.refl _ _).alloc (Nat.le_refl _) _).alloc (by simp) _;have hK:=q7 hB
  by_cases e3:x.length=y.length
  · (have e3':((x.length:Int) != y.length)=false:=by simp [e3]);have E3:=Lib.hid e3;clear e3;(go_enter Tryd.func9,Tryd.ntmps9);(go_wp2_with fail);obtain ⟨w1,hw1⟩:∃ w1,w1=(w.alloc (.cells #[.slice Ab x.length cb] 24)).alloc (.cells #[.slice Bb y.length db] 24):=⟨_,rfl⟩;(have gx3:w1.cell? ⟨w.heap.size,0,none⟩=some (.slice Ab x.length cb):=by rw [hw1];simp);(have gy3:w1.cell? ⟨w.heap.size+1,0,none⟩=some (.slice Bb y.length db):=by rw [hw1];simp);rw [← hw1] at hB hK ⊢
    clear hw1;have hb0:Below w1.heap.size w1 w1:=Below.refl _ _
    go_loopw [5] (fun i wr=>∃ k:Nat,k≤x.length∧i=.int .i64 k∧Below w1.heap.size w1 wr∧Hid (x.take k=y.take k)) (fun i _=>x.length - (intOf i).toNat)
    case atStart=>exact ⟨0,Nat.zero_le _,rfl,hb0,Lib.hid rfl⟩
    case round =>
      obtain ⟨k,hk,rfl,hbel,hi2⟩:=hrel;have hkr:Kept w1 wr:=q7 hbel;have hx3:=hkr _ _ gx3;have hy3:=hkr _ _ gy3;have hBr:Below w.heap.size w wr:=hB.trans (hbel.mono hB.size)
      by_cases hlt:k<x.length
      · (have hlt2:k<y.length:=by have:=E3.out;omega);obtain ⟨b1,o1,p,rfl,hp1,⟨h1,i1⟩,⟨h2,i2⟩,⟨A3,c3,h3,g3⟩,A4,c4,h4,g4⟩:=(SFuns.keep (hK.trans hkr) hb).at_ hlt;obtain ⟨b2,o2,q,rfl,hq1,⟨k1,l1⟩,⟨k2,l2⟩,⟨B3,d3,k3,j3⟩,B4,d4,k4,j4⟩:=(SFuns.keep (hK.trans hkr) kb).at_ hlt2;(have hk0:(0:Int)≤k:=by omega);(have hk1:(k:Int)<x.length:=by omega);(have hk2:(k:Int)<y.length:=by omega);(go_wp2_with fail);(go_still_tail 10,(by kernel_rfl));change wpList _ _ _ _ _ wr.drew
        have hvp:VFun wr.drew (.agg #[.int .i64 p.params,.int .i64 p.result,.slice A3 p.regs.length c3,.slice A4 p.blocks.length c4]) p:=⟨A3,c3,A4,c4,rfl,g3,g4,i1,i2⟩;have hvq:VFun wr.drew (.agg #[.int .i64 q.params,.int .i64 q.result,.slice B3 q.regs.length d3,.slice B4 q.blocks.length d4]) q:=⟨B3,d3,B4,d4,rfl,j3,j4,l1,l2⟩;have hbd:Below w1.heap.size w1 wr.drew:=hbel.drew;have hBd:Below w.heap.size w wr.drew:=hBr.drew;generalize wr.drew=w2 at *;(go_wp2_with fail);refine (sameFunc_any p q _ _ _ hvp hvq).mono ?_;rintro e w3 ⟨rfl,hb3⟩;have hb3':Below w1.heap.size w1 w3:=hbd.trans (hb3.mono hbd.size)
        have hB3:Below w.heap.size w w3:=hBd.trans (hb3.mono hBd.size);cases hs:same p q
        · (have E2:Hid (same x y=false):=Lib.hid (qU (fun e=>ne_at hp1.out hq1.out (fun e2=>by have:=qj e2;rw [hs] at this;cases this) (by rw [e]))));clear hs;(go_wp2_with fail);(go_ret);exact ⟨by rw [E2.out];rfl,hB3⟩
        · have HS:=Lib.hid (same_iff.1 hs);clear hs;go_wp2_with fail
          go_roundw
          case rel=>exact ⟨k+1,by omega,by go_num,hb3',Lib.hid (qz hi2.out hp1.out hq1.out HS.out)⟩
          case measure=>simp [intOf];omega
      · (have HP:=Lib.hid (take_len_eq hi2.out (Nat.le_of_not_lt hlt) (by have:=E3.out;omega)));(go_wp2_with fail);(go_ret);exact ⟨by rw [qj HP.out];rfl,hBr⟩
  · (have e3':((x.length:Int) != y.length)=true:=by rw [bne_iff_ne];omega);have E2:Hid (same x y=false):=Lib.hid (qU (fun e=>e3 (by rw [e])));clear e3;(go_enter Tryd.func9,Tryd.ntmps9);(go_wp2_with fail);(go_ret);exact ⟨by rw [E2.out];rfl,hB⟩
end Go.Proofs.YtfoggldjjnabcaaDoor
