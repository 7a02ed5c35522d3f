/- Rule 3: hasItsTos, endsWell. -/
import Derived.Test.YtfoggldjjnabcaaSpecJ
import Derived.Test.YtfoggldjjnabcaaAheadJ
import Derived.Deep.QuietTactic
import Derived.BigQuiet
import Derived.Test.YtfoggldjjnabcaaSsMJ
namespace Go.Proofs.Ytfoggldjjnabcaa
open Go.ChangeShapes Go.WideShapes Go.RowKit Go.Deep
set_option linter.unusedVariables false
set_option maxRecDepth 100000 in
set_option maxHeartbeats 4000000 in
theorem hasItsTos_any (t:TermD) (v:Value) (w:World) (hv:VTerm w v t) :
    Calls Try.prog 74 #[v] w fun e w'=>e=.returned (.bool (tosB t))∧Below w.heap.size w w':=by
  obtain ⟨A,c,rfl,ht,-,-⟩:=hv;have htl:=ht.len;have hbel1:Below w.heap.size w (w.alloc (.cells #[.int .i64 t.kind,.int .i64 t.arg,.slice A t.to.length c] 39)):=(Below.refl _ _).alloc (Nat.le_refl _) _
  by_cases k1:t.kind=1
  · (have HT:Hid (tosB t=decide (t.to.length=1)):=Lib.hid (by unfold tosB;rw [if_pos k1]));(have k1':(t.kind == 1)=true:=by simpa using k1);clear k1;(go_enter Try.func74,Try.ntmps74);(go_wp2_with fail);(go_ret);exact ⟨by rw [HT.out];simp [Bool.beq_eq_decide_eq];try omega,hbel1⟩
  · have k1':(t.kind == 1)=false:=by simpa using k1
    by_cases k2:t.kind=2
    · (have k2':(t.kind == 2)=true:=by simpa using k2);(have HT:Hid (tosB t=(decide (t.to.length=2) && decide (t.to.getD 0 0≠t.to.getD 1 0))):=Lib.hid (by unfold tosB;rw [if_neg k1,if_pos k2]));clear k1 k2
      by_cases l2:t.to.length=2
      · obtain ⟨b,o,x,rfl,hx,hxc,-⟩:=ht.int (k:=0) (by omega);obtain ⟨b',o',y,he,hy,hyc,-⟩:=ht.int (k:=1) (by omega);simp only [Option.some.injEq,Addr.mk.injEq] at he;obtain ⟨rfl,rfl,-⟩:=he
        have HT':Hid (tosB t=decide (x≠y)):=Lib.hid (by
          rw [HT.out,decide_eq_true l2,Bool.true_and,List.getD_eq_getElem?_getD,List.getD_eq_getElem?_getD,hx.out,hy.out];rfl)
        (have l2':((t.to.length:Int) == 2)=true:=by simp [l2]);(have l2'':2≤t.to.length:=by omega);have hltx:=block_lt_of_cell hxc;simp only [Nat.add_zero] at hxc;clear l2 HT;(go_enter Try.func74,Try.ntmps74);(go_wp2_with fail);(go_quiet (fail));go_wp2_with fail
        (go_ret);exact ⟨by rw [HT'.out];simp [bne,Bool.beq_eq_decide_eq],below_drewN hbel1 _⟩
      · have l2':((t.to.length:Int) == 2)=false:=by
          rw [beq_eq_false_iff_ne];omega
        (have HT':Hid (tosB t=false):=Lib.hid (by rw [HT.out,decide_eq_false l2];rfl));clear l2 HT;(go_enter Try.func74,Try.ntmps74);(go_wp2_with fail);(go_quiet (fail));(go_wp2_with fail);(go_ret);exact ⟨by rw [HT'.out];rfl,below_drewN hbel1 _⟩
    · have k2':(t.kind == 2)=false:=by simpa using k2
      by_cases k3:t.kind=3
      · (have k3':(t.kind == 3)=true:=by simpa using k3);(have HT:Hid (tosB t=decide (t.to.length=0)):=Lib.hid (by unfold tosB;rw [if_neg k1,if_neg k2,if_pos k3]));clear k1 k2 k3;(go_enter Try.func74,Try.ntmps74);(go_wp2_with fail);(go_ret);exact ⟨by rw [HT.out];simp [Bool.beq_eq_decide_eq];try omega,hbel1⟩
      · (have k3':(t.kind == 3)=false:=by simpa using k3);(have HT:Hid (tosB t=false):=Lib.hid (by unfold tosB;rw [if_neg k1,if_neg k2,if_neg k3]));clear k1 k2 k3;(go_enter Try.func74,Try.ntmps74);(go_wp2_with fail);(go_ret);exact ⟨by rw [HT.out];rfl,hbel1⟩
set_option maxRecDepth 100000 in
set_option maxHeartbeats 4000000 in
theorem endsWell_any (f:FunD) (v:Value) (w:World) (hv:VFun w v f) :
    Calls Try.prog 61 #[v] w fun e w'=>e=.returned (.bool (endsWellB f))∧Below w.heap.size w w':=by
  obtain ⟨Ar,cr,A,c,rfl,hr,hb,-,-⟩:=hv;have hbl:=hb.len;(go_enter Try.func61,Try.ntmps61);(go_wp2_with fail);obtain ⟨w1,hw1,hs1,hk1,hbel1,hc1,-⟩:=named w #[.int .i64 f.params,.int .i64 f.result,.slice Ar f.regs.length cr,.slice A f.blocks.length c] 31;have hc3:w1.cell? ⟨w.heap.size,3,none⟩=some (.slice A f.blocks.length c):=hc1 3 _ rfl;rw [← hw1];clear hw1 hc1;have hs1:w.heap.size<w1.heap.size:=by omega
  go_loopw [10] (fun i wr=>∃ k:Nat,k≤f.blocks.length∧i=.int .i64 k∧Hid ((f.blocks.take k).all (fun b=>shapeB f.blocks.length b.term)=true)∧Below w1.heap.size w1 wr) (fun i _=>f.blocks.length - (intOf i).toNat)
  case atStart=>exact ⟨0,Nat.zero_le _,rfl,Lib.hid rfl,Below.refl _ _⟩
  case round =>
    obtain ⟨k,hk,rfl,hi,hbel⟩:=hrel;obtain ⟨wo,rfl⟩:∃ wo,wo=wr:=⟨wr,rfl⟩;have hs:=hbel.size;have hkw:Kept w1 wo:=q6 hbel;have hB:Below w.heap.size w wo:=hbel1.trans (hbel.mono (by omega))
    by_cases hlt:k<f.blocks.length
    · obtain ⟨b,o,kb,rfl,hkb,⟨Ap,cp,hphi,hphis⟩,⟨Ai,ci,hins,hinss⟩,⟨hkd,h64k⟩,⟨har,h64a⟩,⟨At,ct,hto,htos⟩⟩:=(SBlks.keep (hk1.trans hkw) hb).at_ hlt;have htl:=htos.len;(go_wp2_with fail);clear hphi hins hkd har hto;obtain ⟨w3,hw3,hs3,hk3,hbel3,hc3',-⟩:=named wo #[.slice Ap kb.phis.length cp,.slice Ai kb.ins.length ci,.int .i64 kb.term.kind,.int .i64 kb.term.arg,.slice At kb.term.to.length ct] 43;have hc4:w3.cell? ⟨wo.heap.size,4,none⟩=some (.slice At kb.term.to.length ct):=hc3' 4 _ rfl;have hB3:Below w.heap.size w w3:=hB.trans (hbel3.mono (by omega));have hb3:Below w1.heap.size w1 w3:=hbel.trans (hbel3.mono (by omega));rw [← hw3]
      clear hw3 hc3';have htos3:=SInts.keep hk3 htos;have hbox3:w3.cell? ⟨w.heap.size,3,none⟩=_:=hk3 _ _ (hkw _ _ hc3);refine (hasItsTos_any kb.term _ _ ⟨At,ct,rfl,htos3,h64k,h64a⟩).mono ?_;rintro e w4 ⟨rfl,hb4⟩;have hk4:Kept w3 w4:=q6 hb4;have hc4:=hk4 _ _ hc4;have hbox4:=hk4 _ _ hbox3;have htos4:=SInts.keep hk4 htos3
      have hB4:Below w.heap.size w w4:=hB3.trans (hb4.mono hB3.size);(have hb4':Below w1.heap.size w1 w4:=hb3.trans (hb4.mono (by have:=hb3.size;omega)));clear hbox3;cases hts:tosB kb.term
      · (go_wp2_with fail);(go_ret);exact ⟨by rw [show endsWellB f=false from all_stop hkb.out (show shapeB f.blocks.length kb.term=false by unfold shapeB;rw [hts];rfl)];rfl,hB4⟩
      · have HTS:=Lib.hid hts;clear hts;go_wp2_with fail
        go_loopw [22] (fun i wr=>∃ j q:Nat,j≤kb.term.to.length∧i=.int .i64 j∧Hid ((kb.term.to.take j).all (toB f.blocks.length)=true)∧wr=w4.drewN q) (fun i _=>kb.term.to.length - (intOf i).toNat)
        case atStart=>exact ⟨0,0,Nat.zero_le _,rfl,Lib.hid rfl,rfl⟩
        case round =>
          obtain ⟨j,q,hj,rfl,hj2,rfl⟩:=hrel
          by_cases hjt:j<kb.term.to.length
          · obtain ⟨b',o',x,rfl,hx,hxc,-⟩:=htos4.int hjt
            by_cases x0:x=0
            · have HF:Hid (toB f.blocks.length x=false):=Lib.hid (decide_eq_false (by omega));(have x0':(x == 0)=true:=by simpa using x0);clear x0;(go_wp2_with fail);(go_ret);exact ⟨by rw [show endsWellB f=false from all_stop hkb.out (show shapeB f.blocks.length kb.term=false by unfold shapeB;rw [all_stop hx.out HF.out];simp)];rfl,below_drewN hB4 _⟩
            · (have x0':(x == 0)=false:=by simpa using x0);(have HF:Hid (toB f.blocks.length x=isAtB x f.blocks.length):=Lib.hid (by unfold toB isAtB;congr 1;rw [eq_iff_iff];omega));clear x0;(go_wp2_with fail);refine (qx _ _ _).mono ?_;rintro e w' ⟨rfl,rfl⟩;cases hat:isAtB x f.blocks.length
              · have HAT:=Lib.hid hat;clear hat;(go_wp2_with fail);(go_ret);exact ⟨by rw [show endsWellB f=false from all_stop hkb.out (show shapeB f.blocks.length kb.term=false by unfold shapeB;rw [all_stop hx.out (HF.out.trans HAT.out)];simp)];rfl,below_drewN hB4 _⟩
              · have HAT:=Lib.hid hat;clear hat;go_wp2_with fail
                go_roundw
                case rel=>exact ⟨j+1,q,by omega,by go_num,Lib.hid (by rw [all_step hx.out hj2.out,HF.out,HAT.out]),rfl⟩
                case measure=>simp [intOf];omega
          · have hd:=all_done hj2.out (Nat.le_of_not_lt hjt);have HD:=Lib.hid hd;clear hd;go_wp2_with fail
            go_roundw
            case rel=>exact ⟨k+1,by omega,by go_num,Lib.hid (by rw [all_step hkb.out hi.out];unfold shapeB;rw [HTS.out,HD.out];rfl),below_drewN hb4' _⟩
            case measure=>simp [intOf];omega
    · have hd:=all_done hi.out (Nat.le_of_not_lt hlt);have HD:Hid (endsWellB f=true):=Lib.hid hd;clear hd;(go_wp2_with fail);(go_ret);exact ⟨by rw [HD.out];rfl,hB⟩
set_option maxRecDepth 100000 in
set_option maxHeartbeats 4000000 in
theorem phisMeet_any (f:FunD) (v:Value) (w:World) (hv:VFun w v f) (hn:f.blocks.length≤1000000) :
    Calls Try.prog 62 #[v] w fun e w'=>e=.returned (.bool (meetB f))∧Below w.heap.size w w':=by
  have hv0:=hv;obtain ⟨Ar,cr,A,c,rfl,hr,hb,hp64,hr64⟩:=hv;have hbl:=hb.len;(go_enter Try.func62,Try.ntmps62);(go_wp2_with fail);obtain ⟨w1,hw1,hs1,hk1,hbel1,hc1,-⟩:=named w #[.int .i64 f.params,.int .i64 f.result,.slice Ar f.regs.length cr,.slice A f.blocks.length c] 31;have hc3:w1.cell? ⟨w.heap.size,3,none⟩=some (.slice A f.blocks.length c):=hc1 3 _ rfl;rw [← hw1];clear hw1 hc1
  (have hs1:w.heap.size<w1.heap.size:=by omega);refine (ahead_any f _ _ (VFun.keep hk1 hv0) hn).mono ?_;rintro e w2 ⟨⟨V,G,rfl,hG,hg⟩,hb2⟩;have hrd:=hg.reads hn;have hk2:Kept w1 w2:=q6 hb2;have hc3:=hk2 _ _ hc3;have hB2:Below w.heap.size w w2:=hbel1.trans (hb2.mono hbel1.size);have hk12:=hk1.trans hk2;have hs2:=hb2.size
  clear hg hG hb2;go_wp2_with fail
  go_loopw [13] (fun i wr=>∃ k:Nat,k≤f.blocks.length∧i=.int .i64 k∧Hid (meetUp f.blocks k=true)∧Below w2.heap.size w2 wr) (fun i _=>f.blocks.length - (intOf i).toNat)
  case atStart=>exact ⟨0,Nat.zero_le _,rfl,Lib.hid rfl,Below.refl _ _⟩
  case round =>
    obtain ⟨k,hk,rfl,hi,hbel⟩:=hrel;obtain ⟨wo,rfl⟩:∃ wo,wo=wr:=⟨wr,rfl⟩;have hs:=hbel.size;have hkw:Kept w2 wo:=q6 hbel;have hB:Below w.heap.size w wo:=hB2.trans (hbel.mono (by omega))
    by_cases hlt:k<f.blocks.length
    · obtain ⟨b,o,kb,rfl,hkb,⟨Ap,cp,hphi,hphis⟩,⟨Ai,ci,hins,hinss⟩,⟨hkd,h64k⟩,⟨har,h64a⟩,⟨At,ct,hto,htos⟩⟩:=(SBlks.keep (hk12.trans hkw) hb).at_ hlt;have hpl:=hphis.len;(obtain ⟨b2,o2,l,he,hl,A2,c2,hc2,hs2'⟩:=(SL.keep hkw (RRow.keep hkw) hrd).at_ (k:=k) (by rw [rows_len];exact hlt));simp only [Option.some.injEq,Addr.mk.injEq] at he;obtain ⟨rfl,rfl,-⟩:=he;have hl:=rows_at hl.out;have HM:=Lib.hid (fun h=>meetUp_step hkb.out (h:meetUp f.blocks k=true));have HS:=Lib.hid (meetUp_stop hkb.out);rw [← hl] at HM HS
      clear hl;have hll:=hs2'.len;rw [Nat.zero_add,Nat.mul_one] at hc2;(go_wp2_with fail);clear hphi hins hkd har hto;obtain ⟨w3,hw3,hs3,hk3,hbel3,-,-⟩:=named wo #[.slice Ap kb.phis.length cp,.slice Ai kb.ins.length ci,.int .i64 kb.term.kind,.int .i64 kb.term.arg,.slice At kb.term.to.length ct] 43;(have hB3:Below w.heap.size w w3:=hB.trans (hbel3.mono (by have:=hB.size;omega)));have hb3:Below w2.heap.size w2 w3:=hbel.trans (hbel3.mono (by omega));have hc2:=hk3 _ _ hc2
      have hphis3:=SPhis.keep hk3 hphis;(have hs3:wo.heap.size<w3.heap.size:=by omega);rw [← hw3];clear hw3
      go_loopw [21] (fun i wr=>∃ j:Nat,j≤kb.phis.length∧i=.int .i64 j∧Hid ((kb.phis.take j).all (fun p=>decide (p.args.length=l.length))=true)∧Below w3.heap.size w3 wr) (fun i _=>kb.phis.length - (intOf i).toNat)
      case atStart=>exact ⟨0,Nat.zero_le _,rfl,Lib.hid rfl,Below.refl _ _⟩
      case round =>
        obtain ⟨j,hj,rfl,hj2,hbelr⟩:=hrel;have hsr:=hbelr.size;have hkr:Kept w3 wr:=q6 hbelr;have hc2r:=hkr _ _ hc2;have hBr:Below w.heap.size w wr:=hB3.trans (hbelr.mono hB3.size)
        by_cases hjt:j<kb.phis.length
        · obtain ⟨b',o',p,rfl,hp,⟨hpd,-⟩,Aa,ca,hag,hags⟩:=(SPhis.keep hkr hphis3).at_ hjt;have hal:=hags.len;(have hk0:(0:Int)≤k:=by omega);have hk1':(k:Int)<f.blocks.length:=by omega
          by_cases hpe:p.args.length=l.length
          · (have hpe':((p.args.length:Int) != l.length)=false:=by simp [hpe]);have HP:Hid (decide (p.args.length=l.length)=true):=Lib.hid (decide_eq_true hpe);clear hpe;(go_wp2_with fail);obtain ⟨w5,hw5,hs5,hk5,hbel5,hc5,-⟩:=named wr #[.int .i64 p.dst,.slice Aa p.args.length ca] 52;have hc51:w5.cell? ⟨wr.heap.size,1,none⟩=some (.slice Aa p.args.length ca):=hc5 1 _ rfl;have hc2r5:=hk5 _ _ hc2r;have hb5:Below w3.heap.size w3 w5:=hbelr.trans (hbel5.mono (by omega));have hB5:Below w.heap.size w w5:=hBr.trans (hbel5.mono hBr.size)
            rw [← hw5];clear hw5 hc5 hs5;(go_quiet (fail));go_wp2_with fail
            go_roundw
            case rel=>exact ⟨j+1,by omega,by go_num,Lib.hid (by rw [all_step hp.out hj2.out];exact HP.out),below_drewN hb5 _⟩
            case measure=>simp [intOf];omega
          · (have hpe':((p.args.length:Int) != l.length)=true:=by rw [bne_iff_ne];omega);have HP:Hid (decide (p.args.length=l.length)=false):=Lib.hid (decide_eq_false hpe);clear hpe;(go_wp2_with fail);obtain ⟨w5,hw5,hs5,hk5,hbel5,hc5,-⟩:=named wr #[.int .i64 p.dst,.slice Aa p.args.length ca] 52;have hc51:w5.cell? ⟨wr.heap.size,1,none⟩=some (.slice Aa p.args.length ca):=hc5 1 _ rfl;have hc2r5:=hk5 _ _ hc2r;have hb5:Below w3.heap.size w3 w5:=hbelr.trans (hbel5.mono (by omega));have hB5:Below w.heap.size w w5:=hBr.trans (hbel5.mono hBr.size)
            rw [← hw5];clear hw5 hc5 hs5;(go_quiet (fail));(go_wp2_with fail);(go_ret);exact ⟨by rw [show meetB f=false from HS.out (all_stop hp.out HP.out)];rfl,below_drewN hB5 _⟩
        · have hd:=all_done hj2.out (Nat.le_of_not_lt hjt);have HD:=Lib.hid hd;clear hd;go_wp2_with fail
          go_roundw
          case rel=>exact ⟨k+1,by omega,by go_num,Lib.hid (by rw [HM.out hi.out];exact HD.out),hb3.trans (hbelr.mono (by omega))⟩
          case measure=>simp [intOf];omega
    · have HD:Hid (meetB f=true):=Lib.hid (meetUp_done hi.out (Nat.le_of_not_lt hlt));(go_wp2_with fail);(go_ret);exact ⟨by rw [HD.out];rfl,hB⟩
def errV (c:Int):Value:=if c=0 then .nilIface else .iface 50 (.int .i64 c)
theorem errV_zero:errV 0=.nilIface:=rfl
theorem errV_pos {c:Int} (h:c≠0):errV c=.iface 50 (.int .i64 c):=if_neg h
set_option maxRecDepth 100000 in
set_option maxHeartbeats 4000000 in
theorem areAt_any (l:List Int) (v:Value) (n:Int) (w:World) (hv:VS w 1 RInt v l) :
    Calls Try.prog 80 #[v,.int .i64 n] w fun e w'=>e=.returned (.bool (areAtB l n))∧w=w':=by
  obtain ⟨A,c,rfl,hl⟩:=hv;have hll:=hl.len;(go_enter Try.func80,Try.ntmps80);(go_wp2_with fail);go_loop [9] (fun i=>∃ k:Nat,k≤l.length∧i=.int .i64 k∧Hid ((l.take k).all (fun a=>decide (0≤a∧a<n))=true)) (fun i=>l.length - (intOf i).toNat)
  case atStart=>exact ⟨0,Nat.zero_le _,rfl,Lib.hid rfl⟩
  case round =>
    obtain ⟨k,hk,rfl,hi⟩:=hrel
    by_cases hlt:k<l.length
    · obtain ⟨b,o,x,rfl,hx,hxc,-⟩:=hl.int hlt;(go_wp2_with fail);refine (qx _ _ _).mono ?_;rintro e w' ⟨rfl,rfl⟩;cases hat:isAtB x n
      · have HAT:Hid (decide (0≤x∧x<n)=false):=Lib.hid hat;clear hat;(go_wp2_with fail);(go_ret);exact ⟨by rw [show areAtB l n=false from all_stop hx.out HAT.out];rfl,rfl⟩
      · have HAT:Hid (decide (0≤x∧x<n)=true):=Lib.hid hat;clear hat;(go_wp2_with fail);go_round
        case rel=>exact ⟨k+1,by omega,by go_num,Lib.hid (by rw [all_step hx.out hi.out];exact HAT.out)⟩
        case measure=>simp [intOf];omega
    · have HD:=Lib.hid (all_done hi.out (Nat.le_of_not_lt hlt));(go_wp2_with fail);(go_ret);exact ⟨by rw [show areAtB l n=true from HD.out];rfl,rfl⟩
theorem areAtB_at {l:List Int} {n:Int} (h:areAtB l n=true) {k:Nat} {x:Int} (hx:l[k]?=some x):0≤x∧x<n:=by
  unfold areAtB at h;have:=List.all_eq_true.1 h x (List.mem_of_getElem? hx);simpa using this
theorem reg_at {regs:List Int} {r:Int} (h0:0≤r) (h1:r<regs.length):∃ k:Nat,r=k∧k<regs.length:=⟨r.toNat,by omega,by omega⟩
set_option maxRecDepth 100000 in
set_option maxHeartbeats 4000000 in
theorem ofPhi_any (f:FunD) (p:PhiD) (v u:Value) (w:World) (hv:VFun w v f) (hu:VPhi w u p) :
    Calls Try.prog 75 #[v,u] w fun e w'=>e=.returned (errV (phiE f p))∧Below w.heap.size w w':=by
  obtain ⟨Ar,cr,A,c,rfl,hr,hb,hp64,hr64⟩:=hv;obtain ⟨pd,pa⟩:=p;obtain ⟨Ap,cp,rfl,hp,hd64⟩:=hu;dsimp only at *;have hrl:=hr.len;have hpl:=hp.len;(go_enter Try.func75,Try.ntmps75);(go_wp2_with fail);obtain ⟨w1,hw1,hs1,hk1,hbel1,hc1,-⟩:=named w #[.int .i64 f.params,.int .i64 f.result,.slice Ar f.regs.length cr,.slice A f.blocks.length c] 31
  have hc2:w1.cell? ⟨w.heap.size,2,none⟩=some (.slice Ar f.regs.length cr):=hc1 2 _ rfl;rw [← hw1];clear hw1 hc1;obtain ⟨w2,hw2,hs2,hk2,hbel2,hc1,-⟩:=named w1 #[.int .i64 pd,.slice Ap pa.length cp] 52;have hc2:=hk2 _ _ hc2;have hd0:w2.cell? ⟨w1.heap.size,0,none⟩=some (.int .i64 pd):=hc1 0 _ rfl;have hd1:w2.cell? ⟨w1.heap.size,1,none⟩=some (.slice Ap pa.length cp):=hc1 1 _ rfl;have hB2:Below w.heap.size w w2:=hbel1.trans (hbel2.mono (by omega));have hk12:=hk1.trans hk2
  rw [show w.heap.size+1=w1.heap.size from hs1.symm,← hw2];clear hw2 hc1 hs1 hs2;have hps:=SInts.keep hk12 hp;have hrs:=SInts.keep hk12 hr;refine (qx _ _ _).mono ?_;rintro e w' ⟨rfl,rfl⟩;cases hat:isAtB pd f.regs.length
  · (have HP:Hid (phiE f ⟨pd,pa⟩=4):=Lib.hid (by unfold phiE;rw [if_neg];unfold isAtB at hat;simp only [hat,Bool.false_and];exact Bool.false_ne_true));clear hat;(go_wp2_with fail);(go_ret);exact ⟨by rw [HP.out];rfl,hB2⟩
  · have HAT:=Lib.hid hat;clear hat;(go_wp2_with fail);refine (areAt_any pa _ _ _ ⟨Ap,cp,rfl,hps⟩).mono ?_;rintro e w' ⟨rfl,rfl⟩;cases har:areAtB pa f.regs.length
    · (have HP:Hid (phiE f ⟨pd,pa⟩=4):=Lib.hid (by unfold phiE;rw [if_neg];simp only [har,Bool.and_false];exact Bool.false_ne_true));clear har;(go_wp2_with fail);(go_ret);exact ⟨by rw [HP.out];rfl,hB2⟩
    · have HAR:=Lib.hid har;clear har
      have HP:Hid (phiE f ⟨pd,pa⟩=if (pa.all fun a=>decide (reg f.regs a=reg f.regs pd)) then 0 else 3):=Lib.hid (by
        have:=HAT.out;unfold isAtB at this;unfold phiE;dsimp only;rw [this,HAR.out];rfl)
      obtain ⟨hd0',hd1'⟩:0≤pd∧pd<f.regs.length:=of_decide_eq_true HAT.out;obtain ⟨dn,rfl,hdn⟩:=reg_at hd0' hd1';obtain ⟨br,or,y,rfl,hy,hyc,-⟩:=hrs.int hdn;have HR:Hid (reg f.regs dn=y):=Lib.hid (reg_of rfl hy.out);go_wp2_with fail
      go_loopw [27] (fun i wr=>∃ k q:Nat,k≤pa.length∧i=.int .i64 k∧Hid ((pa.take k).all (fun a=>decide (reg f.regs a=reg f.regs dn))=true)∧wr=w2.drewN q) (fun i _=>pa.length - (intOf i).toNat)
      case atStart=>exact ⟨0,0,Nat.zero_le _,rfl,Lib.hid rfl,rfl⟩
      case round =>
        obtain ⟨k,q,hk,rfl,hi,rfl⟩:=hrel
        by_cases hlt:k<pa.length
        · obtain ⟨b,o,x,rfl,hx,hxc,-⟩:=hps.int hlt;obtain ⟨hx0,hx1⟩:=areAtB_at HAR.out hx.out;obtain ⟨xn,rfl,hxn⟩:=reg_at hx0 hx1;obtain ⟨br',or',z,he,hz,hzc,-⟩:=hrs.int hxn;simp only [Option.some.injEq,Addr.mk.injEq] at he;obtain ⟨rfl,rfl,-⟩:=he;have HZ:Hid (reg f.regs xn=z):=Lib.hid (reg_of rfl hz.out)
          by_cases hzy:z=y
          · (have hzy':(z != y)=false:=by simp [hzy]);have HZY:=Lib.hid hzy;clear hzy;(go_wp2_with fail);(go_quiet (fail));go_wp2_with fail
            go_roundw
            case rel=>exact ⟨k+1,_,by omega,by go_num,Lib.hid (by rw [all_step hx.out hi.out];rw [HZ.out,HR.out];exact decide_eq_true HZY.out),rfl⟩
            case measure=>simp [intOf];omega
          · (have hzy':(z != y)=true:=by rw [bne_iff_ne];exact hzy);have HZY:=Lib.hid hzy;clear hzy;(go_wp2_with fail);(go_quiet (fail));(go_wp2_with fail);(go_ret);exact ⟨by rw [HP.out,all_stop hx.out (by rw [HZ.out,HR.out];exact decide_eq_false HZY.out)];rfl,below_drewN hB2 _⟩
        · have HD:=Lib.hid (all_done hi.out (Nat.le_of_not_lt hlt));(go_wp2_with fail);(go_ret);exact ⟨by rw [HP.out,HD.out];rfl,below_drewN hB2 _⟩
set_option maxRecDepth 100000 in
set_option maxHeartbeats 4000000 in
theorem argOf_any (f:FunD) (t:TermD) (v u:Value) (w:World) (hv:VFun w v f) (hu:VTerm w u t) :
    Calls Try.prog 83 #[v,u] w fun e w'=>e=.returned (.int .i64 (wantOf f t))∧Below w.heap.size w w':=by
  obtain ⟨Ar,cr,A,c,rfl,hr,hb,hp64,hr64⟩:=hv;obtain ⟨At,ct,rfl,ht,hk64,ha64⟩:=hu;have hB:Below w.heap.size w ((w.alloc (.cells #[.int .i64 f.params,.int .i64 f.result,.slice Ar f.regs.length cr,.slice A f.blocks.length c] 31)).alloc (.cells #[.int .i64 t.kind,.int .i64 t.arg,.slice At t.to.length ct] 39)) :=
    ((Below.refl _ _).alloc (Nat.le_refl _) _).alloc (by simp) _
  by_cases k2:t.kind=2
  · (have HT:Hid (wantOf f t=2):=Lib.hid (by unfold wantOf;rw [if_pos k2]));(have k2':(t.kind == 2)=true:=by simpa using k2);clear k2;(go_enter Try.func83,Try.ntmps83);(go_wp2_with fail);(go_ret);exact ⟨by rw [HT.out];rfl,hB⟩
  · have k2':(t.kind == 2)=false:=by simpa using k2
    by_cases k3:t.kind=3
    · (have HT:Hid (wantOf f t=f.result):=Lib.hid (by unfold wantOf;rw [if_neg k2,if_pos k3]));(have k3':(t.kind == 3)=true:=by simpa using k3);clear k2 k3;(go_enter Try.func83,Try.ntmps83);(go_wp2_with fail);(go_ret);exact ⟨by rw [HT.out];rfl,hB⟩
    · (have HT:Hid (wantOf f t=0):=Lib.hid (by unfold wantOf;rw [if_neg k2,if_neg k3]));(have k3':(t.kind == 3)=false:=by simpa using k3);clear k2 k3;(go_enter Try.func83,Try.ntmps83);(go_wp2_with fail);(go_ret);exact ⟨by rw [HT.out];rfl,hB⟩
set_option maxRecDepth 100000 in
set_option maxHeartbeats 4000000 in
theorem ofTerm_any (f:FunD) (t:TermD) (v u:Value) (w:World) (hv:VFun w v f) (hu:VTerm w u t) :
    Calls Try.prog 77 #[v,u] w fun e w'=>e=.returned (errV (termE f t))∧Below w.heap.size w w':=by
  have hv0:=hv;have hu0:=hu;obtain ⟨Ar,cr,A,c,rfl,hr,hb,hp64,hr64⟩:=hv;obtain ⟨At,ct,rfl,ht,hk64,ha64⟩:=hu;have hrl:=hr.len;(go_enter Try.func77,Try.ntmps77);(go_wp2_with fail);obtain ⟨w1,hw1,hs1,hk1,hbel1,hc1,-⟩:=named w #[.int .i64 f.params,.int .i64 f.result,.slice Ar f.regs.length cr,.slice A f.blocks.length c] 31;have hc2:w1.cell? ⟨w.heap.size,2,none⟩=some (.slice Ar f.regs.length cr):=hc1 2 _ rfl
  rw [← hw1];clear hw1 hc1;obtain ⟨w2,hw2,hs2,hk2,hbel2,hc1,-⟩:=named w1 #[.int .i64 t.kind,.int .i64 t.arg,.slice At t.to.length ct] 39;have hc2:=hk2 _ _ hc2;have hd1:w2.cell? ⟨w1.heap.size,1,none⟩=some (.int .i64 t.arg):=hc1 1 _ rfl;have hB2:Below w.heap.size w w2:=hbel1.trans (hbel2.mono (by omega));have hk12:=hk1.trans hk2;rw [show w.heap.size+1=w1.heap.size from hs1.symm,← hw2];clear hw2 hc1 hs1 hs2
  refine (argOf_any f t _ _ _ (VFun.keep hk12 hv0) (VTerm.keep hk12 hu0)).mono ?_;rintro e w3 ⟨rfl,hb3⟩;have hk3:=q6 hb3;have hc2:=hk3 _ _ hc2;have hd1:=hk3 _ _ hd1;have hB3:Below w.heap.size w w3:=hB2.trans (hb3.mono hB2.size);have hrs:=SInts.keep (hk12.trans hk3) hr;clear hb3 hv0 hu0;have HT:Hid (termE f t=if wantOf f t=0 then (if t.arg=-1 then 0 else 3) else if 0≤t.arg∧t.arg<f.regs.length then (if reg f.regs t.arg=wantOf f t then 0 else 3) else 4):=Lib.hid rfl
  generalize wantOf f t=want at *;generalize t.arg=arg at *
  by_cases w0:want=0
  · have HW:=Lib.hid w0;(have w0':(want == 0)=true:=by simpa using w0);clear w0
    by_cases a0:arg=-1
    · have HA:=Lib.hid a0;(have a0':(arg != -1)=false:=by simp [a0]);clear a0;(go_wp2_with fail);(go_ret);exact ⟨by rw [HT.out,if_pos HW.out,if_pos HA.out];rfl,hB3⟩
    · have HA:=Lib.hid a0;(have a0':(arg != -1)=true:=by rw [bne_iff_ne];exact a0);clear a0;(go_wp2_with fail);(go_ret);exact ⟨by rw [HT.out,if_pos HW.out,if_neg HA.out];rfl,hB3⟩
  · have HW:=Lib.hid w0;(have w0':(want == 0)=false:=by simpa using w0);clear w0;(go_wp2_with fail);refine (qx _ _ _).mono ?_;rintro e w' ⟨rfl,rfl⟩;cases hat:isAtB arg f.regs.length
    · have HAT:Hid (¬ (0≤arg∧arg<f.regs.length)):=Lib.hid (of_decide_eq_false hat);clear hat;(go_wp2_with fail);(go_ret);exact ⟨by rw [HT.out,if_neg HW.out,if_neg HAT.out];rfl,hB3⟩
    · have HAT:Hid (0≤arg∧arg<f.regs.length):=Lib.hid (of_decide_eq_true hat);clear hat;obtain ⟨an,rfl,han⟩:=reg_at HAT.out.1 HAT.out.2;obtain ⟨br,or,y,rfl,hy,hyc,-⟩:=hrs.int han;have HR:Hid (reg f.regs an=y):=Lib.hid (reg_of rfl hy.out)
      by_cases hyw:y=want
      · (have hyw':(y != want)=false:=by simp [hyw]);have HY:=Lib.hid hyw;clear hyw;(go_wp2_with fail);(try (go_quiet (fail);go_wp2_with fail));(go_ret);exact ⟨by rw [HT.out,if_neg HW.out,if_pos HAT.out,HR.out,if_pos HY.out];rfl,by first | exact hB3 | exact below_drewN hB3 _⟩
      · (have hyw':(y != want)=true:=by rw [bne_iff_ne];exact hyw);have HY:=Lib.hid hyw;clear hyw;(go_wp2_with fail);(try (go_quiet (fail);go_wp2_with fail));(go_ret);exact ⟨by rw [HT.out,if_neg HW.out,if_pos HAT.out,HR.out,if_neg HY.out];rfl,by first | exact hB3 | exact below_drewN hB3 _⟩
def OfIns:Prop:=∀ (m:List FunD) (f:FunD) (x:InsD) (vm vf vx:Value) (w:World),VMod w vm m→VFun w vf f→VIns w vx x→(∀ t∈f.regs,t=1∨t=2) →
  Calls Try.prog 76 #[vm,vf,vx] w fun e w'=>e=.returned (errV (insE m f x))∧Below w.heap.size w w'
theorem first_map_at {α:Type} {l:List α} {k:Nat} {x:α} (p:α→Int) (h:l[k]?=some x) (h0:qS ((l.take k).map p)=0):qS ((l.take (k+1)).map p)=p x:=by
  have:=firstE_snoc (map_at p h) (by rw [map_take];exact h0)
  rwa [map_take] at this
theorem first_map_stop {α:Type} {l:List α} {k:Nat} {x:α} (p:α→Int) (h:l[k]?=some x) (h0:qS ((l.take k).map p)=0) (hx:p x≠0):qS (l.map p)=p x :=
  firstE_stop (map_at p h) (by rw [map_take];exact h0) hx
theorem first_map_done {α:Type} {l:List α} {k:Nat} (p:α→Int) (h0:qS ((l.take k).map p)=0) (hk:l.length≤k):qS (l.map p)=0:=by rwa [List.take_of_length_le hk] at h0
set_option maxRecDepth 100000 in
set_option maxHeartbeats 4000000 in
theorem ofBlock_any (OI:OfIns) (m:List FunD) (f:FunD) (b:BlkD) (vm vf vb:Value) (w:World) (hm:VMod w vm m) (hf:VFun w vf f) (hb:VBlk w vb b) (hty:∀ t∈f.regs,t=1∨t=2) :
    Calls Try.prog 63 #[vm,vf,vb] w fun e w'=>e=.returned (errV (qk m f b))∧Below w.heap.size w w':=by
  have hm0:=hm;have hf0:=hf;have HTYP:=Lib.hid hty;clear hty;obtain ⟨Am,cm,rfl,hms⟩:=hm;obtain ⟨Ar,cr,Ab,cb,rfl,hr,hbs,hp64,hr64⟩:=hf;obtain ⟨Ap,cp,Ai,ci,At,ct,rfl,hps,his,hts,hk64,ha64⟩:=hb;have hpl:=hps.len;have hil:=his.len
  (go_enter Try.func63,Try.ntmps63);(go_wp2_with fail);obtain ⟨wa,hwa,hsa,hka,hba,hca,-⟩:=named w #[.slice Am m.length cm] 24;obtain ⟨wb,hwb,hsb,hkb,hbb,hcb,-⟩:=named wa #[.int .i64 f.params,.int .i64 f.result,.slice Ar f.regs.length cr,.slice Ab f.blocks.length cb] 31;obtain ⟨w1,hw1,hs1,hk1,hb1,hc1,-⟩:=named wb #[.slice Ap b.phis.length cp,.slice Ai b.ins.length ci,.int .i64 b.term.kind,.int .i64 b.term.arg,.slice At b.term.to.length ct] 43;rw [← hwa,← hwb,← hw1];rw [hsa] at hcb;rw [hsb,hsa] at hc1;have hB1:Below w.heap.size w w1:=(hba.trans (hbb.mono (by omega))).trans (hb1.mono (by omega))
  have q0:w1.cell? ⟨w.heap.size,0,none⟩=some (.slice Am m.length cm):=hk1 _ _ (hkb _ _ (hca 0 _ rfl));have f0:w1.cell? ⟨w.heap.size+1,0,none⟩=some (.int .i64 f.params):=hk1 _ _ (hcb 0 _ rfl);have f1:w1.cell? ⟨w.heap.size+1,1,none⟩=some (.int .i64 f.result):=hk1 _ _ (hcb 1 _ rfl);have f2:w1.cell? ⟨w.heap.size+1,2,none⟩=some (.slice Ar f.regs.length cr):=hk1 _ _ (hcb 2 _ rfl);have f3:w1.cell? ⟨w.heap.size+1,3,none⟩=some (.slice Ab f.blocks.length cb):=hk1 _ _ (hcb 3 _ rfl);have b1:w1.cell? ⟨w.heap.size+1+1,1,none⟩=some (.slice Ai b.ins.length ci):=hc1 1 _ rfl;have b2:w1.cell? ⟨w.heap.size+1+1,2,none⟩=some (.int .i64 b.term.kind):=hc1 2 _ rfl;have b3:w1.cell? ⟨w.heap.size+1+1,3,none⟩=some (.int .i64 b.term.arg):=hc1 3 _ rfl;have b4:w1.cell? ⟨w.heap.size+1+1,4,none⟩=some (.slice At b.term.to.length ct):=hc1 4 _ rfl
  (have hs1:w.heap.size+1+1<w1.heap.size:=by omega);clear hwa hwb hw1 hsa hsb hca hcb hc1 hka hkb hk1 hba hbb hb1;have hk1:=q6 hB1
  go_loopw [16] (fun i wr=>∃ k:Nat,k≤b.phis.length∧i=.int .i64 k∧Below w1.heap.size w1 wr∧Hid (qS ((b.phis.take k).map (phiE f))=0)) (fun i _=>b.phis.length - (intOf i).toNat)
  case atStart=>exact ⟨0,Nat.zero_le _,rfl,Below.refl _ _,Lib.hid rfl⟩
  case round =>
    obtain ⟨k,hk,rfl,hbel,hi⟩:=hrel;obtain ⟨wo,rfl⟩:∃ wo,wo=wr:=⟨wr,rfl⟩;have hkw:Kept w1 wo:=q6 hbel;have hB:Below w.heap.size w wo:=hB1.trans (hbel.mono (by omega));have hso:=hbel.size;have e0:=hkw _ _ f0;have e1:=hkw _ _ f1;have e2:=hkw _ _ f2;have e3:=hkw _ _ f3
    (have n1:w.heap.size+1<wo.heap.size:=by omega);have n2:w.heap.size+1+1<wo.heap.size:=by omega
    by_cases hlt:k<b.phis.length
    · obtain ⟨bb,oo,p,rfl,hp,⟨hpd,hpd64⟩,Aa,ca,hag,hags⟩:=(SPhis.keep (hk1.trans hkw) hps).at_ hlt;(go_wp2_with fail);obtain ⟨w2,hw2,hs2,hk2,hbel2,-,-⟩:=named wo #[.int .i64 p.dst,.slice Aa p.args.length ca] 52;have hb2:Below w1.heap.size w1 w2:=hbel.trans (hbel2.mono (by omega));have hB2:Below w.heap.size w w2:=hB.trans (hbel2.mono hB.size);rw [← hw2];clear hw2 hs2;refine (ofPhi_any f p _ _ _ (VFun.keep ((hk1.trans hkw).trans hk2) hf0) ⟨Aa,ca,rfl,SInts.keep hk2 hags,hpd64⟩).mono ?_;rintro e w3 ⟨rfl,hb3⟩
      have hb3':Below w1.heap.size w1 w3:=hb2.trans (hb3.mono hb2.size);have hB3:Below w.heap.size w w3:=hB2.trans (hb3.mono hB2.size)
      by_cases hc:phiE f p=0
      · have HC:=Lib.hid hc;rw [hc,errV_zero];clear hc;go_wp2_with fail
        go_roundw
        case rel=>exact ⟨k+1,by omega,by go_num,hb3',Lib.hid (by rw [first_map_at (phiE f) hp.out hi.out];exact HC.out)⟩
        case measure=>simp [intOf];omega
      · have HC:Hid (qk m f b=phiE f p):=Lib.hid (by
          have:=first_map_stop (phiE f) hp.out hi.out hc
          unfold qk;rw [this,if_neg hc])
        rw [errV_pos hc];have HC2:=Lib.hid hc;clear hc;(go_wp2_with fail);(go_ret);exact ⟨by rw [HC.out,errV_pos HC2.out];rfl,hB3⟩
    · have HP:=Lib.hid (first_map_done (phiE f) hi.out (Nat.le_of_not_lt hlt));have hbo:=hbel;have y1:=hkw _ _ b1;clear hi;go_wp2_with fail
      go_loopw [30] (fun i wr=>∃ k:Nat,k≤b.ins.length∧i=.int .i64 k∧Below w1.heap.size w1 wr∧Hid (qS ((b.ins.take k).map (insE m f))=0)) (fun i _=>b.ins.length - (intOf i).toNat)
      case atStart=>exact ⟨0,Nat.zero_le _,rfl,hbo,Lib.hid rfl⟩
      case round =>
        obtain ⟨k,hk,rfl,hbel,hi⟩:=hrel;have hkw:Kept w1 wr:=q6 hbel;have hB:Below w.heap.size w wr:=hB1.trans (hbel.mono (by omega));have hso:=hbel.size;have a0:=hkw _ _ q0;have e0:=hkw _ _ f0;have e1:=hkw _ _ f1;have e2:=hkw _ _ f2;have e3:=hkw _ _ f3
        (have n0:w.heap.size<wr.heap.size:=by omega);(have n1:w.heap.size+1<wr.heap.size:=by omega);have n2:w.heap.size+1+1<wr.heap.size:=by omega
        by_cases hlt:k<b.ins.length
        · obtain ⟨bb,oo,x,rfl,hx,⟨h0,z0⟩,⟨h1,z1⟩,⟨Aa,ca,hag,hags⟩,⟨h3,z3⟩,⟨h4,z4⟩⟩:=(SInss.keep (hk1.trans hkw) his).at_ hlt;(go_wp2_with fail);obtain ⟨w2,hw2,hs2,hk2,hbel2,-,-⟩:=named wr #[.int .i64 x.op,.int .i64 x.dst,.slice Aa x.args.length ca,.int .i64 x.imm,.int .i64 x.fn] 45;have hb2:Below w1.heap.size w1 w2:=hbel.trans (hbel2.mono (by omega));have hB2:Below w.heap.size w w2:=hB.trans (hbel2.mono hB.size);rw [← hw2];clear hw2 hs2;have hK:=(hk1.trans hkw).trans hk2;refine (OI m f x _ _ _ _ (VMod.keep hK hm0) (VFun.keep hK hf0) ⟨Aa,ca,rfl,SInts.keep hk2 hags,z0,z1,z3,z4⟩ HTYP.out).mono ?_
          rintro e w3 ⟨rfl,hb3⟩;have hb3':Below w1.heap.size w1 w3:=hb2.trans (hb3.mono hb2.size);have hB3:Below w.heap.size w w3:=hB2.trans (hb3.mono hB2.size)
          by_cases hc:insE m f x=0
          · have HC:=Lib.hid hc;rw [hc,errV_zero];clear hc;go_wp2_with fail
            go_roundw
            case rel=>exact ⟨k+1,by omega,by go_num,hb3',Lib.hid (by rw [first_map_at (insE m f) hx.out hi.out];exact HC.out)⟩
            case measure=>simp [intOf];omega
          · have HC:Hid (qk m f b=insE m f x):=Lib.hid (by
              have:=first_map_stop (insE m f) hx.out hi.out hc
              unfold qk;rw [HP.out,if_pos rfl,this,if_neg hc])
            rw [errV_pos hc];have HC2:=Lib.hid hc;clear hc;(go_wp2_with fail);(go_ret);exact ⟨by rw [HC.out,errV_pos HC2.out];rfl,hB3⟩
        · have HI:Hid (qk m f b=termE f b.term):=Lib.hid (by
            have:=first_map_done (insE m f) hi.out (Nat.le_of_not_lt hlt)
            unfold qk;rw [HP.out,if_pos rfl,this,if_pos rfl])
          have t2:=hkw _ _ b2;have t3:=hkw _ _ b3;have t4:=hkw _ _ b4;have hK:=hk1.trans hkw;(go_wp2_with fail);refine (ofTerm_any f b.term _ _ _ (VFun.keep hK hf0) ⟨At,ct,rfl,SInts.keep hK hts,hk64,ha64⟩).mono ?_;rintro e w3 ⟨rfl,hb3⟩;have hB3:Below w.heap.size w w3:=hB.trans (hb3.mono hB.size);go_wp2_with fail
          (go_ret);exact ⟨by rw [HI.out];rfl,hB3⟩
def arity (op:Int):Int:=if op=2∨op=14 then 1 else if 3≤op∧op≤13 then 2 else 0
def known (op:Int):Bool:=decide (2≤op∧op≤14)
theorem args_any (op:Int) (w:World) :
    Calls Try.prog 88 #[.int .i64 op] w fun e w'=>e=.returned (.tuple #[.int .i64 (arity op),.bool (known op)])∧w=w':=by
  by_cases h:2≤op∧op≤14
  · (obtain rfl | rfl | rfl | rfl | rfl| rfl| rfl| rfl| rfl| rfl| rfl | rfl | rfl:op=2∨op=3∨op=4∨op=5∨op=6∨op=7∨op=8∨op=9∨op=10∨op=11∨op=12∨op=13∨op=14:=by omega);all_goals
      (go_enter Try.func88,Try.ntmps88);(go_wp2);(go_ret2);exact ⟨rfl,rfl⟩
  · (have e1:arity op=0:=by unfold arity;rw [if_neg (by omega),if_neg (by omega)]);(have e2:known op=false:=by unfold known;simp;omega);rw [e1,e2];clear e1 e2;(have h2:(op == 2)=false:=by simp;omega);(have h3:(op == 3)=false:=by simp;omega);(have h4:(op == 4)=false:=by simp;omega);(have h5:(op == 5)=false:=by simp;omega);have h6:(op == 6)=false:=by simp;omega
    (have h7:(op == 7)=false:=by simp;omega);(have h8:(op == 8)=false:=by simp;omega);(have h9:(op == 9)=false:=by simp;omega);(have h10:(op == 10)=false:=by simp;omega);(have h11:(op == 11)=false:=by simp;omega);(have h12:(op == 12)=false:=by simp;omega);(have h13:(op == 13)=false:=by simp;omega);(have h14:(op == 14)=false:=by simp;omega);clear h
    (go_enter Try.func88,Try.ntmps88);(go_wp2);(go_ret2);exact ⟨rfl,rfl⟩
theorem mkInts_any (n:Nat) (hn:n≤1000000) (w:World) :
    Calls Try.prog 89 #[.int .i64 n] w fun e w'=>(∃ c,e=.returned (.slice (some ⟨w.heap.size,0,none⟩) n c)∧SL w' 1 RInt (some ⟨w.heap.size,0,none⟩) c (List.replicate n 1))∧Below w.heap.size w w':=by
  have hmk:=run_make_row' (P:=Try.prog) 28 3 (.int .i64 0) 8 Try.underlying28 Try.info3 rfl .i64 .i64 n (by omega) (by omega);(go_enter Try.func89,Try.ntmps89);(go_wp2_with fail);clear hmk;have hr:=World.rowIs_made w (.int .i64 0) n 3;have hb:Below w.heap.size w (w.alloc (.cells (madeCells #[.int .i64 0] n) 3)):=(Below.refl _ _).alloc (Nat.le_refl _) _;generalize w.alloc (.cells (madeCells #[.int .i64 0] n) 3)=w1 at *
  go_loopw [9] (fun i wr=>∃ k:Nat,k≤n∧i=.int .i64 k∧Below w.heap.size w wr∧wr.rowIs w.heap.size 3 n (fun j=>if j<k then .int .i64 1 else .int .i64 0)) (fun i _=>n - (intOf i).toNat)
  case atStart=>exact ⟨0,Nat.zero_le _,rfl,hb,hr.congr (fun j _=>(if_neg (Nat.not_lt_zero j)).symm)⟩
  case round =>
    obtain ⟨k,hk,rfl,hbw,hrw⟩:=hrel;have hlw:=hrw.lt
    by_cases hlt:k<n
    · have hc:=hrw.cell hlt;rw [if_neg (Nat.lt_irrefl k)] at hc;have hf:=hrw.frozen k;(have hk0:(0:Int)≤k:=by omega);have hk1:(k:Int)<n:=by omega
      have hset:(wr.setCell ⟨w.heap.size,k,none⟩ (.int .i64 1)).rowIs w.heap.size 3 n (fun j=>if j<k+1 then .int .i64 1 else .int .i64 0):=(hrw.set k _).congr (fun j _=>by
        by_cases e:j=k
        · rw [if_pos e,if_pos (by omega)]
        · rw [if_neg e]
          by_cases e2:j<k
          · rw [if_pos e2,if_pos (by omega)]
          · rw [if_neg e2,if_neg (by omega)])
      go_wp2_with fail
      go_roundw
      case rel=>exact ⟨k+1,by omega,by go_num,hbw.setCell (Nat.le_refl _) _,hset⟩
      case measure=>simp [intOf];omega
    · (obtain rfl:k=n:=by omega);(go_wp2_with fail);(go_ret);refine ⟨⟨_,rfl,?_,?_,fun _=>⟨_,_,rfl,fun i x hi=>?_⟩⟩,hbw⟩
      · rw [List.length_replicate];exact Nat.le_refl _
      · exact ⟨by unfold maxLen;omega,fun e=>by cases e⟩
      · obtain ⟨h1,h2⟩:=List.getElem?_eq_some_iff.1 hi;rw [List.length_replicate] at h1;rw [List.getElem_replicate] at h2;subst h2;rw [Nat.mul_one,Nat.zero_add];exact ⟨by rw [hrw.cell h1,if_pos h1],by unfold I64;omega⟩
theorem keptTwo (w:World) (o o':Obj):Kept w ((w.alloc o).alloc o'):=(qN w o).trans (qN _ o')
def qs (f:FunD) (x:InsD):Int:=if isAtB x.dst f.regs.length=true∧reg f.regs x.dst=2∧(x.imm=0∨x.imm=1) then 2 else 1
theorem constType_any (f:FunD) (x:InsD) (vf vx:Value) (w:World) (hf:VFun w vf f) (hx:VIns w vx x) :
    Calls Try.prog 85 #[vf,vx] w fun e w'=>e=.returned (.int .i64 (qs f x))∧Below w.heap.size w w':=by
  obtain ⟨Ar,cr,Ab,cb,rfl,hr,hbs,hp64,hr64⟩:=hf;obtain ⟨A,c,rfl,hxa,ho64,hd64,hi64,hf64⟩:=hx;have hrl:=hr.len;cases hat:isAtB x.dst f.regs.length
  · (have HT:Hid (qs f x=1):=Lib.hid (by unfold qs;rw [hat];exact if_neg (fun h=>by cases h.1)));have HA:=Lib.hid hat;clear hat;(go_enter Try.func85,Try.ntmps85);(go_wp2_with fail);refine (qx _ _ _).mono ?_;rintro e w' ⟨rfl,rfl⟩;rw [HA.out];go_wp2_with fail
    (go_ret);exact ⟨by rw [HT.out];rfl,((Below.refl _ w).alloc (Nat.le_refl _) _).alloc (by simp) _⟩
  · have h01:0≤x.dst∧x.dst<f.regs.length:=of_decide_eq_true hat;obtain ⟨h0,h1⟩:=h01;obtain ⟨k,hk⟩:=Int.eq_ofNat_of_zero_le h0;(have hkl:k<f.regs.length:=by omega);obtain ⟨b,o,y,rfl,hy,hyc,hy64⟩:=hr.int hkl;have HR:Hid (reg f.regs x.dst=y):=Lib.hid (reg_of hk hy.out);have HA:=Lib.hid hat;clear hat;rw [hk] at h0 h1 hd64
    have HKK:=Lib.hid hk;have hyc':=keptTwo w (.cells #[.int .i64 f.params,.int .i64 f.result,.slice (some ⟨b,o,none⟩) f.regs.length cr,.slice Ab f.blocks.length cb] 31) (.cells #[.int .i64 x.op,.int .i64 x.dst,.slice A x.args.length c,.int .i64 x.imm,.int .i64 x.fn] 45) _ _ hyc;obtain ⟨op,dst,args,imm,fn⟩:=x;dsimp only at *;subst hk;clear hyc;have hB:Below w.heap.size w ((w.alloc (.cells #[.int .i64 f.params,.int .i64 f.result,.slice (some ⟨b,o,none⟩) f.regs.length cr,.slice Ab f.blocks.length cb] 31)).alloc (.cells #[.int .i64 op,.int .i64 k,.slice A args.length c,.int .i64 imm,.int .i64 fn] 45)):=((Below.refl _ w).alloc (Nat.le_refl _) _).alloc (by simp) _;have HB:=Lib.hid hB;clear hB
    by_cases hy2:y=2
    · have hyb:(y == 2)=true:=by simp [hy2]
      by_cases hi0:imm=0
      · (have hib:(imm == 0)=true:=by simp [hi0]);(have HT:Hid (qs f ⟨op,k,args,imm,fn⟩=2):=Lib.hid (if_pos ⟨HA.out,by rw [HR.out];exact hy2,.inl hi0⟩));clear hy2 hi0;(go_enter Try.func85,Try.ntmps85);(go_wp2_with fail);refine (qx _ _ _).mono ?_;rintro e w' ⟨rfl,rfl⟩;rw [HA.out];go_wp2_with fail
        (go_ret);exact ⟨by rw [HT.out];rfl,HB.out⟩
      · have hib:(imm == 0)=false:=by simp [hi0]
        by_cases hi1:imm=1
        · (have hic:(imm == 1)=true:=by simp [hi1]);(have HT:Hid (qs f ⟨op,k,args,imm,fn⟩=2):=Lib.hid (if_pos ⟨HA.out,by rw [HR.out];exact hy2,.inr hi1⟩));clear hy2 hi0 hi1;(go_enter Try.func85,Try.ntmps85);(go_wp2_with fail);refine (qx _ _ _).mono ?_;rintro e w' ⟨rfl,rfl⟩;rw [HA.out];go_wp2_with fail
          (go_ret);exact ⟨by rw [HT.out];rfl,HB.out⟩
        · (have hic:(imm == 1)=false:=by simp [hi1]);have HT:Hid (qs f ⟨op,k,args,imm,fn⟩=1):=Lib.hid (if_neg (fun h=>by exact h.2.2.elim hi0 hi1));clear hy2 hi0 hi1;(go_enter Try.func85,Try.ntmps85);(go_wp2_with fail);refine (qx _ _ _).mono ?_;rintro e w' ⟨rfl,rfl⟩;rw [HA.out];go_wp2_with fail
          (go_ret);exact ⟨by rw [HT.out];rfl,HB.out⟩
    · (have hyb:(y == 2)=false:=by simp [hy2]);(have HT:Hid (qs f ⟨op,k,args,imm,fn⟩=1):=Lib.hid (if_neg (fun h=>by have:=h.2.1;rw [HR.out] at this;exact hy2 this)));clear hy2;(go_enter Try.func85,Try.ntmps85);(go_wp2_with fail);refine (qx _ _ _).mono ?_;rintro e w' ⟨rfl,rfl⟩;rw [HA.out];go_wp2_with fail
      (go_ret);exact ⟨by rw [HT.out];rfl,HB.out⟩
def copyT (f:FunD) (x:InsD):Int:=match x.args with
  | []=>1
  | a::_=>if isAtB a f.regs.length=true then reg f.regs a else 1
theorem copyType_any (f:FunD) (x:InsD) (vf vx:Value) (w:World) (hf:VFun w vf f) (hx:VIns w vx x) :
    Calls Try.prog 86 #[vf,vx] w fun e w'=>e=.returned (.int .i64 (copyT f x))∧Below w.heap.size w w':=by
  obtain ⟨Ar,cr,Ab,cb,rfl,hr,hbs,hp64,hr64⟩:=hf;obtain ⟨A,c,rfl,hxa,ho64,hd64,hi64,hf64⟩:=hx;have hrl:=hr.len;have hal:=hxa.len;obtain ⟨op,dst,args,imm,fn⟩:=x;dsimp only at *;obtain ⟨wa,hwa,hsa,hka,hba,hca,-⟩:=named w #[.int .i64 f.params,.int .i64 f.result,.slice Ar f.regs.length cr,.slice Ab f.blocks.length cb] 31;obtain ⟨w1,hw1,hs1,hk1,hb1,hc1,-⟩:=named wa #[.int .i64 op,.int .i64 dst,.slice A args.length c,.int .i64 imm,.int .i64 fn] 45;rw [hsa] at hc1
  have HB:Hid (Below w.heap.size w w1):=Lib.hid (hba.trans (hb1.mono (by omega)));have hK:=hka.trans hk1;have q2:w1.cell? ⟨w.heap.size,2,none⟩=some (.slice Ar f.regs.length cr):=hk1 _ _ (hca 2 _ rfl);have p2:w1.cell? ⟨w.heap.size+1,2,none⟩=some (.slice A args.length c):=hc1 2 _ rfl;have HW:Hid ((w.alloc (.cells #[.int .i64 f.params,.int .i64 f.result,.slice Ar f.regs.length cr,.slice Ab f.blocks.length cb] 31)).alloc (.cells #[.int .i64 op,.int .i64 dst,.slice A args.length c,.int .i64 imm,.int .i64 fn] 45)=w1):=Lib.hid (by rw [hw1,hwa]);clear hwa hw1 hsa hs1 hka hk1 hba hb1 hca hc1;have hisAt:∀ (a b:Int) (j:Nat),Calls Try.prog 56 #[.int .i64 a,.int .i64 b] (w1.drewN j) fun e w'=>e=.returned (.bool (isAtB a b))∧w'=w1.drewN j:=fun a b j=>(qx a b _).mono fun e w' h=>⟨h.1,h.2.symm⟩;have HI:=Lib.hid hisAt;clear hisAt
  cases args with
  | nil =>
    have HW':Hid ((w.alloc (.cells #[.int .i64 f.params,.int .i64 f.result,.slice Ar f.regs.length cr,.slice Ab f.blocks.length cb] 31)).alloc (.cells #[.int .i64 op,.int .i64 dst,.slice A 0 c,.int .i64 imm,.int .i64 fn] 45)=w1):=HW;clear HW;have HW:=HW';(go_enter Try.func86,Try.ntmps86);(go_wp2_with fail);rw [HW.out];simp only [List.length_nil] at p2;(go_quiet (fail));go_wp2_with fail
    (go_ret);exact ⟨rfl,below_drewN HB.out _⟩
  | cons a l =>
    obtain ⟨ba,oa,a',rfl,ha,hac,ha64⟩:=hxa.int (k:=0) (by simp);obtain rfl:a=a':=Option.some.inj ha.out;have hac:=hK _ _ hac;rw [Nat.add_zero] at hac;(have hl0:0<(a::l).length:=by simp);(have hl1:(0:Int)<((a::l).length:Int):=by omega);clear hxa ha;cases hat:isAtB a f.regs.length
    · (have HT:Hid (copyT f ⟨op,dst,a::l,imm,fn⟩=1):=Lib.hid (by show (if isAtB a f.regs.length=true then reg f.regs a else 1)=1;rw [hat];rfl));(have HA:=Lib.hid (fun j=>by have:=HI.out a f.regs.length j;rw [hat] at this;exact this));clear hat;generalize (a::l).length=n at *;(go_enter Try.func86,Try.ntmps86);(go_wp2_with fail);rw [HW.out];(go_quiet ((go_at_call 56;exact Calls.quiet_of_same (HA.out _))));go_wp2_with fail
      (go_ret);exact ⟨by rw [HT.out];rfl,below_drewN HB.out _⟩
    · obtain ⟨h0,h1⟩:0≤a∧a<f.regs.length:=of_decide_eq_true hat;obtain ⟨k,rfl⟩:=Int.eq_ofNat_of_zero_le h0;(have hkl:k<f.regs.length:=by omega);obtain ⟨b,o,y,rfl,hy,hyc,hy64⟩:=hr.int hkl;have hyc:=hK _ _ hyc;(have HT:Hid (copyT f ⟨op,dst,(k:Int)::l,imm,fn⟩=y):=Lib.hid (by show (if isAtB (k:Int) f.regs.length=true then reg f.regs k else 1)=y;rw [hat,if_pos rfl];exact reg_of rfl hy.out));(have HA:=Lib.hid (fun j=>by have:=HI.out (k:Int) f.regs.length j;rw [hat] at this;exact this));clear hat;generalize ((k:Int)::l).length=n at *
      (go_enter Try.func86,Try.ntmps86);(go_wp2_with fail);rw [HW.out];(go_quiet ((go_at_call 56;exact Calls.quiet_of_same (HA.out _))));(go_wp2_with fail);(go_quiet (fail));(go_wp2_with fail);(go_ret);exact ⟨by rw [HT.out];rfl,below_drewN (below_drewN HB.out _) _⟩
end Go.Proofs.Ytfoggldjjnabcaa
