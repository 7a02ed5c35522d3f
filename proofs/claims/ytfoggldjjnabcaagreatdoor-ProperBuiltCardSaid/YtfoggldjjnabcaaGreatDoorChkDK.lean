/- The program's Ahead: a row of kT, row i the blocks ahead of i. -/
import Derived.Test.YtfoggldjjnabcaaGreatDoorModAK
import Derived.Test.YtfoggldjjnabcaaGreatDoorAheadGK
import Derived.Deep.OwnRows
import Derived.Deep.AppendLies
import Derived.Deep.QuietTactic
import Derived.BigQuiet
namespace Go.Proofs.YtfoggldjjnabcaaGreatDoor
open Go.ChangeShapes Go.WideShapes Go.RowKit Go.Deep
set_option linter.unusedVariables false
set_option linter.unusedSimpArgs false
theorem q3n (a b:Int) (w:World) (h0:0<=a) (h1:a<b):Calls Tryz.prog 101 #[.int .i64 a,.int .i64 b] w λ e w'=>e=.returned (.bool true)/\w=w':=by
 (go_enter Tryz.func101,Tryz.ntmps101);(go_wp2_with fail);(go_ret);exact ⟨rfl,rfl⟩
theorem q5v (a b:Int) (w:World) (h:¬ (0<=a/\a<b)):Calls Tryz.prog 101 #[.int .i64 a,.int .i64 b] w λ e w'=>e=.returned (.bool false)/\w=w':=by
 by_cases h0:0<=a
 ·(have h1:b<=a:=by omega);clear h;(go_enter Tryz.func101,Tryz.ntmps101);(go_wp2_with fail);(go_ret);exact ⟨by simp [h1],rfl⟩
 ·clear h;(go_enter Tryz.func101,Tryz.ntmps101);(go_wp2_with fail);(go_ret);exact ⟨rfl,rfl⟩
theorem zl (a b:Int) (w:World):Calls Tryz.prog 101 #[.int .i64 a,.int .i64 b] w λ e w'=>e=.returned (.bool (zM a b))/\w=w':=by
 by_cases h:0<=a/\a<b
 ·exact (q3n a b w h.1 h.2).mono λ e w' h'=>⟨by rw [h'.1,zM,decide_eq_true h],h'.2⟩
 ·exact (q5v a b w h).mono λ e w' h'=>⟨by rw [h'.1,zM,decide_eq_false h],h'.2⟩
theorem q2n (l:List Int) (v:Value) (n:Int) (w:World) (hv:VS w 1 RInt v l) :
  Calls Tryz.prog 102 #[v,.int .i64 n] w λ e w'=>e=.returned (.bool (q23 l n))/\w=w':=by
 obtain ⟨A,c,rfl,hl⟩:=hv;have hlen:=hl.len
 by_cases h0:l.length=0
 ·have he:q23 l n=false:=by
   rw [List.length_eq_zero_iff.1 h0];rfl
  rw [he];clear he;(have h00:¬ (0<l.length):=by omega);have H0:=Jj h0;clear h0;(go_enter Tryz.func102,Tryz.ntmps102);(go_wp2_with fail);(go_ret);exact ⟨rfl,rfl⟩
 ·(have h1:0<l.length:=by omega);clear h0;obtain ⟨b,o,x,rfl,hx,hc,-⟩:=hl.int (k:=l.length - 1) (by omega);have he:q23 l n=(x == n):=by
   rw [q23,List.getLast?_eq_getElem?,hx.out];rfl
  rw [he];have hc':w.cell? ⟨b,o+(l.length - 1),none⟩=some (.int .i64 x):=hc;clear he hx;(go_enter Tryz.func102,Tryz.ntmps102);(go_wp2_with fail);(go_ret);exact ⟨rfl,rfl⟩
set_option maxRecDepth 100000 in
set_option maxHeartbeats 4000000 in
theorem xM (f:qB) (v:Value) (w:World) (hv:VFun w v f) (hn:f.blocks.length<=1000000) :
  Calls Tryz.prog 64 #[v] w λ e w'=>(∃ V G,e=.returned (.slice (some ⟨G,0,none⟩) f.blocks.length f.blocks.length)/\w.heap.size<=G/\Grid w' G f.blocks.length V (λ i=>qH f.blocks i))/\Below w.heap.size w w':=by
 obtain ⟨Ar,cr,A,c,rfl,hr,hb,-,-⟩:=hv;have hbl:=hb.len;obtain ⟨i0,hi,tg,tf,td⟩:=info_parts Tryz.info3;have HI:=Jj (And.intro hi (And.intro tg (And.intro tf td)));clear hi tg tf td;have tE:=run_make_row' (P:=Tryz.prog) 65 27 (.slice none 0 0) 24 Tryz.underlying65 Tryz.info27 rfl .i64 .i64 f.blocks.length (by omega) (by omega);(go_enter Tryz.func64,Tryz.ntmps64);(go_wp2_with fail);clear tE
 obtain ⟨w1,tj,wX,tH,wR,wT,-⟩:=named w #[.int .i64 f.params,.int .i64 f.result,.slice Ar f.regs.length cr,.slice A f.blocks.length c] 30;have wT:=wT 3 _ rfl;rw [<- tj];clear tj;have tK:=Grid.made w1 (w.heap.size+1) f.blocks.length wX.symm;have wv:Below (w.heap.size+1) w1 (w1.alloc (.cells (madeCells #[.slice none 0 0] f.blocks.length) 27)):=(J5 _ _).alloc (by omega) _;(have tB:w.heap.size+1<(w1.alloc (.cells (madeCells #[.slice none 0 0] f.blocks.length) 27)).heap.size:=by simp;omega);generalize w1.alloc (.cells (madeCells #[.slice none 0 0] f.blocks.length) 27)=w2 at *;have tx:=Jj wX
 clear wX
 go_loopw [15] (λ i wr=>∃ (k:Nat) (V:Nat->Value),k<=f.blocks.length/\i=.int .i64 k/\Below (w.heap.size+1) w1 wr/\w.heap.size+1<wr.heap.size/\Grid wr (w.heap.size+1) f.blocks.length V (λ i=>qH (f.blocks.take k) i)) (λ i _=>f.blocks.length - (intOf i).toNat)
 case atStart=>exact ⟨0,_,Nat.zero_le _,rfl,wv,tB,tK⟩
 case round =>
  obtain ⟨k,V,hk,rfl,ww,hs,hg⟩:=hrel;obtain ⟨wo,rfl⟩:∃ wo,wo=wr:=⟨wr,rfl⟩;(have wJ:Kept w1 wo:=yB ww (by have:=tx.out;omega));have hbox:=wJ _ _ wT
  by_cases tF:k<f.blocks.length
  ·obtain ⟨b,o,kb,rfl,tG,⟨Ap,cp,wm,-⟩,⟨Ai,ci,wu,-⟩,⟨wZ,-⟩,⟨tc,-⟩,⟨At,ct,wV,wM⟩⟩:=(SBlks.keep tH hb).at_ tF;have wm:=wJ _ _ wm;have wu:=wJ _ _ wu;have wZ:=wJ _ _ wZ;have tc:=wJ _ _ tc;have wV:=wJ _ _ wV;have htl:=wM.len;(go_wp2_with fail);clear wm wu wZ tc wV
   obtain ⟨w3,wU,tp,hk3,wQ,-,-⟩:=named wo #[.slice Ap kb.phis.length cp,.slice Ai kb.ins.length ci,.int .i64 kb.term.kind,.int .i64 kb.term.arg,.slice At kb.term.to.length ct] 51;have tL:Grid w3 (w.heap.size+1) f.blocks.length V (LJ f.blocks k []):=by
    rw [wU];exact (hg.alloc _).congr (λ i _=>(qBa _ _ _).symm)
   have tN:Below (w.heap.size+1) w1 w3:=ww.trans (wQ.mono (by omega));(have tp:w.heap.size+1<w3.heap.size:=by omega);rw [<- wU];clear wU
   go_loopw [24] (λ i wr=>∃ (j:Nat) (V:Nat->Value),j<=kb.term.to.length/\i=.int .i64 j/\Below (w.heap.size+1) w1 wr/\w.heap.size+1<wr.heap.size/\Grid wr (w.heap.size+1) f.blocks.length V (LJ f.blocks k (kb.term.to.take j))) (λ i _=>kb.term.to.length - (intOf i).toNat)
   case atStart=>exact ⟨0,V,Nat.zero_le _,rfl,tN,tp,tL⟩
   case round =>
    obtain ⟨j,V',hj,rfl,wj,wW,wg⟩:=hrel;(have tq:Kept w1 wr:=yB wj (by have:=tx.out;omega));have hboxr:=tq _ _ wT
    by_cases tJ:j<kb.term.to.length
    ·obtain ⟨b',o',x,rfl,hx,th,-⟩:=wM.int tJ;have th:=tq _ _ th
     by_cases ta:0<=x/\x<f.blocks.length
     ·obtain ⟨q,rfl⟩:∃ q:Nat,x=q:=⟨x.toNat,by omega⟩;(have hq:q<f.blocks.length:=by omega);(have tC:(q:Int)<f.blocks.length:=by omega);(have tD:(0:Int)<=q:=by omega);clear ta;have wY:=wg.row.cell hq;have tm:VS wr 1 RInt (V' q) (LJ f.blocks k (kb.term.to.take j) q):=ql (wg.own q hq) (qBd _ _ _ _ (by omega) hn);have he:=qAG f.blocks k (kb.term.to.take j) q;have HE:=Jj he
      clear he;(go_wp2_with fail);refine (q3n _ _ _ tD tC).mono ?_;rintro e w' ⟨rfl,rfl⟩;(go_wp2_with fail);refine (q2n _ _ _ _ tm).mono ?_;rintro e w' ⟨rfl,rfl⟩;rw [HE.out];cases hh:zd q (kb.term.to.take j)
      ·have HH:=Jj hh;clear hh;have hll:=qBc f.blocks k (kb.term.to.take j) q;go_wp2_with (at_builtin;refine wpList_append_lies _ rfl (.tmp 47) (.tmp 49) 27 rfl (w.heap.size+1+1) 3 i0 (.int .i64 0) 1 8 Tryz.underlying27 HI.out.1 HI.out.2.1 HI.out.2.2.1 HI.out.2.2.2 rfl (by decide) (V' q) _ _ rfl ((wg.own q hq).alloc _) ⟨wr.heap.size,0,none⟩ 1 1 [.int .i64 k] rfl rfl ?c1 ?c2 ?c0 ?c3 ?c4 ?c5 (wr.heap.size+1) ?c6 ?_)
       case c1=>exact qm wr _ _ rfl
       case c2=>exact ints_oneCell .i64 [(k:Int)]
       case c0=>omega
       case c3=>unfold maxLen;omega
       case c4=>omega
       case c5=>simp;omega
       case c6=>simp
       intro g cap w4 wk wh wl hlt4;have tw:=Grid.push (wg.alloc _) hq wk wh (by simpa using wl);have wO:=tw.congr (λ i _=>qBb hx.out i HH.out);(have tM:Below (w.heap.size+1) w1 w4:=(wj.alloc (by omega) _).grown wh (by simp;omega) (λ g hg=>by have:=((wg.own q hq).lt g hg).1;omega));(have hG4:w4.heap[w.heap.size+1]?=(wr.alloc (.cells #[.int .i64 k] 3)).heap[w.heap.size+1]?:=wh.block _ (by simp;omega) (λ e=>by have:=((wg.own q hq).lt _ e.symm).1;omega));have hrow4:=(JK (a:=⟨w.heap.size+1,q,none⟩) hG4).trans ((wg.row.alloc _).cell hq);have hfr4:=(World.frozen?_of_block (a:=⟨w.heap.size+1,q,none⟩) hG4).trans ((wg.row.alloc _).frozen q);(have tz:w.heap.size+1<w4.heap.size:=by have:=wh.size;simp at this;omega);have HP:=Jj wO
       clear tw wO wk wh wl hG4 wg wY tm;go_wp2_with fail
       go_roundw
       case rel=>exact ⟨j+1,_,by omega,by go_num,tM.setCell (by show _<=w.heap.size+1;omega) _,by simpa using tz,HP.out⟩
       case measure=>simp [intOf];omega
      ·have HH:=Jj hh;clear hh;go_wp2_with fail
       go_roundw
       case rel=>exact ⟨j+1,V',by omega,by go_num,wj,wW,wg.congr (λ i _=>q9J hx.out i HH.out)⟩
       case measure=>simp [intOf];omega
     ·(go_wp2_with fail);refine (q5v _ _ _ ta).mono ?_;rintro e w' ⟨rfl,rfl⟩;go_wp2_with fail
      go_roundw
      case rel=>exact ⟨j+1,V',by omega,by go_num,wj,wW,wg.congr (λ i hi=>q5a hx.out i (λ e=>ta (by omega)))⟩
      case measure=>simp [intOf];omega
    ·have tu:kb.term.to.take j=kb.term.to:=List.take_of_length_le (by omega);rw [tu] at wg;clear tu;go_wp2_with fail
     go_roundw
     case rel=>exact ⟨k+1,V',by omega,by go_num,wj,wW,wg.congr (λ i _=>qBe i tG.out)⟩
     case measure=>simp [intOf];omega
  ·have tr:f.blocks.take k=f.blocks:=List.take_of_length_le (by omega);rw [tr] at hg;clear tr;(go_wp2_with fail);(go_ret);exact ⟨⟨V,_,rfl,by omega,hg⟩,wR.trans (ww.mono (by omega))⟩
set_option maxRecDepth 100000 in
set_option maxHeartbeats 4000000 in
theorem q1S (t:yU) (v:Value) (w:World) (hv:VTerm w v t) :
  Calls Tryz.prog 135 #[v] w λ e w'=>e=.returned (.bool (jp t))/\Below w.heap.size w w':=by
 obtain ⟨A,c,rfl,ht,-,-⟩:=hv;have htl:=ht.len;have wg:Below w.heap.size w (w.alloc (.cells #[.int .i64 t.kind,.int .i64 t.arg,.slice A t.to.length c] 47)):=(J5 _ _).alloc (J4 _) _
 by_cases k1:t.kind=1
 ·(have HT:Hid (jp t=decide (t.to.length=1)):=Jj (by unfold jp;rw [if_pos k1]));(have k1':(t.kind == 1)=true:=by simpa using k1);clear k1;(go_enter Tryz.func135,Tryz.ntmps135);(go_wp2_with fail);(go_ret);exact ⟨by rw [HT.out];simp [Bool.beq_eq_decide_eq];try omega,wg⟩
 ·have k1':(t.kind == 1)=false:=by simpa using k1
  by_cases k2:t.kind=2
  ·(have k2':(t.kind == 2)=true:=by simpa using k2);(have HT:Hid (jp t=(decide (t.to.length=2) && decide (t.to.getD 0 0≠t.to.getD 1 0))):=Jj (by unfold jp;rw [if_neg k1,if_pos k2]));clear k1 k2
   by_cases l2:t.to.length=2
   ·obtain ⟨b,o,x,rfl,hx,wj,-⟩:=ht.int (k:=0) (by omega);obtain ⟨b',o',y,he,hy,hyc,-⟩:=ht.int (k:=1) (by omega);simp only [J0,Addr.mk.injEq] at he;obtain ⟨rfl,rfl,-⟩:=he
    have wh:Hid (jp t=decide (x≠y)):=Jj (by
     rw [HT.out,decide_eq_true l2,Bool.true_and,JJ,JJ,hx.out,hy.out];rfl)
    (have l2':((t.to.length:Int) == 2)=true:=by simp [l2]);(have l2'':2<=t.to.length:=by omega);have hltx:=block_lt_of_cell wj;simp only [Nat.add_zero] at wj;clear l2 HT;(go_enter Tryz.func135,Tryz.ntmps135);(go_wp2_with fail);(go_quiet (fail));go_wp2_with fail
    (go_ret);exact ⟨by rw [wh.out];simp [bne,Bool.beq_eq_decide_eq],below_drewN wg _⟩
   ·have l2':((t.to.length:Int) == 2)=false:=by
     rw [beq_eq_false_iff_ne];omega
    (have wh:Hid (jp t=false):=Jj (by rw [HT.out,decide_eq_false l2];rfl));clear l2 HT;(go_enter Tryz.func135,Tryz.ntmps135);(go_wp2_with fail);(go_quiet (fail));(go_wp2_with fail);(go_ret);exact ⟨by rw [wh.out];rfl,below_drewN wg _⟩
  ·have k2':(t.kind == 2)=false:=by simpa using k2
   by_cases k3:t.kind=3
   ·(have k3':(t.kind == 3)=true:=by simpa using k3);(have HT:Hid (jp t=decide (t.to.length=0)):=Jj (by unfold jp;rw [if_neg k1,if_neg k2,if_pos k3]));clear k1 k2 k3;(go_enter Tryz.func135,Tryz.ntmps135);(go_wp2_with fail);(go_ret);exact ⟨by rw [HT.out];simp [Bool.beq_eq_decide_eq];try omega,wg⟩
   ·(have k3':(t.kind == 3)=false:=by simpa using k3);(have HT:Hid (jp t=false):=Jj (by unfold jp;rw [if_neg k1,if_neg k2,if_neg k3]));clear k1 k2 k3;(go_enter Tryz.func135,Tryz.ntmps135);(go_wp2_with fail);(go_ret);exact ⟨by rw [HT.out];rfl,wg⟩
set_option maxRecDepth 100000 in
set_option maxHeartbeats 4000000 in
theorem q2o (f:qB) (v:Value) (w:World) (hv:VFun w v f) :
  Calls Tryz.prog 113 #[v] w λ e w'=>e=.returned (.bool (zZ f))/\Below w.heap.size w w':=by
 obtain ⟨Ar,cr,A,c,rfl,hr,hb,-,-⟩:=hv;have sb:=hb.len;(go_enter Tryz.func113,Tryz.ntmps113);(go_wp2_with fail);obtain ⟨w1,wW,tG,tr,wl,tm,-⟩:=named w #[.int .i64 f.params,.int .i64 f.result,.slice Ar f.regs.length cr,.slice A f.blocks.length c] 30;have tu:w1.cell? ⟨w.heap.size,3,none⟩=some (.slice A f.blocks.length c):=tm 3 _ rfl;rw [<- wW];clear wW tm;have tG:w.heap.size<w1.heap.size:=by omega
 go_loopw [10] (λ i wr=>∃ k:Nat,k<=f.blocks.length/\i=.int .i64 k/\Hid ((f.blocks.take k).all (λ b=>yP f.blocks.length b.term)=true)/\Below w1.heap.size w1 wr) (λ i _=>f.blocks.length - (intOf i).toNat)
 case atStart=>exact ⟨0,Nat.zero_le _,rfl,Jj rfl,J5 _ _⟩
 case round =>
  obtain ⟨k,hk,rfl,hi,wh⟩:=hrel;obtain ⟨wo,rfl⟩:∃ wo,wo=wr:=⟨wr,rfl⟩;have hs:=wh.size;have wT:Kept w1 wo:=q7 wh;have hB:Below w.heap.size w wo:=wl.trans (wh.mono (by omega))
  by_cases wR:k<f.blocks.length
  ·obtain ⟨b,o,kb,rfl,wO,⟨Ap,cp,wM,wm⟩,⟨Ai,ci,wQ,td⟩,⟨tJ,tp⟩,⟨tQ,tq⟩,⟨At,ct,tD,ww⟩⟩:=(SBlks.keep (tr.trans wT) hb).at_ wR;have htl:=ww.len;(go_wp2_with fail);clear wM wQ tJ tQ tD;obtain ⟨w3,wV,tT,wZ,wk,tg,-⟩:=named wo #[.slice Ap kb.phis.length cp,.slice Ai kb.ins.length ci,.int .i64 kb.term.kind,.int .i64 kb.term.arg,.slice At kb.term.to.length ct] 51;have tW:w3.cell? ⟨wo.heap.size,4,none⟩=some (.slice At kb.term.to.length ct):=tg 4 _ rfl;have hB3:Below w.heap.size w w3:=hB.trans (wk.mono (by omega));have tx:Below w1.heap.size w1 w3:=wh.trans (wk.mono (by omega));rw [<- wV]
   clear wV tg;have wu:=SInts.keep wZ ww;have wv:w3.cell? ⟨w.heap.size,3,none⟩=_:=wZ _ _ (wT _ _ tu);refine (q1S kb.term _ _ ⟨At,ct,rfl,wu,tp,tq⟩).mono ?_;rintro e w4 ⟨rfl,tP⟩;have tL:Kept w3 w4:=q7 tP;have tW:=tL _ _ tW;have hbox4:=tL _ _ wv;have wX:=SInts.keep tL wu
   have hB4:Below w.heap.size w w4:=hB3.trans (tP.mono hB3.size);(have tO:Below w1.heap.size w1 w4:=tx.trans (tP.mono (by have:=tx.size;omega)));clear wv;cases tC:jp kb.term
   ·(go_wp2_with fail);(go_ret);exact ⟨by rw [show zZ f=false from vS wO.out (show yP f.blocks.length kb.term=false by unfold yP;rw [tC];rfl)];rfl,hB4⟩
   ·have sc:=Jj tC;clear tC;go_wp2_with fail
    go_loopw [22] (λ i wr=>∃ j q:Nat,j<=kb.term.to.length/\i=.int .i64 j/\Hid ((kb.term.to.take j).all (toB f.blocks.length)=true)/\wr=w4.drewN q) (λ i _=>kb.term.to.length - (intOf i).toNat)
    case atStart=>exact ⟨0,0,Nat.zero_le _,rfl,Jj rfl,rfl⟩
    case round =>
     obtain ⟨j,q,hj,rfl,tc,rfl⟩:=hrel
     by_cases ta:j<kb.term.to.length
     ·obtain ⟨b',o',x,rfl,hx,hxc,-⟩:=wX.int ta
      by_cases x0:x=0
      ·have HF:Hid (toB f.blocks.length x=false):=Jj (decide_eq_false (by omega));(have x0':(x == 0)=true:=by simpa using x0);clear x0;(go_wp2_with fail);(go_ret);exact ⟨by rw [show zZ f=false from vS wO.out (show yP f.blocks.length kb.term=false by unfold yP;rw [vS hx.out HF.out];simp)];rfl,below_drewN hB4 _⟩
      ·(have x0':(x == 0)=false:=by simpa using x0);(have HF:Hid (toB f.blocks.length x=zM x f.blocks.length):=Jj (by unfold toB zM;congr 1;rw [eq_iff_iff];omega));clear x0;(go_wp2_with fail);refine (zl _ _ _).mono ?_;rintro e w' ⟨rfl,rfl⟩;cases tB:zM x f.blocks.length
       ·have tS:=Jj tB;clear tB;(go_wp2_with fail);(go_ret);exact ⟨by rw [show zZ f=false from vS wO.out (show yP f.blocks.length kb.term=false by unfold yP;rw [vS hx.out (HF.out.trans tS.out)];simp)];rfl,below_drewN hB4 _⟩
       ·have tS:=Jj tB;clear tB;go_wp2_with fail
        go_roundw
        case rel=>exact ⟨j+1,q,by omega,by go_num,Jj (by rw [yN hx.out tc.out,HF.out,tS.out]),rfl⟩
        case measure=>simp [intOf];omega
     ·have hd:=yu tc.out (Nat.le_of_not_lt ta);have HD:=Jj hd;clear hd;go_wp2_with fail
      go_roundw
      case rel=>exact ⟨k+1,by omega,by go_num,Jj (by rw [yN wO.out hi.out];unfold yP;rw [sc.out,HD.out];rfl),below_drewN tO _⟩
      case measure=>simp [intOf];omega
  ·have hd:=yu hi.out (Nat.le_of_not_lt wR);have HD:Hid (zZ f=true):=Jj hd;clear hd;(go_wp2_with fail);(go_ret);exact ⟨by rw [HD.out];rfl,hB⟩
set_option maxRecDepth 100000 in
set_option maxHeartbeats 4000000 in
theorem q2S (f:qB) (v:Value) (w:World) (hv:VFun w v f) (hn:f.blocks.length<=1000000) :
  Calls Tryz.prog 114 #[v] w λ e w'=>e=.returned (.bool (q05 f))/\Below w.heap.size w w':=by
 have tY:=hv;obtain ⟨Ar,cr,A,c,rfl,hr,hb,hp64,hr64⟩:=hv;have sb:=hb.len;(go_enter Tryz.func114,Tryz.ntmps114);(go_wp2_with fail);obtain ⟨w1,wW,tG,tr,wl,tm,-⟩:=named w #[.int .i64 f.params,.int .i64 f.result,.slice Ar f.regs.length cr,.slice A f.blocks.length c] 30;have tu:w1.cell? ⟨w.heap.size,3,none⟩=some (.slice A f.blocks.length c):=tm 3 _ rfl;rw [<- wW];clear wW tm
 (have tG:w.heap.size<w1.heap.size:=by omega);refine (xM f _ _ (VFun.keep tr tY) hn).mono ?_;rintro e w2 ⟨⟨V,G,rfl,hG,hg⟩,tz⟩;have tZ:=hg.reads hn;have tV:Kept w1 w2:=q7 tz;have tu:=tV _ _ tu;have hB2:Below w.heap.size w w2:=wl.trans (tz.mono wl.size);have tM:=tr.trans tV;have hs2:=tz.size
 clear hg hG tz;go_wp2_with fail
 go_loopw [13] (λ i wr=>∃ k:Nat,k<=f.blocks.length/\i=.int .i64 k/\Hid (xj f.blocks k=true)/\Below w2.heap.size w2 wr) (λ i _=>f.blocks.length - (intOf i).toNat)
 case atStart=>exact ⟨0,Nat.zero_le _,rfl,Jj rfl,J5 _ _⟩
 case round =>
  obtain ⟨k,hk,rfl,hi,wh⟩:=hrel;obtain ⟨wo,rfl⟩:∃ wo,wo=wr:=⟨wr,rfl⟩;have hs:=wh.size;have wT:Kept w2 wo:=q7 wh;have hB:Below w.heap.size w wo:=hB2.trans (wh.mono (by omega))
  by_cases wR:k<f.blocks.length
  ·obtain ⟨b,o,kb,rfl,wO,⟨Ap,cp,wM,wm⟩,⟨Ai,ci,wQ,td⟩,⟨tJ,tp⟩,⟨tQ,tq⟩,⟨At,ct,tD,ww⟩⟩:=(SBlks.keep (tM.trans wT) hb).at_ wR;have hpl:=wm.len;(obtain ⟨b2,o2,l,he,hl,A2,c2,tw,tF⟩:=(SL.keep wT (RRow.keep wT) tZ).at_ (k:=k) (by rw [k8];exact wR));simp only [J0,Addr.mk.injEq] at he;obtain ⟨rfl,rfl,-⟩:=he;have hl:=q2P hl.out;have HM:=Jj (λ h=>q3f wO.out (h:xj f.blocks k=true));have HS:=Jj (q3e wO.out);rw [<- hl] at HM HS
   clear hl;have hll:=tF.len;rw [Nat.zero_add,Nat.mul_one] at tw;(go_wp2_with fail);clear wM wQ tJ tQ tD;obtain ⟨w3,wV,tT,wZ,wk,-,-⟩:=named wo #[.slice Ap kb.phis.length cp,.slice Ai kb.ins.length ci,.int .i64 kb.term.kind,.int .i64 kb.term.arg,.slice At kb.term.to.length ct] 51;(have hB3:Below w.heap.size w w3:=hB.trans (wk.mono (by have:=hB.size;omega)));have tx:Below w2.heap.size w2 w3:=wh.trans (wk.mono (by omega));have tw:=wZ _ _ tw
   have wJ:=SPhis.keep wZ wm;(have tT:wo.heap.size<w3.heap.size:=by omega);rw [<- wV];clear wV
   go_loopw [21] (λ i wr=>∃ j:Nat,j<=kb.phis.length/\i=.int .i64 j/\Hid ((kb.phis.take j).all (λ p=>decide (p.args.length=l.length))=true)/\Below w3.heap.size w3 wr) (λ i _=>kb.phis.length - (intOf i).toNat)
   case atStart=>exact ⟨0,Nat.zero_le _,rfl,Jj rfl,J5 _ _⟩
   case round =>
    obtain ⟨j,hj,rfl,tc,wg⟩:=hrel;have hsr:=wg.size;have tU:Kept w3 wr:=q7 wg;have tj:=tU _ _ tw;have hBr:Below w.heap.size w wr:=hB3.trans (wg.mono hB3.size)
    by_cases ta:j<kb.phis.length
    ·obtain ⟨b',o',p,rfl,hp,⟨hpd,-⟩,Aa,ca,hag,tR⟩:=(SPhis.keep tU wJ).at_ ta;have hal:=tR.len;(have hk0:(0:Int)<=k:=by omega);have hk1':(k:Int)<f.blocks.length:=by omega
     by_cases wY:p.args.length=l.length
     ·(have tH:((p.args.length:Int) != l.length)=false:=by simp [wY]);have HP:Hid (decide (p.args.length=l.length)=true):=Jj (decide_eq_true wY);clear wY;(go_wp2_with fail);obtain ⟨w5,wU,tE,tK,wj,tf,-⟩:=named wr #[.int .i64 p.dst,.slice Aa p.args.length ca] 55;have tN:w5.cell? ⟨wr.heap.size,1,none⟩=some (.slice Aa p.args.length ca):=tf 1 _ rfl;have th:=tK _ _ tj;have tX:Below w3.heap.size w3 w5:=wg.trans (wj.mono (by omega));have hB5:Below w.heap.size w w5:=hBr.trans (wj.mono hBr.size)
      rw [<- wU];clear wU tf tE;(go_quiet (fail));go_wp2_with fail
      go_roundw
      case rel=>exact ⟨j+1,by omega,by go_num,Jj (by rw [yN hp.out tc.out];exact HP.out),below_drewN tX _⟩
      case measure=>simp [intOf];omega
     ·(have tH:((p.args.length:Int) != l.length)=true:=by rw [bne_iff_ne];omega);have HP:Hid (decide (p.args.length=l.length)=false):=Jj (decide_eq_false wY);clear wY;(go_wp2_with fail);obtain ⟨w5,wU,tE,tK,wj,tf,-⟩:=named wr #[.int .i64 p.dst,.slice Aa p.args.length ca] 55;have tN:w5.cell? ⟨wr.heap.size,1,none⟩=some (.slice Aa p.args.length ca):=tf 1 _ rfl;have th:=tK _ _ tj;have tX:Below w3.heap.size w3 w5:=wg.trans (wj.mono (by omega));have hB5:Below w.heap.size w w5:=hBr.trans (wj.mono hBr.size)
      rw [<- wU];clear wU tf tE;(go_quiet (fail));(go_wp2_with fail);(go_ret);exact ⟨by rw [show q05 f=false from HS.out (vS hp.out HP.out)];rfl,below_drewN hB5 _⟩
    ·have hd:=yu tc.out (Nat.le_of_not_lt ta);have HD:=Jj hd;clear hd;go_wp2_with fail
     go_roundw
     case rel=>exact ⟨k+1,by omega,by go_num,Jj (by rw [HM.out hi.out];exact HD.out),tx.trans (wg.mono (by omega))⟩
     case measure=>simp [intOf];omega
  ·have HD:Hid (q05 f=true):=Jj (q3g hi.out (Nat.le_of_not_lt wR));(go_wp2_with fail);(go_ret);exact ⟨by rw [HD.out];rfl,hB⟩
def q1U (c:Int):Value:=if c=0 then .nilIface else .iface 39 (.int .i64 c)
theorem jP:q1U 0=.nilIface:=rfl
theorem yL {c:Int} (h:c≠0):q1U c=.iface 39 (.int .i64 c):=if_neg h
set_option maxRecDepth 100000 in
set_option maxHeartbeats 4000000 in
theorem q2D (l:List Int) (v:Value) (n:Int) (w:World) (hv:VS w 1 RInt v l) :
  Calls Tryz.prog 142 #[v,.int .i64 n] w λ e w'=>e=.returned (.bool (zq l n))/\w=w':=by
 obtain ⟨A,c,rfl,hl⟩:=hv;have hll:=hl.len;(go_enter Tryz.func142,Tryz.ntmps142);(go_wp2_with fail);go_loop [9] (λ i=>∃ k:Nat,k<=l.length/\i=.int .i64 k/\Hid ((l.take k).all (λ a=>decide (0<=a/\a<n))=true)) (λ i=>l.length - (intOf i).toNat)
 case atStart=>exact ⟨0,Nat.zero_le _,rfl,Jj rfl⟩
 case round =>
  obtain ⟨k,hk,rfl,hi⟩:=hrel
  by_cases wT:k<l.length
  ·obtain ⟨b,o,x,rfl,hx,tB,-⟩:=hl.int wT;(go_wp2_with fail);refine (zl _ _ _).mono ?_;rintro e w' ⟨rfl,rfl⟩;cases wg:zM x n
   ·have wj:Hid (decide (0<=x/\x<n)=false):=Jj wg;clear wg;(go_wp2_with fail);(go_ret);exact ⟨by rw [show zq l n=false from vS hx.out wj.out];rfl,rfl⟩
   ·have wj:Hid (decide (0<=x/\x<n)=true):=Jj wg;clear wg;(go_wp2_with fail);go_round
    case rel=>exact ⟨k+1,by omega,by go_num,Jj (by rw [yN hx.out hi.out];exact wj.out)⟩
    case measure=>simp [intOf];omega
  ·have HD:=Jj (yu hi.out (Nat.le_of_not_lt wT));(go_wp2_with fail);(go_ret);exact ⟨by rw [show zq l n=true from HD.out];rfl,rfl⟩
theorem q2E {l:List Int} {n:Int} (h:zq l n=true) {k:Nat} {x:Int} (hx:l[k]?=some x):0<=x/\x<n:=by
 unfold zq at h;have:=List.all_eq_true.1 h x (Jz hx);simpa using this
theorem q0a {regs:List Int} {r:Int} (h0:0<=r) (h1:r<regs.length):∃ k:Nat,r=k/\k<regs.length:=⟨r.toNat,by omega,by omega⟩
set_option maxRecDepth 100000 in
set_option maxHeartbeats 4000000 in
theorem q6g (f:qB) (p:PhiD) (v u:Value) (w:World) (hv:VFun w v f) (hu:VPhi w u p) :
  Calls Tryz.prog 136 #[v,u] w λ e w'=>e=.returned (q1U (jA f p))/\Below w.heap.size w w':=by
 obtain ⟨Ar,cr,A,c,rfl,hr,hb,wR,wQ⟩:=hv;obtain ⟨pd,pa⟩:=p;obtain ⟨Ap,cp,rfl,hp,hd64⟩:=hu;dsimp only at *;have tE:=hr.len;have hpl:=hp.len;(go_enter Tryz.func136,Tryz.ntmps136);(go_wp2_with fail);obtain ⟨w1,wM,wO,td,wm,wk,-⟩:=named w #[.int .i64 f.params,.int .i64 f.result,.slice Ar f.regs.length cr,.slice A f.blocks.length c] 30
 have wu:w1.cell? ⟨w.heap.size,2,none⟩=some (.slice Ar f.regs.length cr):=wk 2 _ rfl;rw [<- wM];clear wM wk;obtain ⟨w2,wJ,wZ,wU,wl,wk,-⟩:=named w1 #[.int .i64 pd,.slice Ap pa.length cp] 55;have wu:=wU _ _ wu;have hd0:w2.cell? ⟨w1.heap.size,0,none⟩=some (.int .i64 pd):=wk 0 _ rfl;have tg:w2.cell? ⟨w1.heap.size,1,none⟩=some (.slice Ap pa.length cp):=wk 1 _ rfl;have hB2:Below w.heap.size w w2:=wm.trans (wl.mono (by omega));have wh:=td.trans wU
 rw [show w.heap.size+1=w1.heap.size from wO.symm,<- wJ];clear wJ wk wO wZ;have tu:=SInts.keep wh hp;have wV:=SInts.keep wh hr;refine (zl _ _ _).mono ?_;rintro e w' ⟨rfl,rfl⟩;cases wg:zM pd f.regs.length
 ·(have HP:Hid (jA f ⟨pd,pa⟩=4):=Jj (by unfold jA;rw [if_neg];unfold zM at wg;simp only [wg,Bool.false_and];exact Bool.false_ne_true));clear wg;(go_wp2_with fail);(go_ret);exact ⟨by rw [HP.out];rfl,hB2⟩
 ·have wj:=Jj wg;clear wg;(go_wp2_with fail);refine (q2D pa _ _ _ ⟨Ap,cp,rfl,tu⟩).mono ?_;rintro e w' ⟨rfl,rfl⟩;cases wW:zq pa f.regs.length
  ·(have HP:Hid (jA f ⟨pd,pa⟩=4):=Jj (by unfold jA;rw [if_neg];simp only [wW,Bool.and_false];exact Bool.false_ne_true));clear wW;(go_wp2_with fail);(go_ret);exact ⟨by rw [HP.out];rfl,hB2⟩
  ·have tw:=Jj wW;clear wW
   have HP:Hid (jA f ⟨pd,pa⟩=if (pa.all λ a=>decide (reg f.regs a=reg f.regs pd)) then 0 else 3):=Jj (by
    have:=wj.out;unfold zM at this;unfold jA;dsimp only;rw [this,tw.out];rfl)
   obtain ⟨th,tf⟩:0<=pd/\pd<f.regs.length:=of_decide_eq_true wj.out;obtain ⟨dn,rfl,tF⟩:=q0a th tf;obtain ⟨br,or,y,rfl,hy,tx,-⟩:=wV.int tF;have HR:Hid (reg f.regs dn=y):=Jj (jS rfl hy.out);go_wp2_with fail
   go_loopw [27] (λ i wr=>∃ k q:Nat,k<=pa.length/\i=.int .i64 k/\Hid ((pa.take k).all (λ a=>decide (reg f.regs a=reg f.regs dn))=true)/\wr=w2.drewN q) (λ i _=>pa.length - (intOf i).toNat)
   case atStart=>exact ⟨0,0,Nat.zero_le _,rfl,Jj rfl,rfl⟩
   case round =>
    obtain ⟨k,q,hk,rfl,hi,rfl⟩:=hrel
    by_cases wT:k<pa.length
    ·obtain ⟨b,o,x,rfl,hx,tB,-⟩:=tu.int wT;obtain ⟨tD,tC⟩:=q2E tw.out hx.out;obtain ⟨xn,rfl,tz⟩:=q0a tD tC;obtain ⟨br',or',z,he,hz,hzc,-⟩:=wV.int tz;simp only [J0,Addr.mk.injEq] at he;obtain ⟨rfl,rfl,-⟩:=he;have HZ:Hid (reg f.regs xn=z):=Jj (jS rfl hz.out)
     by_cases wv:z=y
     ·(have wX:(z != y)=false:=by simp [wv]);have tp:=Jj wv;clear wv;(go_wp2_with fail);(go_quiet (fail));go_wp2_with fail
      go_roundw
      case rel=>exact ⟨k+1,_,by omega,by go_num,Jj (by rw [yN hx.out hi.out];rw [HZ.out,HR.out];exact decide_eq_true tp.out),rfl⟩
      case measure=>simp [intOf];omega
     ·(have wX:(z != y)=true:=by rw [bne_iff_ne];exact wv);have tp:=Jj wv;clear wv;(go_wp2_with fail);(go_quiet (fail));(go_wp2_with fail);(go_ret);exact ⟨by rw [HP.out,vS hx.out (by rw [HZ.out,HR.out];exact decide_eq_false tp.out)];rfl,below_drewN hB2 _⟩
    ·have HD:=Jj (yu hi.out (Nat.le_of_not_lt wT));(go_wp2_with fail);(go_ret);exact ⟨by rw [HP.out,HD.out];rfl,below_drewN hB2 _⟩
set_option maxRecDepth 100000 in
set_option maxHeartbeats 4000000 in
theorem q7M (f:qB) (t:yU) (v u:Value) (w:World) (hv:VFun w v f) (hu:VTerm w u t) :
  Calls Tryz.prog 145 #[v,u] w λ e w'=>e=.returned (.int .i64 (zu f t))/\Below w.heap.size w w':=by
 obtain ⟨Ar,cr,A,c,rfl,hr,hb,wR,wQ⟩:=hv;obtain ⟨At,ct,rfl,ht,ta,tm⟩:=hu;have hB:Below w.heap.size w ((w.alloc (.cells #[.int .i64 f.params,.int .i64 f.result,.slice Ar f.regs.length cr,.slice A f.blocks.length c] 30)).alloc (.cells #[.int .i64 t.kind,.int .i64 t.arg,.slice At t.to.length ct] 47)) :=
  ((J5 _ _).alloc (J4 _) _).alloc (by simp) _
 by_cases k2:t.kind=2
 ·(have HT:Hid (zu f t=2):=Jj (by unfold zu;rw [if_pos k2]));(have k2':(t.kind == 2)=true:=by simpa using k2);clear k2;(go_enter Tryz.func145,Tryz.ntmps145);(go_wp2_with fail);(go_ret);exact ⟨by rw [HT.out];rfl,hB⟩
 ·have k2':(t.kind == 2)=false:=by simpa using k2
  by_cases k3:t.kind=3
  ·(have HT:Hid (zu f t=f.result):=Jj (by unfold zu;rw [if_neg k2,if_pos k3]));(have k3':(t.kind == 3)=true:=by simpa using k3);clear k2 k3;(go_enter Tryz.func145,Tryz.ntmps145);(go_wp2_with fail);(go_ret);exact ⟨by rw [HT.out];rfl,hB⟩
  ·(have HT:Hid (zu f t=0):=Jj (by unfold zu;rw [if_neg k2,if_neg k3]));(have k3':(t.kind == 3)=false:=by simpa using k3);clear k2 k3;(go_enter Tryz.func145,Tryz.ntmps145);(go_wp2_with fail);(go_ret);exact ⟨by rw [HT.out];rfl,hB⟩
set_option maxRecDepth 100000 in
set_option maxHeartbeats 4000000 in
theorem q4p (f:qB) (t:yU) (v u:Value) (w:World) (hv:VFun w v f) (hu:VTerm w u t) :
  Calls Tryz.prog 138 #[v,u] w λ e w'=>e=.returned (q1U (je f t))/\Below w.heap.size w w':=by
 have tq:=hv;have tr:=hu;obtain ⟨Ar,cr,A,c,rfl,hr,hb,wR,wQ⟩:=hv;obtain ⟨At,ct,rfl,ht,ta,tm⟩:=hu;have tE:=hr.len;(go_enter Tryz.func138,Tryz.ntmps138);(go_wp2_with fail);obtain ⟨w1,wM,wO,td,wm,wk,-⟩:=named w #[.int .i64 f.params,.int .i64 f.result,.slice Ar f.regs.length cr,.slice A f.blocks.length c] 30;have wu:w1.cell? ⟨w.heap.size,2,none⟩=some (.slice Ar f.regs.length cr):=wk 2 _ rfl
 rw [<- wM];clear wM wk;obtain ⟨w2,wJ,wZ,wU,wl,wk,-⟩:=named w1 #[.int .i64 t.kind,.int .i64 t.arg,.slice At t.to.length ct] 47;have wu:=wU _ _ wu;have tg:w2.cell? ⟨w1.heap.size,1,none⟩=some (.int .i64 t.arg):=wk 1 _ rfl;have hB2:Below w.heap.size w w2:=wm.trans (wl.mono (by omega));have wh:=td.trans wU;rw [show w.heap.size+1=w1.heap.size from wO.symm,<- wJ];clear wJ wk wO wZ
 refine (q7M f t _ _ _ (VFun.keep wh tq) (VTerm.keep wh tr)).mono ?_;rintro e w3 ⟨rfl,tj⟩;have tc:=q7 tj;have wu:=tc _ _ wu;have tg:=tc _ _ tg;have hB3:Below w.heap.size w w3:=hB2.trans (tj.mono hB2.size);have wV:=SInts.keep (wh.trans tc) hr;clear tj tq tr;have HT:Hid (je f t=if zu f t=0 then (if t.arg=-1 then 0 else 3) else if 0<=t.arg/\t.arg<f.regs.length then (if reg f.regs t.arg=zu f t then 0 else 3) else 4):=Jj rfl
 generalize zu f t=want at *;generalize t.arg=arg at *
 by_cases w0:want=0
 ·have HW:=Jj w0;(have w0':(want == 0)=true:=by simpa using w0);clear w0
  by_cases a0:arg=-1
  ·have HA:=Jj a0;(have a0':(arg != -1)=false:=by simp [a0]);clear a0;(go_wp2_with fail);(go_ret);exact ⟨by rw [HT.out,if_pos HW.out,if_pos HA.out];rfl,hB3⟩
  ·have HA:=Jj a0;(have a0':(arg != -1)=true:=by rw [bne_iff_ne];exact a0);clear a0;(go_wp2_with fail);(go_ret);exact ⟨by rw [HT.out,if_pos HW.out,if_neg HA.out];rfl,hB3⟩
 ·have HW:=Jj w0;(have w0':(want == 0)=false:=by simpa using w0);clear w0;(go_wp2_with fail);refine (zl _ _ _).mono ?_;rintro e w' ⟨rfl,rfl⟩;cases wg:zM arg f.regs.length
  ·have wj:Hid (¬ (0<=arg/\arg<f.regs.length)):=Jj (of_decide_eq_false wg);clear wg;(go_wp2_with fail);(go_ret);exact ⟨by rw [HT.out,if_neg HW.out,if_neg wj.out];rfl,hB3⟩
  ·have wj:Hid (0<=arg/\arg<f.regs.length):=Jj (of_decide_eq_true wg);clear wg;obtain ⟨an,rfl,tG⟩:=q0a wj.out.1 wj.out.2;obtain ⟨br,or,y,rfl,hy,tx,-⟩:=wV.int tG;have HR:Hid (reg f.regs an=y):=Jj (jS rfl hy.out)
   by_cases ww:y=want
   ·(have wY:(y != want)=false:=by simp [ww]);have HY:=Jj ww;clear ww;(go_wp2_with fail);(try (go_quiet (fail);go_wp2_with fail));(go_ret);exact ⟨by rw [HT.out,if_neg HW.out,if_pos wj.out,HR.out,if_pos HY.out];rfl,by first | exact hB3 | exact below_drewN hB3 _⟩
   ·(have wY:(y != want)=true:=by rw [bne_iff_ne];exact ww);have HY:=Jj ww;clear ww;(go_wp2_with fail);(try (go_quiet (fail);go_wp2_with fail));(go_ret);exact ⟨by rw [HT.out,if_neg HW.out,if_pos wj.out,HR.out,if_neg HY.out];rfl,by first | exact hB3 | exact below_drewN hB3 _⟩
def kQ:Prop:=∀ (m:List qB) (f:qB) (x:qN) (vm vf vx:Value) (w:World),VMod w vm m->VFun w vf f->VIns w vx x->(∀ t∈f.regs,t=1\/t=2) ->
 Calls Tryz.prog 137 #[vm,vf,vx] w λ e w'=>e=.returned (q1U (zm m f x))/\Below w.heap.size w w'
theorem jZ {α:Type} {l:List α} {k:Nat} {x:α} (p:α->Int) (h:l[k]?=some x) (h0:qo ((l.take k).map p)=0):qo ((l.take (k+1)).map p)=p x:=by
 have:=q0D (q8P p h) (by rw [map_take];exact h0)
 rwa [map_take] at this
theorem yp {α:Type} {l:List α} {k:Nat} {x:α} (p:α->Int) (h:l[k]?=some x) (h0:qo ((l.take k).map p)=0) (hx:p x≠0):qo (l.map p)=p x :=
 q3z (q8P p h) (by rw [map_take];exact h0) hx
theorem yq {α:Type} {l:List α} {k:Nat} (p:α->Int) (h0:qo ((l.take k).map p)=0) (hk:l.length<=k):qo (l.map p)=0:=by rwa [List.take_of_length_le hk] at h0
set_option maxRecDepth 100000 in
set_option maxHeartbeats 4000000 in
theorem q3W (OI:kQ) (m:List qB) (f:qB) (b:qE) (vm vf vb:Value) (w:World) (hm:VMod w vm m) (hf:VFun w vf f) (hb:VBlk w vb b) (tf:∀ t∈f.regs,t=1\/t=2) :
  Calls Tryz.prog 115 #[vm,vf,vb] w λ e w'=>e=.returned (q1U (qt m f b))/\Below w.heap.size w w':=by
 have tB:=hm;have wW:=hf;have wY:=Jj tf;clear tf;obtain ⟨Am,cm,rfl,hms⟩:=hm;obtain ⟨Ar,cr,Ab,cb,rfl,hr,hbs,hp64,hr64⟩:=hf;obtain ⟨Ap,cp,Ai,ci,At,ct,rfl,th,tm,tw,wV,wX⟩:=hb;have hpl:=th.len;have hil:=tm.len
 (go_enter Tryz.func115,Tryz.ntmps115);(go_wp2_with fail);obtain ⟨wa,tc,wT,tC,tr,tp,-⟩:=named w #[.slice Am m.length cm] 24;obtain ⟨wb,ta,tg,tj,tq,wv,-⟩:=named wa #[.int .i64 f.params,.int .i64 f.result,.slice Ar f.regs.length cr,.slice Ab f.blocks.length cb] 30;obtain ⟨w1,td,tz,wk,tu,ww,-⟩:=named wb #[.slice Ap b.phis.length cp,.slice Ai b.ins.length ci,.int .i64 b.term.kind,.int .i64 b.term.arg,.slice At b.term.to.length ct] 51;rw [<- tc,<- ta,<- td];rw [wT] at wv;rw [tg,wT] at ww;have hB1:Below w.heap.size w w1:=(tr.trans (tq.mono (by omega))).trans (tu.mono (by omega))
 have q0:w1.cell? ⟨w.heap.size,0,none⟩=some (.slice Am m.length cm):=wk _ _ (tj _ _ (tp 0 _ rfl));have f0:w1.cell? ⟨w.heap.size+1,0,none⟩=some (.int .i64 f.params):=wk _ _ (wv 0 _ rfl);have f1:w1.cell? ⟨w.heap.size+1,1,none⟩=some (.int .i64 f.result):=wk _ _ (wv 1 _ rfl);have f2:w1.cell? ⟨w.heap.size+1,2,none⟩=some (.slice Ar f.regs.length cr):=wk _ _ (wv 2 _ rfl);have f3:w1.cell? ⟨w.heap.size+1,3,none⟩=some (.slice Ab f.blocks.length cb):=wk _ _ (wv 3 _ rfl);have b1:w1.cell? ⟨w.heap.size+1+1,1,none⟩=some (.slice Ai b.ins.length ci):=ww 1 _ rfl;have b2:w1.cell? ⟨w.heap.size+1+1,2,none⟩=some (.int .i64 b.term.kind):=ww 2 _ rfl;have b3:w1.cell? ⟨w.heap.size+1+1,3,none⟩=some (.int .i64 b.term.arg):=ww 3 _ rfl;have b4:w1.cell? ⟨w.heap.size+1+1,4,none⟩=some (.slice At b.term.to.length ct):=ww 4 _ rfl
 (have tz:w.heap.size+1+1<w1.heap.size:=by omega);clear tc ta td wT tg tp wv ww tC tj wk tr tq tu;have wk:=q7 hB1
 go_loopw [16] (λ i wr=>∃ k:Nat,k<=b.phis.length/\i=.int .i64 k/\Below w1.heap.size w1 wr/\Hid (qo ((b.phis.take k).map (jA f))=0)) (λ i _=>b.phis.length - (intOf i).toNat)
 case atStart=>exact ⟨0,Nat.zero_le _,rfl,J5 _ _,Jj rfl⟩
 case round =>
  obtain ⟨k,hk,rfl,wg,hi⟩:=hrel;obtain ⟨wo,rfl⟩:∃ wo,wo=wr:=⟨wr,rfl⟩;have wh:Kept w1 wo:=q7 wg;have hB:Below w.heap.size w wo:=hB1.trans (wg.mono (by omega));have tx:=wg.size;have e0:=wh _ _ f0;have e1:=wh _ _ f1;have e2:=wh _ _ f2;have e3:=wh _ _ f3
  (have n1:w.heap.size+1<wo.heap.size:=by omega);have n2:w.heap.size+1+1<wo.heap.size:=by omega
  by_cases wO:k<b.phis.length
  ·obtain ⟨bb,oo,p,rfl,hp,⟨hpd,wM⟩,Aa,ca,tE,wu⟩:=(SPhis.keep (wk.trans wh) th).at_ wO;(go_wp2_with fail);obtain ⟨w2,wJ,wU,wQ,wj,-,-⟩:=named wo #[.int .i64 p.dst,.slice Aa p.args.length ca] 55;have wR:Below w1.heap.size w1 w2:=wg.trans (wj.mono (by omega));have hB2:Below w.heap.size w w2:=hB.trans (wj.mono hB.size);rw [<- wJ];clear wJ wU;refine (q6g f p _ _ _ (VFun.keep ((wk.trans wh).trans wQ) wW) ⟨Aa,ca,rfl,SInts.keep wQ wu,wM⟩).mono ?_;rintro e w3 ⟨rfl,wm⟩
   have wl:Below w1.heap.size w1 w3:=wR.trans (wm.mono wR.size);have hB3:Below w.heap.size w w3:=hB2.trans (wm.mono hB2.size)
   by_cases hc:jA f p=0
   ·have HC:=Jj hc;rw [hc,jP];clear hc;go_wp2_with fail
    go_roundw
    case rel=>exact ⟨k+1,by omega,by go_num,wl,Jj (by rw [jZ (jA f) hp.out hi.out];exact HC.out)⟩
    case measure=>simp [intOf];omega
   ·have HC:Hid (qt m f b=jA f p):=Jj (by
     have:=yp (jA f) hp.out hi.out hc
     unfold qt;rw [this,if_neg hc])
    rw [yL hc];have wZ:=Jj hc;clear hc;(go_wp2_with fail);(go_ret);exact ⟨by rw [HC.out,yL wZ.out];rfl,hB3⟩
  ·have HP:=Jj (yq (jA f) hi.out (Nat.le_of_not_lt wO));have tD:=wg;have y1:=wh _ _ b1;clear hi;go_wp2_with fail
   go_loopw [30] (λ i wr=>∃ k:Nat,k<=b.ins.length/\i=.int .i64 k/\Below w1.heap.size w1 wr/\Hid (qo ((b.ins.take k).map (zm m f))=0)) (λ i _=>b.ins.length - (intOf i).toNat)
   case atStart=>exact ⟨0,Nat.zero_le _,rfl,tD,Jj rfl⟩
   case round =>
    obtain ⟨k,hk,rfl,wg,hi⟩:=hrel;have wh:Kept w1 wr:=q7 wg;have hB:Below w.heap.size w wr:=hB1.trans (wg.mono (by omega));have tx:=wg.size;have a0:=wh _ _ q0;have e0:=wh _ _ f0;have e1:=wh _ _ f1;have e2:=wh _ _ f2;have e3:=wh _ _ f3
    (have n0:w.heap.size<wr.heap.size:=by omega);(have n1:w.heap.size+1<wr.heap.size:=by omega);have n2:w.heap.size+1+1<wr.heap.size:=by omega
    by_cases wO:k<b.ins.length
    ·obtain ⟨bb,oo,x,rfl,hx,⟨h0,z0⟩,⟨h1,z1⟩,⟨Aa,ca,tE,wu⟩,⟨h3,z3⟩,⟨h4,z4⟩⟩:=(SInss.keep (wk.trans wh) tm).at_ wO;(go_wp2_with fail);obtain ⟨w2,wJ,wU,wQ,wj,-,-⟩:=named wr #[.int .i64 x.op,.int .i64 x.dst,.slice Aa x.args.length ca,.int .i64 x.imm,.int .i64 x.fn] 53;have wR:Below w1.heap.size w1 w2:=wg.trans (wj.mono (by omega));have hB2:Below w.heap.size w w2:=hB.trans (wj.mono hB.size);rw [<- wJ];clear wJ wU;have hK:=(wk.trans wh).trans wQ;refine (OI m f x _ _ _ _ (VMod.keep hK tB) (VFun.keep hK wW) ⟨Aa,ca,rfl,SInts.keep wQ wu,z0,z1,z3,z4⟩ wY.out).mono ?_
     rintro e w3 ⟨rfl,wm⟩;have wl:Below w1.heap.size w1 w3:=wR.trans (wm.mono wR.size);have hB3:Below w.heap.size w w3:=hB2.trans (wm.mono hB2.size)
     by_cases hc:zm m f x=0
     ·have HC:=Jj hc;rw [hc,jP];clear hc;go_wp2_with fail
      go_roundw
      case rel=>exact ⟨k+1,by omega,by go_num,wl,Jj (by rw [jZ (zm m f) hx.out hi.out];exact HC.out)⟩
      case measure=>simp [intOf];omega
     ·have HC:Hid (qt m f b=zm m f x):=Jj (by
       have:=yp (zm m f) hx.out hi.out hc
       unfold qt;rw [HP.out,if_pos rfl,this,if_neg hc])
      rw [yL hc];have wZ:=Jj hc;clear hc;(go_wp2_with fail);(go_ret);exact ⟨by rw [HC.out,yL wZ.out];rfl,hB3⟩
    ·have HI:Hid (qt m f b=je f b.term):=Jj (by
      have:=yq (zm m f) hi.out (Nat.le_of_not_lt wO)
      unfold qt;rw [HP.out,if_pos rfl,this,if_pos rfl])
     have t2:=wh _ _ b2;have t3:=wh _ _ b3;have t4:=wh _ _ b4;have hK:=wk.trans wh;(go_wp2_with fail);refine (q4p f b.term _ _ _ (VFun.keep hK wW) ⟨At,ct,rfl,SInts.keep hK tw,wV,wX⟩).mono ?_;rintro e w3 ⟨rfl,wm⟩;have hB3:Below w.heap.size w w3:=hB.trans (wm.mono hB.size);go_wp2_with fail
     (go_ret);exact ⟨by rw [HI.out];rfl,hB3⟩
end Go.Proofs.YtfoggldjjnabcaaGreatDoor
