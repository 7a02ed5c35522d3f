/- The program's Ahead: a row of rows, row i the blocks ahead of i. -/
import Derived.Test.YtfoggldjjnabcaaGreatDoorAheadGJ
import Derived.Deep.OwnRows
import Derived.Deep.AppendLies
import Derived.Deep.QuietTactic
import Derived.BigQuiet
namespace Go.Proofs.YtfoggldjjnabcaaGreatDoor
open Go.ChangeShapes Go.WideShapes Go.RowKit Go.Deep
set_option linter.unusedVariables false
theorem isAt_yes (a b:Int) (w:World) (h0:0≤a) (h1:a<b):Calls Tryz.prog 101 #[.int .i64 a,.int .i64 b] w fun e w'=>e=.returned (.bool true)∧w=w':=by
  (go_enter Tryz.func101,Tryz.ntmps101);(go_wp2_with fail);(go_ret);exact ⟨rfl,rfl⟩
theorem isAt_no (a b:Int) (w:World) (h:¬ (0≤a∧a<b)):Calls Tryz.prog 101 #[.int .i64 a,.int .i64 b] w fun e w'=>e=.returned (.bool false)∧w=w':=by
  by_cases h0:0≤a
  · (have h1:b≤a:=by omega);clear h;(go_enter Tryz.func101,Tryz.ntmps101);(go_wp2_with fail);(go_ret);exact ⟨by simp [h1],rfl⟩
  · clear h;(go_enter Tryz.func101,Tryz.ntmps101);(go_wp2_with fail);(go_ret);exact ⟨rfl,rfl⟩
theorem qq (a b:Int) (w:World):Calls Tryz.prog 101 #[.int .i64 a,.int .i64 b] w fun e w'=>e=.returned (.bool (isAtB a b))∧w=w':=by
  by_cases h:0≤a∧a<b
  · exact (isAt_yes a b w h.1 h.2).mono fun e w' h'=>⟨by rw [h'.1,isAtB,decide_eq_true h],h'.2⟩
  · exact (isAt_no a b w h).mono fun e w' h'=>⟨by rw [h'.1,isAtB,decide_eq_false h],h'.2⟩
theorem endsWith_any (l:List Int) (v:Value) (n:Int) (w:World) (hv:VS w 1 RInt v l) :
    Calls Tryz.prog 102 #[v,.int .i64 n] w fun e w'=>e=.returned (.bool (endsB l n))∧w=w':=by
  obtain ⟨A,c,rfl,hl⟩:=hv;have hlen:=hl.len
  by_cases h0:l.length=0
  · have he:endsB l n=false:=by
      rw [List.length_eq_zero_iff.1 h0];rfl
    rw [he];clear he;(have h00:¬ (0<l.length):=by omega);have H0:=Lib.hid h0;clear h0;(go_enter Tryz.func102,Tryz.ntmps102);(go_wp2_with fail);(go_ret);exact ⟨rfl,rfl⟩
  · (have h1:0<l.length:=by omega);clear h0;obtain ⟨b,o,x,rfl,hx,hc,-⟩:=hl.int (k:=l.length - 1) (by omega);have he:endsB l n=(x == n):=by
      rw [endsB,List.getLast?_eq_getElem?,hx.out];rfl
    rw [he];have hc':w.cell? ⟨b,o+(l.length - 1),none⟩=some (.int .i64 x):=hc;clear he hx;(go_enter Tryz.func102,Tryz.ntmps102);(go_wp2_with fail);(go_ret);exact ⟨rfl,rfl⟩
set_option maxRecDepth 100000 in
set_option maxHeartbeats 4000000 in
theorem ahead_any (f:FunD) (v:Value) (w:World) (hv:VFun w v f) (hn:f.blocks.length≤1000000) :
    Calls Tryz.prog 64 #[v] w fun e w'=>(∃ V G,e=.returned (.slice (some ⟨G,0,none⟩) f.blocks.length f.blocks.length)∧w.heap.size≤G∧Grid w' G f.blocks.length V (fun i=>qG f.blocks i))∧Below w.heap.size w w':=by
  obtain ⟨Ar,cr,A,c,rfl,hr,hb,-,-⟩:=hv;have hbl:=hb.len;obtain ⟨i0,hi,hz0,hz1,hz2⟩:=info_parts Tryz.info3;have HI:=Lib.hid (And.intro hi (And.intro hz0 (And.intro hz1 hz2)));clear hi hz0 hz1 hz2;have hmk:=run_make_row' (P:=Tryz.prog) 65 27 (.slice none 0 0) 24 Tryz.underlying65 Tryz.info27 rfl .i64 .i64 f.blocks.length (by omega) (by omega);(go_enter Tryz.func64,Tryz.ntmps64);(go_wp2_with fail);clear hmk
  obtain ⟨w1,hw1,hs1,hk1,hbel1,hc1,-⟩:=named w #[.int .i64 f.params,.int .i64 f.result,.slice Ar f.regs.length cr,.slice A f.blocks.length c] 30;have hc1:=hc1 3 _ rfl;rw [← hw1];clear hw1;have hgr:=Grid.made w1 (w.heap.size+1) f.blocks.length hs1.symm;have hbel1':Below (w.heap.size+1) w1 (w1.alloc (.cells (madeCells #[.slice none 0 0] f.blocks.length) 27)):=(Below.refl _ _).alloc (by omega) _;(have hs2:w.heap.size+1<(w1.alloc (.cells (madeCells #[.slice none 0 0] f.blocks.length) 27)).heap.size:=by simp;omega);generalize w1.alloc (.cells (madeCells #[.slice none 0 0] f.blocks.length) 27)=w2 at *;have HS1:=Lib.hid hs1
  clear hs1
  go_loopw [15] (fun i wr=>∃ (k:Nat) (V:Nat→Value),k≤f.blocks.length∧i=.int .i64 k∧Below (w.heap.size+1) w1 wr∧w.heap.size+1<wr.heap.size∧Grid wr (w.heap.size+1) f.blocks.length V (fun i=>qG (f.blocks.take k) i)) (fun i _=>f.blocks.length - (intOf i).toNat)
  case atStart=>exact ⟨0,_,Nat.zero_le _,rfl,hbel1',hs2,hgr⟩
  case round =>
    obtain ⟨k,V,hk,rfl,hbel,hs,hg⟩:=hrel;obtain ⟨wo,rfl⟩:∃ wo,wo=wr:=⟨wr,rfl⟩;(have hkw:Kept w1 wo:=kept_below hbel (by have:=HS1.out;omega));have hbox:=hkw _ _ hc1
    by_cases hlt:k<f.blocks.length
    · obtain ⟨b,o,kb,rfl,hkb,⟨Ap,cp,hphi,-⟩,⟨Ai,ci,hins,-⟩,⟨hkd,-⟩,⟨har,-⟩,⟨At,ct,hto,htos⟩⟩:=(SBlks.keep hk1 hb).at_ hlt;have hphi:=hkw _ _ hphi;have hins:=hkw _ _ hins;have hkd:=hkw _ _ hkd;have har:=hkw _ _ har;have hto:=hkw _ _ hto;have htl:=htos.len;(go_wp2_with fail);clear hphi hins hkd har hto
      obtain ⟨w3,hw3,hs3,hk3,hbel3,-,-⟩:=named wo #[.slice Ap kb.phis.length cp,.slice Ai kb.ins.length ci,.int .i64 kb.term.kind,.int .i64 kb.term.arg,.slice At kb.term.to.length ct] 51;have hg3:Grid w3 (w.heap.size+1) f.blocks.length V (LJ f.blocks k []):=by
        rw [hw3];exact (hg.alloc _).congr (fun i _=>(LJ_nil _ _ _).symm)
      have hb3:Below (w.heap.size+1) w1 w3:=hbel.trans (hbel3.mono (by omega));(have hs3:w.heap.size+1<w3.heap.size:=by omega);rw [← hw3];clear hw3
      go_loopw [24] (fun i wr=>∃ (j:Nat) (V:Nat→Value),j≤kb.term.to.length∧i=.int .i64 j∧Below (w.heap.size+1) w1 wr∧w.heap.size+1<wr.heap.size∧Grid wr (w.heap.size+1) f.blocks.length V (LJ f.blocks k (kb.term.to.take j))) (fun i _=>kb.term.to.length - (intOf i).toNat)
      case atStart=>exact ⟨0,V,Nat.zero_le _,rfl,hb3,hs3,hg3⟩
      case round =>
        obtain ⟨j,V',hj,rfl,hbelr,hsr,hgr'⟩:=hrel;(have hkr:Kept w1 wr:=kept_below hbelr (by have:=HS1.out;omega));have hboxr:=hkr _ _ hc1
        by_cases hjt:j<kb.term.to.length
        · obtain ⟨b',o',x,rfl,hx,hxc,-⟩:=htos.int hjt;have hxc:=hkr _ _ hxc
          by_cases hin:0≤x∧x<f.blocks.length
          · obtain ⟨q,rfl⟩:∃ q:Nat,x=q:=⟨x.toNat,by omega⟩;(have hq:q<f.blocks.length:=by omega);(have hq1:(q:Int)<f.blocks.length:=by omega);(have hq0:(0:Int)≤q:=by omega);clear hin;have hrow:=hgr'.row.cell hq;have hvs:VS wr 1 RInt (V' q) (LJ f.blocks k (kb.term.to.take j) q):=qx (hgr'.own q hq) (LJ_i64 _ _ _ _ (by omega) hn);have he:=LJ_ends f.blocks k (kb.term.to.take j) q;have HE:=Lib.hid he
            clear he;(go_wp2_with fail);refine (isAt_yes _ _ _ hq0 hq1).mono ?_;rintro e w' ⟨rfl,rfl⟩;(go_wp2_with fail);refine (endsWith_any _ _ _ _ hvs).mono ?_;rintro e w' ⟨rfl,rfl⟩;rw [HE.out];cases hh:hasTo q (kb.term.to.take j)
            · have HH:=Lib.hid hh;clear hh;have hll:=LJ_len f.blocks k (kb.term.to.take j) q;go_wp2_with (at_builtin;refine wpList_append_lies _ rfl (.tmp 47) (.tmp 49) 27 rfl (w.heap.size+1+1) 3 i0 (.int .i64 0) 1 8 Tryz.underlying27 HI.out.1 HI.out.2.1 HI.out.2.2.1 HI.out.2.2.2 rfl (by decide) (V' q) _ _ rfl ((hgr'.own q hq).alloc _) ⟨wr.heap.size,0,none⟩ 1 1 [.int .i64 k] rfl rfl ?c1 ?c2 ?c0 ?c3 ?c4 ?c5 (wr.heap.size+1) ?c6 ?_)
              case c1=>exact qi wr _ _ rfl
              case c2=>exact ints_oneCell .i64 [(k:Int)]
              case c0=>omega
              case c3=>unfold maxLen;omega
              case c4=>omega
              case c5=>simp;omega
              case c6=>simp
              intro g cap w4 hown4 hgrow4 hloc4 hlt4;have hgp:=Grid.push (hgr'.alloc _) hq hown4 hgrow4 (by simpa using hloc4);have hgp':=hgp.congr (fun i _=>LJ_new hx.out i HH.out);(have hb4:Below (w.heap.size+1) w1 w4:=(hbelr.alloc (by omega) _).grown hgrow4 (by simp;omega) (fun g hg=>by have:=((hgr'.own q hq).lt g hg).1;omega));(have hG4:w4.heap[w.heap.size+1]?=(wr.alloc (.cells #[.int .i64 k] 3)).heap[w.heap.size+1]?:=hgrow4.block _ (by simp;omega) (fun e=>by have:=((hgr'.own q hq).lt _ e.symm).1;omega));have hrow4:=(World.cell?_of_block (a:=⟨w.heap.size+1,q,none⟩) hG4).trans ((hgr'.row.alloc _).cell hq);have hfr4:=(World.frozen?_of_block (a:=⟨w.heap.size+1,q,none⟩) hG4).trans ((hgr'.row.alloc _).frozen q);(have hs4:w.heap.size+1<w4.heap.size:=by have:=hgrow4.size;simp at this;omega);have HP:=Lib.hid hgp'
              clear hgp hgp' hown4 hgrow4 hloc4 hG4 hgr' hrow hvs;go_wp2_with fail
              go_roundw
              case rel=>exact ⟨j+1,_,by omega,by go_num,hb4.setCell (by show _≤w.heap.size+1;omega) _,by simpa using hs4,HP.out⟩
              case measure=>simp [intOf];omega
            · have HH:=Lib.hid hh;clear hh;go_wp2_with fail
              go_roundw
              case rel=>exact ⟨j+1,V',by omega,by go_num,hbelr,hsr,hgr'.congr (fun i _=>LJ_again hx.out i HH.out)⟩
              case measure=>simp [intOf];omega
          · (go_wp2_with fail);refine (isAt_no _ _ _ hin).mono ?_;rintro e w' ⟨rfl,rfl⟩;go_wp2_with fail
            go_roundw
            case rel=>exact ⟨j+1,V',by omega,by go_num,hbelr,hsr,hgr'.congr (fun i hi=>LJ_out hx.out i (fun e=>hin (by omega)))⟩
            case measure=>simp [intOf];omega
        · have hjj:kb.term.to.take j=kb.term.to:=List.take_of_length_le (by omega);rw [hjj] at hgr';clear hjj;go_wp2_with fail
          go_roundw
          case rel=>exact ⟨k+1,V',by omega,by go_num,hbelr,hsr,hgr'.congr (fun i _=>LJ_all i hkb.out)⟩
          case measure=>simp [intOf];omega
    · have hkk:f.blocks.take k=f.blocks:=List.take_of_length_le (by omega);rw [hkk] at hg;clear hkk;(go_wp2_with fail);(go_ret);exact ⟨⟨V,_,rfl,by omega,hg⟩,hbel1.trans (hbel.mono (by omega))⟩
set_option maxRecDepth 100000 in
set_option maxHeartbeats 4000000 in
theorem hasItsTos_any (t:TermD) (v:Value) (w:World) (hv:VTerm w v t) :
    Calls Tryz.prog 135 #[v] w fun e w'=>e=.returned (.bool (tosB t))∧Below w.heap.size w w':=by
  obtain ⟨A,c,rfl,ht,-,-⟩:=hv;have htl:=ht.len;have hbel1:Below w.heap.size w (w.alloc (.cells #[.int .i64 t.kind,.int .i64 t.arg,.slice A t.to.length c] 47)):=(Below.refl _ _).alloc (Nat.le_refl _) _
  by_cases k1:t.kind=1
  · (have HT:Hid (tosB t=decide (t.to.length=1)):=Lib.hid (by unfold tosB;rw [if_pos k1]));(have k1':(t.kind == 1)=true:=by simpa using k1);clear k1;(go_enter Tryz.func135,Tryz.ntmps135);(go_wp2_with fail);(go_ret);exact ⟨by rw [HT.out];simp [Bool.beq_eq_decide_eq];try omega,hbel1⟩
  · have k1':(t.kind == 1)=false:=by simpa using k1
    by_cases k2:t.kind=2
    · (have k2':(t.kind == 2)=true:=by simpa using k2);(have HT:Hid (tosB t=(decide (t.to.length=2) && decide (t.to.getD 0 0≠t.to.getD 1 0))):=Lib.hid (by unfold tosB;rw [if_neg k1,if_pos k2]));clear k1 k2
      by_cases l2:t.to.length=2
      · obtain ⟨b,o,x,rfl,hx,hxc,-⟩:=ht.int (k:=0) (by omega);obtain ⟨b',o',y,he,hy,hyc,-⟩:=ht.int (k:=1) (by omega);simp only [Option.some.injEq,Addr.mk.injEq] at he;obtain ⟨rfl,rfl,-⟩:=he
        have HT':Hid (tosB t=decide (x≠y)):=Lib.hid (by
          rw [HT.out,decide_eq_true l2,Bool.true_and,List.getD_eq_getElem?_getD,List.getD_eq_getElem?_getD,hx.out,hy.out];rfl)
        (have l2':((t.to.length:Int) == 2)=true:=by simp [l2]);(have l2'':2≤t.to.length:=by omega);have hltx:=block_lt_of_cell hxc;simp only [Nat.add_zero] at hxc;clear l2 HT;(go_enter Tryz.func135,Tryz.ntmps135);(go_wp2_with fail);(go_quiet (fail));go_wp2_with fail
        (go_ret);exact ⟨by rw [HT'.out];simp [bne,Bool.beq_eq_decide_eq],below_drewN hbel1 _⟩
      · have l2':((t.to.length:Int) == 2)=false:=by
          rw [beq_eq_false_iff_ne];omega
        (have HT':Hid (tosB t=false):=Lib.hid (by rw [HT.out,decide_eq_false l2];rfl));clear l2 HT;(go_enter Tryz.func135,Tryz.ntmps135);(go_wp2_with fail);(go_quiet (fail));(go_wp2_with fail);(go_ret);exact ⟨by rw [HT'.out];rfl,below_drewN hbel1 _⟩
    · have k2':(t.kind == 2)=false:=by simpa using k2
      by_cases k3:t.kind=3
      · (have k3':(t.kind == 3)=true:=by simpa using k3);(have HT:Hid (tosB t=decide (t.to.length=0)):=Lib.hid (by unfold tosB;rw [if_neg k1,if_neg k2,if_pos k3]));clear k1 k2 k3;(go_enter Tryz.func135,Tryz.ntmps135);(go_wp2_with fail);(go_ret);exact ⟨by rw [HT.out];simp [Bool.beq_eq_decide_eq];try omega,hbel1⟩
      · (have k3':(t.kind == 3)=false:=by simpa using k3);(have HT:Hid (tosB t=false):=Lib.hid (by unfold tosB;rw [if_neg k1,if_neg k2,if_neg k3]));clear k1 k2 k3;(go_enter Tryz.func135,Tryz.ntmps135);(go_wp2_with fail);(go_ret);exact ⟨by rw [HT.out];rfl,hbel1⟩
set_option maxRecDepth 100000 in
set_option maxHeartbeats 4000000 in
theorem endsWell_any (f:FunD) (v:Value) (w:World) (hv:VFun w v f) :
    Calls Tryz.prog 113 #[v] w fun e w'=>e=.returned (.bool (qr f))∧Below w.heap.size w w':=by
  obtain ⟨Ar,cr,A,c,rfl,hr,hb,-,-⟩:=hv;have hbl:=hb.len;(go_enter Tryz.func113,Tryz.ntmps113);(go_wp2_with fail);obtain ⟨w1,hw1,hs1,hk1,hbel1,hc1,-⟩:=named w #[.int .i64 f.params,.int .i64 f.result,.slice Ar f.regs.length cr,.slice A f.blocks.length c] 30;have hc3:w1.cell? ⟨w.heap.size,3,none⟩=some (.slice A f.blocks.length c):=hc1 3 _ rfl;rw [← hw1];clear hw1 hc1;have hs1:w.heap.size<w1.heap.size:=by omega
  go_loopw [10] (fun i wr=>∃ k:Nat,k≤f.blocks.length∧i=.int .i64 k∧Hid ((f.blocks.take k).all (fun b=>ql f.blocks.length b.term)=true)∧Below w1.heap.size w1 wr) (fun i _=>f.blocks.length - (intOf i).toNat)
  case atStart=>exact ⟨0,Nat.zero_le _,rfl,Lib.hid rfl,Below.refl _ _⟩
  case round =>
    obtain ⟨k,hk,rfl,hi,hbel⟩:=hrel;obtain ⟨wo,rfl⟩:∃ wo,wo=wr:=⟨wr,rfl⟩;have hs:=hbel.size;have hkw:Kept w1 wo:=q6 hbel;have hB:Below w.heap.size w wo:=hbel1.trans (hbel.mono (by omega))
    by_cases hlt:k<f.blocks.length
    · obtain ⟨b,o,kb,rfl,hkb,⟨Ap,cp,hphi,hphis⟩,⟨Ai,ci,hins,hinss⟩,⟨hkd,h64k⟩,⟨har,h64a⟩,⟨At,ct,hto,htos⟩⟩:=(SBlks.keep (hk1.trans hkw) hb).at_ hlt;have htl:=htos.len;(go_wp2_with fail);clear hphi hins hkd har hto;obtain ⟨w3,hw3,hs3,hk3,hbel3,hc3',-⟩:=named wo #[.slice Ap kb.phis.length cp,.slice Ai kb.ins.length ci,.int .i64 kb.term.kind,.int .i64 kb.term.arg,.slice At kb.term.to.length ct] 51;have hc4:w3.cell? ⟨wo.heap.size,4,none⟩=some (.slice At kb.term.to.length ct):=hc3' 4 _ rfl;have hB3:Below w.heap.size w w3:=hB.trans (hbel3.mono (by omega));have hb3:Below w1.heap.size w1 w3:=hbel.trans (hbel3.mono (by omega));rw [← hw3]
      clear hw3 hc3';have htos3:=SInts.keep hk3 htos;have hbox3:w3.cell? ⟨w.heap.size,3,none⟩=_:=hk3 _ _ (hkw _ _ hc3);refine (hasItsTos_any kb.term _ _ ⟨At,ct,rfl,htos3,h64k,h64a⟩).mono ?_;rintro e w4 ⟨rfl,hb4⟩;have hk4:Kept w3 w4:=q6 hb4;have hc4:=hk4 _ _ hc4;have hbox4:=hk4 _ _ hbox3;have htos4:=SInts.keep hk4 htos3
      have hB4:Below w.heap.size w w4:=hB3.trans (hb4.mono hB3.size);(have hb4':Below w1.heap.size w1 w4:=hb3.trans (hb4.mono (by have:=hb3.size;omega)));clear hbox3;cases hts:tosB kb.term
      · (go_wp2_with fail);(go_ret);exact ⟨by rw [show qr f=false from qk hkb.out (show ql f.blocks.length kb.term=false by unfold ql;rw [hts];rfl)];rfl,hB4⟩
      · have HTS:=Lib.hid hts;clear hts;go_wp2_with fail
        go_loopw [22] (fun i wr=>∃ j q:Nat,j≤kb.term.to.length∧i=.int .i64 j∧Hid ((kb.term.to.take j).all (toB f.blocks.length)=true)∧wr=w4.drewN q) (fun i _=>kb.term.to.length - (intOf i).toNat)
        case atStart=>exact ⟨0,0,Nat.zero_le _,rfl,Lib.hid rfl,rfl⟩
        case round =>
          obtain ⟨j,q,hj,rfl,hj2,rfl⟩:=hrel
          by_cases hjt:j<kb.term.to.length
          · obtain ⟨b',o',x,rfl,hx,hxc,-⟩:=htos4.int hjt
            by_cases x0:x=0
            · have HF:Hid (toB f.blocks.length x=false):=Lib.hid (decide_eq_false (by omega));(have x0':(x == 0)=true:=by simpa using x0);clear x0;(go_wp2_with fail);(go_ret);exact ⟨by rw [show qr f=false from qk hkb.out (show ql f.blocks.length kb.term=false by unfold ql;rw [qk hx.out HF.out];simp)];rfl,below_drewN hB4 _⟩
            · (have x0':(x == 0)=false:=by simpa using x0);(have HF:Hid (toB f.blocks.length x=isAtB x f.blocks.length):=Lib.hid (by unfold toB isAtB;congr 1;rw [eq_iff_iff];omega));clear x0;(go_wp2_with fail);refine (qq _ _ _).mono ?_;rintro e w' ⟨rfl,rfl⟩;cases hat:isAtB x f.blocks.length
              · have HAT:=Lib.hid hat;clear hat;(go_wp2_with fail);(go_ret);exact ⟨by rw [show qr f=false from qk hkb.out (show ql f.blocks.length kb.term=false by unfold ql;rw [qk hx.out (HF.out.trans HAT.out)];simp)];rfl,below_drewN hB4 _⟩
              · have HAT:=Lib.hid hat;clear hat;go_wp2_with fail
                go_roundw
                case rel=>exact ⟨j+1,q,by omega,by go_num,Lib.hid (by rw [qw hx.out hj2.out,HF.out,HAT.out]),rfl⟩
                case measure=>simp [intOf];omega
          · have hd:=z8 hj2.out (Nat.le_of_not_lt hjt);have HD:=Lib.hid hd;clear hd;go_wp2_with fail
            go_roundw
            case rel=>exact ⟨k+1,by omega,by go_num,Lib.hid (by rw [qw hkb.out hi.out];unfold ql;rw [HTS.out,HD.out];rfl),below_drewN hb4' _⟩
            case measure=>simp [intOf];omega
    · have hd:=z8 hi.out (Nat.le_of_not_lt hlt);have HD:Hid (qr f=true):=Lib.hid hd;clear hd;(go_wp2_with fail);(go_ret);exact ⟨by rw [HD.out];rfl,hB⟩
set_option maxRecDepth 100000 in
set_option maxHeartbeats 4000000 in
theorem phisMeet_any (f:FunD) (v:Value) (w:World) (hv:VFun w v f) (hn:f.blocks.length≤1000000) :
    Calls Tryz.prog 114 #[v] w fun e w'=>e=.returned (.bool (meetB f))∧Below w.heap.size w w':=by
  have hv0:=hv;obtain ⟨Ar,cr,A,c,rfl,hr,hb,hp64,hr64⟩:=hv;have hbl:=hb.len;(go_enter Tryz.func114,Tryz.ntmps114);(go_wp2_with fail);obtain ⟨w1,hw1,hs1,hk1,hbel1,hc1,-⟩:=named w #[.int .i64 f.params,.int .i64 f.result,.slice Ar f.regs.length cr,.slice A f.blocks.length c] 30;have hc3:w1.cell? ⟨w.heap.size,3,none⟩=some (.slice A f.blocks.length c):=hc1 3 _ rfl;rw [← hw1];clear hw1 hc1
  (have hs1:w.heap.size<w1.heap.size:=by omega);refine (ahead_any f _ _ (VFun.keep hk1 hv0) hn).mono ?_;rintro e w2 ⟨⟨V,G,rfl,hG,hg⟩,hb2⟩;have hrd:=hg.reads hn;have hk2:Kept w1 w2:=q6 hb2;have hc3:=hk2 _ _ hc3;have hB2:Below w.heap.size w w2:=hbel1.trans (hb2.mono hbel1.size);have hk12:=hk1.trans hk2;have hs2:=hb2.size
  clear hg hG hb2;go_wp2_with fail
  go_loopw [13] (fun i wr=>∃ k:Nat,k≤f.blocks.length∧i=.int .i64 k∧Hid (meetUp f.blocks k=true)∧Below w2.heap.size w2 wr) (fun i _=>f.blocks.length - (intOf i).toNat)
  case atStart=>exact ⟨0,Nat.zero_le _,rfl,Lib.hid rfl,Below.refl _ _⟩
  case round =>
    obtain ⟨k,hk,rfl,hi,hbel⟩:=hrel;obtain ⟨wo,rfl⟩:∃ wo,wo=wr:=⟨wr,rfl⟩;have hs:=hbel.size;have hkw:Kept w2 wo:=q6 hbel;have hB:Below w.heap.size w wo:=hB2.trans (hbel.mono (by omega))
    by_cases hlt:k<f.blocks.length
    · obtain ⟨b,o,kb,rfl,hkb,⟨Ap,cp,hphi,hphis⟩,⟨Ai,ci,hins,hinss⟩,⟨hkd,h64k⟩,⟨har,h64a⟩,⟨At,ct,hto,htos⟩⟩:=(SBlks.keep (hk12.trans hkw) hb).at_ hlt;have hpl:=hphis.len;(obtain ⟨b2,o2,l,he,hl,A2,c2,hc2,hs2'⟩:=(SL.keep hkw (RRow.keep hkw) hrd).at_ (k:=k) (by rw [rows_len];exact hlt));simp only [Option.some.injEq,Addr.mk.injEq] at he;obtain ⟨rfl,rfl,-⟩:=he;have hl:=rows_at hl.out;have HM:=Lib.hid (fun h=>meetUp_step hkb.out (h:meetUp f.blocks k=true));have HS:=Lib.hid (meetUp_stop hkb.out);rw [← hl] at HM HS
      clear hl;have hll:=hs2'.len;rw [Nat.zero_add,Nat.mul_one] at hc2;(go_wp2_with fail);clear hphi hins hkd har hto;obtain ⟨w3,hw3,hs3,hk3,hbel3,-,-⟩:=named wo #[.slice Ap kb.phis.length cp,.slice Ai kb.ins.length ci,.int .i64 kb.term.kind,.int .i64 kb.term.arg,.slice At kb.term.to.length ct] 51;(have hB3:Below w.heap.size w w3:=hB.trans (hbel3.mono (by have:=hB.size;omega)));have hb3:Below w2.heap.size w2 w3:=hbel.trans (hbel3.mono (by omega));have hc2:=hk3 _ _ hc2
      have hphis3:=SPhis.keep hk3 hphis;(have hs3:wo.heap.size<w3.heap.size:=by omega);rw [← hw3];clear hw3
      go_loopw [21] (fun i wr=>∃ j:Nat,j≤kb.phis.length∧i=.int .i64 j∧Hid ((kb.phis.take j).all (fun p=>decide (p.args.length=l.length))=true)∧Below w3.heap.size w3 wr) (fun i _=>kb.phis.length - (intOf i).toNat)
      case atStart=>exact ⟨0,Nat.zero_le _,rfl,Lib.hid rfl,Below.refl _ _⟩
      case round =>
        obtain ⟨j,hj,rfl,hj2,hbelr⟩:=hrel;have hsr:=hbelr.size;have hkr:Kept w3 wr:=q6 hbelr;have hc2r:=hkr _ _ hc2;have hBr:Below w.heap.size w wr:=hB3.trans (hbelr.mono hB3.size)
        by_cases hjt:j<kb.phis.length
        · obtain ⟨b',o',p,rfl,hp,⟨hpd,-⟩,Aa,ca,hag,hags⟩:=(SPhis.keep hkr hphis3).at_ hjt;have hal:=hags.len;(have hk0:(0:Int)≤k:=by omega);have hk1':(k:Int)<f.blocks.length:=by omega
          by_cases hpe:p.args.length=l.length
          · (have hpe':((p.args.length:Int) != l.length)=false:=by simp [hpe]);have HP:Hid (decide (p.args.length=l.length)=true):=Lib.hid (decide_eq_true hpe);clear hpe;(go_wp2_with fail);obtain ⟨w5,hw5,hs5,hk5,hbel5,hc5,-⟩:=named wr #[.int .i64 p.dst,.slice Aa p.args.length ca] 55;have hc51:w5.cell? ⟨wr.heap.size,1,none⟩=some (.slice Aa p.args.length ca):=hc5 1 _ rfl;have hc2r5:=hk5 _ _ hc2r;have hb5:Below w3.heap.size w3 w5:=hbelr.trans (hbel5.mono (by omega));have hB5:Below w.heap.size w w5:=hBr.trans (hbel5.mono hBr.size)
            rw [← hw5];clear hw5 hc5 hs5;(go_quiet (fail));go_wp2_with fail
            go_roundw
            case rel=>exact ⟨j+1,by omega,by go_num,Lib.hid (by rw [qw hp.out hj2.out];exact HP.out),below_drewN hb5 _⟩
            case measure=>simp [intOf];omega
          · (have hpe':((p.args.length:Int) != l.length)=true:=by rw [bne_iff_ne];omega);have HP:Hid (decide (p.args.length=l.length)=false):=Lib.hid (decide_eq_false hpe);clear hpe;(go_wp2_with fail);obtain ⟨w5,hw5,hs5,hk5,hbel5,hc5,-⟩:=named wr #[.int .i64 p.dst,.slice Aa p.args.length ca] 55;have hc51:w5.cell? ⟨wr.heap.size,1,none⟩=some (.slice Aa p.args.length ca):=hc5 1 _ rfl;have hc2r5:=hk5 _ _ hc2r;have hb5:Below w3.heap.size w3 w5:=hbelr.trans (hbel5.mono (by omega));have hB5:Below w.heap.size w w5:=hBr.trans (hbel5.mono hBr.size)
            rw [← hw5];clear hw5 hc5 hs5;(go_quiet (fail));(go_wp2_with fail);(go_ret);exact ⟨by rw [show meetB f=false from HS.out (qk hp.out HP.out)];rfl,below_drewN hB5 _⟩
        · have hd:=z8 hj2.out (Nat.le_of_not_lt hjt);have HD:=Lib.hid hd;clear hd;go_wp2_with fail
          go_roundw
          case rel=>exact ⟨k+1,by omega,by go_num,Lib.hid (by rw [HM.out hi.out];exact HD.out),hb3.trans (hbelr.mono (by omega))⟩
          case measure=>simp [intOf];omega
    · have HD:Hid (meetB f=true):=Lib.hid (meetUp_done hi.out (Nat.le_of_not_lt hlt));(go_wp2_with fail);(go_ret);exact ⟨by rw [HD.out];rfl,hB⟩
def errV (c:Int):Value:=if c=0 then .nilIface else .iface 39 (.int .i64 c)
theorem errV_zero:errV 0=.nilIface:=rfl
theorem errV_pos {c:Int} (h:c≠0):errV c=.iface 39 (.int .i64 c):=if_neg h
set_option maxRecDepth 100000 in
set_option maxHeartbeats 4000000 in
theorem areAt_any (l:List Int) (v:Value) (n:Int) (w:World) (hv:VS w 1 RInt v l) :
    Calls Tryz.prog 142 #[v,.int .i64 n] w fun e w'=>e=.returned (.bool (qQ l n))∧w=w':=by
  obtain ⟨A,c,rfl,hl⟩:=hv;have hll:=hl.len;(go_enter Tryz.func142,Tryz.ntmps142);(go_wp2_with fail);go_loop [9] (fun i=>∃ k:Nat,k≤l.length∧i=.int .i64 k∧Hid ((l.take k).all (fun a=>decide (0≤a∧a<n))=true)) (fun i=>l.length - (intOf i).toNat)
  case atStart=>exact ⟨0,Nat.zero_le _,rfl,Lib.hid rfl⟩
  case round =>
    obtain ⟨k,hk,rfl,hi⟩:=hrel
    by_cases hlt:k<l.length
    · obtain ⟨b,o,x,rfl,hx,hxc,-⟩:=hl.int hlt;(go_wp2_with fail);refine (qq _ _ _).mono ?_;rintro e w' ⟨rfl,rfl⟩;cases hat:isAtB x n
      · have HAT:Hid (decide (0≤x∧x<n)=false):=Lib.hid hat;clear hat;(go_wp2_with fail);(go_ret);exact ⟨by rw [show qQ l n=false from qk hx.out HAT.out];rfl,rfl⟩
      · have HAT:Hid (decide (0≤x∧x<n)=true):=Lib.hid hat;clear hat;(go_wp2_with fail);go_round
        case rel=>exact ⟨k+1,by omega,by go_num,Lib.hid (by rw [qw hx.out hi.out];exact HAT.out)⟩
        case measure=>simp [intOf];omega
    · have HD:=Lib.hid (z8 hi.out (Nat.le_of_not_lt hlt));(go_wp2_with fail);(go_ret);exact ⟨by rw [show qQ l n=true from HD.out];rfl,rfl⟩
theorem areAtB_at {l:List Int} {n:Int} (h:qQ l n=true) {k:Nat} {x:Int} (hx:l[k]?=some x):0≤x∧x<n:=by
  unfold qQ at h;have:=List.all_eq_true.1 h x (List.mem_of_getElem? hx);simpa using this
theorem reg_at {regs:List Int} {r:Int} (h0:0≤r) (h1:r<regs.length):∃ k:Nat,r=k∧k<regs.length:=⟨r.toNat,by omega,by omega⟩
set_option maxRecDepth 100000 in
set_option maxHeartbeats 4000000 in
theorem ofPhi_any (f:FunD) (p:PhiD) (v u:Value) (w:World) (hv:VFun w v f) (hu:VPhi w u p) :
    Calls Tryz.prog 136 #[v,u] w fun e w'=>e=.returned (errV (phiE f p))∧Below w.heap.size w w':=by
  obtain ⟨Ar,cr,A,c,rfl,hr,hb,hp64,hr64⟩:=hv;obtain ⟨pd,pa⟩:=p;obtain ⟨Ap,cp,rfl,hp,hd64⟩:=hu;dsimp only at *;have hrl:=hr.len;have hpl:=hp.len;(go_enter Tryz.func136,Tryz.ntmps136);(go_wp2_with fail);obtain ⟨w1,hw1,hs1,hk1,hbel1,hc1,-⟩:=named w #[.int .i64 f.params,.int .i64 f.result,.slice Ar f.regs.length cr,.slice A f.blocks.length c] 30
  have hc2:w1.cell? ⟨w.heap.size,2,none⟩=some (.slice Ar f.regs.length cr):=hc1 2 _ rfl;rw [← hw1];clear hw1 hc1;obtain ⟨w2,hw2,hs2,hk2,hbel2,hc1,-⟩:=named w1 #[.int .i64 pd,.slice Ap pa.length cp] 55;have hc2:=hk2 _ _ hc2;have hd0:w2.cell? ⟨w1.heap.size,0,none⟩=some (.int .i64 pd):=hc1 0 _ rfl;have hd1:w2.cell? ⟨w1.heap.size,1,none⟩=some (.slice Ap pa.length cp):=hc1 1 _ rfl;have hB2:Below w.heap.size w w2:=hbel1.trans (hbel2.mono (by omega));have hk12:=hk1.trans hk2
  rw [show w.heap.size+1=w1.heap.size from hs1.symm,← hw2];clear hw2 hc1 hs1 hs2;have hps:=SInts.keep hk12 hp;have hrs:=SInts.keep hk12 hr;refine (qq _ _ _).mono ?_;rintro e w' ⟨rfl,rfl⟩;cases hat:isAtB pd f.regs.length
  · (have HP:Hid (phiE f ⟨pd,pa⟩=4):=Lib.hid (by unfold phiE;rw [if_neg];unfold isAtB at hat;simp only [hat,Bool.false_and];exact Bool.false_ne_true));clear hat;(go_wp2_with fail);(go_ret);exact ⟨by rw [HP.out];rfl,hB2⟩
  · have HAT:=Lib.hid hat;clear hat;(go_wp2_with fail);refine (areAt_any pa _ _ _ ⟨Ap,cp,rfl,hps⟩).mono ?_;rintro e w' ⟨rfl,rfl⟩;cases har:qQ pa f.regs.length
    · (have HP:Hid (phiE f ⟨pd,pa⟩=4):=Lib.hid (by unfold phiE;rw [if_neg];simp only [har,Bool.and_false];exact Bool.false_ne_true));clear har;(go_wp2_with fail);(go_ret);exact ⟨by rw [HP.out];rfl,hB2⟩
    · have HAR:=Lib.hid har;clear har
      have HP:Hid (phiE f ⟨pd,pa⟩=if (pa.all fun a=>decide (reg f.regs a=reg f.regs pd)) then 0 else 3):=Lib.hid (by
        have:=HAT.out;unfold isAtB at this;unfold phiE;dsimp only;rw [this,HAR.out];rfl)
      obtain ⟨hd0',hd1'⟩:0≤pd∧pd<f.regs.length:=of_decide_eq_true HAT.out;obtain ⟨dn,rfl,hdn⟩:=reg_at hd0' hd1';obtain ⟨br,or,y,rfl,hy,hyc,-⟩:=hrs.int hdn;have HR:Hid (reg f.regs dn=y):=Lib.hid (reg_of rfl hy.out);go_wp2_with fail
      go_loopw [27] (fun i wr=>∃ k q:Nat,k≤pa.length∧i=.int .i64 k∧Hid ((pa.take k).all (fun a=>decide (reg f.regs a=reg f.regs dn))=true)∧wr=w2.drewN q) (fun i _=>pa.length - (intOf i).toNat)
      case atStart=>exact ⟨0,0,Nat.zero_le _,rfl,Lib.hid rfl,rfl⟩
      case round =>
        obtain ⟨k,q,hk,rfl,hi,rfl⟩:=hrel
        by_cases hlt:k<pa.length
        · obtain ⟨b,o,x,rfl,hx,hxc,-⟩:=hps.int hlt;obtain ⟨hx0,hx1⟩:=areAtB_at HAR.out hx.out;obtain ⟨xn,rfl,hxn⟩:=reg_at hx0 hx1;obtain ⟨br',or',z,he,hz,hzc,-⟩:=hrs.int hxn;simp only [Option.some.injEq,Addr.mk.injEq] at he;obtain ⟨rfl,rfl,-⟩:=he;have HZ:Hid (reg f.regs xn=z):=Lib.hid (reg_of rfl hz.out)
          by_cases hzy:z=y
          · (have hzy':(z != y)=false:=by simp [hzy]);have HZY:=Lib.hid hzy;clear hzy;(go_wp2_with fail);(go_quiet (fail));go_wp2_with fail
            go_roundw
            case rel=>exact ⟨k+1,_,by omega,by go_num,Lib.hid (by rw [qw hx.out hi.out];rw [HZ.out,HR.out];exact decide_eq_true HZY.out),rfl⟩
            case measure=>simp [intOf];omega
          · (have hzy':(z != y)=true:=by rw [bne_iff_ne];exact hzy);have HZY:=Lib.hid hzy;clear hzy;(go_wp2_with fail);(go_quiet (fail));(go_wp2_with fail);(go_ret);exact ⟨by rw [HP.out,qk hx.out (by rw [HZ.out,HR.out];exact decide_eq_false HZY.out)];rfl,below_drewN hB2 _⟩
        · have HD:=Lib.hid (z8 hi.out (Nat.le_of_not_lt hlt));(go_wp2_with fail);(go_ret);exact ⟨by rw [HP.out,HD.out];rfl,below_drewN hB2 _⟩
set_option maxRecDepth 100000 in
set_option maxHeartbeats 4000000 in
theorem argOf_any (f:FunD) (t:TermD) (v u:Value) (w:World) (hv:VFun w v f) (hu:VTerm w u t) :
    Calls Tryz.prog 145 #[v,u] w fun e w'=>e=.returned (.int .i64 (qp f t))∧Below w.heap.size w w':=by
  obtain ⟨Ar,cr,A,c,rfl,hr,hb,hp64,hr64⟩:=hv;obtain ⟨At,ct,rfl,ht,hk64,ha64⟩:=hu;have hB:Below w.heap.size w ((w.alloc (.cells #[.int .i64 f.params,.int .i64 f.result,.slice Ar f.regs.length cr,.slice A f.blocks.length c] 30)).alloc (.cells #[.int .i64 t.kind,.int .i64 t.arg,.slice At t.to.length ct] 47)) :=
    ((Below.refl _ _).alloc (Nat.le_refl _) _).alloc (by simp) _
  by_cases k2:t.kind=2
  · (have HT:Hid (qp f t=2):=Lib.hid (by unfold qp;rw [if_pos k2]));(have k2':(t.kind == 2)=true:=by simpa using k2);clear k2;(go_enter Tryz.func145,Tryz.ntmps145);(go_wp2_with fail);(go_ret);exact ⟨by rw [HT.out];rfl,hB⟩
  · have k2':(t.kind == 2)=false:=by simpa using k2
    by_cases k3:t.kind=3
    · (have HT:Hid (qp f t=f.result):=Lib.hid (by unfold qp;rw [if_neg k2,if_pos k3]));(have k3':(t.kind == 3)=true:=by simpa using k3);clear k2 k3;(go_enter Tryz.func145,Tryz.ntmps145);(go_wp2_with fail);(go_ret);exact ⟨by rw [HT.out];rfl,hB⟩
    · (have HT:Hid (qp f t=0):=Lib.hid (by unfold qp;rw [if_neg k2,if_neg k3]));(have k3':(t.kind == 3)=false:=by simpa using k3);clear k2 k3;(go_enter Tryz.func145,Tryz.ntmps145);(go_wp2_with fail);(go_ret);exact ⟨by rw [HT.out];rfl,hB⟩
set_option maxRecDepth 100000 in
set_option maxHeartbeats 4000000 in
theorem ofTerm_any (f:FunD) (t:TermD) (v u:Value) (w:World) (hv:VFun w v f) (hu:VTerm w u t) :
    Calls Tryz.prog 138 #[v,u] w fun e w'=>e=.returned (errV (termE f t))∧Below w.heap.size w w':=by
  have hv0:=hv;have hu0:=hu;obtain ⟨Ar,cr,A,c,rfl,hr,hb,hp64,hr64⟩:=hv;obtain ⟨At,ct,rfl,ht,hk64,ha64⟩:=hu;have hrl:=hr.len;(go_enter Tryz.func138,Tryz.ntmps138);(go_wp2_with fail);obtain ⟨w1,hw1,hs1,hk1,hbel1,hc1,-⟩:=named w #[.int .i64 f.params,.int .i64 f.result,.slice Ar f.regs.length cr,.slice A f.blocks.length c] 30;have hc2:w1.cell? ⟨w.heap.size,2,none⟩=some (.slice Ar f.regs.length cr):=hc1 2 _ rfl
  rw [← hw1];clear hw1 hc1;obtain ⟨w2,hw2,hs2,hk2,hbel2,hc1,-⟩:=named w1 #[.int .i64 t.kind,.int .i64 t.arg,.slice At t.to.length ct] 47;have hc2:=hk2 _ _ hc2;have hd1:w2.cell? ⟨w1.heap.size,1,none⟩=some (.int .i64 t.arg):=hc1 1 _ rfl;have hB2:Below w.heap.size w w2:=hbel1.trans (hbel2.mono (by omega));have hk12:=hk1.trans hk2;rw [show w.heap.size+1=w1.heap.size from hs1.symm,← hw2];clear hw2 hc1 hs1 hs2
  refine (argOf_any f t _ _ _ (VFun.keep hk12 hv0) (VTerm.keep hk12 hu0)).mono ?_;rintro e w3 ⟨rfl,hb3⟩;have hk3:=q6 hb3;have hc2:=hk3 _ _ hc2;have hd1:=hk3 _ _ hd1;have hB3:Below w.heap.size w w3:=hB2.trans (hb3.mono hB2.size);have hrs:=SInts.keep (hk12.trans hk3) hr;clear hb3 hv0 hu0;have HT:Hid (termE f t=if qp f t=0 then (if t.arg=-1 then 0 else 3) else if 0≤t.arg∧t.arg<f.regs.length then (if reg f.regs t.arg=qp f t then 0 else 3) else 4):=Lib.hid rfl
  generalize qp f t=want at *;generalize t.arg=arg at *
  by_cases w0:want=0
  · have HW:=Lib.hid w0;(have w0':(want == 0)=true:=by simpa using w0);clear w0
    by_cases a0:arg=-1
    · have HA:=Lib.hid a0;(have a0':(arg != -1)=false:=by simp [a0]);clear a0;(go_wp2_with fail);(go_ret);exact ⟨by rw [HT.out,if_pos HW.out,if_pos HA.out];rfl,hB3⟩
    · have HA:=Lib.hid a0;(have a0':(arg != -1)=true:=by rw [bne_iff_ne];exact a0);clear a0;(go_wp2_with fail);(go_ret);exact ⟨by rw [HT.out,if_pos HW.out,if_neg HA.out];rfl,hB3⟩
  · have HW:=Lib.hid w0;(have w0':(want == 0)=false:=by simpa using w0);clear w0;(go_wp2_with fail);refine (qq _ _ _).mono ?_;rintro e w' ⟨rfl,rfl⟩;cases hat:isAtB arg f.regs.length
    · have HAT:Hid (¬ (0≤arg∧arg<f.regs.length)):=Lib.hid (of_decide_eq_false hat);clear hat;(go_wp2_with fail);(go_ret);exact ⟨by rw [HT.out,if_neg HW.out,if_neg HAT.out];rfl,hB3⟩
    · have HAT:Hid (0≤arg∧arg<f.regs.length):=Lib.hid (of_decide_eq_true hat);clear hat;obtain ⟨an,rfl,han⟩:=reg_at HAT.out.1 HAT.out.2;obtain ⟨br,or,y,rfl,hy,hyc,-⟩:=hrs.int han;have HR:Hid (reg f.regs an=y):=Lib.hid (reg_of rfl hy.out)
      by_cases hyw:y=want
      · (have hyw':(y != want)=false:=by simp [hyw]);have HY:=Lib.hid hyw;clear hyw;(go_wp2_with fail);(try (go_quiet (fail);go_wp2_with fail));(go_ret);exact ⟨by rw [HT.out,if_neg HW.out,if_pos HAT.out,HR.out,if_pos HY.out];rfl,by first | exact hB3 | exact below_drewN hB3 _⟩
      · (have hyw':(y != want)=true:=by rw [bne_iff_ne];exact hyw);have HY:=Lib.hid hyw;clear hyw;(go_wp2_with fail);(try (go_quiet (fail);go_wp2_with fail));(go_ret);exact ⟨by rw [HT.out,if_neg HW.out,if_pos HAT.out,HR.out,if_neg HY.out];rfl,by first | exact hB3 | exact below_drewN hB3 _⟩
def OfIns:Prop:=∀ (m:List FunD) (f:FunD) (x:InsD) (vm vf vx:Value) (w:World),VMod w vm m→VFun w vf f→VIns w vx x→(∀ t∈f.regs,t=1∨t=2) →
  Calls Tryz.prog 137 #[vm,vf,vx] w fun e w'=>e=.returned (errV (insE m f x))∧Below w.heap.size w w'
theorem first_map_at {α:Type} {l:List α} {k:Nat} {x:α} (p:α→Int) (h:l[k]?=some x) (h0:qL ((l.take k).map p)=0):qL ((l.take (k+1)).map p)=p x:=by
  have:=firstE_snoc (map_at p h) (by rw [map_take];exact h0)
  rwa [map_take] at this
theorem first_map_stop {α:Type} {l:List α} {k:Nat} {x:α} (p:α→Int) (h:l[k]?=some x) (h0:qL ((l.take k).map p)=0) (hx:p x≠0):qL (l.map p)=p x :=
  firstE_stop (map_at p h) (by rw [map_take];exact h0) hx
theorem first_map_done {α:Type} {l:List α} {k:Nat} (p:α→Int) (h0:qL ((l.take k).map p)=0) (hk:l.length≤k):qL (l.map p)=0:=by rwa [List.take_of_length_le hk] at h0
set_option maxRecDepth 100000 in
set_option maxHeartbeats 4000000 in
theorem ofBlock_any (OI:OfIns) (m:List FunD) (f:FunD) (b:BlkD) (vm vf vb:Value) (w:World) (hm:VMod w vm m) (hf:VFun w vf f) (hb:VBlk w vb b) (hty:∀ t∈f.regs,t=1∨t=2) :
    Calls Tryz.prog 115 #[vm,vf,vb] w fun e w'=>e=.returned (errV (qS m f b))∧Below w.heap.size w w':=by
  have hm0:=hm;have hf0:=hf;have HTYP:=Lib.hid hty;clear hty;obtain ⟨Am,cm,rfl,hms⟩:=hm;obtain ⟨Ar,cr,Ab,cb,rfl,hr,hbs,hp64,hr64⟩:=hf;obtain ⟨Ap,cp,Ai,ci,At,ct,rfl,hps,his,hts,hk64,ha64⟩:=hb;have hpl:=hps.len;have hil:=his.len
  (go_enter Tryz.func115,Tryz.ntmps115);(go_wp2_with fail);obtain ⟨wa,hwa,hsa,hka,hba,hca,-⟩:=named w #[.slice Am m.length cm] 24;obtain ⟨wb,hwb,hsb,hkb,hbb,hcb,-⟩:=named wa #[.int .i64 f.params,.int .i64 f.result,.slice Ar f.regs.length cr,.slice Ab f.blocks.length cb] 30;obtain ⟨w1,hw1,hs1,hk1,hb1,hc1,-⟩:=named wb #[.slice Ap b.phis.length cp,.slice Ai b.ins.length ci,.int .i64 b.term.kind,.int .i64 b.term.arg,.slice At b.term.to.length ct] 51;rw [← hwa,← hwb,← hw1];rw [hsa] at hcb;rw [hsb,hsa] at hc1;have hB1:Below w.heap.size w w1:=(hba.trans (hbb.mono (by omega))).trans (hb1.mono (by omega))
  have q0:w1.cell? ⟨w.heap.size,0,none⟩=some (.slice Am m.length cm):=hk1 _ _ (hkb _ _ (hca 0 _ rfl));have f0:w1.cell? ⟨w.heap.size+1,0,none⟩=some (.int .i64 f.params):=hk1 _ _ (hcb 0 _ rfl);have f1:w1.cell? ⟨w.heap.size+1,1,none⟩=some (.int .i64 f.result):=hk1 _ _ (hcb 1 _ rfl);have f2:w1.cell? ⟨w.heap.size+1,2,none⟩=some (.slice Ar f.regs.length cr):=hk1 _ _ (hcb 2 _ rfl);have f3:w1.cell? ⟨w.heap.size+1,3,none⟩=some (.slice Ab f.blocks.length cb):=hk1 _ _ (hcb 3 _ rfl);have b1:w1.cell? ⟨w.heap.size+1+1,1,none⟩=some (.slice Ai b.ins.length ci):=hc1 1 _ rfl;have b2:w1.cell? ⟨w.heap.size+1+1,2,none⟩=some (.int .i64 b.term.kind):=hc1 2 _ rfl;have b3:w1.cell? ⟨w.heap.size+1+1,3,none⟩=some (.int .i64 b.term.arg):=hc1 3 _ rfl;have b4:w1.cell? ⟨w.heap.size+1+1,4,none⟩=some (.slice At b.term.to.length ct):=hc1 4 _ rfl
  (have hs1:w.heap.size+1+1<w1.heap.size:=by omega);clear hwa hwb hw1 hsa hsb hca hcb hc1 hka hkb hk1 hba hbb hb1;have hk1:=q6 hB1
  go_loopw [16] (fun i wr=>∃ k:Nat,k≤b.phis.length∧i=.int .i64 k∧Below w1.heap.size w1 wr∧Hid (qL ((b.phis.take k).map (phiE f))=0)) (fun i _=>b.phis.length - (intOf i).toNat)
  case atStart=>exact ⟨0,Nat.zero_le _,rfl,Below.refl _ _,Lib.hid rfl⟩
  case round =>
    obtain ⟨k,hk,rfl,hbel,hi⟩:=hrel;obtain ⟨wo,rfl⟩:∃ wo,wo=wr:=⟨wr,rfl⟩;have hkw:Kept w1 wo:=q6 hbel;have hB:Below w.heap.size w wo:=hB1.trans (hbel.mono (by omega));have hso:=hbel.size;have e0:=hkw _ _ f0;have e1:=hkw _ _ f1;have e2:=hkw _ _ f2;have e3:=hkw _ _ f3
    (have n1:w.heap.size+1<wo.heap.size:=by omega);have n2:w.heap.size+1+1<wo.heap.size:=by omega
    by_cases hlt:k<b.phis.length
    · obtain ⟨bb,oo,p,rfl,hp,⟨hpd,hpd64⟩,Aa,ca,hag,hags⟩:=(SPhis.keep (hk1.trans hkw) hps).at_ hlt;(go_wp2_with fail);obtain ⟨w2,hw2,hs2,hk2,hbel2,-,-⟩:=named wo #[.int .i64 p.dst,.slice Aa p.args.length ca] 55;have hb2:Below w1.heap.size w1 w2:=hbel.trans (hbel2.mono (by omega));have hB2:Below w.heap.size w w2:=hB.trans (hbel2.mono hB.size);rw [← hw2];clear hw2 hs2;refine (ofPhi_any f p _ _ _ (VFun.keep ((hk1.trans hkw).trans hk2) hf0) ⟨Aa,ca,rfl,SInts.keep hk2 hags,hpd64⟩).mono ?_;rintro e w3 ⟨rfl,hb3⟩
      have hb3':Below w1.heap.size w1 w3:=hb2.trans (hb3.mono hb2.size);have hB3:Below w.heap.size w w3:=hB2.trans (hb3.mono hB2.size)
      by_cases hc:phiE f p=0
      · have HC:=Lib.hid hc;rw [hc,errV_zero];clear hc;go_wp2_with fail
        go_roundw
        case rel=>exact ⟨k+1,by omega,by go_num,hb3',Lib.hid (by rw [first_map_at (phiE f) hp.out hi.out];exact HC.out)⟩
        case measure=>simp [intOf];omega
      · have HC:Hid (qS m f b=phiE f p):=Lib.hid (by
          have:=first_map_stop (phiE f) hp.out hi.out hc
          unfold qS;rw [this,if_neg hc])
        rw [errV_pos hc];have HC2:=Lib.hid hc;clear hc;(go_wp2_with fail);(go_ret);exact ⟨by rw [HC.out,errV_pos HC2.out];rfl,hB3⟩
    · have HP:=Lib.hid (first_map_done (phiE f) hi.out (Nat.le_of_not_lt hlt));have hbo:=hbel;have y1:=hkw _ _ b1;clear hi;go_wp2_with fail
      go_loopw [30] (fun i wr=>∃ k:Nat,k≤b.ins.length∧i=.int .i64 k∧Below w1.heap.size w1 wr∧Hid (qL ((b.ins.take k).map (insE m f))=0)) (fun i _=>b.ins.length - (intOf i).toNat)
      case atStart=>exact ⟨0,Nat.zero_le _,rfl,hbo,Lib.hid rfl⟩
      case round =>
        obtain ⟨k,hk,rfl,hbel,hi⟩:=hrel;have hkw:Kept w1 wr:=q6 hbel;have hB:Below w.heap.size w wr:=hB1.trans (hbel.mono (by omega));have hso:=hbel.size;have a0:=hkw _ _ q0;have e0:=hkw _ _ f0;have e1:=hkw _ _ f1;have e2:=hkw _ _ f2;have e3:=hkw _ _ f3
        (have n0:w.heap.size<wr.heap.size:=by omega);(have n1:w.heap.size+1<wr.heap.size:=by omega);have n2:w.heap.size+1+1<wr.heap.size:=by omega
        by_cases hlt:k<b.ins.length
        · obtain ⟨bb,oo,x,rfl,hx,⟨h0,z0⟩,⟨h1,z1⟩,⟨Aa,ca,hag,hags⟩,⟨h3,z3⟩,⟨h4,z4⟩⟩:=(SInss.keep (hk1.trans hkw) his).at_ hlt;(go_wp2_with fail);obtain ⟨w2,hw2,hs2,hk2,hbel2,-,-⟩:=named wr #[.int .i64 x.op,.int .i64 x.dst,.slice Aa x.args.length ca,.int .i64 x.imm,.int .i64 x.fn] 53;have hb2:Below w1.heap.size w1 w2:=hbel.trans (hbel2.mono (by omega));have hB2:Below w.heap.size w w2:=hB.trans (hbel2.mono hB.size);rw [← hw2];clear hw2 hs2;have hK:=(hk1.trans hkw).trans hk2;refine (OI m f x _ _ _ _ (VMod.keep hK hm0) (VFun.keep hK hf0) ⟨Aa,ca,rfl,SInts.keep hk2 hags,z0,z1,z3,z4⟩ HTYP.out).mono ?_
          rintro e w3 ⟨rfl,hb3⟩;have hb3':Below w1.heap.size w1 w3:=hb2.trans (hb3.mono hb2.size);have hB3:Below w.heap.size w w3:=hB2.trans (hb3.mono hB2.size)
          by_cases hc:insE m f x=0
          · have HC:=Lib.hid hc;rw [hc,errV_zero];clear hc;go_wp2_with fail
            go_roundw
            case rel=>exact ⟨k+1,by omega,by go_num,hb3',Lib.hid (by rw [first_map_at (insE m f) hx.out hi.out];exact HC.out)⟩
            case measure=>simp [intOf];omega
          · have HC:Hid (qS m f b=insE m f x):=Lib.hid (by
              have:=first_map_stop (insE m f) hx.out hi.out hc
              unfold qS;rw [HP.out,if_pos rfl,this,if_neg hc])
            rw [errV_pos hc];have HC2:=Lib.hid hc;clear hc;(go_wp2_with fail);(go_ret);exact ⟨by rw [HC.out,errV_pos HC2.out];rfl,hB3⟩
        · have HI:Hid (qS m f b=termE f b.term):=Lib.hid (by
            have:=first_map_done (insE m f) hi.out (Nat.le_of_not_lt hlt)
            unfold qS;rw [HP.out,if_pos rfl,this,if_pos rfl])
          have t2:=hkw _ _ b2;have t3:=hkw _ _ b3;have t4:=hkw _ _ b4;have hK:=hk1.trans hkw;(go_wp2_with fail);refine (ofTerm_any f b.term _ _ _ (VFun.keep hK hf0) ⟨At,ct,rfl,SInts.keep hK hts,hk64,ha64⟩).mono ?_;rintro e w3 ⟨rfl,hb3⟩;have hB3:Below w.heap.size w w3:=hB.trans (hb3.mono hB.size);go_wp2_with fail
          (go_ret);exact ⟨by rw [HI.out];rfl,hB3⟩
end Go.Proofs.YtfoggldjjnabcaaGreatDoor
