/- The document's Maker of layer 13. -/
import Derived.Test.YtfoggldjjnabcaaGreatDoorInfBJ
import Derived.Test.YtfoggldjjnabcaaGreatDoorInsBJ
import Derived.Test.YtfoggldjjnabcaaGreatDoorSmallJ
import Derived.Test.YtfoggldjjnabcaaGreatDoorDmVJ
import Derived.BigQuiet
import Derived.Deep.Cut
import Derived.Test.YtfoggldjjnabcaaGreatDoorGrNmJ
import Derived.Test.YtfoggldjjnabcaaGreatDoorAheadGJ
import Derived.Deep.QuietTactic
import Derived.Test.YtfoggldjjnabcaaGreatDoorGrWmJ
import Derived.Test.YtfoggldjjnabcaaGreatDoorLastJ
import Derived.StillTailTactics
import Derived.Deep.RegionHeld3
namespace Go.Proofs.YtfoggldjjnabcaaGreatDoor
open Go.ChangeShapes Go.WideShapes Go.RowKit Go.Deep
set_option linter.unusedVariables false
set_option linter.unusedSimpArgs false
theorem cntM_le (l:List Mk) (r:Nat):cntM l r≤l.length:=by unfold cntM;exact List.countP_le_length
theorem mkBs_len:∀ (l:List BlkD) (i:Nat),(∀ b∈l,b.phis.length+b.ins.length≤600)→(mkBs l i).length≤l.length * 600
  | [],_,_=>by simp [mkBs]
  | b::l,i,h=>by
    have h1:=h b (List.mem_cons_self ..);have h2:=mkBs_len l (i+1) fun x hx=>h x (List.mem_cons_of_mem _ hx);show ((mkPh i b.phis++mkIn i b.ins)++mkBs l (i+1)).length≤(l.length+1) * 600;rw [List.length_append,List.length_append];(have h3:(mkPh i b.phis).length=b.phis.length:=by unfold mkPh;rw [List.length_map]);(have h4:(mkIn i b.ins).length=b.ins.length:=by unfold mkIn;rw [List.length_mapIdx]);omega
structure MkS (M:Nat) (r:Nat) (w0:World) (l:List Mk) (w:World):Prop where
  fr:FrX (fun b=>b=M) w0 w
  bk:w.heap[M]?=some (.cells #[.int .i64 (fstM l r).b,.int .i64 (fstM l r).a] 90)
def bsK (f:FunD) (k:Nat):List Mk:=mkBs (f.blocks.take k) 0
theorem MkS.old {M r:Nat} {w0 w:World} {l:List Mk} {e:Mk} (h:MkS M r w0 l w) (he:0<cntM l r∨e.r≠(r:Int)):MkS M r w0 (l++[e]) w:=⟨h.fr,by rw [fstM_old he];exact h.bk⟩
theorem MkS.new {M r:Nat} {w0 w:World} {l:List Mk} {e:Mk} (h:MkS M r w0 l w) (h0:¬ 0<cntM l r) (he:e.r=(r:Int)):MkS M r w0 (l++[e]) ((w.setCell ⟨M,0,none⟩ (.int .i64 e.b)).setCell ⟨M,1,none⟩ (.int .i64 e.a)):=by
  refine ⟨(h.fr.setCell (p:=⟨M,0,none⟩) (.inl rfl) _).setCell (p:=⟨M,1,none⟩) (.inl rfl) _,?_⟩;rw [fstM_new h0 he];exact qF (i:=1) _ (qF (i:=0) _ h.bk)
set_option maxRecDepth 100000 in
set_option maxHeartbeats 16000000 in
theorem refMaker_any (f:FunD) (vf:Value) (w:World) (hf:VFun w vf f) (hsm:SmallF f) (r:Nat) :
    Calls Tryz.prog 42 #[vf,.int .i64 (r:Int)] w fun e w'=>e=.returned (.tuple #[.agg #[.int .i64 (fstM (mkBs f.blocks 0) r).b,.int .i64 (fstM (mkBs f.blocks 0) r).a],.int .i64 ((cntM (mkBs f.blocks 0) r:Nat):Int)])∧Below w.heap.size w w':=by
  obtain ⟨Ar,cr,Ab,cb,rfl,-,hbs,-,-⟩:=hf;have hbl:=hbs.len;have hnb:f.blocks.length≤70:=hsm.1;have HBS:=Lib.hid hbs;have HSM:=Lib.hid hsm;clear hbs hsm;(go_enter Tryz.func42,Tryz.ntmps42);(go_upto_region 2 with fail);obtain ⟨N,hN⟩:∃ N,N=w.heap.size:=⟨_,rfl⟩
  obtain ⟨w3,hw3⟩:∃ w3,w3=((w.alloc (.cells #[.int .i64 f.params,.int .i64 f.result,.slice Ar f.regs.length cr,.slice Ab f.blocks.length cb] 30)).alloc (.cells #[.int .i64 0,.int .i64 0] 90)).alloc (.cells #[.int .i64 (-1),.int .i64 (-2)] 90):=⟨_,rfl⟩;obtain ⟨b0,b1,b2,hs3,hbel3⟩:=boxes3t w N hN _ _ _ w3 hw3;rw [← hw3,← hN];(have HBEL:Hid (Below w.heap.size w w3):=Lib.hid (by first | exact hbel3 | (rw [hN];exact hbel3) | (rw [← hN];exact hbel3)));have HB0:=Lib.hid b0;have HB1:=Lib.hid b1;have HN:=Lib.hid hN;have HS3:Hid (N+1+1<w3.heap.size):=Lib.hid (by omega);have hst:Hid (MkS (N+1+1) r w3 (bsK f 0) w3):=Lib.hid ⟨FrX.refl _ _,by rw [b2];rfl⟩
  have HBW:Hid (SL w3 5 RBlk Ab cb f.blocks):=Lib.hid (SBlks.keep (q6 HBEL.out) HBS.out);clear hw3 hbel3 hs3 b0 b1 b2 hN;go_wp2_with fail
  go_loopw [7,8] (fun s7 s8 wq=>∃ k:Nat,k≤f.blocks.length∧s8=.int .i64 (k:Int)∧s7=.int .i64 ((cntM (bsK f k) r:Nat):Int)∧Hid (MkS (N+1+1) r w3 (bsK f k) wq)) (fun _ s8 _=>f.blocks.length - (intOf s8).toNat)
  case atStart=>exact ⟨0,Nat.zero_le _,rfl,rfl,hst⟩
  case round =>
    obtain ⟨k,hk,rfl,rfl,hgk⟩:=hrel;have hmk:=hgk.out;have f3:=q7 (hmk.fr.box HB0.out (by omega)) 3;have f1:=q7 (hmk.fr.box HB1.out (by omega)) 0
    by_cases hkl:k<f.blocks.length
    · have hbK:=List.getElem?_eq_getElem hkl;obtain ⟨kb,hkb⟩:∃ kb,kb=f.blocks[k]:=⟨_,rfl⟩;rw [← hkb] at hbK;have HKB:=Lib.hid hbK;obtain ⟨hi1,hi2,-⟩:=HSM.out.2.2.2 kb (List.mem_of_getElem? hbK);(have hk0:(0:Int)≤k:=by omega);have hk1:(k:Int)<f.blocks.length:=by omega
      have HL:Hid (∀ l:List Mk,l.length≤600→cntM (bsK f k++l) r≤50000):=Lib.hid (fun l hl=>by
        have h1:=cntM_le (bsK f k++l) r;rw [List.length_append] at h1
        have h2:=mkBs_len (f.blocks.take k) 0 (fun b hb=>by
          obtain ⟨g1,g2,-⟩:=HSM.out.2.2.2 b (List.mem_of_mem_take hb)
          omega)
        have h3:(bsK f k).length≤50000 - 600:=by
          unfold bsK;rw [List.length_take] at h2;have:=Nat.min_le_left k f.blocks.length;omega
        omega)
      have hg0:Hid (MkS (N+1+1) r w3 (bsK f k++mkPh k (kb.phis.take 0)) wr):=Lib.hid (by
        have:mkPh k (kb.phis.take 0)=[]:=rfl
        rw [this,List.append_nil];exact hgk.out)
      have hc0:cntM (bsK f k) r=cntM (bsK f k++mkPh k (kb.phis.take 0)) r:=by
        have:mkPh k (kb.phis.take 0)=[]:=rfl;rw [this,List.append_nil]
      rw [hc0];clear hmk hbK hkb hc0 f1;go_upto_region 7 with fail
      go_loopw [7,9] (fun s7 s9 wq=>∃ i:Nat,i≤kb.phis.length∧s9=.int .i64 (i:Int)∧s7=.int .i64 ((cntM (bsK f k++mkPh k (kb.phis.take i)) r:Nat):Int)∧Hid (MkS (N+1+1) r w3 (bsK f k++mkPh k (kb.phis.take i)) wq)) (fun _ s9 _=>kb.phis.length - (intOf s9).toNat)
      case atStart=>exact ⟨0,Nat.zero_le _,rfl,rfl,hg0⟩
      case round =>
        obtain ⟨i,hi,rfl,rfl,hgi⟩:=hrel;have hmk:=hgi.out;have f3:=q7 (hmk.fr.box HB0.out (by omega)) 3;have f1:=q7 (hmk.fr.box HB1.out (by omega)) 0;have m0:=q7 hmk.bk 0;have m1:=q7 hmk.bk 1;have z0:=qV hmk.bk 0;have z1:=qV hmk.bk 1;have hkeep:∀ a v,w.cell? a=some v→wr.cell? a=some v:=fun a v ha=>by
          have hl:=block_lt_of_cell ha;have hn:=HN.out;exact (World.cell?_of_block (hmk.fr.block a.block (by have:=HBEL.out.size;omega) (by omega))).trans (q6 HBEL.out _ _ ha)
        obtain ⟨bb,ob,kb',rfl,hkb',⟨Ap,cp,p0,hps⟩,⟨Ai,ci,p1_,his⟩,-⟩:=HBS.out.at_ hkl;obtain rfl:kb=kb':=Option.some.inj (HKB.out.symm.trans hkb'.out);have p0:=hkeep _ _ p0;have p1:=hkeep _ _ p1_;have hpl:=hps.len;have HIS:=Lib.hid his;have HP1:=Lib.hid p1_;clear hkb' his p1_
        by_cases hil:i<kb.phis.length
        · obtain ⟨bp,op,x,rfl,hx,hd0,-⟩:=hps.at_ hil;have d0:=hkeep _ _ hd0.1;have HX:=Lib.hid hx;(have hi0:(0:Int)≤i:=by omega);(have hi1':(i:Int)<kb.phis.length:=by omega);(have hcl:=HL.out (mkPh k (kb.phis.take i)) (by unfold mkPh;rw [List.length_map,List.length_take];omega));have HS:=Lib.hid (show bsK f k++mkPh k (kb.phis.take (i+1))=(bsK f k++mkPh k (kb.phis.take i))++[⟨x.dst,(k:Int),-1⟩] by rw [mkPh_succ hx.out,List.append_assoc]);have HMK:=Lib.hid hmk;clear hx hd0 hps hmk hkeep
          obtain ⟨c,hc⟩:∃ c,c=cntM (bsK f k++mkPh k (kb.phis.take i)) r:=⟨_,rfl⟩;have HC:=Lib.hid hc;rw [← hc] at hcl ⊢;clear hc
          by_cases hd:x.dst=(r:Int)
          · (have hb1:(x.dst == (r:Int))=true:=by simp [hd]);have HD:=Lib.hid hd
            by_cases h0:c=0
            · subst h0;(have hst:=HMK.out.new (e:=⟨x.dst,(k:Int),-1⟩) (by rw [← HC.out];omega) hd);have HST:=Lib.hid hst;clear hd hst;go_wp2_with fail
              go_roundw
              case rel=>exact ⟨i+1,by omega,by go_num,by rw [HS.out,qs,if_pos HD.out,← HC.out];rfl,by rw [HS.out];exact HST⟩
              case measure=>simp [intOf];omega
            · (have hb2:((c:Int) == 0)=false:=by simp [h0]);(have HST:=Lib.hid (HMK.out.old (e:=⟨x.dst,(k:Int),-1⟩) (.inl (by rw [← HC.out];omega))));clear hd;go_wp2_with fail
              go_roundw
              case rel=>exact ⟨i+1,by omega,by go_num,by rw [HS.out,qs,if_pos HD.out,← HC.out];rfl,by rw [HS.out];exact HST⟩
              case measure=>simp [intOf];omega
          · (have hb1:(x.dst == (r:Int))=false:=by simp [hd]);have HST:=Lib.hid (HMK.out.old (e:=⟨x.dst,(k:Int),-1⟩) (.inr hd));have HN0:=Lib.hid hd;clear hd;go_wp2_with fail
            go_roundw
            case rel=>exact ⟨i+1,by omega,by go_num,by rw [HS.out,qs,if_neg HN0.out,HC.out];simp,by rw [HS.out];exact HST⟩
            case measure=>simp [intOf];omega
        · obtain rfl:i=kb.phis.length:=by omega
          have hgj:Hid (MkS (N+1+1) r w3 ((bsK f k++mkPh k kb.phis)++mkIn k (kb.ins.take 0)) wr):=Lib.hid (by
            have:mkIn k (kb.ins.take 0)=[]:=rfl;rw [this,List.append_nil];have h:=hgi.out
            rw [List.take_length] at h;exact h)
          have hc0:cntM (bsK f k++mkPh k (kb.phis.take kb.phis.length)) r=cntM ((bsK f k++mkPh k kb.phis)++mkIn k (kb.ins.take 0)) r:=by
            have:mkIn k (kb.ins.take 0)=[]:=rfl;rw [this,List.append_nil,List.take_length]
          rw [hc0];clear hc0 hps m0 m1 z0 z1 hmk hkeep hgi;(go_upto_region 14 with fail);clear f3 f1 p0 p1
          go_loopw [7,10] (fun s7 s10 wq=>∃ j:Nat,j≤kb.ins.length∧s10=.int .i64 (j:Int)∧s7=.int .i64 ((cntM ((bsK f k++mkPh k kb.phis)++mkIn k (kb.ins.take j)) r:Nat):Int)∧Hid (MkS (N+1+1) r w3 ((bsK f k++mkPh k kb.phis)++mkIn k (kb.ins.take j)) wq)) (fun _ s10 _=>kb.ins.length - (intOf s10).toNat)
          case atStart=>exact ⟨0,Nat.zero_le _,rfl,rfl,hgj⟩
          case round =>
            obtain ⟨j,hj,rfl,rfl,hgi⟩:=hrel;have hmk:=hgi.out;have f3:=q7 (hmk.fr.box HB0.out (by omega)) 3;have f1:=q7 (hmk.fr.box HB1.out (by omega)) 0;have m0:=q7 hmk.bk 0;have m1:=q7 hmk.bk 1;have z0:=qV hmk.bk 0;have z1:=qV hmk.bk 1;have hkeep:∀ a v,w.cell? a=some v→wr.cell? a=some v:=fun a v ha=>by
              have hl:=block_lt_of_cell ha;have hn:=HN.out;exact (World.cell?_of_block (hmk.fr.block a.block (by have:=HBEL.out.size;omega) (by omega))).trans (q6 HBEL.out _ _ ha)
            have p1:=hkeep _ _ HP1.out;have hpl:=HIS.out.len
            by_cases hil:j<kb.ins.length
            · obtain ⟨bp,op,x,rfl,hx,-,hd0,-⟩:=HIS.out.at_ hil;have d0:=hkeep _ _ hd0.1;have HX:=Lib.hid hx;(have hj0:(0:Int)≤j:=by omega);(have hj1:(j:Int)<kb.ins.length:=by omega);(have hcl:=HL.out (mkPh k kb.phis++mkIn k (kb.ins.take j)) (by unfold mkPh mkIn;rw [List.length_append,List.length_map,List.length_mapIdx,List.length_take];omega));rw [← List.append_assoc] at hcl;have HS:=Lib.hid (show (bsK f k++mkPh k kb.phis)++mkIn k (kb.ins.take (j+1))=((bsK f k++mkPh k kb.phis)++mkIn k (kb.ins.take j))++[⟨x.dst,(k:Int),(j:Int)⟩] by rw [mkIn_succ hx.out,← List.append_assoc]);have HMK:=Lib.hid hmk
              clear hx hd0 hmk hkeep;obtain ⟨c,hc⟩:∃ c,c=cntM ((bsK f k++mkPh k kb.phis)++mkIn k (kb.ins.take j)) r:=⟨_,rfl⟩;have HC:=Lib.hid hc;rw [← hc] at hcl ⊢;clear hc
              by_cases hd:x.dst=(r:Int)
              · (have hb1:(x.dst == (r:Int))=true:=by simp [hd]);have HD:=Lib.hid hd
                by_cases h0:c=0
                · subst h0;(have hst:=HMK.out.new (e:=⟨x.dst,(k:Int),(j:Int)⟩) (by rw [← HC.out];omega) hd);have HST:=Lib.hid hst;clear hd hst;go_wp2_with fail
                  go_roundw
                  case rel=>exact ⟨j+1,by omega,by go_num,by rw [HS.out,qs,if_pos HD.out,← HC.out];rfl,by rw [HS.out];exact HST⟩
                  case measure=>simp [intOf];omega
                · (have hb2:((c:Int) == 0)=false:=by simp [h0]);(have HST:=Lib.hid (HMK.out.old (e:=⟨x.dst,(k:Int),(j:Int)⟩) (.inl (by rw [← HC.out];omega))));clear hd;go_wp2_with fail
                  go_roundw
                  case rel=>exact ⟨j+1,by omega,by go_num,by rw [HS.out,qs,if_pos HD.out,← HC.out];rfl,by rw [HS.out];exact HST⟩
                  case measure=>simp [intOf];omega
              · (have hb1:(x.dst == (r:Int))=false:=by simp [hd]);have HST:=Lib.hid (HMK.out.old (e:=⟨x.dst,(k:Int),(j:Int)⟩) (.inr hd));have HN0:=Lib.hid hd;clear hd;go_wp2_with fail
                go_roundw
                case rel=>exact ⟨j+1,by omega,by go_num,by rw [HS.out,qs,if_neg HN0.out,HC.out];simp,by rw [HS.out];exact HST⟩
                case measure=>simp [intOf];omega
            · obtain rfl:j=kb.ins.length:=by omega
              have HE:Hid ((bsK f k++mkPh k kb.phis)++mkIn k (kb.ins.take kb.ins.length)=bsK f (k+1)):=Lib.hid (by
                unfold bsK
                rw [List.take_length,mkBs_succ HKB.out,List.append_assoc])
              rw [HE.out];(have hgk:Hid (MkS (N+1+1) r w3 (bsK f (k+1)) wr):=Lib.hid (by rw [← HE.out];exact hgi.out));clear hmk hkeep m0 m1 z0 z1 hgi;go_wp2_with fail
              go_roundw
              case rel=>exact ⟨k+1,by omega,by go_num,rfl,hgk⟩
              case measure=>simp [intOf];omega
    · (obtain rfl:k=f.blocks.length:=by omega);(have HE:Hid (bsK f f.blocks.length=mkBs f.blocks 0):=Lib.hid (by unfold bsK;rw [List.take_length]));rw [HE.out] at hgk ⊢;have m0:=q7 hgk.out.bk 0;have m1:=q7 hgk.out.bk 1;have y0:=q7 (hgk.out.fr.box HB1.out (by omega)) 0;have y1:=q7 (hgk.out.fr.box HB1.out (by omega)) 1;have q0:=qV (hgk.out.fr.box HB1.out (by omega)) 0;have q1:=qV (hgk.out.fr.box HB1.out (by omega)) 1
      (have HBE:Hid (Below w.heap.size w wr):=Lib.hid (HBEL.out.trans (hgk.out.fr.below HBEL.out.size (fun b hb=>by have:=HN.out;omega))));have e1:=hgk.out.fr.box HB1.out (show ¬ N+1=N+1+1 by omega);have HE1:=Lib.hid e1;clear hmk hgk f1 e1;(go_wp2_with fail);refine bodyPost_ret (qC rfl _ _ (N+1) 90 #[.int .i64 (fstM (mkBs f.blocks 0) r).b,.int .i64 (fstM (mkBs f.blocks 0) r).a] (0,0) _ (by rfl) (qF (i:=1) _ (qF (i:=0) _ HE1.out)) Tryz.underlying90 (by rfl) (by kernel_rfl)) rfl ?_;exact ⟨rfl,(HBE.out.setCell (by have:=HN.out;show _≤N+1;omega) _).setCell (by have:=HN.out;show _≤N+1;omega) _⟩
theorem mem_mkBs:∀ {l:List BlkD} {i:Nat} {e:Mk},e∈mkBs l i↔∃ k b,l[k]?=some b∧e.b=((i+k:Nat):Int)∧((e.a=-1∧∃ p∈b.phis,p.dst=e.r)∨∃ (j:Nat) (x:InsD),e.a=(j:Int)∧b.ins[j]?=some x∧x.dst=e.r)
  | [],i,e=>by
    constructor
    · intro h;cases h
    · rintro ⟨k,b,h,-⟩;simp at h
  | b::l,i,e=>by
    show e∈(mkPh i b.phis++mkIn i b.ins)++mkBs l (i+1)↔_;rw [List.mem_append,List.mem_append,mem_mkBs (l:=l)];constructor
    · rintro ((h | h) | ⟨k,b',h1,h2,h3⟩)
      · obtain ⟨p,hp,rfl⟩:=List.mem_map.1 h;exact ⟨0,b,rfl,rfl,.inl ⟨rfl,p,hp,rfl⟩⟩
      · obtain ⟨j,hj,rfl⟩:=List.mem_mapIdx.1 h;exact ⟨0,b,rfl,rfl,.inr ⟨j,b.ins[j],rfl,List.getElem?_eq_getElem hj,rfl⟩⟩
      · exact ⟨k+1,b',by simpa using h1,by rw [h2];congr 1;omega,h3⟩
    · rintro ⟨k,b',h1,h2,h3⟩;cases k with
      | zero =>
        (obtain rfl:b=b':=by simpa using h1);obtain ⟨r,eb,ea⟩:=e;left;rcases h3 with ⟨h,p,hp,e1⟩ | ⟨j,x,h,hx,e1⟩
        · left;refine List.mem_map.2 ⟨p,hp,?_⟩;simp only [Mk.mk.injEq];exact ⟨e1,h2.symm,h.symm⟩
        · right;have hj:=(List.getElem?_eq_some_iff.1 hx);refine List.mem_mapIdx.2 ⟨j,hj.1,?_⟩;rw [hj.2];simp only [Mk.mk.injEq];exact ⟨e1,h2.symm,h.symm⟩
      | succ k=>exact .inr ⟨k,b',by simpa using h1,by rw [h2];congr 1;omega,h3⟩
def outB (n:Nat) (x:Int):Bool:=decide (x<0) || decide ((n:Int)≤x)
def hasB (n:Nat) (acc:List Nat) (x:Int) (i:Nat):Bool:=outB n x || decide (∃ q∈acc.take i,(q:Int)=x)
theorem hasB_step {n:Nat} {acc:List Nat} {x:Int} {i q:Nat} (h:acc[i]?=some q):hasB n acc x (i+1)=(hasB n acc x i || ((q:Int) == x)):=by
  unfold hasB;rw [qD h,Bool.or_assoc];(congr 1);rw [Bool.eq_iff_iff,Bool.or_eq_true,decide_eq_true_iff,decide_eq_true_iff,beq_iff_eq];constructor
  · rintro ⟨p,hp,e⟩;rcases List.mem_append.1 hp with hp | hp
    · exact .inl ⟨p,hp,e⟩
    · rw [List.mem_singleton.1 hp] at e;exact .inr e
  · rintro (⟨p,hp,e⟩ | e)
    · exact ⟨p,List.mem_append.2 (.inl hp),e⟩
    · exact ⟨q,by simp,e⟩
theorem addT_has {n:Nat} {acc:List Nat} {x:Int} (h:hasB n acc x acc.length=true):addT n acc x=acc:=by
  apply addT_old;rintro ⟨h1,h2,h3⟩;unfold hasB outB at h;rw [List.take_length] at h;simp only [Bool.or_eq_true,decide_eq_true_iff] at h;rcases h with (h | h) | ⟨q,hq,e⟩
  · omega
  · omega
  · exact h3 (by rw [← e];simpa using hq)
theorem addT_has_not {n:Nat} {acc:List Nat} {x:Int} (h:hasB n acc x acc.length=false):0≤x∧x<n∧addT n acc x=acc++[x.toNat]:=by
  unfold hasB outB at h;rw [List.take_length] at h;simp only [Bool.or_eq_false_iff,decide_eq_false_iff_not] at h;obtain ⟨⟨h1,h2⟩,h3⟩:=h;refine ⟨by omega,by omega,?_⟩;unfold addT;rw [if_pos ⟨by omega,by omega,fun hm=>h3 ⟨_,hm,by omega⟩⟩]
def ToldN_ (bs:List BlkD) (a:Nat) (w:World) (e:Ending) (w':World):Prop :=
  (∃ v,e=.returned v∧w'.ownsRow w.heap.size 3 1 v (nxF bs a).length ((zs (nxF bs a)).map (Value.int .i64)))∧Below w.heap.size w w'
set_option maxRecDepth 100000 in
set_option maxHeartbeats 4000000 in
theorem refNext_any (f:FunD) (a:Nat) (v:Value) (w:World) (hv:VFun w v f) (hn:f.blocks.length≤1000000) (ha:a<f.blocks.length) :
    Calls Tryz.prog 88 #[v,.int .i64 a] w (ToldN_ f.blocks a w):=by
  obtain ⟨Ar,cr,A,c,rfl,-,hb,-,-⟩:=hv;have hbl:=hb.len;obtain ⟨i0,hi,hz0,hz1,hz2⟩:=info_parts Tryz.info3;have HI:=Lib.hid (And.intro hi (And.intro hz0 (And.intro hz1 hz2)));clear hi hz0 hz1 hz2;(have ha0:(0:Int)≤a:=by omega);(have ha1:(a:Int)<f.blocks.length:=by omega);(go_enter Tryz.func88,Tryz.ntmps88);go_wp2_with fail
  obtain ⟨w1,hw1,hs1,hk1,hbel1,hc1,-⟩:=named w #[.int .i64 f.params,.int .i64 f.result,.slice Ar f.regs.length cr,.slice A f.blocks.length c] 30;have c3:=hc1 3 _ rfl;rw [← hw1];have HB1:=Lib.hid hbel1;have HS1:Hid (w.heap.size≤w1.heap.size):=Lib.hid (by omega);obtain ⟨b,o,kb,rfl,hkb,-,-,-,-,A',c',hto,htos⟩:=(SBlks.keep hk1 hb).at_ ha;have htl:=htos.len;have HT:=Lib.hid (nxF_at hkb.out);clear hw1 hs1 hk1 hbel1 hc1 hb
  go_loopw [5,6] (fun out i wr=>∃ k:Nat,k≤kb.term.to.length∧i=.int .i64 k∧Below w1.heap.size w1 wr ∧
    wr.ownsRow w1.heap.size 3 1 out (nextN f.blocks.length (kb.term.to.take k)).length ((zs (nextN f.blocks.length (kb.term.to.take k))).map (Value.int .i64))) (fun _ i _=>kb.term.to.length - (intOf i).toNat)
  case atStart=>exact ⟨0,Nat.zero_le _,rfl,Below.refl _ _,rfl,.inl ⟨rfl,rfl⟩⟩
  case round =>
    obtain ⟨k,hk,rfl,hbel,hown⟩:=hrel;have hs:=hbel.size;have hkw:Kept w1 wr:=q6 hbel;have hbox:=hkw _ _ c3;have htoc:=hkw _ _ hto
    by_cases hlt:k<kb.term.to.length
    · obtain ⟨b',o',x,rfl,hx,hxc,-⟩:=(SInts.keep hkw htos).int hlt;have HST:=Lib.hid (nextN_step (n:=f.blocks.length) hx.out);have hfew:=nextN_few f.blocks.length (kb.term.to.take k);have HBEL:=Lib.hid hbel;have HKW:=Lib.hid hkw;clear hbel hkw;have hmem:∀ q∈nextN f.blocks.length (kb.term.to.take k),q<f.blocks.length:=fun q hq=>(nextN_mem.1 hq).1;generalize nextN f.blocks.length (kb.term.to.take k)=acc at *;obtain ⟨Ao,co,rfl,hso⟩:=slB_of_own (B:=fun _=>True) (xs:=zs acc) (by rw [qc];exact hown) (fun y hy=>by obtain ⟨q,hq,rfl⟩:=zs_mem hy;have:=hmem q hq;unfold I64;omega) (fun _ _ _=>trivial)
      rw [qc] at hown ⊢;have HOWN:=Lib.hid hown;have HM:=Lib.hid hmem;clear hown hmem;(go_upto_region 6 with fail);go_cut [8] (fun s8 wx=>s8=.bool (outB f.blocks.length x)∧wx=wr)
      case first =>
        by_cases h0:x<0
        · (have e:outB f.blocks.length x=true:=by unfold outB;simp [h0]);(go_wp2_with fail);(go_meet);exact ⟨by rw [e],rfl⟩
        · by_cases h1:(f.blocks.length:Int)≤x
          · (have e:outB f.blocks.length x=true:=by unfold outB;simp [h1]);(go_wp2_with fail);(go_meet);exact ⟨by rw [e],rfl⟩
          · (have e:outB f.blocks.length x=false:=by unfold outB;simp;omega);have h1':decide ((f.blocks.length:Int)≤x)=false:=decide_eq_false h1;(go_wp2_with fail);(go_meet);exact ⟨by rw [e],rfl⟩
      case rest =>
        obtain ⟨rfl,rfl⟩:=hcut;(have hal:acc.length≤1000000:=by omega);(go_wp2_with fail);go_loop [8,9] (fun h i=>∃ j:Nat,j≤acc.length∧i=.int .i64 j∧h=.bool (hasB f.blocks.length acc x j)) (fun _ i=>acc.length - (intOf i).toNat)
        case atStart=>exact ⟨0,Nat.zero_le _,rfl,by unfold hasB;simp⟩
        case round =>
          obtain ⟨j,hj,rfl,rfl⟩:=hrel
          by_cases hjt:j<acc.length
          · (obtain ⟨bo,oo,y,rfl,hy,-,hyc,-⟩:=hso.at_ (k:=j) (by rw [qc];exact hjt));obtain ⟨q,hq,rfl⟩:=zs_at hy.out;(have hyc:wc.cell? ⟨bo,oo+j,none⟩=some (.int .i64 (q:Int)):=by rw [Nat.mul_one] at hyc;exact hyc);have HSTEP:=Lib.hid (hasB_step (n:=f.blocks.length) (x:=x) hq);(have hj0:(0:Int)≤j:=by omega);(have hj1:(j:Int)<acc.length:=by omega);clear hq hso;generalize hasB f.blocks.length acc x j=h0 at *;cases h0
            · cases hqx:((q:Int) == x)
              · have HQ:=Lib.hid hqx;(go_wp2_with fail);go_round
                case rel=>exact ⟨j+1,by omega,by go_num,by rw [HSTEP.out,HQ.out];rfl⟩
                case measure=>simp [intOf];omega
              · have HQ:=Lib.hid hqx;(go_wp2_with fail);go_round
                case rel=>exact ⟨j+1,by omega,by go_num,by rw [HSTEP.out,HQ.out];rfl⟩
                case measure=>simp [intOf];omega
            · (go_wp2_with fail);go_round
              case rel=>exact ⟨j+1,by omega,by go_num,by rw [HSTEP.out];rfl⟩
              case measure=>simp [intOf];omega
          · (obtain rfl:j=acc.length:=by omega);cases hh:hasB f.blocks.length acc x acc.length
            · have HH:=Lib.hid (addT_has_not hh);clear hh hjt hj;go_wp2_with (at_builtin;refine wpList_append_lies _ rfl (.tmp 58) (.tmp 60) 27 rfl w1.heap.size 3 i0 (.int .i64 0) 1 8 Tryz.underlying27 HI.out.1 HI.out.2.1 HI.out.2.2.1 HI.out.2.2.2 rfl (by decide) _ _ _ rfl (HOWN.out.alloc _) ⟨wc.heap.size,0,none⟩ 1 1 [.int .i64 x] rfl rfl ?d1 ?d2 ?d0 ?d3 ?d4 ?d5 (wc.heap.size+1) ?d6 ?_)
              case d2=>rfl
              case d3=>unfold maxLen;omega
              case d4=>omega
              case d5=>omega
              intro g cap w3 hown3 hgrow3 hloc3 hlt3;(have hb3:Below w1.heap.size w1 w3:=(HBEL.out.alloc hs _).grown hgrow3 (by simp;omega) (fun g hg=>(HOWN.out.lt g hg).1));(obtain ⟨q,hq⟩:∃ q:Nat,x=q:=⟨x.toNat,by have:=HH.out;omega⟩);have hnew:w3.ownsRow w1.heap.size 3 1 (.slice (some ⟨g,0,none⟩) (acc.length+1) cap) (nextN f.blocks.length (kb.term.to.take (k+1))).length ((zs (nextN f.blocks.length (kb.term.to.take (k+1)))).map (Value.int .i64)):=by
                rw [HST.out,HH.out.2.2,hq];simpa [zs,hq] using hown3
              have HNEW:=Lib.hid hnew;have HB3:=Lib.hid hb3;clear hown3 hgrow3 hloc3 hnew hb3 hq;go_wp2_with fail
              go_roundw
              case rel=>exact ⟨k+1,by omega,by go_num,HB3.out,HNEW.out⟩
              case measure=>simp [intOf];omega
            · have HH:=Lib.hid (addT_has hh);(have HOWN2:Hid (wc.ownsRow w1.heap.size 3 1 (.slice Ao acc.length co) (nextN f.blocks.length (kb.term.to.take (k+1))).length ((zs (nextN f.blocks.length (kb.term.to.take (k+1)))).map (Value.int .i64))):=Lib.hid (by rw [HST.out,HH.out];exact HOWN.out));clear hh hjt hj;go_wp2_with fail
              go_roundw
              case rel=>exact ⟨k+1,by omega,by go_num,HBEL.out,HOWN2.out⟩
              case measure=>simp [intOf];omega
    · have hjj:kb.term.to.take k=kb.term.to:=List.take_of_length_le (by omega);rw [hjj,← HT.out] at hown;have HO:=Lib.hid (own_base hown (base':=w.heap.size) HS1.out);have HBF:Hid (Below w.heap.size w wr):=Lib.hid (HB1.out.trans (hbel.mono HB1.out.size));clear hjj hown hbel hkw;(go_wp2_with fail);(go_ret);exact ⟨⟨_,rfl,HO.out⟩,HBF.out⟩
def ToldF_ (bs:List BlkD) (b w:Int) (W:World) (e:Ending) (W':World):Prop :=
  (∃ H,e=.returned (.slice (some ⟨H,0,none⟩) bs.length bs.length)∧W.heap.size≤H∧W'.rowIs H 4 bs.length (fun x=>.bool (fromB bs b w x)))∧Below W.heap.size W W'
set_option maxRecDepth 100000 in
set_option maxHeartbeats 8000000 in
theorem from_any (f:FunD) (b z:Int) (v:Value) (w:World) (hv:VFun w v f) (hn:f.blocks.length≤1000) :
    Calls Tryz.prog 41 #[v,.int .i64 b,.int .i64 z] w (ToldF_ f.blocks b z w):=by
  have hv0:=hv;obtain ⟨Ar,cr,A,c,rfl,-,-,-,-⟩:=hv;have hmk:=run_make_row' (P:=Tryz.prog) 64 4 (.bool false) 1 Tryz.underlying64 Tryz.info4 rfl .i64 .i64 f.blocks.length (by omega) (by omega);have HV:=Lib.hid hv0;clear hv0;(go_enter Tryz.func41,Tryz.ntmps41);(go_upto_region 2 with fail);clear hmk;obtain ⟨w1,hw1,hs1,hk1,hbel1,hc1,-⟩:=named w #[.int .i64 f.params,.int .i64 f.result,.slice Ar f.regs.length cr,.slice A f.blocks.length c] 30
  rw [← hw1];obtain ⟨H,hH⟩:∃ H,H=w.heap.size+1:=⟨_,rfl⟩;have hrow:=World.rowIs_made w1 (.bool false) f.blocks.length 4;have hb2:Below w1.heap.size w1 (w1.alloc (.cells (madeCells #[.bool false] f.blocks.length) 4)):=(Below.refl _ _).alloc (Nat.le_refl _) _;(have hz2:(w1.alloc (.cells (madeCells #[.bool false] f.blocks.length) 4)).heap.size=w1.heap.size+1:=by simp);rw [hs1,← hH] at hrow hb2 hz2;rw [← hH];generalize w1.alloc (.cells (madeCells #[.bool false] f.blocks.length) 4)=w2 at *;have hk2:=kept_below hb2 (by omega)
  have c0:=hk2 _ _ (hc1 0 _ rfl);have c1:=hk2 _ _ (hc1 1 _ rfl);have c2:=hk2 _ _ (hc1 2 _ rfl);have c3:=hk2 _ _ (hc1 3 _ rfl);have HHW:Hid (w.heap.size+1=H):=Lib.hid (by omega);(have hhw:w.heap.size<H:=by omega);(have hh2:H<w2.heap.size:=by omega);have HB2:Hid (Below w.heap.size w w2):=Lib.hid (hbel1.trans (hb2.mono (by omega)));have HV2:Hid (VFun w2 (.agg #[.int .i64 f.params,.int .i64 f.result,.slice Ar f.regs.length cr,.slice A f.blocks.length c]) f):=Lib.hid (VFun.keep (hk1.trans hk2) HV.out)
  have HROW:=Lib.hid hrow;have HV0:=HV;clear hw1 hs1 hk1 hbel1 hc1 hb2 hz2 hk2 hH hrow HV
  by_cases hok:0≤b∧b<f.blocks.length∧b≠z
  · obtain ⟨h1,h2,h3⟩:=hok;obtain ⟨q,rfl⟩:∃ q:Nat,b=q:=⟨b.toNat,by omega⟩;(have hq:q<f.blocks.length:=by omega);(have hne:((q:Int) == z)=false:=by rw [beq_eq_false_iff_ne];exact h3);(have hge:¬ ((f.blocks.length:Int)≤q):=by omega);have hge':decide ((f.blocks.length:Int)≤q)=false:=decide_eq_false hge;(have HRES:Hid (∀ x,fromB f.blocks q z x=fromN (nxF f.blocks) z f.blocks.length q f.blocks.length x):=Lib.hid (fun x=>by unfold fromB;rw [if_pos ⟨h1,h2,h3⟩];simp));have hcell:=HROW.out.cell hq;have hfr:=HROW.out.frozen q
    (have hset:=(HROW.out.set q (.bool true)).congr (g:=fun x=>.bool (mark qZ q x)) fun x _=>by unfold mark qZ;by_cases e:x=q <;> simp [e]);have hbs:BB w2.heap.size H w2 (w2.setCell ⟨H,q,none⟩ (.bool true)):=(BB.refl w2.heap.size H w2).setCell (p:=⟨H,q,none⟩) (.inl rfl) _;clear h3;(go_upto_region 5 with fail);clear hcell hfr;generalize hW3:w2.setCell ⟨H,q,none⟩ (.bool true)=w3 at *;clear hW3;have HSET:=Lib.hid hset;have HBS:=Lib.hid hbs
    clear hset hbs;go_wp2_with fail
    go_loopw [8] (fun s8 wr=>∃ i:Nat,i≤f.blocks.length∧s8=.int .i64 i∧wr.rowIs H 4 f.blocks.length (fun x=>.bool (fromN (nxF f.blocks) z f.blocks.length q i x))∧BB w2.heap.size H w2 wr) (fun s8 _=>f.blocks.length - (intOf s8).toNat)
    case atStart=>exact ⟨0,Nat.zero_le _,rfl,HSET.out,HBS.out⟩
    case round =>
      obtain ⟨i,hi,rfl,hrw,hbb⟩:=hrel;have HRW:=Lib.hid hrw;have HBB:=Lib.hid hbb;clear hrw hbb;obtain ⟨wo,rfl⟩:∃ wo,wo=wr:=⟨wr,rfl⟩
      by_cases hlt:i<f.blocks.length
      · go_wp2_with fail
        go_loopw [9] (fun s9 wr=>∃ a:Nat,a≤f.blocks.length∧s9=.int .i64 a∧wr.rowIs H 4 f.blocks.length (fun x=>.bool ((List.range a).foldl (fromA (nxF f.blocks) z) (fromN (nxF f.blocks) z f.blocks.length q i) x))∧BB w2.heap.size H w2 wr) (fun s9 _=>f.blocks.length - (intOf s9).toNat)
        case atStart=>exact ⟨0,Nat.zero_le _,rfl,HRW.out,HBB.out⟩
        case round =>
          obtain ⟨a,ha,rfl,hrw,hbb⟩:=hrel;obtain ⟨wm,rfl⟩:∃ wm,wm=wr:=⟨wr,rfl⟩;have HSUC:=Lib.hid (range_fold (nx:=nxF f.blocks) (w:=z) (S:=fromN (nxF f.blocks) z f.blocks.length q i) a);obtain ⟨S,hS⟩:∃ S,S=(List.range a).foldl (fromA (nxF f.blocks) z) (fromN (nxF f.blocks) z f.blocks.length q i):=⟨_,rfl⟩;rw [← hS] at hrw HSUC;have HS:=Lib.hid hS;clear hS HRW HBB;have HRA:=Lib.hid hrw;have HBA:=Lib.hid hbb
          by_cases hlta:a<f.blocks.length
          · have hsc:=hrw.cell hlta;(have ha0:(0:Int)≤a:=by omega);(have ha1:(a:Int)<f.blocks.length:=by omega);cases hsa:S a
            · rw [hsa] at hsc;(have HSU:Hid ((List.range (a+1)).foldl (fromA (nxF f.blocks) z) (fromN (nxF f.blocks) z f.blocks.length q i)=S):=Lib.hid (by rw [HSUC.out];unfold fromA;rw [hsa];rfl));clear hsa hrw hbb;go_wp2_with fail
              go_roundw
              case rel=>exact ⟨a+1,by omega,by go_num,by rw [HSU.out];exact HRA.out,HBA.out⟩
              case measure=>simp [intOf];omega
            · rw [hsa] at hsc;(have HSU:Hid ((List.range (a+1)).foldl (fromA (nxF f.blocks) z) (fromN (nxF f.blocks) z f.blocks.length q i)=(nxF f.blocks a).foldl (mkW z) S):=Lib.hid (by rw [HSUC.out];unfold fromA;rw [hsa];rfl));have hkb:∀ y o u,y<w2.heap.size→y≠H→w2.cell? ⟨y,o,none⟩=some u→wm.cell? ⟨y,o,none⟩=some u:=fun y o u h1 h2 hu=>(World.cell?_of_block (a:=⟨y,o,none⟩) (hbb.block y h1 h2)).trans hu;have d0:=hkb _ _ _ (by omega) (by omega) c0;have d1:=hkb _ _ _ (by omega) (by omega) c1;have d2:=hkb _ _ _ (by omega) (by omega) c2;have d3:=hkb _ _ _ (by omega) (by omega) c3;have hzr:=hbb.size;have hbw:Below w2.heap.size w2 w2:=Below.refl _ _
              have HVR:Hid (VFun wm (.agg #[.int .i64 f.params,.int .i64 f.result,.slice Ar f.regs.length cr,.slice A f.blocks.length c]) f):=Lib.hid (VFun.keep (q6 (HB2.out.trans (hbb.below (by omega) (by omega)))) HV0.out);have HN:=Lib.hid (refNext_any f a _ wm HVR.out (by omega) hlta);clear hsa hrw hbb hkb;(go_wp2_with fail);refine HN.out.mono ?_;rintro e w5 ⟨⟨vl,rfl,hl⟩,hb5⟩;have hk5:=q6 hb5;have d0:=hk5 _ _ d0;have d1:=hk5 _ _ d1
              have d2:=hk5 _ _ d2;have d3:=hk5 _ _ d3;have HR5:=Lib.hid (HRA.out.of_block (hb5.block H HRA.out.lt));have HB5:Hid (BB w2.heap.size H w2 w5):=Lib.hid (HBA.out.trans (BB.of_below hb5 hzr));have hll:(nxF f.blocks a).length≤f.blocks.length:=by
                unfold nxF;split
                · exact nextN_few _ _
                · simp
              have HLT:=Lib.hid (nxF_lt f.blocks a);have hz5:=hb5.size;generalize nxF f.blocks a=l at *;(obtain ⟨Al,cl,rfl,hsl⟩:=slB_of_own (B:=fun g=>wm.heap.size≤g∧g<w5.heap.size) (xs:=zs l) (by rw [qc];exact hl) (fun y hy=>by obtain ⟨t,ht,rfl⟩:=zs_mem hy;have:=HLT.out t ht;unfold I64;omega) (fun _ h1 h2=>⟨h1,h2⟩));rw [qc];have HSL:=Lib.hid hsl;have hHr:H<wm.heap.size:=HRA.out.lt;clear hl hb5 hk5 hsl HN hsc;go_wp2_with fail
              go_loopw [11] (fun s11 wi=>∃ k:Nat,k≤l.length∧s11=.int .i64 k∧wi.rowIs H 4 f.blocks.length (fun x=>.bool ((l.take k).foldl (mkW z) S x))∧BB w5.heap.size H w5 wi) (fun s11 _=>l.length - (intOf s11).toNat)
              case atStart=>exact ⟨0,Nat.zero_le _,rfl,by simpa using HR5.out,BB.refl _ _ _⟩
              case round =>
                obtain ⟨k,hk,rfl,hri,hbi⟩:=hrel;obtain ⟨wi,rfl⟩:∃ wi,wi=wr:=⟨wr,rfl⟩;(have hsi:=SIntsB.go (B:=fun g=>wm.heap.size≤g∧g<w5.heap.size) (B':=fun _=>True) (w:=w5) (w':=wi) (fun a v hb ha=>(World.cell?_of_block (hbi.block a.block hb.2 (by have:=hb.1;omega))).trans ha) (fun _ _=>trivial) HSL.out);have HRI:=Lib.hid hri;have HBI:=Lib.hid hbi
                by_cases hkl:k<l.length
                · (obtain ⟨bl,ol,y,rfl,hy,-,hyc,-⟩:=hsi.at_ (k:=k) (by rw [qc];exact hkl));obtain ⟨t,ht,rfl⟩:=zs_at hy.out;have htn:t<f.blocks.length:=HLT.out t (List.mem_of_getElem? ht);(have hyc:wi.cell? ⟨bl,ol+k,none⟩=some (.int .i64 (t:Int)):=by rw [Nat.mul_one] at hyc;exact hyc);(have ht0:(0:Int)≤t:=by omega);(have ht1:(t:Int)<f.blocks.length:=by omega);(have hk0:(0:Int)≤k:=by omega);(have hk1:(k:Int)<l.length:=by omega);have HMK:=Lib.hid (mk_fold (w:=z) (S:=S) ht)
                  by_cases htz:(t:Int)=z
                  · (have hbz:((t:Int) != z)=false:=by simp [htz]);(have HS2:Hid ((l.take (k+1)).foldl (mkW z) S=(l.take k).foldl (mkW z) S):=Lib.hid (by rw [HMK.out];unfold mkW;rw [if_pos htz]));clear htz ht hsi hri hbi;go_wp2_with fail
                    go_roundw
                    case rel=>exact ⟨k+1,by omega,by go_num,by rw [HS2.out];exact HRI.out,HBI.out⟩
                    case measure=>simp [intOf];omega
                  · (have hbz:((t:Int) != z)=true:=by simpa using htz);(have HS2:Hid ((l.take (k+1)).foldl (mkW z) S=mark ((l.take k).foldl (mkW z) S) t):=Lib.hid (by rw [HMK.out];unfold mkW;rw [if_neg htz]));have hcc:=hri.cell htn;have hcf:=hri.frozen t;(have HR2:=Lib.hid ((hri.set t (.bool true)).congr (g:=fun x=>.bool ((l.take (k+1)).foldl (mkW z) S x)) fun x _=>by rw [HS2.out];unfold mark;by_cases e:x=t <;> simp [e]));clear htz ht hsi hri hbi;go_wp2_with fail
                    go_roundw
                    case rel=>exact ⟨k+1,by omega,by go_num,HR2.out,HBI.out.setCell (.inl rfl) _⟩
                    case measure=>simp [intOf];omega
                · have hfin:Hid ((List.range (a+1)).foldl (fromA (nxF f.blocks) z) (fromN (nxF f.blocks) z f.blocks.length q i)=(l.take k).foldl (mkW z) S):=Lib.hid (by rw [HSU.out,List.take_of_length_le (by omega)]);have HBF:Hid (BB w2.heap.size H w2 wi):=Lib.hid (HB5.out.trans (HBI.out.mono (by omega)));clear hsi hri hbi;go_wp2_with fail
                  go_roundw
                  case rel=>exact ⟨a+1,by omega,by go_num,by rw [hfin.out];exact HRI.out,HBF.out⟩
                  case measure=>simp [intOf];omega
          · (obtain rfl:a=f.blocks.length:=by omega);have hfin:Hid (fromN (nxF f.blocks) z f.blocks.length q (i+1)=S):=Lib.hid HS.out.symm;clear hrw hbb;go_wp2_with fail
            go_roundw
            case rel=>exact ⟨i+1,by omega,by go_num,by rw [hfin.out];exact HRA.out,HBA.out⟩
            case measure=>simp [intOf];omega
      · (obtain rfl:i=f.blocks.length:=by omega);have HFIN:=Lib.hid (HRW.out.congr (g:=fun x=>.bool (fromB f.blocks q z x)) fun x _=>by rw [HRES.out]);(go_wp2_with fail);(go_ret);exact ⟨⟨H,rfl,by omega,HFIN.out⟩,HB2.out.trans (HBB.out.below (by omega) (by omega))⟩
  · (have HRES:Hid (∀ x,fromB f.blocks b z x=false):=Lib.hid (fun x=>by unfold fromB;rw [if_neg hok]));have HFIN:=Lib.hid (HROW.out.congr (g:=fun x=>.bool (fromB f.blocks b z x)) fun x _=>by rw [HRES.out])
    by_cases h0:b<0
    · clear hok;(go_wp2_with fail);(go_ret);exact ⟨⟨H,rfl,by omega,HFIN.out⟩,HB2.out⟩
    · by_cases h1:(f.blocks.length:Int)≤b
      · clear hok;(go_wp2_with fail);(go_ret);exact ⟨⟨H,rfl,by omega,HFIN.out⟩,HB2.out⟩
      · (have hbz:(b == z)=true:=by rw [beq_iff_eq];omega);have h1':decide ((f.blocks.length:Int)≤b)=false:=decide_eq_false h1;clear hok;(go_wp2_with fail);(go_ret);exact ⟨⟨H,rfl,by omega,HFIN.out⟩,HB2.out⟩
end Go.Proofs.YtfoggldjjnabcaaGreatDoor
