/- The program's usesOf. -/
import Derived.Test.YtfoggldjjnabcaaLvSJ
import Derived.Laws.EntriesVeiled
import Derived.BigQuiet
namespace Go.Proofs.Ytfoggldjjnabcaa
open Go.ChangeShapes Go.WideShapes Go.RowKit Go.Deep
set_option linter.unusedVariables false
theorem FrX.groS {X:Nat→Prop} {w0 a b:World} {lo hi:Nat} {v v':Value} (h:FrX X w0 a) (g:GroS lo hi a b v v') (hx:∀ k,lo≤k→k≤hi→X k∨w0.heap.size≤k) (hv:∀ k,v.ownBlock=some k→X k∨w0.heap.size≤k):FrX X w0 b :=
  ⟨g.os.trans h.os,g.tape.trans h.tape,g.output.trans h.output,Nat.le_trans h.size g.size,fun k hk hn=>(g.block k (Nat.lt_of_lt_of_le hk h.size) (fun e=>by
    rcases hx k e.1 e.2 with h1 | h1
    · exact hn h1
    · omega) (fun e=>by
    rcases hv k e with h1 | h1
    · exact hn h1
    · omega)).trans (h.block k hk hn)⟩
def ToldU (w:World) (GM R:Nat) (k:BlkD) (e:Ending) (w':World):Prop :=
  ∃ vu,e=.returned vu∧w'.ownsRow w.heap.size 3 1 vu (usB k).length ((usB k).map fun y:Nat=>Value.int .i64 (y:Int))∧w'.rowIs GM 4 R (fun r=>.bool (mkI k.ins k.ins.length r))∧FrX (fun b=>b=GM) w w'
set_option maxRecDepth 100000 in
set_option maxHeartbeats 8000000 in
theorem usesOf_any (Wa w:World) (k:BlkD) (v:Value) (hv:VBlk Wa v k) (GM R:Nat) (hW:Below Wa.heap.size Wa w) (hGM:Wa.heap.size≤GM) (hm:w.rowIs GM 4 R (fun _=>.bool false)) (hok:UseOk R k) (hR:R≤256) :
    Calls Try.prog 65 #[v,.slice (some ⟨GM,0,none⟩) R R] w (ToldU w GM R k):=by
  obtain ⟨Ap,cp,Ai,ci,At,ct,rfl,-,hi,-,hk1,hk2⟩:=hv;have HW:=Lib.hid hW;have HI:=Lib.hid hi;have HOK:=Lib.hid hok;have HM:=Lib.hid hm;have HGM:=Lib.hid (And.intro hGM hm.lt);have hil:=hok.len;have hmf:∀ (fn:Fn) (first cap:Array Value) (w:World),(Instr.makeFunc fn first cap).run Try.prog w=.ok (.func fn first cap) w:=fun _ _ _ _=>rfl;clear hW hi hok hm hGM
  (go_enter Try.func65,Try.ntmps65);(go_upto_region 3 with fail);clear hmf;obtain ⟨N,hN⟩:∃ N,N=w.heap.size:=⟨_,rfl⟩;rw [← hN];obtain ⟨W0,hW0⟩:∃ W0,W0=((w.alloc (.cells #[.slice Ap k.phis.length cp,.slice Ai k.ins.length ci,.int .i64 k.term.kind,.int .i64 k.term.arg,.slice At k.term.to.length ct] 43)).alloc (.cells #[.slice (some ⟨GM,0,none⟩) R R] 59)).alloc (.cells #[.slice none 0 0] 28):=⟨_,rfl⟩;obtain ⟨b0,b1,b2,hbel⟩:W0.heap[N]?=some (.cells #[.slice Ap k.phis.length cp,.slice Ai k.ins.length ci,.int .i64 k.term.kind,.int .i64 k.term.arg,.slice At k.term.to.length ct] 43)∧W0.heap[N+1]?=some (.cells #[.slice (some ⟨GM,0,none⟩) R R] 59)∧W0.heap[N+1+1]?=some (.cells #[.slice none 0 0] 28)∧Below N w W0:=by
    subst hW0 hN;have h0:=heap_alloc_new w (.cells #[.slice Ap k.phis.length cp,.slice Ai k.ins.length ci,.int .i64 k.term.kind,.int .i64 k.term.arg,.slice At k.term.to.length ct] 43);have h1:=heap_alloc_new (w.alloc (.cells #[.slice Ap k.phis.length cp,.slice Ai k.ins.length ci,.int .i64 k.term.kind,.int .i64 k.term.arg,.slice At k.term.to.length ct] 43)) (.cells #[.slice (some ⟨GM,0,none⟩) R R] 59);have h2:=heap_alloc_new ((w.alloc (.cells #[.slice Ap k.phis.length cp,.slice Ai k.ins.length ci,.int .i64 k.term.kind,.int .i64 k.term.arg,.slice At k.term.to.length ct] 43)).alloc (.cells #[.slice (some ⟨GM,0,none⟩) R R] 59)) (.cells #[.slice none 0 0] 28);refine ⟨?_,?_,by simpa using h2,(((Below.refl _ w).alloc (Nat.le_refl _) _).alloc (by simp) _).alloc (by simp;omega) _⟩
    · exact (Below.heap_alloc _ _ _ (by simp;omega)).trans ((Below.heap_alloc _ _ _ (by simp)).trans h0)
    · exact (Below.heap_alloc _ _ _ (by simp)).trans (by simpa using h1)
  (have hz0:W0.heap.size=N+3:=by rw [hW0,hN];simp);(have HG2:Hid (Wa.heap.size≤GM∧GM<N):=Lib.hid (by rw [hN];exact HGM.out));have HZ0:Hid (W0.heap.size=N+3∧N=w.heap.size):=Lib.hid ⟨hz0,hN⟩;have HB0:=Lib.hid b0;have HB1:=Lib.hid b1;have HB2:=Lib.hid b2;have HBEL:=Lib.hid hbel;(have HW0:Hid (Below Wa.heap.size Wa W0):=Lib.hid (HW.out.trans (hbel.mono (by have:=HG2.out;omega))));have HM0:=Lib.hid (HM.out.of_block (hbel.block GM HG2.out.2))
  have c1:=q5 b0 1;(have hk30:(300:Nat) * k.ins.length≤90000:=by omega);rw [← hW0];clear hW0 hN hbel b0 b1 b2 hz0;(go_wp2_with fail);clear c1
  go_loopw [15] (fun s15 wq=>∃ (i:Nat) (vu:Value),i≤k.ins.length∧s15=.int .i64 (i:Int)∧wq.heap[N+1+1]?=some (.cells #[vu] 28)∧wq.ownsRow (N+3) 3 1 vu (usK k.ins i).length ((usK k.ins i).map fun y:Nat=>Value.int .i64 (y:Int))∧wq.rowIs GM 4 R (fun r=>.bool (mkI k.ins i r))∧FrX (fun b=>b=GM∨b=N+1+1) W0 wq) (fun s15 _=>k.ins.length - (intOf s15).toNat)
  case atStart=>exact ⟨0,_,Nat.zero_le _,rfl,HB2.out,World.ownsRow_nil _ _ _ _,HM0.out.congr fun _ _=>by simp [mkI],FrX.refl _ _⟩
  case round =>
    obtain ⟨i,vu,hi,rfl,hb2,ho,hm,hfr⟩:=hrel;obtain ⟨wL,rfl⟩:∃ wL,wL=wr:=⟨_,rfl⟩;have HO:=Lib.hid ho;have HMI:=Lib.hid hm;have HFR:=Lib.hid hfr;have HB2L:=Lib.hid hb2;(have hb0L:wL.heap[N]?=_:=(hfr.block N (by have:=HZ0.out;omega) (by have:=HG2.out;omega)).trans HB0.out);have HB0L:=Lib.hid hb0L;have hb1L:wL.heap[N+1]?=_:=(hfr.block (N+1) (by have:=HZ0.out;omega) (by have:=HG2.out;omega)).trans HB1.out
    have HB1L:=Lib.hid hb1L;(have hbw:Below Wa.heap.size Wa wL:=HW0.out.trans (hfr.below HW0.out.size (fun b hb=>by have:=HG2.out;omega)));have HBW:=Lib.hid hbw;have hul:=usK_len (fun x hx=>(HOK.out.ins x hx).2.2) i;have hzL:=hfr.size
    by_cases hil:i<k.ins.length
    · obtain ⟨bi,oi,x,rfl,hx,h0,h1,⟨A2,c2,h2',hs2⟩,h3,h4⟩:=HI.out.at_ hil;have hkb:=q6 hbw;have h2:=hkb _ _ h2';obtain ⟨hxa,hxd,hxl⟩:=HOK.out.ins x (List.mem_of_getElem? hx.out);have d0:=hkb _ _ h0.1;have d1:=hkb _ _ h1.1;have d3:=hkb _ _ h3.1;have d4:=hkb _ _ h4.1;have HX:=Lib.hid hx
      have HXA:=Lib.hid hxa;have HXD:=Lib.hid hxd;have HS2:=Lib.hid hs2;(have hi0:(0:Int)≤i:=by omega);(have hi1:(i:Int)<k.ins.length:=by omega);obtain ⟨la,hla⟩:∃ la,x.args.length=la:=⟨_,rfl⟩;rw [hla] at h2 hxl;have HLA:=Lib.hid hla;obtain ⟨Q,hQ⟩:∃ Q,Q=wL.heap.size:=⟨_,rfl⟩
      obtain ⟨wB,hwB⟩:∃ wB,wB=wL.alloc (.cells #[.int .i64 x.op,.int .i64 x.dst,.slice A2 la c2,.int .i64 x.imm,.int .i64 x.fn] 45):=⟨_,rfl⟩;(have hbQ:wB.heap[Q]?=some (.cells #[.int .i64 x.op,.int .i64 x.dst,.slice A2 la c2,.int .i64 x.imm,.int .i64 x.fn] 45):=by rw [hwB,hQ];exact heap_alloc_new _ _);(have hbelB:Below wL.heap.size wL wB:=by rw [hwB];exact (Below.refl _ _).alloc (Nat.le_refl _) _);(have HQ:Hid (Q=wL.heap.size∧wB.heap.size=Q+1∧N+3≤Q):=Lib.hid ⟨hQ,by rw [hwB,hQ];simp,by have:=HZ0.out;omega⟩);have HBQ:=Lib.hid hbQ;have HBB:=Lib.hid hbelB;have q2:=q5 hbQ 2;(go_upto_region 6 with fail);rw [← hwB,← hQ]
      clear ho hm hfr hb0L hb1L hbw hkb hx h0 h1 h2 h2' h3 h4 hs2 hxa hxd hla hwB hQ hbQ hbelB d0 d1 d3 d4;(go_wp2_with fail);clear q2
      go_loopw [22] (fun s22 wq=>∃ (j:Nat) (v2:Value),j≤la∧s22=.int .i64 (j:Int)∧wq.heap[N+1+1]?=some (.cells #[v2] 28)∧wq.ownsRow (N+3) 3 1 v2 (usK k.ins i++usA k.ins i (x.args.take j)).length ((usK k.ins i++usA k.ins i (x.args.take j)).map fun y:Nat=>Value.int .i64 (y:Int))∧GroS (N+1+1) (N+1+1) wB wq vu v2) (fun s22 _=>la - (intOf s22).toNat)
      case atStart=>exact ⟨0,vu,Nat.zero_le _,rfl,(HBB.out.block _ (by have:=HQ.out;omega)).trans HB2L.out,by rw [usA_zero,List.append_nil];exact qD HO.out (fun g hg=>HBB.out.block g (HO.out.lt g hg).2),GroS.refl _ _ _ _⟩
      case round =>
        obtain ⟨j,v2,hj,rfl,hb2,ho,hG⟩:=hrel;have HO2:=Lib.hid ho;have HG:=Lib.hid hG;have HB2J:=Lib.hid hb2
        by_cases hjl:j<la
        · (have hkeep:∀ b,b<wL.heap.size→b≠N+1+1→vu.ownBlock≠some b→wr.heap[b]?=wL.heap[b]?:=fun b h1 h2 h3=>(hG.block b (by have:=HQ.out;omega) (by omega) h3).trans (HBB.out.block b h1));(have hvu:∀ b,b<N+3→vu.ownBlock≠some b:=fun b hb e=>by have:=(HO.out.lt b e).1;omega);(have hb1J:wr.heap[N+1]?=_:=(hkeep (N+1) (by have:=HQ.out;omega) (by omega) (hvu _ (by omega))).trans HB1L.out);(have hbw2:Below Wa.heap.size Wa wr:=HBW.out.trans ⟨hG.os.trans HBB.out.os,hG.tape.trans HBB.out.tape,hG.output.trans HBB.out.output,Nat.le_trans HBB.out.size hG.size,fun b hb=>hkeep b (by have:=HG2.out;have:=HQ.out;omega) (by have:=HG2.out;omega) (hvu _ (by have:=HG2.out;omega))⟩);(obtain ⟨bt,ot,y,rfl,hy,hyc,-⟩:=(SInts.keep (q6 hbw2) HS2.out).int (k:=j) (by rw [HLA.out];exact hjl));have hyr:=HXA.out y (List.mem_of_getElem? hy.out);(obtain ⟨r,rfl⟩:∃ r:Nat,y=(r:Int):=⟨y.toNat,by have:=hyr.1;omega⟩);(have hr:r<R:=by have:=hyr.2;omega);have hmr:=(HMI.out.of_block (hkeep GM (by have:=HG2.out;have:=HQ.out;omega) (by have:=HG2.out;omega) (hvu _ (by have:=HG2.out;omega)))).cell hr
          have hlen:(usK k.ins i++usA k.ins i (x.args.take j)).length≤200000:=by
            have h1:=usA_len k.ins i (x.args.take j);rw [List.length_take,HLA.out] at h1;rw [List.length_append];omega
          (have hcl:=use_any wr (N+1) (N+1+1) GM R (N+3) r v2 _ _ hb1J hb2 hmr ho hr hR hlen (by omega) (by have:=hG.size;have:=HQ.out;omega));have HCL:=Lib.hid hcl;have HST:=Lib.hid (usA_step (ins:=k.ins) (i:=i) hy.out);(have hj0:(0:Int)≤j:=by omega);(have hj1:(j:Int)<la:=by omega);clear hb2 ho hG hkeep hvu hb1J hbw2 hy hyr hmr hlen hcl;(go_wp2_with (go_at_call 78;refine HCL.out.mono ?_;rintro e w5 ⟨rfl,v3,hb5,ho5,hG5⟩));have HB5:=Lib.hid hb5;have HO5:=Lib.hid ho5
          have HG5:=Lib.hid hG5;clear hb5 ho5 hG5
          go_roundw
          case rel =>
            refine ⟨j+1,v3,by omega,by go_num,HB5.out,?_,HG.out.trans HG5.out⟩;rw [HST.out];have h1:=HO5.out;cases hq:mkI k.ins i r
            · rw [hq] at h1;simpa [List.append_assoc] using h1
            · rw [hq] at h1;simpa using h1
          case measure=>simp [intOf];omega
        · (obtain rfl:j=la:=by omega);(have hkeep:∀ b,b<wL.heap.size→b≠N+1+1→vu.ownBlock≠some b→wr.heap[b]?=wL.heap[b]?:=fun b h1 h2 h3=>(hG.block b (by have:=HQ.out;omega) (by omega) h3).trans (HBB.out.block b h1));(have hvu:∀ b,b<N+3→vu.ownBlock≠some b:=fun b hb e=>by have:=(HO.out.lt b e).1;omega);(have hbQ3:wr.heap[Q]?=_:=(hG.block Q (by have:=HQ.out;omega) (by have:=HQ.out;omega) (fun e=>by have:=(HO.out.lt Q e).2;have:=HQ.out;omega)).trans HBQ.out);have d1:=q5 hbQ3 1;(have hb1J:wr.heap[N+1]?=_:=(hkeep (N+1) (by have:=HQ.out;omega) (by omega) (hvu _ (by omega))).trans HB1L.out);have e1:=q5 hb1J 0;(have hmJ:=HMI.out.of_block (hkeep GM (by have:=HG2.out;have:=HQ.out;omega) (by have:=HG2.out;omega) (hvu _ (by have:=HG2.out;omega))));have hfr2:FrX (fun b=>b=GM∨b=N+1+1) W0 wr:=(HFR.out.trans (.of_below HBB.out)).groS hG (fun q h1 h2=>.inl (.inr (by omega))) (fun q hq=>.inr (by have:=(HO.out.lt q hq).1;have:=HZ0.out;omega))
          (have hus:usK k.ins (i+1)=usK k.ins i++usA k.ins i (x.args.take j):=by rw [usK_succ HX.out,List.take_of_length_le (by rw [HLA.out];exact Nat.le_refl _)]);have HUS:=Lib.hid hus;have HMJ:=Lib.hid hmJ;have HFR2:=Lib.hid hfr2;have HSU:=Lib.hid (mkI_succ HX.out)
          by_cases hd:x.dst=-1
          · rw [hd] at d1;have HMN:Hid (wr.rowIs GM 4 R (fun r=>.bool (mkI k.ins (i+1) r))):=Lib.hid (hmJ.congr fun r _=>by rw [HSU.out r,decide_eq_false (by omega),Bool.or_false]);clear hb2 ho hG hkeep hvu hbQ3 hb1J e1 hmJ hfr2 hus hd;go_wp2_with fail
            go_roundw
            case rel=>exact ⟨i+1,v2,by omega,by go_num,HB2J.out,by rw [HUS.out];exact HO2.out,HMN.out,HFR2.out⟩
            case measure=>simp [intOf];omega
          · obtain ⟨d,hde,hdR⟩:∃ d:Nat,x.dst=(d:Int)∧d<R:=by
              rcases HXD.out with h1 | h1
              · exact absurd h1 hd
              · exact ⟨x.dst.toNat,by have:=h1.1;omega,by have:=h1.1;have:=h1.2;omega⟩
            rw [hde] at d1;have HDE:=Lib.hid hde
            have HMN:Hid ((wr.setCell ⟨GM,d,none⟩ (.bool true)).rowIs GM 4 R (fun r=>.bool (mkI k.ins (i+1) r))):=Lib.hid ((hmJ.set d _).congr fun r _=>by
              rw [HSU.out r,hde]
              by_cases e:r=d
              · subst e;simp
              · rw [if_neg e,decide_eq_false (by omega),Bool.or_false])
            have hs:∀ y,y≠GM→(wr.setCell ⟨GM,d,none⟩ (.bool true)).heap[y]?=wr.heap[y]?:=fun y hy=>Below.heap_setCell _ _ _ _ hy;(have HBN:Hid ((wr.setCell ⟨GM,d,none⟩ (.bool true)).heap[N+1+1]?=some (.cells #[v2] 28)):=Lib.hid ((hs _ (by have:=HG2.out;omega)).trans hb2));(have HON:Hid ((wr.setCell ⟨GM,d,none⟩ (.bool true)).ownsRow (N+3) 3 1 v2 (usK k.ins (i+1)).length ((usK k.ins (i+1)).map fun y:Nat=>Value.int .i64 (y:Int))):=Lib.hid (by rw [hus];exact qD ho (fun g hg=>hs g (by have:=(ho.lt g hg).1;have:=HG2.out;omega))));have HFN:=Lib.hid (hfr2.setCell (p:=⟨GM,d,none⟩) (.inl (.inl rfl)) (.bool true));have gf:=hmJ.frozen d;have gc:=hmJ.cell hdR;(have hd0:(0:Int)≤d:=by omega);(have hd1:(d:Int)<R:=by omega);clear hb2 ho hG hkeep hvu hbQ3 hb1J hmJ hfr2 hus hd hde hs
            go_wp2_with fail
            go_roundw
            case rel=>exact ⟨i+1,v2,by omega,by go_num,HBN.out,HON.out,HMN.out,HFN.out⟩
            case measure=>simp [intOf];omega
    · (obtain rfl:i=k.ins.length:=by omega);have e3:=q5 hb0L 3;have e2:=q5 hb2 0;have HB:=Lib.hid hbw
      by_cases hd:k.term.arg=-1
      · (have HUB:Hid (usB k=usK k.ins k.ins.length):=Lib.hid (by unfold usB usE;rw [if_neg (fun h=>by rw [hd] at h;omega),List.append_nil]));rw [hd] at e3;clear ho hm hfr hb0L hb1L hbw hb2 hd;(go_wp2_with fail);(go_ret);refine ⟨vu,rfl,?_,HMI.out,?_⟩
        · rw [HUB.out];exact z8 HO.out (by have:=HZ0.out;omega)
        · exact ⟨HFR.out.os.trans HBEL.out.os,HFR.out.tape.trans HBEL.out.tape,HFR.out.output.trans HBEL.out.output,Nat.le_trans HBEL.out.size HFR.out.size,fun b hb hn=>(HFR.out.block b (by have:=HZ0.out;omega) (fun e=>by have:=HZ0.out;rcases e with e | e;exact hn e;omega)).trans (HBEL.out.block b (by have:=HZ0.out;omega))⟩
      · obtain ⟨d,hde,hdR⟩:∃ d:Nat,k.term.arg=(d:Int)∧d<R:=by
          rcases HOK.out.arg with h1 | h1
          · exact absurd h1 hd
          · exact ⟨k.term.arg.toNat,by have:=h1.1;omega,by have:=h1.1;have:=h1.2;omega⟩
        rw [hde] at e3;(have hlen:(usK k.ins k.ins.length).length≤200000:=by omega);(have hcl:=use_any wL (N+1) (N+1+1) GM R (N+3) d vu _ _ hb1L hb2 (hm.cell hdR) ho hdR hR hlen (by omega) (by have:=HZ0.out;omega));have HCL:=Lib.hid hcl
        have HUB:Hid (usB k=if mkI k.ins k.ins.length d=true then usK k.ins k.ins.length else usK k.ins k.ins.length++[d]):=Lib.hid (by
          unfold usB usE;rw [hde];(have e:((d:Int)).toNat=d:=by omega);rw [e];cases hq:mkI k.ins k.ins.length d
          · rw [if_pos ⟨by omega,rfl⟩];simp
          · rw [if_neg (fun h=>by simp at h)];simp)
        (have hd0:(0:Int)≤d:=by omega);clear ho hm hfr hb0L hb1L hbw hb2 hd hde hlen hcl e2;(go_wp2_with (go_at_call 78;refine HCL.out.mono ?_;rintro e w5 ⟨rfl,v3,hb5,ho5,hG5⟩;have e5:=q5 hb5 0;have HO5:=Lib.hid ho5;have HG5:=Lib.hid hG5;clear hb5 ho5 hG5));(go_ret);(have hfr2:FrX (fun b=>b=GM∨b=N+1+1) W0 w5:=HFR.out.groS HG5.out (fun q h1 h2=>.inl (.inr (by omega))) (fun q hq=>.inr (by have:=(HO.out.lt q hq).1;have:=HZ0.out;omega)));refine ⟨v3,rfl,?_,?_,?_⟩
        · rw [HUB.out];exact z8 HO5.out (by have:=HZ0.out;omega)
        · exact HMI.out.of_block (HG5.out.block GM HMI.out.lt (by have:=HG2.out;omega) (fun e=>by have:=(HO.out.lt GM e).1;have:=HG2.out;omega))
        · exact ⟨hfr2.os.trans HBEL.out.os,hfr2.tape.trans HBEL.out.tape,hfr2.output.trans HBEL.out.output,Nat.le_trans HBEL.out.size hfr2.size,fun b hb hn=>(hfr2.block b (by have:=HZ0.out;omega) (fun e=>by have:=HZ0.out;rcases e with e | e;exact hn e;omega)).trans (HBEL.out.block b (by have:=HZ0.out;omega))⟩
set_option maxRecDepth 100000 in
set_option maxHeartbeats 8000000 in
theorem alongEdges_any (bs:List BlkD) (Wa:World) (H Ga R K:Nat) (W:World) (vo:Value) (mk ph:Nat→Nat→Bool) (s:LvS) (h:WsM Wa H Ga bs.length R K W vo mk ph s) (hf:FewS bs.length R s) (hn:bs.length≤64) (hR:R≤256) (b:Nat) (hb:b<bs.length)
    (hah:SL Wa 1 RRow (some ⟨Ga,0,none⟩) bs.length (rows bs)) (ps:List PhiD) (A:Option Addr) (c:Nat) (hps:SL Wa 2 RPhi A c ps) (hpl:ps.length≤1000)
    (hok:∀ p∈ps,p.args.length=(qF bs b).length∧∀ a∈p.args,InR R a) :
    Calls Try.prog 67 #[.pointer (some ⟨H+4 * (bs.length+1),0,none⟩),.int .i64 (b:Int),.slice A ps.length c] W fun e W'=>ToldW Wa H Ga bs.length R K W vo mk ph (alE mk ph (qF bs b) s ps) e W'∧FewS bs.length R (alE mk ph (qF bs b) s ps):=by
  obtain ⟨P,hP⟩:∃ P,H+4 * (bs.length+1)=P:=⟨_,rfl⟩;have HP:=Lib.hid hP;have HM:=Lib.hid h;have HF:=Lib.hid hf;have HAH:=Lib.hid hah;have HPS:=Lib.hid hps;have HOK:=Lib.hid hok;have HZ:Hid (Wa.heap.size=H∧H≤P):=Lib.hid ⟨h.hz,by omega⟩;have hb0:(0:Int)≤b:=by omega
  (have hb1:(b:Int)<bs.length:=by omega);obtain ⟨n,hnn⟩:∃ n,bs.length=n:=⟨_,rfl⟩;have HNN:=Lib.hid hnn;obtain ⟨m,hm⟩:∃ m,(qF bs b).length=m:=⟨_,rfl⟩;(have hm64:m≤64:=by rw [← hm];have:=aheadK_len bs 0 b;unfold qF;omega);have HMM:=Lib.hid hm;rw [hP];rw [hnn] at hb1;clear h hf hah hps hok hP hnn hm
  (go_enter Try.func67,Try.ntmps67);go_wp2_with fail
  go_loopw [12] (fun s12 wq=>∃ (k:Nat) (v':Value),k≤ps.length∧s12=.int .i64 (k:Int)∧WsM Wa H Ga bs.length R K wq v' mk ph (alE mk ph (qF bs b) s (ps.take k))∧FewS bs.length R (alE mk ph (qF bs b) s (ps.take k))∧GroS H P W wq vo v') (fun s12 _=>ps.length - (intOf s12).toNat)
  case atStart=>exact ⟨0,vo,Nat.zero_le _,rfl,HM.out,HF.out,GroS.refl _ _ _ _⟩
  case round =>
    obtain ⟨k,v',hk,rfl,hM,hF,hG⟩:=hrel;obtain ⟨wL,rfl⟩:∃ wL,wL=wr:=⟨_,rfl⟩;have HMK:=Lib.hid hM;have HFK:=Lib.hid hF;have HGK:=Lib.hid hG
    by_cases hkl:k<ps.length
    · (have hbw:Below Wa.heap.size Wa wL:=by rw [HZ.out.1];exact hM.bel);obtain ⟨bp,op,p,rfl,hp,hpd,A2,c2,hpa,hsl⟩:=HPS.out.at_ hkl;obtain ⟨hlen,hreg⟩:=HOK.out p (List.mem_of_getElem? hp.out);rw [hlen,HMM.out] at hpa;have hpd1:=q6 hbw _ _ hpd.1;have hpa1:=q6 hbw _ _ hpa;(have hk0:(0:Int)≤k:=by omega);(have hk1:(k:Int)<ps.length:=by omega);have HPP:=Lib.hid hp
      have HREG:=Lib.hid (And.intro hlen hreg);have HSL:=Lib.hid hsl;obtain ⟨Q,hQ⟩:∃ Q,Q=wL.heap.size:=⟨_,rfl⟩;obtain ⟨wB,hwB⟩:∃ wB,wB=wL.alloc (.cells #[.int .i64 p.dst,.slice A2 m c2] 52):=⟨_,rfl⟩;(have hbQ:wB.heap[Q]?=some (.cells #[.int .i64 p.dst,.slice A2 m c2] 52):=by rw [hwB,hQ];exact heap_alloc_new _ _);(have hbelB:Below wL.heap.size wL wB:=by rw [hwB];exact (Below.refl _ _).alloc (Nat.le_refl _) _);have hMB:=hM.below hbelB;obtain ⟨t0,-⟩:=hMB.cells HP.out;obtain ⟨A3,c3,hr0,hr2⟩:=ahead_row HAH.out hb (Below.refl Wa.heap.size Wa)
      rw [HMM.out] at hr0;(have hr1:=q6 (show Below Wa.heap.size Wa wB by rw [HZ.out.1];exact hMB.bel) _ _ hr0);rw [HNN.out] at t0;have HMB:=Lib.hid hMB;have HBQ:=Lib.hid hbQ
      have HQ:Hid (Q=wL.heap.size∧wB.heap.size=Q+1∧P<Q):=Lib.hid ⟨hQ,by rw [hwB,hQ];simp,by
        have h1:=(Array.getElem?_eq_some_iff.1 hM.box).1
        rw [HP.out] at h1;omega⟩
      have HR2:Hid (∀ W,Below Wa.heap.size Wa W→SL W 1 RInt A3 c3 (qF bs b)∧SL W 1 RInt A2 c2 p.args):=Lib.hid (fun W hW=>⟨SInts.keep (q6 hW) hr2,SInts.keep (q6 hW) HSL.out⟩);(have HNQ:Hid (v'.ownBlock≠some Q):=Lib.hid (fun e=>by have:=(hM.op.lt Q e).2;omega));have HGB:Hid (GroS H P W wB vo v'):=Lib.hid (hG.mono hbelB);clear hM hF hG hbw hp hpd hpa hsl hlen hreg hMB hbelB hr2 hr0;(go_upto_region 3 with fail);rw [← hwB,← hQ];clear hwB hQ hpd1 hpa1;(go_wp2_with fail);clear t0 hr1
      go_loopw [24] (fun s24 wq=>∃ (j:Nat) (v2:Value),j≤m∧s24=.int .i64 (j:Int)∧WsM Wa H Ga bs.length R K wq v2 mk ph (atEs mk ph (alE mk ph (qF bs b) s (ps.take k)) ((prP (qF bs b) p.args).take j))∧FewS bs.length R (atEs mk ph (alE mk ph (qF bs b) s (ps.take k)) ((prP (qF bs b) p.args).take j))∧GroS H P wB wq v' v2) (fun s24 _=>m - (intOf s24).toNat)
      case atStart=>exact ⟨0,v',Nat.zero_le _,rfl,HMB.out,HFK.out,GroS.refl _ _ _ _⟩
      case round =>
        obtain ⟨j,v2,hj,rfl,hM,hF,hG⟩:=hrel;have HMJ:=Lib.hid hM;have HFJ:=Lib.hid hF;have HGJ:=Lib.hid hG
        by_cases hjm:j<m
        · (have hbw:Below Wa.heap.size Wa wr:=by rw [HZ.out.1];exact hM.bel);obtain ⟨sA,sP⟩:=HR2.out wr hbw;(obtain ⟨bt,ot,x,rfl,hx,hxc,-⟩:=sA.int (k:=j) (by rw [HMM.out];exact hjm));(obtain ⟨bu,ou,y,rfl,hy,hyc,-⟩:=sP.int (k:=j) (by rw [HREG.out.1,HMM.out];exact hjm));obtain ⟨q,rfl,hq⟩:=ah_lt hx.out;have hyr:=HREG.out.2 y (List.mem_of_getElem? hy.out);(obtain ⟨z,rfl⟩:∃ z:Nat,y=(z:Int):=⟨y.toNat,by have:=hyr.1;omega⟩);(have hz:z<R:=by have:=hyr.2;omega);have hbQ2:wr.heap[Q]?=some (.cells #[.int .i64 p.dst,.slice (some ⟨bu,ou,none⟩) m c2] 52):=(hG.block Q (by have:=HQ.out;omega) (by have:=HQ.out;omega) HNQ.out).trans HBQ.out
          have d0:=q5 hbQ2 0;have d1:=q5 hbQ2 1;have hcl:=atEnd_any Wa H Ga bs.length R K wr v2 mk ph _ hM hF hn hR q z hq hz;rw [HP.out] at hcl;have HCL:=Lib.hid hcl;have hST:=prP_at hx.out hy.out;have hFS:=hF.atE mk ph hq hz;have HST:=Lib.hid hST;have HFS:=Lib.hid hFS
          (have hj0:(0:Int)≤j:=by omega);(have hj1:(j:Int)<m:=by omega);clear hM hF hG hbw sA sP hx hy hyr hbQ2 hcl hST hFS;(go_wp2_with (go_at_call 79;refine HCL.out.mono ?_;rintro e w5 ⟨rfl,v3,hM5,hG5⟩));rw [HP.out] at hG5
          go_roundw
          case rel =>
            refine ⟨j+1,v3,by omega,by go_num,?_,?_,HGJ.out.trans hG5⟩
            · rw [qC HST.out,atEs_snoc];simpa using hM5
            · rw [qC HST.out,atEs_snoc];simpa using HFS.out
          case measure=>simp [intOf];omega
        · (obtain rfl:j=m:=by omega);(have e:(prP (qF bs b) p.args).take j=prP (qF bs b) p.args:=List.take_of_length_le (by rw [prP_len HREG.out.1,HMM.out];exact Nat.le_refl _));have HE:=Lib.hid e;clear hM hF hG e;go_wp2_with fail
          go_roundw
          case rel =>
            refine ⟨k+1,v2,by omega,by go_num,?_,?_,HGB.out.trans HGJ.out⟩
            · have h1:=HMJ.out;rw [HE.out] at h1;rw [qC HPP.out,alE_snoc];exact h1
            · have h1:=HFJ.out;rw [HE.out] at h1;rw [qC HPP.out,alE_snoc];exact h1
          case measure=>simp [intOf];omega
    · (obtain rfl:k=ps.length:=by omega);clear hM hF hG;(go_wp2_with fail);(go_end0);have e:ps.take ps.length=ps:=List.take_length;have h1:=HMK.out;have h2:=HFK.out;rw [e] at h1 h2;exact ⟨⟨rfl,v',h1,by rw [HP.out];exact HGK.out⟩,h2⟩
theorem size_place (w:World):(sizeOf (Try.prog.elem 93)).run Try.prog w=.ok 2 w:=by kernel_rfl
theorem elem_places:Try.prog.underlying 93=some (.slice (Try.prog.elem 93)):=by kernel_rfl
theorem own_popP {w:World} {K:Nat} {v:Value} {op:List (Nat × Nat)} {e:Nat × Nat} (h:w.ownsRow K 125 2 v (op++[e]).length (opF (op++[e]))) :
    ∃ g cap,v=.slice (some ⟨g,0,none⟩) (op.length+1) cap∧w.cell? ⟨g,op.length * 2,none⟩=some (.int .i64 (e.1:Int))∧w.cell? ⟨g,op.length * 2+1,none⟩=some (.int .i64 (e.2:Int))∧op.length+1≤cap∧cap≤maxLen ∧
      (∀ W,(Instr.slice 93 (.slice (some ⟨g,0,none⟩) (op.length+1) cap) none (some (.int .i64 op.length)) none).run Try.prog W=.ok (.slice (some ⟨g,0,none⟩) op.length cap) W) ∧
      w.ownsRow K 125 2 (.slice (some ⟨g,0,none⟩) op.length cap) op.length (opF op):=by
  (have hl:(op++[e]).length=op.length+1:=by simp);rw [hl] at h;have h0:=h;obtain ⟨h1,⟨-,h2⟩ | ⟨g,cap,cur,rfl,hb,hh,hn,hc,hsz,ht⟩⟩:=h
  · omega
  · (have hf:(opF op).length=op.length * 2:=by rw [opF_len];omega);have hs:opF (op++[e])=opF op++[.int .i64 (e.1:Int),.int .i64 (e.2:Int)]:=opF_snoc op e.1 e.2;refine ⟨g,cap,rfl,?_,?_,hn,hc,fun W=>?_,ownsRow_pop hf (by rw [← hs];exact h0)⟩
    · rw [h0.cellAt _ (by omega),hs,List.getElem?_append_right (by omega)];simp [hf]
    · rw [h0.cellAt _ (by omega),hs,List.getElem?_append_right (by omega)];simp [hf]
    · rw [run_slice_h W 93 (some ⟨g,0,none⟩) (op.length+1) cap elem_places .i64 op.length (by omega) (by omega),size_place];(have hc0:cap≠0:=by omega);simp [Result.andThen,sliced,hc0,Addr.add]
set_option maxRecDepth 100000 in
set_option maxHeartbeats 8000000 in
theorem goBack_any (bs:List BlkD) (Wa:World) (H Ga R K:Nat) (W:World) (vo:Value) (s:LvS) (h:WsM Wa H Ga bs.length R K W vo (mkB bs) (phB bs) s) (hf:FewS bs.length R s) (hn:bs.length≤64) (hR:R≤256)
    (hah:SL Wa 1 RRow (some ⟨Ga,0,none⟩) bs.length (rows bs)) (hgot:GotS bs s) (htold:ToldS bs s) :
    Calls Try.prog 68 #[.pointer (some ⟨H+4 * (bs.length+1),0,none⟩)] W fun e W'=>e=.returned (.tuple #[])∧∃ vo' s',WsM Wa H Ga bs.length R K W' vo' (mkB bs) (phB bs) s'∧GroS H (H+4 * (bs.length+1)) W W' vo vo'∧GotS bs s'∧ToldS bs s'∧s'.op=[]:=by
  obtain ⟨P,hP⟩:∃ P,H+4 * (bs.length+1)=P:=⟨_,rfl⟩;have HP:=Lib.hid hP;have HM:=Lib.hid h;have HF:=Lib.hid hf;have HAH:=Lib.hid hah;have HGT:=Lib.hid (And.intro hgot htold);have HZ:Hid (Wa.heap.size=H∧H≤P):=Lib.hid ⟨h.hz,by omega⟩;(have hnR:bs.length * R≤16384:=by have:=Nat.mul_le_mul hn hR;omega);have HNR:=Lib.hid hnR
  rw [hP];clear h hf hah hgot htold hP hnR;(go_enter Try.func68,Try.ntmps68);(go_wp2_with fail);go_loopg [] (msS bs.length R s) (fun gk wq=>∃ (v':Value) (s':LvS),gk=msS bs.length R s'∧WsM Wa H Ga bs.length R K wq v' (mkB bs) (phB bs) s'∧FewS bs.length R s'∧GotS bs s'∧ToldS bs s'∧GroS H P W wq vo v')
  case atStart=>exact ⟨vo,s,rfl,HM.out,HF.out,HGT.out.1,HGT.out.2,GroS.refl _ _ _ _⟩
  case round =>
    obtain ⟨v',s',hgk,hM,hF,hgot,htold,hG⟩:=hrel;obtain ⟨wL,rfl⟩:∃ wL,wL=wr:=⟨_,rfl⟩;obtain ⟨p0,-,-,-,-,p5,p6⟩:=hM.cells HP.out;have HMK:=Lib.hid hM;have HFK:=Lib.hid hF;have HGK:=Lib.hid hG;have HGO:=Lib.hid hgot;have HTO:=Lib.hid htold;have HK:=Lib.hid hgk
    rcases List.eq_nil_or_concat s'.op with he | ⟨op,⟨b,r⟩,he⟩
    · have ho:=hM.op;rw [he] at ho;obtain ⟨Av,cv,hv⟩:=qL ho;rw [hv] at p5;have HE:=Lib.hid he;clear hM hF hgot htold hG he ho hv p0 p6 hgk;(go_wp2_with fail);(go_end0);exact ⟨rfl,v',s',HMK.out,HGK.out,HGO.out,HTO.out,HE.out⟩
    · rw [List.concat_eq_append] at he;have ho:=hM.op;rw [he] at ho;obtain ⟨g,cap,hv,he1,he2,hcap,hcm,hrun,hpop⟩:=own_popP ho;have HE:=Lib.hid he;have hol:op.length≤16384:=by
        have h1:=hF.le;have:=HNR.out;rw [he] at h1;simp at h1;omega
      (have hbr:b<bs.length∧r<R:=hF.2 (b,r) (by rw [he];simp));rw [hv] at p5;have HV:=Lib.hid hv;have HPOP:=Lib.hid hpop;have HBR:=Lib.hid hbr;have HRUN:=Lib.hid hrun;(have hgP:P<g:=by have h1:=(ho.lt g (by rw [hv];rfl)).1;have:=hM.hk;have:=HP.out;omega);(have hgS:g<wL.heap.size:=(ho.lt g (by rw [hv];rfl)).2);clear hM hF hgot htold hG he ho hv hpop hbr hrun hgk
      obtain ⟨lo,hlo⟩:∃ lo,op.length=lo:=⟨_,rfl⟩;have HLO:=Lib.hid hlo;rw [hlo] at p5 he1 he2 hcap hol;rw [hlo] at HRUN HV;have ew:IntKind.i64.wrap (lo:Int)=(lo:Int):=Go.IntWalk.i64_in _ (by omega);(have hl0:(0:Int)≤lo:=by omega);(have hl1:(lo:Int)<(lo:Int)+1:=by omega);clear hlo;go_upto_region 1 with fail
      refine qI (L:=13) (S:=fun w':World=>w'.cell? ⟨P,5,none⟩=some (.slice (some ⟨g,0,none⟩) (lo+1) cap)∧w'.cell? ⟨g,lo * 2,none⟩=some (.int .i64 (b:Int))∧w'.cell? ⟨g,lo * 2+1,none⟩=some (.int .i64 (r:Int))) (by kernel_rfl) (by rfl) (by kernel_rfl) (by kernel_rfl) ?_;change wpAnyH _ _ _ _ _ _ _ _ (World.drew _);have hS0:wL.drew.cell? ⟨P,5,none⟩=some (.slice (some ⟨g,0,none⟩) (lo+1) cap)∧wL.drew.cell? ⟨g,lo * 2,none⟩=some (.int .i64 (b:Int))∧wL.drew.cell? ⟨g,lo * 2+1,none⟩=some (.int .i64 (r:Int)):=⟨p5,he1,he2⟩;refine tk 0 11 hS0 ?_;simp only [Act.put,aS,List.set_cons_zero,List.set_cons_succ];refine tk 1 12 hS0 ?_;simp only [Act.put,aS,List.set_cons_zero,List.set_cons_succ];refine tk 2 13 hS0 ?_;simp only [Act.put,aS,List.set_cons_zero,List.set_cons_succ]
      refine tk 3 14 hS0 ?_;simp only [Act.put,aS,List.set_cons_zero,List.set_cons_succ];refine tk 4 15 hS0 ?_;simp only [Act.put,aS,List.set_cons_zero,List.set_cons_succ];refine tk 5 16 hS0 ?_;simp only [Act.put,aS,List.set_cons_zero,List.set_cons_succ];refine tk 6 17 hS0 ?_;simp only [Act.put,aS,List.set_cons_zero,List.set_cons_succ];refine tk 7 18 hS0 ?_
      simp only [Act.put,aS,List.set_cons_zero,List.set_cons_succ];refine tk 8 19 hS0 ?_;simp only [Act.put,aS,List.set_cons_zero,List.set_cons_succ];refine tk 9 20 hS0 ?_;simp only [Act.put,aS,List.set_cons_zero,List.set_cons_succ];refine tk 10 21 hS0 ?_;simp only [Act.put,aS,List.set_cons_zero,List.set_cons_succ];refine tk 11 22 hS0 ?_;simp only [Act.put,aS,List.set_cons_zero,List.set_cons_succ]
      refine oneH (i:=12) (by kernel_rfl) (fun o ho K' hK=>?_);(simp only [List.getElem?_toArray,List.getElem?_cons_zero,List.getElem?_cons_succ,Option.some.injEq] at ho;subst ho);(go_simp);have hbal:Below wL.heap.size wL (wL.alloc (.cells #[.int .i64 0,.int .i64 0] 125)).drew:=((Below.refl _ wL).alloc (Nat.le_refl _) _).drew;(have hPW:P<wL.heap.size:=by omega);have hS1:(wL.alloc (.cells #[.int .i64 0,.int .i64 0] 125)).drew.cell? ⟨P,5,none⟩=some (.slice (some ⟨g,0,none⟩) (lo+1) cap)∧(wL.alloc (.cells #[.int .i64 0,.int .i64 0] 125)).drew.cell? ⟨g,lo * 2,none⟩=some (.int .i64 (b:Int))∧(wL.alloc (.cells #[.int .i64 0,.int .i64 0] 125)).drew.cell? ⟨g,lo * 2+1,none⟩=some (.int .i64 (r:Int)) :=
        ⟨(hbal.cell (p:=⟨P,5,none⟩) hPW).trans p5,(hbal.cell (p:=⟨g,lo * 2,none⟩) hgS).trans he1,(hbal.cell (p:=⟨g,lo * 2+1,none⟩) hgS).trans he2⟩
      refine hK.out _ _ hS1 ?_;clear hK K';refine wpAnyH_done (by kernel_rfl) ?_ _;refine lastH (by decide) (fun o ho K' hK=>?_);(simp only [List.getElem?_toArray,List.getElem?_cons_zero,List.getElem?_cons_succ,Option.some.injEq] at ho;subst ho);(go_simp);refine hK.out _ _ ?_;clear hK K';obtain ⟨Q,hQ⟩:∃ Q,Q=wL.heap.size:=⟨_,rfl⟩
      obtain ⟨wA,hwA⟩:∃ wA,wA=(wL.alloc (.cells #[.int .i64 (b:Int),.int .i64 (r:Int)] 125)).drew:=⟨_,rfl⟩;(have hbQ:wA.heap[Q]?=some (.cells #[.int .i64 (b:Int),.int .i64 (r:Int)] 125):=by rw [hwA,hQ];exact heap_alloc_new _ _);(have hbelA:Below wL.heap.size wL wA:=by rw [hwA];exact ((Below.refl _ _).alloc (Nat.le_refl _) _).drew);have hMA:=HMK.out.below hbelA;(have hzA:wA.heap.size=Q+1:=by rw [hwA,hQ];show (wL.alloc _).heap.size=_;simp);have HQ:Hid (Q=wL.heap.size∧wA.heap.size=Q+1∧P<Q):=Lib.hid ⟨hQ,hzA,by omega⟩;have HBQ:=Lib.hid hbQ;have HBELA:=Lib.hid hbelA;have HMA:=Lib.hid hMA
      (have HPOPA:Hid (wA.ownsRow K 125 2 (.slice (some ⟨g,0,none⟩) lo cap) op.length (opF op)):=Lib.hid (by have h1:=HPOP.out;rw [HLO.out] at h1 ⊢;exact qD h1 (fun x hx=>hbelA.block x (h1.lt x hx).2)));obtain ⟨-,-,-,-,-,r5,r6⟩:=hMA.cells HP.out;rw [HV.out] at r5;rw [← hwA,← hQ];have hrun:=HRUN.out;clear hwA hQ hbQ hbelA hMA hS0 hS1 hbal p5 p6 he1 he2 hzA p0;(go_wp2_with fail);refine qI (L:=14) (S:=fun w':World=>w'.cell? ⟨P,5,none⟩=some (.slice (some ⟨g,0,none⟩) (lo+1) cap)) (by kernel_rfl) (by rfl) (by kernel_rfl) (by kernel_rfl) ?_;change wpAnyH _ _ _ _ _ _ _ _ (World.drew _)
      have hS2:wA.drew.cell? ⟨P,5,none⟩=some (.slice (some ⟨g,0,none⟩) (lo+1) cap):=r5;have hf2:wA.drew.frozen? ⟨P,5,none⟩=false:=r6;refine tk 0 23 hS2 ?_;simp only [Act.put,aS,List.set_cons_zero,List.set_cons_succ];refine tk 1 24 hS2 ?_;simp only [Act.put,aS,List.set_cons_zero,List.set_cons_succ];refine tk 2 25 hS2 ?_;simp only [Act.put,aS,List.set_cons_zero,List.set_cons_succ];refine tk 3 26 hS2 ?_
      simp only [Act.put,aS,List.set_cons_zero,List.set_cons_succ];refine tk 4 27 hS2 ?_;simp only [Act.put,aS,List.set_cons_zero,List.set_cons_succ];refine tk 5 28 hS2 ?_;simp only [Act.put,aS,List.set_cons_zero,List.set_cons_succ];refine tk 6 29 hS2 ?_;simp only [Act.put,aS,List.set_cons_zero,List.set_cons_succ];refine tk 7 30 hS2 ?_;simp only [Act.put,aS,List.set_cons_zero,List.set_cons_succ]
      refine tk 8 31 hS2 ?_;simp only [Act.put,aS,List.set_cons_zero,List.set_cons_succ];refine tk 9 32 hS2 ?_;simp only [Act.put,aS,List.set_cons_zero,List.set_cons_succ];refine tk 10 33 hS2 ?_;simp only [Act.put,aS,List.set_cons_zero,List.set_cons_succ];refine tk 11 34 hS2 ?_;simp only [Act.put,aS,List.set_cons_zero,List.set_cons_succ];refine tk 12 35 hS2 ?_
      simp only [Act.put,aS,List.set_cons_zero,List.set_cons_succ];refine tk 13 36 hS2 ?_;simp only [Act.put,aS,List.set_cons_zero,List.set_cons_succ];refine wpAnyH_done (by kernel_rfl) ?_ _;refine lastH (by decide) (fun o ho K' hK=>?_);(simp only [List.getElem?_toArray,List.getElem?_cons_zero,List.getElem?_cons_succ,Option.some.injEq] at ho;subst ho);(go_simp);refine hK.out _ _ ?_;clear hK K'
      obtain ⟨wP,hwP⟩:∃ wP,wP=(wA.setCell ⟨P,5,none⟩ (.slice (some ⟨g,0,none⟩) lo cap)).drew:=⟨_,rfl⟩;have hMP:WsM Wa H Ga bs.length R K wP (.slice (some ⟨g,0,none⟩) lo cap) (mkB bs) (phB bs) ⟨s'.A,s'.E,op⟩:=by
        (have h1:=WsM.setOp HMA.out (W7:=wA) (v':=.slice (some ⟨g,0,none⟩) lo cap) (l:=op) ⟨rfl,rfl,rfl,Nat.le_refl _,fun _ _ _=>rfl,fun x h=>.inl (by rw [HV.out];exact h)⟩ HPOPA.out);rw [HP.out] at h1;rw [hwP];exact h1.below (Below.refl _ _).drew
      have hbQ:wP.heap[Q]?=some (.cells #[.int .i64 (b:Int),.int .i64 (r:Int)] 125):=by
        rw [hwP];(have h1:(wA.setCell ⟨P,5,none⟩ (.slice (some ⟨g,0,none⟩) lo cap)).heap[Q]?=wA.heap[Q]?:=Below.heap_setCell _ _ _ _ (by have:=HQ.out;show Q≠P;omega));exact h1.trans HBQ.out
      have hGP:GroS H P W wP vo (.slice (some ⟨g,0,none⟩) lo cap):=by
        rw [hwP];(refine (HGK.out.mono HBELA.out).trans (GroS.trans (b:=wA) (v:=.slice (some ⟨g,0,none⟩) lo cap) ⟨rfl,rfl,rfl,Nat.le_refl _,fun _ _ _ _=>rfl,fun x h=>.inl (by rw [HV.out];exact h)⟩ ?_));exact (GroS.store wA (.slice (some ⟨g,0,none⟩) lo cap) (p:=⟨P,5,none⟩) (by have:=HZ.out;show H≤P∧P≤P;omega) _).mono (Below.refl _ _).drew
      have hfew:FewS bs.length R ⟨s'.A,s'.E,op⟩:=by
        have h1:=HFK.out;unfold FewS at h1 ⊢;rw [HE.out] at h1;exact ⟨by have:=h1.1;simp at this;show op.length≤cntA bs.length R s'.A;omega,fun x hx=>h1.2 x (by have hx:x∈op:=hx;simp [hx])⟩
      (have hms:msS bs.length R s'=msS bs.length R ⟨s'.A,s'.E,op⟩+1:=by unfold msS;rw [HE.out];simp;omega);have hmid:=MidS.start HGO.out HTO.out HE.out;have HMS:=Lib.hid hms;have HMID:=Lib.hid hmid;have HFEW:=Lib.hid hfew;have HGP:=Lib.hid hGP;have HMP:=Lib.hid hMP;have HBQP:=Lib.hid hbQ;obtain ⟨t0,-⟩:=hMP.cells HP.out
      have d0:=q5 hbQ 0;obtain ⟨A3,c3,hr0,hr2⟩:=ahead_row HAH.out HBR.out.1 (Below.refl Wa.heap.size Wa);obtain ⟨m,hm⟩:∃ m,(qF bs b).length=m:=⟨_,rfl⟩;(have hm64:m≤64:=by rw [← hm];have:=aheadK_len bs 0 b;unfold qF;omega);have HMM:=Lib.hid hm;rw [hm] at hr0;(have hr1:=q6 (show Below Wa.heap.size Wa wP by rw [HZ.out.1];exact hMP.bel) _ _ hr0);have HR2:=Lib.hid hr2;have hb0:(0:Int)≤b:=by omega
      (have hb1:(b:Int)<bs.length:=by have:=HBR.out.1;omega);rw [← hwP];clear hwP hMP hbQ hGP hfew hms hmid hr2 hr0 hm hS2 hf2 r5 r6 hrun;(go_wp2_with fail);(go_quiet (fail));have hbd:Below wP.heap.size wP (wP.drewN nq):=below_drewN (Below.refl _ _) nq;have HMC:=Lib.hid (HMP.out.below hbd);have HBQC:Hid ((wP.drewN nq).heap[Q]?=some (.cells #[.int .i64 (b:Int),.int .i64 (r:Int)] 125)):=Lib.hid ((hbd.block Q (Array.getElem?_eq_some_iff.1 HBQP.out).1).trans HBQP.out);have HGC:=Lib.hid (HGP.out.mono hbd)
      have HQN:Hid ((Value.slice (some ⟨g,0,none⟩) lo cap).ownBlock≠some Q):=Lib.hid (fun e=>by
        have e:g=Q:=by injection e
        have:=HQ.out;omega)
      clear hbd t0 d0 hr1 HMP HBQP HGP;generalize wP.drewN nq=wC at *;go_wp2_with fail
      go_loopw [46] (fun s46 wq=>∃ (j:Nat) (v2:Value) (s2:LvS),j≤m∧s46=.int .i64 (j:Int)∧WsM Wa H Ga bs.length R K wq v2 (mkB bs) (phB bs) s2∧FewS bs.length R s2∧MidS bs (b,r) j s2∧msS bs.length R s2=msS bs.length R ⟨s'.A,s'.E,op⟩∧GroS H P wC wq (.slice (some ⟨g,0,none⟩) lo cap) v2) (fun s46 _=>m - (intOf s46).toNat)
      case atStart=>exact ⟨0,_,_,Nat.zero_le _,rfl,HMC.out,HFEW.out,HMID.out,rfl,GroS.refl _ _ _ _⟩
      case round =>
        obtain ⟨j,v2,s2,hj,rfl,hM,hF,hmid,hms,hG⟩:=hrel;have HMJ:=Lib.hid hM;have HFJ:=Lib.hid hF;have HGJ:=Lib.hid hG;have HDJ:=Lib.hid hmid;have HSJ:=Lib.hid hms
        by_cases hjm:j<m
        · (have hbw:Below Wa.heap.size Wa wr:=by rw [HZ.out.1];exact hM.bel);(obtain ⟨bt,ot,x,rfl,hx,hxc,-⟩:=(SInts.keep (q6 hbw) HR2.out).int (k:=j) (by rw [HMM.out];exact hjm));obtain ⟨q,rfl,hq⟩:=ah_lt hx.out;(have hbQ2:wr.heap[Q]?=some (.cells #[.int .i64 (b:Int),.int .i64 (r:Int)] 125):=(hG.block Q (Array.getElem?_eq_some_iff.1 HBQC.out).1 (by have:=HQ.out;omega) HQN.out).trans HBQC.out);have d1:=q5 hbQ2 1;have hcl:=atEnd_any Wa H Ga bs.length R K wr v2 (mkB bs) (phB bs) s2 hM hF hn hR q r hq HBR.out.2;rw [HP.out] at hcl;have HCL:=Lib.hid hcl;have HFS:=Lib.hid (hF.atE (mkB bs) (phB bs) hq HBR.out.2)
          have HDS:=Lib.hid (hmid.step HBR.out.1 hx.out);have HMSS:=Lib.hid ((msS_atE (mkB bs) (phB bs) (s:=s2) hq HBR.out.2).trans hms);(have hj0:(0:Int)≤j:=by omega);(have hj1:(j:Int)<m:=by omega);clear hM hF hG hbw hx hbQ2 hcl hmid hms;(go_wp2_with (go_at_call 79;refine HCL.out.mono ?_;rintro e w5 ⟨rfl,v3,hM5,hG5⟩));rw [HP.out] at hG5
          go_roundw
          case rel=>exact ⟨j+1,v3,_,by omega,by go_num,hM5,HFS.out,by simpa using HDS.out,HMSS.out,HGJ.out.trans hG5⟩
          case measure=>simp [intOf];omega
        · (obtain rfl:j=m:=by omega);(have HDN:=Lib.hid (hmid.done (by rw [show ((b,r):Nat × Nat).1=b from rfl,HMM.out];exact Nat.le_refl _)));(have hlt:msS bs.length R s2<gk:=by rw [HK.out,HMS.out,HSJ.out];omega);have HLT:=Lib.hid hlt;clear hM hF hG hmid hms hlt;(go_wp2_with fail);go_roundg (msS bs.length R s2)
          case measure=>exact HLT.out
          case rel=>exact ⟨v2,s2,rfl,HMJ.out,HFJ.out,HDN.out.1,HDN.out.2,HGC.out.trans HGJ.out⟩
end Go.Proofs.Ytfoggldjjnabcaa
