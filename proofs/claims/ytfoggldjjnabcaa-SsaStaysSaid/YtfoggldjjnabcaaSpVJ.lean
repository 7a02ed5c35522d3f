/- The program's Live. -/
import Derived.Test.YtfoggldjjnabcaaLvSJ
import Derived.Test.YtfoggldjjnabcaaLvVJ
import Derived.Test.YtfoggldjjnabcaaChkEJ
import Derived.Test.YtfoggldjjnabcaaLabJ
import Derived.Test.YtfoggldjjnabcaaGrMJ
import Derived.Test.YtfoggldjjnabcaaDmTsJ
import Derived.Test.YtfoggldjjnabcaaSsMJ
namespace Go.Proofs.Ytfoggldjjnabcaa
open Go.ChangeShapes Go.WideShapes Go.RowKit Go.Deep
set_option linter.unusedVariables false
theorem lv_ok {m:List FunD} (hp:Proper m) (hs:SmallM m) {f:FunD} (hf:f∈m):LvOk f:=by
  have hG:=(proper_ok hp).2 f hf;have hsf:=hs.2 f hf;have h0:funE m f=0:=(proper_iff.1 hp).2 f hf;obtain ⟨-,hb⟩:=funE_zero.1 h0;refine ⟨hG.nb.2,hG.nr,fun i k hk=>⟨fun x hx=>?_,?_,?_⟩,fun i k hk=>⟨?_,fun p hp=>hG.phis i k hk p hp⟩⟩
  · have h1:=ins_dst ((blockE_zero.1 (hb k (List.mem_of_getElem? hk))).2.1 x hx);exact ⟨h1.1,h1.2,(hsf.2.2.2 k (List.mem_of_getElem? hk)).2.2.2.1 x hx⟩
  · exact (hsf.2.2.2 k (List.mem_of_getElem? hk)).1
  · exact term_arg (blockE_zero.1 (hb k (List.mem_of_getElem? hk))).2.2
  · exact (hsf.2.2.2 k (List.mem_of_getElem? hk)).2.1
def ToldWh (m:List FunD) (n:Int) (w:World) (e:Ending) (w':World):Prop :=
  (∃ v,e=.returned v∧((¬ Proper m∧ErrAt w' v (modE m))∨(Proper m∧¬ (0≤n∧n<m.length)∧v=.iface 50 (.int .i64 1))∨(Proper m∧(0≤n∧n<m.length)∧v=.nilIface)))∧Below w.heap.size w w'
theorem err_form {w:World} {v:Value} {p:Int × Int} (h:ErrAt w v p) (hp:p.1≠0):∃ t x,v=.iface t x:=by
  rcases h with h | h | h
  · exact absurd h.1 hp
  · exact ⟨_,_,h.2.2⟩
  · obtain ⟨_,_,g,h3,_⟩:=h;exact ⟨_,_,h3⟩
set_option maxRecDepth 100000 in
set_option maxHeartbeats 8000000 in
theorem whether_any (m:List FunD) (n:Int) (v:Value) (w:World) (hv:VMod w v m) (hsm:SmallM m):Calls Try.prog 48 #[v,.int .i64 n] w (ToldWh m n w):=by
  have hv0:=hv;obtain ⟨Am,cm,rfl,hm⟩:=hv;have hml:=hm.len;have HSM:=Lib.hid hsm;clear hm hsm;(go_enter Try.func48,Try.ntmps48);(go_upto_region 1 with fail);obtain ⟨w1,hw1,hs1,hk1,hbel1,hc1,-⟩:=named w #[.slice Am m.length cm] 24;rw [← hw1]
  have c0:w1.cell? ⟨w.heap.size,0,none⟩=some (.slice Am m.length cm):=hc1 0 _ rfl;have HB1:=Lib.hid hbel1;have HS1:Hid (w1.heap.size=w.heap.size+1):=Lib.hid hs1;have HV1:=Lib.hid (VMod.keep hk1 hv0);clear hw1 hs1 hk1 hc1 hbel1 hv0;(go_wp2_with fail);refine (module_any ofIns m _ _ HV1.out (lim_of_small HSM.out)).mono ?_;rintro e w3 ⟨⟨ve,rfl,hErr⟩,hb3⟩;have q3:=q6 hb3 _ _ c0
  (have HB3:Hid (Below w.heap.size w w3):=Lib.hid (HB1.out.trans (hb3.mono (by have:=HS1.out;omega))));have HERR:=Lib.hid hErr;clear c0 hb3 hErr
  by_cases hp:Proper m
  · have hve:=HERR.out.nil hp;subst hve;have HPR:=Lib.hid hp;clear hp
    by_cases h1:n<0
    · (go_wp2_with fail);(go_ret);exact ⟨⟨_,rfl,.inr (.inl ⟨HPR.out,by omega,rfl⟩)⟩,HB3.out⟩
    · by_cases h2:n<m.length
      · have h3:decide (n<0)=false:=decide_eq_false h1;(have h4:¬ (m.length:Int)≤n:=by omega);(go_wp2_with fail);(go_ret);exact ⟨⟨_,rfl,.inr (.inr ⟨HPR.out,by omega,rfl⟩)⟩,HB3.out⟩
      · have h3:decide (n<0)=false:=decide_eq_false h1;(have h4:(m.length:Int)≤n:=by omega);(go_wp2_with fail);(go_ret);exact ⟨⟨_,rfl,.inr (.inl ⟨HPR.out,by omega,rfl⟩)⟩,HB3.out⟩
  · obtain ⟨te,xe,hve⟩:=err_form HERR.out hp;subst hve;have HPR:=Lib.hid hp;clear hp;(go_wp2_with fail);(go_ret);exact ⟨⟨_,rfl,.inl ⟨HPR.out,HERR.out⟩⟩,HB3.out⟩
def ToldLive (m:List FunD) (n:Int) (w:World) (e:Ending) (w':World):Prop :=
  (∃ va vb ve,e=.returned (.tuple #[va,vb,ve]) ∧
    ((va=.slice none 0 0∧vb=.slice none 0 0∧((¬ Proper m∧ErrAt w' ve (modE m))∨(Proper m∧¬ (0≤n∧n<m.length)∧ve=.iface 50 (.int .i64 1)))) ∨
     (Proper m∧ve=.nilIface∧∃ (k:Nat) (f:FunD) (G3 G4:Nat) (A E:Nat→Nat→Bool),n=(k:Int)∧m[k]?=some f∧va=.slice (some ⟨G3,0,none⟩) f.blocks.length f.blocks.length∧vb=.slice (some ⟨G4,0,none⟩) f.blocks.length f.blocks.length∧w.heap.size≤G3∧G3+f.blocks.length<G4 ∧
       BG1 w' G3 f.blocks.length f.regs.length A∧BG1 w' G4 f.blocks.length f.regs.length E∧(∀ b r,A b r=true↔Want f.blocks false b r)∧(∀ b r,E b r=true↔Want f.blocks true b r)∧LvOk f)))∧Below w.heap.size w w'
set_option maxRecDepth 100000 in
set_option maxHeartbeats 8000000 in
theorem live_any (m:List FunD) (n:Int) (v:Value) (w:World) (hv:VMod w v m) (hsm:SmallM m):Calls Try.prog 33 #[v,.int .i64 n] w (ToldLive m n w):=by
  have hv0:=hv;obtain ⟨Am,cm,rfl,hm⟩:=hv;have HSM:=Lib.hid hsm;have HMM:=Lib.hid hm;clear hm hsm;(go_enter Try.func33,Try.ntmps33);(go_upto_region 1 with fail);obtain ⟨w1,hw1,hs1,hk1,hbel1,hc1,-⟩:=named w #[.slice Am m.length cm] 24;rw [← hw1]
  have c0:w1.cell? ⟨w.heap.size,0,none⟩=some (.slice Am m.length cm):=hc1 0 _ rfl;have HB1:=Lib.hid hbel1;have HS1:Hid (w1.heap.size=w.heap.size+1):=Lib.hid hs1;have HV1:=Lib.hid (VMod.keep hk1 hv0);clear hw1 hs1 hk1 hc1 hbel1 hv0;(go_wp2_with fail);refine (whether_any m n _ _ HV1.out HSM.out).mono ?_;rintro e w3 ⟨⟨ve,rfl,hErr⟩,hb3⟩;have q3:=q6 hb3 _ _ c0
  (have HB3:Hid (Below w.heap.size w w3):=Lib.hid (HB1.out.trans (hb3.mono (by have:=HS1.out;omega))));have HERR:=Lib.hid hErr;clear c0 hb3 hErr;rcases HERR.out with ⟨hp,he⟩ | ⟨hp,hn,rfl⟩ | ⟨hp,hn,rfl⟩
  · obtain ⟨te,xe,hve⟩:=err_form he hp;subst hve;have HPR:=Lib.hid hp;have HE:=Lib.hid he;clear hp he;go_wp2_with fail
    (try simp only [Exit.inBlock,Exit.then])
    refine bodyPost_ret (results_tmp3 rfl _ _ _) rfl ?_;exact ⟨⟨_,_,_,rfl,.inl ⟨rfl,rfl,.inl ⟨HPR.out,HE.out⟩⟩⟩,HB3.out⟩
  · have HPR:=Lib.hid (And.intro hp hn);clear hp hn;go_wp2_with fail
    (try simp only [Exit.inBlock,Exit.then])
    refine bodyPost_ret (results_tmp3 rfl _ _ _) rfl ?_;exact ⟨⟨_,_,_,rfl,.inl ⟨rfl,rfl,.inr ⟨HPR.out.1,HPR.out.2,rfl⟩⟩⟩,HB3.out⟩
  · obtain ⟨k,rfl⟩:∃ k:Nat,n=(k:Int):=⟨n.toNat,by omega⟩;(have hkl:k<m.length:=by omega);have hk3:Kept w w3:=q6 HB3.out;obtain ⟨b,o,f,rfl,hF,⟨c0,z0⟩,⟨c1,z1⟩,⟨Ar,cr,c2,z2⟩,⟨Ab,cb,c3,z3⟩⟩:=(SFuns.keep hk3 HMM.out).at_ hkl;have hok:=lv_ok hp HSM.out (List.mem_of_getElem? hF.out);have hvf:VFun w3 (.agg #[.int .i64 f.params,.int .i64 f.result,.slice Ar f.regs.length cr,.slice Ab f.blocks.length cb]) f:=⟨Ar,cr,Ab,cb,rfl,z2,z3,z0,z1⟩;have HWT:=Lib.hid (wantsOf_any f _ w3 hvf hok);have HPR:=Lib.hid hp;have HOK:=Lib.hid hok
    have HFF:=Lib.hid hF;(have hk0:(0:Int)≤k:=by omega);(have hk1:(k:Int)<m.length:=by omega);clear hp hn hk3 hok hvf hF z0 z1 z2 z3;(go_wp2_with fail);refine HWT.out.mono ?_;rintro e w4 ⟨Wa,H,Ga,K,vo,s,rfl,hH,hM,hgo,hto,hop,hb4⟩;obtain ⟨P,hP⟩:∃ P,H+4 * (f.blocks.length+1)=P:=⟨_,rfl⟩;obtain ⟨-,-,-,p3,p4,-⟩:=hM.cells hP
    have HM:=Lib.hid hM;have HWA:=Lib.hid (want_A hgo hto hop);have HWE:=Lib.hid (want_E hgo hto hop);have HB4:Hid (Below w.heap.size w w4):=Lib.hid (HB3.out.trans (hb4.mono HB3.out.size));(have HHZ:Hid (w.heap.size≤H):=Lib.hid (by have:=HB3.out.size;omega));rw [hP];clear hM hgo hto hop hb4 hP hH;(go_wp2_with fail);go_quiet (fail)
    go_wp2_with fail
    (try simp only [Exit.inBlock,Exit.then])
    refine bodyPost_ret (results_tmp3 rfl _ _ _) rfl ?_;have hbd:=below_drewN (Below.refl w4.heap.size w4) nq;refine ⟨⟨_,_,_,rfl,.inr ⟨HPR.out,rfl,k,f,_,_,s.A,s.E,rfl,HFF.out,rfl,rfl,by have:=HHZ.out;omega,by omega,(HM.out.below hbd).g3,(HM.out.below hbd).g4,HWA.out,HWE.out,HOK.out⟩⟩,below_drewN HB4.out nq⟩
theorem small_trim {f:FunD} (h:SmallF f):SmallF (trimF f):=by
  refine ⟨Nat.le_trans (blksT_few _) h.1,h.2.1,h.2.2.1,fun b hb=>?_⟩;have hb:b∈blksT f.blocks:=hb;unfold blksT blksK at hb;obtain ⟨p,hp,hpb⟩:=List.mem_filterMap.1 hb
  split at hpb
  · obtain rfl:=Option.some.inj hpb;obtain ⟨i,hi⟩:=List.getElem?_of_mem hp;have hpm:p.1∈f.blocks:=by
      have:=List.mem_of_mem_take hp;obtain ⟨i,hi⟩:=List.getElem?_of_mem this;rw [List.getElem?_zipIdx] at hi;obtain ⟨y,hy,rfl⟩:=Option.map_eq_some_iff.1 hi;exact List.mem_of_getElem? hy
    obtain ⟨h1,h2,h3,h4,h5⟩:=h.2.2.2 _ hpm;refine ⟨h1,by simpa [blkT] using h2,by simpa [blkT] using h3,h4,fun x hx=>?_⟩;have hx:x∈p.1.phis.map (phiT (qE f.blocks) (qF f.blocks p.2)):=hx;obtain ⟨y,hy,rfl⟩:=List.mem_map.1 hx;exact Nat.le_trans (argsT_len _ _ _) (h5 y hy)
  · cases hpb
end Go.Proofs.Ytfoggldjjnabcaa

namespace Go.Proofs.Ytfoggldjjnabcaa
set_option linter.unusedVariables false
def trimM (m:List FunD) (n:Nat) (f:FunD):List FunD:=m.set n (trimF f)
theorem trimM_at {m:List FunD} {n:Nat} {f:FunD} (hf:m[n]?=some f) (i:Nat):(trimM m n f).getD i default=if i=n then trimF f else m.getD i default:=by
  have hl:=(List.getElem?_eq_some_iff.1 hf).1;unfold trimM;rw [List.getD_eq_getElem?_getD,List.getD_eq_getElem?_getD,List.getElem?_set]
  by_cases h:i=n
  · subst h;simp [hl]
  · rw [if_neg (fun e=>h e.symm),if_neg h]
theorem sig_same {m:List FunD} {n:Nat} {f:FunD} (hf:m[n]?=some f) (i:Int):(funAt (trimM m n f) i).params=(funAt m i).params∧(funAt (trimM m n f) i).result=(funAt m i).result∧(funAt (trimM m n f) i).regs=(funAt m i).regs:=by
  unfold funAt;rw [trimM_at hf]
  by_cases h:i.toNat=n
  · rw [if_pos h,qv (by rw [h];exact hf)];exact ⟨rfl,rfl,rfl⟩
  · rw [if_neg h];exact ⟨rfl,rfl,rfl⟩
theorem insE_trim {m:List FunD} {n:Nat} {f:FunD} (hf:m[n]?=some f) (g:FunD) (x:InsD):insE (trimM m n f) g x=insE m g x:=by
  obtain ⟨h1,h2,h3⟩:=sig_same hf x.fn;(have ho:oddB (funAt (trimM m n f) x.fn)=oddB (funAt m x.fn):=by unfold oddB;rw [h1,h3]);(have hl:(trimM m n f).length=m.length:=by unfold trimM;exact List.length_set);unfold insE;rw [ho,h1,h2,h3,hl]
theorem blockE_trimM {m:List FunD} {n:Nat} {f:FunD} (hf:m[n]?=some f) (g:FunD) (b:BlkD):qk (trimM m n f) g b=qk m g b:=by
  unfold qk;rw [show insE (trimM m n f) g=insE m g from funext fun x=>insE_trim hf g x]
theorem funE_trimM {m:List FunD} {n:Nat} {f:FunD} (hf:m[n]?=some f) (g:FunD):funE (trimM m n f) g=funE m g:=by
  unfold funE;rw [show qk (trimM m n f) g=qk m g from funext fun x=>blockE_trimM hf g x]
theorem trim_proper {m:List FunD} {n:Nat} {f:FunD} (hP:Proper m) (hf:m[n]?=some f):Proper (trimM m n f):=by
  obtain ⟨h32,hall⟩:=proper_iff.1 hP;rw [proper_iff];(refine ⟨by unfold trimM;rw [List.length_set];exact h32,fun g hg=>?_⟩);rw [funE_trimM hf];unfold trimM at hg;rcases List.mem_or_eq_of_mem_set hg with h | rfl
  · exact hall g h
  · exact funE_trim (hall f (List.mem_of_getElem? hf))
end Go.Proofs.Ytfoggldjjnabcaa

namespace Go.Proofs.Ytfoggldjjnabcaa
open Go.RowKit
set_option linter.unusedVariables false
set_option linter.unusedSimpArgs false
theorem plainK_zero:∀ (l:List FunD) (i:Nat),(plainK l i).1=0→∀ f∈l,noPhi f=true
  | [],_,_,f,hf=>by cases hf
  | g::r,i,h,f,hf=>by
    have h:(if noPhi g then plainK r (i+1) else (6,(i:Int))).1=0:=h;cases hg:noPhi g with
    | false=>rw [hg,if_neg (by simp)] at h;exact absurd (show (6:Int)=0 from h) (by decide)
    | true =>
      rw [hg,if_pos rfl] at h;rcases List.mem_cons.1 hf with rfl | hf
      · exact hg
      · exact plainK_zero r (i+1) h f hf
theorem plain_parts {m:List FunD} (h:(plainE m).1=0):Proper m∧∀ f∈m,∀ b∈f.blocks,b.phis=[]:=by
  unfold plainE at h
  by_cases hp:(modE m).1=0
  · rw [if_pos hp] at h;refine ⟨hp,fun f hf b hb=>?_⟩;have:=plainK_zero m 0 h f hf;unfold noPhi at this;rw [List.all_eq_true] at this;have:=of_decide_eq_true (this b hb);exact List.length_eq_zero_iff.1 this
  · rw [if_neg hp] at h;exact absurd h hp
structure BdF (m:List FunD) (g:FunD):Prop where
  ok:SsOk m (plnOf g) (DBl g.blocks) (ordO g.blocks)
  re:∀ b,b<g.blocks.length→qE g.blocks b=true
  ins:∀ b∈g.blocks,(∀ x∈b.ins,(∀ a∈x.args,InR g.regs.length a)∧(x.dst=-1∨InR g.regs.length x.dst))∧(b.term.arg=-1∨InR g.regs.length b.term.arg)
  small:SmallF g
theorem bdF_of {m:List FunD} {f:FunD} (hP:(plainE m).1=0) (hs:SmallM m) (hf:f∈m):BdF m (trimF f):=by
  obtain ⟨hp,hpl⟩:=plain_parts hP;have h0:funE m f=0:=(proper_iff.1 hp).2 f hf;obtain ⟨-,hb⟩:=funE_zero.1 (funE_trim h0);refine ⟨ssOk_trim h0 (hpl f hf),fun b hb=>reach_all hb,fun b hbb=>⟨fun x hx=>ins_dst ((blockE_zero.1 (hb b hbb)).2.1 x hx),term_arg (blockE_zero.1 (hb b hbb)).2.2⟩,small_trim (hs.2 f hf)⟩
variable {m:List FunD} {g:FunD}
theorem BdF.nb (h:BdF m g):1≤g.blocks.length∧g.blocks.length≤64:=h.ok.fn.nb
theorem BdF.nr (h:BdF m g):g.regs.length≤256:=h.ok.fn.nr
theorem BdF.par (h:BdF m g):0≤g.params∧g.params≤8∧g.params≤g.regs.length:=h.ok.fn.par
theorem BdF.ph (h:BdF m g) (b:Nat):(phL (plnOf g) b).length≤256∧∀ r∈phL (plnOf g) b,r<g.regs.length:=by
  refine ⟨?_,fun r hr=>(mem_phL.1 hr).1⟩;have h1:(phL (plnOf g) b).length≤g.regs.length:=by
    unfold phL;have:=List.length_filter_le (fun r=>(plnOf g).W b r && (plnOf g).C b r) (List.range g.regs.length);rw [List.length_range] at this;exact this
  have:=h.nr;omega
theorem BdF.zr (h:BdF m g):(zrL (plnOf g)).length≤256∧∀ r∈zrL (plnOf g),r<g.regs.length:=by
  refine ⟨?_,fun r hr=>(mem_zrL.1 hr).1⟩;have h1:(zrL (plnOf g)).length≤g.regs.length:=by
    unfold zrL;have:=List.length_filter_le (fun r:Nat=>decide (g.params≤(r:Int)) && (plnOf g).W 0 r) (List.range g.regs.length);rw [List.length_range] at this;exact this
  have:=h.nr;omega
theorem BdF.blk (h:BdF m g):∀ b∈(zF (plnOf g)).blocks,b.ins.length≤512∧(∀ x∈b.ins,I64 x.dst∧x.dst<g.regs.length∧x.args.length≤1000∧∀ a∈x.args,0≤a∧a<g.regs.length)∧b.term.arg<g.regs.length:=by
  have hnr:=h.nr;have hold:∀ k∈g.blocks,k.ins.length≤256∧(∀ x∈k.ins,I64 x.dst∧x.dst<g.regs.length∧x.args.length≤1000∧∀ a∈x.args,0≤a∧a<g.regs.length)∧k.term.arg<g.regs.length:=fun k hk=>by
    obtain ⟨h1,h2⟩:=h.ins k hk;(refine ⟨by have:=h.ok.fn.items k hk;omega,fun x hx=>?_,by rcases h2 with h2 | ⟨-,h2⟩ <;> omega⟩);obtain ⟨h3,h4⟩:=h1 x hx;(refine ⟨by unfold I64;rcases h4 with h4 | ⟨h4,h5⟩ <;> omega,by rcases h4 with h4 | ⟨-,h4⟩ <;> omega,?_,h3⟩);have:=(h.small.2.2.2 k hk).2.2.2.1 x hx;omega
  intro b hb;obtain ⟨i,hi⟩:=List.mem_iff_getElem?.1 hb
  by_cases e:i=0
  · subst e;have h0:0<g.blocks.length:=h.nb.1;rw [zF_zero (P:=plnOf g) h0] at hi;obtain rfl:=Option.some.inj hi;have hk:blkAt g 0∈g.blocks:=by
      (have:g.blocks[0]?=some (blkAt g 0):=by unfold blkAt;rw [List.getD_eq_getElem?_getD,List.getElem?_eq_getElem h0];rfl);exact List.mem_of_getElem? this
    obtain ⟨h1,h2,h3⟩:=hold _ hk;refine ⟨?_,fun x hx=>?_,h3⟩
    · show ((zrL (plnOf g)).map zI++(blkAt g 0).ins).length≤512;rw [List.length_append,List.length_map];have:=h.zr.1;omega
    · rcases List.mem_append.1 (show x∈(zrL (plnOf g)).map zI++(blkAt g 0).ins from hx) with hx | hx
      · obtain ⟨r,hr,rfl⟩:=List.mem_map.1 hx;have:=h.zr.2 r hr;exact ⟨by unfold I64 zI;simp only [];omega,by unfold zI;simp only [];omega,by unfold zI;simp,fun a ha=>by unfold zI at ha;cases ha⟩
      · exact h2 x hx
  · rw [zF_else (P:=plnOf g) e] at hi;obtain ⟨h1,h2,h3⟩:=hold b (List.mem_of_getElem? hi);exact ⟨by omega,h2,h3⟩
theorem BdF.bs (h:BdF m g) {b:Nat} (hb:b≤g.blocks.length):bsO (zF (plnOf g)) (phL (plnOf g)) b≤100000:=by
  (have h1:=bsO_le (F:=zF (plnOf g)) (ph:=phL (plnOf g)) (fun b _=>by have:=(h.ph b).1;omega) (fun b hb=>by have:=(h.blk b hb).1;omega) b (by rw [zF_len];exact hb));have h2:=h.par;have h3:=h.nb;(have:(zF (plnOf g)).params.toNat≤8:=by show g.params.toNat≤8;omega);omega
theorem BdF.nm (h:BdF m g):NmA (zF (plnOf g)) (phL (plnOf g)) (AEp (plnOf g)) (fun b=>(bBlk (plnOf g) b).ins) (fun b=>(bTerm (plnOf g) b).arg) (Ap (plnOf g)):=by
  (refine nmA_of h.ok h.re h.ins (fun b hb=>by have:=h.bs (Nat.le_of_lt hb);omega) (fun b i x hb hx=>?_) (fun b=>by have:=(h.ph b).1;omega) (by have:=h.nr;omega));have hil:=(List.getElem?_eq_some_iff.1 hx).1;rw [← h.ok.num h.nb.1 (Nat.le_of_lt hil)];have h1:=h.bs (Nat.le_of_lt hb);have h2:=(h.ph b).1;have h3:=dsL_le ((insB (zF (plnOf g)) b).take (zN (plnOf g) b+i));have h4:(insB (zF (plnOf g)) b).length≤512:=by
    (obtain ⟨kb,hk⟩:∃ kb,(zF (plnOf g)).blocks[b]?=some kb:=⟨_,List.getElem?_eq_getElem (show b<(zF (plnOf g)).blocks.length by rw [zF_len];exact hb)⟩);rw [qb hk];exact (h.blk _ (List.mem_of_getElem? hk)).1
  (have h5:((insB (zF (plnOf g)) b).take (zN (plnOf g) b+i)).length≤512:=by rw [List.length_take];omega);omega
end Go.Proofs.Ytfoggldjjnabcaa

namespace Go.Proofs.Ytfoggldjjnabcaa
open Go.ChangeShapes Go.WideShapes Go.RowKit Go.Deep
set_option linter.unusedVariables false
set_option linter.unusedSimpArgs false
def InsI64 (x:InsD):Prop:=I64 x.op∧I64 x.dst∧I64 x.imm∧I64 x.fn
section
variable {w:World} {K t:Nat} {lab:Nat→Nat} {v:Value} {B:Nat→Prop}
theorem RdV.toB {l:List Int} (h:RdV w lab v l) (hB:∀ g,lab g=0→Fz w g→B g):VS w 1 (RIntB B) v l:=by
  obtain ⟨A,c,e,h1⟩:=h;exact ⟨A,c,e,SL.imp (fun b o x hx=>⟨hB b hx.1.1 hx.1.2,hx.2⟩) h1⟩
theorem own_sl {α:Type} {sz n g c:Nat} {ty:TypeId} {xs:List Value} {R:World→Nat→Nat→α→Prop} {l:List α} (h:LRw w K lab t ty sz (.slice (some ⟨g,0,none⟩) n c) n xs) (hn:l.length=n) (hr:∀ (i:Nat) (x:α),l[i]?=some x→R w g (i * sz) x):SL w sz R (some ⟨g,0,none⟩) c l:=by
  have hmc:n≤c∧c≤maxLen:=by
    rcases h.own.2 with ⟨h1,-⟩ | ⟨g',c',cur,h1,-,-,h2,h3,-,-⟩
    · simp at h1
    · simp only [Value.slice.injEq] at h1;obtain ⟨-,-,rfl⟩:=h1;exact ⟨h2,h3⟩
  exact ⟨by omega,⟨hmc.2,fun e=>by cases e⟩,fun _=>⟨g,0,rfl,fun i x hi=>by rw [Nat.zero_add];exact hr i x hi⟩⟩
theorem own_vs {α:Type} {sz n:Nat} {ty:TypeId} {xs:List Value} {R:World→Nat→Nat→α→Prop} {l:List α} (h:LRw w K lab t ty sz v n xs) (hn:l.length=n) (hr:∀ g c,v=.slice (some ⟨g,0,none⟩) n c→∀ (i:Nat) (x:α),l[i]?=some x→R w g (i * sz) x):VS w sz R v l:=by
  by_cases h0:n=0
  · subst h0;have hl:l=[]:=List.length_eq_zero_iff.1 hn;subst hl;rcases h.own.2 with ⟨rfl,-⟩ | ⟨g,c,cur,rfl,-,-,h2,h3,-,-⟩
    · exact ⟨none,0,rfl,Nat.le_refl _,⟨by unfold maxLen;omega,fun _=>rfl⟩,fun hp=>absurd hp (by simp)⟩
    · exact ⟨some ⟨g,0,none⟩,c,rfl,Nat.zero_le _,⟨h3,fun e=>by cases e⟩,fun hp=>absurd hp (by simp)⟩
  · obtain ⟨g,c,hv⟩:=h.form (by omega);subst hv;exact ⟨some ⟨g,0,none⟩,c,by rw [hn],own_sl h hn (hr g c rfl)⟩
theorem vs_cs {α:Type} {sz b o:Nat} {R:World→Nat→Nat→α→Prop} {l:List α} (h:VS w sz R v l) (hc:w.cell? ⟨b,o,none⟩=some v):CS w b o sz R l:=by
  obtain ⟨A,c,rfl,hs⟩:=h;exact ⟨A,c,hc,hs⟩
theorem PhiO.vs {l:List PhiD} {ys:List (PhiD × Value)} (h:PhiO w K lab t v l ys) (h64:∀ p∈l,I64 p.dst) (hB:∀ g,lab g=0→Fz w g→B g) (hO:∀ g,K≤g→Fz w g→B g):VS w 2 (RPhiB B) v l:=by
  (have hl:l.length=ys.length:=by have:=congrArg List.length h.are;rw [List.length_map] at this;omega);refine own_vs h.row hl fun g c hv i x hx=>?_;have hrow:=h.row;rw [hv] at hrow;rw [← h.are,List.getElem?_map] at hx;obtain ⟨y,hy,rfl⟩:=Option.map_eq_some_iff.1 hx;have hil:=(List.getElem?_eq_some_iff.1 hy).1;(have hm:y.1∈l:=by rw [← h.are];exact List.mem_map_of_mem (List.mem_of_getElem? hy));have hgB:B g:=hO g (hrow.own.lt g rfl).1 (Fz.own hrow.own rfl)
  refine ⟨hgB,⟨?_,h64 _ hm⟩,vs_cs (v:=y.2) ((h.rd y (List.mem_of_getElem? hy)).toB hB) ?_⟩
  · (have:=hrow.cell (i:=i * 2+0) (u:=.int .i64 y.1.dst) (by rw [flat_at phD_len hy (by omega)];rfl) (by omega));simpa using this
  · exact hrow.cell (i:=i * 2+1) (u:=y.2) (by rw [flat_at phD_len hy (by omega)];rfl) (by omega)
theorem InsO.vs {l:List InsD} {ys:List (InsD × Value)} (h:InsO w K lab t v l ys) (h64:∀ x∈l,InsI64 x) (hB:∀ g,lab g=0→Fz w g→B g) (hO:∀ g,K≤g→Fz w g→B g):VS w 5 (RInsB B) v l:=by
  have hl:l.length=ys.length:=h.len.symm;refine own_vs h.row hl fun g c hv i x hx=>?_;have hrow:=h.row;rw [hv] at hrow;rw [← h.are,List.getElem?_map] at hx;obtain ⟨y,hy,rfl⟩:=Option.map_eq_some_iff.1 hx;have hil:=(List.getElem?_eq_some_iff.1 hy).1;(have hm:y.1∈l:=by rw [← h.are];exact List.mem_map_of_mem (List.mem_of_getElem? hy));obtain ⟨q1,q2,q3,q4⟩:=h64 _ hm
  (have hc:∀ j u,j<5→(inC y)[j]?=some u→w.cell? ⟨g,i * 5+j,none⟩=some u:=fun j u hj hu=>hrow.cell (by rw [flat_at inC_len hy hj];exact hu) (by omega));have hgB:B g:=hO g (hrow.own.lt g rfl).1 (Fz.own hrow.own rfl);exact ⟨hgB,⟨by simpa using hc 0 _ (by omega) rfl,q1⟩,⟨hc 1 _ (by omega) rfl,q2⟩,vs_cs ((h.rd y (List.mem_of_getElem? hy)).toB hB) (hc 2 _ (by omega) rfl),⟨hc 3 _ (by omega) rfl,q3⟩,⟨hc 4 _ (by omega) rfl,q4⟩⟩
end
theorem fun_reads {w:World} {K n:Nat} {lab:Nat→Nat} {B:Nat→Prop} {vR vB:Value} {PV IV TV:Nat→Value} {regs:List Int} {phs:Nat→List PhiD} {ins:Nat→List InsD} {kd ar:Nat→Int} {to_:Nat→List Int}
    (hR:LRw w K lab 2 3 1 vR regs.length (regs.map (Value.int .i64))) (hBk:LRw w K lab 3 43 5 vB n ((List.range n).flatMap fun b=>bkC (PV b) (IV b) (kd b) (ar b) (TV b)))
    (hP:∀ b,b<n→∃ ys,PhiO w K lab (100+2 * b) (PV b) (phs b) ys) (hI:∀ b,b<n→∃ ys,InsO w K lab (101+2 * b) (IV b) (ins b) ys) (hT:∀ b,b<n→RdV w lab (TV b) (to_ b))
    (h1:∀ z∈regs,I64 z) (h2:∀ b,b<n→(∀ p∈phs b,I64 p.dst)∧(∀ x∈ins b,InsI64 x)∧I64 (kd b)∧I64 (ar b)) (hB:∀ g,lab g=0→Fz w g→B g) (hO:∀ g,K≤g→Fz w g→B g) :
    ∃ Ar cr Ab cb,vR=.slice Ar regs.length cr∧vB=.slice Ab n cb∧SL w 1 (RIntB B) Ar cr regs∧SL w 5 (RBlkB B) Ab cb ((List.range n).map fun b=>(⟨phs b,ins b,⟨kd b,ar b,to_ b⟩⟩:BlkD)):=by
  have hr:VS w 1 (RIntB B) vR regs:=by
    refine own_vs hR rfl fun g c hv i x hx=>?_;rw [hv] at hR;have hil:=(List.getElem?_eq_some_iff.1 hx).1;refine ⟨hO g (hR.own.lt g rfl).1 (Fz.own hR.own rfl),?_,h1 x (List.mem_of_getElem? hx)⟩;rw [Nat.mul_one];exact hR.cell (by rw [List.getElem?_map,hx];rfl) (by omega)
  obtain ⟨Ar,cr,hvr,hsr⟩:=hr;have hb:VS w 5 (RBlkB B) vB ((List.range n).map fun b=>(⟨phs b,ins b,⟨kd b,ar b,to_ b⟩⟩:BlkD)):=by
    refine own_vs hBk (by simp) fun g c hv b x hx=>?_;(have hbn:b<n:=by have:=(List.getElem?_eq_some_iff.1 hx).1;simpa using this);rw [List.getElem?_map,List.getElem?_range hbn] at hx;obtain rfl:=Option.some.inj hx;rw [hv] at hBk;have hc:∀ j u,j<5→(bkC (PV b) (IV b) (kd b) (ar b) (TV b))[j]?=some u→w.cell? ⟨g,b * 5+j,none⟩=some u:=fun j u hj hu=>rB_cell hBk hbn hj hu;obtain ⟨ys,hp⟩:=hP b hbn;obtain ⟨zs_,hi⟩:=hI b hbn;obtain ⟨q1,q2,q3,q4⟩:=h2 b hbn
    exact ⟨hO g (hBk.own.lt g rfl).1 (Fz.own hBk.own rfl),vs_cs (hp.vs q1 hB hO) (by simpa using hc 0 _ (by omega) rfl),vs_cs (hi.vs q2 hB hO) (hc 1 _ (by omega) rfl),⟨hc 2 _ (by omega) rfl,q3⟩,⟨hc 3 _ (by omega) rfl,q4⟩,vs_cs ((hT b hbn).toB hB) (hc 4 _ (by omega) rfl)⟩
  obtain ⟨Ab,cb,hvb,hsb⟩:=hb;exact ⟨Ar,cr,Ab,cb,hvr,by rw [hvb];simp,hsr,hsb⟩
theorem phC_phiO {w:World} {K t n:Nat} {lab:Nat→Nat} {v:Value} {l:List Int} (h:LRw w K lab t 52 2 v n (l.flatMap phC)) (hn:n=l.length):∃ ys,PhiO w K lab t v (l.map fun d=>⟨d,[]⟩) ys:=by
  refine ⟨l.map fun d=>(⟨d,[]⟩,.slice none 0 0),?_,by rw [List.map_map];rfl,fun y hy=>?_⟩
  · rw [List.length_map,← hn,List.flatMap_map];exact h
  · obtain ⟨d,-,rfl⟩:=List.mem_map.1 hy;exact ⟨none,0,rfl,Nat.le_refl _,⟨by unfold maxLen;omega,fun _=>rfl⟩,fun hp=>absurd hp (by simp)⟩
end Go.Proofs.Ytfoggldjjnabcaa

namespace Go.Proofs.Ytfoggldjjnabcaa
open Go.RowKit
set_option linter.unusedVariables false
set_option linter.unusedSimpArgs false
variable {m:List FunD} {g:FunD}
structure F64 (g:FunD):Prop where
  regs:∀ z∈g.regs,I64 z
  blk:∀ b∈g.blocks,(∀ x∈b.ins,InsI64 x)∧I64 b.term.kind∧I64 b.term.arg
theorem f64_of {w:World} {v:Value} (h:VFun w v g):F64 g:=by
  obtain ⟨Ar,cr,Ab,cb,-,h1,h2,-,-⟩:=h;refine ⟨fun z hz=>?_,fun b hb=>?_⟩
  · obtain ⟨i,hi⟩:=List.mem_iff_getElem?.1 hz;(obtain ⟨b,o,e,hr⟩:=h1.2.2 (by have:=(List.getElem?_eq_some_iff.1 hi).1;omega));exact (hr i z hi).2
  · obtain ⟨i,hi⟩:=List.mem_iff_getElem?.1 hb;(obtain ⟨b',o,e,hr⟩:=h2.2.2 (by have:=(List.getElem?_eq_some_iff.1 hi).1;omega));obtain ⟨-,⟨Ai,ci,-,hs⟩,⟨-,k1⟩,⟨-,k2⟩,-⟩:=hr i b hi;refine ⟨fun x hx=>?_,k1,k2⟩;obtain ⟨j,hj⟩:=List.mem_iff_getElem?.1 hx;(obtain ⟨b2,o2,e2,hr2⟩:=hs.2.2 (by have:=(List.getElem?_eq_some_iff.1 hj).1;omega));obtain ⟨⟨-,q0⟩,⟨-,q1⟩,-,⟨-,q3⟩,⟨-,q4⟩⟩:=hr2 j x hj;exact ⟨q0,q1,q3,q4⟩
theorem I64.nat {n:Nat} (h:n≤1000000):I64 (n:Int):=by unfold I64;omega
theorem rgT_64 (h:∀ z∈g.regs,I64 z) (r:Nat):I64 (g.regs.getD r 0):=by
  rw [List.getD_eq_getElem?_getD];cases e:g.regs[r]? with
  | none=>exact ⟨by decide,by decide⟩
  | some z=>exact h z (List.mem_of_getElem? e)
theorem BdF.out64 (h:BdF m g) (hf:F64 (zF (plnOf g))) {b:Nat} (hb:b<g.blocks.length):(∀ p∈(outPs (zF (plnOf g)) (phL (plnOf g)) b).map (fun d=>(⟨d,[]⟩:PhiD)),I64 p.dst)∧(∀ x∈outIs (zF (plnOf g)) (phL (plnOf g)) b,InsI64 x)∧I64 (blkAt (zF (plnOf g)) b).term.kind∧I64 (blkAt (zF (plnOf g)) b).term.arg:=by
  (obtain ⟨kb,hk⟩:∃ kb,(zF (plnOf g)).blocks[b]?=some kb:=⟨_,List.getElem?_eq_getElem (show b<(zF (plnOf g)).blocks.length by rw [zF_len];exact hb)⟩);have hkm:=List.mem_of_getElem? hk;have hbk:blkAt (zF (plnOf g)) b=kb:=qv hk;have hbs:=h.bs (Nat.le_of_lt hb);have hph:=(h.ph b).1;(have hil:(insB (zF (plnOf g)) b).length≤512:=by rw [qb hk];exact (h.blk _ hkm).1);obtain ⟨f1,f2,f3⟩:=hf.blk kb hkm;refine ⟨fun p hp=>?_,fun x hx=>?_,by rw [hbk];exact f2,by rw [hbk];exact f3⟩
  · obtain ⟨d,hd,rfl⟩:=List.mem_map.1 hp;unfold outPs at hd;obtain ⟨k,hk2,rfl⟩:=List.mem_map.1 hd;rw [List.mem_range] at hk2;exact I64.nat (by omega)
  · unfold outIs at hx;obtain ⟨i,hi⟩:=List.mem_iff_getElem?.1 hx;rw [List.getElem?_mapIdx] at hi;obtain ⟨y,hy,rfl⟩:=Option.map_eq_some_iff.1 hi;(have hy2:y∈kb.ins:=by rw [qb hk] at hy;exact List.mem_of_getElem? hy);obtain ⟨q0,q1,q2,q3⟩:=f1 y hy2;refine ⟨q0,?_,q2,q3⟩;show I64 (if 0≤y.dst then _ else y.dst)
    split
    · refine I64.nat ?_;have h3:=dsL_le ((insB (zF (plnOf g)) b).take i);have h4:=List.length_take_le i (insB (zF (plnOf g)) b);(have h5:((insB (zF (plnOf g)) b).take i).length≤(insB (zF (plnOf g)) b).length:=by rw [List.length_take];omega);omega
    · exact q1
theorem BdF.olds_len (h:BdF m g):(oldL (plnOf g)).length≤100000:=by
  rw [← h.ok.olds h.nb.1,Go.Proofs.Ytfoggldjjnabcaa.olds_len,zF_len];exact h.bs (Nat.le_refl _)
theorem BdF.dsN_le (h:BdF m g) {b i:Nat} (hb:b<g.blocks.length) (hi:i≤(insB g b).length):dsN (plnOf g) b i≤200000:=by
  rw [← h.ok.num h.nb.1 hi];have h1:=h.bs (Nat.le_of_lt hb);have h2:=(h.ph b).1;have h3:=dsL_le ((insB (zF (plnOf g)) b).take (zN (plnOf g) b+i));have h4:(insB (zF (plnOf g)) b).length≤512:=by
    (obtain ⟨kb,hk⟩:∃ kb,(zF (plnOf g)).blocks[b]?=some kb:=⟨_,List.getElem?_eq_getElem (show b<(zF (plnOf g)).blocks.length by rw [zF_len];exact hb)⟩);rw [qb hk];exact (h.blk _ (List.mem_of_getElem? hk)).1
  (have h5:((insB (zF (plnOf g)) b).take (zN (plnOf g) b+i)).length≤512:=by rw [List.length_take];omega);omega
theorem BdF.fin64 (h:BdF m g) (hf:F64 g) (hz:F64 (zF (plnOf g))) {b:Nat} (hb:b<g.blocks.length) :
    (∀ p∈(List.range (phL (plnOf g) b).length).map (phF (zF (plnOf g)) (phL (plnOf g)) (Ap (plnOf g)) b),I64 p.dst)∧(∀ x∈(bBlk (plnOf g) b).ins,InsI64 x)∧I64 (blkAt (zF (plnOf g)) b).term.kind∧I64 (bTerm (plnOf g) b).arg:=by
  have hbs:=h.bs (Nat.le_of_lt hb);have hph:=(h.ph b).1;have hkb:g.blocks[b]?=some g.blocks[b]:=List.getElem?_eq_getElem hb;generalize hkk:g.blocks[b]=kb at hkb;have hkm:=List.mem_of_getElem? hkb;obtain ⟨f1,f2,f3⟩:=hf.blk kb hkm;refine ⟨fun p hp=>?_,fun x hx=>?_,(h.out64 hz hb).2.2.1,?_⟩
  · obtain ⟨k,hk2,rfl⟩:=List.mem_map.1 hp;rw [List.mem_range] at hk2;exact I64.nat (by omega)
  · rcases List.mem_append.1 (show x∈preL (plnOf g) b++(insB (plnOf g).f b).mapIdx (bIns (plnOf g) b) from hx) with hx | hx
    · unfold preL at hx
      split at hx
      · obtain ⟨r,hr,rfl⟩:=List.mem_map.1 hx;have h1:=List.idxOf_lt_length_of_mem hr;have h2:=h.zr.1;have h3:=h.par;refine ⟨show I64 (1:Int) from ⟨by decide,by decide⟩,I64.nat ?_,show I64 (0:Int) from ⟨by decide,by decide⟩,show I64 (0:Int) from ⟨by decide,by decide⟩⟩;show (plnOf g).f.params.toNat+(zrL (plnOf g)).idxOf r≤_;(have:(plnOf g).f.params.toNat≤8:=by show g.params.toNat≤8;omega);omega
      · cases hx
    · obtain ⟨i,hi⟩:=List.mem_iff_getElem?.1 hx;rw [List.getElem?_mapIdx] at hi;obtain ⟨y,hy,rfl⟩:=Option.map_eq_some_iff.1 hi;have hy1:(insB g b)[i]?=some y:=hy;(have hy2:y∈kb.ins:=by rw [qb hkb] at hy1;exact List.mem_of_getElem? hy1);obtain ⟨q0,q1,q2,q3⟩:=f1 y hy2;refine ⟨q0,?_,q2,q3⟩;show I64 (if 0≤y.dst then ((dsN (plnOf g) b i:Nat):Int) else -1)
      split
      · exact I64.nat (by have:=h.dsN_le hb (Nat.le_of_lt (List.getElem?_eq_some_iff.1 hy1).1);omega)
      · exact ⟨by decide,by decide⟩
  · show I64 (if 0≤(blkAt g b).term.arg then ((vr (plnOf g) (blkAt g b).term.arg.toNat b (insB g b).length:Nat):Int) else -1);have hbk:blkAt g b=kb:=qv hkb;rw [hbk]
    split
    · rename_i h0;(have hr:kb.term.arg<g.regs.length:=by rcases (h.ins kb hkm).2 with h1 | h1;{ omega };exact h1.2);(have hv:=h.ok.old (r:=kb.term.arg.toNat) (b:=b) (i:=kb.ins.length) (k:=kb) (by show _<g.regs.length;omega) hkb (Nat.le_refl _) ((wantAt_end hkb).2 (.inl (by omega))));rw [qb hkb];have:=(List.getElem?_eq_some_iff.1 hv).1;have:=h.olds_len;exact I64.nat (by omega)
    · exact ⟨by decide,by decide⟩
theorem BdF.phi_eq (h:BdF m g) (b:Nat) (hb:b<g.blocks.length):(List.range (phL (plnOf g) b).length).map (phF (zF (plnOf g)) (phL (plnOf g)) (Ap (plnOf g)) b)=(phL (plnOf g) b).map (bPhi (plnOf g) b):=by
  apply List.ext_getElem?;intro i;rw [List.getElem?_map,List.getElem?_map]
  by_cases hi:i<(phL (plnOf g) b).length
  · rw [List.getElem?_range hi,List.getElem?_eq_getElem hi];have hb0:b≠0:=by
      (intro e;subst e);rw [h.ok.no_first h.nb.1] at hi;simp at hi
    (have hg:(phL (plnOf g) b).getD i 0=(phL (plnOf g) b)[i]:=by rw [List.getD_eq_getElem?_getD,List.getElem?_eq_getElem hi];rfl);show some (phF _ _ _ b i)=some (bPhi _ b _);(congr 1);unfold phF bPhi phN;rw [h.ok.bs h.nb.1 hb0,hg,(show (phL (plnOf g) b).Nodup from List.nodup_range.filter _).idxOf_getElem,show qF (zF (plnOf g)).blocks b=qF g.blocks b by unfold qF;exact aheadK_like (zF_tos (P:=plnOf g) h.nb.1) _ _]
    rfl
  · rw [List.getElem?_eq_none (by rw [List.length_range];omega),List.getElem?_eq_none (by omega)]
    rfl
def outBs (g:FunD) (P:SsP):List BlkD:=(List.range (zF P).blocks.length).map fun b=>(⟨(outPs (zF P) (phL P) b).map (fun d=>(⟨d,[]⟩:PhiD)),outIs (zF P) (phL P) b,⟨(blkAt (zF P) b).term.kind,(blkAt (zF P) b).term.arg,(blkAt (zF P) b).term.to⟩⟩:BlkD)
theorem BdF.fin_eq (h:BdF m g):((List.range (zF (plnOf g)).blocks.length).map fun b=>(⟨(List.range (phL (plnOf g) b).length).map (phF (zF (plnOf g)) (phL (plnOf g)) (Ap (plnOf g)) b),(bBlk (plnOf g) b).ins,⟨(blkAt (zF (plnOf g)) b).term.kind,(bTerm (plnOf g) b).arg,(blkAt (zF (plnOf g)) b).term.to⟩⟩:BlkD))=(zA (plnOf g)).blocks:=by
  rw [zF_len];show _=(List.range (plnOf g).f.blocks.length).map (bBlk (plnOf g));refine List.map_congr_left fun b hb=>?_;rw [List.mem_range] at hb;rw [h.phi_eq b hb,zF_term (P:=plnOf g) h.nb.1]
  rfl
theorem BdF.regs_eq (h:BdF m g):(oldsO (zF (plnOf g)) (phL (plnOf g)) (zF (plnOf g)).blocks.length).map (rgT (zF (plnOf g)))=(zA (plnOf g)).regs:=by
  rw [h.ok.olds h.nb.1];rfl
theorem BdF.out_items (h:BdF m g):qo (outBs g (plnOf g))=qo (zA (plnOf g)).blocks∧(outBs g (plnOf g)).length=(zA (plnOf g)).blocks.length:=by
  have hl:(zF (plnOf g)).blocks.length=(plnOf g).f.blocks.length:=zF_len;constructor
  · unfold qo outBs;show _=(((List.range (plnOf g).f.blocks.length).map (bBlk (plnOf g))).map fun b=>b.phis.length+b.ins.length).sum;rw [List.map_map,List.map_map,hl];(congr 1);refine List.map_congr_left fun b hb=>?_;show ((outPs _ _ b).map _).length+(outIs _ _ b).length=((phL (plnOf g) b).map _).length+(preL (plnOf g) b++(insB (plnOf g).f b).mapIdx (bIns (plnOf g) b)).length;(have h1:(outIs (zF (plnOf g)) (phL (plnOf g)) b).length=zN (plnOf g) b+(insB (plnOf g).f b).length:=by unfold outIs;rw [List.length_mapIdx,zF_ins (P:=plnOf g) h.nb.1,List.length_append,zB_len]);(have h2:(preL (plnOf g) b).length=zN (plnOf g) b:=by unfold preL zN;split <;> simp);rw [List.length_map,List.length_map,List.length_append,List.length_mapIdx,h1,h2]
    unfold outPs;rw [List.length_map,List.length_range]
  · unfold outBs;show _=((List.range (plnOf g).f.blocks.length).map (bBlk (plnOf g))).length;rw [List.length_map,List.length_map,List.length_range,List.length_range,hl]
end Go.Proofs.Ytfoggldjjnabcaa
