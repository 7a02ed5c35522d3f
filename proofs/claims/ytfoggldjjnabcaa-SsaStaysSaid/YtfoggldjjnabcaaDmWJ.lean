/- The program's reachedAhead: of each block those that are reached and lead to it. -/
import Derived.Test.YtfoggldjjnabcaaDmFmJ
import Derived.Test.YtfoggldjjnabcaaGrMJ
namespace Go.Proofs.Ytfoggldjjnabcaa
open Go.ChangeShapes Go.WideShapes Go.RowKit Go.Deep
set_option linter.unusedVariables false
theorem Gri.frX {w w4 w':World} {G K n t:Nat} {V:Nat→Value} {L:Nat→List Int} (h:Gri w4 G K n V L) (ht:t<n) (hf:FrX (fun b=>b=G) w w4) (hK:w.heap.size≤K) {g cap m:Nat} {o:Obj} (hg:(w4.alloc o).grownBy w' (V t).ownBlock):FrX (fun b=>b=G) w (w'.setCell ⟨G,t,none⟩ (.slice (some ⟨g,0,none⟩) m cap)) :=
  ((hf.alloc o).grown hg (fun b hb=>.inr (by have:=((h.own t ht).lt b hb).1;omega))).setCell (.inl rfl) _
def ToldRA (bs:List BlkD) (w:World) (e:Ending) (w':World):Prop :=
  (∃ G K V,e=.returned (.slice (some ⟨G,0,none⟩) bs.length bs.length)∧w.heap.size≤G∧Gri w' G K bs.length V (fun b=>zs (raL bs bs.length b)))∧Below w.heap.size w w'
set_option maxRecDepth 100000 in
set_option maxHeartbeats 8000000 in
theorem reachedAhead_any (f:FunD) (v:Value) (w:World) (hv:VFun w v f) (hn:f.blocks.length≤1000):Calls Try.prog 50 #[v] w (ToldRA f.blocks w):=by
  have hv0:=hv;obtain ⟨i0,hi,hz0,hz1,hz2⟩:=info_parts Try.info3;have HI:=Lib.hid (And.intro hi (And.intro hz0 (And.intro hz1 hz2)));clear hi hz0 hz1 hz2;obtain ⟨Ar,cr,A,c,rfl,-,-,-,-⟩:=hv;have HV:=Lib.hid hv0;(go_enter Try.func50,Try.ntmps50);(go_upto_region 1 with fail);obtain ⟨w1,hw1,hs1,hk1,hbel1,hc1,-⟩:=named w #[.int .i64 f.params,.int .i64 f.result,.slice Ar f.regs.length cr,.slice A f.blocks.length c] 31
  rw [← hw1];have c0:w1.cell? ⟨w.heap.size,0,none⟩=some (.int .i64 f.params):=hc1 0 _ rfl;have c1:w1.cell? ⟨w.heap.size,1,none⟩=some (.int .i64 f.result):=hc1 1 _ rfl;have c2:w1.cell? ⟨w.heap.size,2,none⟩=some (.slice Ar f.regs.length cr):=hc1 2 _ rfl;have c3:w1.cell? ⟨w.heap.size,3,none⟩=some (.slice A f.blocks.length c):=hc1 3 _ rfl;have HC:=Lib.hid (And.intro c0 (And.intro c1 (And.intro c2 c3)));have HB1:=Lib.hid hbel1;have HS1:=Lib.hid hs1;have HN:=Lib.hid (next_any f _ w1 (VFun.keep hk1 hv0) (by omega))
  clear hw1 hs1 hbel1 hc1 hv0 hk1;(go_wp2_with fail);refine HN.out.mono ?_;rintro e w2 ⟨⟨V1,G1,rfl,hG1,hg1⟩,hb2⟩;have HB2:Hid (Below w1.heap.size w1 w2):=Lib.hid hb2;have hG1l:G1<w2.heap.size:=hg1.row.lt;(have HG1:=Lib.hid (hg1.reads (by omega) (fun i hi x hx=>by obtain ⟨q,hq,rfl⟩:=zs_mem hx;have:=qe f.blocks i q hq;unfold I64;omega)));have hmk:=run_make_row' (P:=Try.prog) 60 28 (.slice none 0 0) 24 Try.underlying60 Try.info28 rfl .i64 .i64 f.blocks.length (by omega) (by omega);have hk2:∀ i,w2.cell? ⟨w.heap.size,i,none⟩=w1.cell? ⟨w.heap.size,i,none⟩:=fun i=>hb2.cell (p:=⟨w.heap.size,i,none⟩) (by have:=HS1.out;show w.heap.size<_;omega)
  (have hN2:w.heap.size<w2.heap.size:=by have:=hb2.size;have:=HS1.out;omega);clear c0 c1 c2 c3 hG1 hg1 hb2 HN;(go_upto_region 3 with fail);clear hmk;obtain ⟨G,hG⟩:∃ G,G=w2.heap.size:=⟨_,rfl⟩;obtain ⟨w4,hw4⟩:∃ w4,w4=w2.alloc (.cells (madeCells #[.slice none 0 0] f.blocks.length) 28):=⟨_,rfl⟩;(have hb4:Below w2.heap.size w2 w4:=by rw [hw4];exact (Below.refl _ _).alloc (Nat.le_refl _) _);(have HGM:Hid (∀ K,G<K→Gri w4 G K f.blocks.length (fun _=>.slice none 0 0) (fun _=>[])):=Lib.hid (fun K hK=>by rw [hw4];exact Gri.made w2 G K _ hG hK));have hG4:G<w4.heap.size:=by rw [hw4,hG];simp
  have HB4:Hid (Below w1.heap.size w1 w4):=Lib.hid (HB2.out.trans (hb4.mono HB2.out.size));(have HGG:Hid (w1.heap.size≤G∧w2.heap.size=G):=Lib.hid ⟨by rw [hG];exact HB2.out.size,hG.symm⟩);have HSG:=Lib.hid hb4;have HGS:Hid (G1<G):=Lib.hid (by omega);have hk4:∀ i,w4.cell? ⟨w.heap.size,i,none⟩=w1.cell? ⟨w.heap.size,i,none⟩:=fun i=>(hb4.cell (p:=⟨w.heap.size,i,none⟩) hN2).trans (hk2 i);have c0:=(hk4 0).trans HC.out.1;have c1:=(hk4 1).trans HC.out.2.1;have c2:=(hk4 2).trans HC.out.2.2.1;have c3:=(hk4 3).trans HC.out.2.2.2
  (have HB4w:Hid (Below w.heap.size w w4):=Lib.hid (HB1.out.trans (HB4.out.mono (by have:=HS1.out;omega))));have HRE:=Lib.hid (reached_any f _ w4 (VFun.keep (q6 HB4w.out) HV.out) hn);rw [← hw4,← hG];clear hw4 hG hk2 hk4 hb4 hN2;(go_wp2_with fail);refine HRE.out.mono ?_;rintro e w6 ⟨⟨R,rfl,hR,hrr⟩,hb6⟩;(have hg6:=(HGM.out w6.heap.size (by have:=hb6.size;omega)).of_blocks (w':=w6) (hb6.block G hG4) (fun g h1 h2=>by have:=hb6.size;omega));have HG6:=Lib.hid (hg6.congr (L':=fun b=>zs (raL f.blocks 0 b)) fun i _=>rfl)
  have HRR:=Lib.hid hrr;have HRG:Hid (G<R):=Lib.hid (by omega)
  have HN6:Hid (SL w6 1 RRow (some ⟨G1,0,none⟩) f.blocks.length ((List.range f.blocks.length).map fun i=>zs (nxF f.blocks i))):=Lib.hid (by
    have hkk:Kept w2 w6:=(q6 HSG.out).trans (q6 hb6)
    exact SL.keep hkk (RRow.keep hkk) HG1.out)
  have HB6:Hid (Below w.heap.size w w6):=Lib.hid (HB4w.out.trans (hb6.mono HB4w.out.size));have hR6:R<w6.heap.size:=hrr.lt
  have HN2:Hid (∀ w',FrX (fun b=>b=G) w6 w'→SL w' 1 RRow (some ⟨G1,0,none⟩) f.blocks.length ((List.range f.blocks.length).map fun i=>zs (nxF f.blocks i))):=Lib.hid (fun w' hf=>by
    have hkk:Below w2.heap.size w2 w':=(HSG.out.trans (hb6.mono HSG.out.size)).trans (hf.below (by have:=HSG.out.size;have:=hb6.size;omega) (fun b hb=>by have:=HGG.out.2;omega))
    exact SL.keep (q6 hkk) (RRow.keep (q6 hkk)) HG1.out)
  (have HGW:Hid (w.heap.size≤G∧G<w6.heap.size):=Lib.hid (by have:=HGG.out.1;have:=HS1.out;have:=hb6.size;omega));clear hg6 hrr hb6 hR c0 c1 c2 c3 HRE;go_wp2_with fail
  go_loopw [17] (fun s17 wq=>∃ (k:Nat) (V:Nat→Value),k≤f.blocks.length∧s17=.int .i64 (k:Int)∧Gri wq G w6.heap.size f.blocks.length V (fun b=>zs (raL f.blocks k b))∧FrX (fun b=>b=G) w6 wq) (fun s17 _=>f.blocks.length - (intOf s17).toNat)
  case atStart=>exact ⟨0,_,Nat.zero_le _,rfl,HG6.out,FrX.refl _ _⟩
  case round =>
    obtain ⟨k,V,hk,rfl,hg,hfr⟩:=hrel;obtain ⟨wo,rfl⟩:∃ wo,wo=wr:=⟨wr,rfl⟩;have HG:=Lib.hid hg;have HFR:=Lib.hid hfr
    by_cases hkn:k<f.blocks.length
    · (have xr:=(HRR.out.of_block (hfr.block R hR6 (by have:=HRG.out;omega))).cell hkn);(have hk0:(0:Int)≤k:=by omega);(have hk1:(k:Int)<f.blocks.length:=by omega);cases hre:qE f.blocks k
      · have HN3:=Lib.hid (hg.congr (L':=fun b=>zs (raL f.blocks (k+1) b)) fun b _=>by rw [raL_not hre]);rw [hre] at xr;clear hg hfr hre;go_wp2_with fail
        go_roundw
        case rel=>exact ⟨k+1,V,by omega,by go_num,HN3.out,HFR.out⟩
        case measure=>simp [intOf];omega
      · rw [hre] at xr;have HRK:=Lib.hid hre;(obtain ⟨bg,og,l,hbo,hl,hcs⟩:=(HN2.out wo hfr).at_ (k:=k) (by simp;exact hkn));simp only [Option.some.injEq,Addr.mk.injEq,and_true] at hbo;obtain ⟨rfl,rfl⟩:=hbo;have hlz:l=zs (nxF f.blocks k):=(qX _ hl.out).1;subst hlz;obtain ⟨A2,c2,hcA,hslA⟩:=hcs;have hcA:wo.cell? ⟨G1,k,none⟩=some (.slice A2 (nxF f.blocks k).length c2):=by rw [Nat.mul_one,Nat.zero_add,qP] at hcA;exact hcA
        have HCA:Hid (∀ w',FrX (fun b=>b=G) w6 w'→w'.cell? ⟨G1,k,none⟩=some (.slice A2 (nxF f.blocks k).length c2)):=Lib.hid (fun w' hf=>by
          (have:=hf.block G1 (by have:=HGW.out;have:=HGS.out;omega) (by have:=HGS.out;omega));have h2:=hfr.block G1 (by have:=HGW.out;have:=HGS.out;omega) (by have:=HGS.out;omega)
          exact (World.cell?_of_block (a:=⟨G1,k,none⟩) (this.trans h2.symm)).trans hcA)
        (have hnl:(nxF f.blocks k).length≤f.blocks.length:=by unfold nxF;split;exact nextN_few _ _;simp);have HG7:=Lib.hid (hg.congr (L':=fun b=>zs (raJ f.blocks k 0 b)) fun b _=>by rw [raJ_zero]);clear hg hfr hre hslA hl;(go_upto_region 8 with fail);clear hcA
        go_loopw [29] (fun s29 wq=>∃ (j:Nat) (V:Nat→Value),j≤(nxF f.blocks k).length∧s29=.int .i64 (j:Int)∧Gri wq G w6.heap.size f.blocks.length V (fun b=>zs (raJ f.blocks k j b))∧FrX (fun b=>b=G) w6 wq) (fun s29 _=>(nxF f.blocks k).length - (intOf s29).toNat)
        case atStart=>exact ⟨0,V,Nat.zero_le _,rfl,HG7.out,HFR.out⟩
        case round =>
          obtain ⟨j,V2,hj,rfl,hg,hfr⟩:=hrel;have HGJ:=Lib.hid hg;have HFJ:=Lib.hid hfr
          by_cases hjl:j<(nxF f.blocks k).length
          · (obtain ⟨bg,og,l,hbo,hl,hcs⟩:=(HN2.out wr hfr).at_ (k:=k) (by simp;exact hkn));simp only [Option.some.injEq,Addr.mk.injEq,and_true] at hbo;obtain ⟨rfl,rfl⟩:=hbo;have hlz:l=zs (nxF f.blocks k):=(qX _ hl.out).1;subst hlz;obtain ⟨A3,c3,hcA3,hslA⟩:=hcs;have hcA4:=HCA.out wr hfr;rw [Nat.mul_one,Nat.zero_add,qP] at hcA3;rw [hcA3] at hcA4
            simp only [Option.some.injEq,Value.slice.injEq] at hcA4;obtain ⟨rfl,-,rfl⟩:=hcA4;(obtain ⟨bt,ot,x,rfl,hx,hxc,-⟩:=hslA.int (k:=j) (by rw [qP];exact hjl));obtain ⟨t,ht,rfl⟩:=zs_at hx.out;have htn:t<f.blocks.length:=qe f.blocks k t (List.mem_of_getElem? ht);(have hj0:(0:Int)≤j:=by omega);(have hj1:(j:Int)<(nxF f.blocks k).length:=by omega);(have ht0:(0:Int)≤t:=by omega);have ht1:(t:Int)<f.blocks.length:=by omega
            have hrow:=hg.row.cell htn;have hrowf:=hg.row.frozen t;have how:=hg.own t htn;have HOW:=Lib.hid how;have HT:=Lib.hid ht;have hll:(zs (raJ f.blocks k j t)).length≤2000:=by
              (rw [qP];unfold raJ);have:=raL_len f.blocks k t;rw [List.length_append]
              split <;> simp <;> omega
            have hz6:=hfr.size;clear hg hfr hx ht hl hcA3 hslA how;go_wp2_with (at_builtin;refine wpList_append_lies _ rfl (.tmp 38) (.tmp 40) 28 rfl w6.heap.size 3 i0 (.int .i64 0) 1 8 Try.underlying28 HI.out.1 HI.out.2.1 HI.out.2.2.1 HI.out.2.2.2 rfl (by decide) (V2 t) _ _ rfl (HOW.out.alloc _) ⟨wr.heap.size,0,none⟩ 1 1 [.int .i64 (k:Int)] rfl rfl ?e1 ?e2 ?e0 ?e3 ?e4 ?e5 (wr.heap.size+1) ?e6 ?_)
            case e1=>exact qR wr _ _ rfl
            case e2=>exact ints_oneCell .i64 [(k:Int)]
            case e0=>omega
            case e3=>unfold maxLen;omega
            case e4=>omega
            case e5=>simp;omega
            case e6=>simp
            intro g cap w7 hown7 hgrow7 hloc7 hlt7;have hgp:=Gri.push (HGJ.out.alloc _) htn hown7 hgrow7 (by simpa using hloc7)
            have HGP:=Lib.hid (hgp.congr (L':=fun b=>zs (raJ f.blocks k (j+1) b)) fun b _=>by
              show (if b=t then zs (raJ f.blocks k j t)++[(k:Int)] else zs (raJ f.blocks k j b))=_;rw [← raJ_step HT.out b]
              by_cases e:b=t
              · rw [if_pos e,if_pos e,zs_snoc]
              · rw [if_neg e,if_neg e])
            have HFP:=Lib.hid (HGJ.out.frX htn HFJ.out (Nat.le_refl _) hgrow7 (g:=g) (cap:=cap) (m:=(zs (raJ f.blocks k j t)).length+1));(have hG7:w7.heap[G]?=(wr.alloc (.cells #[.int .i64 (k:Int)] 3)).heap[G]?:=hgrow7.block _ (by have:=HGW.out;simp;omega) (fun e=>by have:=(HOW.out.lt _ e.symm).1;have:=HGW.out;omega));have hrow7:=(World.cell?_of_block (a:=⟨G,t,none⟩) hG7).trans ((HGJ.out.row.alloc _).cell htn);have hfr7:=(World.frozen?_of_block (a:=⟨G,t,none⟩) hG7).trans ((HGJ.out.row.alloc _).frozen t);clear hgp hown7 hgrow7 hloc7 hG7 hrow hrowf hxc;go_wp2_with fail
            go_roundw
            case rel=>exact ⟨j+1,_,by omega,by go_num,HGP.out,HFP.out⟩
            case measure=>simp [intOf];omega
          · have HGN:=Lib.hid (hg.congr (L':=fun b=>zs (raL f.blocks (k+1) b)) fun b _=>by rw [raJ_all HRK.out (by omega)]);clear hg hfr;go_wp2_with fail
            go_roundw
            case rel=>exact ⟨k+1,V2,by omega,by go_num,HGN.out,HFJ.out⟩
            case measure=>simp [intOf];omega
    · (have hkk:k=f.blocks.length:=by omega);subst hkk;(have HBF:Hid (Below w.heap.size w wo):=Lib.hid (HB6.out.trans (hfr.below HB6.out.size (fun y hy=>by have:=HGW.out;omega))));clear hg hfr;(go_wp2_with fail);(go_ret);exact ⟨⟨G,_,V,rfl,HGW.out.1,HG.out⟩,HBF.out⟩
end Go.Proofs.Ytfoggldjjnabcaa

namespace Go.Proofs.Ytfoggldjjnabcaa
set_option linter.unusedVariables false
variable {bs:List BlkD}
def frB (bs:List BlkD) (a b:Nat):Bool:=(raL bs bs.length b).any fun c=>upB bs c (nearD bs b) a
def mkJ (bs:List BlkD) (b j a:Nat):Bool:=((raL bs bs.length b).take j).any fun c=>upB bs c (nearD bs b) a
def mkY (bs:List BlkD) (b j c:Nat) (y:Int) (a:Nat):Bool:=mkJ bs b j a || upB bs c y a
def frL (bs:List BlkD) (m a:Nat):List Nat:=(List.range m).filter fun b=>frB bs a b
def frM (bs:List BlkD) (b:Nat) (M:Nat→Bool) (a:Nat):List Nat:=frL bs b a++(if M a=true then [b] else [])
theorem frL_succ (bs:List BlkD) (m a:Nat):frL bs (m+1) a=frL bs m a++(if frB bs a m=true then [m] else []):=by
  unfold frL;rw [List.range_succ,List.filter_append];congr 1
  by_cases h:frB bs a m=true
  · rw [if_pos h];simp [h]
  · rw [if_neg h];simp [h]
theorem frM_start (bs:List BlkD) (b a:Nat):frL bs b a=frM bs b (mkJ bs b 0) a:=by unfold frM mkJ;simp
theorem frM_all (bs:List BlkD) {b j:Nat} (hj:(raL bs bs.length b).length≤j) (a:Nat):frM bs b (mkJ bs b j) a=frL bs (b+1) a:=by
  unfold frM;rw [frL_succ];unfold mkJ frB;rw [List.take_of_length_le hj]
theorem frL_len (bs:List BlkD) (m a:Nat):(frL bs m a).length≤m:=by unfold frL;exact Nat.le_trans (List.length_filter_le _ _) (by simp)
theorem mkJ_succ {b j c:Nat} (hc:(raL bs bs.length b)[j]?=some c) (a:Nat):mkJ bs b (j+1) a=(mkJ bs b j a || upB bs c (nearD bs b) a):=by
  unfold mkJ;rw [qC hc,List.any_append];simp
end Go.Proofs.Ytfoggldjjnabcaa

namespace Go.Proofs.Ytfoggldjjnabcaa
open Go.ChangeShapes Go.WideShapes Go.RowKit Go.Deep
set_option linter.unusedVariables false
variable {bs:List BlkD}
def LaOk (la:Nat→Nat) (n b:Nat) (M:Nat→Bool):Prop:=∀ a,a<n→la a≤b+1∧(la a=b+1↔M a=true)
theorem LaOk.next {la:Nat→Nat} {n b:Nat} {M:Nat→Bool} (h:LaOk la n b M):LaOk la n (b+1) (mkJ bs (b+1) 0):=fun a ha=>by
  have:=(h a ha).1;exact ⟨by omega,⟨fun h2=>by omega,fun h2=>by unfold mkJ at h2;simp at h2⟩⟩
theorem LaOk.congr {la:Nat→Nat} {n b:Nat} {M M':Nat→Bool} (h:LaOk la n b M) (he:∀ a,a<n→M a=M' a):LaOk la n b M':=fun a ha=>by rw [← he a ha];exact h a ha
theorem LaOk.set {la:Nat→Nat} {n b q:Nat} {M:Nat→Bool} (h:LaOk la n b M):LaOk (updF la q (b+1)) n b (fun a=>if a=q then true else M a):=fun a ha=>by
  by_cases e:a=q
  · subst e;rw [qB];simp
  · rw [q7 _ _ e];simp only [if_neg e];exact h a ha
def AtY (bs:List BlkD) (b c:Nat) (y:Int):Prop:=y=nearD bs b∨∃ q:Nat,q<bs.length∧y=(q:Int)∧y≠nearD bs b∧dmB bs q c=true∧(nearD bs b=-1∨∃ p:Nat,nearD bs b=(p:Int)∧p<bs.length∧dmB bs p q=true)
theorem AtY.start {ord:Nat→Nat} (h:NearB bs (nearD bs) ord) {b c:Nat} (hb:b<bs.length) (hc:c<bs.length) (hrc:qE bs c=true) (hbc:b∈nxF bs c):AtY bs b c (c:Int):=by
  by_cases he:(c:Int)=nearD bs b
  · exact .inl he
  · (refine .inr ⟨c,hc,rfl,he,h.self c hc (by rw [qO];exact hrc),?_⟩);have hrb:qE bs b=true:=by
      unfold qE reachB at *;rw [decide_eq_true_iff,orderL_mem (qe bs) (by omega)] at *;exact .step hrc hbc
    by_cases hb0:b=0
    · exact .inl (h.none b hb (.inr hb0))
    · (obtain ⟨p,hp,hpe,hpb,hdp,-⟩:=h.some b hb (by rw [qO];exact hrb) hb0);exact .inr ⟨p,hpe,hp,near_pred (by omega) hdp hpb hrc hbc⟩
theorem AtY.step {ord:Nat→Nat} (h:NearB bs (nearD bs) ord) {b c q:Nat} (hc:c<bs.length) (hq:q<bs.length) (hd:dmB bs q c=true) (hne:(q:Int)≠nearD bs b) (hp:nearD bs b=-1∨∃ p:Nat,nearD bs b=(p:Int)∧p<bs.length∧dmB bs p q=true) :
    AtY bs b c (nearD bs q)∧(nearD bs q=-1∨∃ r:Nat,r<bs.length∧nearD bs q=(r:Int)∧ord r<ord q):=by
  by_cases hq0:q=0
  · have hz:=h.none q hq (.inr hq0);refine ⟨.inl ?_,.inl hz⟩;rcases hp with hp | ⟨p,hpe,hpn,hpq⟩
    · rw [hz,hp]
    · exfalso;have h1:=h.ord p q hpn hq hpq;have h2:=h.first p hpn (h.reach p q hpn hq hpq);have h3:=h.ord 0 p (by omega) hpn h2;rw [hq0] at h1;have:=h1.2 (by omega);exact hne (by rw [hpe,this,hq0])
  · obtain ⟨r,hr,hre,hrq,hdr,hall⟩:=h.some q hq (h.reach q c hq hc hd) hq0;have hlt:ord r<ord q:=by
      have h1:=h.ord r q hr hq hdr;have:ord r≠ord q:=fun e=>hrq (h1.2 e);omega
    refine ⟨?_,.inr ⟨r,hr,hre,hlt⟩⟩
    by_cases hrn:(r:Int)=nearD bs b
    · exact .inl (hre.trans hrn)
    · (refine .inr ⟨r,hr,hre,by rw [hre];exact hrn,h.trans r q c hdr hd,?_⟩);rcases hp with hp | ⟨p,hpe,hpn,hpq⟩
      · exact .inl hp
      · exact .inr ⟨p,hpe,hpn,hall p hpn (fun e=>hne (by rw [hpe,e])) hpq⟩
theorem mk_stop {ord:Nat→Nat} (h:NearB bs (nearD bs) ord) {b j c q:Nat} (hc:(raL bs bs.length b)[j]?=some c) (hb:b<bs.length) (hq:q<bs.length) (hd:dmB bs q c=true) (hp:nearD bs b=-1∨∃ p:Nat,nearD bs b=(p:Int)∧p<bs.length∧dmB bs p q=true) (hm:mkY bs b j c q q=true) {a:Nat} (ha:a<bs.length) :
    mkY bs b j c q a=mkJ bs b (j+1) a:=by
  have hrq:dmB bs q q=true:=h.self q hq (h.reach q c hq (raL_lt (List.mem_of_getElem? hc)).1 hd);have hmj:mkJ bs b j q=true:=by
    unfold mkY at hm;rw [Bool.or_eq_true] at hm;rcases hm with hm | hm
    · exact hm
    · unfold upB at hm;rw [Int.toNat_natCast,hrq,decide_eq_false (by omega)] at hm;simp at hm
  unfold mkJ at hmj;obtain ⟨c',hc',hu⟩:=List.any_eq_true.1 hmj;rw [mkJ_succ hc];unfold mkY;cases hj:mkJ bs b j a
  · rw [Bool.false_or,Bool.false_or];unfold upB;cases hac:dmB bs a c
    · rfl
    · rw [Bool.true_and,Bool.true_and,Int.toNat_natCast,decide_eq_false (by omega:¬ ((q:Int)<0)),Bool.false_or];cases haq:dmB bs a q
      · (symm);rcases hp with hp | ⟨p,hpe,hpn,hpq⟩
        · rw [hp];rfl
        · rw [hpe,Int.toNat_natCast,decide_eq_false (by omega),Bool.false_or];cases hap:dmB bs a p
          · rfl
          · rw [h.trans a p q hap hpq] at haq;cases haq
      · -- above q and not above the nearest: marked already
        show false=_;cases hx:(decide (nearD bs b<0) || !dmB bs a (nearD bs b).toNat)
        · rfl
        · exfalso;unfold upB at hu;rw [Bool.and_eq_true] at hu;(have:mkJ bs b j a=true:=List.any_eq_true.2 ⟨c',hc',by unfold upB;rw [h.trans a q c' haq hu.1,hx];rfl⟩);rw [hj] at this;cases this
  · rw [Bool.true_or,Bool.true_or]
theorem mkY_step {ord:Nat→Nat} (h:NearB bs (nearD bs) ord) {b j c q a:Nat} (ha:a<bs.length) (hc:c<bs.length) (hq:q<bs.length) (hd:dmB bs q c=true):(if a=q then true else mkY bs b j c q a)=mkY bs b j c (nearD bs q) a:=by
  unfold mkY;rw [← h.up_step ha hc hq hd]
  by_cases e:a=q
  · rw [if_pos e,if_pos e,Bool.or_true]
  · rw [if_neg e,if_neg e]
theorem mkY_start {b j c:Nat} (a:Nat):mkY bs b j c (c:Int) a=mkJ bs b j a:=by
  unfold mkY upB;rw [Int.toNat_natCast,decide_eq_false (by omega)];cases dmB bs a c <;> simp
theorem mkY_end {b j c:Nat} (hc:(raL bs bs.length b)[j]?=some c) (a:Nat):mkY bs b j c (nearD bs b) a=mkJ bs b (j+1) a:=by rw [mkJ_succ hc];rfl
theorem frM_mark {b q:Nat} {M:Nat→Bool} (hm:M q=false) (a:Nat):(if a=q then frM bs b M q++[b] else frM bs b M a)=frM bs b (fun a=>if a=q then true else M a) a:=by
  unfold frM
  by_cases e:a=q
  · subst e;rw [if_pos rfl,hm];simp
  · rw [if_neg e];simp only [if_neg e]
theorem frM_next {ord:Nat→Nat} (h:NearB bs (nearD bs) ord) {b j c q a:Nat} (hm:mkY bs b j c q q=false) (ha:a<bs.length) (hc:c<bs.length) (hq:q<bs.length) (hd:dmB bs q c=true) :
    (if a=q then zs (frM bs b (mkY bs b j c q) q)++[(b:Int)] else zs (frM bs b (mkY bs b j c q) a))=zs (frM bs b (mkY bs b j c (nearD bs q)) a):=by
  have h1:=frM_mark (bs:=bs) (b:=b) hm a;have h3:=mkY_step (b:=b) (j:=j) h ha hc hq hd;have h2:frM bs b (fun a=>if a=q then true else mkY bs b j c q a) a=frM bs b (mkY bs b j c (nearD bs q)) a:=by
    unfold frM;show frL bs b a++(if (if a=q then true else mkY bs b j c q a)=true then [b] else [])=_;rw [h3]
  rw [← h2,← h1]
  by_cases e:a=q
  · rw [if_pos e,if_pos e,zs_snoc]
  · rw [if_neg e,if_neg e]
def ToldFr (bs:List BlkD) (w:World) (e:Ending) (w':World):Prop :=
  (∃ G K V,e=.returned (.slice (some ⟨G,0,none⟩) bs.length bs.length)∧w.heap.size≤G∧w.heap.size≤K∧Gri w' G K bs.length V (fun a=>zs (frL bs bs.length a))∧∃ ord,NearB bs (nearD bs) ord)∧Below w.heap.size w w'
def FrW (w6 wq:World) (Gf La K n b:Nat) (V:Nat→Value) (la:Nat→Nat) (bs:List BlkD) (M:Nat→Bool):Prop :=
  Gri wq Gf K n V (fun a=>zs (frM bs b M a))∧wq.rowIs La 3 n (fun a=>.int .i64 (la a:Int))∧LaOk la n b M∧FrX (fun y=>y=Gf∨y=La) w6 wq
theorem FrW.congr {w6 wq:World} {Gf La K n b:Nat} {V:Nat→Value} {la:Nat→Nat} {M M':Nat→Bool} (h:FrW w6 wq Gf La K n b V la bs M) (he:∀ a,a<n→M a=M' a):FrW w6 wq Gf La K n b V la bs M' :=
  ⟨h.1.congr fun a ha=>by unfold frM;rw [he a ha],h.2.1,h.2.2.1.congr he,h.2.2.2⟩
set_option maxRecDepth 100000 in
set_option maxHeartbeats 8000000 in
theorem frontier_any (f:FunD) (v:Value) (w:World) (hv:VFun w v f) (hn:f.blocks.length≤1000):Calls Try.prog 35 #[v] w (ToldFr f.blocks w):=by
  have hv0:=hv;obtain ⟨i0,hi,hz0,hz1,hz2⟩:=info_parts Try.info3;have HI:=Lib.hid (And.intro hi (And.intro hz0 (And.intro hz1 hz2)));clear hi hz0 hz1 hz2;obtain ⟨Ar,cr,A,c,rfl,-,-,-,-⟩:=hv;have HV:=Lib.hid hv0;(go_enter Try.func35,Try.ntmps35);(go_upto_region 1 with fail);obtain ⟨w1,hw1,hs1,hk1,hbel1,hc1,-⟩:=named w #[.int .i64 f.params,.int .i64 f.result,.slice Ar f.regs.length cr,.slice A f.blocks.length c] 31
  rw [← hw1];have c0:w1.cell? ⟨w.heap.size,0,none⟩=some (.int .i64 f.params):=hc1 0 _ rfl;have c1:w1.cell? ⟨w.heap.size,1,none⟩=some (.int .i64 f.result):=hc1 1 _ rfl;have c2:w1.cell? ⟨w.heap.size,2,none⟩=some (.slice Ar f.regs.length cr):=hc1 2 _ rfl;have c3:w1.cell? ⟨w.heap.size,3,none⟩=some (.slice A f.blocks.length c):=hc1 3 _ rfl;have HC:=Lib.hid (And.intro c0 (And.intro c1 (And.intro c2 c3)));have HB1:=Lib.hid hbel1;have HS1:=Lib.hid hs1;have HN:=Lib.hid (nearest_any f _ w1 (VFun.keep hk1 hv0) hn)
  clear hw1 hs1 hbel1 hc1 hv0 hk1;(go_wp2_with fail);refine HN.out.mono ?_;rintro e w2 ⟨⟨H,rfl,hH,hnr,ord,hNB⟩,hb2⟩;have HB2:Hid (Below w1.heap.size w1 w2):=Lib.hid hb2;have HNB:=Lib.hid hNB;have HNR:=Lib.hid hnr;have hHl:H<w2.heap.size:=hnr.lt;have hmk:=run_make_row' (P:=Try.prog) 60 28 (.slice none 0 0) 24 Try.underlying60 Try.info28 rfl .i64 .i64 f.blocks.length (by omega) (by omega)
  have hmk2:=run_make_row' (P:=Try.prog) 28 3 (.int .i64 0) 8 Try.underlying28 Try.info3 rfl .i64 .i64 f.blocks.length (by omega) (by omega);(have hk2:∀ i,w2.cell? ⟨w.heap.size,i,none⟩=w1.cell? ⟨w.heap.size,i,none⟩:=fun i=>hb2.cell (p:=⟨w.heap.size,i,none⟩) (by have:=HS1.out;show w.heap.size<_;omega));(have hN2:w.heap.size<w2.heap.size:=by have:=hb2.size;have:=HS1.out;omega);clear c0 c1 c2 c3 hH hnr hb2 HN hNB;(go_upto_region 4 with fail);clear hmk hmk2;obtain ⟨G,hG⟩:∃ G,G=w2.heap.size:=⟨_,rfl⟩;obtain ⟨w4,hw4⟩:∃ w4,w4=(w2.alloc (.cells (madeCells #[.slice none 0 0] f.blocks.length) 28)).alloc (.cells (madeCells #[.int .i64 0] f.blocks.length) 3):=⟨_,rfl⟩;have hb4:Below w2.heap.size w2 w4:=by rw [hw4];exact ((Below.refl _ _).alloc (Nat.le_refl _) _).alloc (by simp) _
  (have HGM:Hid (∀ K,G<K→Gri w4 G K f.blocks.length (fun _=>.slice none 0 0) (fun _=>[])):=Lib.hid (fun K hK=>by rw [hw4];exact (Gri.made w2 G K _ hG hK).alloc _));(have HLM:Hid (w4.rowIs (G+1) 3 f.blocks.length (fun _=>.int .i64 0)):=Lib.hid (row_made (by rw [hw4,hG];have:=heap_alloc_new (w2.alloc (.cells (madeCells #[.slice none 0 0] f.blocks.length) 28)) (.cells (madeCells #[.int .i64 0] f.blocks.length) 3);simpa using this)));have hG4:G+1<w4.heap.size:=HLM.out.lt;have HB4:Hid (Below w1.heap.size w1 w4):=Lib.hid (HB2.out.trans (hb4.mono HB2.out.size));(have HGG:Hid (w1.heap.size≤G∧w2.heap.size=G∧H<G):=Lib.hid ⟨by rw [hG];exact HB2.out.size,hG.symm,by omega⟩);have hk4:∀ i,w4.cell? ⟨w.heap.size,i,none⟩=w1.cell? ⟨w.heap.size,i,none⟩:=fun i=>(hb4.cell (p:=⟨w.heap.size,i,none⟩) hN2).trans (hk2 i);have c0:=(hk4 0).trans HC.out.1;have c1:=(hk4 1).trans HC.out.2.1;have c2:=(hk4 2).trans HC.out.2.2.1
  have c3:=(hk4 3).trans HC.out.2.2.2;(have HB4w:Hid (Below w.heap.size w w4):=Lib.hid (HB1.out.trans (HB4.out.mono (by have:=HS1.out;omega))));have HRE:=Lib.hid (reachedAhead_any f _ w4 (VFun.keep (q6 HB4w.out) HV.out) hn);have HNR4:=Lib.hid (HNR.out.of_block (hb4.block H hHl));rw [← hw4,← hG];clear hw4 hG hk2 hk4 hb4 hN2 hHl HNR;(go_wp2_with fail);refine HRE.out.mono ?_;rintro e w6 ⟨⟨R,KR,VR,rfl,hR,hgr⟩,hb6⟩
  (have hg6:=(HGM.out w6.heap.size (by have:=hb6.size;omega)).of_blocks (w':=w6) (hb6.block G (by omega)) (fun g h1 h2=>by have:=hb6.size;omega));have HW6:Hid (FrW w6 w6 G (G+1) w6.heap.size f.blocks.length 0 (fun _=>.slice none 0 0) (fun _=>0) f.blocks (mkJ f.blocks 0 0)):=Lib.hid ⟨hg6.congr fun a _=>by rw [← frM_start];rfl,(HLM.out.of_block (hb6.block (G+1) hG4)).congr fun _ _=>rfl,fun a _=>⟨by show 0≤0+1;omega,⟨fun h=>by have h:(0:Nat)=0+1:=h;omega,fun h=>by unfold mkJ at h;simp at h⟩⟩,FrX.refl _ _⟩
  have HRR:Hid (∀ w',FrX (fun y=>y=G∨y=G+1) w6 w'→SL w' 1 RRow (some ⟨R,0,none⟩) f.blocks.length ((List.range f.blocks.length).map fun b=>zs (raL f.blocks f.blocks.length b))):=Lib.hid (fun w' hf=>by
    have hlt:=hgr.lt;have hg:=hgr.of_blocks (w':=w') (hf.block R hgr.row.lt (by omega)) (fun g h1 h2=>hf.block g h2 (by omega))
    exact hg.reads (by omega) (fun i hi x hx=>by obtain ⟨q,hq,rfl⟩:=zs_mem hx;have:=(raL_lt hq).1;unfold I64;omega))
  have HNR6:=Lib.hid (HNR4.out.of_block (hb6.block H HNR4.out.lt));have HB6:Hid (Below w.heap.size w w6):=Lib.hid (HB4w.out.trans (hb6.mono HB4w.out.size));(have HGW:Hid (w.heap.size≤G∧G+1<w6.heap.size∧H<G):=Lib.hid (by have:=HGG.out;have:=HS1.out;have:=hb6.size;omega));have HRL:Hid (G+1<R∧R<w6.heap.size):=Lib.hid ⟨by omega,hgr.row.lt⟩;clear hg6 hgr hb6 hR c0 c1 c2 c3 HRE hG4;go_wp2_with fail
  go_loopw [21] (fun s21 wq=>∃ (b:Nat) (V:Nat→Value) (la:Nat→Nat),b≤f.blocks.length∧s21=.int .i64 (b:Int)∧FrW w6 wq G (G+1) w6.heap.size f.blocks.length b V la f.blocks (mkJ f.blocks b 0)) (fun s21 _=>f.blocks.length - (intOf s21).toNat)
  case atStart=>exact ⟨0,_,_,Nat.zero_le _,rfl,HW6.out⟩
  case round =>
    obtain ⟨b,V,la,hb,rfl,hw⟩:=hrel;obtain ⟨wo,rfl⟩:∃ wo,wo=wr:=⟨wr,rfl⟩;have HW:=Lib.hid hw
    by_cases hbn:b<f.blocks.length
    · (have hb0:(0:Int)≤b:=by omega);(have hb1:(b:Int)<f.blocks.length:=by omega);(obtain ⟨bg,og,l,hbo,hl,hcs⟩:=(HRR.out wo hw.2.2.2).at_ (k:=b) (by simp;exact hbn));simp only [Option.some.injEq,Addr.mk.injEq,and_true] at hbo;obtain ⟨rfl,rfl⟩:=hbo;have hlz:l=zs (raL f.blocks f.blocks.length b):=(qX _ hl.out).1;subst hlz;obtain ⟨A2,c2,hcA,hslA⟩:=hcs;have hcA:wo.cell? ⟨R,b,none⟩=some (.slice A2 (raL f.blocks f.blocks.length b).length c2):=by rw [Nat.mul_one,Nat.zero_add,qP] at hcA;exact hcA
      have hrl:=raL_len f.blocks f.blocks.length b;clear hw hslA hl
      have HCA:Hid (∀ w',FrX (fun y=>y=G∨y=G+1) w6 w'→w'.cell? ⟨R,b,none⟩=some (.slice A2 (raL f.blocks f.blocks.length b).length c2)):=Lib.hid (fun w' hf=>by
        (have h1:=hf.block R (by have:=HRL.out;omega) (by have:=HRL.out;omega));have h2:=HW.out.2.2.2.block R (by have:=HRL.out;omega) (by have:=HRL.out;omega)
        exact (World.cell?_of_block (a:=⟨R,b,none⟩) (h1.trans h2.symm)).trans hcA)
      (go_upto_region 8 with fail);clear hcA
      go_loopw [28] (fun s28 wq=>∃ (j:Nat) (V:Nat→Value) (la:Nat→Nat),j≤(raL f.blocks f.blocks.length b).length∧s28=.int .i64 (j:Int)∧FrW w6 wq G (G+1) w6.heap.size f.blocks.length b V la f.blocks (mkJ f.blocks b j)) (fun s28 _=>(raL f.blocks f.blocks.length b).length - (intOf s28).toNat)
      case atStart=>exact ⟨0,V,la,Nat.zero_le _,rfl,HW.out⟩
      case round =>
        obtain ⟨j,V2,la2,hj,rfl,hw⟩:=hrel;have HWJ:=Lib.hid hw
        by_cases hjl:j<(raL f.blocks f.blocks.length b).length
        · (obtain ⟨bg,og,l,hbo,hl,hcs⟩:=(HRR.out wr hw.2.2.2).at_ (k:=b) (by simp;exact hbn));simp only [Option.some.injEq,Addr.mk.injEq,and_true] at hbo;obtain ⟨rfl,rfl⟩:=hbo;have hlz:l=zs (raL f.blocks f.blocks.length b):=(qX _ hl.out).1;subst hlz;obtain ⟨A3,c3,hcA3,hslA⟩:=hcs;have hcA4:=HCA.out wr hw.2.2.2;rw [Nat.mul_one,Nat.zero_add,qP] at hcA3;rw [hcA3] at hcA4
          simp only [Option.some.injEq,Value.slice.injEq] at hcA4;obtain ⟨rfl,-,rfl⟩:=hcA4;(obtain ⟨bt,ot,x,rfl,hx,hxc,-⟩:=hslA.int (k:=j) (by rw [qP];exact hjl));obtain ⟨c,hc,rfl⟩:=zs_at hx.out;obtain ⟨hcn,hrc,hbc⟩:=raL_lt (List.mem_of_getElem? hc);have HCC:=Lib.hid hc;have HAT:=Lib.hid (AtY.start HNB.out hbn hcn hrc hbc);have HW3:=Lib.hid (hw.congr (M':=mkY f.blocks b j c (c:Int)) fun a _=>(mkY_start a).symm);have hj0:(0:Int)≤j:=by omega
          (have hj1:(j:Int)<(raL f.blocks f.blocks.length b).length:=by omega);clear hw hx hc hl hcA3 hslA hrc hbc;(go_upto_region 10 with fail);clear hxc;go_loopg [9] (ord c+1) (fun gk s9 wq=>∃ (y:Int) (V:Nat→Value) (la:Nat→Nat),s9=.int .i64 y∧AtY f.blocks b c y∧(∀ q:Nat,y=(q:Int)→gk=ord q+1)∧FrW w6 wq G (G+1) w6.heap.size f.blocks.length b V la f.blocks (mkY f.blocks b j c y))
          case atStart=>exact ⟨(c:Int),V2,la2,rfl,HAT.out,fun q h=>by rw [show c=q by omega],HW3.out⟩
          case round =>
            obtain ⟨y,V3,la3,rfl,hat,hgk,hw⟩:=hrel;have HWY:=Lib.hid hw;have xn:=(HNR6.out.of_block (hw.2.2.2.block H HNR6.out.lt (by have:=HGW.out;omega))).cell hbn
            by_cases hyn:y=nearD f.blocks b
            · (have hb1:(y != nearD f.blocks b)=false:=by simp [hyn]);(have HWN:=Lib.hid (hw.congr (M':=mkJ f.blocks b (j+1)) fun a _=>by rw [hyn];exact mkY_end HCC.out a));have HYN:=Lib.hid hyn;clear hw hat hgk hyn;go_wp2_with fail
              go_roundw
              case rel=>exact ⟨j+1,V3,la3,by omega,by go_num,HWN.out⟩
              case measure=>simp [intOf];omega
            · (have hb1:(y != nearD f.blocks b)=true:=by simpa using hyn);rcases hat with h1 | ⟨q,hq,rfl,-,hdq,hp⟩
              · exact absurd h1 hyn
              · have xl:=hw.2.1.cell hq;(have hq0:(0:Int)≤q:=by omega);(have hq1:(q:Int)<f.blocks.length:=by omega);have hlo:=hw.2.2.1 q hq
                by_cases hl:la3 q=b+1
                · (have hb2:(((la3 q:Nat):Int) != (b:Int)+1)=false:=by simp;omega);have HWN:=Lib.hid (hw.congr (M':=mkJ f.blocks b (j+1)) fun a ha=>mk_stop HNB.out HCC.out hbn hq hdq hp (hlo.2.1 hl) ha);clear hw hgk hyn hlo hl;go_wp2_with fail
                  go_roundw
                  case rel=>exact ⟨j+1,V3,la3,by omega,by go_num,HWN.out⟩
                  case measure=>simp [intOf];omega
                · (have hb2:(((la3 q:Nat):Int) != (b:Int)+1)=true:=by simp;omega);(have HMQ:Hid (mkY f.blocks b j c q q=false):=Lib.hid (by cases hm:mkY f.blocks b j c q q;rfl;exact absurd (hlo.2.2 hm) hl));have HST:=Lib.hid (AtY.step HNB.out hcn hq hdq hyn hp);have HGK:Hid (gk=ord q+1):=Lib.hid (hgk q rfl);have xlf:=hw.2.1.frozen q;have HDQ:=Lib.hid hdq;have hGN:=HGW.out;have hLset:=hw.2.1.set q (.int .i64 ((b:Int)+1));have hGset:=hw.1.setOther (a:=⟨G+1,q,none⟩) (by show G≠G+1;omega) (by show G+1<w6.heap.size;omega) (.int .i64 ((b:Int)+1))
                  have hFset:=hw.2.2.2.setCell (p:=⟨G+1,q,none⟩) (.inl (.inr rfl)) (.int .i64 ((b:Int)+1));have xn1:=(HNR6.out.of_block (hFset.block H HNR6.out.lt (by omega))).cell hq;have HLO:=Lib.hid hw.2.2.1;clear hw hgk hyn hlo hl hp hdq;(go_upto_region 12 with fail);clear xl xlf xn hb1 hb2;generalize wr.setCell ⟨G+1,q,none⟩ (.int .i64 ((b:Int)+1))=w7 at *;have hrow:=hGset.row.cell hq;have hrowf:=hGset.row.frozen q
                  have HOW:=Lib.hid (hGset.own q hq);have HGS:=Lib.hid hGset;have HLS:=Lib.hid hLset;have HFS:=Lib.hid hFset;have hll:(zs (frM f.blocks b (mkY f.blocks b j c q) q)).length≤2000:=by
                    (rw [qP];unfold frM);have:=frL_len f.blocks b q;rw [List.length_append]
                    split <;> simp <;> omega
                  have hz6:=hFset.size;clear hGset hLset hFset;go_wp2_with (at_builtin;refine wpList_append_lies _ rfl (.tmp 57) (.tmp 59) 28 rfl w6.heap.size 3 i0 (.int .i64 0) 1 8 Try.underlying28 HI.out.1 HI.out.2.1 HI.out.2.2.1 HI.out.2.2.2 rfl (by decide) (V3 q) _ _ rfl (HOW.out.alloc _) ⟨w7.heap.size,0,none⟩ 1 1 [.int .i64 (b:Int)] rfl rfl ?e1 ?e2 ?e0 ?e3 ?e4 ?e5 (w7.heap.size+1) ?e6 ?_)
                  case e1=>exact qR w7 _ _ rfl
                  case e2=>exact ints_oneCell .i64 [(b:Int)]
                  case e0=>omega
                  case e3=>unfold maxLen;omega
                  case e4=>omega
                  case e5=>simp;omega
                  case e6=>simp
                  intro g cap w8 hown8 hgrow8 hloc8 hlt8;have hgp:=Gri.push (HGS.out.alloc _) hq hown8 hgrow8 (by simpa using hloc8);(have hbk:∀ y,y<w6.heap.size→w8.heap[y]?=w7.heap[y]?:=fun y hy=>(hgrow8.block y (by simp;omega) (fun e=>by have:=(HOW.out.lt y e.symm).1;omega)).trans (Below.heap_alloc _ _ _ (by omega)));have hrow8:w8.cell? ⟨G,q,none⟩=some (V3 q):=(World.cell?_of_block (a:=⟨G,q,none⟩) (hbk G (by omega))).trans hrow;have hfr8:w8.frozen? ⟨G,q,none⟩=false:=(World.frozen?_of_block (a:=⟨G,q,none⟩) (hbk G (by omega))).trans hrowf;have xn2:w8.cell? ⟨H,q,none⟩=some (.int .i64 (nearD f.blocks q)):=(World.cell?_of_block (a:=⟨H,q,none⟩) (hbk H (by omega))).trans xn1;(have hne:H≠G:=by omega);have hfx:FrX (fun y=>y=G∨y=G+1) w6 (w8.setCell ⟨G,q,none⟩ (.slice (some ⟨g,0,none⟩) ((zs (frM f.blocks b (mkY f.blocks b j c q) q)).length+1) cap)):=((HFS.out.alloc _).grown hgrow8 (fun y hy=>.inr (HOW.out.lt y hy).1)).setCell (.inl (.inl rfl)) _;have hla:=((HLS.out.of_block (hbk (G+1) (by omega))).setOther (a:=⟨G,q,none⟩) (by show G+1≠G;omega) (.slice (some ⟨g,0,none⟩) ((zs (frM f.blocks b (mkY f.blocks b j c q) q)).length+1) cap)).congr (g:=fun a=>.int .i64 ((updF la3 q (b+1) a:Nat):Int)) fun a _=>by unfold updF;by_cases e:a=q <;> simp [e]
                  have HWN:Hid (FrW w6 (w8.setCell ⟨G,q,none⟩ (.slice (some ⟨g,0,none⟩) ((zs (frM f.blocks b (mkY f.blocks b j c q) q)).length+1) cap)) G (G+1) w6.heap.size f.blocks.length b _ (updF la3 q (b+1)) f.blocks (mkY f.blocks b j c (nearD f.blocks q))):=Lib.hid ⟨hgp.congr fun a ha=>by
                      show (if a=q then zs (frM f.blocks b (mkY f.blocks b j c q) q)++[(b:Int)] else zs (frM f.blocks b (mkY f.blocks b j c q) a))=_
                      exact frM_next HNB.out HMQ.out ha hcn hq HDQ.out,hla,HLO.out.set.congr fun a ha=>mkY_step HNB.out ha hcn hq HDQ.out,hfx⟩
                  clear hgp hown8 hgrow8 hloc8 hrow hrowf xn1 hla hfx hbk;(go_wp2_with fail);rcases HST.out.2 with hz | ⟨r,hr,hre,hlt⟩
                  · go_roundg 0
                    case measure=>have:=HGK.out;omega
                    case rel=>exact ⟨nearD f.blocks q,_,_,rfl,HST.out.1,fun r h=>by rw [hz] at h;omega,HWN.out⟩
                  · go_roundg (ord r+1)
                    case measure=>have:=HGK.out;omega
                    case rel=>exact ⟨nearD f.blocks q,_,_,rfl,HST.out.1,fun r' h=>by rw [show r=r' by omega],HWN.out⟩
        · have HWN:Hid (FrW w6 wr G (G+1) w6.heap.size f.blocks.length (b+1) V2 la2 f.blocks (mkJ f.blocks (b+1) 0)):=Lib.hid ⟨hw.1.congr fun a _=>by rw [frM_all f.blocks (by omega) a,← frM_start],hw.2.1,hw.2.2.1.next,hw.2.2.2⟩;clear hw;go_wp2_with fail
          go_roundw
          case rel=>exact ⟨b+1,V2,la2,by omega,by go_num,HWN.out⟩
          case measure=>simp [intOf];omega
    · (have hbb:b=f.blocks.length:=by omega);subst hbb;have HRES:=Lib.hid (hw.1.congr (L':=fun a=>zs (frL f.blocks f.blocks.length a)) fun a _=>by rw [frM_start]);(have HBF:Hid (Below w.heap.size w wo):=Lib.hid (HB6.out.trans (hw.2.2.2.below HB6.out.size (fun y hy=>by have:=HGW.out;omega))));clear hw;(go_wp2_with fail);(go_ret);exact ⟨⟨G,_,V,rfl,HGW.out.1,HB6.out.size,HRES.out,ord,HNB.out⟩,HBF.out⟩
end Go.Proofs.Ytfoggldjjnabcaa
