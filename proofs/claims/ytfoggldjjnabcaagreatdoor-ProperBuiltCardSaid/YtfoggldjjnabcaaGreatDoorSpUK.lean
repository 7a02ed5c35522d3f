/- The program's phisOf: of each block the registers that it has phis of. -/
import Derived.Test.YtfoggldjjnabcaaGreatDoorModAK
import Derived.Test.YtfoggldjjnabcaaGreatDoorDmUK
import Derived.Test.YtfoggldjjnabcaaGreatDoorLvGK
import Derived.Test.YtfoggldjjnabcaaGreatDoorSsVK
import Derived.Test.YtfoggldjjnabcaaGreatDoorPrTK
import Derived.Test.YtfoggldjjnabcaaGreatDoorSpMK
import Derived.Test.YtfoggldjjnabcaaGreatDoorSsIK
set_option linter.unusedVariables false
set_option linter.unusedSimpArgs false
namespace Go.Proofs.YtfoggldjjnabcaaGreatDoor
open Go.ChangeShapes Go.WideShapes Go.RowKit Go.Deep
def clP (bs:List qE) (r:Nat):Nat->Bool:=clC (frL bs bs.length) (λ x=>decide (x∈mqL bs bs.length r)) bs.length
def phK (bs:List qE) (W:Nat->Nat->Bool) (b j:Nat):List Nat:=(List.range j).filter λ r=>W b r && clP bs r b
theorem q3O (bs:List qE) (W:Nat->Nat->Bool) (b j:Nat):phK bs W b (j+1)=phK bs W b j++(if (W b j && clP bs j b)=true then [j] else []):=by
 unfold phK;rw [List.range_succ,List.filter_append];cases h:(W b j && clP bs j b) <;> simp [h]
theorem q5k (bs:List qE) (W:Nat->Nat->Bool) (b j:Nat):(phK bs W b j).length<=j:=by
 unfold phK;have:=List.length_filter_le (λ r=>W b r && clP bs r b) (List.range j);simpa using this
theorem q58 {bs:List qE} (a:Nat):∀ x∈frL bs bs.length a,x<bs.length:=λ x hx=>by
 unfold frL at hx;rw [List.mem_filter,List.mem_range] at hx;exact hx.1
def phR (bs:List qE) (W:Nat->Nat->Bool) (r j b:Nat):List Int:=zs (if b<j then phK bs W b (r+1) else phK bs W b r)
theorem q7z (bs:List qE) (W:Nat->Nat->Bool) (r b:Nat):phR bs W r 0 b=zs (phK bs W b r):=by unfold phR;rw [if_neg (by omega)]
theorem q9c (bs:List qE) (W:Nat->Nat->Bool) (r:Nat) {j b:Nat} (h:b<j):phR bs W r j b=zs (phK bs W b (r+1)):=by unfold phR;rw [if_pos h]
theorem q80 {bs:List qE} {W:Nat->Nat->Bool} {r j:Nat} (h:(W j r && clP bs r j)=false) (b:Nat):phR bs W r j b=phR bs W r (j+1) b:=by
 unfold phR
 by_cases e:b=j
 ·subst e;rw [if_neg (by omega),if_pos (by omega),q3O,h];simp
 ·by_cases h1:b<j
  ·rw [if_pos h1,if_pos (by omega)]
  ·rw [if_neg h1,if_neg (by omega)]
theorem q9a {bs:List qE} {W:Nat->Nat->Bool} {r j:Nat} (h:(W j r && clP bs r j)=true) (b:Nat):(if b=j then phR bs W r j j++[(r:Int)] else phR bs W r j b)=phR bs W r (j+1) b:=by
 unfold phR
 by_cases e:b=j
 ·subst e;rw [if_pos rfl,if_neg (by omega),if_pos (show b<b+1 by omega),q3O,if_pos h,yG]
 ·rw [if_neg e]
  by_cases h1:b<j
  ·rw [if_pos h1,if_pos (show b<j+1 by omega)]
  ·rw [if_neg h1,if_neg (show ¬ b<j+1 by omega)]
theorem q9b (bs:List qE) (W:Nat->Nat->Bool) (r j b:Nat):(phR bs W r j b).length<=r+1:=by
 unfold phR;rw [qg]
 split
 ·exact q5k _ _ _ _
 ·have:=q5k bs W b r;omega
def qBC (bs:List qE) (R:Nat) (W:Nat->Nat->Bool) (w:World) (e:Ending) (w':World):Prop :=
 (∃ G K V,e=.returned (.slice (some ⟨G,0,none⟩) bs.length bs.length)/\w.heap.size<=G/\Gri w' G K bs.length V (λ b=>zs (phK bs W b R)))/\Below w.heap.size w w'
set_option maxRecDepth 100000 in
set_option maxHeartbeats 16000000 in
theorem q3N (f:qB) (v:Value) (w:World) (G3:Nat) (M:Nat->Nat->Bool) (hv:VFun w v f) (hM:BG1 w G3 f.blocks.length f.regs.length M) (hn:f.blocks.length<=500) (hR:f.regs.length<=1000) (hl:∀ b∈f.blocks,b.ins.length<=1000/\∀ x∈b.ins,x.dst<f.regs.length) (h0:0<f.blocks.length) :
  Calls Tryz.prog 23 #[v,.slice (some ⟨G3,0,none⟩) f.blocks.length f.blocks.length] w (qBC f.blocks f.regs.length M w):=by
 have tG:=hv;obtain ⟨i0,hi,tE,tD,tC⟩:=info_parts Tryz.info3;have HI:=Jj (And.intro hi (And.intro tE (And.intro tD tC)));clear hi tE tD tC;obtain ⟨Ar,cr,A,c,rfl,-,-,-,-⟩:=hv;have HV:=Jj tG;have HM:=Jj hM;have HL:=Jj hl;clear tG hM hl
 have tT:=run_make_row' (P:=Tryz.prog) 65 27 (.slice none 0 0) 24 Tryz.underlying65 Tryz.info27 rfl .i64 .i64 f.blocks.length (by omega) (by omega);(go_enter Tryz.func23,Tryz.ntmps23);(go_upto_region 1 with fail);obtain ⟨w1,tF,tH,tV,wu,wU,-⟩:=named w #[.int .i64 f.params,.int .i64 f.result,.slice Ar f.regs.length cr,.slice A f.blocks.length c] 30;rw [<- tF];have c0:w1.cell? ⟨w.heap.size,0,none⟩=some (.int .i64 f.params):=wU 0 _ rfl;have c1:w1.cell? ⟨w.heap.size,1,none⟩=some (.int .i64 f.result):=wU 1 _ rfl;have c2:w1.cell? ⟨w.heap.size,2,none⟩=some (.slice Ar f.regs.length cr):=wU 2 _ rfl;have c3:w1.cell? ⟨w.heap.size,3,none⟩=some (.slice A f.blocks.length c):=wU 3 _ rfl
 have tB:=Jj wu;have HS1:=Jj tH;obtain ⟨N,hN⟩:∃ N,N=w.heap.size:=⟨_,rfl⟩;have HNN:=Jj hN;rw [<- hN] at c0 c1 c2 c3 ⊢;clear tF tH wu wU tV hN;(go_upto_region 2 with fail);clear tT;obtain ⟨G,hG⟩:∃ G,G=w1.heap.size:=⟨_,rfl⟩
 obtain ⟨w2,wR⟩:∃ w2,w2=w1.alloc (.cells (madeCells #[.slice none 0 0] f.blocks.length) 27):=⟨_,rfl⟩;(have wO:Below w1.heap.size w1 w2:=by rw [wR];exact (J5 _ _).alloc (J4 _) _);(have sb:Hid (w2.rowIs G 27 f.blocks.length (λ _=>.slice none 0 0)):=Jj (by rw [wR,hG];exact World.rowIs_made w1 _ _ _));(have ta:Hid (G=w1.heap.size/\w2.heap.size=G+1):=Jj ⟨hG,by rw [wR,hG];simp⟩);have c0:=q7 wO _ _ c0;have c1:=q7 wO _ _ c1;have c2:=q7 wO _ _ c2;have c3:=q7 wO _ _ c3;have tz:Hid (Below w.heap.size w w2):=Jj (tB.out.trans (wO.mono tB.out.size))
 rw [<- wR,<- hG];clear wR hG wO;(go_wp2_with fail);refine (q2k f _ w2 (VFun.keep (q7 tz.out) HV.out) (by omega)).mono ?_;rintro e w3 ⟨⟨Gf,Kf,Vf,rfl,hGf,hKf,wT,-⟩,wv⟩;have c0:=q7 wv _ _ c0;have c1:=q7 wv _ _ c1;have c2:=q7 wv _ _ c2;have c3:=q7 wv _ _ c3
 (have tw:=Jj (sb.out.of_block (wv.block G (by rw [ta.out.2];omega))));have sh:=Jj wT;(have tP:Hid (G<Gf/\G<Kf):=Jj (by have:=ta.out.2;omega));have tx:Hid (Below w.heap.size w w3):=Jj (tz.out.trans (wv.mono tz.out.size));(have tq:Hid (G<w3.heap.size):=Jj (by have:=wv.size;have:=ta.out.2;omega));clear wv wT hGf hKf;(go_wp2_with fail);refine (q2e f _ w3 (VFun.keep (q7 tx.out) HV.out) (by omega) hR HL.out).mono ?_;rintro e w5 ⟨⟨Gm,Km,Vm,rfl,hGm,wJ⟩,wV⟩
 have tu:=Jj (tw.out.of_block (wV.block G tq.out));have wX:=Jj (sh.out.below wV);have wW:=Jj wJ;(have tN:Hid (G<Gm/\G<Km):=Jj (by have:=tq.out;have:=wJ.lt;omega));have tc:Hid (Below w.heap.size w w5):=Jj (tx.out.trans (wV.mono tx.out.size));(have wQ:Hid (G<w5.heap.size/\w.heap.size<=G):=Jj (by have:=wV.size;have:=tq.out;have:=ta.out.1;have:=tB.out.size;omega));clear wV wJ hGm c0 c1 c2 c3;have sj:Hid (Gri w5 G w5.heap.size f.blocks.length (λ _=>.slice none 0 0) (λ b=>zs (phK f.blocks M b 0))):=Jj ⟨tu.out,λ i _=>World.ownsRow_nil _ _ _ _,λ i j _ _ _=>.inl rfl,wQ.out.1⟩;go_wp2_with fail
 go_loopw [20] (λ s20 wq=>∃ (r:Nat) (V:Nat->Value),r<=f.regs.length/\s20=.int .i64 (r:Int)/\Gri wq G w5.heap.size f.blocks.length V (λ b=>zs (phK f.blocks M b r))/\BB w5.heap.size G w5 wq) (λ s20 _=>f.regs.length - (intOf s20).toNat)
 case atStart=>exact ⟨0,_,Nat.zero_le _,rfl,sj.out,BB.refl _ _ _⟩
 case round =>
  obtain ⟨r,V,hr,rfl,hg,hb⟩:=hrel;have HG:=Jj hg;have HB:=Jj hb;have wY:Hid (Below w.heap.size w wr):=Jj (tc.out.trans (hb.below tc.out.size wQ.out.2))
  by_cases hrR:r<f.regs.length
  ·(have hr0:(0:Int)<=r:=by omega);(have hr1:(r:Int)<f.regs.length:=by omega);(have wJ:Gri wr Gm Km f.regs.length Vm (λ r=>zs (mqL f.blocks f.blocks.length r)):=wW.out.of_blocks (hb.block Gm wW.out.row.lt (by have:=tN.out;omega)) (λ g h1 h2=>hb.block g h2 (by have:=tN.out;omega)));(have wT:Gri wr Gf Kf f.blocks.length Vf (λ a=>zs (frL f.blocks f.blocks.length a)):=wX.out.of_blocks (hb.block Gf wX.out.row.lt (by have:=tP.out;omega)) (λ g h1 h2=>hb.block g h2 (by have:=tP.out;omega)));have tU:=wJ.row.cell hrR;have tS:(mqL f.blocks f.blocks.length r).length<=1000000:=by have:=q5p (bs:=f.blocks) (λ b hb=>(HL.out b hb).1) r f.blocks.length;omega
   have tJ:VS wr 1 RInt (Vm r) (zs (mqL f.blocks f.blocks.length r)):=ql (wJ.own r hrR) (λ y hy=>by
    obtain ⟨x,hx,rfl⟩:=y4 hy;have hxn:x<f.blocks.length:=by
     rcases mqL_mem.1 hx with h | h
     ·omega
     ·exact h.1
    unfold I64;omega)
   have tK:=wT.reads (by omega) (λ i _ x hx=>by obtain ⟨y,hy,rfl⟩:=y4 hx;have:=q58 i y hy;unfold I64;omega)
   have tL:=q5G f.blocks.length (frL f.blocks f.blocks.length) (mqL f.blocks f.blocks.length r) _ _ _ wr tK tJ (by omega) tS q58 (λ x hx=>by
    rcases mqL_mem.1 hx with h | h
    ·omega
    ·exact h.1)
   have tQ:=Jj tL
   have HMR:=Jj (BG1.of_blocks HM.out (w':=wr) (λ y h1 h2=>wY.out.block y (by
    by_cases e:y=G3
    ·subst e;exact HM.out.row.lt
    ·obtain ⟨q,rfl⟩:∃ q,y=G3+1+q:=⟨y - (G3+1),by omega⟩
     by_cases hq:q<f.blocks.length
     ·exact (HM.out.cells q hq).lt
     ·have:=(HM.out.cells (f.blocks.length - 1) (by omega)).lt;omega)))
   clear hg hb wJ wT tJ tK tL;(go_wp2_with fail);refine tQ.out.mono ?_;rintro e w7 ⟨⟨Q,rfl,hQ,hq⟩,tm⟩;have si:Hid (Gri w7 G w5.heap.size f.blocks.length V (phR f.blocks M r 0)):=Jj ((HG.out.below tm).congr λ b _=>by rw [q7z]);have sm:Hid (BB w5.heap.size G w5 w7):=Jj (HB.out.trans (BB.of_below tm HB.out.size));have tZ:Hid (w7.rowIs Q 4 f.blocks.length (λ x=>.bool (clP f.blocks r x))):=Jj hq;(have wM:Hid (∀ b,b<f.blocks.length->(V b).ownBlock≠some Q):=Jj (λ b hb e=>by have:=((HG.out.own b hb).lt Q e).2;omega));have tX:Hid (w5.heap.size<=Q):=Jj (by have:=HB.out.size;omega)
   clear hQ hq tm tQ tU;go_wp2_with fail
   go_loopw [29] (λ s29 wq=>∃ (j:Nat) (V:Nat->Value),j<=f.blocks.length/\s29=.int .i64 (j:Int)/\Gri wq G w5.heap.size f.blocks.length V (phR f.blocks M r j)/\BB w5.heap.size G w5 wq/\wq.rowIs Q 4 f.blocks.length (λ x=>.bool (clP f.blocks r x))/\∀ b,b<f.blocks.length->(V b).ownBlock≠some Q) (λ s29 _=>f.blocks.length - (intOf s29).toNat)
   case atStart=>exact ⟨0,V,Nat.zero_le _,rfl,si.out,sm.out,tZ.out,wM.out⟩
   case round =>
    obtain ⟨j,V,hj,rfl,hg,hb,hq,td⟩:=hrel;have HG:=Jj hg;have HB:=Jj hb;have HQ:=Jj hq;have wM:=Jj td
    by_cases wl:j<f.blocks.length
    ·(have hj0:(0:Int)<=j:=by omega);(have hj1:(j:Int)<f.blocks.length:=by omega);have dq:=hq.cell wl;have wY:Hid (Below w.heap.size w wr):=Jj (tc.out.trans (hb.below tc.out.size wQ.out.2));have dm1:=(wY.out.cell (p:=⟨G3,j,none⟩) HM.out.row.lt).trans (HM.out.row.cell wl);have dm2:=(wY.out.cell (p:=⟨G3+1+j,r,none⟩) (HM.out.cells j wl).lt).trans ((HM.out.cells j wl).cell hrR);have ww:=hg.row.cell wl;have wh:=hg.own j wl;obtain ⟨Av,cv,hVj⟩:=qX wh
     have th:=q9b f.blocks M r j j;obtain ⟨lq,tg⟩:∃ lq,(phR f.blocks M r j j).length=lq:=⟨_,rfl⟩;have tO:=Jj tg;rw [tg] at wh hVj th;rw [hVj] at ww wh;have tM:=Jj wh;have wZ:=Jj hVj;have tW:=hg.row.lt;clear hg hb hq td wh tg hVj
     cases hc:clP f.blocks r j
     ·rw [hc] at dq;have tr:Hid ((M j r && clP f.blocks r j)=false):=Jj (by rw [hc,Bool.and_false]);clear hc;go_wp2_with fail
      go_roundw
      case rel=>exact ⟨j+1,V,by omega,by go_num,HG.out.congr λ b _=>q80 tr.out b,HB.out,HQ.out,wM.out⟩
      case measure=>simp [intOf];omega
     ·rw [hc] at dq;cases hm:M j r
      ·rw [hm] at dm2;have tr:Hid ((M j r && clP f.blocks r j)=false):=Jj (by rw [hm,Bool.false_and]);clear hc hm;go_wp2_with fail
       go_roundw
       case rel=>exact ⟨j+1,V,by omega,by go_num,HG.out.congr λ b _=>q80 tr.out b,HB.out,HQ.out,wM.out⟩
       case measure=>simp [intOf];omega
      ·rw [hm] at dm2;(have tp:Hid ((M j r && clP f.blocks r j)=true):=Jj (by rw [hm,hc];rfl));clear hc hm;go_wp2_with (at_builtin;refine wpList_append_lies _ rfl (.tmp 49) (.tmp 51) 27 rfl w5.heap.size 3 i0 (.int .i64 0) 1 8 Tryz.underlying27 HI.out.1 HI.out.2.1 HI.out.2.2.1 HI.out.2.2.2 rfl (by decide) _ _ _ rfl (tM.out.alloc _) ⟨wr.heap.size,0,none⟩ 1 1 [.int .i64 (r:Int)] rfl rfl ?c1 ?c2 (by decide) ?c3 ?c4 ?c5 (wr.heap.size+1) ?c6 ?_)
       case c1=>exact qm wr _ _ rfl
       case c2=>exact ints_oneCell .i64 [(r:Int)]
       case c3=>unfold maxLen;omega
       case c4=>omega
       case c5=>have:=HB.out.size;simp;omega
       case c6=>simp
       intro g cap w8 wm wg wk tf;(have wj:w8.ownsRow w5.heap.size 3 1 (.slice (some ⟨g,0,none⟩) ((phR f.blocks M r j j).length+1) cap) ((phR f.blocks M r j j).length+1) ((phR f.blocks M r j j).map (Value.int .i64)++[.int .i64 (r:Int)]):=by rw [tO.out];exact wm);(have tj:=(Gri.push (HG.out.alloc _) wl wj (by rw [wZ.out];exact wg) (by rw [wZ.out];simpa using wk)).congr (L':=phR f.blocks M r (j+1)) (λ b _=>q9a tp.out b));rw [tO.out] at tj;have hown_ne:∀ k,(Value.slice Av lq cv).ownBlock=some k->w5.heap.size<=k:=λ k hk=>(tM.out.lt k hk).1;(have hG8:w8.heap[G]?=wr.heap[G]?:=(wg.block _ (by simp;omega) (λ e=>by have:=hown_ne G e.symm;have:=wQ.out.1;omega)).trans (Below.heap_alloc _ _ _ tW));have hrow8:=(JK (a:=⟨G,j,none⟩) hG8).trans ww;have hfr8:=(World.frozen?_of_block (a:=⟨G,j,none⟩) hG8).trans (HG.out.row.frozen j);have hQl:=HQ.out.lt
       (have hQ8:w8.heap[Q]?=wr.heap[Q]?:=(wg.block _ (by simp;omega) (λ e=>wM.out j wl (by rw [wZ.out];exact e.symm))).trans (Below.heap_alloc _ _ _ hQl));(have sk:Hid (BB w5.heap.size G w5 w8):=Jj ((HB.out.alloc HB.out.size _).grown wg (by have:=HB.out.size;simp;omega) (λ k hk=>.inr (hown_ne k hk))));have tY:Hid ((w8.setCell ⟨G,j,none⟩ (.slice (some ⟨g,0,none⟩) (lq+1) cap)).rowIs Q 4 f.blocks.length (λ x=>.bool (clP f.blocks r x))):=Jj (HQ.out.of_block ((JQ _ _ _ _ (by show Q≠G;have:=tX.out;have:=wQ.out.1;omega)).trans hQ8))
       have sc:Hid (g≠Q):=Jj (λ e=>by
        subst e;rcases wk with e | e
        ·exact wM.out j wl (by rw [wZ.out];exact e)
        ·first | omega | (simp at e;omega))
       have sd:=Jj tj;clear tj wj wm wg wk tf hG8 hQ8 hown_ne ww;go_wp2_with fail
       go_roundw
       case rel =>
        refine ⟨j+1,_,by omega,by go_num,sd.out,sk.out.setCell (.inl rfl) _,tY.out,λ b hb=>?_⟩
        by_cases e:b=j
        ·intro e2;have e3:(if b=j then Value.slice (some ⟨g,0,none⟩) (lq+1) cap else V b).ownBlock=some Q:=e2;rw [if_pos e] at e3;exact sc.out (J3 e3)
        ·intro e2;have e3:(if b=j then Value.slice (some ⟨g,0,none⟩) (lq+1) cap else V b).ownBlock=some Q:=e2;rw [if_neg e] at e3;exact wM.out b hb e3
       case measure=>simp [intOf];omega
    ·have sf:=Jj (hg.congr (L':=λ b=>zs (phK f.blocks M b (r+1))) (λ b hb=>q9c f.blocks M r (by omega)));clear hg hb hq td;go_wp2_with fail
     go_roundw
     case rel=>exact ⟨r+1,V,by omega,by go_num,sf.out,HB.out⟩
     case measure=>simp [intOf];omega
  ·(have tR:r=f.regs.length:=by omega);subst tR;clear hg hb;(go_wp2_with fail);(go_ret);exact ⟨⟨G,w5.heap.size,V,rfl,wQ.out.2,HG.out⟩,wY.out⟩
variable {m:List qB} {P:SsP} {D:Nat->Nat->Prop} {ord:Nat->Nat}
theorem SsOk.ask_arg (h:SsOk m P D ord) {b i r:Nat} {k:qE} {x:qN} (hb:P.f.blocks[b]?=some k) (hx:k.ins[i]?=some x) (hr:r<P.f.regs.length) (ha:(r:Int)∈x.args):VerZ P r b i (vr P r b i) :=
 h.vrZ hr hb (Nat.le_of_lt (Jk hx).1) ((j2 hb hx).2 (.inl ha))
theorem SsOk.ask_term (h:SsOk m P D ord) {b r:Nat} {k:qE} (hb:P.f.blocks[b]?=some k) (hr:r<P.f.regs.length) (ha:k.term.arg=(r:Int)):VerZ P r b k.ins.length (vr P r b k.ins.length) :=
 h.vrZ hr hb (J4 _) ((zg hb).2 (.inl ha))
theorem SsOk.ask_phi (h:SsOk m P D ord) {b p r:Nat} {k:qE} (hk:P.f.blocks[p]?=some k) (hb:b<P.f.blocks.length) (hp:(p:Int)∈qH P.f.blocks b) (hr:r∈phL P b):VerZ P r p k.ins.length (vr P r p k.ins.length):=by
 obtain ⟨h1,h2,-⟩:=mem_phL.1 hr;exact h.vrZ h1 hk (J4 _) ((zg hk).2 (.inr (.back hb hp ((h.want b r hb h1).1 h2))))
end Go.Proofs.YtfoggldjjnabcaaGreatDoor

namespace Go.Proofs.YtfoggldjjnabcaaGreatDoor
open Go.ChangeShapes Go.WideShapes Go.RowKit Go.Deep
section
variable {bs bs':List qE} (h:bs'.map (λ b=>b.term.to)=bs.map (λ b=>b.term.to))
include h
theorem yn:bs'.length=bs.length:=by have:=congrArg List.length h;simpa using this
theorem q0N:nxF bs'=nxF bs:=by
 (funext a);(have h1:(bs'[a]?).map (λ b=>b.term.to)=(bs[a]?).map (λ b=>b.term.to):=by rw [<- List.getElem?_map,<- List.getElem?_map,h]);unfold nxF;rw [yn h];cases h2:bs'[a]? with
 | none =>
  rw [h2] at h1;cases h3:bs[a]? with
  | none=>rfl
  | some b=>rw [h3] at h1;cases h1
 | some b' =>
  rw [h2] at h1;cases h3:bs[a]? with
  | none=>rw [h3] at h1;cases h1
  | some b=>rw [h3] at h1;simp only [Option.map_some,J0] at h1;show zH _ b'.term.to=zH _ b.term.to;rw [h1]
theorem q51 (x:Nat):qI bs' x=qI bs x:=by unfold qI;rw [q0N h,yn h]
theorem q52:qV bs'=qV bs:=by unfold qV;rw [q0N h,yn h]
theorem q6t:qi bs'=qi bs:=by funext b w x;unfold qi;rw [q0N h,yn h]
theorem q5s:dmB bs'=dmB bs:=by funext a b;unfold dmB;rw [q6t h]
theorem q3i:vv bs'=vv bs:=by funext b a;unfold vv;rw [q5s h,yn h]
theorem q0n (b:Nat):∀ k,kI bs' b k=kI bs b k
 | 0=>rfl
 | k+1=>by unfold kI;rw [q3i h,q0n b k]
theorem q1r:qZ bs'=qZ bs:=by funext b;unfold qZ;rw [q0n h,yn h]
theorem q9w:raL bs'=raL bs:=by funext k b;unfold raL;rw [q0N h];congr 1;funext c;rw [q51 h]
theorem q9v:upB bs'=upB bs:=by funext b y a;unfold upB;rw [q5s h]
theorem q9x:frL bs'=frL bs:=by
 (funext m a);unfold frL;(congr 1);(funext b);unfold frB;rw [q9w h,q9v h,q1r h,yn h]
end
theorem xD:∀ {bs bs':List qE},bs'.map (λ b=>b.term.to)=bs.map (λ b=>b.term.to)->∀ i z,zS bs' i z=zS bs i z
 | [],[],_,_,_=>rfl
 | [],_::_,h,_,_=>by cases h
 | _::_,[],h,_,_=>by cases h
 | b::r,b'::r',h,i,z=>by
  simp only [List.map_cons,List.cons.injEq] at h;unfold zS;rw [h.1,xD h.2]
theorem ClG.imp {fr fr':Nat->List Nat} {mk mk':Nat->Bool} {n x:Nat} (hf:∀ a,a<n->∀ b∈fr a,b∈fr' a) (hm:∀ a,a<n->mk a=true->mk' a=true) (h:ClG fr mk n x):ClG fr' mk' n x:=by
 induction h with
 | of hx h1 h2=>exact .of hx (hm _ hx h1) (hf _ hx _ h2)
 | on hx _ h2 ih=>exact .on hx ih (hf _ hx _ h2)
def zF (P:SsP):qB:=⟨P.f.params,P.f.result,P.f.regs,P.f.blocks.set 0 ⟨(qP P.f 0).phis,(zrL P).map zI++(qP P.f 0).ins,(qP P.f 0).term⟩⟩
variable {P:SsP}
theorem yO:(zF P).blocks.length=P.f.blocks.length:=by unfold zF;simp
theorem q0I {b:Nat} (h:b≠0):(zF P).blocks[b]?=P.f.blocks[b]?:=by unfold zF;simp [List.getElem?_set,Ne.symm h]
theorem q2J (h:0<P.f.blocks.length):(zF P).blocks[0]?=some ⟨(qP P.f 0).phis,(zrL P).map zI++(qP P.f 0).ins,(qP P.f 0).term⟩:=by unfold zF;simp [h]
theorem q7V {b:Nat} (h:b≠0):qP (zF P) b=qP P.f b:=by unfold qP;rw [JJ,JJ,q0I h]
theorem q5c (h:0<P.f.blocks.length):qP (zF P) 0=⟨(qP P.f 0).phis,(zrL P).map zI++(qP P.f 0).ins,(qP P.f 0).term⟩:=by
 show (zF P).blocks.getD 0 default=_;rw [JJ,q2J h];rfl
def zB (P:SsP) (b:Nat):List qN:=if b=0 then (zrL P).map zI else []
def zN (P:SsP) (b:Nat):Nat:=if b=0 then (zrL P).length else 0
theorem xS (b:Nat):(zB P b).length=zN P b:=by unfold zB zN;split <;> simp
theorem ye (h:0<P.f.blocks.length) (b:Nat):qR (zF P) b=zB P b++qR P.f b:=by
 by_cases e:b=0
 ·subst e;unfold qR zB;rw [q5c h,if_pos rfl]
 ·unfold qR zB;rw [q7V e,if_neg e];rfl
theorem q5b (h:0<P.f.blocks.length) (b:Nat):(qP (zF P) b).term=(qP P.f b).term:=by
 by_cases e:b=0
 ·subst e;rw [q5c h]
 ·rw [q7V e]
theorem q4V (h:0<P.f.blocks.length):(zF P).blocks.map (λ b=>b.term.to)=P.f.blocks.map (λ b=>b.term.to):=by
 apply List.ext_getElem?;intro b;rw [List.getElem?_map,List.getElem?_map]
 by_cases e:b=0
 ·subst e;rw [q2J h];have hb:P.f.blocks[0]?=some P.f.blocks[0]:=Jq h;have:qP P.f 0=P.f.blocks[0]:=qv hb;rw [hb,this];rfl
 ·rw [q0I e]
theorem q5B (l:List Nat):dsL (l.map zI)=l:=by
 unfold dsL;rw [List.filterMap_map];have e:((λ x:qN=>if 0<=x.dst then some x.dst.toNat else none) ∘ zI)=some:=by
  (funext r);show (if (0:Int)<=(r:Int) then some ((r:Int)).toNat else none)=some r;rw [if_pos (by omega),Int.toNat_natCast]
 rw [e,List.filterMap_some]
theorem q15 (a b:List qN):dsL (a++b)=dsL a++dsL b:=by unfold dsL;rw [List.filterMap_append]
variable {m:List qB} {D:Nat->Nat->Prop} {ord:Nat->Nat}
theorem SsOk.no_first (h:SsOk m P D ord) (h0:0<P.f.blocks.length):phL P 0=[]:=by
 rw [List.eq_nil_iff_forall_not_mem];intro r hr;obtain ⟨h1,h2,h3⟩:=mem_phL.1 hr;have hc:=(h.cl r 0 h0).1 h3;cases hc with
 | of _ hf=>obtain ⟨-,p,he,-⟩:=hf;exact (h.dom.edge p 0 he).2.2 rfl
 | more _ hf=>obtain ⟨-,p,he,-⟩:=hf;exact (h.dom.edge p 0 he).2.2 rfl
theorem SsOk.flat (h:SsOk m P D ord) (h0:0<P.f.blocks.length):∀ b,(List.range (b+1)).flatMap (q3U (zF P) (phL P))=zrL P++(List.range (b+1)).flatMap (jn P)
 | 0=>by
  rw [Nat.zero_add,List.range_one,List.flatMap_singleton,List.flatMap_singleton];unfold q3U jn;rw [h.no_first h0,ye h0,q15];unfold zB;rw [if_pos rfl,q5B];simp
 | b+1=>by
  rw [List.range_succ,List.flatMap_append,List.flatMap_append,h.flat h0 b,List.flatMap_singleton,List.flatMap_singleton];have:q3U (zF P) (phL P) (b+1)=jn P (b+1):=by
   unfold q3U jn;rw [ye h0];unfold zB;rw [if_neg (by omega)];rfl
  rw [this,List.append_assoc]
theorem SsOk.bs (h:SsOk m P D ord) (h0:0<P.f.blocks.length) {b:Nat} (hb:b≠0):bsO (zF P) (phL P) b=zV P b:=by
 obtain ⟨c,rfl⟩:∃ c,b=c+1:=⟨b - 1,by omega⟩;unfold bsO zV;rw [h.flat h0,List.length_append];show P.f.params.toNat+_=_;omega
theorem q64:bsO (zF P) (phL P) 0=P.f.params.toNat:=by unfold bsO;simp;rfl
theorem SsOk.olds (h:SsOk m P D ord) (h0:0<P.f.blocks.length):zL (zF P) (phL P) (zF P).blocks.length=vI P:=by
 obtain ⟨c,hc⟩:∃ c,P.f.blocks.length=c+1:=⟨P.f.blocks.length - 1,by omega⟩;unfold zL vI;rw [yO,hc,h.flat h0,List.append_assoc];rfl
theorem SsOk.num (h:SsOk m P D ord) (h0:0<P.f.blocks.length) {b k:Nat} (hk:k<=(qR P.f b).length):bsO (zF P) (phL P) b+(phL P b).length+(dsL ((qR (zF P) b).take (zN P b+k))).length=dsN P b k:=by
 (have ht:(qR (zF P) b).take (zN P b+k)=zB P b++(qR P.f b).take k:=by rw [ye h0,<- xS,List.take_length_add_append]);rw [ht,q15,List.length_append];unfold dsN
 by_cases e:b=0
 ·subst e;rw [q64,h.no_first h0];unfold zB zV;rw [if_pos rfl,q5B];simp;omega
 ·rw [h.bs h0 e];unfold zB;rw [if_neg e];simp [dsL]
theorem SsOk.zero_num (h:SsOk m P D ord) (h0:0<P.f.blocks.length) {j r:Nat} (hj:(zrL P)[j]?=some r):bsO (zF P) (phL P) 0+(phL P 0).length+(dsL ((qR (zF P) 0).take j)).length=zrN P r:=by
 have hjl:=(Jk hj).1;have ht:(qR (zF P) 0).take j=((zrL P).take j).map zI:=by
  rw [ye h0];unfold zB;rw [if_pos rfl,List.take_append_of_le_length (by simp;omega),List.map_take]
 rw [ht,q5B,q64,h.no_first h0];unfold zrN;have hnd:(zrL P).Nodup:=List.nodup_range.filter _;have hi:(zrL P).idxOf r=j:=by
  obtain ⟨hl,he⟩:=Jk hj;rw [<- he];exact hnd.idxOf_getElem j hl
 rw [hi];simp;omega
end Go.Proofs.YtfoggldjjnabcaaGreatDoor

namespace Go.Proofs.YtfoggldjjnabcaaGreatDoor
open Go.ChangeShapes Go.WideShapes Go.RowKit Go.Deep
theorem qAI {f:qB} (hn:0<f.blocks.length) {a:Nat} (ha:a<f.blocks.length):rfL f.blocks f.blocks.length a=frL f.blocks f.blocks.length a:=(q0l hn).fr_all ha
theorem qAu {f:qB} (hn:0<f.blocks.length) (r b:Nat):clP (zF (q9 f)).blocks r b=(q9 f).C b r:=by
 have wh:(zF (q9 f)).blocks.length=f.blocks.length:=yO;have wJ:(zF (q9 f)).blocks.map (λ b=>b.term.to)=f.blocks.map (λ b=>b.term.to):=q4V (P:=q9 f) hn;unfold clP;show _=clC (rfL f.blocks f.blocks.length) (λ b=>decide (b=0) || mkB f.blocks b r) f.blocks.length b;rw [wh,q9x wJ,Bool.eq_iff_iff,q0P (λ a x hx=>q58 a x hx),q0P (λ a x hx=>q7t hx)];have ta:∀ a,a<f.blocks.length->(decide (a∈mqL (zF (q9 f)).blocks f.blocks.length r)=true↔(decide (a=0) || mkB f.blocks a r)=true):=λ a ha=>by
  rw [decide_eq_true_iff,mqL_mem,Bool.or_eq_true,decide_eq_true_iff]
  by_cases e:a=0
  ·simp [e]
  ·have hk:f.blocks[a]?=some f.blocks[a]:=Jq ha;(have hi:kK (zF (q9 f)).blocks a=f.blocks[a].ins:=q5w (by rw [q0I e];exact hk));rw [hi];unfold mkB;rw [hk];simp only [mkI,List.take_length,List.any_eq_true,decide_eq_true_iff];constructor
   ·rintro (h1 | ⟨-,h2⟩)
    ·exact .inl h1
    ·exact .inr h2
   ·rintro (h1 | h2)
    ·exact .inl h1
    ·exact .inr ⟨ha,h2⟩
 constructor
 ·exact ClG.imp (λ a ha x hx=>by rw [qAI hn ha];exact hx) λ a ha h=>(ta a ha).1 h
 ·exact ClG.imp (λ a ha x hx=>by rw [<- qAI hn ha];exact hx) λ a ha h=>(ta a ha).2 h
theorem qAW {f:qB} (hn:0<f.blocks.length) {W:Nat->Nat->Bool} (hW:∀ b r,W b r=(q9 f).W b r) (b:Nat):phK (zF (q9 f)).blocks W b f.regs.length=phL (q9 f) b:=by
 unfold phK phL;(congr 1);(funext r);rw [qAu hn,hW]
variable {m:List qB} {P:SsP} {D:Nat->Nat->Prop} {ord:Nat->Nat}
theorem VerZ.move {r b n n' v:Nat} (e:zT (qR P.f b) r n'=zT (qR P.f b) r n) (h:VerZ P r b n v):VerZ P r b n' v:=by
 cases h with
 | ins h1=>exact .ins (by rw [e];exact h1)
 | phi h1 h2=>exact .phi (by rw [e];exact h1) h2
 | par h1 h2 h3=>exact .par (by rw [e];exact h1) h2 h3
 | zero h1 h2 h3 h4=>exact .zero (by rw [e];exact h1) h2 h3 h4
 | up h1 h2 h3 h4 h5=>exact .up (by rw [e];exact h1) h2 h3 h4 h5
theorem VerZ.here {r b k v:Nat} {x:qN} (hx:(qR P.f b)[k]?=some x) (hd:x.dst=(r:Int)) (h:VerZ P r b (k+1) v):v=dsN P b k:=by
 have hl:zT (qR P.f b) r (k+1)=some k:=by
  show (if ((qR P.f b).getD k default).dst=(r:Int) then some k else zT (qR P.f b) r k)=_;rw [qv hx,if_pos hd]
 exact (VerZ.ins hl:VerZ P r b (k+1) _).ver.one h.ver
theorem VerZ.back {r b k v:Nat} {x:qN} (hx:(qR P.f b)[k]?=some x) (hd:x.dst≠(r:Int)) (h:VerZ P r b (k+1) v):VerZ P r b k v:=by
 refine h.move ?_;show _=(if ((qR P.f b).getD k default).dst=(r:Int) then some k else zT (qR P.f b) r k);rw [qv hx,if_neg hd]
def TellsV (P:SsP) (b k:Nat) (al:List Int):Prop:=∀ r v,r<P.f.regs.length->VerZ P r b k v->al[r]?=some (v:Int)
theorem q5l {F:qB} {ph:Nat->List Nat} {b:Nat} {al:List Int} (hnd:(ph b).Nodup) {r:Nat} (hr:r<al.length):∀ k,k<=(ph b).length->(y5 F ph b al k)[r]?=if r∈(ph b).take k then some ((bsO F ph b+(ph b).idxOf r:Nat):Int) else al[r]?
 | 0,_=>by simp [y5]
 | k+1,hk=>by
  have hx:(ph b)[k]?=some (ph b)[k]:=Jq (by omega);unfold y5;(have hg:(ph b).getD k 0=(ph b)[k]:=by rw [JJ,hx];rfl);rw [List.getElem?_set,js,qG hx,hg]
  by_cases e:(ph b)[k]=r
  ·rw [if_pos e,if_pos (show (ph b)[k]<al.length by omega),if_pos (by simp [e])];rw [<- e,hnd.idxOf_getElem]
  ·rw [if_neg e,q5l hnd hr k (by omega)];have wk:(r∈(ph b).take k++[(ph b)[k]])↔r∈(ph b).take k:=by rw [List.mem_append,List.mem_singleton];exact ⟨λ h1=>h1.resolve_right (Ne.symm e),.inl⟩
   by_cases hm:r∈(ph b).take k
   ·rw [if_pos hm,if_pos (wk.2 hm)]
   ·rw [if_neg hm,if_neg (λ h1=>hm (wk.1 h1))]
theorem SsOk.tells_first (h:SsOk m P D ord) (h0:0<P.f.blocks.length) {b:Nat} (hb:b<P.f.blocks.length) (wg:b≠0) {al0:List Int} (hl:al0.length=P.f.regs.length) (ht:TellsV P (P.nr b) (qR P.f (P.nr b)).length al0) :
  TellsV P b 0 (y5 (zF P) (phL P) b al0 (phL P b).length):=by
 intro r v hr hv;rw [q5l (show (phL P b).Nodup from List.nodup_range.filter _) (by omega) _ (J4 _),List.take_length];cases hv with
 | ins h1=>cases h1
 | phi h1 h2 =>
  rw [if_pos h2,h.bs h0 wg];rfl
 | par h1 h2 h3=>exact absurd rfl wg
 | zero h1 h2 h3 h4=>exact absurd rfl wg
 | up h1 h2 h3 h4 h5=>rw [if_neg h2];exact ht r v hr h5
theorem SsOk.outI_dst (h:SsOk m P D ord) (h0:0<P.f.blocks.length) {b k:Nat} {x:qN} (hx:(qR P.f b)[k]?=some x):(qd (zF P) (phL P) b)[zN P b+k]?=some ⟨x.op,if 0<=x.dst then (dsN P b k:Int) else x.dst,x.args,x.imm,x.fn⟩:=by
 (have hi:(qR (zF P) b)[zN P b+k]?=some x:=by rw [ye h0,<- xS,List.getElem?_append_right (by omega),Nat.add_sub_cancel_left];exact hx);rw [q0d hi];unfold q2V;rw [h.num h0 (Nat.le_of_lt (Jk hx).1)]
theorem SsOk.outI_zero (h:SsOk m P D ord) (h0:0<P.f.blocks.length) {j r:Nat} (hj:(zrL P)[j]?=some r):(qR (zF P) 0)[j]?=some (zI r)/\(qd (zF P) (phL P) 0)[j]?=some (q1M P r):=by
 have tr:=(Jk hj).1;have hi:(qR (zF P) 0)[j]?=some (zI r):=by
  rw [ye h0];unfold zB;rw [if_pos rfl,List.getElem?_append_left (by simp;exact tr),List.getElem?_map,hj];rfl
 refine ⟨hi,?_⟩;rw [q0d hi];unfold q2V;rw [h.zero_num h0 hj];show some (⟨1,if (0:Int)<=(r:Int) then _ else _,[],0,0⟩:qN)=some (q1M P r);rw [if_pos (by omega)];rfl
theorem SsOk.zeros (h:SsOk m P D ord) (h0:0<P.f.blocks.length) {al:List Int} (hl:al.length=P.f.regs.length):∀ j,j<=(zrL P).length->∀ r,r<P.f.regs.length->(alK al (qR (zF P) 0) (qd (zF P) (phL P) 0) j)[r]?=if r∈(zrL P).take j then some ((zrN P r:Nat):Int) else al[r]?
 | 0,_,r,hr=>by simp [alK]
 | j+1,hj,r,hr=>by
  have hx:(zrL P)[j]?=some (zrL P)[j]:=Jq (by omega);obtain ⟨e1,e2⟩:=h.outI_zero h0 hx;show (stA (alK al (qR (zF P) 0) (qd (zF P) (phL P) 0) j) ((qR (zF P) 0).getD j default).dst ((qd (zF P) (phL P) 0).getD j default).dst)[r]?=_;rw [qv e1,qv e2];show (stA _ (((zrL P)[j]:Nat):Int) ((zrN P (zrL P)[j]:Nat):Int))[r]?=_;unfold stA;rw [if_pos (by omega),Int.toNat_natCast,List.getElem?_set,j9,hl,qG hx]
  by_cases e:(zrL P)[j]=r
  ·rw [if_pos e,if_pos (show (zrL P)[j]<_ by omega),if_pos (by simp [e]),e]
  ·rw [if_neg e,h.zeros h0 hl j (by omega) r hr];have wk:(r∈(zrL P).take j++[(zrL P)[j]])↔r∈(zrL P).take j:=by rw [List.mem_append,List.mem_singleton];exact ⟨λ h1=>h1.resolve_right (Ne.symm e),.inl⟩
   by_cases hm:r∈(zrL P).take j
   ·rw [if_pos hm,if_pos (wk.2 hm)]
   ·rw [if_neg hm,if_neg (λ h1=>hm (wk.1 h1))]
theorem SsOk.tells_zero (h:SsOk m P D ord) (h0:0<P.f.blocks.length):TellsV P 0 0 (alK (y5 (zF P) (phL P) 0 (x8 P.f.params P.f.regs.length) (phL P 0).length) (qR (zF P) 0) (qd (zF P) (phL P) 0) (zN P 0)):=by
 intro r v hr hv;(have tq:y5 (zF P) (phL P) 0 (x8 P.f.params P.f.regs.length) (phL P 0).length=x8 P.f.params P.f.regs.length:=by rw [h.no_first h0];rfl);rw [tq];show (alK _ _ _ (zrL P).length)[r]?=_;rw [h.zeros h0 (by simp [x8]) _ (J4 _) r hr,List.take_length];(have wV:(x8 P.f.params P.f.regs.length)[r]?=some (if (r:Int)<P.f.params then (r:Int) else -1):=by unfold x8;simp [hr]);cases hv with
 | ins h1=>cases h1
 | phi h1 h2=>rw [h.no_first h0] at h2;cases h2
 | par h1 h2 h3 =>
  rw [if_neg (λ hz=>by have:=(mem_zrL.1 hz).2.1;omega),wV,if_pos h3]
 | zero h1 h2 h3 h4=>rw [if_pos h4]
 | up h1 h2 h3 h4 h5=>exact absurd rfl h3
theorem SsOk.tells_step (h:SsOk m P D ord) (h0:0<P.f.blocks.length) {b:Nat} {al:List Int} (hl:al.length=P.f.regs.length) {k:Nat} {x:qN} (hx:(qR P.f b)[k]?=some x) (hd:x.dst=-1\/InR P.f.regs.length x.dst)
  (ht:TellsV P b k (alK al (qR (zF P) b) (qd (zF P) (phL P) b) (zN P b+k))):TellsV P b (k+1) (alK al (qR (zF P) b) (qd (zF P) (phL P) b) (zN P b+(k+1))):=by
 intro r v hr hv;(have hi:(qR (zF P) b)[zN P b+k]?=some x:=by rw [ye h0,<- xS,List.getElem?_append_right (by omega),Nat.add_sub_cancel_left];exact hx);show (stA (alK al (qR (zF P) b) (qd (zF P) (phL P) b) (zN P b+k)) ((qR (zF P) b).getD (zN P b+k) default).dst ((qd (zF P) (phL P) b).getD (zN P b+k) default).dst)[r]?=_;rw [qv hi,qv (h.outI_dst h0 hx)];show (stA _ x.dst (if 0<=x.dst then (dsN P b k:Int) else x.dst))[r]?=_
 by_cases hp:0<=x.dst
 ·rw [if_pos hp];unfold stA;rw [if_pos (by omega),List.getElem?_set,j9,hl]
  by_cases e:x.dst.toNat=r
  ·rw [if_pos e,if_pos (by omega),hv.here hx (by omega)]
  ·rw [if_neg e];exact ht r v hr (hv.back hx (by omega))
 ·rw [if_neg hp];unfold stA;rw [if_neg hp];exact ht r v hr (hv.back hx (by omega))
theorem SsOk.tells_all (h:SsOk m P D ord) (h0:0<P.f.blocks.length) {b:Nat} {al:List Int} (hl:al.length=P.f.regs.length) (hd:∀ x∈qR P.f b,x.dst=-1\/InR P.f.regs.length x.dst)
  (ht:TellsV P b 0 (alK al (qR (zF P) b) (qd (zF P) (phL P) b) (zN P b))):∀ k,k<=(qR P.f b).length->TellsV P b k (alK al (qR (zF P) b) (qd (zF P) (phL P) b) (zN P b+k))
 | 0,_=>ht
 | k+1,hk=>by
  have hx:(qR P.f b)[k]?=some (qR P.f b)[k]:=Jq (by omega);exact h.tells_step h0 hl hx (hd _ (Jz hx)) (h.tells_all h0 hl hd ht k (by omega))
theorem TellsV.at_ {b k:Nat} {al:List Int} (h:TellsV P b k al) {r v:Nat} (hr:r<P.f.regs.length) (hv:VerZ P r b k v):atV al (r:Int)=(v:Int):=by
 unfold atV;rw [Int.toNat_natCast,JJ,h r v hr hv];rfl
theorem SsOk.named_ins (h:SsOk m P D ord) (h0:0<P.f.blocks.length) {b:Nat} (hb:b<P.f.blocks.length) {al:List Int} (hd:∀ x∈qR P.f b,(∀ a∈x.args,InR P.f.regs.length a)/\(x.dst=-1\/InR P.f.regs.length x.dst))
  (ht:∀ k,k<=(qR P.f b).length->TellsV P b k (alK al (qR (zF P) b) (qd (zF P) (phL P) b) (zN P b+k))) :
  (qd (zF P) (phL P) b).mapIdx (nmI al (qR (zF P) b) (qd (zF P) (phL P) b))=(vw P b).ins:=by
 have tc:P.f.blocks[b]?=some P.f.blocks[b]:=Jq hb;(have wQ:(qd (zF P) (phL P) b).length=zN P b+(qR P.f b).length:=by unfold qd;rw [List.length_mapIdx,ye h0,List.length_append,xS]);(have wm:(zt P b).length=zN P b:=by unfold zt zN;split <;> simp);apply List.ext_getElem?;intro i;show _=(zt P b++(qR P.f b).mapIdx (q1C P b))[i]?;rw [List.getElem?_mapIdx]
 by_cases hz:i<zN P b
 ·(have wg:b=0:=by unfold zN at hz;split at hz;assumption;omega);subst wg;have tf:i<(zrL P).length:=hz;have hx:(zrL P)[i]?=some (zrL P)[i]:=Jq tf;(rw [(h.outI_zero h0 hx).2,List.getElem?_append_left (by rw [wm];exact hz)]);unfold zt;rw [if_pos rfl,List.getElem?_map,hx];rfl
 ·obtain ⟨k,rfl⟩:∃ k,i=zN P b+k:=⟨i - zN P b,by omega⟩;(rw [List.getElem?_append_right (by rw [wm];omega),wm,Nat.add_sub_cancel_left,List.getElem?_mapIdx]);cases hx:(qR P.f b)[k]? with
  | none =>
   have hk:=List.getElem?_eq_none_iff.1 hx;rw [List.getElem?_eq_none (by rw [wQ];omega)];rfl
  | some x =>
   rw [h.outI_dst h0 hx];obtain ⟨ha,tw⟩:=hd x (Jz hx);have wT:=(Jk hx).1;(have tg:(P.f.blocks[b]).ins[k]?=some x:=by rw [<- qe tc];exact hx);have hargs:xV (alK al (qR (zF P) b) (qd (zF P) (phL P) b) (zN P b+k)) x.args=x.args.map λ a=>((vr P a.toNat b k:Nat):Int):=by
    unfold xV;refine List.map_congr_left λ a hm=>?_;(obtain ⟨q,rfl⟩:∃ q:Nat,a=(q:Int):=⟨a.toNat,by have:=(ha a hm).1;omega⟩);(have hq:q<P.f.regs.length:=by have:=(ha _ hm).2;omega);rw [(ht k (Nat.le_of_lt wT)).at_ hq (h.ask_arg tc tg hq hm),Int.toNat_natCast]
   have wW:(if 0<=x.dst then (dsN P b k:Int) else x.dst)=(if 0<=x.dst then (dsN P b k:Int) else -1):=by
    by_cases e:0<=x.dst
    ·rw [if_pos e,if_pos e]
    ·rw [if_neg e,if_neg e];rcases tw with h1 | h1
     ·exact h1
     ·exact absurd h1.1 e
   simp only [Option.map_some];unfold nmI q1C;simp only [hargs,wW]
def AEp (P:SsP) (b:Nat) (al:List Int):Prop:=al.length=P.f.regs.length/\(∀ z∈al,I64 z)/\TellsV P b (qR P.f b).length al
noncomputable def Ap (P:SsP) (b p r:Nat):Int:=((vr P r p (qR P.f p).length:Nat):Int)
theorem qAc {m:List qB} {f:qB} (h:SsOk m (q9 f) (DBl f.blocks) (y7 f.blocks)) (wR:∀ b,b<f.blocks.length->qI f.blocks b=true)
  (hd:∀ b∈f.blocks,(∀ x∈b.ins,(∀ a∈x.args,InR f.regs.length a)/\(x.dst=-1\/InR f.regs.length x.dst))/\(b.term.arg=-1\/InR f.regs.length b.term.arg)) (hs:∀ b,b<f.blocks.length->bsO (zF (q9 f)) (phL (q9 f)) b<=1000000) (tp:∀ b i x,b<f.blocks.length->(qR f b)[i]?=some x->dsN (q9 f) b i<=1000000) (hp:∀ b,(phL (q9 f) b).length<=1000) (wM:f.regs.length<=1000) :
  NmA (zF (q9 f)) (phL (q9 f)) (AEp (q9 f)) (λ b=>(vw (q9 f) b).ins) (λ b=>(kO (q9 f) b).arg) (Ap (q9 f)):=by
 have h0:0<f.blocks.length:=h.fn.nb.1;have wh:(zF (q9 f)).blocks.length=f.blocks.length:=yO;have wJ:(zF (q9 f)).blocks.map (λ b=>b.term.to)=f.blocks.map (λ b=>b.term.to):=q4V (P:=q9 f) h0;have wu:qZ (zF (q9 f)).blocks=qZ f.blocks:=q1r wJ;have wl:qV (zF (q9 f)).blocks=qV f.blocks:=q52 wJ;have hN:=q0l (bs:=f.blocks) h0;(have tu:∀ b,b<f.blocks.length->qi f.blocks 0 (-1) b=true:=λ b hb=>by rw [qY];exact wR b hb);have wZ:qZ f.blocks 0=-1:=hN.none 0 h0 (.inr rfl);have wY:∀ b,b<f.blocks.length->b≠0->∃ a,a<f.blocks.length/\qZ f.blocks b=(a:Int)/\(q9 f).nr b=a/\y7 f.blocks a<y7 f.blocks b:=λ b hb wg=>by
  obtain ⟨a,h1,h2,h3,h4,-⟩:=hN.some b hb (tu b hb) wg;have h5:=hN.ord a b h1 hb h4;(refine ⟨a,h1,h2,by show (qZ f.blocks b).toNat=a;rw [h2];rfl,?_⟩);rcases Nat.lt_or_ge (y7 f.blocks a) (y7 f.blocks b) with h6 | h6
  ·exact h6
  ·exact absurd (h5.2 (by omega)) h3
 have hdB:∀ b,b<f.blocks.length->∀ x∈qR f b,(∀ a∈x.args,InR f.regs.length a)/\(x.dst=-1\/InR f.regs.length x.dst):=λ b hb x hx=>by
  have hk:f.blocks[b]?=some f.blocks[b]:=Jq hb;rw [qe hk] at hx;exact (hd _ (Jz hk)).1 x hx
 have wU:∀ b,b<f.blocks.length->∀ x∈qd (zF (q9 f)) (phL (q9 f)) b,I64 x.dst:=λ b hb x hx=>by
  obtain ⟨i,hi⟩:=List.getElem?_of_mem hx
  by_cases hz:i<zN (q9 f) b
  ·(have wg:b=0:=by unfold zN at hz;split at hz;assumption;omega);subst wg;have ww:(zrL (q9 f))[i]?=some (zrL (q9 f))[i]:=Jq hz;rw [(h.outI_zero h0 ww).2] at hi;obtain rfl:=J3 hi;show I64 ((zrN (q9 f) _:Nat):Int);have h1:=h.zero_num h0 ww;have h2:=hs 0 h0;have h3:=hp 0
   (have h4:(dsL ((qR (zF (q9 f)) 0).take i)).length<=i:=by have:=xv ((qR (zF (q9 f)) 0).take i);rw [List.length_take] at this;omega);have h5:(zrL (q9 f)).length<=f.regs.length:=q2I (q9 f).f.params ((q9 f).W 0) (q9 f).f.regs.length;have hz2:i<(zrL (q9 f)).length:=hz;unfold I64;omega
  ·obtain ⟨k,rfl⟩:∃ k,i=zN (q9 f) b+k:=⟨i - zN (q9 f) b,by omega⟩;(have wQ:(qd (zF (q9 f)) (phL (q9 f)) b).length=zN (q9 f) b+(qR f b).length:=by unfold qd;rw [List.length_mapIdx,ye h0,List.length_append,xS];rfl);(have wT:k<(qR f b).length:=by have:=(Jk hi).1;omega);have ww:(qR (q9 f).f b)[k]?=some (qR f b)[k]:=Jq wT;rw [h.outI_dst h0 ww] at hi;obtain rfl:=J3 hi;show I64 (if 0<=_ then _ else _);have h1:=tp b k _ hb ww;have h2:=(hdB b hb _ (Jz ww)).2
   split
   ·unfold I64;omega
   ·rcases h2 with h2 | h2
    ·unfold I64;omega
    ·unfold InR at h2;unfold I64;omega
 have main:∀ b al0,b<f.blocks.length->al0.length=f.regs.length->(∀ z∈al0,I64 z)->(if b=0 then al0=x8 f.params f.regs.length else TellsV (q9 f) ((q9 f).nr b) (qR f ((q9 f).nr b)).length al0) ->
   AEp (q9 f) b (alK (y5 (zF (q9 f)) (phL (q9 f)) b al0 (phL (q9 f) b).length) (qR (zF (q9 f)) b) (qd (zF (q9 f)) (phL (q9 f)) b) (qd (zF (q9 f)) (phL (q9 f)) b).length) /\
   ∀ k,k<=(qR f b).length->TellsV (q9 f) b k (alK (y5 (zF (q9 f)) (phL (q9 f)) b al0 (phL (q9 f) b).length) (qR (zF (q9 f)) b) (qd (zF (q9 f)) (phL (q9 f)) b) (zN (q9 f) b+k)):=λ b al0 hb hl tB wj=>by
  (have wQ:(qd (zF (q9 f)) (phL (q9 f)) b).length=zN (q9 f) b+(qR f b).length:=by unfold qd;rw [List.length_mapIdx,ye h0,List.length_append,xS];rfl);(have wm:(y5 (zF (q9 f)) (phL (q9 f)) b al0 (phL (q9 f) b).length).length=f.regs.length:=by rw [js];exact hl);have tm:TellsV (q9 f) b 0 (alK (y5 (zF (q9 f)) (phL (q9 f)) b al0 (phL (q9 f) b).length) (qR (zF (q9 f)) b) (qd (zF (q9 f)) (phL (q9 f)) b) (zN (q9 f) b)):=by
   by_cases wg:b=0
   ·subst wg;rw [if_pos rfl] at wj;subst wj;exact h.tells_zero h0
   ·rw [if_neg wg] at wj;(have hz:zN (q9 f) b=0:=by unfold zN;rw [if_neg wg]);rw [hz];exact h.tells_first h0 hb wg hl wj
  have wO:=h.tells_all h0 (b:=b) wm (λ x hx=>(hdB b hb x hx).2) tm;(refine ⟨⟨by rw [j9];exact wm,kP (q2T tB (hs b hb) _ (hp b)) (wU b hb) _,?_⟩,wO⟩);rw [wQ];exact wO _ (J4 _)
 refine ⟨λ i b hi=>?_,λ b hb=>?_,?_,λ b al ha=>⟨ha.1,ha.2.1⟩,λ b al0 hb wj=>?_,λ b p r al hb hp hr ha=>?_⟩
 ·rw [wl] at hi;have hm:=Jz hi;have td:b<f.blocks.length:=yc (zD f.blocks) hm;(refine ⟨by rw [wh];exact td,λ hn=>?_⟩);rw [wu] at hn ⊢;(have wg:b≠0:=λ e=>by subst e;rw [wZ] at hn;omega);obtain ⟨a,h1,h2,h3,h4⟩:=wY b td wg;(refine ⟨y7 f.blocks a,a,?_,by rw [wl];exact xY (wR a h1),h2⟩);rw [<- q2X hi];exact h4
 ·rw [wl];rw [wh] at hb;exact orderF_mem.2 (wR b hb)
 ·rw [wl];have:=jT f.blocks;have:=h.fn.nb.2;exact Nat.le_trans (jT f.blocks) (Nat.le_trans h.fn.nb.2 (by decide))
 ·rw [wh] at hb;rw [wu] at wj;have hk:f.blocks[b]?=some f.blocks[b]:=Jq hb;have wv:al0.length=f.regs.length/\(∀ z∈al0,I64 z)/\(if b=0 then al0=x8 f.params f.regs.length else TellsV (q9 f) ((q9 f).nr b) (qR f ((q9 f).nr b)).length al0):=by
   by_cases wg:b=0
   ·subst wg;rw [wZ,if_neg (by omega)] at wj;have e:al0=x8 f.params f.regs.length:=wj;(refine ⟨by rw [e];simp [x8],λ z hz=>?_,by rw [if_pos rfl];exact e⟩);rw [e] at hz;unfold x8 at hz;obtain ⟨r,hr,rfl⟩:=List.mem_map.1 hz;rw [List.mem_range] at hr;unfold I64;split <;> omega
   ·obtain ⟨a,h1,h2,h3,-⟩:=wY b hb wg;rw [h2,if_pos (by omega),Int.toNat_natCast] at wj;exact ⟨wj.1,wj.2.1,by rw [if_neg wg,h3];exact wj.2.2⟩
  obtain ⟨q1,q2⟩:=main b al0 hb wv.1 wv.2.1 wv.2.2;refine ⟨q1,h.named_ins h0 hb (hdB b hb) q2,?_⟩;(have tj:(qP (zF (q9 f)) b).term=f.blocks[b].term:=by rw [q5b h0];show (qP f b).term=_;rw [show qP f b=f.blocks[b] from qv hk]);have th:(kO (q9 f) b).arg=if 0<=f.blocks[b].term.arg then ((vr (q9 f) f.blocks[b].term.arg.toNat b (qR f b).length:Nat):Int) else -1:=by
   have tx:qP (q9 f).f b=f.blocks[b]:=qv hk;unfold kO;rw [tx];rfl
  rw [tj];show _=(kO (q9 f) b).arg;rw [th];have wX:=(hd _ (Jz hk)).2
  by_cases e:0<=f.blocks[b].term.arg
  ·rw [if_pos e,if_pos e];obtain ⟨r,hr⟩:∃ r:Nat,f.blocks[b].term.arg=(r:Int):=⟨f.blocks[b].term.arg.toNat,by omega⟩;rw [hr,Int.toNat_natCast];(have wM:r<f.regs.length:=by rcases wX with h1 | h1;omega;unfold InR at h1;omega);refine q1.2.2.at_ wM ?_;have hv:=h.ask_term (b:=b) (r:=r) hk wM hr;rw [<- qe hk] at hv;exact hv
  ·rw [if_neg e,if_neg e];rcases wX with h1 | h1
   ·exact h1
   ·exact absurd h1.1 e
 ·rw [wh] at hb;(have tz:qH (zF (q9 f)).blocks (b:Nat)=qH f.blocks (b:Nat):=by unfold qH;exact xD wJ _ _);rw [tz] at hp;(have wm:p<f.blocks.length:=by have:=qw f.blocks 0 (b:Nat) p hp;simp at this;omega);have hk:f.blocks[p]?=some f.blocks[p]:=Jq wm;have hv:=h.ask_phi (p:=p) hk hb hp hr;have wM:=(mem_phL.1 hr).1;rw [<- qe hk] at hv;exact ha.2.2.at_ wM hv
end Go.Proofs.YtfoggldjjnabcaaGreatDoor
