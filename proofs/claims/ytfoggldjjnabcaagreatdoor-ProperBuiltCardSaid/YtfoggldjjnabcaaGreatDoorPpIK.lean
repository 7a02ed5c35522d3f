/- Trim's smaller functions: a phi's Args, an end. -/
import Derived.Test.YtfoggldjjnabcaaGreatDoorModAK
import Derived.Test.YtfoggldjjnabcaaGreatDoorGrYK
import Derived.Test.YtfoggldjjnabcaaGreatDoorDmMK
import Derived.StillTailTactics
import Derived.Laws.ResultCell
import Derived.Test.YtfoggldjjnabcaaGreatDoorDmPK
import Derived.Test.YtfoggldjjnabcaaGreatDoorAheadGK
import Derived.Test.YtfoggldjjnabcaaGreatDoorDmAK
set_option linter.unusedVariables false
set_option linter.unusedSimpArgs false
namespace Go.Proofs.YtfoggldjjnabcaaGreatDoor
open Go.ChangeShapes Go.WideShapes Go.RowKit Go.Deep
set_option maxRecDepth 100000 in
set_option maxHeartbeats 4000000 in
theorem q5Q (H n:Nat) (r:Nat->Bool) (args ahead:List Int) (va vh:Value) (w:World) (wh:w.rowIs H 4 n (λ x=>.bool (r x))) (ha:VS w 1 RInt va args) (hh:VS w 1 RInt vh ahead)
  (wu:∀ a∈ahead,0<=a/\a<n) (hn:args.length<=1000000) :
  Calls Tryz.prog 91 #[va,vh,.slice (some ⟨H,0,none⟩) n n] w (q5Y (zX r ahead args) w):=by
 have tE:=ha;obtain ⟨A,c,rfl,tu⟩:=ha;obtain ⟨B,d,rfl,tQ⟩:=hh;have hal:=tu.len;have hhl:=tQ.len;obtain ⟨i0,hi,tO,tN,tg⟩:=info_parts Tryz.info3;have HI:=Jj (And.intro hi (And.intro tO (And.intro tN tg)));clear hi tO tN tg
 by_cases hl:args.length=ahead.length
 ·(have tZ:((args.length:Int) != ahead.length)=false:=by simp [hl]);have HL:=Jj hl;have sp:=Jj wu;(have wJ:Hid (zX r ahead args=zP r ahead args):=Jj (by unfold zX;rw [if_pos hl]));have tC:∀ x∈args,I64 x:=λ x hx=>by
   obtain ⟨i,hi⟩:=List.getElem?_of_mem hx;obtain ⟨_,_,h3⟩:=tu;(obtain ⟨b,o,e,hr⟩:=h3 (by have:=(Jk hi).1;omega));exact (hr i x hi).2
  clear hl wu tC tE;(go_enter Tryz.func91,Tryz.ntmps91);go_wp2_with fail
  go_loopw [7,19] (λ out i wr=>∃ k:Nat,k<=args.length/\i=.int .i64 k/\Below w.heap.size w wr/\wr.ownsRow w.heap.size 3 1 out (zP r (ahead.take k) (args.take k)).length ((zP r (ahead.take k) (args.take k)).map (Value.int .i64))) (λ _ i _=>args.length - (intOf i).toNat)
  case atStart=>exact ⟨0,Nat.zero_le _,rfl,J5 _ _,by simpa [zP] using World.ownsRow_nil _ _ _ _⟩
  case round =>
   obtain ⟨k,hk,rfl,hb,wv⟩:=hrel;have tm:=q7 hb;have hz:=hb.size;have HB:=Jj hb;have tr:=Jj wv
   by_cases tz:k<args.length
   ·obtain ⟨b1,o1,x,rfl,hx,tV,-⟩:=(SInts.keep tm tu).int tz;(obtain ⟨b2,o2,y,rfl,hy,hyc,-⟩:=(SInts.keep tm tQ).int (k:=k) (by have:=HL.out;omega));obtain ⟨hy0,hy1⟩:=sp.out y (Jz hy.out);obtain ⟨q,rfl⟩:∃ q:Nat,y=q:=⟨y.toNat,by omega⟩;(have tx:q<n:=by omega);have tw:=(wh.of_block (hb.block H wh.lt)).cell tx;(have sb:(0:Int)<=k:=by omega);(have tp:(k:Int)<args.length:=by omega);have tB:(k:Int)<ahead.length:=by have:=HL.out;omega
    have tU:=Jj (q0p (r:=r) hy.out hx.out);(have hlk:(zP r (ahead.take k) (args.take k)).length<=1000000:=by have:=ke r (ahead.take k) (args.take k);simp at this;omega);clear hb wv tm;cases wM:r q
    ·rw [wM] at tw;(have tF:Hid (zP r (ahead.take (k+1)) (args.take (k+1))=zP r (ahead.take k) (args.take k)):=Jj (by rw [tU.out,Int.toNat_natCast,wM];simp));clear wM;go_wp2_with fail
     go_roundw
     case rel=>exact ⟨k+1,by omega,by go_num,HB.out,by rw [tF.out];exact tr.out⟩
     case measure=>simp [intOf];omega
    ·rw [wM] at tw;(have tF:Hid (zP r (ahead.take (k+1)) (args.take (k+1))=zP r (ahead.take k) (args.take k)++[x]):=Jj (by rw [tU.out,Int.toNat_natCast,wM];simp));clear wM;generalize zP r (ahead.take k) (args.take k)=acc at *;go_wp2_with (at_builtin;refine wpList_append_lies _ rfl (.tmp 31) (.tmp 33) 27 rfl w.heap.size 3 i0 (.int .i64 0) 1 8 Tryz.underlying27 HI.out.1 HI.out.2.1 HI.out.2.2.1 HI.out.2.2.2 rfl (by decide) _ _ _ rfl (tr.out.alloc _) ⟨wr.heap.size,0,none⟩ 1 1 [.int .i64 x] rfl rfl ?c1 ?c2 ?c0 ?c3 ?c4 ?c5 (wr.heap.size+1) ?c6 ?_)
     case c1=>exact qm wr _ _ rfl
     case c2=>exact ints_oneCell .i64 [x]
     case c0=>omega
     case c3=>unfold maxLen;omega
     case c4=>omega
     case c5=>simp;omega
     case c6=>simp
     intro g cap w4 wm wj wT hlt4;(have tK:Hid (Below w.heap.size w w4):=Jj ((HB.out.alloc hz _).grown wj (by simp;omega) (λ g hg=>(tr.out.lt g hg).1)));(have tG:Hid (w4.ownsRow w.heap.size 3 1 (.slice (some ⟨g,0,none⟩) (acc.length+1) cap) (zP r (ahead.take (k+1)) (args.take (k+1))).length ((zP r (ahead.take (k+1)) (args.take (k+1))).map (Value.int .i64))):=Jj (by rw [tF.out,List.map_append,List.length_append];exact wm));clear wm wj wT;go_wp2_with fail
     go_roundw
     case rel=>exact ⟨k+1,by omega,by go_num,tK.out,tG.out⟩
     case measure=>simp [intOf];omega
   ·(have HF:Hid (zP r (ahead.take k) (args.take k)=zX r ahead args):=Jj (by rw [wJ.out,List.take_of_length_le (by have:=HL.out;omega),List.take_of_length_le (by omega)]));clear hb wv tm;(go_wp2_with fail);(go_ret);exact ⟨⟨_,rfl,by rw [<- HF.out];exact tr.out⟩,HB.out⟩
 ·(have tZ:((args.length:Int) != ahead.length)=true:=by simp;omega);(have wJ:Hid (zX r ahead args=args):=Jj (by unfold zX;rw [if_neg hl]));have HC:=Jj (zj args _ w tE hn);clear hl tE;(go_enter Tryz.func91,Tryz.ntmps91);(go_wp2_with fail);refine HC.out.mono ?_;rintro e w1 ⟨⟨v,rfl,ho⟩,hb⟩;have HF:=Jj (And.intro ho hb)
  clear ho hb;(go_wp2_with fail);(go_ret);exact ⟨⟨_,rfl,by rw [wJ.out];exact HF.out.1⟩,HF.out.2⟩
def vj (g:Int->Int) (l:List Int) (k:Nat):List Int:=(l.take k).map g++l.drop k
theorem q4b (g:Int->Int) (l:List Int):vj g l 0=l:=by simp [vj]
theorem q6I {g:Int->Int} {l:List Int} {k:Nat} (h:l.length<=k):vj g l k=l.map g:=by unfold vj;rw [List.take_of_length_le h,List.drop_eq_nil_of_le h];simp
theorem q6H (g:Int->Int) (l:List Int) (k:Nat):(vj g l k).length=l.length:=by unfold vj;simp;omega
theorem q37 {g:Int->Int} {l:List Int} {k:Nat} {x:Int} (h:l[k]?=some x):(vj g l k)[k]?=some x:=by
 have hk:k<l.length:=(Jk h).1;unfold vj;(rw [List.getElem?_append_right (by simp;omega)]);simp only [List.length_map,List.length_take,List.getElem?_drop];rw [show k+(k - min k l.length)=k by omega];exact h
theorem q1e {g:Int->Int} {l:List Int} {k:Nat} {x:Int} (h:l[k]?=some x):(vj g l k).set k (g x)=vj g l (k+1):=by
 have hk:k<l.length:=(Jk h).1;unfold vj;(rw [qG h,List.map_append,List.append_assoc,List.set_append_right _ _ (by simp;omega)]);(congr 1);obtain ⟨_,rfl⟩:=Jk h;(have e:(l.drop k).set 0 (g l[k])=g l[k]::l.drop (k+1):=by rw [List.drop_eq_getElem_cons hk];rfl);rw [show k - ((l.take k).map g).length=0 by simp;omega,e];rfl
theorem q4c {g:Int->Int} {l:List Int} {k:Nat} {x:Int} (h:l[k]?=some x) (hg:g x=x):vj g l k=vj g l (k+1):=by
 rw [<- q1e h,hg];apply List.ext_getElem?;intro i;rw [List.getElem?_set]
 split
 ·rename_i e;subst e;rw [q37 h,if_pos (by rw [q6H];exact (Jk h).1)]
 ·rfl
theorem q9e {w:World} {base n cap g:Nat} {l:List Int} {i:Nat} {x:Int} (h:w.ownsRow base 3 1 (.slice (some ⟨g,0,none⟩) n cap) n (l.map (Value.int .i64))) (hi:l[i]?=some x):w.cell? ⟨g,i,none⟩=some (.int .i64 x):=by
 have:=h.cells (g:=g) rfl i (.int .i64 x) (by rw [List.getElem?_map,hi];rfl)
 rwa [show (⟨g,0,none⟩:Addr).add i=⟨g,i,none⟩ by unfold Addr.add;split <;> simp_all] at this
def qB8 (r:Nat->Bool) (n:Nat) (t:yU) (w:World) (e:Ending) (w':World):Prop :=
 (∃ v,e=.returned (.agg #[.int .i64 t.kind,.int .i64 t.arg,v])/\w'.ownsRow w.heap.size 3 1 v t.to.length ((t.to.map (toT r n)).map (Value.int .i64)))/\Below w.heap.size w w'
set_option maxRecDepth 100000 in
set_option maxHeartbeats 4000000 in
theorem q4h (G n:Nat) (r:Nat->Bool) (t:yU) (v:Value) (w:World) (wh:w.rowIs G 3 n (λ i=>.int .i64 (yl r i))) (hv:VTerm w v t) (hn:n<=1000000) (hl:t.to.length<=1000000) :
  Calls Tryz.prog 52 #[v,.slice (some ⟨G,0,none⟩) n n] w (qB8 r n t w):=by
 obtain ⟨A,c,rfl,hs,wU,ta⟩:=hv;have HK:=Jj wU;have HA:=Jj ta;clear wU ta;(go_enter Tryz.func52,Tryz.ntmps52);(go_upto_region 1 with fail);obtain ⟨w1,tj,tY,tp,tT,si,sf⟩:=named w #[.int .i64 t.kind,.int .i64 t.arg,.slice A t.to.length c] 47;obtain ⟨w2,th,tX,tB,tS,sh,sd⟩:=named w1 #[.int .i64 0,.int .i64 0,.slice none 0 0] 47;have tq:w2.heap[w.heap.size]?=some (.cells #[.int .i64 t.kind,.int .i64 t.arg,.slice A t.to.length c] 47 (0,0)):=by rw [th,tj];exact jF w _ _
 (have tD:w2.heap[w.heap.size+1]?=some (.cells #[.int .i64 0,.int .i64 0,.slice none 0 0] 47 (0,0)):=by rw [th,tj];exact yi w _ _);rw [<- tj,<- th];have tL:Hid (Below w.heap.size w w2):=Jj (tT.trans (tS.mono (by omega)));(have tg:w2.heap.size=w.heap.size+2:=by omega);have HC:=Jj (zj t.to _ w2 ⟨A,c,rfl,SInts.keep (tp.trans tB) hs⟩ hl);obtain ⟨N,hN⟩:∃ N,N=w.heap.size:=⟨_,rfl⟩;rw [<- hN] at tq tD tg ⊢;(have hGN:G<N:=by rw [hN];exact wh.lt);have sm:=Jj (wh.of_block (tL.out.block G wh.lt))
 have HN:=Jj hN;have x2:=q6 tq 2;clear tj th tY tX tp tB tT tS si sh sf sd hs wh hN;(go_wp2_with fail);refine HC.out.mono ?_;rintro e w3 ⟨⟨vc,rfl,ho⟩,wQ⟩;have tW:∃ A' c',vc=.slice A' t.to.length c':=by
  rcases ho.2 with ⟨e,h0⟩ | ⟨g,c',cur,e,_⟩
  ·exact ⟨none,0,by rw [e,h0]⟩
  ·exact ⟨_,_,e⟩
 obtain ⟨A',c',rfl⟩:=tW;have tM:=wQ.size;have wl:=(wQ.block N (by omega)).trans tq;have wY:=(wQ.block (N+1) (by omega)).trans tD;have ww:=qK (i:=2) (.slice A' t.to.length c') wl;(have wX:=(JQ w3 ⟨N,2,none⟩ (.slice A' t.to.length c') (N+1) (by show N+1≠N;omega)).trans wY);(have tR:=qJ (w':=w3.setCell ⟨N,2,none⟩ (.slice A' t.to.length c')) ho (λ g hg=>JQ _ _ _ _ (by have:=(ho.lt g hg).1;show g≠N;omega)));(have sk:Hid ((w3.setCell ⟨N,2,none⟩ (.slice A' t.to.length c')).rowIs G 3 n (λ i=>.int .i64 (yl r i))):=Jj ((sm.out.of_block (wQ.block G (by omega))).setOther (by show G≠N;omega) _));have tK:Hid (Below w.heap.size w (w3.setCell ⟨N,2,none⟩ (.slice A' t.to.length c'))):=Jj ((tL.out.trans (wQ.mono tL.out.size)).setCell (by show w.heap.size<=N;have:=HN.out;omega) _)
 (have hz4:w2.heap.size<=(w3.setCell ⟨N,2,none⟩ (.slice A' t.to.length c')).heap.size:=by simpa using tM);have y2:=q6 wl 2;have yf2:=qA wl 2;clear x2 ho wQ HC tq tD;(go_upto_region 2 with fail);clear y2 yf2;generalize w3.setCell ⟨N,2,none⟩ (.slice A' t.to.length c')=w4 at *;have hx2:w4.cell? ⟨N,2,none⟩=some (.slice A' t.to.length c'):=q6 ww 2;have tG:Hid (w4.ownsRow w2.heap.size 3 1 (.slice A' t.to.length c') t.to.length ((vj (toT r n) t.to 0).map (Value.int .i64))):=Jj (by rw [q4b];exact tR)
 have sr:=Jj ww;have sq:=Jj wX;clear ww wX wl wY tR tM;go_wp2_with fail
 go_loopw [14] (λ i wr=>∃ k:Nat,k<=t.to.length/\i=.int .i64 k/\Below w2.heap.size w4 wr/\wr.ownsRow w2.heap.size 3 1 (.slice A' t.to.length c') t.to.length ((vj (toT r n) t.to k).map (Value.int .i64))) (λ i _=>t.to.length - (intOf i).toNat)
 case atStart=>exact ⟨0,Nat.zero_le _,rfl,J5 _ _,tG.out⟩
 case round =>
  obtain ⟨k,hk,rfl,wZ,wO⟩:=hrel;have tf:=Jj wZ;have tc:=Jj wO;have wk:=(wZ.block N (by omega)).trans sr.out;have z2:wr.cell? ⟨N,2,none⟩=some (.slice A' t.to.length c'):=q6 wk 2
  by_cases tz:k<t.to.length
  ·obtain ⟨g,cap,wV,sc,hg2⟩:=wO.form (by omega);cases wV;obtain ⟨x,hx⟩:∃ x,t.to[k]?=some x:=⟨_,Jq tz⟩;have tV:=q9e wO (q37 (g:=toT r n) hx);have hxf:=wO.frozenAt k;(have sb:(0:Int)<=k:=by omega);(have tp:(k:Int)<t.to.length:=by omega);have HX:=Jj hx;clear wZ wk hx wO
   by_cases wu:0<=x/\x<n
   ·obtain ⟨q,rfl⟩:∃ q:Nat,x=q:=⟨x.toNat,by omega⟩;(have tx:q<n:=by omega);(have hq0:(0:Int)<=q:=by omega);(have hq1:(q:Int)<n:=by omega);(have HT:Hid (yl r q=toT r n q):=Jj (by unfold toT;rw [if_pos wu];simp));have tw:=(sk.out.of_block (tf.out.block G (by omega))).cell tx;have tP:=(tc.out.stored k (.int .i64 (yl r q))).1
    have sj:Hid ((wr.setCell ⟨g,k,none⟩ (.int .i64 (yl r q))).ownsRow w2.heap.size 3 1 (.slice (some ⟨g,0,none⟩) t.to.length c') t.to.length ((vj (toT r n) t.to (k+1)).map (Value.int .i64))):=Jj (by
     rw [<- q1e HX.out,<- HT.out,List.map_set];exact tP)
    (have ss:Hid (Below w2.heap.size w4 (wr.setCell ⟨g,k,none⟩ (.int .i64 (yl r q)))):=Jj (tf.out.setCell (by show w2.heap.size<=g;exact sc) _));clear tP wu;generalize hy:yl r q=y at *;(go_upto_region 6 with fail);(go_still_tail 8,(by kernel_rfl));change wpList _ _ _ _ _ wr.drew;go_wp2_with fail
    go_roundw
    case rel=>exact ⟨k+1,by omega,by go_num,ss.out.drew,kC sj.out⟩
    case measure=>simp [intOf];omega
   ·have HT:Hid (vj (toT r n) t.to k=vj (toT r n) t.to (k+1)):=Jj (q4c HX.out (by unfold toT;rw [if_neg wu]))
    by_cases h0:0<=x
    ·have h1:decide (x<(n:Int))=false:=decide_eq_false (by omega);clear wu;go_wp2_with fail
     go_roundw
     case rel=>exact ⟨k+1,by omega,by go_num,tf.out,by rw [<- HT.out];exact tc.out⟩
     case measure=>simp [intOf];omega
    ·clear wu;go_wp2_with fail
     go_roundw
     case rel=>exact ⟨k+1,by omega,by go_num,tf.out,by rw [<- HT.out];exact tc.out⟩
     case measure=>simp [intOf];omega
  ·have tH:Hid (vj (toT r n) t.to k=t.to.map (toT r n)):=Jj (q6I (by omega));have z0:wr.cell? ⟨N,0,none⟩=some (.int .i64 t.kind):=q6 wk 0;have z1:wr.cell? ⟨N,1,none⟩=some (.int .i64 t.arg):=q6 wk 1;have wg:=(wZ.block (N+1) (by omega)).trans sq.out;have u0:=q6 wg 0;have u1:=q6 wg 1;have u2:=q6 wg 2;have v0:=qA wg 0;have v1:=qA wg 1
   have v2:=qA wg 2;have tJ:=Jj wg;clear wk wg wZ wO;have wW:=qK (i:=2) (.slice A' t.to.length c') (qK (i:=1) (.int .i64 t.arg) (qK (i:=0) (.int .i64 t.kind) tJ.out));have wR:∀ y,y≠N+1->(((wr.setCell ⟨N+1,0,none⟩ (.int .i64 t.kind)).setCell ⟨N+1,1,none⟩ (.int .i64 t.arg)).setCell ⟨N+1,2,none⟩ (.slice A' t.to.length c')).heap[y]?=wr.heap[y]?:=λ y hy =>
    (JQ _ _ _ _ hy).trans ((JQ _ _ _ _ hy).trans (JQ _ _ _ _ hy))
   have sn:=Jj (vq (qJ tc.out (λ g hg=>wR g (by have:=(tc.out.lt g hg).1;omega))) (base':=w.heap.size) (by have:=HN.out;omega))
   have su:Hid (Below w.heap.size w (((wr.setCell ⟨N+1,0,none⟩ (.int .i64 t.kind)).setCell ⟨N+1,1,none⟩ (.int .i64 t.arg)).setCell ⟨N+1,2,none⟩ (.slice A' t.to.length c'))):=Jj (by
    have hNw:=HN.out
    exact (((tK.out.trans (tf.out.mono (by omega))).setCell (by show w.heap.size<=N+1;omega) _).setCell (by show w.heap.size<=N+1;omega) _).setCell (by show w.heap.size<=N+1;omega) _)
   have td:=Jj wW;clear wW wR;(go_wp2_with fail);refine bodyPost_ret (results_cell_row rfl _ _ (N+1) 47 #[.int .i64 t.kind,.int .i64 t.arg,.slice A' t.to.length c'] (0,0) _ (by rfl) td.out Tryz.underlying47 (by rfl) (by kernel_rfl)) rfl ?_;exact ⟨⟨_,rfl,by rw [<- tH.out];exact sn.out⟩,su.out⟩
def Fz (w:World) (b:Nat):Prop:=∃ cs t,w.heap[b]?=some (.cells cs t (0,0))
theorem Fz.lt {w:World} {b:Nat} (h:Fz w b):b<w.heap.size:=by obtain ⟨_,_,h⟩:=h;exact qW h
theorem Fz.same {w w':World} {b:Nat} (h:Fz w b) (e:w'.heap[b]?=w.heap[b]?):Fz w' b:=by obtain ⟨cs,t,h⟩:=h;exact ⟨cs,t,e.trans h⟩
theorem Fz.free {w:World} {b:Nat} (h:Fz w b) (o:Nat):w.frozen? ⟨b,o,none⟩=false:=by obtain ⟨_,_,h⟩:=h;exact qA h o
theorem Fz.set {w:World} {b:Nat} (h:Fz w b) (g i:Nat) (v:Value):Fz (w.setCell ⟨g,i,none⟩ v) b:=by
 obtain ⟨cs,t,h⟩:=h
 by_cases e:b=g
 ·subst e;exact ⟨_,t,qK v h⟩
 ·exact ⟨cs,t,(JQ _ _ _ _ e).trans h⟩
theorem Fz.own {w:World} {base n size g:Nat} {e:TypeId} {v:Value} {xs:List Value} (h:w.ownsRow base e size v n xs) (hg:v.ownBlock=some g):Fz w g:=by
 rcases h.2 with ⟨rfl,_⟩ | ⟨g',cap,cur,rfl,_,hh,_⟩
 ·cases hg
 ·obtain rfl:g'=g:=J3 hg;exact ⟨_,_,hh⟩
def BG (base:Nat) (w:World) (b:Nat):Prop:=base<=b/\Fz w b
def BF (base:Nat) (u:Value) (w:World) (b:Nat):Prop:=BG base w b/\some b≠u.ownBlock
theorem BG.below {base base':Nat} {w w':World} (h:Below w.heap.size w w') (hb:base'<=base) (b:Nat) (hB:BG base w b):BG base' w' b:=⟨Nat.le_trans hb hB.1,hB.2.same (h.block b hB.2.lt)⟩
theorem xm {base:Nat} {w w':World} (h:Below w.heap.size w w'):KeptB (BG base w) w w':=λ a v hb ha=>(JK (h.block a.block hb.2.lt)).trans ha
theorem yf {w:World} {base base':Nat} {v:Value} {xs:List Int} (h:w.ownsRow base 3 1 v xs.length (xs.map (Value.int .i64))) (hx:∀ x∈xs,I64 x) (hb:base'<=base) :
  ∃ A c,v=.slice A xs.length c/\SL w 1 (RIntB (BG base' w)) A c xs:=by
 obtain ⟨A,c,e,hs⟩:=ql h hx;obtain ⟨h1,h2,h3⟩:=hs;refine ⟨A,c,e,h1,h2,λ hp=>?_⟩;obtain ⟨b,o,e2,hr⟩:=h3 hp;(have hg:v.ownBlock=some b:=by rw [e,e2];rfl);exact ⟨b,o,e2,λ i x hi=>⟨⟨Nat.le_trans hb (h.lt b hg).1,Fz.own h hg⟩,hr i x hi⟩⟩
theorem q1g {α:Type} {sz base:Nat} {F:(Nat->Prop)->World->α->List Value->Prop} (Fgo:∀ (B B':Nat->Prop) (w w':World) (x:α) (cs:List Value),KeptB B w w'->(∀ b,B b->B' b)->F B w x cs->F B' w' x cs)
  {w wN:World} {u u':Value} {l:List α} {cs:List Value} (h:Rows sz (F (BF base u w) w) l cs) (hk:∀ b,b<w.heap.size->some b≠u.ownBlock->wN.heap[b]?=w.heap[b]?)
  (hu:u'.ownBlock=u.ownBlock\/∀ g,u'.ownBlock=some g->w.heap.size<=g) {x:α} {c:List Value} (hc:c.length=sz) (hx:F (BF base u' wN) wN x c):Rows sz (F (BF base u' wN) wN) (l++[x]) (cs++c) :=
 Rows.snoc hx hc (h.imp λ y d hy=>Fgo _ _ _ _ y d (λ a v hb ha=>(JK (hk a.block hb.1.2.lt hb.2)).trans ha) (λ b hb=>⟨⟨hb.1.1,hb.1.2.same (hk b hb.1.2.lt hb.2)⟩,λ e=>by
  rcases hu with h | h
  ·exact hb.2 (e.trans h)
  ·have:=h b e.symm;have:=hb.1.2.lt;omega⟩) hy)
theorem q9Z {w:World} {A:Option Addr} {c:Nat} {xs:List PhiD} (h:SL w 2 RPhi A c xs):∀ x∈xs,I64 x.dst/\∀ y∈x.args,I64 y:=λ x hx=>by
 obtain ⟨i,hi⟩:=List.getElem?_of_mem hx;obtain ⟨_,_,h3⟩:=h;(obtain ⟨b,o,e,hr⟩:=h3 (by have:=(Jk hi).1;omega));obtain ⟨hd,A',c',-,hs⟩:=hr i x hi;refine ⟨hd.2,λ y hy=>?_⟩;obtain ⟨j,hj⟩:=List.getElem?_of_mem hy;obtain ⟨_,_,h4⟩:=hs;(obtain ⟨b',o',e',tJ⟩:=h4 (by have:=(Jk hj).1;omega));exact (tJ j y hj).2
theorem q2C (r:Nat->Bool) (ahead args:List Int):(zX r ahead args).length<=args.length:=by
 unfold zX;split
 ·exact ke _ _ _
 ·exact J4 _
theorem qA5:∀ (B B':Nat->Prop) (w w':World) (x:PhiD) (cs:List Value),KeptB B w w'->(∀ b,B b->B' b)->CPhi B w x cs->CPhi B' w' x cs:=λ _ _ _ _ _ _ h1 h2 h3=>CPhi.go h1 h2 h3
def qBD (r:Nat->Bool) (ahead:List Int) (phis:List PhiD) (w:World) (e:Ending) (w':World):Prop :=
 (∃ A c,e=.returned (.slice A (phis.map (kB r ahead)).length c)/\SL w' 2 (RPhiB (BG w.heap.size w')) A c (phis.map (kB r ahead)))/\Below w.heap.size w w'
set_option maxRecDepth 100000 in
set_option maxHeartbeats 8000000 in
theorem q4n (H n:Nat) (r:Nat->Bool) (phis:List PhiD) (ahead:List Int) (vp vh:Value) (w:World) (wX:w.rowIs H 4 n (λ x=>.bool (r x))) (hp:VS w 2 RPhi vp phis) (hh:VS w 1 RInt vh ahead)
  (tF:∀ a∈ahead,0<=a/\a<n) (hn:phis.length<=1000) (ha:∀ p∈phis,p.args.length<=1000) :
  Calls Tryz.prog 50 #[vp,vh,.slice (some ⟨H,0,none⟩) n n] w (qBD r ahead phis w):=by
 obtain ⟨A,c,rfl,hs⟩:=hp;have tN:=hh;obtain ⟨Ah,ch,rfl,-⟩:=hh;have hsl:=hs.len;obtain ⟨i0,hi,tc,tg,wW⟩:=info_parts Tryz.info55;have HI:=Jj (And.intro hi (And.intro tc (And.intro tg wW)));clear hi tc tg wW;have sb:=Jj (q9Z hs);have tX:=Jj tF
 have tZ:=Jj ha;clear tF ha;(go_enter Tryz.func50,Tryz.ntmps50);go_wp2_with fail
 go_loopw [7,12] (λ u i wr=>∃ (k:Nat) (cs:List Value),k<=phis.length/\i=.int .i64 k/\Below w.heap.size w wr/\wr.ownsRow w.heap.size 55 2 u k cs/\Rows 2 (CPhi (BF w.heap.size u wr) wr) ((phis.take k).map (kB r ahead)) cs) (λ _ i _=>phis.length - (intOf i).toNat)
 case atStart=>exact ⟨0,[],Nat.zero_le _,rfl,J5 _ _,World.ownsRow_nil _ _ _ _,rfl⟩
 case round =>
  obtain ⟨k,cs,hk,rfl,hb,wk,wg⟩:=hrel;have hz:=hb.size;have HB:=Jj hb;have wU:=Jj wk;have tT:=Jj wg
  by_cases tM:k<phis.length
  ·obtain ⟨bp,op,p,rfl,tz,⟨tK,-⟩,Aa,ca,tL,wJ⟩:=(SPhis.keep (q7 hb) hs).at_ tM;have wM:=Jz tz.out;have hal:=tZ.out p wM;have wQ:=Jj (sb.out p wM);(have HT:Hid ((phis.take (k+1)).map (kB r ahead)=(phis.take k).map (kB r ahead)++[kB r ahead p]):=Jj (by rw [qG tz.out,List.map_append];rfl));obtain ⟨w1,th,tm,tE,td,tQ,tP⟩:=named wr #[.int .i64 p.dst,.slice Aa p.args.length ca] 55;(have wZ:w1.heap[wr.heap.size]?=some (.cells #[.int .i64 p.dst,.slice Aa p.args.length ca] 55 (0,0)):=by rw [th];exact heap_alloc_new _ _);have hpl:=wJ.len;clear hb wk wg wM
   (go_upto_region 5 with fail);rw [<- th];clear tK tL th tQ tP;have x1:=q6 wZ 1;have xf1:=qA wZ 1;obtain ⟨P,hP⟩:∃ P,P=wr.heap.size:=⟨_,rfl⟩;rw [<- hP] at wZ x1 xf1 tm ⊢;have tq:=Jj hP;have wV:Hid (Below w.heap.size w w1):=Jj (HB.out.trans (td.mono hz))
   have ta:=Jj td;have HA:=Jj (q5Q H n r p.args ahead (.slice Aa p.args.length ca) _ w1 (wX.of_block (wV.out.block H wX.lt)) ⟨Aa,ca,rfl,SInts.keep tE wJ⟩ (VInts.keep (q7 wV.out) tN) tX.out (by omega));clear hP td tE wJ;(go_wp2_with fail);refine HA.out.mono ?_;rintro e w2 ⟨⟨va,rfl,ho⟩,wT⟩;obtain ⟨A2,c2,rfl,tG⟩:=yf ho (λ x hx=>wQ.out.2 x (q2B hx)) (base':=w.heap.size) wV.out.size;have wW:=wT.size;have wu:=(wT.block P (by omega)).trans wZ
   have y1:=q6 wu 1;have yf1:=qA wu 1;have wO:=qK (i:=1) (.slice A2 (zX r ahead p.args).length c2) wu;(have tD:KeptB (BG w1.heap.size w2) w2 (w2.setCell ⟨P,1,none⟩ (.slice A2 (zX r ahead p.args).length c2)):=λ a v hb ha=>(JK (JQ _ _ _ _ (by show a.block≠P;have:=hb.1;omega))).trans ha);have tw:SL (w2.setCell ⟨P,1,none⟩ (.slice A2 (zX r ahead p.args).length c2)) 1 (RIntB (λ b=>BG w1.heap.size (w2.setCell ⟨P,1,none⟩ (.slice A2 (zX r ahead p.args).length c2)) b)) A2 c2 (zX r ahead p.args):=by
    obtain ⟨A2',c2',e2,tj⟩:=yf ho (λ x hx=>wQ.out.2 x (q2B hx)) (base':=w1.heap.size) (J4 _);cases e2;exact SIntsB.go tD (λ b hb=>⟨hb.1,hb.2.set _ _ _⟩) tj
   (have tf:Hid (Below w.heap.size w (w2.setCell ⟨P,1,none⟩ (.slice A2 (zX r ahead p.args).length c2))):=Jj ((wV.out.trans (wT.mono wV.out.size)).setCell (by show w.heap.size<=P;rw [tq.out];exact hz) _));(have wR:Hid (Below wr.heap.size wr (w2.setCell ⟨P,1,none⟩ (.slice A2 (zX r ahead p.args).length c2))):=Jj ((ta.out.trans (wT.mono ta.out.size)).setCell (by show wr.heap.size<=P;rw [tq.out];exact J4 _) _));(have tu:w1.heap.size<=(w2.setCell ⟨P,1,none⟩ (.slice A2 (zX r ahead p.args).length c2)).heap.size:=by simpa using wW);clear x1 xf1 ho wT tG tD wZ wu wW;(go_upto_region 6 with fail);clear y1 yf1;have tR:=Jj tw;have hlen3:=q2C r ahead p.args;have HPT:Hid (kB r ahead p=⟨p.dst,zX r ahead p.args⟩):=Jj rfl
   clear tw;generalize w2.setCell ⟨P,1,none⟩ (.slice A2 (zX r ahead p.args).length c2)=w3 at *;have u0:w3.cell? ⟨P,0,none⟩=some (.int .i64 p.dst):=q6 wO 0;have u1:w3.cell? ⟨P,1,none⟩=some (.slice A2 (zX r ahead p.args).length c2):=q6 wO 1;have tr:=Jj (qJ (w':=w3) wU.out (λ g hg=>wR.out.block g (wU.out.lt g hg).2));have HZ3:=Jj tu;have tS:=Jj tm;clear wO tu tm;go_wp2_with (at_builtin;refine wpList_append_lies _ rfl (.tmp 22) (.tmp 24) 48 rfl w.heap.size 55 i0 (.agg #[.int .i64 0,.slice none 0 0]) 2 32 Tryz.underlying48 HI.out.1 HI.out.2.1 HI.out.2.2.1 HI.out.2.2.2 (by rfl) (by decide) _ _ _ rfl (tr.out.alloc _) ⟨w3.heap.size,0,none⟩ 1 1 [.int .i64 p.dst,.slice A2 (zX r ahead p.args).length c2] rfl rfl ?c1 ?c2 ?c0 ?c3 ?c4 ?c5 (w3.heap.size+1) ?c6 ?_)
   case c1=>exact zE w3 #[.int .i64 p.dst,.slice A2 (zX r ahead p.args).length c2] _ rfl
   case c2=>intro u hu;simp only [List.mem_cons,List.not_mem_nil,or_false] at hu;rcases hu with rfl | rfl <;> rfl
   case c0=>omega
   case c3=>unfold maxLen;omega
   case c4=>omega
   case c5=>have:=tf.out.size;simp;omega
   case c6=>simp
   intro g cap w4 wv wh wm hlt4;(have ww:Below w.heap.size w w4:=(tf.out.alloc tf.out.size _).grown wh (by have:=tf.out.size;simp;omega) (λ g hg=>(wU.out.lt g hg).1));(have wj:∀ b,b<w3.heap.size->some b≠(Value.ownBlock _)->w4.heap[b]?=w3.heap[b]?:=λ b hb tp=>(wh.block b (by simp;omega) tp).trans (Below.heap_alloc _ _ _ hb));have tc:=wR.out.size;have wl:Rows 2 (CPhi (BF w.heap.size (.slice (some ⟨g,0,none⟩) (k+1) cap) w4) w4) ((phis.take (k+1)).map (kB r ahead)) (cs++[.int .i64 p.dst,.slice A2 (zX r ahead p.args).length c2]):=by
    rw [HT.out];refine q1g (F:=CPhi) qA5 tT.out (λ b hb tp=>(wj b (by omega) tp).trans (wR.out.block b hb)) ?_ rfl ?_
    ·rcases wm with h | h
     ·exact .inl h.symm
     ·right;intro g' tO;have:g=g':=J3 tO;omega
    ·refine ⟨A2,c2,rfl,?_,wQ.out.1⟩;have tg:=tS.out;have hPw:=tq.out;(refine SIntsB.go (B:=BG w1.heap.size w3) (λ a v hb ha=>(JK (wj a.block hb.2.lt (λ e=>by have:=(wU.out.lt _ e.symm).2;have:=hb.1;omega))).trans ha) (λ b hb=>⟨⟨by have:=wV.out.size;have:=hb.1;omega,hb.2.same (wj b hb.2.lt (λ e=>by have:=(wU.out.lt _ e.symm).2;have:=hb.1;omega))⟩,λ e=>?_⟩) tR.out);have hbg:b=g:=J3 e;have td:=hb.1;have wT:=hb.2.lt;rcases wm with h | h
     ·have:=(wU.out.lt _ h).2;omega
     ·omega
   have tY:=Jj ww;have tW:Hid (w4.ownsRow w.heap.size 55 2 (.slice (some ⟨g,0,none⟩) (k+1) cap) (k+1) (cs++[.int .i64 p.dst,.slice A2 (zX r ahead p.args).length c2])):=Jj wv;have tV:=Jj wl;clear wv wh wm ww wj wl u0 u1 tc;go_wp2_with fail
   go_roundw
   case rel=>exact ⟨k+1,_,by omega,by go_num,tY.out,tW.out,tV.out⟩
   case measure=>simp [intOf];omega
  ·have tC:phis.take k=phis:=List.take_of_length_le (by omega);(have tB:k=(phis.map (kB r ahead)).length:=by simp;omega);rw [tC] at wg;rw [tB] at wk;have tH:=wg.reads (R:=RPhiB (BG w.heap.size wr)) wk (λ g o x c hg hb hx hc wY=>CPhi.reads ⟨hb,Fz.own wk hg⟩ (CPhi.go (λ _ _ _ h=>h) (λ b hb=>hb.1) hx) wY);obtain ⟨Ar,cr,hu,tx⟩:=tH;have tU:=Jj tx;have HU:=Jj hu;clear hb wk wg tx hu tB tC
   (go_wp2_with fail);(go_ret);exact ⟨⟨Ar,cr,by exact congrArg Ending.returned HU.out,tU.out⟩,HB.out⟩
def qk (lab:Nat->Nat) (n t:Nat):Nat->Nat:=λ k=>if k<n then lab k else t
theorem qT {lab:Nat->Nat} {n t k:Nat} (h:k<n):qk lab n t k=lab k:=if_pos h
theorem ze {lab:Nat->Nat} {n t k:Nat} (h:n<=k):qk lab n t k=t:=if_neg (by omega)
def q3J (lab:Nat->Nat) (s:Nat):Nat->Nat:=λ k=>if lab k=s then 0 else lab k
theorem q9U {lab:Nat->Nat} {s k:Nat} (h:lab k=s):q3J lab s k=0:=if_pos h
theorem q1h {lab:Nat->Nat} {s k t:Nat} (h:lab k=t) (hs:t≠s):q3J lab s k=t:=by unfold q3J;rw [if_neg (by rw [h];exact hs),h]
def Chg (w w':World) (lab:Nat->Nat) (S:Nat->Prop):Prop:=FrX (λ k=>S (lab k)) w w'
theorem Chg.of_below {w w':World} {lab:Nat->Nat} {S:Nat->Prop} (h:Below w.heap.size w w'):Chg w w' lab S:=FrX.of_below h
structure LRw (w:World) (K:Nat) (lab:Nat->Nat) (t:Nat) (ty:TypeId) (sz:Nat) (v:Value) (n:Nat) (xs:List Value):Prop where
 own:w.ownsRow K ty sz v n xs
 lb:∀ g,v.ownBlock=some g->lab g=t
section
variable {w w':World} {K t t2 n n' j s sz g cap:Nat} {lab:Nat->Nat} {S:Nat->Prop} {ty:TypeId} {v v' u:Value} {xs xs':List Value}
theorem LRw.nil (w:World) (K:Nat) (lab:Nat->Nat) (t:Nat) (ty:TypeId) (sz:Nat):LRw w K lab t ty sz (.slice none 0 0) 0 []:=⟨World.ownsRow_nil _ _ _ _,λ g hg=>by cases hg⟩
theorem LRw.chg (h:LRw w K lab t ty sz v n xs) (hc:Chg w w' lab S) (hn:¬ S t):LRw w' K (qk lab w.heap.size t2) t ty sz v n xs :=
 ⟨qJ h.own λ g hg=>hc.block g (h.own.lt g hg).2 (by rw [h.lb g hg];exact hn),λ g hg=>by rw [qT (h.own.lt g hg).2];exact h.lb g hg⟩
theorem LRw.chg0 (h:LRw w K lab t ty sz v n xs) (hc:Chg w w' lab S) (hn:¬ S t):LRw w' K lab t ty sz v n xs :=
 ⟨qJ h.own λ g hg=>hc.block g (h.own.lt g hg).2 (by rw [h.lb g hg];exact hn),h.lb⟩
theorem LRw.gro (h:LRw w K lab t ty sz v n xs) (hg:GroD w w' v v') (ho:w'.ownsRow K ty sz v' n' xs'):LRw w' K (qk lab w.heap.size t) t ty sz v' n' xs' :=
 ⟨ho,λ g wg=>by
  rcases hg.own g wg with e | e
  ·rw [qT (h.own.lt g e).2];exact h.lb g e
  ·exact ze e⟩
theorem LRw.chgGro (h:LRw w K lab t ty sz v n xs) (hg:GroD w w' v v'):Chg w w' lab (λ k=>k=t) :=
 ⟨hg.os,hg.tape,hg.output,hg.size,λ k hk hs=>hg.block k hk (λ e=>hs (h.lb k e))⟩
theorem LRw.rel (h:LRw w K lab t ty sz v n xs) (hs:t≠s):LRw w K (q3J lab s) t ty sz v n xs:=⟨h.own,λ g hg=>q1h (h.lb g hg) hs⟩
theorem LRw.rel0 (h:LRw w K lab s ty sz v n xs):LRw w K (q3J lab s) 0 ty sz v n xs:=⟨h.own,λ g hg=>q9U (h.lb g hg)⟩
theorem LRw.put (h:LRw w K lab t ty sz (.slice (some ⟨g,0,none⟩) n cap) n xs) (i:Nat) (u:Value):LRw (w.setCell ⟨g,i,none⟩ u) K lab t ty sz (.slice (some ⟨g,0,none⟩) n cap) n (xs.set i u) :=
 ⟨(h.own.stored i u).1,h.lb⟩
theorem LRw.chgPut (h:LRw w K lab t ty sz (.slice (some ⟨g,0,none⟩) n cap) n xs) (i:Nat) (u:Value):Chg w (w.setCell ⟨g,i,none⟩ u) lab (λ k=>k=t) :=
 (FrX.refl _ _).setCell (p:=⟨g,i,none⟩) (.inl (h.lb g rfl)) u
theorem Chg.mono {S':Nat->Prop} (h:Chg w w' lab S) (hs:∀ t,S t->S' t):Chg w w' lab S':=FrX.mono h λ k _ hk=>hs _ hk
theorem Chg.trans {w'':World} (h:Chg w w' lab S) (k:Chg w' w'' lab S):Chg w w'' lab S:=FrX.trans h k
theorem Chg.set (S:Nat->Prop) (hg:S (lab g)) (i:Nat) (u:Value):Chg w (w.setCell ⟨g,i,none⟩ u) lab S:=(FrX.refl _ _).setCell (p:=⟨g,i,none⟩) (.inl hg) u
theorem Chg.then_ {w'':World} (h:Chg w w' lab S) (k:Chg w' w'' (qk lab w.heap.size t2) S):Chg w w'' lab S :=
 ⟨k.os.trans h.os,k.tape.trans h.tape,k.output.trans h.output,Nat.le_trans h.size k.size,λ y hy hS =>
  (k.block y (Nat.lt_of_lt_of_le hy h.size) (λ e=>hS (by
   have e':S (qk lab w.heap.size t2 y):=e
   rwa [qT hy] at e'))).trans (h.block y hy hS)⟩
theorem LRw.cell (h:LRw w K lab t ty sz (.slice (some ⟨g,0,none⟩) n cap) n xs) {i:Nat} {u:Value} (hu:xs[i]?=some u) (hi:i<n * sz):w.cell? ⟨g,i,none⟩=some u:=by rw [h.own.cellAt i hi];exact hu
theorem LRw.form (h:LRw w K lab t ty sz v n xs) (hn:0<n):∃ g cap,v=.slice (some ⟨g,0,none⟩) n cap:=by obtain ⟨g,cap,e,-,-⟩:=h.own.form hn;exact ⟨g,cap,e⟩
end
def RdV (w:World) (lab:Nat->Nat) (v:Value) (l:List Int):Prop:=VS w 1 (RIntB λ g=>lab g=0/\Fz w g) v l
theorem RdV.go {w w':World} {lab lab':Nat->Nat} {v:Value} {l:List Int} (h:RdV w lab v l) (hk:∀ y,y<w.heap.size->lab y=0->w'.heap[y]?=w.heap[y]?/\lab' y=0):RdV w' lab' v l:=by
 obtain ⟨A,c,e,h1⟩:=h;exact ⟨A,c,e,SIntsB.go (λ a v hb ha=>(JK (hk a.block hb.2 hb.1.1).1).trans ha) (λ b hb=>⟨(hk b hb.2 hb.1.1).2,hb.1.2.same (hk b hb.2 hb.1.1).1⟩) (SIntsB.lt h1)⟩
theorem RdV.chg {w w':World} {t2:Nat} {lab:Nat->Nat} {S:Nat->Prop} {v:Value} {l:List Int} (h:RdV w lab v l) (hc:Chg w w' lab S) (h0:¬ S 0):RdV w' (qk lab w.heap.size t2) v l :=
 h.go λ y hy hl=>⟨hc.block y hy (by rw [hl];exact h0),by rw [qT hy];exact hl⟩
theorem RdV.chg0 {w w':World} {lab:Nat->Nat} {S:Nat->Prop} {v:Value} {l:List Int} (h:RdV w lab v l) (hc:Chg w w' lab S) (h0:¬ S 0):RdV w' lab v l :=
 h.go λ y hy hl=>⟨hc.block y hy (by rw [hl];exact h0),hl⟩
theorem RdV.rel {w:World} {s:Nat} {lab:Nat->Nat} {v:Value} {l:List Int} (h:RdV w lab v l) (hs:s≠0):RdV w (q3J lab s) v l :=
 h.go λ y hy hl=>⟨rfl,q1h hl (Ne.symm hs)⟩
theorem RdV.plain {w:World} {lab:Nat->Nat} {v:Value} {l:List Int} (h:RdV w lab v l):VS w 1 RInt v l:=by
 obtain ⟨A,c,e,h1⟩:=h;exact ⟨A,c,e,SL.imp (λ b o x hx=>hx.2) h1⟩
theorem RdV.of_own {w:World} {K:Nat} {lab:Nat->Nat} {v:Value} {l:List Int} (h:LRw w K lab 0 3 1 v l.length (l.map (Value.int .i64))) (wh:∀ x∈l,I64 x):RdV w lab v l:=by
 obtain ⟨A,c,e,h1,h2,h3⟩:=ql h.own wh;refine ⟨A,c,e,h1,h2,λ hp=>?_⟩;obtain ⟨b,o,e2,hr⟩:=h3 hp;exact ⟨b,o,e2,λ i x hi=>⟨⟨h.lb b (by rw [e,e2];rfl),Fz.own h.own (by rw [e,e2];rfl)⟩,hr i x hi⟩⟩
section
variable {α:Type} {f:α->List Value} {sz:Nat}
theorem q3w (hf:∀ x,(f x).length=sz):∀ (l:List α),(l.flatMap f).length=l.length * sz
 | []=>by simp
 | x::l=>by rw [List.flatMap_cons,List.length_append,hf,q3w hf l,List.length_cons,Nat.succ_mul];omega
theorem yX (hf:∀ x,(f x).length=sz):∀ {l:List α} {i j:Nat} {x:α},l[i]?=some x->j<sz->(l.flatMap f)[i * sz+j]?=(f x)[j]?
 | [],i,j,x,h,_=>by simp at h
 | y::l,0,j,x,h,hj=>by
  (obtain rfl:y=x:=by simpa using h);rw [List.flatMap_cons,Nat.zero_mul,Nat.zero_add,List.getElem?_append_left (by rw [hf];exact hj)]
 | y::l,i+1,j,x,h,hj=>by
  (rw [List.flatMap_cons,List.getElem?_append_right (by rw [hf,Nat.succ_mul];omega),hf,show (i+1) * sz+j - sz=i * sz+j by rw [Nat.succ_mul];omega]);exact yX hf (by simpa using h) hj
theorem q0y (hf:∀ x,(f x).length=sz):∀ {l:List α} {i j:Nat} {x x':α} {u:Value},l[i]?=some x->j<sz->f x'=(f x).set j u->(l.flatMap f).set (i * sz+j) u=(l.set i x').flatMap f
 | [],i,j,x,x',u,h,_,_=>by simp at h
 | y::l,0,j,x,x',u,h,hj,he=>by
  (obtain rfl:y=x:=by simpa using h);rw [J1,List.flatMap_cons,List.flatMap_cons,he,Nat.zero_mul,Nat.zero_add,List.set_append_left _ _ (by rw [hf];exact hj)]
 | y::l,i+1,j,x,x',u,h,hj,he=>by
  (rw [J2,List.flatMap_cons,List.flatMap_cons,List.set_append_right _ _ (by rw [hf,Nat.succ_mul];omega),hf,show (i+1) * sz+j - sz=i * sz+j by rw [Nat.succ_mul];omega]);rw [q0y hf (by simpa using h) hj he]
end
end Go.Proofs.YtfoggldjjnabcaaGreatDoor

namespace Go.Proofs.YtfoggldjjnabcaaGreatDoor
open Go.ChangeShapes Go.WideShapes Go.RowKit Go.Deep
section
variable {P:Program} {ops:Array Oper} {Q:Exit->Act->World->Prop} {md:Region.Mode}
def q3S (l:Array Bool):Nat:=l.toList.countP λ b=>!b
theorem q1m {l:Array Bool} {i:Nat} (hi:i<l.size) (h:l.getD i true=false):q3S (l.setIfInBounds i true)+1=q3S l:=by
 unfold q3S;rw [Array.toList_setIfInBounds];(have hl:i<l.toList.length:=by simpa using hi);(have h0:l.toList[i]=false:=by simpa [Array.getD,hi] using h);have:=List.countP_set (p:=λ b=>!b) (l:=l.toList) (i:=i) (a:=true) hl;(have e1:(if (!l.toList[i])=true then 1 else 0)=1:=by rw [h0];rfl);have e2:(if (!true)=true then 1 else 0)=0:=rfl;rw [e1,e2] at this;rw [this]
 (have hp:0<l.toList.countP λ b=>!b:=List.countP_pos_iff.2 ⟨false,by rw [<- h0];exact List.getElem_mem hl,rfl⟩);omega
theorem q1b {I:Array Bool->Act->World->Prop} (hI:∀ l a w,I l a w->l.size=ops.size)
  (h:∀ l a w,I l a w->(Region.ready md ops l=[]->Q .normal a w)/\∀ i∈Region.ready md ops l,wpOp P ops Q i (λ a' w'=>I (l.setIfInBounds i true) a' w') a w) :
  ∀ fuel l a w,I l a w->q3S l<=fuel->wpAny P md ops Q fuel l a w
 | 0,l,a,w,hi,hf=>by
  have hr:Region.ready md ops l=[]:=by
   rw [List.eq_nil_iff_forall_not_mem];intro i hm;obtain ⟨h1,o,ho,-⟩:=mem_ready.1 hm;(have wg:i<l.size:=by rw [hI _ _ _ hi];exact (Array.getElem?_eq_some_iff.1 ho).1);have:=q1m wg h1;omega
  exact ⟨hr,(h l a w hi).1 hr⟩
 | fuel+1,l,a,w,hi,hf=>by
  refine ⟨(h l a w hi).1,λ i hm=>?_⟩;obtain ⟨h1,o,ho,-⟩:=mem_ready.1 hm;(have wg:i<l.size:=by rw [hI _ _ _ hi];exact (Array.getElem?_eq_some_iff.1 ho).1);have:=q1m wg h1;exact wpOp_mono (λ a' w' h'=>q1b hI h fuel _ a' w' h' (by omega)) ((h l a w hi).2 i hm)
theorem q1N {id:Nat} {a:Act} {w:World} (I:Array Bool->Act->World->Prop) (hm:P.follows .mixedOrders=true) (hI:∀ l a w,I l a w->l.size=ops.size)
  (h:∀ l a w,I l a w->(Region.ready .any ops l=[]->Q .normal a w)/\∀ i∈Region.ready .any ops l,wpOp P ops Q i (λ a' w'=>I (l.setIfInBounds i true) a' w') a w)
  (h0:I (Array.replicate ops.size false) a w.drew):(Code.region id ops true).wp P Q a w:=by
 refine wp_region_any hm (q1b hI h _ _ _ _ h0 ?_);unfold q3S;refine Nat.le_trans (List.countP_le_length) ?_;simp
theorem q7Y {i:Nat} {K:Act->World->Prop} {a:Act} {w:World}
  (h:∀ o,ops[i]?=some o->∀ K':Act->World->Prop,RowKit.Hid (∀ a' w',K a' w'->K' a' w')->if Region.wanted o (yielded ops a.tmps)=true then Oper.wp P o a w K' Q else K' (a.put o.dst undef) w) (wg:i<ops.size):wpOp P ops Q i K a w:=by
 unfold wpOp;rw [Array.getElem?_eq_getElem wg];have h1:=h ops[i] (Array.getElem?_eq_getElem wg) K (Jj λ _ _ h=>h);dsimp only
 split
 ·rename_i hw;rw [if_pos hw] at h1;exact .inl h1
 ·rename_i hw;rw [if_neg hw] at h1;exact h1
theorem qQ {l:Array Bool} {i j:Nat} (h:(l.setIfInBounds i true)[j]?=some true) (wh:i≠j):l[j]?=some true:=by
 rw [Array.getElem?_setIfInBounds,if_neg wh] at h;exact h
end
end Go.Proofs.YtfoggldjjnabcaaGreatDoor
