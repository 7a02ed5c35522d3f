/- The program's nameWithin: a block's instructions and its end get their versions. -/
import Derived.Test.YtfoggldjjnabcaaGreatDoorModAK
import Derived.Test.YtfoggldjjnabcaaGreatDoorSpOK
import Derived.StillTailTactics
set_option linter.unusedVariables false
set_option linter.unusedSimpArgs false
namespace Go.Proofs.YtfoggldjjnabcaaGreatDoor
open Go.ChangeShapes Go.WideShapes Go.RowKit Go.Deep
def stA (al:List Int) (od nd:Int):List Int:=if 0<=nd then al.set od.toNat nd else al
def alK (al:List Int) (oi l:List qN):Nat->List Int
 | 0=>al
 | k+1=>stA (alK al oi l k) (oi.getD k default).dst (l.getD k default).dst
def nmI (al:List Int) (oi l:List qN) (k:Nat) (x:qN):qN:=⟨x.op,x.dst,xV (alK al oi l k) x.args,x.imm,x.fn⟩
def nmK (al:List Int) (oi l:List qN) (k:Nat):List qN:=l.mapIdx λ j x=>if j<k then nmI al oi l j x else x
theorem q9S (al:List Int) (od nd:Int):(stA al od nd).length=al.length:=by unfold stA;split <;> simp
theorem j9 (al:List Int) (oi l:List qN):∀ k,(alK al oi l k).length=al.length
 | 0=>rfl
 | k+1=>by unfold alK;rw [q9S,j9 al oi l k]
theorem kP {al:List Int} {oi l:List qN} (h:∀ z∈al,I64 z) (hl:∀ x∈l,I64 x.dst):∀ k,∀ z∈alK al oi l k,I64 z
 | 0=>h
 | k+1=>by
  intro z hz;unfold alK stA at hz
  split at hz
  ·rcases List.mem_or_eq_of_mem_set hz with h1 | h1
   ·exact kP h hl k z h1
   ·rw [h1,JJ];cases hx:l[k]? with
    | none=>unfold I64;decide
    | some x=>exact hl x (Jz hx)
  ·exact kP h hl k z hz
theorem q8G (al:List Int) (oi l:List qN):nmK al oi l 0=l:=by
 unfold nmK;apply List.ext_getElem?;intro i;rw [List.getElem?_mapIdx];cases l[i]? <;> simp
theorem q9k (al:List Int) (oi l:List qN) {k:Nat} (h:l.length<=k):nmK al oi l k=l.mapIdx (nmI al oi l):=by
 unfold nmK;apply List.ext_getElem?;intro i;rw [List.getElem?_mapIdx,List.getElem?_mapIdx];cases hi:l[i]? with
 | none=>rfl
 | some x=>have:=(Jk hi).1;simp;omega
theorem qAb {al:List Int} {oi l:List qN} {k:Nat} {x:qN} (h:l[k]?=some x):(nmK al oi l k)[k]?=some x:=by unfold nmK;rw [List.getElem?_mapIdx,h];simp
theorem q9j {al:List Int} {oi l:List qN} {k:Nat} {x:qN} (h:l[k]?=some x):(nmK al oi l k).set k (nmI al oi l k x)=nmK al oi l (k+1):=by
 unfold nmK;apply List.ext_getElem?;intro i;rw [List.getElem?_set,List.getElem?_mapIdx,List.getElem?_mapIdx]
 by_cases e:k=i
 ·subst e;have:=(Jk h).1;rw [if_pos rfl,if_pos (by simp;exact this),h];simp
 ·rw [if_neg e];cases l[i]? with
  | none=>rfl
  | some y =>
   by_cases h1:i<k
   ·simp [h1,Nat.lt_succ_of_lt h1]
   ·simp [h1,show ¬ i<k+1 by omega]
theorem q7A {L:Nat->Nat} {n:Nat} (h:∀ k,n<=k->L k=0):qk L n 0=L:=by
 (funext k);unfold qk
 by_cases e:k<n
 ·rw [if_pos e]
 ·rw [if_neg e,h k (by omega)]
theorem InsO.put {w:World} {K t g c k:Nat} {lab:Nat->Nat} {l:List qN} {ys:List (qN × Value)} {x:qN} {v va:Value} {la:List Int} (h:InsO w K lab t (.slice (some ⟨g,0,none⟩) ys.length c) l ys) (hx:ys[k]?=some (x,va)) (ht:t≠0) (hv:RdV w lab v la) :
  InsO (w.setCell ⟨g,k * 5+2,none⟩ v) K lab t (.slice (some ⟨g,0,none⟩) ys.length c) (l.set k ⟨x.op,x.dst,la,x.imm,x.fn⟩) (ys.set k (⟨x.op,x.dst,la,x.imm,x.fn⟩,v)):=by
 have hc:=h.row.chgPut (k * 5+2) v;have hr:=h.row.put (k * 5+2) v;refine ⟨?_,by rw [List.map_set,h.are],λ y hy=>?_⟩
 ·rw [q0y q0O hx (by omega) (x':=(⟨x.op,x.dst,la,x.imm,x.fn⟩,v)) rfl] at hr;rw [List.length_set];exact hr
 ·rcases List.mem_or_eq_of_mem_set hy with h1 | h1
  ·exact (h.rd y h1).chg0 hc (Ne.symm ht)
  ·rw [h1];exact hv.chg0 hc (Ne.symm ht)
theorem q7b {l xs:List Int} (h:∀ z∈l,I64 z):∀ y∈xV l xs,I64 y:=by
 intro y hy;unfold xV at hy;obtain ⟨a,-,rfl⟩:=List.mem_map.1 hy;unfold atV;rw [JJ];cases hx:l[a.toNat]? with
 | none=>unfold I64;decide
 | some z=>exact h z (Jz hx)
theorem q7a (l xs:List Int):(xV l xs).length=xs.length:=by unfold xV;simp
theorem LRw.drew {w:World} {K t sz n:Nat} {lab:Nat->Nat} {ty:TypeId} {v:Value} {xs:List Value} (h:LRw w K lab t ty sz v n xs):LRw w.drew K lab t ty sz v n xs:=⟨h.own,h.lb⟩
theorem InsO.chg0' {w w':World} {K t:Nat} {lab:Nat->Nat} {S:Nat->Prop} {v:Value} {l:List qN} {ys:List (qN × Value)} (h:InsO w K lab t v l ys) (hc:Chg w w' lab S) (h0:¬ S 0) (hn:¬ S t):InsO w' K lab t v l ys :=
 ⟨h.row.chg0 hc hn,h.are,λ y hy=>(h.rd y hy).chg0 hc h0⟩
theorem InsO.len {w:World} {K t:Nat} {lab:Nat->Nat} {v:Value} {l:List qN} {ys:List (qN × Value)} (h:InsO w K lab t v l ys):ys.length=l.length:=by have:=congrArg List.length h.are;rwa [List.length_map] at this
theorem InsO.at_ {w:World} {K t k:Nat} {lab:Nat->Nat} {v:Value} {l:List qN} {ys:List (qN × Value)} {x:qN} (h:InsO w K lab t v l ys) (hx:l[k]?=some x):∃ va,ys[k]?=some (x,va)/\RdV w lab va x.args:=by
 have h1:=h.are;rw [<- h1,List.getElem?_map] at hx;obtain ⟨y,hy,rfl⟩:=Option.map_eq_some_iff.1 hx;exact ⟨y.2,hy,h.rd y (Jz hy)⟩
theorem InsO.cells {w:World} {K t k g c n:Nat} {lab:Nat->Nat} {l:List qN} {ys:List (qN × Value)} {x:qN} {va:Value} (h:InsO w K lab t (.slice (some ⟨g,0,none⟩) n c) l ys) (hx:ys[k]?=some (x,va)) (hn:n=ys.length) :
  w.cell? ⟨g,k * 5+1,none⟩=some (.int .i64 x.dst)/\w.cell? ⟨g,k * 5+2,none⟩=some va/\∀ j,w.frozen? ⟨g,j,none⟩=false:=by
 subst hn;have hk:=(Jk hx).1;exact ⟨h.row.cell (by rw [yX q0O hx (by omega)];rfl) (by omega),h.row.cell (by rw [yX q0O hx (by omega)];rfl) (by omega),λ j=>h.row.own.frozenAt j⟩
def qBF (w:World) (K:Nat) (lab:Nat->Nat) (B o tI tA:Nat) (vi vat:Value) (oi l:List qN) (al:List Int) (a:Int) (e:Ending) (w':World):Prop :=
 e=.returned (.tuple #[])/\Chg w w' lab (λ k=>k=3\/k=tI\/k=tA)/\(∃ ys,InsO w' K (qk lab w.heap.size 0) tI vi (l.mapIdx (nmI al oi l)) ys)/\LRw w' K (qk lab w.heap.size 0) tA 3 1 vat al.length ((alK al oi l l.length).map (Value.int .i64)) /\
  ((0<=a/\w'.heap[B]?=(w.setCell ⟨B,o+3,none⟩ (.int .i64 (atV (alK al oi l l.length) a))).heap[B]?)\/(a<0/\w'.heap[B]?=w.heap[B]?))
theorem q1O {w w':World} {B:Nat} (h:w.heap[B]?=w'.heap[B]?) (i:Nat) (v:Value):(w.setCell ⟨B,i,none⟩ v).heap[B]?=(w'.setCell ⟨B,i,none⟩ v).heap[B]?:=by
 unfold World.setCell;simp only [Array.getElem?_modify,h]
set_option maxRecDepth 100000 in
set_option maxHeartbeats 16000000 in
theorem q0m (wb w:World) (K B o tI tA ca:Nat) (Aat:Option Addr) (lab:Nat->Nat) (oi l:List qN) (ys:List (qN × Value)) (al:List Int) (a oa kd:Int) (Av Ap Ai At:Option Addr) (cv np cp ci nt ct:Nat)
  (hcI:w.cell? ⟨B,o+1,none⟩=some (.slice Av l.length cv)) (tK:w.cell? ⟨B,o+3,none⟩=some (.int .i64 a)) (hfz:∀ j,w.frozen? ⟨B,j,none⟩=false) (hlB:lab B=3)
  (hI:InsO w K lab tI (.slice Av l.length cv) l ys) (tH:SL wb 5 RIns Ai ci oi) (hb:Below wb.heap.size wb w) (wv:∀ k,k<wb.heap.size->lab k<=1) (hA:LRw w K lab tA 3 1 (.slice Aat al.length ca) al.length (al.map (Value.int .i64)))
  (htI:3<tI) (htA:3<tA/\tA≠tI) (wk:oi.length=l.length) (hl1:l.length<=1000) (hal:al.length<=1000) (tO:∀ z∈al,I64 z) (hargs:∀ x∈l,x.args.length<=1000/\∀ y∈x.args,0<=y/\y<al.length)
  (ww:∀ (k:Nat) (x y:qN),l[k]?=some x->oi[k]?=some y->I64 x.dst/\(0<=x.dst->0<=y.dst/\y.dst<al.length)) (hKw:K<=w.heap.size) (harg:a<al.length) :
  Calls Tryz.prog 63 #[.pointer (some ⟨B,o,none⟩),.agg #[.slice Ap np cp,.slice Ai oi.length ci,.int .i64 kd,.int .i64 oa,.slice At nt ct],.slice Aat al.length ca] w (qBF w K lab B o tI tA (.slice Av l.length cv) (.slice Aat al.length ca) oi l al a):=by
 have HI:=Jj hI;have sd:=Jj tH;have HB:=Jj hb;have wQ:=Jj wv;have HA:=Jj hA;have HT:=Jj (And.intro htI htA);have tW:=Jj tO;have sk:=Jj hargs;have HD:=Jj ww
 have si:=Jj hfz;have tx:=Jj (And.intro hcI tK);have tu:=Jj hlB;have tq:=Jj wk;have hBl:=block_lt_of_cell hcI;rw [wk];clear hI tH hb wv hA htI htA tO hargs ww hfz hcI tK hlB wk;obtain ⟨L,hL⟩:∃ L,L=qk lab w.heap.size 0:=⟨_,rfl⟩;have HL:=Jj hL
 (go_enter Tryz.func63,Tryz.ntmps63);(go_upto_region 1 with fail);obtain ⟨w1,tD,tF,tf,wg,tM,-⟩:=named w #[.slice Ap np cp,.slice Ai l.length ci,.int .i64 kd,.int .i64 oa,.slice At nt ct] 51;rw [<- tD];obtain ⟨N4,hN4⟩:∃ N4,N4=w.heap.size:=⟨_,rfl⟩;(have HN:Hid (w1.cell? ⟨N4,1,none⟩=some (.slice Ai l.length ci)/\N4=w.heap.size/\w1.heap.size=N4+1):=Jj ⟨by rw [hN4];exact tM 1 _ rfl,hN4,by rw [tF,hN4]⟩);have hcI:=tf _ _ tx.out.1;have tU:Hid (Chg w w1 lab (λ k=>k=tI\/k=tA)/\w1.heap[B]?=w.heap[B]?):=Jj ⟨Chg.of_below wg,wg.block B hBl⟩;have sh:Hid (InsO w1 K L tI (.slice Av l.length cv) (nmK (al) oi l 0) ys):=Jj (by rw [hL,q8G];exact HI.out.chg (S:=λ _=>False) (Chg.of_below wg) (λ e=>e) (λ e=>e))
 (have sm:Hid (LRw w1 K L tA 3 1 (.slice Aat al.length ca) al.length ((alK al oi l 0).map (Value.int .i64))):=Jj (by rw [hL];exact HA.out.chg (S:=λ _=>False) (Chg.of_below wg) (λ e=>e)));rw [<- hN4];clear tD tF tf wg tM hN4 hL;(go_wp2_with fail);clear hcI
 go_loopw [13] (λ s13 wq=>∃ (k:Nat) (ys:List (qN × Value)),k<=l.length/\s13=.int .i64 (k:Int)/\InsO wq K L tI (.slice Av l.length cv) (nmK al oi l k) ys/\LRw wq K L tA 3 1 (.slice Aat al.length ca) al.length ((alK al oi l k).map (Value.int .i64))/\Chg w wq lab (λ k=>k=tI\/k=tA)/\wq.heap[B]?=w.heap[B]?/\wq.heap[N4]?=w1.heap[N4]?/\w1.heap.size<=wq.heap.size) (λ s13 _=>l.length - (intOf s13).toNat)
 case atStart=>exact ⟨0,ys,Nat.zero_le _,rfl,sh.out,sm.out,tU.out.1,tU.out.2,rfl,J4 _⟩
 case round =>
  obtain ⟨k,ys,hk,rfl,hI,hA,hC,hB,hN,hz⟩:=hrel;have HI:=Jj hI;have HA:=Jj hA;have HC:=Jj hC;have tz:=Jj hB;have sf:=Jj hN;have HZ:=Jj hz;(have sj:Hid (Below wb.heap.size wb wr):=Jj (HB.out.trans ⟨hC.os,hC.tape,hC.output,hC.size,λ y hy=>hC.block y (by have:=HB.out.size;omega) (by have h1:=wQ.out y hy;have h2:=HT.out;show ¬ (lab y=tI\/lab y=tA);omega)⟩));have bI:=(JK (a:=⟨B,o+1,none⟩) hB).trans tx.out.1
  (have wV:Hid (∀ y,w.heap.size<=y->L y=0):=Jj (λ y hy=>by rw [HL.out];exact ze hy));have hzw:w.heap.size<=wr.heap.size:=by have:=HN.out;omega
  by_cases td:k<l.length
  ·(have hk0:(0:Int)<=k:=by omega);(have tf:(k:Int)<l.length:=by omega);obtain ⟨x,hx⟩:∃ x,l[k]?=some x:=⟨_,Jq td⟩;obtain ⟨va,hy,tY⟩:=hI.at_ (qAb (al:=al) (oi:=oi) hx);(have wX:ys.length=l.length:=by rw [hI.len];unfold nmK;simp);obtain ⟨gI,cI,hAv⟩:=hI.row.form (by omega);(obtain ⟨hAv1,-,-⟩:Av=some ⟨gI,0,none⟩/\l.length=ys.length/\cv=cI:=by simpa using hAv);subst hAv1;obtain ⟨d1,d2,df⟩:=hI.cells hy wX.symm
   have df2:=df (k * 5+2);obtain ⟨Aa,ca2,tE,-⟩:=tY;have wZ:=tE;subst tE;(obtain ⟨bo,oo,xo,rfl,wY,-,⟨p1,-⟩,-,-,-⟩:=sd.out.at_ (k:=k) (by rw [tq.out];exact td));obtain ⟨tj,tN⟩:=sk.out x (Jz hx);obtain ⟨hd64,tJ⟩:=HD.out k x xo hx wY.out;have wO:=Jj (And.intro hx wY.out)
   have tP:=Jj (q2N x.args (alK al oi l k) (.slice Aa x.args.length ca2) (.slice Aat al.length ca) wr (hI.rd _ (Jz hy)).plain (ql (by rw [j9];exact hA.own) (kP tW.out (λ z hz=>by
    obtain ⟨j,hj⟩:=List.getElem?_of_mem hz;have tg:=(Jk hj).1;obtain ⟨yo,wW⟩:∃ yo,oi[j]?=some yo:=⟨_,Jq (by rw [tq.out];exact tg)⟩
    exact (HD.out j z yo hj wW).1) k)) (λ y hy=>by rw [j9];exact tN y hy) tj)
   have HY:=Jj hy;have wU:=Jj wX;have sc:=Jj p1;have tT:=Jj tJ;have hbsz:=sj.out.size;clear hI hA hC hB hN hz hx hy hAv wZ df wX tN tJ wY p1;(go_upto_region 6 with (go_at_call 100;refine tP.out.mono ?_;rintro e w5 ⟨⟨v5,rfl,tc⟩,wM⟩;obtain ⟨A5,c5,rfl⟩:=qX tc;have e1:=(q7 wM) _ _ d1;have e2:=(q7 wM) _ _ d2;have ef:=(World.frozen?_of_block (a:=⟨gI,k * 5+2,none⟩) (wM.block gI (block_lt_of_cell d2))).trans df2;have tQ:=Jj tc;have tB:=Jj wM;clear tc wM d1 d2 df2));clear e2 ef tP;obtain ⟨w6,wR⟩:∃ w6,w6=w5.setCell ⟨gI,k * 5+2,none⟩ (.slice A5 x.args.length c5):=⟨_,rfl⟩
   have tL:Chg wr w5 L (λ k=>k=tI):=Chg.of_below tB.out;have wT:qk L wr.heap.size 0=L:=q7A (λ y hy=>wV.out y (by omega));have hI5:InsO w5 K L tI (.slice (some ⟨gI,0,none⟩) ys.length cv) (nmK al oi l k) ys:=by
    have h:=HI.out.chg (t2:=0) (S:=λ _=>False) (Chg.of_below tB.out) (λ e=>e) (λ e=>e);rw [wT] at h;rw [wU.out];exact h
   have hA5:LRw w5 K L tA 3 1 (.slice Aat al.length ca) al.length ((alK al oi l k).map (Value.int .i64)):=by
    have h:=HA.out.chg (t2:=0) (S:=λ _=>False) (Chg.of_below tB.out) (λ e=>e);rw [wT] at h;exact h
   have wu:RdV w5 L (.slice A5 x.args.length c5) (xV (alK al oi l k) x.args):=RdV.of_own (K:=K) ⟨by rw [q7a];exact zw tQ.out (by omega),λ g hg=>wV.out g (by have:=(tQ.out.lt g hg).1;omega)⟩ (q7b (kP tW.out (λ z hz=>by
    obtain ⟨j,hj⟩:=List.getElem?_of_mem hz;have tg:=(Jk hj).1;obtain ⟨yo,wW⟩:∃ yo,oi[j]?=some yo:=⟨_,Jq (by rw [tq.out];exact tg)⟩
    exact (HD.out j z yo hj wW).1) k))
   (have th:Chg w5 w6 L (λ k=>k=tI):=by rw [wR];exact hI5.row.chgPut (k * 5+2) _);have hI6:InsO w6 K L tI (.slice (some ⟨gI,0,none⟩) l.length cv) (nmK al oi l (k+1)) (ys.set k (nmI al oi l k x,.slice A5 x.args.length c5)):=by
    (have h:=hI5.put HY.out (by have:=HT.out;omega) wu);rw [<- q9j wO.out.1,<- wU.out,wR];exact h
   have tS:=Jj hI6;(have wm:Hid (LRw w6 K L tA 3 1 (.slice Aat al.length ca) al.length ((alK al oi l k).map (Value.int .i64))):=Jj (hA5.chg0 th (by have:=HT.out;omega)));(have wJ:Chg wr w6 L (λ k=>k=tI):=tL.then_ (t2:=0) (by rw [wT];exact th));(have wj:Hid (Chg w w6 lab (λ k=>k=tI\/k=tA)):=Jj ((HC.out).then_ (t2:=0) (Chg.mono (by rw [<- HL.out];exact wJ) λ q e=>.inl e)));(have tV:Hid (w6.heap[B]?=w.heap[B]?):=Jj ((wJ.block B (by omega) (by rw [HL.out,qT hBl,tu.out];have:=HT.out;omega)).trans tz.out));(have tp:Hid (w6.heap[N4]?=w1.heap[N4]?):=Jj ((wJ.block N4 (by have:=HN.out;have:=HZ.out;omega) (by rw [wV.out N4 (by have:=HN.out;omega)];have:=HT.out;omega)).trans sf.out));(have tm:Hid (w1.heap.size<=w6.heap.size):=Jj (by have:=wJ.size;have:=HZ.out;omega));(have hBR6:Below wb.heap.size wb w6:=HB.out.trans ⟨wj.out.os,wj.out.tape,wj.out.output,wj.out.size,λ y hy=>wj.out.block y (by have:=HB.out.size;omega) (by have h1:=wQ.out y hy;have h2:=HT.out;show ¬ (lab y=tI\/lab y=tA);omega)⟩);have tC:(ys.set k (nmI al oi l k x,Value.slice A5 x.args.length c5))[k]?=some (nmI al oi l k x,.slice A5 x.args.length c5):=by rw [List.getElem?_set,if_pos rfl,if_pos (by rw [wU.out];exact td)]
   have q1:w6.cell? ⟨gI,k * 5+1,none⟩=some (.int .i64 x.dst):=(hI6.cells tC (by rw [List.length_set,wU.out])).1;have n1:=(JK (a:=⟨N4,1,none⟩) tp.out).trans HN.out.1;have p1:=(q7 hBR6) _ _ sc.out;rw [<- wR];clear wR tL wT hI5 hA5 wu th hI6 wJ hBR6 tC e1
   by_cases hd:0<=x.dst
   ·(obtain ⟨r,hr⟩:∃ r:Nat,xo.dst=(r:Int):=⟨xo.dst.toNat,by have:=tT.out hd;omega⟩);have tX:=tT.out hd;rw [hr] at tX p1;(have tG:(0:Int)<=r:=by omega);(have ta:r<al.length:=by omega);(have hr2:(r:Int)<al.length:=by omega);(obtain ⟨za,wl⟩:∃ za,(alK al oi l k)[r]?=some za:=⟨_,Jq (by rw [j9];exact ta)⟩);obtain ⟨Ga,cGa,hAa⟩:=wm.out.form (by omega);obtain ⟨hAa1,-⟩:Aat=some ⟨Ga,0,none⟩/\ca=cGa:=by simpa using hAa
    subst hAa1;(have a1:w6.cell? ⟨Ga,r,none⟩=some (.int .i64 za):=wm.out.cell (by rw [List.getElem?_map,wl];rfl) (by omega));have a2:w6.frozen? ⟨Ga,r,none⟩=false:=wm.out.own.frozenAt r
    have tw:Hid (alK al oi l (k+1)=(alK al oi l k).set r x.dst):=Jj (by
     show stA _ _ _=_;rw [JJ,JJ,wO.out.1,wO.out.2];show stA _ xo.dst x.dst=_
     unfold stA;rw [if_pos hd,hr,Int.toNat_natCast])
    clear hr wl hAa;(go_upto_region 7 with fail);(go_still_tail 12,(by kernel_rfl));change wpList _ _ _ _ _ w6.drew;go_wp2_with fail
    go_roundw
    case rel =>
     have wh:Chg w6 (w6.setCell ⟨Ga,r,none⟩ (.int .i64 x.dst)).drew L (λ k=>k=tA):=FrX.drew (wm.out.chgPut r (.int .i64 x.dst));(refine ⟨k+1,_,by omega,by go_num,tS.out.chg0' wh (by have:=HT.out;omega) (by have:=HT.out;omega),?_,wj.out.then_ (t2:=0) (Chg.mono (by rw [<- HL.out];exact wh) λ q e=>.inr e),(wh.block B (by have:=wj.out.size;omega) (by rw [HL.out,qT hBl,tu.out];have:=HT.out;omega)).trans tV.out,(wh.block N4 (by have:=HN.out;have:=wj.out.size;have:=tm.out;omega) (by rw [wV.out N4 (by have:=HN.out;omega)];have:=HT.out;omega)).trans tp.out,by have:=wh.size;have:=tm.out;omega⟩);rw [tw.out,List.map_set];exact (wm.out.put r (.int .i64 x.dst)).drew
    case measure=>simp [intOf];omega
   ·have tw:Hid (alK al oi l (k+1)=alK al oi l k):=Jj (by
     show stA _ _ _=_;rw [JJ,JJ,wO.out.1,wO.out.2];show stA _ xo.dst x.dst=_
     unfold stA;rw [if_neg hd])
    go_wp2_with fail
    go_roundw
    case rel=>exact ⟨k+1,_,by omega,by go_num,tS.out,by rw [tw.out];exact wm.out,wj.out,tV.out,tp.out,tm.out⟩
    case measure=>simp [intOf];omega
  ·(have tZ:k=l.length:=by omega);subst tZ;(have tR:Hid (InsO wr K L tI (.slice Av l.length cv) (l.mapIdx (nmI al oi l)) ys):=Jj (by rw [<- q9k al oi l (J4 _)];exact hI));have ba:=(JK (a:=⟨B,o+3,none⟩) hB).trans tx.out.2;have bf:=(World.frozen?_of_block (a:=⟨B,o+3,none⟩) hB).trans (si.out (o+3));(have tr:Hid (L B=3):=Jj (by rw [HL.out,qT hBl];exact tu.out));clear hI hA hC hB hN hz bI
   by_cases ha:0<=a
   ·obtain ⟨r,rfl⟩:∃ r:Nat,a=(r:Int):=⟨a.toNat,by omega⟩;(have ta:r<al.length:=by omega);(have tG:(0:Int)<=r:=by omega);(obtain ⟨za,wl⟩:∃ za,(alK al oi l l.length)[r]?=some za:=⟨_,Jq (by rw [j9];exact ta)⟩);obtain ⟨Ga,cGa,hAa⟩:=HA.out.form (by omega);(obtain ⟨hAa1,-⟩:Aat=some ⟨Ga,0,none⟩/\ca=cGa:=by simpa using hAa);subst hAa1;(have a1:wr.cell? ⟨Ga,r,none⟩=some (.int .i64 za):=HA.out.cell (by rw [List.getElem?_map,wl];rfl) (by omega));have sb:Hid (atV (alK al oi l l.length) (r:Int)=za):=Jj (by unfold atV;rw [Int.toNat_natCast,JJ,wl];rfl)
    clear wl hAa;(go_wp2_with fail);(go_end0);have wh:Chg wr (wr.setCell ⟨B,o+3,none⟩ (.int .i64 za)) L (λ k=>k=3):=Chg.set (λ k=>k=3) tr.out (o+3) _;(refine ⟨rfl,(Chg.mono HC.out (λ q e=>.inr e)).then_ (t2:=0) (Chg.mono (by rw [<- HL.out];exact wh) λ q e=>.inl e),⟨ys,by rw [<- HL.out];exact tR.out.chg0' wh (by omega) (by have:=HT.out;omega)⟩,by rw [<- HL.out];exact HA.out.chg0 wh (by have:=HT.out;omega),.inl ⟨tG,?_⟩⟩);rw [sb.out];exact q1O tz.out _ _
   ·(go_wp2_with fail);(go_end0);refine ⟨rfl,Chg.mono HC.out (λ q e=>.inr e),⟨ys,by rw [<- HL.out];exact tR.out⟩,by rw [<- HL.out];exact HA.out,.inr ⟨by omega,tz.out⟩⟩
end Go.Proofs.YtfoggldjjnabcaaGreatDoor
