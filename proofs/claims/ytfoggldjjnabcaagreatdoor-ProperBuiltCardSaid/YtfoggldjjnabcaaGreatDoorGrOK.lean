/- The closure that goes on from a block: goOn does what qn says. -/
import Derived.Test.YtfoggldjjnabcaaGreatDoorModAK
import Derived.Test.YtfoggldjjnabcaaGreatDoorDmAK
import Derived.Test.YtfoggldjjnabcaaGreatDoorAheadGK
import Derived.Laws.EntriesVeiled
set_option linter.unusedVariables false
set_option linter.unusedSimpArgs false
namespace Go.Proofs.YtfoggldjjnabcaaGreatDoor
open Go.ChangeShapes Go.WideShapes Go.RowKit Go.Deep
def qAK (M G n:Nat) (nx:Nat->List Nat) (b:Nat) (S:Nat->Bool) (R:Nat->List Nat) (op:List Nat) (s':DS) (w:World) (e:Ending) (w':World):Prop :=
 e=.returned (.tuple #[])/\∃ (R':Nat->List Nat) (V':Nat->Value) (vo' vd':Value),BW w' M G n s'.seen R' V' op s'.out vo' vd'/\(∀ x,x<n->s'.seen x=false->R' x=nx x)/\(∀ x,x<n->S x=true->x≠b->R' x=R x)/\BB M G w w'
def ji (G b:Nat) (w:World):Nat:=match w.cell? ⟨G,b,none⟩ with
 | some (.slice _ m _)=>m
 | _=>0
theorem jO {G b m:Nat} {w:World} {A:Option Addr} {c:Nat} (h:w.cell? ⟨G,b,none⟩=some (.slice A m c)):ji G b w=m:=by unfold ji;rw [h]
def qBf (M G n F:Nat) (nx:Nat->List Nat):Prop:=∀ (b deep:Nat) (l:List Nat) (S:Nat->Bool) (R:Nat->List Nat) (V:Nat->Value) (op dn:List Nat) (vo vd:Value) (w:World),
 BW w M G n S R V (op++[b]) dn vo vd->b<n->S b=true->R b=l->(∀ x,x<n->S x=false->R x=nx x)->qj n S<=F->deep+F<4096->op.length+F<=900000->dn.length+qj n S<=900000 ->
 Calls Tryz.prog 132 #[.int .i64 b,.int .i64 deep,.pointer (some ⟨M,0,none⟩),.pointer (some ⟨M+2,0,none⟩),.pointer (some ⟨M+5,0,none⟩),.pointer (some ⟨M+6,0,none⟩),.pointer (some ⟨M+4,0,none⟩),.pointer (some ⟨M+3,0,none⟩)] w
  (qAK M G n nx b S R op (rest nx F b l ⟨S,dn⟩) w)
set_option maxRecDepth 100000 in
set_option maxHeartbeats 8000000 in
theorem q1y (M G n F:Nat) (nx:Nat->List Nat) (hn:n<=1000000) (ta:∀ x,∀ t∈nx x,t<n) (ih:∀ F',F=F'+1->qBf M G n F' nx):qBf M G n F nx:=by
 intro b deep l S R V op dn vo vd w h hb hSb hRb tg hF hdeep hop tw;obtain ⟨i0,hi,sb,tG,tZ⟩:=info_parts Tryz.info3;have HI:=Jj (And.intro hi (And.intro sb (And.intro tG tZ)));clear hi sb tG tZ;have sF:=Jj ih;have H0:=Jj h;have si:=Jj tg;have sj:=Jj hSb;have tJ:=Jj hRb
 (have hd1:(deep:Int)<4096:=by omega);(have hd2:((deep:Int) == 4096)=false:=by simp;omega);have HF:=Jj hF;have sm:=Jj tw;clear ih h tg hSb hRb hF tw;(go_enter Tryz.func132,Tryz.ntmps132);go_wp2_with fail
 go_loopw [] (λ wr=>∃ (l':List Nat) (S':Nat->Bool) (R':Nat->List Nat) (V':Nat->Value) (vo' vd':Value) (dn':List Nat),BW wr M G n S' R' V' (op++[b]) dn' vo' vd'/\R' b=l'/\S' b=true/\(∀ x,x<n->S' x=false->R' x=nx x)/\qj n S'<=F/\dn'.length+qj n S'<=900000 /\
  rest nx F b l' ⟨S',dn'⟩=rest nx F b l ⟨S,dn⟩/\(∀ x,x<n->S x=true->x≠b->R' x=R x)/\(∀ x,S x=true->S' x=true)/\BB M G w wr) (λ wr=>ji G b wr)
 case atStart=>exact ⟨l,S,R,V,vo,vd,dn,H0.out,tJ.out,sj.out,si.out,HF.out,sm.out,rfl,λ _ _ _ _=>rfl,λ _ h=>h,BB.refl _ _ _⟩
 case round =>
  obtain ⟨l',S',R',V',vo',vd',dn',hw,hR,hSb,tg,hF,tw,wQ,tp,wh,sh⟩:=hrel;have wJ:=Jj tg;have tE:=Jj hF;have wv:=Jj tw;have wj:=Jj wQ;have wY:=Jj tp;have wk:=Jj wh;have sp:=Jj sh;have wm:=Jj hSb
  clear tg hF tw wQ tp wh sh hSb si sj tJ HF sm H0;have hM:=hw.size;have hgm:=hw.gm;obtain ⟨A,c,hv,hs⟩:=hw.lists b hb;rw [hR] at hv hs;have wl:=hw.nrow.cell hb;rw [hv] at wl;have sf:wr.cell? ⟨M,0,none⟩=some (.slice (some ⟨G,0,none⟩) n n):=q6 hw.nbox 0;have wW:=hs.len
  rw [qg] at wW;cases l' with
  | nil =>
   obtain ⟨g,cap,sr,tr,tT,hcm,tP,tj⟩:=q0L hw.ownO;subst sr;have c4:wr.cell? ⟨M+4,0,none⟩=some (.slice (some ⟨g,0,none⟩) (op.length+1) cap):=q6 hw.obox 0;have f4:wr.frozen? ⟨M+4,0,none⟩=false:=qA hw.obox 0;have wg:=hw.open_ (op':=op) (vo':=.slice (some ⟨g,0,none⟩) op.length cap) (λ _ _=>rfl) (λ _ _=>rfl) tj hw.apart;(have tc:BB M G wr (wr.setCell ⟨M+4,0,none⟩ (.slice (some ⟨g,0,none⟩) op.length cap)):=(BB.refl M G wr).setCell (.inr (by show M<=M+4;omega)) _);(have tG:M+6<(wr.setCell ⟨M+4,0,none⟩ (.slice (some ⟨g,0,none⟩) op.length cap)).heap.size:=by simpa using hM);(have hl1:(op.length:Int)<=cap:=by omega);have tQ:op.length<1000000:=by omega
   simp only [List.length_nil] at wl;clear tr tj tT hw hs hv;(go_upto_region 9 with fail);clear wl sf c4 f4 tP;generalize wr.setCell ⟨M+4,0,none⟩ (.slice (some ⟨g,0,none⟩) op.length cap)=w1 at *;have c3:w1.cell? ⟨M+3,0,none⟩=some vd':=q6 wg.dbox 0;(have sn:Hid (dn'.length<=900000):=Jj (by have:=wv.out;omega));go_wp2_with (at_builtin;refine wpList_append_lies _ rfl (.tmp 58) (.tmp 60) 27 rfl (M+7) 3 i0 (.int .i64 0) 1 8 Tryz.underlying27 HI.out.1 HI.out.2.1 HI.out.2.2.1 HI.out.2.2.2 rfl (by decide) vd' _ _ rfl (wg.ownD.alloc _) ⟨w1.heap.size,0,none⟩ 1 1 [.int .i64 b] rfl rfl ?c1 ?c2 ?c0 ?c3 ?c4 ?c5 (w1.heap.size+1) ?c6 ?_)
   case c1=>exact qm w1 _ _ rfl
   case c2=>exact ints_oneCell .i64 [(b:Int)]
   case c0=>omega
   case c3=>have:=sn.out;unfold maxLen;omega
   case c4=>have:=sn.out;omega
   case c5=>simp;omega
   case c6=>simp
   intro g2 cap2 w2 wR wh tq hlt;(have hk:∀ k,k<w1.heap.size->some k≠vd'.ownBlock->w2.heap[k]?=w1.heap[k]?:=λ k hk sw=>(wh.block k (by simp;omega) sw).trans (Below.heap_alloc _ _ _ hk));have ww:∀ k,k<M+7->w2.heap[k]?=w1.heap[k]?:=λ k hk'=>hk k (by omega) (λ e=>by have:=(wg.ownD.lt k e.symm).1;omega)
   have tu:=wg.done_ (dn':=dn'++[b]) (vd':=.slice (some ⟨g2,0,none⟩) (dn'.length+1) cap2) ww (λ x hx=>hk x (wg.ownO.lt x hx).2 (λ e=>by
     rcases wg.apart with h | h
     ·rw [h] at hx;cases hx
     ·exact h (hx.trans e))) (by simpa [zs] using wR) (by
    right;intro e;have tH:(Value.slice (some ⟨g,0,none⟩) op.length cap).ownBlock=some g2:=e;rcases tq with h | h
    ·rcases wg.apart with h2 | h2
     ·rw [h2] at tH;cases tH
     ·exact h2 (tH.trans h.symm)
    ·have:=(wg.ownO.lt g2 tH).2;omega)
   have d3:w2.cell? ⟨M+3,0,none⟩=some vd':=(JK (a:=⟨M+3,0,none⟩) (ww (M+3) (by omega))).trans c3;have f3:w2.frozen? ⟨M+3,0,none⟩=false:=qA ((ww (M+3) (by omega)).trans wg.dbox) 0;(have wu:BB M G w w2:=((sp.out.trans tc).alloc (by omega) _).grown wh (by simp;omega) (λ k hk=>.inr (by have:=(wg.ownD.lt k hk).1;omega)));have HN:=Jj tu;have sG:=Jj wu;clear wR wh tq hk ww tu wu wg c3 tc;(go_wp2_with fail);(go_end0);refine ⟨rfl,R',V',.slice (some ⟨g,0,none⟩) op.length cap,.slice (some ⟨g2,0,none⟩) (dn'.length+1) cap2,?_,?_,wY.out,sG.out.setCell (.inr (by show M<=M+3;omega)) _⟩
   ·rw [<- wj.out,q3I];exact HN.out
   ·rw [<- wj.out,q3I];exact wJ.out
  | cons t l' =>
   obtain ⟨A',c',hcut,sd⟩:=q7D (x:=(t:Int)) (xs:=zs l') hs;obtain ⟨b1,o1,x,rfl,hx,sq,sc,hx64⟩:=hs.at_ (k:=0) (by simp [zs]);(obtain rfl:x=(t:Int):=by have:=hx.out;simp [zs] at this;exact this.symm);rw [Nat.zero_mul,Nat.add_zero] at sc;rw [qg] at hcut;have sy:=hw.nrow.frozen b;(have wM:t<n:=hw.inR b hb t (by rw [hR];simp));obtain ⟨w1,td⟩:∃ w1,w1=(wr.setCell ⟨G,b,none⟩ (.slice A' l'.length c')).drew:=⟨_,rfl⟩;have wg:BW w1 M G n S' (λ x=>if x=b then l' else R' x) (λ x=>if x=b then .slice A' l'.length c' else V' x) (op++[b]) dn' vo' vd':=by
    rw [td];exact (hw.next_ (b:=b) (l:=l') (A:=A') (c:=c') (λ y hy=>hw.inR b hb y (by rw [hR];simp [hy])) sd).drewN 1
   (have tc:BB M G wr w1:=by rw [td];exact ((BB.refl M G wr).setCell (.inl rfl) _).drew);(have tG:M+6<w1.heap.size:=by rw [td];simpa [World.drew] using hM);have sk:Hid (ji G b wr=l'.length+1):=Jj (jO wl);simp only [List.length_cons] at wl wW;(have hbn:(b:Int)<n:=by omega);(have hb0:(0:Int)<=b:=by omega);(have hc0:(0:Int)<((l'.length:Int)+1):=by omega);clear hw hs hv sd hx sq;go_upto_region 3 with fail
   (go_still_tail 8,(by kernel_rfl));change wpList _ _ _ _ _ wr.drew;(go_upto_region 4 with fail);rw [<- td];clear td wl sf sy hcut sc wW hM;have tC:=Jj wg;have tF:Hid (BB M G w w1):=Jj (sp.out.trans tc);have sx:w1.cell? ⟨M+2,0,none⟩=some (.slice (some ⟨M+1,0,none⟩) n n):=q6 wg.gbox 0;have tS:=wg.grow.cell wM
   (have ht0:(0:Int)<=t:=by omega);(have ht1:(t:Int)<n:=by omega);cases wO:S' t
   ·rw [wO] at tS;have wU:=Jj wO;have sB:w1.cell? ⟨M+5,0,none⟩=some (.func (.func 131) #[] #[.pointer (some ⟨M+2,0,none⟩),.pointer (some ⟨M+4,0,none⟩)]):=q6 wg.ebox 0;have th:0<qj n S':=xW wO wM;(have tm:(op++[b]).length<=1000000:=by simp;omega);(obtain ⟨F',hF'⟩:∃ F',F=F'+1:=⟨F - 1,by have:=tE.out;omega⟩);have tD:=Jj hF';have HPOS:=Jj th;have tV:=Jj tm
    clear wO th hF' wg tc tm;(go_wp2_with fail);refine (q12 M G n t _ _ _ _ _ _ _ w1 tC.out wM hn tV.out).mono ?_;rintro e w2 ⟨rfl,⟨vo2,tM⟩,wu⟩;have su:w2.cell? ⟨M+6,0,none⟩=some (.func (.func 132) #[] #[.pointer (some ⟨M,0,none⟩),.pointer (some ⟨M+2,0,none⟩),.pointer (some ⟨M+5,0,none⟩),.pointer (some ⟨M+6,0,none⟩),.pointer (some ⟨M+4,0,none⟩),.pointer (some ⟨M+3,0,none⟩)]):=q6 tM.rbox 0;have sD:=Jj tM;have tY:Hid (BB M G w w2):=Jj (tF.out.trans wu);clear tS sx sB tM wu;have tO:t≠b:=λ e=>by have h1:=wU.out;rw [e,wm.out] at h1;cases h1
    have sE:=Jj tO;have ss:=vE wU.out wM
    have HC:Hid (Calls Tryz.prog 132 #[.int .i64 t,.int .i64 ((deep:Int)+1),.pointer (some ⟨M,0,none⟩),.pointer (some ⟨M+2,0,none⟩),.pointer (some ⟨M+5,0,none⟩),.pointer (some ⟨M+6,0,none⟩),.pointer (some ⟨M+4,0,none⟩),.pointer (some ⟨M+3,0,none⟩)] w2 (qAK M G n nx t (mark S' t) (λ x=>if x=b then l' else R' x) (op++[b]) (rest nx F' t (nx t) ⟨mark S' t,dn'⟩) w2)):=Jj (by
     have:=sF.out F' tD.out t (deep+1) (nx t) (mark S' t) (λ x=>if x=b then l' else R' x) _ (op++[b]) dn' vo2 vd' w2 sD.out wM (jN _ _) (by rw [if_neg tO];exact wJ.out t wM wU.out)
      (λ x hx hm=>by
       have tL:S' x=false:=by
        cases h:S' x
        ·rfl
        ·rw [xJ h] at hm;cases hm
       rw [if_neg (λ e=>by rw [e,wm.out] at tL;cases tL)];exact wJ.out x hx tL)
      (by have:=tE.out;have:=tD.out;omega) (by have:=tD.out;omega) (by have:=tD.out;simp;omega) (by have:=wv.out;omega)
     rwa [show (((deep+1:Nat):Int))=(deep:Int)+1 by push_cast;rfl] at this)
    have tB:Hid (rest nx F' t (nx t) ⟨mark S' t,dn'⟩=qn nx F t ⟨S',dn'⟩):=Jj (by rw [tD.out,q4Z]);clear tO ss;(go_wp2_with fail);refine HC.out.mono ?_;rintro e w3 ⟨rfl,R'',V'',vo'',vd'',wZ,tf,wT,tx⟩;have tK:=Jj (q6u ta F t ⟨S',dn'⟩ wM wU.out tE.out)
    have tW:Hid (∀ x,S' x=true->(qn nx F t ⟨S',dn'⟩).seen x=true):=Jj (by
     obtain ⟨e,he,_⟩:=q0V ta F t ⟨S',dn'⟩ wM wU.out tE.out
     exact he.grows)
    rw [<- tB.out] at tK tW;have tz:Hid (rest nx F b l' (rest nx F' t (nx t) ⟨mark S' t,dn'⟩)=rest nx F b l ⟨S,dn⟩):=Jj (by rw [<- wj.out,q7u _ _ _ _ _ _ wU.out,tB.out]);generalize rest nx F' t (nx t) ⟨mark S' t,dn'⟩=s' at *;have tU:=Jj tf;have wV:=Jj wT;have tX:=Jj tx;have sC:=Jj wZ;obtain ⟨g3,cap3,tN,hlast3,hcap3,hcm3,-,-⟩:=q0L wZ.ownO;subst tN
    have hob:w3.cell? ⟨M+4,0,none⟩=some (.slice (some ⟨g3,0,none⟩) (op.length+1) cap3):=q6 wZ.obox 0;(have hbb':((b:Int) != b)=false:=by simp);(have tQ:op.length<1000000:=by omega);have hRb:R'' b=l':=by
     have:=wV.out b hb (xJ wm.out) (λ e=>sE.out e.symm);rw [this];simp
    have tJ:=Jj hRb
    have tR:Hid (ji G b w3<ji G b wr):=Jj (by
     obtain ⟨A3,c3,e3,-⟩:=wZ.lists b hb;have h1:=wZ.nrow.cell hb;rw [e3,hRb] at h1
     rw [sk.out,jO h1];omega)
    clear wZ tf wT tx su hRb HC;go_wp2_with fail
    go_roundw
    case rel=>exact ⟨l',s'.seen,R'',V'',_,vd'',s'.out,sC.out,tJ.out,tW.out b wm.out,tU.out,by have:=tK.out.2;omega,by have:=tK.out.1;have:=wv.out;exact Nat.le_trans (Nat.le_of_eq tK.out.1) wv.out,tz.out,
     λ x hx h1 h2=>by
      rw [wV.out x hx (xJ (wk.out x h1)) (λ e=>by have h3:=wU.out;rw [<- e,wk.out x h1] at h3;cases h3),if_neg h2];exact wY.out x hx h1 h2,
     λ x h1=>tW.out x (wk.out x h1),tY.out.trans tX.out⟩
    case measure=>exact tR.out
   ·rw [wO] at tS;have wU:=Jj wO
    have tR:Hid (ji G b w1<ji G b wr):=Jj (by
     have h1:=wg.nrow.cell hb;simp only [if_true] at h1
     rw [sk.out,jO h1];omega)
    have wX:Hid (rest nx F b l' ⟨S',dn'⟩=rest nx F b l ⟨S,dn⟩):=Jj (by rw [<- wj.out,q6U _ _ _ _ _ _ wO]);clear wO wg tc;go_wp2_with fail
    go_roundw
    case rel=>exact ⟨l',S',_,_,vo',vd',dn',tC.out,by simp,wm.out,λ x hx hs=>by
      rw [if_neg (λ e=>by rw [e,wm.out] at hs;cases hs)];exact wJ.out x hx hs,tE.out,wv.out,wX.out,λ x hx h1 h2=>by rw [if_neg h2];exact wY.out x hx h1 h2,wk.out,tF.out⟩
    case measure=>exact tR.out
theorem q3q (M G n:Nat) (nx:Nat->List Nat) (hn:n<=1000000) (ta:∀ x,∀ t∈nx x,t<n):∀ F:Nat,qBf M G n F nx
 | 0=>q1y M G n 0 nx hn ta (λ F' h=>by omega)
 | F+1=>q1y M G n (F+1) nx hn ta (λ F' h=>by (obtain rfl:F=F':=by omega);exact q3q M G n nx hn ta F)
theorem qAv (w:World) (M:Nat) (hM:M=w.heap.size) (o0 o1 o2 o3 o4 o5 o6:Obj) (W:World) (hW:W=((((((w.alloc o0).alloc o1).alloc o2).alloc o3).alloc o4).alloc o5).alloc o6) :
  W.heap[M]?=some o0/\W.heap[M+1]?=some o1/\W.heap[M+2]?=some o2/\W.heap[M+3]?=some o3/\W.heap[M+4]?=some o4/\W.heap[M+5]?=some o5/\W.heap[M+6]?=some o6/\W.heap.size=M+7/\Below M w W:=by
 subst hM hW;(have hz (u:World) (o:Obj):(u.alloc o).heap.size=u.heap.size+1:=by simp);have hg (u:World) (o:Obj) (k:Nat):(u.alloc o).heap[k]?=if k=u.heap.size then some o else u.heap[k]?:=by
  show (u.heap.push o)[k]?=_;rw [Array.getElem?_push]
 refine ⟨?_,?_,?_,?_,?_,?_,?_,?_,?_⟩
 ·(simp only [hg,hz];repeat rw [if_neg (by omega)]);exact if_pos (by first | trivial | omega)
 ·(simp only [hg,hz];repeat rw [if_neg (by omega)]);exact if_pos (by first | trivial | omega)
 ·(simp only [hg,hz];repeat rw [if_neg (by omega)]);exact if_pos (by first | trivial | omega)
 ·(simp only [hg,hz];repeat rw [if_neg (by omega)]);exact if_pos (by first | trivial | omega)
 ·(simp only [hg,hz];repeat rw [if_neg (by omega)]);exact if_pos (by first | trivial | omega)
 ·(simp only [hg,hz];repeat rw [if_neg (by omega)]);exact if_pos (by first | trivial | omega)
 ·(simp only [hg,hz];repeat rw [if_neg (by omega)]);exact if_pos (by first | trivial | omega)
 ·simp [hz]
 ·refine (((((((J5 _ w).alloc ?_ _).alloc ?_ _).alloc ?_ _).alloc ?_ _).alloc ?_ _).alloc ?_ _).alloc ?_ _;all_goals (simp [hz];try omega)
theorem q5C (nx:Nat->List Nat) {n:Nat} (hn:n≠0):rest nx (n - 1) 0 (nx 0) ⟨mark zO 0,[]⟩=qn nx n 0 ⟨zO,[]⟩:=by
 obtain ⟨m,rfl⟩:∃ m,n=m+1:=⟨n - 1,by omega⟩
 rfl
theorem q7B (nx:Nat->List Nat) {n:Nat} (hn:n≠0):j6 nx n=(qn nx n 0 ⟨zO,[]⟩).out:=by unfold j6;rw [if_neg hn]
set_option maxRecDepth 100000 in
set_option maxHeartbeats 8000000 in
theorem q1a (G K n:Nat) (V:Nat->Value) (nx:Nat->List Nat) (w:World) (h:Gri w G K n V (λ i=>zs (nx i))) (hn:n<=1000) (wQ:∀ x,∀ t∈nx x,t<n) :
  Calls Tryz.prog 98 #[.slice (some ⟨G,0,none⟩) n n] w λ e w'=>(∃ vd,e=.returned vd/\w'.ownsRow w.heap.size 3 1 vd (j6 nx n).length ((zs (j6 nx n)).map (Value.int .i64)))/\BB w.heap.size G w w':=by
 by_cases wU:n=0
 ·subst wU;have e:j6 nx 0=[]:=rfl;rw [e];(go_enter Tryz.func98,Tryz.ntmps98);(go_wp2_with fail);(go_ret);exact ⟨⟨_,rfl,World.ownsRow_nil _ _ _ _⟩,(BB.refl _ _ _).alloc (J4 _) _⟩
 ·(have wj:0<n:=by omega);(have hne:((n:Int) == 0)=false:=by simp;omega);have tj:∀ (fn:Fn) (first cap:Array Value) (w:World),(Instr.makeFunc fn first cap).run Tryz.prog w=.ok (.func fn first cap) w:=λ _ _ _ _=>rfl;have th:=run_make_row' (P:=Tryz.prog) 64 4 (.bool false) 1 Tryz.underlying64 Tryz.info4 rfl .i64 .i64 n (by omega) (by omega);clear wU;(go_enter Tryz.func98,Tryz.ntmps98);(go_upto_region 8 with fail);clear th tj;obtain ⟨M,hM⟩:∃ M,M=w.heap.size:=⟨_,rfl⟩
  rw [<- hM]
  obtain ⟨W,hW⟩:∃ W,W=((((((w.alloc (.cells #[.slice (some ⟨G,0,none⟩) n n] 65)).alloc (.cells (madeCells #[.bool false] n) 4)).alloc (.cells #[.slice (some ⟨M+1,0,none⟩) n n] 64)).alloc (.cells #[.slice none 0 0] 27)).alloc (.cells #[.slice none 0 0] 27)).alloc
   (.cells #[.func (.func 131) #[] #[.pointer (some ⟨M+1+1,0,none⟩),.pointer (some ⟨M+1+1+1+1,0,none⟩)]] 191)).alloc
   (.cells #[.func (.func 132) #[] #[.pointer (some ⟨M,0,none⟩),.pointer (some ⟨M+1+1,0,none⟩),.pointer (some ⟨M+1+1+1+1+1,0,none⟩),.pointer (some ⟨M+1+1+1+1+1+1,0,none⟩),.pointer (some ⟨M+1+1+1+1,0,none⟩),.pointer (some ⟨M+1+1+1,0,none⟩)]] 182):=⟨_,rfl⟩
  rw [<- hW];obtain ⟨b0,b1,b2,b3,b4,b5,b6,tf,wg⟩:=qAv w M hM _ _ _ _ _ _ _ W hW;clear hW;(have hGM:G<M:=by rw [hM];exact h.row.lt);have wV:BW W M G n zO nx V [] [] (.slice none 0 0) (.slice none 0 0):=by
   refine ⟨b0,b2,b3,b4,b5,b6,⟨_,b1,size_madeCells _ _,λ i hi=>?_⟩,h.row.of_block (wg.block G hGM),λ x hx=>?_,World.ownsRow_nil _ _ _ _,World.ownsRow_nil _ _ _ _,.inl rfl,λ x _=>wQ x,hGM⟩
   ·simp [madeCells,hi,Nat.mod_one,zO]
   ·(have hg:=h.below (w':=W) (by rw [<- hM];exact wg));(obtain ⟨A,c,e,hs⟩:=yg (h.own x hx) (λ y hy=>by obtain ⟨q,hq,rfl⟩:=y4 hy;have:=wQ x q hq;unfold I64;omega) (B:=λ b=>b<M/\b≠G) (λ g h1 h2=>⟨by omega,λ e=>by have:=h.lt;omega⟩));rw [qg] at e;exact ⟨A,c,e,SIntsB.go (λ a v hb ha=>(JK (wg.block _ hb.1)).trans ha) (λ _ hb=>hb) hs⟩
  have wv:Hid (BB M G w W):=Jj (BB.of_below wg (J4 _));have tp:W.cell? ⟨M+1+1+1+1+1,0,none⟩=some (.func (.func 131) #[] #[.pointer (some ⟨M+1+1,0,none⟩),.pointer (some ⟨M+1+1+1+1,0,none⟩)]):=q6 b5 0;have HE:=Jj (q12 M G n 0 zO nx V [] [] _ _ W wV wj (by omega) (by simp));have wY:=Jj hM;clear b0 b1 b2 b3 b4 b5 b6 tf wg wV hM;(go_wp2_with fail);refine HE.out.mono ?_;rintro e w2 ⟨rfl,⟨vo,wR⟩,wu⟩;have ta:Hid (BB M G w w2):=Jj (wv.out.trans wu)
  have wX:=Jj wR;clear tp HE wv wR wu;go_wp2_with fail
  go_loopw [] (λ wr=>((∃ vo vd,BW wr M G n (mark zO 0) nx V [0] [] vo vd)\/(∃ S R V' vo vd,BW wr M G n S R V' [] (j6 nx n) vo vd))/\BB M G w wr) (λ wr=>ji (M+4) 0 wr)
  case atStart=>exact ⟨.inl ⟨_,_,wX.out⟩,ta.out⟩
  case round =>
   obtain ⟨tg,wW⟩:=hrel;have wZ:=Jj wW;clear wW wX ta;rcases tg with ⟨vo,vd,hw⟩ | ⟨S,R,V',vo,vd,hw⟩
   ·have HW:=Jj hw;obtain ⟨g,cap,ww,wh,hcap,hcm,-,-⟩:=q0L (xs:=[]) (x:=0) hw.ownO;subst ww;have wO:wr.cell? ⟨M+1+1+1+1,0,none⟩=some (.slice (some ⟨g,0,none⟩) 1 cap):=q6 hw.obox 0;have wT:wr.cell? ⟨M+1+1+1+1+1+1,0,none⟩=some (.func (.func 132) #[] #[.pointer (some ⟨M,0,none⟩),.pointer (some ⟨M+1+1,0,none⟩),.pointer (some ⟨M+1+1+1+1+1,0,none⟩),.pointer (some ⟨M+1+1+1+1+1+1,0,none⟩),.pointer (some ⟨M+1+1+1+1,0,none⟩),.pointer (some ⟨M+1+1+1,0,none⟩)]):=q6 hw.rbox 0;have wM:wr.cell? ⟨M+4,0,none⟩=some (.slice (some ⟨g,0,none⟩) 1 cap):=wO;have wJ:wr.cell? ⟨M+6,0,none⟩=some (.func (.func 132) #[] #[.pointer (some ⟨M,0,none⟩),.pointer (some ⟨M+1+1,0,none⟩),.pointer (some ⟨M+1+1+1+1+1,0,none⟩),.pointer (some ⟨M+1+1+1+1+1+1,0,none⟩),.pointer (some ⟨M+1+1+1+1,0,none⟩),.pointer (some ⟨M+1+1+1,0,none⟩)]):=wT;have tm:wr.cell? ⟨g,0,none⟩=some (.int .i64 0):=wh;have tc:=vE (S:=zO) (b:=0) rfl wj
    have td:=kR n zO;(have HG:=Jj (q3q M G n nx (by omega) wQ (n - 1) 0 0 (nx 0) (mark zO 0) nx V [] [] _ _ wr.drew (hw.drewN 1) wj (jN _ _) rfl (λ _ _ _=>rfl) (by omega) (by omega) (by simp;omega) (by simp;omega)));have HL:Hid (ji (M+4) 0 wr=1):=Jj (jO wO);clear hw wh tc td;(go_upto_region 10 with fail);(have hw0:IntKind.i64.wrap (0:Int)=0:=by decide);(go_still_tail 7,(by kernel_rfl));change wpList _ _ _ _ _ wr.drew;go_wp2_with fail
    refine HG.out.mono ?_;rintro e w3 ⟨rfl,R',V',vo',vd',wk,-,-,wm⟩;rw [q5C nx (by omega),<- q7B nx (by omega)] at wk;have tq:=Jj wk
    have HM:Hid (ji (M+4) 0 w3<ji (M+4) 0 wr):=Jj (by
     rcases wk.ownO.2 with ⟨e,_⟩ | ⟨g3,c3,cur3,e,_⟩
     ·have h1:w3.cell? ⟨M+4,0,none⟩=some vo':=q6 wk.obox 0;rw [e] at h1;rw [HL.out,jO h1];omega
     ·have h1:w3.cell? ⟨M+4,0,none⟩=some vo':=q6 wk.obox 0;rw [e] at h1
      rw [HL.out,jO h1];simp)
    have tr:Hid (BB M G w w3):=Jj (wZ.out.trans ((BB.refl M G wr).drew.trans wm));clear wk wm wO wT wM wJ tm HG;go_wp2_with fail
    go_roundw
    case rel=>exact ⟨.inr ⟨_,_,_,_,_,tq.out⟩,tr.out⟩
    case measure=>exact HM.out
   ·have HW:=Jj hw;have h1:wr.cell? ⟨M+1+1+1+1,0,none⟩=some vo:=q6 hw.obox 0;have h2:wr.cell? ⟨M+1+1+1,0,none⟩=some vd:=q6 hw.dbox 0;have wl:=vq hw.ownD (base':=M) (by omega);have ww:∃ A c,vo=.slice A 0 c:=by
     rcases hw.ownO.2 with ⟨e,_⟩ | ⟨g3,c3,cur3,e,_⟩
     ·exact ⟨_,_,e⟩
     ·exact ⟨_,_,e⟩
    obtain ⟨A,c,rfl⟩:=ww;have HO:=Jj wl;clear hw wl;(go_wp2_with fail);(go_ret);exact ⟨⟨_,rfl,by rw [<- wY.out];exact HO.out⟩,by rw [<- wY.out];exact wZ.out⟩
end Go.Proofs.YtfoggldjjnabcaaGreatDoor
