/- The program's best: of a place and those above it the one with the earliest early one. -/
import Derived.Test.YtfoggldjjnabcaaGreatDoorModAK
import Derived.Test.YtfoggldjjnabcaaGreatDoorDmAK
import Derived.Test.YtfoggldjjnabcaaGreatDoorDmMK
import Derived.Test.YtfoggldjjnabcaaGreatDoorAheadGK
import Derived.BigQuiet
import Derived.Test.YtfoggldjjnabcaaGreatDoorGrOK
import Derived.Test.YtfoggldjjnabcaaGreatDoorDmGK
import Derived.Test.YtfoggldjjnabcaaGreatDoorGrNK
import Derived.Laws.OwnMore
set_option linter.unusedVariables false
set_option linter.unusedSimpArgs false
namespace Go.Proofs.YtfoggldjjnabcaaGreatDoor
open Go.ChangeShapes Go.WideShapes Go.RowKit Go.Deep
inductive ChainP (L:Nat) (above:Nat->Int) (place:Nat):List Nat->Nat->Prop
 | nil:ChainP L above place [] place
 | snoc {ws:List Nat} {q p:Nat}:ChainP L above place ws q->L<=q->above q=(p:Int)->L<=p->ChainP L above place (ws++[q]) p
variable {k L:Nat} {E:Nat->Nat->Prop} {par early least:Nat->Nat} {above:Nat->Int} {place:Nat}
theorem ChainP.last {l:List Nat} {x p:Nat} (h:ChainP L above place (l++[x]) p):ChainP L above place l x/\L<=x/\above x=(p:Int)/\L<=p:=by
 generalize hm:l++[x]=m at h;cases h with
 | nil=>simp at hm
 | snoc h1 h2 h3 h4 =>
  obtain ⟨h5,h6⟩:=List.append_inj' hm rfl;simp at h6;(subst h5;subst h6);exact ⟨h1,h2,h3,h4⟩
theorem ChainP.none {p:Nat} (h:ChainP L above place [] p):p=place:=by
 generalize hm:([]:List Nat)=m at h;cases h with
 | nil=>rfl
 | snoc h1 h2 h3 h4=>simp at hm
theorem ChainP.lt (G:GrvI par k L early least above) (hp:place<k) {ws:List Nat} {q:Nat} (h:ChainP L above place ws q):q<k/\(∀ x∈ws,q<x/\x<k)/\ws.length+q<=place:=by
 induction h with
 | nil=>exact ⟨hp,λ x hx=>by (cases hx),by simp⟩
 | @snoc ws q p h1 h2 h3 h4 ih =>
  obtain ⟨i1,i2,i3⟩:=ih;obtain ⟨a,a1,a2,-⟩:=G.hi q h2 i1;(have:p<q:=by omega);(refine ⟨by omega,λ x hx=>?_,by simp;omega⟩);rcases List.mem_append.1 hx with hx | hx
  ·have:=i2 x hx;omega
  ·rw [List.mem_singleton.1 hx];omega
theorem ChainP.congr {above':Nat->Int} {ws:List Nat} {q:Nat} (h:ChainP L above place ws q) (he:∀ x∈ws,above' x=above x):ChainP L above' place ws q:=by
 induction h with
 | nil=>exact .nil
 | @snoc ws q p h1 h2 h3 h4 ih=>exact .snoc (ih λ x hx=>he x (by simp [hx])) h2 ((he q (by simp)).trans h3) h4
structure BkI (par early:Nat->Nat) (k L place:Nat) (ws:List Nat) (r:Nat) (least:Nat->Nat) (above:Nat->Int):Prop where
 g:GrvI par k L early least above
 c:∃ q,q<k/\ChainP L above place (ws.take r) q/\above q<(L:Int)
theorem BkI.step (T:TreeP k E par) {ws:List Nat} {r x:Nat} (hp:place<k) (h:BkI par early k L place ws (r+1) least above) (hx:ws[r]?=some x) :
  ∃ q,x<k/\q<k/\L<=x/\L<=q/\above x=(q:Int)/\-1<=above q/\BkI par early k L place ws r (qM least x (if early (least q)<early (least x) then least q else least x)) (qM above x (above q)):=by
 obtain ⟨hg,q,hq,hc,hqL⟩:=h;rw [qG hx] at hc;obtain ⟨h1,h2,h3,h4⟩:=hc.last;obtain ⟨i1,i2,-⟩:=ChainP.lt hg hp h1;have sE:=hg.hang T h2 i1 h3 h4 rfl;obtain ⟨a,a1,-⟩:=hg.hi q h4 hq;refine ⟨q,i1,hq,h2,h4,h3,by omega,sE,x,i1,h1.congr λ y hy=>q8 _ _ (by have:=(i2 y hy).1;omega),by rw [qF];exact hqL⟩
theorem BkI.done (T:TreeP k E par) {ws:List Nat} (hp:place<k) (h:BkI par early k L place ws 0 least above):q1L par L early place (least place):=by
 obtain ⟨hg,q,hq,hc,hqL⟩:=h;rw [List.take_zero] at hc;obtain rfl:=hc.none;exact hg.best hp hqL
theorem GvM.setL {w:World} {He Ha Hl:Nat} (h:GvM w k He Ha Hl early least above) (x y:Nat):GvM (w.setCell ⟨Hl,x,none⟩ (.int .i64 (y:Int))).drew k He Ha Hl early (qM least x y) above:=by
 have hs:∀ b,b≠Hl->(w.setCell ⟨Hl,x,none⟩ (.int .i64 (y:Int))).heap[b]?=w.heap[b]?:=λ b hb=>JQ _ _ _ _ hb;(have r:=(h.l.set x (.int .i64 (y:Int))).congr (g:=λ v=>.int .i64 ((qM least x y v:Nat):Int)) λ v _=>by unfold qM;by_cases e:v=x <;> simp [e]);exact ⟨(h.e.of_block (hs He h.ne.2.1):World.rowIs _ He 3 k _),(h.a.of_block (hs Ha h.ne.2.2):World.rowIs _ Ha 3 k _),r,h.ne⟩
theorem GvM.setA {w:World} {He Ha Hl:Nat} (h:GvM w k He Ha Hl early least above) (x:Nat) (y:Int):GvM (w.setCell ⟨Ha,x,none⟩ (.int .i64 y)).drew k He Ha Hl early least (qM above x y):=by
 have hs:∀ b,b≠Ha->(w.setCell ⟨Ha,x,none⟩ (.int .i64 y)).heap[b]?=w.heap[b]?:=λ b hb=>JQ _ _ _ _ hb;(have r:=(h.a.set x (.int .i64 y)).congr (g:=λ v=>.int .i64 (qM above x y v)) λ v _=>by unfold qM;by_cases e:v=x <;> simp [e]);exact ⟨(h.e.of_block (hs He h.ne.1):World.rowIs _ He 3 k _),r,(h.l.of_block (hs Hl h.ne.2.2.symm):World.rowIs _ Hl 3 k _),h.ne⟩
theorem GvM.keepL {w:World} {He Ha Hl:Nat} (h:GvM w k He Ha Hl early least above) (x:Nat):GvM w k He Ha Hl early (qM least x (least x)) above :=
 ⟨h.e,h.a,h.l.congr λ v _=>by unfold qM;by_cases e:v=x <;> simp [e],h.ne⟩
def qBT (par early:Nat->Nat) (k L place He Ha Hl:Nat) (w:World) (e:Ending) (w':World):Prop :=
 ∃ (x:Nat) (least':Nat->Nat) (above':Nat->Int),e=.returned (.int .i64 (x:Int))/\x<k/\q1L par L early place x/\GrvI par k L early least' above'/\GvM w' k He Ha Hl early least' above'/\FrX (λ b=>b=Ha\/b=Hl) w w'
set_option maxRecDepth 100000 in
set_option maxHeartbeats 8000000 in
theorem q4G (He Ha Hl:Nat) (w:World) (T:TreeP k E par) (G:GrvI par k L early least above) (hm:GvM w k He Ha Hl early least above) (hp:place<k) (hk:k<=1000000) :
  Calls Tryz.prog 130 #[.agg #[.slice (some ⟨He,0,none⟩) k k,.slice (some ⟨Ha,0,none⟩) k k,.slice (some ⟨Hl,0,none⟩) k k],.int .i64 (place:Int)] w (qBT par early k L place He Ha Hl w):=by
 obtain ⟨i0,hi,si,sh,sf⟩:=info_parts Tryz.info3;have HI:=Jj (And.intro hi (And.intro si (And.intro sh sf)));clear hi si sh sf;have hlE:=hm.e.lt;have hlA:=hm.a.lt;have hlL:=hm.l.lt;have HM:=Jj hm;have HG:=Jj G;have HT:=Jj T
 clear hm G T;(go_enter Tryz.func130,Tryz.ntmps130);(go_upto_region 3 with fail);obtain ⟨w1,tP,tz,sD,wm,sG,tK⟩:=named w #[.slice (some ⟨He,0,none⟩) k k,.slice (some ⟨Ha,0,none⟩) k k,.slice (some ⟨Hl,0,none⟩) k k] 189;rw [<- tP];(have tJ:w1.heap[w.heap.size]?=some (.cells #[.slice (some ⟨He,0,none⟩) k k,.slice (some ⟨Ha,0,none⟩) k k,.slice (some ⟨Hl,0,none⟩) k k] 189):=by rw [tP];exact heap_alloc_new w _);have sq:=Jj (HM.out.of_blocks (wm.block He hlE) (wm.block Ha hlA) (wm.block Hl hlL));have sr:=Jj wm;have wU:=Jj tJ
 (have hNs:w.heap.size<w1.heap.size:=by omega);have sM:Hid (w1.heap.size=w.heap.size+1):=Jj (by omega);clear tP tz sD wm sG tK tJ
 go_loopw [5,6] (λ s5 s6 wr=>∃ (ws:List Nat) (q:Nat),s6=.int .i64 (q:Int)/\q<k/\ChainP L above place ws q/\wr.ownsRow (w.heap.size+1) 3 1 s5 ws.length ((zs ws).map (Value.int .i64))/\FrX (λ _=>False) w1 wr) (λ _ s6 _=>(intOf s6).toNat)
 case atStart=>exact ⟨[],place,rfl,hp,.nil,World.ownsRow_nil _ _ _ _,FrX.refl _ _⟩
 case round =>
  obtain ⟨ws,q,rfl,hq,hc,tB,tq⟩:=hrel;have wg:=tq.box wU.out (λ h=>h);have c0:wr.cell? ⟨w.heap.size,0,none⟩=some (.slice (some ⟨He,0,none⟩) k k):=q6 wg 0;have c1:wr.cell? ⟨w.heap.size,1,none⟩=some (.slice (some ⟨Ha,0,none⟩) k k):=q6 wg 1;have c2:wr.cell? ⟨w.heap.size,2,none⟩=some (.slice (some ⟨Hl,0,none⟩) k k):=q6 wg 2;have hM:=sq.out.of_blocks (tq.block He (by omega) (λ h=>h)) (tq.block Ha (by omega) (λ h=>h)) (tq.block Hl (by omega) (λ h=>h));have tr:=hM.a.cell hq;(have sm:(0:Int)<=q:=by omega);have sk:(q:Int)<k:=by omega
  have tV:=Jj hM;have HC:=Jj hc;have tg:=Jj tB;have tZ:=Jj tq;have hlen:=(ChainP.lt HG.out hp hc).2.2;clear wg hM hc tB tq
  by_cases hL:L<=q
  ·obtain ⟨a,a1,a2,-⟩:=HG.out.hi q hL hq;(have tu:a<k:=by omega);have tO:=tV.out.a.cell tu;rw [a1] at tr;(have sJ:(0:Int)<=a:=by omega);have sI:(a:Int)<k:=by omega
   by_cases hL2:L<=a
   ·obtain ⟨b,b1,b2,-⟩:=HG.out.hi a hL2 tu;rw [b1] at tO;(have sH:(0:Int)<=b:=by omega);have hd:decide ((b:Int) ≥ 0)=true:=decide_eq_true sH;have sN:=Jj (ChainP.snoc HC.out hL a1 hL2);have HA:=Jj (And.intro a2 tu);have sO:Hid (above q=(a:Int)):=Jj a1;clear a1 a2 tu b1 b2 hL hL2;go_upto_region 3 with fail
    (go_quiet (fail));have wj:(wr.drewN nq).ownsRow (w.heap.size+1) 3 1 u5 ws.length ((zs ws).map (Value.int .i64)):=tg.out;have wk:FrX (λ _=>False) w1 (wr.drewN nq):=tZ.out.trans ⟨rfl,rfl,rfl,J4 _,λ _ _ _=>rfl⟩;have d0:(wr.drewN nq).cell? ⟨w.heap.size,1,none⟩=some (.slice (some ⟨Ha,0,none⟩) k k):=c1;have d1:(wr.drewN nq).cell? ⟨Ha,q,none⟩=some (.int .i64 (a:Int)):=tr;generalize wr.drewN nq=w2 at *;have wX:=Jj wj;have wu:=Jj wk;have tw:=wk.size
    clear wj wk c0 c1 c2 tr tO hd;(have sj:ws.length<=1000000:=by omega);(have hNw2:w.heap.size<w2.heap.size:=by omega);go_wp2_with (at_builtin;refine wpList_append_lies _ rfl (.tmp 34) (.tmp 36) 27 rfl (w.heap.size+1) 3 i0 (.int .i64 0) 1 8 Tryz.underlying27 HI.out.1 HI.out.2.1 HI.out.2.2.1 HI.out.2.2.2 rfl (by decide) u5 _ _ rfl (wX.out.alloc _) ⟨w2.heap.size,0,none⟩ 1 1 [.int .i64 (q:Int)] rfl rfl ?e1 ?e2 ?e0 ?e3 ?e4 ?e5 (w2.heap.size+1) ?e6 ?_)
    case e1=>exact qm w2 _ _ rfl
    case e2=>exact ints_oneCell .i64 [(q:Int)]
    case e0=>omega
    case e3=>unfold maxLen;omega
    case e4=>omega
    case e5=>simp;omega
    case e6=>simp
    intro g cap w3 wV wM tH hlt3;(have wQ:FrX (λ _=>False) w1 w3:=(wu.out.alloc _).grown wM (λ g hg=>.inr (by have:=(wX.out.lt g hg).1;have:=wu.out.size;exact (Nat.lt_or_ge g w1.heap.size).elim (λ e=>by exfalso;have:=sM.out;omega) (λ e=>by omega))));have wT:∀ b,b<w1.heap.size->w3.heap[b]?=w1.heap[b]?:=λ b hb=>wQ.block b hb (λ h=>h);have wW:=wQ.box wU.out (λ h=>h);have d0:w3.cell? ⟨w.heap.size,1,none⟩=some (.slice (some ⟨Ha,0,none⟩) k k):=q6 wW 1;have d1:w3.cell? ⟨Ha,q,none⟩=some (.int .i64 (a:Int)):=by
     have:=((sq.out.of_blocks (wT He (by omega)) (wT Ha (by omega)) (wT Hl (by omega))).a.cell (by omega:q<k));rw [sO.out] at this;exact this
    have tD:w3.ownsRow (w.heap.size+1) 3 1 (.slice (some ⟨g,0,none⟩) (ws.length+1) cap) (ws++[q]).length ((zs (ws++[q])).map (Value.int .i64)):=by
     rw [yG,List.map_append];simpa using wV
    have tU:=Jj tD;have tY:=Jj wQ;clear wV wM tH tD wQ wT wW;go_wp2_with fail
    go_roundw
    case rel=>exact ⟨ws++[q],a,rfl,HA.out.2,sN.out,tU.out,tY.out⟩
    case measure=>have:=HA.out.1;simp [intOf];omega
   ·have sn:above a=-1:=(HG.out.lo a (by omega) tu).1;rw [sn] at tO;(have hX:above q<(L:Int):=by omega);clear sn;have HX:Hid (above q<(L:Int)):=Jj (by omega);(go_upto_region 3 with fail);(go_quiet (fail));have hM2:=tV.out.of_blocks (w':=wr.drewN nq) rfl rfl rfl;have wj:(wr.drewN nq).ownsRow (w.heap.size+1) 3 1 u5 ws.length ((zs ws).map (Value.int .i64)):=tg.out
    have wk:FrX (λ b=>b=Ha\/b=Hl) w1 (wr.drewN nq):=((tZ.out.mono (λ _ _ h=>h.elim):FrX (λ b=>b=Ha\/b=Hl) w1 wr).trans ⟨rfl,rfl,rfl,J4 _,λ _ _ _=>rfl⟩);generalize wr.drewN nq=w2 at *;have tX:=Jj hM2;have wu:=Jj wk;(obtain ⟨A,c,rfl,tx⟩:=yg (B:=λ g=>w.heap.size+1<=g/\g<w2.heap.size) (xs:=ws.map λ q:Nat=>(q:Int)) (by simpa [zs] using wj) (λ y hy=>by obtain ⟨t,ht,rfl⟩:=List.mem_map.1 hy;have:=(ChainP.lt HG.out hp HC.out).2.1 t ht;unfold I64;omega) (λ _ h1 h2=>⟨h1,h2⟩));rw [List.length_map];have tT:=Jj tx;have tw:=wk.size;have tS:=Jj (show BkI par early k L place ws ws.length least above from ⟨HG.out,q,hq,by rw [List.take_length];exact HC.out,HX.out⟩)
    have sL:Hid (∀ x∈ws,x<k):=Jj (λ x hx=>((ChainP.lt HG.out hp HC.out).2.1 x hx).2);clear hM2 wj wk tx c0 c1 c2 tr tO hX a1 a2 tu sJ sI hL2;go_wp2_with fail
    go_loopw [7] (λ s7 wq=>∃ (r:Nat) (least':Nat->Nat) (above':Nat->Int),s7=.int .i64 ((r:Int) - 1)/\r<=ws.length/\BkI par early k L place ws r least' above'/\GvM wq k He Ha Hl early least' above'/\FrX (λ b=>b=Ha\/b=Hl) w2 wq) (λ s7 _=>(intOf s7+1).toNat)
    case atStart=>exact ⟨ws.length,least,above,rfl,J4 _,tS.out,tX.out,FrX.refl _ _⟩
    case round =>
     obtain ⟨r,least',above',e7,hr,wl,wh,wv⟩:=hrel;have hHa:He≠Ha/\He≠Hl/\Ha≠Hl:=wh.ne;have wg:=(wu.out.trans wv).box wU.out (by omega);have c0:wr.cell? ⟨w.heap.size,0,none⟩=some (.slice (some ⟨He,0,none⟩) k k):=q6 wg 0;have c1:wr.cell? ⟨w.heap.size,1,none⟩=some (.slice (some ⟨Ha,0,none⟩) k k):=q6 wg 1;have c2:wr.cell? ⟨w.heap.size,2,none⟩=some (.slice (some ⟨Hl,0,none⟩) k k):=q6 wg 2;have th:=Jj wh;have tN:=Jj wv;have sd:=Jj wl
     have tQ:=wv.size;(have ta:=SIntsB.go (B:=λ g=>w.heap.size+1<=g/\g<w2.heap.size) (B':=λ _=>True) (w:=w2) (w':=wr) (λ a v hb ha=>(JK (wv.block a.block hb.2 (by have:=hb.1;omega))).trans ha) (λ _ _=>trivial) tT.out);cases r with
     | zero =>
      obtain rfl:u7=.int .i64 (-1):=e7;have sF:=wh.l.cell hp;(have sC:(0:Int)<=place:=by omega);(have sB:(place:Int)<k:=by omega);have wO:Hid (least' place<k/\q1L par L early place (least' place)):=Jj ⟨GrvI.least_lt HT.out wl.g hp,wl.done HT.out hp⟩;have sb:Hid (FrX (λ b=>b=Ha\/b=Hl) w wr):=Jj ((FrX.of_below sr.out).trans (wu.out.trans wv));clear wg wh wv wl ta;(go_wp2_with fail);go_ret
      exact ⟨least' place,least',above',rfl,wO.out.1,wO.out.2,sd.out.g,th.out,sb.out⟩
     | succ r =>
      (obtain rfl:u7=.int .i64 (r:Int):=by rw [e7];congr 1;omega);(have tR:r<ws.length:=by omega);(obtain ⟨bb,oo,y,rfl,hy,-,wY,-⟩:=ta.at_ (k:=r) (by rw [List.length_map];exact tR));obtain ⟨x,hx,rfl⟩:=jD (l:=ws) hy.out;obtain ⟨q',wZ,td,hLx,hLq,tL,sy,tC⟩:=wl.step HT.out hp hx;(have wY:wr.cell? ⟨bb,oo+r,none⟩=some (.int .i64 (x:Int)):=by rw [Nat.mul_one] at wY;exact wY);have e1:=wh.a.cell wZ;rw [tL] at e1;have e2:=wh.a.cell td
      have e3:=wh.l.cell wZ;have e4:=wh.l.cell td;have tE:=GrvI.least_lt HT.out wl.g wZ;have tG:=GrvI.least_lt HT.out wl.g td;have e5:=wh.e.cell tE;have e6:=wh.e.cell tG;have f1:=wh.a.frozen x;have f2:=wh.l.frozen x;have tM:=Jj tC
      have sK:Hid (least' x<k/\least' q'<k):=Jj ⟨tE,tG⟩;(have su:(0:Int)<=x:=by omega);(have ss:(x:Int)<k:=by omega);(have sm:(0:Int)<=q':=by omega);(have sk:(q':Int)<k:=by omega);(have sx:(0:Int)<=r:=by omega);(have sw:(r:Int)<ws.length:=by omega);have tz:=wh.l.set x (.int .i64 (least' q':Int));have sj:ws.length<=1000000:=by have:=(ChainP.lt HG.out hp HC.out).2.2;omega
      clear wg wh wv wl ta tC hx tL hLx hLq e7 hy tz
      by_cases tF:early (least' q')<early (least' x)
      ·have hd:decide ((early (least' q'):Int)<(early (least' x):Int))=true:=decide_eq_true (by omega);have tm:Hid ((if early (least' q')<early (least' x) then least' q' else least' x)=least' q'):=Jj (if_pos tF);(have tf:((early (least' q'):Int)<(early (least' x):Int)):=by omega);(go_upto_region 11 with fail);(go_quiet (fail));have ww:=Jj (th.out.of_blocks (w':=wr.drewN nq) rfl rfl rfl);have wJ:Hid (FrX (λ b=>b=Ha\/b=Hl) w2 (wr.drewN nq)):=Jj (tN.out.trans ⟨rfl,rfl,rfl,J4 _,λ _ _ _=>rfl⟩);have c0':(wr.drewN nq).cell? ⟨w.heap.size,0,none⟩=some (.slice (some ⟨He,0,none⟩) k k):=c0;have c1':(wr.drewN nq).cell? ⟨w.heap.size,1,none⟩=some (.slice (some ⟨Ha,0,none⟩) k k):=c1
       have c2':(wr.drewN nq).cell? ⟨w.heap.size,2,none⟩=some (.slice (some ⟨Hl,0,none⟩) k k):=c2;have e1':(wr.drewN nq).cell? ⟨Ha,x,none⟩=some (.int .i64 (q':Int)):=e1;have e2':(wr.drewN nq).cell? ⟨Ha,q',none⟩=some (.int .i64 (above' q')):=e2;have e3':(wr.drewN nq).cell? ⟨Hl,x,none⟩=some (.int .i64 (least' x:Int)):=e3;have e4':(wr.drewN nq).cell? ⟨Hl,q',none⟩=some (.int .i64 (least' q':Int)):=e4;have f1':(wr.drewN nq).frozen? ⟨Ha,x,none⟩=false:=f1;have f2':(wr.drewN nq).frozen? ⟨Hl,x,none⟩=false:=f2;clear c0 c1 c2 e1 e2 e3 e4 e5 e6 f1 f2;generalize wr.drewN nq=w4 at *
       (go_upto_region 12 with fail);(go_region);have tW:=Jj (GvM.setL ww.out x (least' q'));have sc:Hid (FrX (λ b=>b=Ha\/b=Hl) w2 (w4.setCell ⟨Hl,x,none⟩ (.int .i64 (least' q':Int))).drew):=Jj (wJ.out.setCell (.inl (.inr rfl)) _).drew;have tc:∀ b,b≠Hl->(w4.setCell ⟨Hl,x,none⟩ (.int .i64 (least' q':Int))).drew.heap[b]?=w4.heap[b]?:=λ b hb=>JQ _ _ _ _ hb;have wR:∀ (b i:Nat),b≠Hl->(w4.setCell ⟨Hl,x,none⟩ (.int .i64 (least' q':Int))).drew.cell? ⟨b,i,none⟩=w4.cell? ⟨b,i,none⟩:=λ b i hb=>JK (tc b hb);have c1:=(wR w.heap.size 1 (by omega)).trans c1';have e1:=(wR Ha x hHa.2.2).trans e1';have e2:=(wR Ha q' hHa.2.2).trans e2'
       have f1:=(World.frozen?_of_block (a:=⟨Ha,x,none⟩) (tc Ha hHa.2.2)).trans f1';clear tc wR c0' c1' c2' e1' e2' e3' e4' f1' f2';generalize (w4.setCell ⟨Hl,x,none⟩ (.int .i64 (least' q':Int))).drew=w5 at *;(go_upto_region 13 with fail);(go_region);have tj:=Jj (GvM.setA tW.out x (above' q'));have tp:Hid (FrX (λ b=>b=Ha\/b=Hl) w2 (w5.setCell ⟨Ha,x,none⟩ (.int .i64 (above' q'))).drew):=Jj (sc.out.setCell (.inl (.inl rfl)) _).drew;clear c1 e1 e2 f1;go_wp2_with fail
       go_roundw
       case rel=>exact ⟨r,_,_,by first | rfl | go_num,by omega,tM.out,by rw [tm.out];exact tj.out,tp.out⟩
       case measure=>(simp [intOf] <;> try omega)
      ·have hd:decide ((early (least' q'):Int)<(early (least' x):Int))=false:=decide_eq_false (by omega);have tm:Hid ((if early (least' q')<early (least' x) then least' q' else least' x)=least' x):=Jj (if_neg tF);(have tf:¬ ((early (least' q'):Int)<(early (least' x):Int)):=by omega);(go_upto_region 11 with fail);(go_quiet (fail));have ww:=Jj (th.out.of_blocks (w':=wr.drewN nq) rfl rfl rfl);have wJ:Hid (FrX (λ b=>b=Ha\/b=Hl) w2 (wr.drewN nq)):=Jj (tN.out.trans ⟨rfl,rfl,rfl,J4 _,λ _ _ _=>rfl⟩);have c0':(wr.drewN nq).cell? ⟨w.heap.size,0,none⟩=some (.slice (some ⟨He,0,none⟩) k k):=c0;have c1':(wr.drewN nq).cell? ⟨w.heap.size,1,none⟩=some (.slice (some ⟨Ha,0,none⟩) k k):=c1
       have c2':(wr.drewN nq).cell? ⟨w.heap.size,2,none⟩=some (.slice (some ⟨Hl,0,none⟩) k k):=c2;have e1':(wr.drewN nq).cell? ⟨Ha,x,none⟩=some (.int .i64 (q':Int)):=e1;have e2':(wr.drewN nq).cell? ⟨Ha,q',none⟩=some (.int .i64 (above' q')):=e2;have e3':(wr.drewN nq).cell? ⟨Hl,x,none⟩=some (.int .i64 (least' x:Int)):=e3;have e4':(wr.drewN nq).cell? ⟨Hl,q',none⟩=some (.int .i64 (least' q':Int)):=e4;have f1':(wr.drewN nq).frozen? ⟨Ha,x,none⟩=false:=f1;have f2':(wr.drewN nq).frozen? ⟨Hl,x,none⟩=false:=f2;clear c0 c1 c2 e1 e2 e3 e4 e5 e6 f1 f2;generalize wr.drewN nq=w4 at *
       have c1:=c1';have e1:=e1';have e2:=e2';have f1:=f1';clear c0' c1' c2' e1' e2' e3' e4' f1' f2';(go_upto_region 13 with fail);(go_region);have tj:=Jj (GvM.setA ww.out x (above' q'));have tp:Hid (FrX (λ b=>b=Ha\/b=Hl) w2 (w4.setCell ⟨Ha,x,none⟩ (.int .i64 (above' q'))).drew):=Jj (wJ.out.setCell (.inl (.inl rfl)) _).drew
       clear c1 e1 e2 f1;go_wp2_with fail
       go_roundw
       case rel=>exact ⟨r,_,_,by first | rfl | go_num,by omega,tM.out,by rw [tm.out];exact tj.out.keepL x,tp.out⟩
       case measure=>(simp [intOf] <;> try omega)
  ·have sp:above q=-1:=(HG.out.lo q (by omega) hq).1;rw [sp] at tr;(have hX:above q<(L:Int):=by omega);clear sp;have HX:Hid (above q<(L:Int)):=Jj (by omega);(go_upto_region 3 with fail);(go_quiet (fail));have hM2:=tV.out.of_blocks (w':=wr.drewN nq) rfl rfl rfl;have wj:(wr.drewN nq).ownsRow (w.heap.size+1) 3 1 u5 ws.length ((zs ws).map (Value.int .i64)):=tg.out
   have wk:FrX (λ b=>b=Ha\/b=Hl) w1 (wr.drewN nq):=((tZ.out.mono (λ _ _ h=>h.elim):FrX (λ b=>b=Ha\/b=Hl) w1 wr).trans ⟨rfl,rfl,rfl,J4 _,λ _ _ _=>rfl⟩);generalize wr.drewN nq=w2 at *;have tX:=Jj hM2;have wu:=Jj wk;(obtain ⟨A,c,rfl,tx⟩:=yg (B:=λ g=>w.heap.size+1<=g/\g<w2.heap.size) (xs:=ws.map λ q:Nat=>(q:Int)) (by simpa [zs] using wj) (λ y hy=>by obtain ⟨t,ht,rfl⟩:=List.mem_map.1 hy;have:=(ChainP.lt HG.out hp HC.out).2.1 t ht;unfold I64;omega) (λ _ h1 h2=>⟨h1,h2⟩));rw [List.length_map];have tT:=Jj tx;have tw:=wk.size;have tS:=Jj (show BkI par early k L place ws ws.length least above from ⟨HG.out,q,hq,by rw [List.take_length];exact HC.out,HX.out⟩)
   have sL:Hid (∀ x∈ws,x<k):=Jj (λ x hx=>((ChainP.lt HG.out hp HC.out).2.1 x hx).2);clear hM2 wj wk tx c0 c1 c2 tr hX;go_wp2_with fail
   go_loopw [7] (λ s7 wq=>∃ (r:Nat) (least':Nat->Nat) (above':Nat->Int),s7=.int .i64 ((r:Int) - 1)/\r<=ws.length/\BkI par early k L place ws r least' above'/\GvM wq k He Ha Hl early least' above'/\FrX (λ b=>b=Ha\/b=Hl) w2 wq) (λ s7 _=>(intOf s7+1).toNat)
   case atStart=>exact ⟨ws.length,least,above,rfl,J4 _,tS.out,tX.out,FrX.refl _ _⟩
   case round =>
    obtain ⟨r,least',above',e7,hr,wl,wh,wv⟩:=hrel;have hHa:He≠Ha/\He≠Hl/\Ha≠Hl:=wh.ne;have wg:=(wu.out.trans wv).box wU.out (by omega);have c0:wr.cell? ⟨w.heap.size,0,none⟩=some (.slice (some ⟨He,0,none⟩) k k):=q6 wg 0;have c1:wr.cell? ⟨w.heap.size,1,none⟩=some (.slice (some ⟨Ha,0,none⟩) k k):=q6 wg 1;have c2:wr.cell? ⟨w.heap.size,2,none⟩=some (.slice (some ⟨Hl,0,none⟩) k k):=q6 wg 2;have th:=Jj wh;have tN:=Jj wv;have sd:=Jj wl
    have tQ:=wv.size;(have ta:=SIntsB.go (B:=λ g=>w.heap.size+1<=g/\g<w2.heap.size) (B':=λ _=>True) (w:=w2) (w':=wr) (λ a v hb ha=>(JK (wv.block a.block hb.2 (by have:=hb.1;omega))).trans ha) (λ _ _=>trivial) tT.out);cases r with
    | zero =>
     obtain rfl:u7=.int .i64 (-1):=e7;have sF:=wh.l.cell hp;(have sC:(0:Int)<=place:=by omega);(have sB:(place:Int)<k:=by omega);have wO:Hid (least' place<k/\q1L par L early place (least' place)):=Jj ⟨GrvI.least_lt HT.out wl.g hp,wl.done HT.out hp⟩;have sb:Hid (FrX (λ b=>b=Ha\/b=Hl) w wr):=Jj ((FrX.of_below sr.out).trans (wu.out.trans wv));clear wg wh wv wl ta;(go_wp2_with fail);go_ret
     exact ⟨least' place,least',above',rfl,wO.out.1,wO.out.2,sd.out.g,th.out,sb.out⟩
    | succ r =>
     (obtain rfl:u7=.int .i64 (r:Int):=by rw [e7];congr 1;omega);(have tR:r<ws.length:=by omega);(obtain ⟨bb,oo,y,rfl,hy,-,wY,-⟩:=ta.at_ (k:=r) (by rw [List.length_map];exact tR));obtain ⟨x,hx,rfl⟩:=jD (l:=ws) hy.out;obtain ⟨q',wZ,td,hLx,hLq,tL,sy,tC⟩:=wl.step HT.out hp hx;(have wY:wr.cell? ⟨bb,oo+r,none⟩=some (.int .i64 (x:Int)):=by rw [Nat.mul_one] at wY;exact wY);have e1:=wh.a.cell wZ;rw [tL] at e1;have e2:=wh.a.cell td
     have e3:=wh.l.cell wZ;have e4:=wh.l.cell td;have tE:=GrvI.least_lt HT.out wl.g wZ;have tG:=GrvI.least_lt HT.out wl.g td;have e5:=wh.e.cell tE;have e6:=wh.e.cell tG;have f1:=wh.a.frozen x;have f2:=wh.l.frozen x;have tM:=Jj tC
     have sK:Hid (least' x<k/\least' q'<k):=Jj ⟨tE,tG⟩;(have su:(0:Int)<=x:=by omega);(have ss:(x:Int)<k:=by omega);(have sm:(0:Int)<=q':=by omega);(have sk:(q':Int)<k:=by omega);(have sx:(0:Int)<=r:=by omega);(have sw:(r:Int)<ws.length:=by omega);have tz:=wh.l.set x (.int .i64 (least' q':Int));have sj:ws.length<=1000000:=by have:=(ChainP.lt HG.out hp HC.out).2.2;omega
     clear wg wh wv wl ta tC hx tL hLx hLq e7 hy tz
     by_cases tF:early (least' q')<early (least' x)
     ·have hd:decide ((early (least' q'):Int)<(early (least' x):Int))=true:=decide_eq_true (by omega);have tm:Hid ((if early (least' q')<early (least' x) then least' q' else least' x)=least' q'):=Jj (if_pos tF);(have tf:((early (least' q'):Int)<(early (least' x):Int)):=by omega);(go_upto_region 11 with fail);(go_quiet (fail));have ww:=Jj (th.out.of_blocks (w':=wr.drewN nq) rfl rfl rfl);have wJ:Hid (FrX (λ b=>b=Ha\/b=Hl) w2 (wr.drewN nq)):=Jj (tN.out.trans ⟨rfl,rfl,rfl,J4 _,λ _ _ _=>rfl⟩);have c0':(wr.drewN nq).cell? ⟨w.heap.size,0,none⟩=some (.slice (some ⟨He,0,none⟩) k k):=c0;have c1':(wr.drewN nq).cell? ⟨w.heap.size,1,none⟩=some (.slice (some ⟨Ha,0,none⟩) k k):=c1
      have c2':(wr.drewN nq).cell? ⟨w.heap.size,2,none⟩=some (.slice (some ⟨Hl,0,none⟩) k k):=c2;have e1':(wr.drewN nq).cell? ⟨Ha,x,none⟩=some (.int .i64 (q':Int)):=e1;have e2':(wr.drewN nq).cell? ⟨Ha,q',none⟩=some (.int .i64 (above' q')):=e2;have e3':(wr.drewN nq).cell? ⟨Hl,x,none⟩=some (.int .i64 (least' x:Int)):=e3;have e4':(wr.drewN nq).cell? ⟨Hl,q',none⟩=some (.int .i64 (least' q':Int)):=e4;have f1':(wr.drewN nq).frozen? ⟨Ha,x,none⟩=false:=f1;have f2':(wr.drewN nq).frozen? ⟨Hl,x,none⟩=false:=f2;clear c0 c1 c2 e1 e2 e3 e4 e5 e6 f1 f2;generalize wr.drewN nq=w4 at *
      (go_upto_region 12 with fail);(go_region);have tW:=Jj (GvM.setL ww.out x (least' q'));have sc:Hid (FrX (λ b=>b=Ha\/b=Hl) w2 (w4.setCell ⟨Hl,x,none⟩ (.int .i64 (least' q':Int))).drew):=Jj (wJ.out.setCell (.inl (.inr rfl)) _).drew;have tc:∀ b,b≠Hl->(w4.setCell ⟨Hl,x,none⟩ (.int .i64 (least' q':Int))).drew.heap[b]?=w4.heap[b]?:=λ b hb=>JQ _ _ _ _ hb;have wR:∀ (b i:Nat),b≠Hl->(w4.setCell ⟨Hl,x,none⟩ (.int .i64 (least' q':Int))).drew.cell? ⟨b,i,none⟩=w4.cell? ⟨b,i,none⟩:=λ b i hb=>JK (tc b hb);have c1:=(wR w.heap.size 1 (by omega)).trans c1';have e1:=(wR Ha x hHa.2.2).trans e1';have e2:=(wR Ha q' hHa.2.2).trans e2'
      have f1:=(World.frozen?_of_block (a:=⟨Ha,x,none⟩) (tc Ha hHa.2.2)).trans f1';clear tc wR c0' c1' c2' e1' e2' e3' e4' f1' f2';generalize (w4.setCell ⟨Hl,x,none⟩ (.int .i64 (least' q':Int))).drew=w5 at *;(go_upto_region 13 with fail);(go_region);have tj:=Jj (GvM.setA tW.out x (above' q'));have tp:Hid (FrX (λ b=>b=Ha\/b=Hl) w2 (w5.setCell ⟨Ha,x,none⟩ (.int .i64 (above' q'))).drew):=Jj (sc.out.setCell (.inl (.inl rfl)) _).drew;clear c1 e1 e2 f1;go_wp2_with fail
      go_roundw
      case rel=>exact ⟨r,_,_,by first | rfl | go_num,by omega,tM.out,by rw [tm.out];exact tj.out,tp.out⟩
      case measure=>(simp [intOf] <;> try omega)
     ·have hd:decide ((early (least' q'):Int)<(early (least' x):Int))=false:=decide_eq_false (by omega);have tm:Hid ((if early (least' q')<early (least' x) then least' q' else least' x)=least' x):=Jj (if_neg tF);(have tf:¬ ((early (least' q'):Int)<(early (least' x):Int)):=by omega);(go_upto_region 11 with fail);(go_quiet (fail));have ww:=Jj (th.out.of_blocks (w':=wr.drewN nq) rfl rfl rfl);have wJ:Hid (FrX (λ b=>b=Ha\/b=Hl) w2 (wr.drewN nq)):=Jj (tN.out.trans ⟨rfl,rfl,rfl,J4 _,λ _ _ _=>rfl⟩);have c0':(wr.drewN nq).cell? ⟨w.heap.size,0,none⟩=some (.slice (some ⟨He,0,none⟩) k k):=c0;have c1':(wr.drewN nq).cell? ⟨w.heap.size,1,none⟩=some (.slice (some ⟨Ha,0,none⟩) k k):=c1
      have c2':(wr.drewN nq).cell? ⟨w.heap.size,2,none⟩=some (.slice (some ⟨Hl,0,none⟩) k k):=c2;have e1':(wr.drewN nq).cell? ⟨Ha,x,none⟩=some (.int .i64 (q':Int)):=e1;have e2':(wr.drewN nq).cell? ⟨Ha,q',none⟩=some (.int .i64 (above' q')):=e2;have e3':(wr.drewN nq).cell? ⟨Hl,x,none⟩=some (.int .i64 (least' x:Int)):=e3;have e4':(wr.drewN nq).cell? ⟨Hl,q',none⟩=some (.int .i64 (least' q':Int)):=e4;have f1':(wr.drewN nq).frozen? ⟨Ha,x,none⟩=false:=f1;have f2':(wr.drewN nq).frozen? ⟨Hl,x,none⟩=false:=f2;clear c0 c1 c2 e1 e2 e3 e4 e5 e6 f1 f2;generalize wr.drewN nq=w4 at *
      have c1:=c1';have e1:=e1';have e2:=e2';have f1:=f1';clear c0' c1' c2' e1' e2' e3' e4' f1' f2';(go_upto_region 13 with fail);(go_region);have tj:=Jj (GvM.setA ww.out x (above' q'));have tp:Hid (FrX (λ b=>b=Ha\/b=Hl) w2 (w4.setCell ⟨Ha,x,none⟩ (.int .i64 (above' q'))).drew):=Jj (wJ.out.setCell (.inl (.inl rfl)) _).drew
      clear c1 e1 e2 f1;go_wp2_with fail
      go_roundw
      case rel=>exact ⟨r,_,_,by first | rfl | go_num,by omega,tM.out,by rw [tm.out];exact tj.out.keepL x,tp.out⟩
      case measure=>(simp [intOf] <;> try omega)
end Go.Proofs.YtfoggldjjnabcaaGreatDoor

namespace Go.Proofs.YtfoggldjjnabcaaGreatDoor
open Go.ChangeShapes Go.WideShapes Go.RowKit Go.Deep
structure GroD (w w':World) (v v':Value):Prop where
 os:w'.os=w.os
 tape:w'.tape=w.tape
 output:w'.output=w.output
 size:w.heap.size<=w'.heap.size
 block:∀ k,k<w.heap.size->v.ownBlock≠some k->w'.heap[k]?=w.heap[k]?
 own:∀ g,v'.ownBlock=some g->v.ownBlock=some g\/w.heap.size<=g
theorem qq {w w1:World} {o:Obj} {v:Value} {g n cap:Nat} (hg:(w.alloc o).grownBy w1 v.ownBlock) (hl:v.ownBlock=some g\/g=w.heap.size+1):GroD w w1 v (.slice (some ⟨g,0,none⟩) n cap) :=
 ⟨hg.os,hg.tape,hg.output,Nat.le_trans (by simp) hg.size,λ k hk hv=>(hg.block k (by simp;omega) (λ e=>hv e.symm)).trans (Below.heap_alloc _ _ _ hk),
  λ x hx=>by
  obtain rfl:g=x:=J3 hx;rcases hl with h | h
  ·exact .inl h
  ·exact .inr (by omega)⟩
theorem yC {w w1:World} {v v':Value} (h:GroD w.drew w1 v v'):GroD w w1 v v':=⟨h.os,h.tape,h.output,h.size,h.block,h.own⟩
theorem q55 (w:World) {g n cap j:Nat} (u:Value):GroD w (w.setCell ⟨g,j,none⟩ u) (.slice (some ⟨g,0,none⟩) n cap) (.slice (some ⟨g,0,none⟩) n cap) :=
 ⟨rfl,rfl,rfl,by simp,λ k hk hv=>JQ _ _ _ _ (λ e=>hv (by show some g=some k;exact congrArg some e.symm)),λ x hx=>.inl hx⟩
theorem GroD.fr {w w':World} {v v':Value} (h:GroD w w' v v') {X:Nat->Prop} {a:World} (ha:FrX X a w) (hv:∀ g,v.ownBlock=some g->X g\/a.heap.size<=g):FrX X a w' :=
 ⟨h.os.trans ha.os,h.tape.trans ha.tape,h.output.trans ha.output,Nat.le_trans ha.size h.size,λ k hk hx=>(h.block k (Nat.lt_of_lt_of_le hk ha.size) (λ e=>by
  rcases hv k e with h2 | h2
  ·exact hx h2
  ·omega)).trans (ha.block k hk hx)⟩
structure RowD where
 ty:TypeId
 size:Nat
 len:Nat
 xs:List Value
def q7P (w:World) (K:Nat) (v:Value) (t:RowD):Prop:=w.ownsRow K t.ty t.size v t.len t.xs
structure PoolD (w:World) (K m:Nat) (U:Nat->Value) (T:Nat->RowD):Prop where
 own:∀ i,i<m->q7P w K (U i) (T i)
 ap:∀ i j,i<m->j<m->i≠j->(U i).ownBlock=none\/(U i).ownBlock≠(U j).ownBlock
theorem PoolD.congr {w:World} {K m:Nat} {U U':Nat->Value} {T T':Nat->RowD} (h:PoolD w K m U T) (hu:∀ i,i<m->U i=U' i) (ht:∀ i,i<m->T i=T' i):PoolD w K m U' T' :=
 ⟨λ i hi=>by rw [<- hu i hi,<- ht i hi];exact h.own i hi,λ i j hi hj wg=>by rw [<- hu i hi,<- hu j hj];exact h.ap i j hi hj wg⟩
theorem PoolD.go {w w':World} {K m:Nat} {U:Nat->Value} {T:Nat->RowD} (h:PoolD w K m U T) (hb:∀ k,K<=k->k<w.heap.size->w'.heap[k]?=w.heap[k]?):PoolD w' K m U T :=
 ⟨λ i hi=>qJ (h.own i hi) λ g hg=>hb g ((h.own i hi).lt g hg).1 ((h.own i hi).lt g hg).2,h.ap⟩
theorem PoolD.gro {w w':World} {K m t:Nat} {U:Nat->Value} {T:Nat->RowD} {v':Value} {r:RowD} (h:PoolD w K m U T) (ht:t<m) (hg:GroD w w' (U t) v') (ho:q7P w' K v' r):PoolD w' K m (qM U t v') (qM T t r):=by
 have key:∀ i,i<m->i≠t->(U i).ownBlock=none\/(U i).ownBlock≠v'.ownBlock:=λ i hi wk=>by
  cases hb:(U i).ownBlock with
  | none=>exact .inl rfl
  | some b =>
   right;intro e;rcases hg.own b e.symm with h1 | h1
   ·rcases h.ap i t hi ht wk with h2 | h2
    ·rw [h2] at hb;cases hb
    ·exact h2 (hb.trans h1.symm)
   ·have:=((h.own i hi).lt b hb).2;omega
 refine ⟨λ i hi=>?_,λ i j hi hj wg=>?_⟩
 ·by_cases e:i=t
  ·subst e;rw [qF,qF];exact ho
  ·rw [q8 _ _ e,q8 _ _ e];refine qJ (h.own i hi) λ g wh=>hg.block g ((h.own i hi).lt g wh).2 λ e2=>?_;rcases h.ap i t hi ht e with h2 | h2
   ·rw [h2] at wh;cases wh
   ·exact h2 (wh.trans e2.symm)
 ·by_cases ei:i=t
  ·subst ei;rw [qF,q8 _ _ (Ne.symm wg)];rcases key j hj (Ne.symm wg) with h1 | h1
   ·cases hv:v'.ownBlock with
    | none=>exact .inl rfl
    | some b=>right;rw [h1];intro e;cases e
   ·exact .inr (Ne.symm h1)
  ·rw [q8 _ _ ei]
   by_cases ej:j=t
   ·subst ej;rw [qF];exact key i hi ei
   ·rw [q8 _ _ ej];exact h.ap i j hi hj wg
theorem PoolD.more {w:World} {K m:Nat} {U:Nat->Value} {T:Nat->RowD} (h:PoolD w K m U T) (ty:TypeId) (size:Nat):PoolD w K (m+1) (qM U m (.slice none 0 0)) (qM T m ⟨ty,size,0,[]⟩):=by
 refine ⟨λ i hi=>?_,λ i j hi hj wg=>?_⟩
 ·by_cases e:i=m
  ·subst e;rw [qF,qF];exact World.ownsRow_nil _ _ _ _
  ·rw [q8 _ _ e,q8 _ _ e];exact h.own i (by omega)
 ·by_cases ei:i=m
  ·subst ei;rw [qF];exact .inl rfl
  ·rw [q8 _ _ ei]
   by_cases ej:j=m
   ·(subst ej;rw [qF]);cases hb:(U i).ownBlock with
    | none=>exact .inl rfl
    | some b=>right;intro e;cases e
   ·rw [q8 _ _ ej];exact h.ap i j (by omega) (by omega) wg
theorem vH {w:World} {K n:Nat} {e:TypeId} {v:Value} {xs:List Value} (h:w.ownsRow K e 1 v n xs) {i:Nat} (hi:i<n):∃ g cap u,v=.slice (some ⟨g,0,none⟩) n cap/\xs[i]?=some u/\w.cell? ⟨g,i,none⟩=some u/\w.frozen? ⟨g,i,none⟩=false/\K<=g/\g<w.heap.size:=by
 obtain ⟨g,cap,rfl⟩:∃ g cap,v=.slice (some ⟨g,0,none⟩) n cap:=by
  rcases h.2 with ⟨_,h2⟩ | ⟨g,cap,cur,h2,_⟩
  ·omega
  ·exact ⟨g,cap,h2⟩
 have hl:=h.1;(have hx:i<xs.length:=by omega);refine ⟨g,cap,xs[i],rfl,Jq hx,?_,h.frozenAt i,(h.lt g rfl).1,(h.lt g rfl).2⟩;rw [h.cellAt i (by omega)];exact Jq hx
theorem ym {α:Type} (f:Nat->α) (k:Nat) (x:α):((List.range k).map f++[x])=(List.range (k+1)).map (qM f k x):=by
 rw [List.range_succ,List.map_append,List.map_singleton,qF];(congr 1);exact List.map_congr_left λ v hv=>(q8 _ _ (by have:=List.mem_range.1 hv;omega)).symm
theorem q1Q {α:Type} (f:Nat->α) (k j:Nat) (x:α):((List.range k).map f).set j x=(List.range k).map (qM f j x):=by
 apply List.ext_getElem?;intro i
 by_cases wj:i<k
 ·by_cases e:i=j
  ·subst e;simp [wj,qM]
  ·simp [wj,qM,e,Ne.symm e]
 ·simp [wj]
theorem qu {α:Type} (f:Nat->α) {k i:Nat} {x:α} (h:((List.range k).map f)[i]?=some x):x=f i/\i<k:=by
 rw [List.getElem?_map] at h;obtain ⟨q,hq,rfl⟩:=Option.map_eq_some_iff.1 h;obtain ⟨hl,rfl⟩:=Jk hq;simp at hl ⊢;exact hl
theorem v7 (w:World) (x:Value) (t:TypeId):∀ j u,[x][j]?=some u->((w.alloc (.cells #[x] t)).drew).cell? ((⟨w.heap.size,0,none⟩:Addr).add j)=some u:=by
 intro j u hj;(have:j=0:=by have:=(Jk hj).1;simp at this;omega);subst this;simp at hj;subst hj;exact q6 (heap_alloc_new w (.cells #[x] t)) 0
end Go.Proofs.YtfoggldjjnabcaaGreatDoor
