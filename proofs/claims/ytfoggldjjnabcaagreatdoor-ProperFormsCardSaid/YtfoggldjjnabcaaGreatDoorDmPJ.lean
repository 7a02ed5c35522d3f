/- The program's best: of a place and those above it the one with the earliest early one. -/
import Derived.Test.YtfoggldjjnabcaaGreatDoorGrOJ
import Derived.Test.YtfoggldjjnabcaaGreatDoorInsBJ
import Derived.Test.YtfoggldjjnabcaaGreatDoorInfBJ
import Derived.BigQuiet
import Derived.Test.YtfoggldjjnabcaaGreatDoorDmTJ
import Derived.Test.YtfoggldjjnabcaaGreatDoorGrNmJ
import Derived.Laws.OwnMore
namespace Go.Proofs.YtfoggldjjnabcaaGreatDoor
open Go.ChangeShapes Go.WideShapes Go.RowKit Go.Deep
set_option linter.unusedVariables false
inductive ChainP (L:Nat) (above:Nat→Int) (place:Nat):List Nat→Nat→Prop
  | nil:ChainP L above place [] place
  | snoc {ws:List Nat} {q p:Nat}:ChainP L above place ws q→L≤q→above q=(p:Int)→L≤p→ChainP L above place (ws++[q]) p
variable {k L:Nat} {E:Nat→Nat→Prop} {par early least:Nat→Nat} {above:Nat→Int} {place:Nat}
theorem ChainP.last {l:List Nat} {x p:Nat} (h:ChainP L above place (l++[x]) p):ChainP L above place l x∧L≤x∧above x=(p:Int)∧L≤p:=by
  generalize hm:l++[x]=m at h;cases h with
  | nil=>simp at hm
  | snoc h1 h2 h3 h4 =>
    obtain ⟨h5,h6⟩:=List.append_inj' hm rfl;simp at h6;(subst h5;subst h6);exact ⟨h1,h2,h3,h4⟩
theorem ChainP.none {p:Nat} (h:ChainP L above place [] p):p=place:=by
  generalize hm:([]:List Nat)=m at h;cases h with
  | nil=>rfl
  | snoc h1 h2 h3 h4=>simp at hm
theorem ChainP.lt (G:GrvI par k L early least above) (hp:place<k) {ws:List Nat} {q:Nat} (h:ChainP L above place ws q):q<k∧(∀ x∈ws,q<x∧x<k)∧ws.length+q≤place:=by
  induction h with
  | nil=>exact ⟨hp,fun x hx=>by (cases hx),by simp⟩
  | @snoc ws q p h1 h2 h3 h4 ih =>
    obtain ⟨i1,i2,i3⟩:=ih;obtain ⟨a,a1,a2,-⟩:=G.hi q h2 i1;(have:p<q:=by omega);(refine ⟨by omega,fun x hx=>?_,by simp;omega⟩);rcases List.mem_append.1 hx with hx | hx
    · have:=i2 x hx;omega
    · rw [List.mem_singleton.1 hx];omega
theorem ChainP.congr {above':Nat→Int} {ws:List Nat} {q:Nat} (h:ChainP L above place ws q) (he:∀ x∈ws,above' x=above x):ChainP L above' place ws q:=by
  induction h with
  | nil=>exact .nil
  | @snoc ws q p h1 h2 h3 h4 ih=>exact .snoc (ih fun x hx=>he x (by simp [hx])) h2 ((he q (by simp)).trans h3) h4
structure BkI (par early:Nat→Nat) (k L place:Nat) (ws:List Nat) (r:Nat) (least:Nat→Nat) (above:Nat→Int):Prop where
  g:GrvI par k L early least above
  c:∃ q,q<k∧ChainP L above place (ws.take r) q∧above q<(L:Int)
theorem BkI.step (T:TreeP k E par) {ws:List Nat} {r x:Nat} (hp:place<k) (h:BkI par early k L place ws (r+1) least above) (hx:ws[r]?=some x) :
    ∃ q,x<k∧q<k∧L≤x∧L≤q∧above x=(q:Int)∧-1≤above q∧BkI par early k L place ws r (updF least x (if early (least q)<early (least x) then least q else least x)) (updF above x (above q)):=by
  obtain ⟨hg,q,hq,hc,hqL⟩:=h;rw [qD hx] at hc;obtain ⟨h1,h2,h3,h4⟩:=hc.last;obtain ⟨i1,i2,-⟩:=ChainP.lt hg hp h1;have hg':=hg.hang T h2 i1 h3 h4 rfl;obtain ⟨a,a1,-⟩:=hg.hi q h4 hq;refine ⟨q,i1,hq,h2,h4,h3,by omega,hg',x,i1,h1.congr fun y hy=>q9 _ _ (by have:=(i2 y hy).1;omega),by rw [qB];exact hqL⟩
theorem BkI.done (T:TreeP k E par) {ws:List Nat} (hp:place<k) (h:BkI par early k L place ws 0 least above):BestP par L early place (least place):=by
  obtain ⟨hg,q,hq,hc,hqL⟩:=h;rw [List.take_zero] at hc;obtain rfl:=hc.none;exact hg.best hp hqL
theorem GvM.setL {w:World} {He Ha Hl:Nat} (h:GvM w k He Ha Hl early least above) (x y:Nat):GvM (w.setCell ⟨Hl,x,none⟩ (.int .i64 (y:Int))).drew k He Ha Hl early (updF least x y) above:=by
  have hs:∀ b,b≠Hl→(w.setCell ⟨Hl,x,none⟩ (.int .i64 (y:Int))).heap[b]?=w.heap[b]?:=fun b hb=>Below.heap_setCell _ _ _ _ hb;(have r:=(h.l.set x (.int .i64 (y:Int))).congr (g:=fun v=>.int .i64 ((updF least x y v:Nat):Int)) fun v _=>by unfold updF;by_cases e:v=x <;> simp [e]);exact ⟨(h.e.of_block (hs He h.ne.2.1):World.rowIs _ He 3 k _),(h.a.of_block (hs Ha h.ne.2.2):World.rowIs _ Ha 3 k _),r,h.ne⟩
theorem GvM.setA {w:World} {He Ha Hl:Nat} (h:GvM w k He Ha Hl early least above) (x:Nat) (y:Int):GvM (w.setCell ⟨Ha,x,none⟩ (.int .i64 y)).drew k He Ha Hl early least (updF above x y):=by
  have hs:∀ b,b≠Ha→(w.setCell ⟨Ha,x,none⟩ (.int .i64 y)).heap[b]?=w.heap[b]?:=fun b hb=>Below.heap_setCell _ _ _ _ hb;(have r:=(h.a.set x (.int .i64 y)).congr (g:=fun v=>.int .i64 (updF above x y v)) fun v _=>by unfold updF;by_cases e:v=x <;> simp [e]);exact ⟨(h.e.of_block (hs He h.ne.1):World.rowIs _ He 3 k _),r,(h.l.of_block (hs Hl h.ne.2.2.symm):World.rowIs _ Hl 3 k _),h.ne⟩
theorem GvM.keepL {w:World} {He Ha Hl:Nat} (h:GvM w k He Ha Hl early least above) (x:Nat):GvM w k He Ha Hl early (updF least x (least x)) above :=
  ⟨h.e,h.a,h.l.congr fun v _=>by unfold updF;by_cases e:v=x <;> simp [e],h.ne⟩
def ToldBe (par early:Nat→Nat) (k L place He Ha Hl:Nat) (w:World) (e:Ending) (w':World):Prop :=
  ∃ (x:Nat) (least':Nat→Nat) (above':Nat→Int),e=.returned (.int .i64 (x:Int))∧x<k∧BestP par L early place x∧GrvI par k L early least' above'∧GvM w' k He Ha Hl early least' above'∧FrX (fun b=>b=Ha∨b=Hl) w w'
set_option maxRecDepth 100000 in
set_option maxHeartbeats 8000000 in
theorem best_any (He Ha Hl:Nat) (w:World) (T:TreeP k E par) (G:GrvI par k L early least above) (hm:GvM w k He Ha Hl early least above) (hp:place<k) (hk:k≤1000000) :
    Calls Tryz.prog 130 #[.agg #[.slice (some ⟨He,0,none⟩) k k,.slice (some ⟨Ha,0,none⟩) k k,.slice (some ⟨Hl,0,none⟩) k k],.int .i64 (place:Int)] w (ToldBe par early k L place He Ha Hl w):=by
  obtain ⟨i0,hi,hz0,hz1,hz2⟩:=info_parts Tryz.info3;have HI:=Lib.hid (And.intro hi (And.intro hz0 (And.intro hz1 hz2)));clear hi hz0 hz1 hz2;have hlE:=hm.e.lt;have hlA:=hm.a.lt;have hlL:=hm.l.lt;have HM:=Lib.hid hm;have HG:=Lib.hid G;have HT:=Lib.hid T
  clear hm G T;(go_enter Tryz.func130,Tryz.ntmps130);(go_upto_region 3 with fail);obtain ⟨w1,hw1,hs1,hk1,hbel1,hc1,hblk1⟩:=named w #[.slice (some ⟨He,0,none⟩) k k,.slice (some ⟨Ha,0,none⟩) k k,.slice (some ⟨Hl,0,none⟩) k k] 189;rw [← hw1];(have hbox:w1.heap[w.heap.size]?=some (.cells #[.slice (some ⟨He,0,none⟩) k k,.slice (some ⟨Ha,0,none⟩) k k,.slice (some ⟨Hl,0,none⟩) k k] 189):=by rw [hw1];exact heap_alloc_new w _);have HM1:=Lib.hid (HM.out.of_blocks (hbel1.block He hlE) (hbel1.block Ha hlA) (hbel1.block Hl hlL));have HB1:=Lib.hid hbel1;have HBOX:=Lib.hid hbox
  (have hNs:w.heap.size<w1.heap.size:=by omega);have HNB:Hid (w1.heap.size=w.heap.size+1):=Lib.hid (by omega);clear hw1 hs1 hk1 hbel1 hc1 hblk1 hbox
  go_loopw [5,6] (fun s5 s6 wr=>∃ (ws:List Nat) (q:Nat),s6=.int .i64 (q:Int)∧q<k∧ChainP L above place ws q∧wr.ownsRow (w.heap.size+1) 3 1 s5 ws.length ((zs ws).map (Value.int .i64))∧FrX (fun _=>False) w1 wr) (fun _ s6 _=>(intOf s6).toNat)
  case atStart=>exact ⟨[],place,rfl,hp,.nil,World.ownsRow_nil _ _ _ _,FrX.refl _ _⟩
  case round =>
    obtain ⟨ws,q,rfl,hq,hc,hown,hfr⟩:=hrel;have hboxr:=hfr.box HBOX.out (fun h=>h);have c0:wr.cell? ⟨w.heap.size,0,none⟩=some (.slice (some ⟨He,0,none⟩) k k):=q7 hboxr 0;have c1:wr.cell? ⟨w.heap.size,1,none⟩=some (.slice (some ⟨Ha,0,none⟩) k k):=q7 hboxr 1;have c2:wr.cell? ⟨w.heap.size,2,none⟩=some (.slice (some ⟨Hl,0,none⟩) k k):=q7 hboxr 2;have hM:=HM1.out.of_blocks (hfr.block He (by omega) (fun h=>h)) (hfr.block Ha (by omega) (fun h=>h)) (hfr.block Hl (by omega) (fun h=>h));have hca:=hM.a.cell hq;(have hq0:(0:Int)≤q:=by omega);have hq1:(q:Int)<k:=by omega
    have HMR:=Lib.hid hM;have HC:=Lib.hid hc;have HOWN:=Lib.hid hown;have HFR:=Lib.hid hfr;have hlen:=(ChainP.lt HG.out hp hc).2.2;clear hboxr hM hc hown hfr
    by_cases hL:L≤q
    · obtain ⟨a,a1,a2,-⟩:=HG.out.hi q hL hq;(have hak:a<k:=by omega);have hcb:=HMR.out.a.cell hak;rw [a1] at hca;(have ha0:(0:Int)≤a:=by omega);have ha1:(a:Int)<k:=by omega
      by_cases hL2:L≤a
      · obtain ⟨b,b1,b2,-⟩:=HG.out.hi a hL2 hak;rw [b1] at hcb;(have hb0:(0:Int)≤b:=by omega);have hd:decide ((b:Int) ≥ 0)=true:=decide_eq_true hb0;have HCN:=Lib.hid (ChainP.snoc HC.out hL a1 hL2);have HA:=Lib.hid (And.intro a2 hak);have HAQ:Hid (above q=(a:Int)):=Lib.hid a1;clear a1 a2 hak b1 b2 hL hL2;go_upto_region 3 with fail
        (go_quiet (fail));have hown2:(wr.drewN nq).ownsRow (w.heap.size+1) 3 1 u5 ws.length ((zs ws).map (Value.int .i64)):=HOWN.out;have hfr2:FrX (fun _=>False) w1 (wr.drewN nq):=HFR.out.trans ⟨rfl,rfl,rfl,Nat.le_refl _,fun _ _ _=>rfl⟩;have d0:(wr.drewN nq).cell? ⟨w.heap.size,1,none⟩=some (.slice (some ⟨Ha,0,none⟩) k k):=c1;have d1:(wr.drewN nq).cell? ⟨Ha,q,none⟩=some (.int .i64 (a:Int)):=hca;generalize wr.drewN nq=w2 at *;have HOWN2:=Lib.hid hown2;have HFR2:=Lib.hid hfr2;have hsz2:=hfr2.size
        clear hown2 hfr2 c0 c1 c2 hca hcb hd;(have hwl:ws.length≤1000000:=by omega);(have hNw2:w.heap.size<w2.heap.size:=by omega);go_wp2_with (at_builtin;refine wpList_append_lies _ rfl (.tmp 34) (.tmp 36) 27 rfl (w.heap.size+1) 3 i0 (.int .i64 0) 1 8 Tryz.underlying27 HI.out.1 HI.out.2.1 HI.out.2.2.1 HI.out.2.2.2 rfl (by decide) u5 _ _ rfl (HOWN2.out.alloc _) ⟨w2.heap.size,0,none⟩ 1 1 [.int .i64 (q:Int)] rfl rfl ?e1 ?e2 ?e0 ?e3 ?e4 ?e5 (w2.heap.size+1) ?e6 ?_)
        case e1=>exact qi w2 _ _ rfl
        case e2=>exact ints_oneCell .i64 [(q:Int)]
        case e0=>omega
        case e3=>unfold maxLen;omega
        case e4=>omega
        case e5=>simp;omega
        case e6=>simp
        intro g cap w3 hown3 hgrow3 hloc3 hlt3;(have hfr3:FrX (fun _=>False) w1 w3:=(HFR2.out.alloc _).grown hgrow3 (fun g hg=>.inr (by have:=(HOWN2.out.lt g hg).1;have:=HFR2.out.size;exact (Nat.lt_or_ge g w1.heap.size).elim (fun e=>by exfalso;have:=HNB.out;omega) (fun e=>by omega))));have hblk:∀ b,b<w1.heap.size→w3.heap[b]?=w1.heap[b]?:=fun b hb=>hfr3.block b hb (fun h=>h);have hbox3:=hfr3.box HBOX.out (fun h=>h);have d0:w3.cell? ⟨w.heap.size,1,none⟩=some (.slice (some ⟨Ha,0,none⟩) k k):=q7 hbox3 1;have d1:w3.cell? ⟨Ha,q,none⟩=some (.int .i64 (a:Int)):=by
          have:=((HM1.out.of_blocks (hblk He (by omega)) (hblk Ha (by omega)) (hblk Hl (by omega))).a.cell (by omega:q<k));rw [HAQ.out] at this;exact this
        have hnew:w3.ownsRow (w.heap.size+1) 3 1 (.slice (some ⟨g,0,none⟩) (ws.length+1) cap) (ws++[q]).length ((zs (ws++[q])).map (Value.int .i64)):=by
          rw [zs_snoc,List.map_append];simpa using hown3
        have HNEW:=Lib.hid hnew;have HFR3:=Lib.hid hfr3;clear hown3 hgrow3 hloc3 hnew hfr3 hblk hbox3;go_wp2_with fail
        go_roundw
        case rel=>exact ⟨ws++[q],a,rfl,HA.out.2,HCN.out,HNEW.out,HFR3.out⟩
        case measure=>have:=HA.out.1;simp [intOf];omega
      · have hbm:above a=-1:=(HG.out.lo a (by omega) hak).1;rw [hbm] at hcb;(have hX:above q<(L:Int):=by omega);clear hbm;have HX:Hid (above q<(L:Int)):=Lib.hid (by omega);(go_upto_region 3 with fail);(go_quiet (fail));have hM2:=HMR.out.of_blocks (w':=wr.drewN nq) rfl rfl rfl;have hown2:(wr.drewN nq).ownsRow (w.heap.size+1) 3 1 u5 ws.length ((zs ws).map (Value.int .i64)):=HOWN.out
        have hfr2:FrX (fun b=>b=Ha∨b=Hl) w1 (wr.drewN nq):=((HFR.out.mono (fun _ _ h=>h.elim):FrX (fun b=>b=Ha∨b=Hl) w1 wr).trans ⟨rfl,rfl,rfl,Nat.le_refl _,fun _ _ _=>rfl⟩);generalize wr.drewN nq=w2 at *;have HM2:=Lib.hid hM2;have HFR2:=Lib.hid hfr2;(obtain ⟨A,c,rfl,hsl⟩:=slB_of_own (B:=fun g=>w.heap.size+1≤g∧g<w2.heap.size) (xs:=ws.map fun q:Nat=>(q:Int)) (by simpa [zs] using hown2) (fun y hy=>by obtain ⟨t,ht,rfl⟩:=List.mem_map.1 hy;have:=(ChainP.lt HG.out hp HC.out).2.1 t ht;unfold I64;omega) (fun _ h1 h2=>⟨h1,h2⟩));rw [List.length_map];have HSL:=Lib.hid hsl;have hsz2:=hfr2.size;have HST:=Lib.hid (show BkI par early k L place ws ws.length least above from ⟨HG.out,q,hq,by rw [List.take_length];exact HC.out,HX.out⟩)
        have HWL:Hid (∀ x∈ws,x<k):=Lib.hid (fun x hx=>((ChainP.lt HG.out hp HC.out).2.1 x hx).2);clear hM2 hown2 hfr2 hsl c0 c1 c2 hca hcb hX a1 a2 hak ha0 ha1 hL2;go_wp2_with fail
        go_loopw [7] (fun s7 wq=>∃ (r:Nat) (least':Nat→Nat) (above':Nat→Int),s7=.int .i64 ((r:Int) - 1)∧r≤ws.length∧BkI par early k L place ws r least' above'∧GvM wq k He Ha Hl early least' above'∧FrX (fun b=>b=Ha∨b=Hl) w2 wq) (fun s7 _=>(intOf s7+1).toNat)
        case atStart=>exact ⟨ws.length,least,above,rfl,Nat.le_refl _,HST.out,HM2.out,FrX.refl _ _⟩
        case round =>
          obtain ⟨r,least',above',e7,hr,hbk,hmq,hfq⟩:=hrel;have hHa:He≠Ha∧He≠Hl∧Ha≠Hl:=hmq.ne;have hboxr:=(HFR2.out.trans hfq).box HBOX.out (by omega);have c0:wr.cell? ⟨w.heap.size,0,none⟩=some (.slice (some ⟨He,0,none⟩) k k):=q7 hboxr 0;have c1:wr.cell? ⟨w.heap.size,1,none⟩=some (.slice (some ⟨Ha,0,none⟩) k k):=q7 hboxr 1;have c2:wr.cell? ⟨w.heap.size,2,none⟩=some (.slice (some ⟨Hl,0,none⟩) k k):=q7 hboxr 2;have HMQ:=Lib.hid hmq;have HFQ:=Lib.hid hfq;have HBK:=Lib.hid hbk
          have hsz3:=hfq.size;(have hsq:=SIntsB.go (B:=fun g=>w.heap.size+1≤g∧g<w2.heap.size) (B':=fun _=>True) (w:=w2) (w':=wr) (fun a v hb ha=>(World.cell?_of_block (hfq.block a.block hb.2 (by have:=hb.1;omega))).trans ha) (fun _ _=>trivial) HSL.out);cases r with
          | zero =>
            obtain rfl:u7=.int .i64 (-1):=e7;have hcl:=hmq.l.cell hp;(have hp0:(0:Int)≤place:=by omega);(have hp1:(place:Int)<k:=by omega);have HRES:Hid (least' place<k∧BestP par L early place (least' place)):=Lib.hid ⟨GrvI.least_lt HT.out hbk.g hp,hbk.done HT.out hp⟩;have HFF:Hid (FrX (fun b=>b=Ha∨b=Hl) w wr):=Lib.hid ((FrX.of_below HB1.out).trans (HFR2.out.trans hfq));clear hboxr hmq hfq hbk hsq;(go_wp2_with fail);go_ret
            exact ⟨least' place,least',above',rfl,HRES.out.1,HRES.out.2,HBK.out.g,HMQ.out,HFF.out⟩
          | succ r =>
            (obtain rfl:u7=.int .i64 (r:Int):=by rw [e7];congr 1;omega);(have hrl:r<ws.length:=by omega);(obtain ⟨bb,oo,y,rfl,hy,-,hyc,-⟩:=hsq.at_ (k:=r) (by rw [List.length_map];exact hrl));obtain ⟨x,hx,rfl⟩:=zs_at (l:=ws) hy.out;obtain ⟨q',hxk,hqk,hLx,hLq,hax,hqm,hnx⟩:=hbk.step HT.out hp hx;(have hyc:wr.cell? ⟨bb,oo+r,none⟩=some (.int .i64 (x:Int)):=by rw [Nat.mul_one] at hyc;exact hyc);have e1:=hmq.a.cell hxk;rw [hax] at e1;have e2:=hmq.a.cell hqk
            have e3:=hmq.l.cell hxk;have e4:=hmq.l.cell hqk;have hlx:=GrvI.least_lt HT.out hbk.g hxk;have hlq:=GrvI.least_lt HT.out hbk.g hqk;have e5:=hmq.e.cell hlx;have e6:=hmq.e.cell hlq;have f1:=hmq.a.frozen x;have f2:=hmq.l.frozen x;have HNX:=Lib.hid hnx
            have HXQ:Hid (least' x<k∧least' q'<k):=Lib.hid ⟨hlx,hlq⟩;(have hx0:(0:Int)≤x:=by omega);(have hx1:(x:Int)<k:=by omega);(have hq0:(0:Int)≤q':=by omega);(have hq1:(q':Int)<k:=by omega);(have hr0:(0:Int)≤r:=by omega);(have hr1:(r:Int)<ws.length:=by omega);have hs1:=hmq.l.set x (.int .i64 (least' q':Int));have hwl:ws.length≤1000000:=by have:=(ChainP.lt HG.out hp HC.out).2.2;omega
            clear hboxr hmq hfq hbk hsq hnx hx hax hLx hLq e7 hy hs1
            by_cases hlt:early (least' q')<early (least' x)
            · have hd:decide ((early (least' q'):Int)<(early (least' x):Int))=true:=decide_eq_true (by omega);have HIF:Hid ((if early (least' q')<early (least' x) then least' q' else least' x)=least' q'):=Lib.hid (if_pos hlt);(have hlt2:((early (least' q'):Int)<(early (least' x):Int)):=by omega);(go_upto_region 11 with fail);(go_quiet (fail));have HMQ4:=Lib.hid (HMQ.out.of_blocks (w':=wr.drewN nq) rfl rfl rfl);have HFQ4:Hid (FrX (fun b=>b=Ha∨b=Hl) w2 (wr.drewN nq)):=Lib.hid (HFQ.out.trans ⟨rfl,rfl,rfl,Nat.le_refl _,fun _ _ _=>rfl⟩);have c0':(wr.drewN nq).cell? ⟨w.heap.size,0,none⟩=some (.slice (some ⟨He,0,none⟩) k k):=c0;have c1':(wr.drewN nq).cell? ⟨w.heap.size,1,none⟩=some (.slice (some ⟨Ha,0,none⟩) k k):=c1
              have c2':(wr.drewN nq).cell? ⟨w.heap.size,2,none⟩=some (.slice (some ⟨Hl,0,none⟩) k k):=c2;have e1':(wr.drewN nq).cell? ⟨Ha,x,none⟩=some (.int .i64 (q':Int)):=e1;have e2':(wr.drewN nq).cell? ⟨Ha,q',none⟩=some (.int .i64 (above' q')):=e2;have e3':(wr.drewN nq).cell? ⟨Hl,x,none⟩=some (.int .i64 (least' x:Int)):=e3;have e4':(wr.drewN nq).cell? ⟨Hl,q',none⟩=some (.int .i64 (least' q':Int)):=e4;have f1':(wr.drewN nq).frozen? ⟨Ha,x,none⟩=false:=f1;have f2':(wr.drewN nq).frozen? ⟨Hl,x,none⟩=false:=f2;clear c0 c1 c2 e1 e2 e3 e4 e5 e6 f1 f2;generalize wr.drewN nq=w4 at *
              (go_upto_region 12 with fail);(go_region);have HM5:=Lib.hid (GvM.setL HMQ4.out x (least' q'));have HF5:Hid (FrX (fun b=>b=Ha∨b=Hl) w2 (w4.setCell ⟨Hl,x,none⟩ (.int .i64 (least' q':Int))).drew):=Lib.hid (HFQ4.out.setCell (.inl (.inr rfl)) _).drew;have hs5:∀ b,b≠Hl→(w4.setCell ⟨Hl,x,none⟩ (.int .i64 (least' q':Int))).drew.heap[b]?=w4.heap[b]?:=fun b hb=>Below.heap_setCell _ _ _ _ hb;have hc5:∀ (b i:Nat),b≠Hl→(w4.setCell ⟨Hl,x,none⟩ (.int .i64 (least' q':Int))).drew.cell? ⟨b,i,none⟩=w4.cell? ⟨b,i,none⟩:=fun b i hb=>World.cell?_of_block (hs5 b hb);have c1:=(hc5 w.heap.size 1 (by omega)).trans c1';have e1:=(hc5 Ha x hHa.2.2).trans e1';have e2:=(hc5 Ha q' hHa.2.2).trans e2'
              have f1:=(World.frozen?_of_block (a:=⟨Ha,x,none⟩) (hs5 Ha hHa.2.2)).trans f1';clear hs5 hc5 c0' c1' c2' e1' e2' e3' e4' f1' f2';generalize (w4.setCell ⟨Hl,x,none⟩ (.int .i64 (least' q':Int))).drew=w5 at *;(go_upto_region 13 with fail);(go_region);have HM6:=Lib.hid (GvM.setA HM5.out x (above' q'));have HF6:Hid (FrX (fun b=>b=Ha∨b=Hl) w2 (w5.setCell ⟨Ha,x,none⟩ (.int .i64 (above' q'))).drew):=Lib.hid (HF5.out.setCell (.inl (.inl rfl)) _).drew;clear c1 e1 e2 f1;go_wp2_with fail
              go_roundw
              case rel=>exact ⟨r,_,_,by first | rfl | go_num,by omega,HNX.out,by rw [HIF.out];exact HM6.out,HF6.out⟩
              case measure=>(simp [intOf] <;> try omega)
            · have hd:decide ((early (least' q'):Int)<(early (least' x):Int))=false:=decide_eq_false (by omega);have HIF:Hid ((if early (least' q')<early (least' x) then least' q' else least' x)=least' x):=Lib.hid (if_neg hlt);(have hlt2:¬ ((early (least' q'):Int)<(early (least' x):Int)):=by omega);(go_upto_region 11 with fail);(go_quiet (fail));have HMQ4:=Lib.hid (HMQ.out.of_blocks (w':=wr.drewN nq) rfl rfl rfl);have HFQ4:Hid (FrX (fun b=>b=Ha∨b=Hl) w2 (wr.drewN nq)):=Lib.hid (HFQ.out.trans ⟨rfl,rfl,rfl,Nat.le_refl _,fun _ _ _=>rfl⟩);have c0':(wr.drewN nq).cell? ⟨w.heap.size,0,none⟩=some (.slice (some ⟨He,0,none⟩) k k):=c0;have c1':(wr.drewN nq).cell? ⟨w.heap.size,1,none⟩=some (.slice (some ⟨Ha,0,none⟩) k k):=c1
              have c2':(wr.drewN nq).cell? ⟨w.heap.size,2,none⟩=some (.slice (some ⟨Hl,0,none⟩) k k):=c2;have e1':(wr.drewN nq).cell? ⟨Ha,x,none⟩=some (.int .i64 (q':Int)):=e1;have e2':(wr.drewN nq).cell? ⟨Ha,q',none⟩=some (.int .i64 (above' q')):=e2;have e3':(wr.drewN nq).cell? ⟨Hl,x,none⟩=some (.int .i64 (least' x:Int)):=e3;have e4':(wr.drewN nq).cell? ⟨Hl,q',none⟩=some (.int .i64 (least' q':Int)):=e4;have f1':(wr.drewN nq).frozen? ⟨Ha,x,none⟩=false:=f1;have f2':(wr.drewN nq).frozen? ⟨Hl,x,none⟩=false:=f2;clear c0 c1 c2 e1 e2 e3 e4 e5 e6 f1 f2;generalize wr.drewN nq=w4 at *
              have c1:=c1';have e1:=e1';have e2:=e2';have f1:=f1';clear c0' c1' c2' e1' e2' e3' e4' f1' f2';(go_upto_region 13 with fail);(go_region);have HM6:=Lib.hid (GvM.setA HMQ4.out x (above' q'));have HF6:Hid (FrX (fun b=>b=Ha∨b=Hl) w2 (w4.setCell ⟨Ha,x,none⟩ (.int .i64 (above' q'))).drew):=Lib.hid (HFQ4.out.setCell (.inl (.inl rfl)) _).drew
              clear c1 e1 e2 f1;go_wp2_with fail
              go_roundw
              case rel=>exact ⟨r,_,_,by first | rfl | go_num,by omega,HNX.out,by rw [HIF.out];exact HM6.out.keepL x,HF6.out⟩
              case measure=>(simp [intOf] <;> try omega)
    · have ham:above q=-1:=(HG.out.lo q (by omega) hq).1;rw [ham] at hca;(have hX:above q<(L:Int):=by omega);clear ham;have HX:Hid (above q<(L:Int)):=Lib.hid (by omega);(go_upto_region 3 with fail);(go_quiet (fail));have hM2:=HMR.out.of_blocks (w':=wr.drewN nq) rfl rfl rfl;have hown2:(wr.drewN nq).ownsRow (w.heap.size+1) 3 1 u5 ws.length ((zs ws).map (Value.int .i64)):=HOWN.out
      have hfr2:FrX (fun b=>b=Ha∨b=Hl) w1 (wr.drewN nq):=((HFR.out.mono (fun _ _ h=>h.elim):FrX (fun b=>b=Ha∨b=Hl) w1 wr).trans ⟨rfl,rfl,rfl,Nat.le_refl _,fun _ _ _=>rfl⟩);generalize wr.drewN nq=w2 at *;have HM2:=Lib.hid hM2;have HFR2:=Lib.hid hfr2;(obtain ⟨A,c,rfl,hsl⟩:=slB_of_own (B:=fun g=>w.heap.size+1≤g∧g<w2.heap.size) (xs:=ws.map fun q:Nat=>(q:Int)) (by simpa [zs] using hown2) (fun y hy=>by obtain ⟨t,ht,rfl⟩:=List.mem_map.1 hy;have:=(ChainP.lt HG.out hp HC.out).2.1 t ht;unfold I64;omega) (fun _ h1 h2=>⟨h1,h2⟩));rw [List.length_map];have HSL:=Lib.hid hsl;have hsz2:=hfr2.size;have HST:=Lib.hid (show BkI par early k L place ws ws.length least above from ⟨HG.out,q,hq,by rw [List.take_length];exact HC.out,HX.out⟩)
      have HWL:Hid (∀ x∈ws,x<k):=Lib.hid (fun x hx=>((ChainP.lt HG.out hp HC.out).2.1 x hx).2);clear hM2 hown2 hfr2 hsl c0 c1 c2 hca hX;go_wp2_with fail
      go_loopw [7] (fun s7 wq=>∃ (r:Nat) (least':Nat→Nat) (above':Nat→Int),s7=.int .i64 ((r:Int) - 1)∧r≤ws.length∧BkI par early k L place ws r least' above'∧GvM wq k He Ha Hl early least' above'∧FrX (fun b=>b=Ha∨b=Hl) w2 wq) (fun s7 _=>(intOf s7+1).toNat)
      case atStart=>exact ⟨ws.length,least,above,rfl,Nat.le_refl _,HST.out,HM2.out,FrX.refl _ _⟩
      case round =>
        obtain ⟨r,least',above',e7,hr,hbk,hmq,hfq⟩:=hrel;have hHa:He≠Ha∧He≠Hl∧Ha≠Hl:=hmq.ne;have hboxr:=(HFR2.out.trans hfq).box HBOX.out (by omega);have c0:wr.cell? ⟨w.heap.size,0,none⟩=some (.slice (some ⟨He,0,none⟩) k k):=q7 hboxr 0;have c1:wr.cell? ⟨w.heap.size,1,none⟩=some (.slice (some ⟨Ha,0,none⟩) k k):=q7 hboxr 1;have c2:wr.cell? ⟨w.heap.size,2,none⟩=some (.slice (some ⟨Hl,0,none⟩) k k):=q7 hboxr 2;have HMQ:=Lib.hid hmq;have HFQ:=Lib.hid hfq;have HBK:=Lib.hid hbk
        have hsz3:=hfq.size;(have hsq:=SIntsB.go (B:=fun g=>w.heap.size+1≤g∧g<w2.heap.size) (B':=fun _=>True) (w:=w2) (w':=wr) (fun a v hb ha=>(World.cell?_of_block (hfq.block a.block hb.2 (by have:=hb.1;omega))).trans ha) (fun _ _=>trivial) HSL.out);cases r with
        | zero =>
          obtain rfl:u7=.int .i64 (-1):=e7;have hcl:=hmq.l.cell hp;(have hp0:(0:Int)≤place:=by omega);(have hp1:(place:Int)<k:=by omega);have HRES:Hid (least' place<k∧BestP par L early place (least' place)):=Lib.hid ⟨GrvI.least_lt HT.out hbk.g hp,hbk.done HT.out hp⟩;have HFF:Hid (FrX (fun b=>b=Ha∨b=Hl) w wr):=Lib.hid ((FrX.of_below HB1.out).trans (HFR2.out.trans hfq));clear hboxr hmq hfq hbk hsq;(go_wp2_with fail);go_ret
          exact ⟨least' place,least',above',rfl,HRES.out.1,HRES.out.2,HBK.out.g,HMQ.out,HFF.out⟩
        | succ r =>
          (obtain rfl:u7=.int .i64 (r:Int):=by rw [e7];congr 1;omega);(have hrl:r<ws.length:=by omega);(obtain ⟨bb,oo,y,rfl,hy,-,hyc,-⟩:=hsq.at_ (k:=r) (by rw [List.length_map];exact hrl));obtain ⟨x,hx,rfl⟩:=zs_at (l:=ws) hy.out;obtain ⟨q',hxk,hqk,hLx,hLq,hax,hqm,hnx⟩:=hbk.step HT.out hp hx;(have hyc:wr.cell? ⟨bb,oo+r,none⟩=some (.int .i64 (x:Int)):=by rw [Nat.mul_one] at hyc;exact hyc);have e1:=hmq.a.cell hxk;rw [hax] at e1;have e2:=hmq.a.cell hqk
          have e3:=hmq.l.cell hxk;have e4:=hmq.l.cell hqk;have hlx:=GrvI.least_lt HT.out hbk.g hxk;have hlq:=GrvI.least_lt HT.out hbk.g hqk;have e5:=hmq.e.cell hlx;have e6:=hmq.e.cell hlq;have f1:=hmq.a.frozen x;have f2:=hmq.l.frozen x;have HNX:=Lib.hid hnx
          have HXQ:Hid (least' x<k∧least' q'<k):=Lib.hid ⟨hlx,hlq⟩;(have hx0:(0:Int)≤x:=by omega);(have hx1:(x:Int)<k:=by omega);(have hq0:(0:Int)≤q':=by omega);(have hq1:(q':Int)<k:=by omega);(have hr0:(0:Int)≤r:=by omega);(have hr1:(r:Int)<ws.length:=by omega);have hs1:=hmq.l.set x (.int .i64 (least' q':Int));have hwl:ws.length≤1000000:=by have:=(ChainP.lt HG.out hp HC.out).2.2;omega
          clear hboxr hmq hfq hbk hsq hnx hx hax hLx hLq e7 hy hs1
          by_cases hlt:early (least' q')<early (least' x)
          · have hd:decide ((early (least' q'):Int)<(early (least' x):Int))=true:=decide_eq_true (by omega);have HIF:Hid ((if early (least' q')<early (least' x) then least' q' else least' x)=least' q'):=Lib.hid (if_pos hlt);(have hlt2:((early (least' q'):Int)<(early (least' x):Int)):=by omega);(go_upto_region 11 with fail);(go_quiet (fail));have HMQ4:=Lib.hid (HMQ.out.of_blocks (w':=wr.drewN nq) rfl rfl rfl);have HFQ4:Hid (FrX (fun b=>b=Ha∨b=Hl) w2 (wr.drewN nq)):=Lib.hid (HFQ.out.trans ⟨rfl,rfl,rfl,Nat.le_refl _,fun _ _ _=>rfl⟩);have c0':(wr.drewN nq).cell? ⟨w.heap.size,0,none⟩=some (.slice (some ⟨He,0,none⟩) k k):=c0;have c1':(wr.drewN nq).cell? ⟨w.heap.size,1,none⟩=some (.slice (some ⟨Ha,0,none⟩) k k):=c1
            have c2':(wr.drewN nq).cell? ⟨w.heap.size,2,none⟩=some (.slice (some ⟨Hl,0,none⟩) k k):=c2;have e1':(wr.drewN nq).cell? ⟨Ha,x,none⟩=some (.int .i64 (q':Int)):=e1;have e2':(wr.drewN nq).cell? ⟨Ha,q',none⟩=some (.int .i64 (above' q')):=e2;have e3':(wr.drewN nq).cell? ⟨Hl,x,none⟩=some (.int .i64 (least' x:Int)):=e3;have e4':(wr.drewN nq).cell? ⟨Hl,q',none⟩=some (.int .i64 (least' q':Int)):=e4;have f1':(wr.drewN nq).frozen? ⟨Ha,x,none⟩=false:=f1;have f2':(wr.drewN nq).frozen? ⟨Hl,x,none⟩=false:=f2;clear c0 c1 c2 e1 e2 e3 e4 e5 e6 f1 f2;generalize wr.drewN nq=w4 at *
            (go_upto_region 12 with fail);(go_region);have HM5:=Lib.hid (GvM.setL HMQ4.out x (least' q'));have HF5:Hid (FrX (fun b=>b=Ha∨b=Hl) w2 (w4.setCell ⟨Hl,x,none⟩ (.int .i64 (least' q':Int))).drew):=Lib.hid (HFQ4.out.setCell (.inl (.inr rfl)) _).drew;have hs5:∀ b,b≠Hl→(w4.setCell ⟨Hl,x,none⟩ (.int .i64 (least' q':Int))).drew.heap[b]?=w4.heap[b]?:=fun b hb=>Below.heap_setCell _ _ _ _ hb;have hc5:∀ (b i:Nat),b≠Hl→(w4.setCell ⟨Hl,x,none⟩ (.int .i64 (least' q':Int))).drew.cell? ⟨b,i,none⟩=w4.cell? ⟨b,i,none⟩:=fun b i hb=>World.cell?_of_block (hs5 b hb);have c1:=(hc5 w.heap.size 1 (by omega)).trans c1';have e1:=(hc5 Ha x hHa.2.2).trans e1';have e2:=(hc5 Ha q' hHa.2.2).trans e2'
            have f1:=(World.frozen?_of_block (a:=⟨Ha,x,none⟩) (hs5 Ha hHa.2.2)).trans f1';clear hs5 hc5 c0' c1' c2' e1' e2' e3' e4' f1' f2';generalize (w4.setCell ⟨Hl,x,none⟩ (.int .i64 (least' q':Int))).drew=w5 at *;(go_upto_region 13 with fail);(go_region);have HM6:=Lib.hid (GvM.setA HM5.out x (above' q'));have HF6:Hid (FrX (fun b=>b=Ha∨b=Hl) w2 (w5.setCell ⟨Ha,x,none⟩ (.int .i64 (above' q'))).drew):=Lib.hid (HF5.out.setCell (.inl (.inl rfl)) _).drew;clear c1 e1 e2 f1;go_wp2_with fail
            go_roundw
            case rel=>exact ⟨r,_,_,by first | rfl | go_num,by omega,HNX.out,by rw [HIF.out];exact HM6.out,HF6.out⟩
            case measure=>(simp [intOf] <;> try omega)
          · have hd:decide ((early (least' q'):Int)<(early (least' x):Int))=false:=decide_eq_false (by omega);have HIF:Hid ((if early (least' q')<early (least' x) then least' q' else least' x)=least' x):=Lib.hid (if_neg hlt);(have hlt2:¬ ((early (least' q'):Int)<(early (least' x):Int)):=by omega);(go_upto_region 11 with fail);(go_quiet (fail));have HMQ4:=Lib.hid (HMQ.out.of_blocks (w':=wr.drewN nq) rfl rfl rfl);have HFQ4:Hid (FrX (fun b=>b=Ha∨b=Hl) w2 (wr.drewN nq)):=Lib.hid (HFQ.out.trans ⟨rfl,rfl,rfl,Nat.le_refl _,fun _ _ _=>rfl⟩);have c0':(wr.drewN nq).cell? ⟨w.heap.size,0,none⟩=some (.slice (some ⟨He,0,none⟩) k k):=c0;have c1':(wr.drewN nq).cell? ⟨w.heap.size,1,none⟩=some (.slice (some ⟨Ha,0,none⟩) k k):=c1
            have c2':(wr.drewN nq).cell? ⟨w.heap.size,2,none⟩=some (.slice (some ⟨Hl,0,none⟩) k k):=c2;have e1':(wr.drewN nq).cell? ⟨Ha,x,none⟩=some (.int .i64 (q':Int)):=e1;have e2':(wr.drewN nq).cell? ⟨Ha,q',none⟩=some (.int .i64 (above' q')):=e2;have e3':(wr.drewN nq).cell? ⟨Hl,x,none⟩=some (.int .i64 (least' x:Int)):=e3;have e4':(wr.drewN nq).cell? ⟨Hl,q',none⟩=some (.int .i64 (least' q':Int)):=e4;have f1':(wr.drewN nq).frozen? ⟨Ha,x,none⟩=false:=f1;have f2':(wr.drewN nq).frozen? ⟨Hl,x,none⟩=false:=f2;clear c0 c1 c2 e1 e2 e3 e4 e5 e6 f1 f2;generalize wr.drewN nq=w4 at *
            have c1:=c1';have e1:=e1';have e2:=e2';have f1:=f1';clear c0' c1' c2' e1' e2' e3' e4' f1' f2';(go_upto_region 13 with fail);(go_region);have HM6:=Lib.hid (GvM.setA HMQ4.out x (above' q'));have HF6:Hid (FrX (fun b=>b=Ha∨b=Hl) w2 (w4.setCell ⟨Ha,x,none⟩ (.int .i64 (above' q'))).drew):=Lib.hid (HFQ4.out.setCell (.inl (.inl rfl)) _).drew
            clear c1 e1 e2 f1;go_wp2_with fail
            go_roundw
            case rel=>exact ⟨r,_,_,by first | rfl | go_num,by omega,HNX.out,by rw [HIF.out];exact HM6.out.keepL x,HF6.out⟩
            case measure=>(simp [intOf] <;> try omega)
end Go.Proofs.YtfoggldjjnabcaaGreatDoor

namespace Go.Proofs.YtfoggldjjnabcaaGreatDoor
open Go.ChangeShapes Go.WideShapes Go.RowKit Go.Deep
set_option linter.unusedVariables false
structure GroD (w w':World) (v v':Value):Prop where
  os:w'.os=w.os
  tape:w'.tape=w.tape
  output:w'.output=w.output
  size:w.heap.size≤w'.heap.size
  block:∀ k,k<w.heap.size→v.ownBlock≠some k→w'.heap[k]?=w.heap[k]?
  own:∀ g,v'.ownBlock=some g→v.ownBlock=some g∨w.heap.size≤g
theorem qu {w w1:World} {o:Obj} {v:Value} {g n cap:Nat} (hg:(w.alloc o).grownBy w1 v.ownBlock) (hl:v.ownBlock=some g∨g=w.heap.size+1):GroD w w1 v (.slice (some ⟨g,0,none⟩) n cap) :=
  ⟨hg.os,hg.tape,hg.output,Nat.le_trans (by simp) hg.size,fun k hk hv=>(hg.block k (by simp;omega) (fun e=>hv e.symm)).trans (Below.heap_alloc _ _ _ hk),
   fun x hx=>by
    obtain rfl:g=x:=Option.some.inj hx;rcases hl with h | h
    · exact .inl h
    · exact .inr (by omega)⟩
theorem groD_drew {w w1:World} {v v':Value} (h:GroD w.drew w1 v v'):GroD w w1 v v':=⟨h.os,h.tape,h.output,h.size,h.block,h.own⟩
theorem groD_store (w:World) {g n cap j:Nat} (u:Value):GroD w (w.setCell ⟨g,j,none⟩ u) (.slice (some ⟨g,0,none⟩) n cap) (.slice (some ⟨g,0,none⟩) n cap) :=
  ⟨rfl,rfl,rfl,by simp,fun k hk hv=>Below.heap_setCell _ _ _ _ (fun e=>hv (by show some g=some k;exact congrArg some e.symm)),fun x hx=>.inl hx⟩
theorem GroD.fr {w w':World} {v v':Value} (h:GroD w w' v v') {X:Nat→Prop} {a:World} (ha:FrX X a w) (hv:∀ g,v.ownBlock=some g→X g∨a.heap.size≤g):FrX X a w' :=
  ⟨h.os.trans ha.os,h.tape.trans ha.tape,h.output.trans ha.output,Nat.le_trans ha.size h.size,fun k hk hx=>(h.block k (Nat.lt_of_lt_of_le hk ha.size) (fun e=>by
    rcases hv k e with h2 | h2
    · exact hx h2
    · omega)).trans (ha.block k hk hx)⟩
structure RowD where
  ty:TypeId
  size:Nat
  len:Nat
  xs:List Value
def OwnD (w:World) (K:Nat) (v:Value) (t:RowD):Prop:=w.ownsRow K t.ty t.size v t.len t.xs
structure PoolD (w:World) (K m:Nat) (U:Nat→Value) (T:Nat→RowD):Prop where
  own:∀ i,i<m→OwnD w K (U i) (T i)
  ap:∀ i j,i<m→j<m→i≠j→(U i).ownBlock=none∨(U i).ownBlock≠(U j).ownBlock
theorem PoolD.congr {w:World} {K m:Nat} {U U':Nat→Value} {T T':Nat→RowD} (h:PoolD w K m U T) (hu:∀ i,i<m→U i=U' i) (ht:∀ i,i<m→T i=T' i):PoolD w K m U' T' :=
  ⟨fun i hi=>by rw [← hu i hi,← ht i hi];exact h.own i hi,fun i j hi hj hij=>by rw [← hu i hi,← hu j hj];exact h.ap i j hi hj hij⟩
theorem PoolD.go {w w':World} {K m:Nat} {U:Nat→Value} {T:Nat→RowD} (h:PoolD w K m U T) (hb:∀ k,K≤k→k<w.heap.size→w'.heap[k]?=w.heap[k]?):PoolD w' K m U T :=
  ⟨fun i hi=>qH (h.own i hi) fun g hg=>hb g ((h.own i hi).lt g hg).1 ((h.own i hi).lt g hg).2,h.ap⟩
theorem PoolD.gro {w w':World} {K m t:Nat} {U:Nat→Value} {T:Nat→RowD} {v':Value} {r:RowD} (h:PoolD w K m U T) (ht:t<m) (hg:GroD w w' (U t) v') (ho:OwnD w' K v' r):PoolD w' K m (updF U t v') (updF T t r):=by
  have key:∀ i,i<m→i≠t→(U i).ownBlock=none∨(U i).ownBlock≠v'.ownBlock:=fun i hi hit=>by
    cases hb:(U i).ownBlock with
    | none=>exact .inl rfl
    | some b =>
      right;intro e;rcases hg.own b e.symm with h1 | h1
      · rcases h.ap i t hi ht hit with h2 | h2
        · rw [h2] at hb;cases hb
        · exact h2 (hb.trans h1.symm)
      · have:=((h.own i hi).lt b hb).2;omega
  refine ⟨fun i hi=>?_,fun i j hi hj hij=>?_⟩
  · by_cases e:i=t
    · subst e;rw [qB,qB];exact ho
    · rw [q9 _ _ e,q9 _ _ e];refine qH (h.own i hi) fun g hgi=>hg.block g ((h.own i hi).lt g hgi).2 fun e2=>?_;rcases h.ap i t hi ht e with h2 | h2
      · rw [h2] at hgi;cases hgi
      · exact h2 (hgi.trans e2.symm)
  · by_cases ei:i=t
    · subst ei;rw [qB,q9 _ _ (Ne.symm hij)];rcases key j hj (Ne.symm hij) with h1 | h1
      · cases hv:v'.ownBlock with
        | none=>exact .inl rfl
        | some b=>right;rw [h1];intro e;cases e
      · exact .inr (Ne.symm h1)
    · rw [q9 _ _ ei]
      by_cases ej:j=t
      · subst ej;rw [qB];exact key i hi ei
      · rw [q9 _ _ ej];exact h.ap i j hi hj hij
theorem PoolD.more {w:World} {K m:Nat} {U:Nat→Value} {T:Nat→RowD} (h:PoolD w K m U T) (ty:TypeId) (size:Nat):PoolD w K (m+1) (updF U m (.slice none 0 0)) (updF T m ⟨ty,size,0,[]⟩):=by
  refine ⟨fun i hi=>?_,fun i j hi hj hij=>?_⟩
  · by_cases e:i=m
    · subst e;rw [qB,qB];exact World.ownsRow_nil _ _ _ _
    · rw [q9 _ _ e,q9 _ _ e];exact h.own i (by omega)
  · by_cases ei:i=m
    · subst ei;rw [qB];exact .inl rfl
    · rw [q9 _ _ ei]
      by_cases ej:j=m
      · (subst ej;rw [qB]);cases hb:(U i).ownBlock with
        | none=>exact .inl rfl
        | some b=>right;intro e;cases e
      · rw [q9 _ _ ej];exact h.ap i j (by omega) (by omega) hij
theorem own_cellD {w:World} {K n:Nat} {e:TypeId} {v:Value} {xs:List Value} (h:w.ownsRow K e 1 v n xs) {i:Nat} (hi:i<n):∃ g cap u,v=.slice (some ⟨g,0,none⟩) n cap∧xs[i]?=some u∧w.cell? ⟨g,i,none⟩=some u∧w.frozen? ⟨g,i,none⟩=false∧K≤g∧g<w.heap.size:=by
  obtain ⟨g,cap,rfl⟩:∃ g cap,v=.slice (some ⟨g,0,none⟩) n cap:=by
    rcases h.2 with ⟨_,h2⟩ | ⟨g,cap,cur,h2,_⟩
    · omega
    · exact ⟨g,cap,h2⟩
  have hl:=h.1;(have hx:i<xs.length:=by omega);refine ⟨g,cap,xs[i],rfl,List.getElem?_eq_getElem hx,?_,h.frozenAt i,(h.lt g rfl).1,(h.lt g rfl).2⟩;rw [h.cellAt i (by omega)];exact List.getElem?_eq_getElem hx
theorem map_range_snoc {α:Type} (f:Nat→α) (k:Nat) (x:α):((List.range k).map f++[x])=(List.range (k+1)).map (updF f k x):=by
  rw [List.range_succ,List.map_append,List.map_singleton,qB];(congr 1);exact List.map_congr_left fun v hv=>(q9 _ _ (by have:=List.mem_range.1 hv;omega)).symm
theorem map_range_set {α:Type} (f:Nat→α) (k j:Nat) (x:α):((List.range k).map f).set j x=(List.range k).map (updF f j x):=by
  apply List.ext_getElem?;intro i
  by_cases hik:i<k
  · by_cases e:i=j
    · subst e;simp [hik,updF]
    · simp [hik,updF,e,Ne.symm e]
  · simp [hik]
theorem qj {α:Type} (f:Nat→α) {k i:Nat} {x:α} (h:((List.range k).map f)[i]?=some x):x=f i∧i<k:=by
  rw [List.getElem?_map] at h;obtain ⟨q,hq,rfl⟩:=Option.map_eq_some_iff.1 h;obtain ⟨hl,rfl⟩:=List.getElem?_eq_some_iff.1 hq;simp at hl ⊢;exact hl
theorem qo (w:World) (x:Value) (t:TypeId):∀ j u,[x][j]?=some u→((w.alloc (.cells #[x] t)).drew).cell? ((⟨w.heap.size,0,none⟩:Addr).add j)=some u:=by
  intro j u hj;(have:j=0:=by have:=(List.getElem?_eq_some_iff.1 hj).1;simp at this;omega);subst this;simp at hj;subst hj;exact q7 (heap_alloc_new w (.cells #[x] t)) 0
end Go.Proofs.YtfoggldjjnabcaaGreatDoor
