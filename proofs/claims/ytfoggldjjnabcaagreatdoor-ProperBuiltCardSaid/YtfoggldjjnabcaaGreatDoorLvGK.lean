/- The program's Frontier. -/
import Derived.Test.YtfoggldjjnabcaaGreatDoorModAK
import Derived.Test.YtfoggldjjnabcaaGreatDoorDmUK
import Derived.Test.YtfoggldjjnabcaaGreatDoorSsIK
import Derived.Test.YtfoggldjjnabcaaGreatDoorLvSK
import Derived.Test.YtfoggldjjnabcaaGreatDoorDmMK
import Derived.Test.YtfoggldjjnabcaaGreatDoorAheadGK
import Derived.Test.YtfoggldjjnabcaaGreatDoorDmPK
import Derived.Test.YtfoggldjjnabcaaGreatDoorGrNK
set_option linter.unusedVariables false
set_option linter.unusedSimpArgs false
namespace Go.Proofs.YtfoggldjjnabcaaGreatDoor
open Go.ChangeShapes Go.WideShapes Go.RowKit Go.Deep
variable {bs:List qE}
def LaOk (la:Nat->Nat) (n b:Nat) (M:Nat->Bool):Prop:=∀ a,a<n->la a<=b+1/\(la a=b+1↔M a=true)
theorem LaOk.next {la:Nat->Nat} {n b:Nat} {M:Nat->Bool} (h:LaOk la n b M):LaOk la n (b+1) (mkJ bs (b+1) 0):=λ a ha=>by
 have:=(h a ha).1;exact ⟨by omega,⟨λ h2=>by omega,λ h2=>by unfold mkJ at h2;simp at h2⟩⟩
theorem LaOk.congr {la:Nat->Nat} {n b:Nat} {M M':Nat->Bool} (h:LaOk la n b M) (he:∀ a,a<n->M a=M' a):LaOk la n b M':=λ a ha=>by rw [<- he a ha];exact h a ha
theorem LaOk.set {la:Nat->Nat} {n b q:Nat} {M:Nat->Bool} (h:LaOk la n b M):LaOk (qM la q (b+1)) n b (λ a=>if a=q then true else M a):=λ a ha=>by
 by_cases e:a=q
 ·subst e;rw [qF];simp
 ·rw [q8 _ _ e];simp only [if_neg e];exact h a ha
def AtY (bs:List qE) (b c:Nat) (y:Int):Prop:=y=qZ bs b\/∃ q:Nat,q<bs.length/\y=(q:Int)/\y≠qZ bs b/\dmB bs q c=true/\(qZ bs b=-1\/∃ p:Nat,qZ bs b=(p:Int)/\p<bs.length/\dmB bs p q=true)
theorem AtY.start {ord:Nat->Nat} (h:NearB bs (qZ bs) ord) {b c:Nat} (hb:b<bs.length) (hc:c<bs.length) (wR:qI bs c=true) (th:b∈nxF bs c):AtY bs b c (c:Int):=by
 by_cases he:(c:Int)=qZ bs b
 ·exact .inl he
 ·(refine .inr ⟨c,hc,rfl,he,h.self c hc (by rw [qY];exact wR),?_⟩);have sx:qI bs b=true:=by
   unfold qI vn at *;rw [decide_eq_true_iff,vF (zD bs) (by omega)] at *;exact .step wR th
  by_cases tL:b=0
  ·exact .inl (h.none b hb (.inr tL))
  ·(obtain ⟨p,hp,wm,sy,sD,-⟩:=h.some b hb (by rw [qY];exact sx) tL);exact .inr ⟨p,wm,hp,kZ (by omega) sD sy wR th⟩
theorem AtY.step {ord:Nat->Nat} (h:NearB bs (qZ bs) ord) {b c q:Nat} (hc:c<bs.length) (hq:q<bs.length) (hd:dmB bs q c=true) (tE:(q:Int)≠qZ bs b) (hp:qZ bs b=-1\/∃ p:Nat,qZ bs b=(p:Int)/\p<bs.length/\dmB bs p q=true) :
  AtY bs b c (qZ bs q)/\(qZ bs q=-1\/∃ r:Nat,r<bs.length/\qZ bs q=(r:Int)/\ord r<ord q):=by
 by_cases wY:q=0
 ·have hz:=h.none q hq (.inr wY);refine ⟨.inl ?_,.inl hz⟩;rcases hp with hp | ⟨p,wm,wl,wT⟩
  ·rw [hz,hp]
  ·exfalso;have h1:=h.ord p q wl hq wT;have h2:=h.first p wl (h.reach p q wl hq wT);have h3:=h.ord 0 p (by omega) wl h2;rw [wY] at h1;have:=h1.2 (by omega);exact tE (by rw [wm,this,wY])
 ·obtain ⟨r,hr,wX,tC,sj,tN⟩:=h.some q hq (h.reach q c hq hc hd) wY;have tH:ord r<ord q:=by
   have h1:=h.ord r q hr hq sj;have:ord r≠ord q:=λ e=>tC (h1.2 e);omega
  refine ⟨?_,.inr ⟨r,hr,wX,tH⟩⟩
  by_cases tY:(r:Int)=qZ bs b
  ·exact .inl (wX.trans tY)
  ·(refine .inr ⟨r,hr,wX,by rw [wX];exact tY,h.trans r q c sj hd,?_⟩);rcases hp with hp | ⟨p,wm,wl,wT⟩
   ·exact .inl hp
   ·exact .inr ⟨p,wm,wl,tN p wl (λ e=>tE (by rw [wm,e])) wT⟩
theorem q9q {ord:Nat->Nat} (h:NearB bs (qZ bs) ord) {b j c q:Nat} (hc:(raL bs bs.length b)[j]?=some c) (hb:b<bs.length) (hq:q<bs.length) (hd:dmB bs q c=true) (hp:qZ bs b=-1\/∃ p:Nat,qZ bs b=(p:Int)/\p<bs.length/\dmB bs p q=true) (hm:mkY bs b j c q q=true) {a:Nat} (ha:a<bs.length) :
  mkY bs b j c q a=mkJ bs b (j+1) a:=by
 have tC:dmB bs q q=true:=h.self q hq (h.reach q c hq (kW (Jz hc)).1 hd);have tZ:mkJ bs b j q=true:=by
  unfold mkY at hm;rw [Bool.or_eq_true] at hm;rcases hm with hm | hm
  ·exact hm
  ·unfold upB at hm;rw [Int.toNat_natCast,tC,decide_eq_false (by omega)] at hm;simp at hm
 unfold mkJ at tZ;obtain ⟨c',sE,hu⟩:=List.any_eq_true.1 tZ;rw [q3c hc];unfold mkY;cases hj:mkJ bs b j a
 ·rw [Bool.false_or,Bool.false_or];unfold upB;cases hac:dmB bs a c
  ·rfl
  ·rw [Bool.true_and,Bool.true_and,Int.toNat_natCast,decide_eq_false (by omega:¬ ((q:Int)<0)),Bool.false_or];cases tM:dmB bs a q
   ·(symm);rcases hp with hp | ⟨p,wm,wl,wT⟩
    ·rw [hp];rfl
    ·rw [wm,Int.toNat_natCast,decide_eq_false (by omega),Bool.false_or];cases sG:dmB bs a p
     ·rfl
     ·rw [h.trans a p q sG wT] at tM;cases tM
   ·-- above q and not above the nearest: marked already
    show false=_;cases hx:(decide (qZ bs b<0) || !dmB bs a (qZ bs b).toNat)
    ·rfl
    ·exfalso;unfold upB at hu;rw [Bool.and_eq_true] at hu;(have:mkJ bs b j a=true:=List.any_eq_true.2 ⟨c',sE,by unfold upB;rw [h.trans a q c' tM hu.1,hx];rfl⟩);rw [hj] at this;cases this
 ·rw [Bool.true_or,Bool.true_or]
theorem q3b {ord:Nat->Nat} (h:NearB bs (qZ bs) ord) {b j c q a:Nat} (ha:a<bs.length) (hc:c<bs.length) (hq:q<bs.length) (hd:dmB bs q c=true):(if a=q then true else mkY bs b j c q a)=mkY bs b j c (qZ bs q) a:=by
 unfold mkY;rw [<- h.up_step ha hc hq hd]
 by_cases e:a=q
 ·rw [if_pos e,if_pos e,Bool.or_true]
 ·rw [if_neg e,if_neg e]
theorem q6n {b j c:Nat} (a:Nat):mkY bs b j c (c:Int) a=mkJ bs b j a:=by
 unfold mkY upB;rw [Int.toNat_natCast,decide_eq_false (by omega)];cases dmB bs a c <;> simp
theorem q9r {b j c:Nat} (hc:(raL bs bs.length b)[j]?=some c) (a:Nat):mkY bs b j c (qZ bs b) a=mkJ bs b (j+1) a:=by rw [q3c hc];rfl
theorem q8f {b q:Nat} {M:Nat->Bool} (hm:M q=false) (a:Nat):(if a=q then frM bs b M q++[b] else frM bs b M a)=frM bs b (λ a=>if a=q then true else M a) a:=by
 unfold frM
 by_cases e:a=q
 ·subst e;rw [if_pos rfl,hm];simp
 ·rw [if_neg e];simp only [if_neg e]
theorem q8e {ord:Nat->Nat} (h:NearB bs (qZ bs) ord) {b j c q a:Nat} (hm:mkY bs b j c q q=false) (ha:a<bs.length) (hc:c<bs.length) (hq:q<bs.length) (hd:dmB bs q c=true) :
  (if a=q then zs (frM bs b (mkY bs b j c q) q)++[(b:Int)] else zs (frM bs b (mkY bs b j c q) a))=zs (frM bs b (mkY bs b j c (qZ bs q)) a):=by
 have h1:=q8f (bs:=bs) (b:=b) hm a;have h3:=q3b (b:=b) (j:=j) h ha hc hq hd;have h2:frM bs b (λ a=>if a=q then true else mkY bs b j c q a) a=frM bs b (mkY bs b j c (qZ bs q)) a:=by
  unfold frM;show frL bs b a++(if (if a=q then true else mkY bs b j c q a)=true then [b] else [])=_;rw [h3]
 rw [<- h2,<- h1]
 by_cases e:a=q
 ·rw [if_pos e,if_pos e,yG]
 ·rw [if_neg e,if_neg e]
def qBM (bs:List qE) (w:World) (e:Ending) (w':World):Prop :=
 (∃ G K V,e=.returned (.slice (some ⟨G,0,none⟩) bs.length bs.length)/\w.heap.size<=G/\w.heap.size<=K/\Gri w' G K bs.length V (λ a=>zs (frL bs bs.length a))/\∃ ord,NearB bs (qZ bs) ord)/\Below w.heap.size w w'
def FrW (w6 wq:World) (Gf La K n b:Nat) (V:Nat->Value) (la:Nat->Nat) (bs:List qE) (M:Nat->Bool):Prop :=
 Gri wq Gf K n V (λ a=>zs (frM bs b M a))/\wq.rowIs La 3 n (λ a=>.int .i64 (la a:Int))/\LaOk la n b M/\FrX (λ y=>y=Gf\/y=La) w6 wq
theorem FrW.congr {w6 wq:World} {Gf La K n b:Nat} {V:Nat->Value} {la:Nat->Nat} {M M':Nat->Bool} (h:FrW w6 wq Gf La K n b V la bs M) (he:∀ a,a<n->M a=M' a):FrW w6 wq Gf La K n b V la bs M' :=
 ⟨h.1.congr λ a ha=>by unfold frM;rw [he a ha],h.2.1,h.2.2.1.congr he,h.2.2.2⟩
set_option maxRecDepth 100000 in
set_option maxHeartbeats 8000000 in
theorem q2k (f:qB) (v:Value) (w:World) (hv:VFun w v f) (hn:f.blocks.length<=1000):Calls Tryz.prog 56 #[v] w (qBM f.blocks w):=by
 have tB:=hv;obtain ⟨i0,hi,tV,tU,tT⟩:=info_parts Tryz.info3;have HI:=Jj (And.intro hi (And.intro tV (And.intro tU tT)));clear hi tV tU tT;obtain ⟨Ar,cr,A,c,rfl,-,-,-,-⟩:=hv;have HV:=Jj tB;(go_enter Tryz.func56,Tryz.ntmps56);(go_upto_region 1 with fail);obtain ⟨w1,tW,tX,sd,ww,tc,-⟩:=named w #[.int .i64 f.params,.int .i64 f.result,.slice Ar f.regs.length cr,.slice A f.blocks.length c] 30
 rw [<- tW];have c0:w1.cell? ⟨w.heap.size,0,none⟩=some (.int .i64 f.params):=tc 0 _ rfl;have c1:w1.cell? ⟨w.heap.size,1,none⟩=some (.int .i64 f.result):=tc 1 _ rfl;have c2:w1.cell? ⟨w.heap.size,2,none⟩=some (.slice Ar f.regs.length cr):=tc 2 _ rfl;have c3:w1.cell? ⟨w.heap.size,3,none⟩=some (.slice A f.blocks.length c):=tc 3 _ rfl;have HC:=Jj (And.intro c0 (And.intro c1 (And.intro c2 c3)));have sV:=Jj ww;have tw:=Jj tX;have HN:=Jj (jv f _ w1 (VFun.keep sd tB) hn)
 clear tW tX ww tc tB sd;(go_wp2_with fail);refine HN.out.mono ?_;rintro e w2 ⟨⟨H,rfl,hH,tD,ord,hNB⟩,wO⟩;have tS:Hid (Below w1.heap.size w1 w2):=Jj wO;have wU:=Jj hNB;have sp:=Jj tD;have hHl:H<w2.heap.size:=tD.lt;have sB:=run_make_row' (P:=Tryz.prog) 65 27 (.slice none 0 0) 24 Tryz.underlying65 Tryz.info27 rfl .i64 .i64 f.blocks.length (by omega) (by omega)
 have tF:=run_make_row' (P:=Tryz.prog) 27 3 (.int .i64 0) 8 Tryz.underlying27 Tryz.info3 rfl .i64 .i64 f.blocks.length (by omega) (by omega);(have sc:∀ i,w2.cell? ⟨w.heap.size,i,none⟩=w1.cell? ⟨w.heap.size,i,none⟩:=λ i=>wO.cell (p:=⟨w.heap.size,i,none⟩) (by have:=tw.out;show w.heap.size<_;omega));(have hN2:w.heap.size<w2.heap.size:=by have:=wO.size;have:=tw.out;omega);clear c0 c1 c2 c3 hH tD wO HN hNB;(go_upto_region 4 with fail);clear sB tF;obtain ⟨G,hG⟩:∃ G,G=w2.heap.size:=⟨_,rfl⟩;obtain ⟨w4,wV⟩:∃ w4,w4=(w2.alloc (.cells (madeCells #[.slice none 0 0] f.blocks.length) 27)).alloc (.cells (madeCells #[.int .i64 0] f.blocks.length) 3):=⟨_,rfl⟩;have tu:Below w2.heap.size w2 w4:=by rw [wV];exact ((J5 _ _).alloc (J4 _) _).alloc (by simp) _
 (have sN:Hid (∀ K,G<K->Gri w4 G K f.blocks.length (λ _=>.slice none 0 0) (λ _=>[])):=Jj (λ K hK=>by rw [wV];exact (Gri.made w2 G K _ hG hK).alloc _));(have sq:Hid (w4.rowIs (G+1) 3 f.blocks.length (λ _=>.int .i64 0)):=Jj (yJ (by rw [wV,hG];have:=heap_alloc_new (w2.alloc (.cells (madeCells #[.slice none 0 0] f.blocks.length) 27)) (.cells (madeCells #[.int .i64 0] f.blocks.length) 3);simpa using this)));have hG4:G+1<w4.heap.size:=sq.out.lt;have sU:Hid (Below w1.heap.size w1 w4):=Jj (tS.out.trans (tu.mono tS.out.size));(have sO:Hid (w1.heap.size<=G/\w2.heap.size=G/\H<G):=Jj ⟨by rw [hG];exact tS.out.size,hG.symm,by omega⟩);have wZ:∀ i,w4.cell? ⟨w.heap.size,i,none⟩=w1.cell? ⟨w.heap.size,i,none⟩:=λ i=>(tu.cell (p:=⟨w.heap.size,i,none⟩) hN2).trans (sc i);have c0:=(wZ 0).trans HC.out.1;have c1:=(wZ 1).trans HC.out.2.1;have c2:=(wZ 2).trans HC.out.2.2.1
 have c3:=(wZ 3).trans HC.out.2.2.2;(have wQ:Hid (Below w.heap.size w w4):=Jj (sV.out.trans (sU.out.mono (by have:=tw.out;omega))));have sn:=Jj (kU f _ w4 (VFun.keep (q7 wQ.out) HV.out) hn);have tj:=Jj (sp.out.of_block (tu.block H hHl));rw [<- wV,<- hG];clear wV hG sc wZ tu hN2 hHl sp;(go_wp2_with fail);refine sn.out.mono ?_;rintro e w6 ⟨⟨R,KR,VR,rfl,hR,ta⟩,wJ⟩
 (have sh:=(sN.out w6.heap.size (by have:=wJ.size;omega)).of_blocks (w':=w6) (wJ.block G (by omega)) (λ g h1 h2=>by have:=wJ.size;omega));have sH:Hid (FrW w6 w6 G (G+1) w6.heap.size f.blocks.length 0 (λ _=>.slice none 0 0) (λ _=>0) f.blocks (mkJ f.blocks 0 0)):=Jj ⟨sh.congr λ a _=>by rw [<- kh];rfl,(sq.out.of_block (wJ.block (G+1) hG4)).congr λ _ _=>rfl,λ a _=>⟨by show 0<=0+1;omega,⟨λ h=>by have h:(0:Nat)=0+1:=h;omega,λ h=>by unfold mkJ at h;simp at h⟩⟩,FrX.refl _ _⟩
 have sm:Hid (∀ w',FrX (λ y=>y=G\/y=G+1) w6 w'->SL w' 1 RRow (some ⟨R,0,none⟩) f.blocks.length ((List.range f.blocks.length).map λ b=>zs (raL f.blocks f.blocks.length b))):=Jj (λ w' hf=>by
  have tH:=ta.lt;have hg:=ta.of_blocks (w':=w') (hf.block R ta.row.lt (by omega)) (λ g h1 h2=>hf.block g h2 (by omega))
  exact hg.reads (by omega) (λ i hi x hx=>by obtain ⟨q,hq,rfl⟩:=y4 hx;have:=(kW hq).1;unfold I64;omega))
 have wj:=Jj (tj.out.of_block (wJ.block H tj.out.lt));have tR:Hid (Below w.heap.size w w6):=Jj (wQ.out.trans (wJ.mono wQ.out.size));(have tz:Hid (w.heap.size<=G/\G+1<w6.heap.size/\H<G):=Jj (by have:=sO.out;have:=tw.out;have:=wJ.size;omega));have tx:Hid (G+1<R/\R<w6.heap.size):=Jj ⟨by omega,ta.row.lt⟩;clear sh ta wJ hR c0 c1 c2 c3 sn hG4;go_wp2_with fail
 go_loopw [21] (λ s21 wq=>∃ (b:Nat) (V:Nat->Value) (la:Nat->Nat),b<=f.blocks.length/\s21=.int .i64 (b:Int)/\FrW w6 wq G (G+1) w6.heap.size f.blocks.length b V la f.blocks (mkJ f.blocks b 0)) (λ s21 _=>f.blocks.length - (intOf s21).toNat)
 case atStart=>exact ⟨0,_,_,Nat.zero_le _,rfl,sH.out⟩
 case round =>
  obtain ⟨b,V,la,hb,rfl,hw⟩:=hrel;obtain ⟨wo,rfl⟩:∃ wo,wo=wr:=⟨wr,rfl⟩;have HW:=Jj hw
  by_cases tf:b<f.blocks.length
  ·(have tL:(0:Int)<=b:=by omega);(have tK:(b:Int)<f.blocks.length:=by omega);(obtain ⟨bg,og,l,td,hl,tJ⟩:=(sm.out wo hw.2.2.2).at_ (k:=b) (by simp;exact tf));simp only [J0,Addr.mk.injEq,and_true] at td;obtain ⟨rfl,rfl⟩:=td;have tG:l=zs (raL f.blocks f.blocks.length b):=(qu _ hl.out).1;subst tG;obtain ⟨A2,c2,hcA,hslA⟩:=tJ;have hcA:wo.cell? ⟨R,b,none⟩=some (.slice A2 (raL f.blocks f.blocks.length b).length c2):=by rw [Nat.mul_one,Nat.zero_add,qg] at hcA;exact hcA
   have hrl:=q5j f.blocks f.blocks.length b;clear hw hslA hl
   have sR:Hid (∀ w',FrX (λ y=>y=G\/y=G+1) w6 w'->w'.cell? ⟨R,b,none⟩=some (.slice A2 (raL f.blocks f.blocks.length b).length c2)):=Jj (λ w' hf=>by
    (have h1:=hf.block R (by have:=tx.out;omega) (by have:=tx.out;omega));have h2:=HW.out.2.2.2.block R (by have:=tx.out;omega) (by have:=tx.out;omega)
    exact (JK (a:=⟨R,b,none⟩) (h1.trans h2.symm)).trans hcA)
   (go_upto_region 8 with fail);clear hcA
   go_loopw [28] (λ s28 wq=>∃ (j:Nat) (V:Nat->Value) (la:Nat->Nat),j<=(raL f.blocks f.blocks.length b).length/\s28=.int .i64 (j:Int)/\FrW w6 wq G (G+1) w6.heap.size f.blocks.length b V la f.blocks (mkJ f.blocks b j)) (λ s28 _=>(raL f.blocks f.blocks.length b).length - (intOf s28).toNat)
   case atStart=>exact ⟨0,V,la,Nat.zero_le _,rfl,HW.out⟩
   case round =>
    obtain ⟨j,V2,la2,hj,rfl,hw⟩:=hrel;have HWJ:=Jj hw
    by_cases sC:j<(raL f.blocks f.blocks.length b).length
    ·(obtain ⟨bg,og,l,td,hl,tJ⟩:=(sm.out wr hw.2.2.2).at_ (k:=b) (by simp;exact tf));simp only [J0,Addr.mk.injEq,and_true] at td;obtain ⟨rfl,rfl⟩:=td;have tG:l=zs (raL f.blocks f.blocks.length b):=(qu _ hl.out).1;subst tG;obtain ⟨A3,c3,hcA3,hslA⟩:=tJ;have hcA4:=sR.out wr hw.2.2.2;rw [Nat.mul_one,Nat.zero_add,qg] at hcA3;rw [hcA3] at hcA4
     simp only [J0,Value.slice.injEq] at hcA4;obtain ⟨rfl,-,rfl⟩:=hcA4;(obtain ⟨bt,ot,x,rfl,hx,sw,-⟩:=hslA.int (k:=j) (by rw [qg];exact sC));obtain ⟨c,hc,rfl⟩:=jD hx.out;obtain ⟨tr,wR,th⟩:=kW (Jz hc);have su:=Jj hc;have sW:=Jj (AtY.start wU.out tf tr wR th);have sI:=Jj (hw.congr (M':=mkY f.blocks b j c (c:Int)) λ a _=>(q6n a).symm);have hj0:(0:Int)<=j:=by omega
     (have hj1:(j:Int)<(raL f.blocks f.blocks.length b).length:=by omega);clear hw hx hc hl hcA3 hslA wR th;(go_upto_region 10 with fail);clear sw;go_loopg [9] (ord c+1) (λ gk s9 wq=>∃ (y:Int) (V:Nat->Value) (la:Nat->Nat),s9=.int .i64 y/\AtY f.blocks b c y/\(∀ q:Nat,y=(q:Int)->gk=ord q+1)/\FrW w6 wq G (G+1) w6.heap.size f.blocks.length b V la f.blocks (mkY f.blocks b j c y))
     case atStart=>exact ⟨(c:Int),V2,la2,rfl,sW.out,λ q h=>by rw [show c=q by omega],sI.out⟩
     case round =>
      obtain ⟨y,V3,la3,rfl,sk,tp,hw⟩:=hrel;have HWY:=Jj hw;have xn:=(wj.out.of_block (hw.2.2.2.block H wj.out.lt (by have:=tz.out;omega))).cell tf
      by_cases wh:y=qZ f.blocks b
      ·(have tK:(y != qZ f.blocks b)=false:=by simp [wh]);(have wM:=Jj (hw.congr (M':=mkJ f.blocks b (j+1)) λ a _=>by rw [wh];exact q9r su.out a));have HYN:=Jj wh;clear hw sk tp wh;go_wp2_with fail
       go_roundw
       case rel=>exact ⟨j+1,V3,la3,by omega,by go_num,wM.out⟩
       case measure=>simp [intOf];omega
      ·(have tK:(y != qZ f.blocks b)=true:=by simpa using wh);rcases sk with h1 | ⟨q,hq,rfl,-,tq,hp⟩
       ·exact absurd h1 wh
       ·have xl:=hw.2.1.cell hq;(have wY:(0:Int)<=q:=by omega);(have hq1:(q:Int)<f.blocks.length:=by omega);have tm:=hw.2.2.1 q hq
        by_cases hl:la3 q=b+1
        ·(have wO:(((la3 q:Nat):Int) != (b:Int)+1)=false:=by simp;omega);have wM:=Jj (hw.congr (M':=mkJ f.blocks b (j+1)) λ a ha=>q9q wU.out su.out tf hq tq hp (tm.2.1 hl) ha);clear hw tp wh tm hl;go_wp2_with fail
         go_roundw
         case rel=>exact ⟨j+1,V3,la3,by omega,by go_num,wM.out⟩
         case measure=>simp [intOf];omega
        ·(have wO:(((la3 q:Nat):Int) != (b:Int)+1)=true:=by simp;omega);(have sJ:Hid (mkY f.blocks b j c q q=false):=Jj (by cases hm:mkY f.blocks b j c q q;rfl;exact absurd (tm.2.2 hm) hl));have tO:=Jj (AtY.step wU.out tr hq tq wh hp);have sr:Hid (gk=ord q+1):=Jj (tp q rfl);have xlf:=hw.2.1.frozen q;have ss:=Jj tq;have hGN:=tz.out;have hLset:=hw.2.1.set q (.int .i64 ((b:Int)+1));have hGset:=hw.1.setOther (a:=⟨G+1,q,none⟩) (by show G≠G+1;omega) (by show G+1<w6.heap.size;omega) (.int .i64 ((b:Int)+1))
         have hFset:=hw.2.2.2.setCell (p:=⟨G+1,q,none⟩) (.inl (.inr rfl)) (.int .i64 ((b:Int)+1));have xn1:=(wj.out.of_block (hFset.block H wj.out.lt (by omega))).cell hq;have sL:=Jj hw.2.2.1;clear hw tp wh tm hl hp tq;(go_upto_region 12 with fail);clear xl xlf xn tK wO;generalize wr.setCell ⟨G+1,q,none⟩ (.int .i64 ((b:Int)+1))=w7 at *;have wW:=hGset.row.cell hq;have wk:=hGset.row.frozen q
         have tQ:=Jj (hGset.own q hq);have sM:=Jj hGset;have sK:=Jj hLset;have sQ:=Jj hFset;have hll:(zs (frM f.blocks b (mkY f.blocks b j c q) q)).length<=2000:=by
          (rw [qg];unfold frM);have:=qA2 f.blocks b q;rw [List.length_append]
          split <;> simp <;> omega
         have hz6:=hFset.size;clear hGset hLset hFset;go_wp2_with (at_builtin;refine wpList_append_lies _ rfl (.tmp 57) (.tmp 59) 27 rfl w6.heap.size 3 i0 (.int .i64 0) 1 8 Tryz.underlying27 HI.out.1 HI.out.2.1 HI.out.2.2.1 HI.out.2.2.2 rfl (by decide) (V3 q) _ _ rfl (tQ.out.alloc _) ⟨w7.heap.size,0,none⟩ 1 1 [.int .i64 (b:Int)] rfl rfl ?e1 ?e2 ?e0 ?e3 ?e4 ?e5 (w7.heap.size+1) ?e6 ?_)
         case e1=>exact qm w7 _ _ rfl
         case e2=>exact ints_oneCell .i64 [(b:Int)]
         case e0=>omega
         case e3=>unfold maxLen;omega
         case e4=>omega
         case e5=>simp;omega
         case e6=>simp
         intro g cap w8 wu wg wv hlt8;have sf:=Gri.push (sM.out.alloc _) hq wu wg (by simpa using wv);(have tg:∀ y,y<w6.heap.size->w8.heap[y]?=w7.heap[y]?:=λ y hy=>(wg.block y (by simp;omega) (λ e=>by have:=(tQ.out.lt y e.symm).1;omega)).trans (Below.heap_alloc _ _ _ (by omega)));have hrow8:w8.cell? ⟨G,q,none⟩=some (V3 q):=(JK (a:=⟨G,q,none⟩) (tg G (by omega))).trans wW;have hfr8:w8.frozen? ⟨G,q,none⟩=false:=(World.frozen?_of_block (a:=⟨G,q,none⟩) (tg G (by omega))).trans wk;have xn2:w8.cell? ⟨H,q,none⟩=some (.int .i64 (qZ f.blocks q)):=(JK (a:=⟨H,q,none⟩) (tg H (by omega))).trans xn1;(have tE:H≠G:=by omega);have si:FrX (λ y=>y=G\/y=G+1) w6 (w8.setCell ⟨G,q,none⟩ (.slice (some ⟨g,0,none⟩) ((zs (frM f.blocks b (mkY f.blocks b j c q) q)).length+1) cap)):=((sQ.out.alloc _).grown wg (λ y hy=>.inr (tQ.out.lt y hy).1)).setCell (.inl (.inl rfl)) _;have sb:=((sK.out.of_block (tg (G+1) (by omega))).setOther (a:=⟨G,q,none⟩) (by show G+1≠G;omega) (.slice (some ⟨g,0,none⟩) ((zs (frM f.blocks b (mkY f.blocks b j c q) q)).length+1) cap)).congr (g:=λ a=>.int .i64 ((qM la3 q (b+1) a:Nat):Int)) λ a _=>by unfold qM;by_cases e:a=q <;> simp [e]
         have wM:Hid (FrW w6 (w8.setCell ⟨G,q,none⟩ (.slice (some ⟨g,0,none⟩) ((zs (frM f.blocks b (mkY f.blocks b j c q) q)).length+1) cap)) G (G+1) w6.heap.size f.blocks.length b _ (qM la3 q (b+1)) f.blocks (mkY f.blocks b j c (qZ f.blocks q))):=Jj ⟨sf.congr λ a ha=>by
           show (if a=q then zs (frM f.blocks b (mkY f.blocks b j c q) q)++[(b:Int)] else zs (frM f.blocks b (mkY f.blocks b j c q) a))=_
           exact q8e wU.out sJ.out ha tr hq ss.out,sb,sL.out.set.congr λ a ha=>q3b wU.out ha tr hq ss.out,si⟩
         clear sf wu wg wv wW wk xn1 sb si tg;(go_wp2_with fail);rcases tO.out.2 with hz | ⟨r,hr,wX,tH⟩
         ·go_roundg 0
          case measure=>have:=sr.out;omega
          case rel=>exact ⟨qZ f.blocks q,_,_,rfl,tO.out.1,λ r h=>by rw [hz] at h;omega,wM.out⟩
         ·go_roundg (ord r+1)
          case measure=>have:=sr.out;omega
          case rel=>exact ⟨qZ f.blocks q,_,_,rfl,tO.out.1,λ r' h=>by rw [show r=r' by omega],wM.out⟩
    ·have wM:Hid (FrW w6 wr G (G+1) w6.heap.size f.blocks.length (b+1) V2 la2 f.blocks (mkJ f.blocks (b+1) 0)):=Jj ⟨hw.1.congr λ a _=>by rw [qA1 f.blocks (by omega) a,<- kh],hw.2.1,hw.2.2.1.next,hw.2.2.2⟩;clear hw;go_wp2_with fail
     go_roundw
     case rel=>exact ⟨b+1,V2,la2,by omega,by go_num,wM.out⟩
     case measure=>simp [intOf];omega
  ·(have sF:b=f.blocks.length:=by omega);subst sF;have tP:=Jj (hw.1.congr (L':=λ a=>zs (frL f.blocks f.blocks.length a)) λ a _=>by rw [kh]);(have sS:Hid (Below w.heap.size w wo):=Jj (tR.out.trans (hw.2.2.2.below tR.out.size (λ y hy=>by have:=tz.out;omega))));clear hw;(go_wp2_with fail);(go_ret);exact ⟨⟨G,_,V,rfl,tz.out.1,tR.out.size,tP.out,ord,wU.out⟩,sS.out⟩
end Go.Proofs.YtfoggldjjnabcaaGreatDoor

namespace Go.Proofs.YtfoggldjjnabcaaGreatDoor
open Go.ChangeShapes Go.WideShapes Go.RowKit Go.Deep
def q5S (n R:Nat):List (Nat × Nat):=(List.range n).flatMap λ x=>(List.range R).map λ y=>(x,y)
theorem allP_mem {n R:Nat} {x:Nat × Nat}:x∈q5S n R↔x.1<n/\x.2<R:=by
 unfold q5S;rw [List.mem_flatMap];constructor
 ·rintro ⟨a,ha,hx⟩;obtain ⟨b,hb,rfl⟩:=List.mem_map.1 hx;exact ⟨List.mem_range.1 ha,List.mem_range.1 hb⟩
 ·rintro ⟨h1,h2⟩;exact ⟨x.1,List.mem_range.2 h1,List.mem_map.2 ⟨x.2,List.mem_range.2 h2,rfl⟩⟩
theorem q9B (n R:Nat):(q5S n R).length=n * R:=by
 unfold q5S
 induction n with
 | zero=>simp
 | succ n ih=>rw [List.range_succ,List.flatMap_append,List.length_append,ih];simp [Nat.succ_mul]
theorem q5R (n R:Nat):(q5S n R).Nodup:=by
 unfold q5S
 induction n with
 | zero=>simp
 | succ n ih =>
  rw [List.range_succ,List.flatMap_append,List.nodup_append];refine ⟨ih,?_,?_⟩
  ·simp only [List.flatMap_cons,List.flatMap_nil,List.append_nil];exact List.Pairwise.map _ (λ a b h e=>h (by injection e)) List.nodup_range
  ·intro a ha b hb e;subst e;obtain ⟨x,hx,h1⟩:=List.mem_flatMap.1 ha;obtain ⟨y,hy,h2⟩:=List.mem_flatMap.1 hb;obtain ⟨p,_,rfl⟩:=List.mem_map.1 h1;obtain ⟨q,_,e⟩:=List.mem_map.1 h2;(have e1:y=x:=by injection e);have:=List.mem_range.1 hx;have:=List.mem_singleton.1 hy
   omega
theorem q5E {α:Type} [DecidableEq α] {p q:α->Bool} {x:α} (hq:∀ y,y≠x->q y=p y) (hp:p x=false) (hx:q x=true):∀ l:List α,l.Nodup->l.countP q=l.countP p+(if x∈l then 1 else 0):=by
 intro l
 induction l with
 | nil=>intro _;simp
 | cons a l ih =>
  intro hn;obtain ⟨h1,h2⟩:=List.nodup_cons.1 hn;rw [List.countP_cons,List.countP_cons,ih h2]
  by_cases e:a=x
  ·subst e;(have hm:a∈a::l:=by simp);rw [if_neg h1,if_pos hm,hx,hp];simp
  ·rw [hq a e];have hm:(x∈a::l)↔x∈l:=by
    rw [List.mem_cons];exact ⟨λ h=>by rcases h with h | h;exact absurd h.symm e;exact h,.inr⟩
   by_cases e2:x∈l
   ·rw [if_pos e2,if_pos (hm.2 e2)];omega
   ·rw [if_neg e2,if_neg (λ h=>e2 (hm.1 h))];omega
def q4F (n R:Nat) (M:Nat->Nat->Bool):Nat:=(q5S n R).countP λ x=>M x.1 x.2
theorem q62 (n R:Nat) (M:Nat->Nat->Bool):q4F n R M<=n * R:=by unfold q4F;rw [<- q9B];exact List.countP_le_length
theorem q4E {n R:Nat} {M:Nat->Nat->Bool} {b r:Nat} (hb:b<n) (hr:r<R) (h:M b r=false):q4F n R (vM M b r)=q4F n R M+1:=by
 unfold q4F
 rw [q5E (x:=(b,r)) (p:=λ x=>M x.1 x.2) (λ y hy=>by
  show vM M b r y.1 y.2=M y.1 y.2;unfold vM
  rw [if_neg (λ k=>hy (Prod.ext k.1 k.2))]) h (yb _ _ _) _ (q5R n R),if_pos (allP_mem.2 ⟨hb,hr⟩)]
def FewS (n R:Nat) (s:LvS):Prop:=s.op.length<=q4F n R s.A/\∀ x∈s.op,x.1<n/\x.2<R
theorem FewS.le {n R:Nat} {s:LvS} (h:FewS n R s):s.op.length<=n * R:=Nat.le_trans h.1 (q62 _ _ _)
theorem FewS.atB {n R:Nat} {s:LvS} (h:FewS n R s) (ph:Nat->Nat->Bool) {b r:Nat} (hb:b<n) (hr:r<R):FewS n R (atB ph s b r):=by
 unfold Go.Proofs.YtfoggldjjnabcaaGreatDoor.atB
 by_cases e:(s.A b r || ph b r)=true
 ·rw [if_pos e];exact h
 ·rw [if_neg e];(have hA:s.A b r=false:=by cases hq:s.A b r;rfl;rw [hq] at e;simp at e);(refine ⟨by rw [List.length_append,q4E hb hr hA];have:=h.1;simp;omega,λ x hx=>?_⟩);rcases List.mem_append.1 hx with hx | hx
  ·exact h.2 x hx
  ·rw [List.mem_singleton.1 hx];exact ⟨hb,hr⟩
theorem FewS.atE {n R:Nat} {s:LvS} (h:FewS n R s) (mk ph:Nat->Nat->Bool) {b r:Nat} (hb:b<n) (hr:r<R):FewS n R (atE mk ph s b r):=by
 unfold Go.Proofs.YtfoggldjjnabcaaGreatDoor.atE
 split
 ·exact h
 ·split
  ·exact h
  ·exact FewS.atB (s:=⟨s.A,vM s.E b r,s.op⟩) h ph hb hr
def msS (n R:Nat) (s:LvS):Nat:=s.op.length+(n * R - q4F n R s.A)
theorem q9m {n R:Nat} {s:LvS} (ph:Nat->Nat->Bool) {b r:Nat} (hb:b<n) (hr:r<R):msS n R (atB ph s b r)=msS n R s:=by
 unfold Go.Proofs.YtfoggldjjnabcaaGreatDoor.atB msS
 by_cases e:(s.A b r || ph b r)=true
 ·rw [if_pos e]
 ·rw [if_neg e];(have hA:s.A b r=false:=by cases hq:s.A b r;rfl;rw [hq] at e;simp at e);have h1:=q4E hb hr hA;have h2:=q62 n R (vM s.A b r);rw [List.length_append,h1];rw [h1] at h2;simp;omega
theorem q9l {n R:Nat} {s:LvS} (mk ph:Nat->Nat->Bool) {b r:Nat} (hb:b<n) (hr:r<R):msS n R (atE mk ph s b r)=msS n R s:=by
 unfold Go.Proofs.YtfoggldjjnabcaaGreatDoor.atE
 split
 ·rfl
 ·split
  ·rfl
  ·rw [q9m (s:=⟨s.A,vM s.E b r,s.op⟩) ph hb hr];rfl
structure BG1 (w:World) (G n R:Nat) (M:Nat->Nat->Bool):Prop where
 row:w.rowIs G 64 n (λ a=>.slice (some ⟨G+1+a,0,none⟩) R R)
 cells:∀ a,a<n->w.rowIs (G+1+a) 4 R (λ r=>.bool (M a r))
theorem BG1.of_blocks {w w':World} {G n R:Nat} {M:Nat->Nat->Bool} (h:BG1 w G n R M) (hb:∀ y,G<=y->y<=G+n->w'.heap[y]?=w.heap[y]?):BG1 w' G n R M :=
 ⟨h.row.of_block (hb G (by omega) (by omega)),λ a ha=>(h.cells a ha).of_block (hb _ (by omega) (by omega))⟩
theorem BG1.congr {w:World} {G n R:Nat} {M M':Nat->Nat->Bool} (h:BG1 w G n R M) (he:∀ a b,a<n->b<R->M a b=M' a b):BG1 w G n R M' :=
 ⟨h.row,λ a ha=>(h.cells a ha).congr λ b hb=>by rw [he a b ha hb]⟩
theorem BG1.set {w:World} {G n R:Nat} {M:Nat->Nat->Bool} (h:BG1 w G n R M) (a r:Nat) (ha:a<n):BG1 (w.setCell ⟨G+1+a,r,none⟩ (.bool true)) G n R (vM M a r):=by
 have hs:∀ y,y≠G+1+a->(w.setCell ⟨G+1+a,r,none⟩ (.bool true)).heap[y]?=w.heap[y]?:=λ y hy=>JQ _ _ _ _ hy;refine ⟨h.row.of_block (hs G (by omega)),λ x hx=>?_⟩
 by_cases e:x=a
 ·subst e;exact ((h.cells x hx).set r (.bool true)).congr λ r' _=>by unfold vM;by_cases e2:r'=r <;> simp [e2]
 ·exact ((h.cells x hx).of_block (hs _ (by omega))).congr λ r' _=>by unfold vM;rw [if_neg (λ k=>e k.1)]
theorem BG1.at_ {w:World} {G n R:Nat} {M:Nat->Nat->Bool} (h:BG1 w G n R M) {a r:Nat} (ha:a<n) (hr:r<R) :
  w.cell? ⟨G,a,none⟩=some (.slice (some ⟨G+1+a,0,none⟩) R R)/\w.cell? ⟨G+1+a,r,none⟩=some (.bool (M a r))/\w.frozen? ⟨G+1+a,r,none⟩=false :=
 ⟨h.row.cell ha,(h.cells a ha).cell hr,(h.cells a ha).frozen r⟩
def opF (l:List (Nat × Nat)):List Value:=l.flatMap λ x=>[.int .i64 (x.1:Int),.int .i64 (x.2:Int)]
theorem q3T (l:List (Nat × Nat)) (b r:Nat):opF (l++[(b,r)])=opF l++[.int .i64 (b:Int),.int .i64 (r:Int)]:=by unfold opF;rw [List.flatMap_append];simp
theorem q9h (l:List (Nat × Nat)):(opF l).length=2 * l.length:=by
 unfold opF
 induction l with
 | nil=>rfl
 | cons x l ih=>rw [List.flatMap_cons,List.length_append,ih];simp;omega
structure WsM (Wa:World) (H Ga n R K:Nat) (W:World) (vo:Value) (mk ph:Nat->Nat->Bool) (s:LvS):Prop where
 hz:Wa.heap.size=H
 hk:H+4 * (n+1)<K
 box:W.heap[H+4 * (n+1)]?=some (.cells #[.slice (some ⟨Ga,0,none⟩) n n,.slice (some ⟨H,0,none⟩) n n,.slice (some ⟨H+(n+1),0,none⟩) n n,.slice (some ⟨H+2 * (n+1),0,none⟩) n n,.slice (some ⟨H+3 * (n+1),0,none⟩) n n,vo] 145)
 g1:BG1 W H n R mk
 g2:BG1 W (H+(n+1)) n R ph
 g3:BG1 W (H+2 * (n+1)) n R s.A
 g4:BG1 W (H+3 * (n+1)) n R s.E
 op:W.ownsRow K 201 2 vo s.op.length (opF s.op)
 bel:Below H Wa W
 kw:K<=W.heap.size
structure GroS (lo hi:Nat) (w w':World) (v v':Value):Prop where
 os:w'.os=w.os
 tape:w'.tape=w.tape
 output:w'.output=w.output
 size:w.heap.size<=w'.heap.size
 block:∀ k,k<w.heap.size->¬ (lo<=k/\k<=hi)->v.ownBlock≠some k->w'.heap[k]?=w.heap[k]?
 own:∀ g,v'.ownBlock=some g->v.ownBlock=some g\/w.heap.size<=g
theorem GroS.refl (lo hi:Nat) (w:World) (v:Value):GroS lo hi w w v v:=⟨rfl,rfl,rfl,J4 _,λ _ _ _ _=>rfl,λ _ h=>.inl h⟩
theorem GroS.trans {lo hi:Nat} {a b c:World} {u v x:Value} (h:GroS lo hi a b u v) (k:GroS lo hi b c v x):GroS lo hi a c u x :=
 ⟨k.os.trans h.os,k.tape.trans h.tape,k.output.trans h.output,Nat.le_trans h.size k.size,
  λ i wh hn hv=>(k.block i (Nat.lt_of_lt_of_le wh h.size) hn (λ e=>by rcases h.own i e with h1 | h1;exact hv h1;omega)).trans (h.block i wh hn hv),
  λ g hg=>by
   rcases k.own g hg with h1 | h1
   ·exact h.own g h1
   ·exact .inr (Nat.le_trans h.size h1)⟩
theorem GroS.of_below {lo hi:Nat} {w w':World} (h:Below w.heap.size w w') (v:Value):GroS lo hi w w' v v:=⟨h.os,h.tape,h.output,h.size,λ k hk _ _=>h.block k hk,λ _ h=>.inl h⟩
theorem GroS.mono {lo hi:Nat} {a b c:World} {u v:Value} (h:GroS lo hi a b u v) (k:Below b.heap.size b c):GroS lo hi a c u v:=h.trans (.of_below k v)
theorem WsM.below {Wa:World} {H Ga n R K:Nat} {W W':World} {vo:Value} {mk ph:Nat->Nat->Bool} {s:LvS} (h:WsM Wa H Ga n R K W vo mk ph s) (hb:Below W.heap.size W W'):WsM Wa H Ga n R K W' vo mk ph s:=by
 have hP:H+4 * (n+1)<W.heap.size:=(Array.getElem?_eq_some_iff.1 h.box).1;have hk:∀ y,y<=H+4 * (n+1)->W'.heap[y]?=W.heap[y]?:=λ y hy=>hb.block y (by omega)
 exact ⟨h.hz,h.hk,(hk _ (by omega)).trans h.box,h.g1.of_blocks λ y _ hy=>hk y (by omega),h.g2.of_blocks λ y _ hy=>hk y (by omega),h.g3.of_blocks λ y _ hy=>hk y (by omega),h.g4.of_blocks λ y _ hy=>hk y (by omega),
  qJ h.op (λ g hg=>hb.block g (h.op.lt g hg).2),h.bel.trans (hb.mono (by omega)),Nat.le_trans h.kw hb.size⟩
theorem WsM.cells {Wa:World} {H Ga n R K:Nat} {W:World} {vo:Value} {mk ph:Nat->Nat->Bool} {s:LvS} (h:WsM Wa H Ga n R K W vo mk ph s) {P:Nat} (hP:H+4 * (n+1)=P) :
  W.cell? ⟨P,0,none⟩=some (.slice (some ⟨Ga,0,none⟩) n n)/\W.cell? ⟨P,1,none⟩=some (.slice (some ⟨H,0,none⟩) n n)/\W.cell? ⟨P,2,none⟩=some (.slice (some ⟨H+(n+1),0,none⟩) n n)/\W.cell? ⟨P,3,none⟩=some (.slice (some ⟨H+2 * (n+1),0,none⟩) n n) /\
  W.cell? ⟨P,4,none⟩=some (.slice (some ⟨H+3 * (n+1),0,none⟩) n n)/\W.cell? ⟨P,5,none⟩=some vo/\W.frozen? ⟨P,5,none⟩=false:=by
 have hb:=h.box;rw [hP] at hb;simp [World.cell?,World.frozen?,hb]
theorem WsM.setE {Wa:World} {H Ga n R K:Nat} {W:World} {vo:Value} {mk ph:Nat->Nat->Bool} {s:LvS} (h:WsM Wa H Ga n R K W vo mk ph s) {b:Nat} (r:Nat) (hb:b<n) :
  WsM Wa H Ga n R K (W.setCell ⟨H+3 * (n+1)+1+b,r,none⟩ (.bool true)) vo mk ph ⟨s.A,vM s.E b r,s.op⟩:=by
 have hs:∀ y,y≠H+3 * (n+1)+1+b->(W.setCell ⟨H+3 * (n+1)+1+b,r,none⟩ (.bool true)).heap[y]?=W.heap[y]?:=λ y hy=>JQ _ _ _ _ hy;have:=h.hk
 refine ⟨h.hz,h.hk,(hs _ (by omega)).trans h.box,h.g1.of_blocks λ y _ hy=>hs y (by omega),h.g2.of_blocks λ y _ hy=>hs y (by omega),h.g3.of_blocks λ y _ hy=>hs y (by omega),h.g4.set b r hb,
  qJ h.op (λ g hg=>hs g (by have:=(h.op.lt g hg).1;omega)),h.bel.setCell (by show H<=H+3 * (n+1)+1+b;omega) _,by have:=h.kw;simpa using this⟩
theorem WsM.setA {Wa:World} {H Ga n R K:Nat} {W:World} {vo:Value} {mk ph:Nat->Nat->Bool} {s:LvS} (h:WsM Wa H Ga n R K W vo mk ph s) {b:Nat} (r:Nat) (hb:b<n) :
  WsM Wa H Ga n R K (W.setCell ⟨H+2 * (n+1)+1+b,r,none⟩ (.bool true)) vo mk ph ⟨vM s.A b r,s.E,s.op⟩:=by
 have hs:∀ y,y≠H+2 * (n+1)+1+b->(W.setCell ⟨H+2 * (n+1)+1+b,r,none⟩ (.bool true)).heap[y]?=W.heap[y]?:=λ y hy=>JQ _ _ _ _ hy;have:=h.hk
 refine ⟨h.hz,h.hk,(hs _ (by omega)).trans h.box,h.g1.of_blocks λ y _ hy=>hs y (by omega),h.g2.of_blocks λ y _ hy=>hs y (by omega),h.g3.set b r hb,h.g4.of_blocks λ y _ hy=>hs y (by omega),
  qJ h.op (λ g hg=>hs g (by have:=(h.op.lt g hg).1;omega)),h.bel.setCell (by show H<=H+2 * (n+1)+1+b;omega) _,by have:=h.kw;simpa using this⟩
theorem GroS.store {lo hi:Nat} (w:World) (v:Value) {p:Addr} (hp:lo<=p.block/\p.block<=hi) (u:Value):GroS lo hi w (w.setCell p u) v v :=
 ⟨rfl,rfl,rfl,by simp,λ k hk hn _=>JQ _ _ _ _ (λ e=>hn (by subst e;exact hp)),λ _ h=>.inl h⟩
theorem WsM.setOp {Wa:World} {H Ga n R K:Nat} {W W7:World} {vo v':Value} {mk ph:Nat->Nat->Bool} {s:LvS} (h:WsM Wa H Ga n R K W vo mk ph s) (hg:GroD W W7 vo v') {l:List (Nat × Nat)}
  (ho:W7.ownsRow K 201 2 v' l.length (opF l)):WsM Wa H Ga n R K (W7.setCell ⟨H+4 * (n+1),5,none⟩ v') v' mk ph ⟨s.A,s.E,l⟩:=by
 have hP:H+4 * (n+1)<W.heap.size:=(Array.getElem?_eq_some_iff.1 h.box).1;have hk:=h.hk;(have wg:∀ y,y<=H+4 * (n+1)->W7.heap[y]?=W.heap[y]?:=λ y hy=>hg.block y (by omega) (λ e=>by have:=(h.op.lt y e).1;omega));have hs:∀ y,y≠H+4 * (n+1)->(W7.setCell ⟨H+4 * (n+1),5,none⟩ v').heap[y]?=W7.heap[y]?:=λ y hy=>JQ _ _ _ _ hy;have hq:∀ y,y<H+4 * (n+1)->(W7.setCell ⟨H+4 * (n+1),5,none⟩ v').heap[y]?=W.heap[y]?:=λ y hy=>(hs y (by omega)).trans (wg y (by omega));have wk:W7.heap[H+4 * (n+1)]?=_:=(wg _ (J4 _)).trans h.box
 refine ⟨h.hz,h.hk,?_,h.g1.of_blocks λ y _ hy=>hq y (by omega),h.g2.of_blocks λ y _ hy=>hq y (by omega),h.g3.of_blocks λ y _ hy=>hq y (by omega),h.g4.of_blocks λ y _ hy=>hq y (by omega),
  qJ ho (λ g wj=>hs g (by have:=(ho.lt g wj).1;omega)),?_,by have h1:=Nat.le_trans h.kw hg.size;simpa using h1⟩
 ·simp [World.setCell,Array.getElem?_modify,wk]
 ·have hf:Below H W W7:=⟨hg.os,hg.tape,hg.output,hg.size,λ y hy=>wg y (by omega)⟩;exact (h.bel.trans hf).setCell (by show H<=H+4 * (n+1);omega) _
theorem GroS.of_groD {lo hi:Nat} {w w':World} {v v':Value} (h:GroD w w' v v'):GroS lo hi w w' v v':=⟨h.os,h.tape,h.output,h.size,λ k hk _ hv=>h.block k hk hv,h.own⟩
end Go.Proofs.YtfoggldjjnabcaaGreatDoor
