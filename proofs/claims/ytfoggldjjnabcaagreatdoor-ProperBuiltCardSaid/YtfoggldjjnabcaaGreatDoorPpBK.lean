/- Which blocks are reached, by the program. -/
import Derived.Test.YtfoggldjjnabcaaGreatDoorModAK
import Derived.Test.YtfoggldjjnabcaaGreatDoorDmEK
import Derived.Test.YtfoggldjjnabcaaGreatDoorAheadGK
import Derived.Test.YtfoggldjjnabcaaGreatDoorDmMK
import Derived.BigQuiet
import Derived.Test.YtfoggldjjnabcaaGreatDoorDmAK
import Derived.Laws.IdiomCopy
import Derived.WalkSmall
import Derived.StillTailTactics
import Derived.RegionTactic
set_option linter.unusedVariables false
set_option linter.unusedSimpArgs false
namespace Go.Proofs.YtfoggldjjnabcaaGreatDoor
open Go.ChangeShapes Go.WideShapes Go.RowKit Go.Deep
set_option maxRecDepth 100000 in
set_option maxHeartbeats 4000000 in
theorem j3 (f:qB) (v:Value) (w:World) (hv:VFun w v f) (hn:f.blocks.length<=1000) :
  Calls Tryz.prog 36 #[v] w (qBA f.blocks w):=by
 have wX:=hv;obtain ⟨Ar,cr,A,c,rfl,hr,hb,wR,wQ⟩:=hv;have tg:=run_make_row' (P:=Tryz.prog) 64 4 (.bool false) 1 Tryz.underlying64 Tryz.info4 rfl .i64 .i64 f.blocks.length (by omega) (by omega);clear hr hb wR wQ;(go_enter Tryz.func36,Tryz.ntmps36);(go_upto_region 2 with fail);clear tg;obtain ⟨w1,wW,wO,wY,wg,wv,-⟩:=named w #[.int .i64 f.params,.int .i64 f.result,.slice Ar f.regs.length cr,.slice A f.blocks.length c] 30;rw [<- wW]
 have wh:=World.rowIs_made w1 (.bool false) f.blocks.length 4;have wl:Kept w1 (w1.alloc (.cells (madeCells #[.bool false] f.blocks.length) 4)):=qc _ _;have c0:=wl _ _ (wv 0 _ rfl);have c1:=wl _ _ (wv 1 _ rfl);have c2:=wl _ _ (wv 2 _ rfl);have c3:=wl _ _ (wv 3 _ rfl);have wZ:Below w.heap.size w (w1.alloc (.cells (madeCells #[.bool false] f.blocks.length) 4)):=wg.alloc (by omega) _;(have wJ:(w1.alloc (.cells (madeCells #[.bool false] f.blocks.length) 4)).heap.size=w1.heap.size+1:=by simp);obtain ⟨H,hH⟩:∃ H,H=w1.heap.size:=⟨_,rfl⟩
 rw [wO] at hH;rw [wO,<- hH] at wh wJ;rw [<- hH];generalize w1.alloc (.cells (madeCells #[.bool false] f.blocks.length) 4)=w2 at *;have HO:=Jj (q1k f _ w2 (VFun.keep (wY.trans wl) wX) hn);have td:=Jj wZ;have HH:Hid (w.heap.size<=H):=Jj (by omega);have HZ:=Jj wJ;have ww:=Jj wh
 clear wW wO wg wv wX wY wl wZ wJ wh hH;(go_wp2_with fail);refine HO.out.mono ?_;rintro e w3 ⟨⟨vo,rfl,wu⟩,wU⟩;(obtain ⟨Ao,co,rfl,wj⟩:=yg (B:=λ b=>w2.heap.size<=b) (xs:=zs (qV f.blocks)) (by rw [qg];exact wu) (λ x hx=>by obtain ⟨q,hq,rfl⟩:=y4 hx;have:=q1l hq;unfold I64;omega) (λ g h1 _=>h1));rw [qg];have hlen:=jT f.blocks;have tc:Hid (Below w.heap.size w w3):=Jj (td.out.trans (wU.mono td.out.size));have wm:w3.rowIs H 4 f.blocks.length (λ x=>.bool (k5 (qV f.blocks) 0 x)):=(ww.out.of_block (wU.block H ww.out.lt)).congr λ x _=>by simp [k5]
 have tj:=Jj wj;clear wu wU wj c0 c1 c2 c3;go_wp2_with fail
 go_loopw [13] (λ i wr=>∃ k:Nat,k<=(qV f.blocks).length/\i=.int .i64 k/\wr.rowIs H 4 f.blocks.length (λ x=>.bool (k5 (qV f.blocks) k x))/\BB w3.heap.size H w3 wr) (λ i _=>(qV f.blocks).length - (intOf i).toNat)
 case atStart=>exact ⟨0,Nat.zero_le _,rfl,wm,BB.refl _ _ _⟩
 case round =>
  obtain ⟨k,hk,rfl,wk,wT⟩:=hrel;have ta:=Jj wT;(have wj:=SIntsB.go (B:=λ b=>w2.heap.size<=b/\b<w3.heap.size) (B':=λ b=>w2.heap.size<=b) (w:=w3) (w':=wr) (λ a v hb ha=>(JK (wT.block a.block (by have:=hb.2;omega) (by have:=HZ.out;have:=hb.1;omega))).trans ha) (λ b hb=>hb.1) (SIntsB.lt tj.out));clear wT
  by_cases th:k<(qV f.blocks).length
  ·(obtain ⟨b,o,x,rfl,hx,-,wM,-⟩:=wj.at_ (k:=k) (by rw [qg];exact th));obtain ⟨q,hq,rfl⟩:=jD hx.out;have tf:q<f.blocks.length:=q1l (Jz hq);(have wM:wr.cell? ⟨b,o+k,none⟩=some (.int .i64 (q:Int)):=by rw [Nat.mul_one] at wM;exact wM);(have hq0:(0:Int)<=q:=by omega);(have hq1:(q:Int)<f.blocks.length:=by omega);have hcell:=wk.cell tf;have hfr:=wk.frozen q;have wV:=Jj ((wk.set q (.bool true)).congr (g:=λ x=>.bool (k5 (qV f.blocks) (k+1) x)) λ x _=>by rw [q3B hq];by_cases e:x=q <;> simp [e])
   clear wk hq wj;go_wp2_with fail
   go_roundw
   case rel=>exact ⟨k+1,by omega,by go_num,wV.out,ta.out.setCell (.inl rfl) _⟩
   case measure=>simp [intOf];omega
  ·have wV:=Jj (wk.congr (g:=λ x=>.bool (qI f.blocks x)) λ x _=>by rw [q4i (by omega)]);clear wk wj;(go_wp2_with fail);(go_ret);exact ⟨⟨H,rfl,HH.out,wV.out⟩,tc.out.trans (ta.out.below tc.out.size HH.out)⟩
theorem Tryz.info64:(Tryz.prog.info? 64).map (λ i=>(i.zero,i.size,i.bytes))=some (some (.slice none 0 0),1,24):=by kernel_rfl
structure BGr (w:World) (G D0 n:Nat) (M:Nat->Nat->Bool):Prop where
 row:w.rowIs G 64 n (λ a=>.slice (some ⟨D0+a,0,none⟩) n n)
 cells:∀ a,a<n->w.rowIs (D0+a) 4 n (λ b=>.bool (M a b))
 lt:G<D0
theorem BGr.congr {w:World} {G D0 n:Nat} {M M':Nat->Nat->Bool} (h:BGr w G D0 n M) (he:∀ a b,a<n->b<n->M a b=M' a b):BGr w G D0 n M' :=
 ⟨h.row,λ a ha=>(h.cells a ha).congr λ b hb=>by rw [he a b ha hb],h.lt⟩
theorem BGr.of_blocks {w w':World} {G D0 n:Nat} {M:Nat->Nat->Bool} (h:BGr w G D0 n M) (hb:∀ y,G<=y->y<D0+n->w'.heap[y]?=w.heap[y]?):BGr w' G D0 n M :=
 ⟨h.row.of_block (hb G (J4 _) (by have:=h.lt;omega)),λ a ha=>(h.cells a ha).of_block (hb _ (by have:=h.lt;omega) (by omega)),h.lt⟩
theorem BGr.set {w:World} {G D0 n:Nat} {M:Nat->Nat->Bool} (h:BGr w G D0 n M) (q b:Nat) (x:Bool):BGr (w.setCell ⟨D0+q,b,none⟩ (.bool x)) G D0 n (λ a b'=>if a=q/\b'=b then x else M a b'):=by
 have hs:∀ y,y≠D0+q->(w.setCell ⟨D0+q,b,none⟩ (.bool x)).heap[y]?=w.heap[y]?:=λ y hy=>JQ _ _ _ _ hy;have wh:=h.lt;refine ⟨h.row.of_block (hs G (by omega)),λ a ha=>?_,wh⟩
 by_cases e:a=q
 ·subst e;exact ((h.cells a ha).set b (.bool x)).congr λ b' _=>by by_cases e2:b'=b <;> simp [e2]
 ·exact ((h.cells a ha).of_block (hs _ (by omega))).congr λ b' _=>by simp [e]
def LayB (w4:World) (G n j:Nat) (wq:World):Prop :=
 wq.heap.size=G+1+j/\wq.rowIs G 64 n (λ a=>if a<j then .slice (some ⟨G+1+a,0,none⟩) n n else .slice none 0 0)/\(∀ a,a<j->wq.rowIs (G+1+a) 4 n (λ _=>.bool false))/\FrX (λ b=>b=G) w4 wq
theorem LayB.step {w4 wq:World} {G n j:Nat} (h:LayB w4 G n j wq):LayB w4 G n (j+1) ((wq.setCell ⟨G,j,none⟩ (.slice (some ⟨wq.heap.size,0,none⟩) n n)).alloc (.cells (madeCells #[.bool false] n) 4)):=by
 obtain ⟨h1,h2,h3,h4⟩:=h;have hs:∀ y,y≠G->(wq.setCell ⟨G,j,none⟩ (.slice (some ⟨wq.heap.size,0,none⟩) n n)).heap[y]?=wq.heap[y]?:=λ y hy=>JQ _ _ _ _ hy;(have hz:(wq.setCell ⟨G,j,none⟩ (.slice (some ⟨wq.heap.size,0,none⟩) n n)).heap.size=wq.heap.size:=by simp);have wg:=heap_alloc_new (wq.setCell ⟨G,j,none⟩ (.slice (some ⟨wq.heap.size,0,none⟩) n n)) (.cells (madeCells #[.bool false] n) 4);refine ⟨by simp;omega,?_,λ a ha=>?_,(h4.setCell (.inl rfl) _).alloc _⟩
 ·refine ((h2.set j _).of_block (Below.heap_alloc _ _ _ (by have:=h2.lt;omega))).congr λ a _=>?_
  by_cases e:a=j
  ·subst e;simp only [if_true];rw [if_pos (by omega),h1]
  ·simp only [if_neg e]
   by_cases e2:a<j
   ·rw [if_pos e2,if_pos (by omega)]
   ·rw [if_neg e2,if_neg (by omega)]
 ·by_cases e:a=j
  ·subst e;(have e:G+1+a=(wq.setCell ⟨G,a,none⟩ (.slice (some ⟨wq.heap.size,0,none⟩) n n)).heap.size:=by omega);rw [<- e] at wg;exact ⟨_,wg,size_madeCells _ _,λ i hi=>by simp [madeCells,hi,Nat.mod_one]⟩
  ·exact (h3 a (by omega)).of_block ((Below.heap_alloc _ _ _ (by omega)).trans (hs _ (by omega)))
theorem LayB.all {w4 wq:World} {G n:Nat} (h:LayB w4 G n n wq):BGr wq G (G+1) n (λ _ _=>false) :=
 ⟨h.2.1.congr λ a ha=>by rw [if_pos ha],h.2.2.1,by omega⟩
def q9H (bs:List qE) (w:World) (e:Ending) (w':World):Prop :=
 (∃ G D0,e=.returned (.slice (some ⟨G,0,none⟩) bs.length bs.length)/\w.heap.size<=G/\BGr w' G D0 bs.length (dmB bs)/\∃ ord,NearB bs (qZ bs) ord)/\Below w.heap.size w w'
set_option maxRecDepth 100000 in
set_option maxHeartbeats 8000000 in
theorem kj (f:qB) (v:Value) (w:World) (hv:VFun w v f) (hn:f.blocks.length<=1000):Calls Tryz.prog 79 #[v] w (q9H f.blocks w):=by
 have ta:=hv;obtain ⟨Ar,cr,A,c,rfl,-,-,-,-⟩:=hv;have HV:=Jj ta;(go_enter Tryz.func79,Tryz.ntmps79);(go_upto_region 1 with fail);obtain ⟨w1,tw,tz,tD,wm,wQ,-⟩:=named w #[.int .i64 f.params,.int .i64 f.result,.slice Ar f.regs.length cr,.slice A f.blocks.length c] 30;rw [<- tw];have c0:w1.cell? ⟨w.heap.size,0,none⟩=some (.int .i64 f.params):=wQ 0 _ rfl;have c1:w1.cell? ⟨w.heap.size,1,none⟩=some (.int .i64 f.result):=wQ 1 _ rfl
 have c2:w1.cell? ⟨w.heap.size,2,none⟩=some (.slice Ar f.regs.length cr):=wQ 2 _ rfl;have c3:w1.cell? ⟨w.heap.size,3,none⟩=some (.slice A f.blocks.length c):=wQ 3 _ rfl;have HC:=Jj (And.intro c0 (And.intro c1 (And.intro c2 c3)));have tQ:=Jj wm;have wX:=Jj tz;have HN:=Jj (jv f _ w1 (VFun.keep tD ta) hn);clear tw tz wm wQ ta tD;(go_wp2_with fail);refine HN.out.mono ?_
 rintro e w2 ⟨⟨H,rfl,hH,tc,ord,hNB⟩,tF⟩;have tu:Hid (Below w1.heap.size w1 w2):=Jj tF;have wY:=Jj hNB;have tK:=Jj tc;have hHl:H<w2.heap.size:=tc.lt;have tC:=run_make_row' (P:=Tryz.prog) 59 64 (.slice none 0 0) 24 Tryz.underlying59 Tryz.info64 rfl .i64 .i64 f.blocks.length (by omega) (by omega);clear c0 c1 c2 c3 hH tc tF HN hNB;(go_upto_region 3 with fail);clear tC
 obtain ⟨G,hG⟩:∃ G,G=w2.heap.size:=⟨_,rfl⟩;obtain ⟨w4,wu⟩:∃ w4,w4=w2.alloc (.cells (madeCells #[.slice none 0 0] f.blocks.length) 64):=⟨_,rfl⟩;have wM:LayB w4 G f.blocks.length 0 w4:=by
  subst wu hG;exact ⟨by simp,(World.rowIs_made w2 _ _ _).congr λ a _=>by simp,λ a ha=>by omega,FrX.refl _ _⟩
 (have th:=Jj (tK.out.of_block (w':=w4) (by rw [wu];exact Below.heap_alloc _ _ _ hHl)));(have sd:Hid (Below w1.heap.size w1 w4):=Jj (by rw [wu];exact tu.out.alloc tu.out.size _));(have ww:Hid (H<G/\w1.heap.size<=G/\G<w4.heap.size):=Jj ⟨by omega,by have:=tu.out.size;omega,by rw [wu,hG];simp⟩);have tm:=Jj wM;rw [<- wu,<- hG];have wJ:=run_make_row' (P:=Tryz.prog) 64 4 (.bool false) 1 Tryz.underlying64 Tryz.info4 rfl .i64 .i64 f.blocks.length (by omega) (by omega);have tZ:=Jj wJ;clear wu hG wM hHl wJ tK;go_wp2_with fail
 go_loopw [16] (λ s16 wq=>∃ j:Nat,j<=f.blocks.length/\s16=.int .i64 (j:Int)/\LayB w4 G f.blocks.length j wq) (λ s16 _=>f.blocks.length - (intOf s16).toNat)
 case atStart=>exact ⟨0,Nat.zero_le _,rfl,tm.out⟩
 case round =>
  obtain ⟨j,hj,rfl,hl⟩:=hrel;have HL:=Jj hl
  by_cases tS:j<f.blocks.length
  ·have tC:=tZ.out;(have xc:wr.cell? ⟨G,j,none⟩=some (.slice none 0 0):=by have:=hl.2.1.cell tS;rwa [if_neg (by omega)] at this);have xf:=hl.2.1.frozen j;have hG:=hl.2.1.lt;(have hj0:(0:Int)<=j:=by omega);(have hj1:(j:Int)<f.blocks.length:=by omega);have tX:=Jj (LayB.step hl);clear hl;go_wp2_with fail
   go_roundw
   case rel=>exact ⟨j+1,by omega,by go_num,tX.out⟩
   case measure=>simp [intOf];omega
  ·(have tT:j=f.blocks.length:=by omega);subst tT;have wg:=LayB.all hl;(have wj:Below G w4 wr:=hl.2.2.2.below (by have:=ww.out;omega) (λ b hb=>by omega));have wk:Below w1.heap.size w1 wr:=sd.out.trans (wj.mono ww.out.2.1);(have wO:∀ i,wr.cell? ⟨w.heap.size,i,none⟩=w1.cell? ⟨w.heap.size,i,none⟩:=λ i=>wk.cell (p:=⟨w.heap.size,i,none⟩) (by have:=wX.out;show w.heap.size<_;omega));have c0:=(wO 0).trans HC.out.1;have c1:=(wO 1).trans HC.out.2.1;have c2:=(wO 2).trans HC.out.2.2.1
   have c3:=(wO 3).trans HC.out.2.2.2;(have tJ:=Jj (j3 f _ wr (VFun.keep (q7 (tQ.out.trans (wk.mono (by have:=wX.out;omega)))) HV.out) hn));have tx:=hl.1;have sb:=Jj wg;have wV:=Jj (th.out.of_block (wj.block H ww.out.1));(have tP:Hid (Below w.heap.size w wr):=Jj (tQ.out.trans (wk.mono (by have:=wX.out;omega))));have tG:Hid (wr.heap.size=G+1+f.blocks.length):=Jj tx;clear hl wg wj wk wO tx;go_wp2_with fail
   refine tJ.out.mono ?_;rintro e w6 ⟨⟨R,rfl,hR,tB⟩,wW⟩;(have hB6:=sb.out.of_blocks (w':=w6) (λ y _ hy=>wW.block y (by have:=tG.out;omega)));have tq:=Jj (hB6.congr (M':=λ a b'=>decide (b'<0) && dmB f.blocks a b') λ a b _ _=>by simp);have wU:=Jj (wV.out.of_block (wW.block H wV.out.lt));have tH:=Jj tB;(have tY:Hid (G+1+f.blocks.length<=R):=Jj (by have:=tG.out;omega));have tO:Hid (Below w.heap.size w w6):=Jj (tP.out.trans (wW.mono tP.out.size));have tL:Hid (w.heap.size<=G):=Jj (by have:=ww.out;have:=wX.out;omega)
   clear wW tB hR c0 c1 c2 c3 tJ hB6;go_wp2_with fail
   go_loopw [29] (λ s29 wq=>∃ b:Nat,b<=f.blocks.length/\s29=.int .i64 (b:Int)/\BGr wq G (G+1) f.blocks.length (λ a b'=>decide (b'<b) && dmB f.blocks a b')/\FrX (λ y=>G<=y/\y<G+1+f.blocks.length) w6 wq) (λ s29 _=>f.blocks.length - (intOf s29).toNat)
   case atStart=>exact ⟨0,Nat.zero_le _,rfl,tq.out,FrX.refl _ _⟩
   case round =>
    obtain ⟨b,hb,rfl,wg,wh⟩:=hrel;obtain ⟨wo,rfl⟩:∃ wo,wo=wr:=⟨wr,rfl⟩;have tp:=Jj wg;have wZ:=Jj wh
    by_cases wR:b<f.blocks.length
    ·(have xr:=(tH.out.of_block (wh.block R tH.out.lt (by have:=tY.out;omega))).cell wR);(have hb0:(0:Int)<=b:=by omega);(have hb1:(b:Int)<f.blocks.length:=by omega);cases wv:qI f.blocks b
     ·have tj:=Jj (wg.congr (M':=λ a b'=>decide (b'<b+1) && dmB f.blocks a b') λ a b' _ _=>by
       by_cases e:b'=b
       ·subst e;(have:dmB f.blocks a b'=false:=by unfold dmB;rw [qY,wv];rfl);simp [this]
       ·have:decide (b'<b)=decide (b'<b+1):=by rw [decide_eq_decide];omega
        rw [this])
      rw [wv] at xr;clear wg wh wv;go_wp2_with fail
      go_roundw
      case rel=>exact ⟨b+1,by omega,by go_num,tj.out,wZ.out⟩
      case measure=>simp [intOf];omega
     ·rw [wv] at xr;have wl:dmB f.blocks b b=true:=wY.out.self b wR (by rw [qY];exact wv)
      have tr:=Jj (wg.congr (M':=λ a b'=>if b'=b then upB f.blocks b (b:Int) a else decide (b'<b) && dmB f.blocks a b') λ a b' _ _=>by
       by_cases e:b'=b
       ·subst e;rw [if_pos rfl];unfold upB;rw [Int.toNat_natCast,decide_eq_false (by omega),decide_eq_false (by omega)];cases dmB f.blocks a b' <;> rfl
       ·rw [if_neg e])
      have wT:=Jj wl;clear wg wh wv wl;(go_upto_region 13 with fail);go_loopg [8] (ord b+1) (λ gk s8 wq=>∃ y:Int,s8=.int .i64 y/\((y=-1/\gk=0)\/∃ q:Nat,q<f.blocks.length/\y=(q:Int)/\dmB f.blocks q b=true/\gk=ord q+1)/\BGr wq G (G+1) f.blocks.length (λ a b'=>if b'=b then upB f.blocks b y a else decide (b'<b) && dmB f.blocks a b')/\FrX (λ y=>G<=y/\y<G+1+f.blocks.length) w6 wq)
      case atStart=>exact ⟨(b:Int),rfl,.inr ⟨b,wR,rfl,wT.out,rfl⟩,tr.out,wZ.out⟩
      case round =>
       obtain ⟨y,rfl,tR,wg,wh⟩:=hrel;have tp:=Jj wg;have wZ:=Jj wh;rcases tR with ⟨rfl,rfl⟩ | ⟨q,hq,rfl,tE,rfl⟩
       ·have tj:=Jj (wg.congr (M':=λ a b'=>decide (b'<b+1) && dmB f.blocks a b') λ a b' _ _=>by
         by_cases e:b'=b
         ·subst e;rw [if_pos rfl];unfold upB;simp
         ·rw [if_neg e];have:decide (b'<b)=decide (b'<b+1):=by rw [decide_eq_decide];omega
          rw [this])
        (have h1:¬ ((-1:Int) ≥ 0):=by decide);clear wg wh;go_wp2_with fail
        go_roundw
        case rel=>exact ⟨b+1,by omega,by go_num,tj.out,wZ.out⟩
        case measure=>simp [intOf];omega
       ·have tW:=Jj (wY.out.up_less wR hq tE);have td:=wg.cells q hq;have xg:=wg.row.cell hq;have xc:=td.cell wR;have xf:=td.frozen b;(have xn:=(wU.out.of_block (wh.block H wU.out.lt (by have:=ww.out;omega))).cell hq);have hHG:H<G:=ww.out.1
        have tN:=Jj ((wg.set q b true).congr (M':=λ a b'=>if b'=b then upB f.blocks b (qZ f.blocks q) a else decide (b'<b) && dmB f.blocks a b') λ a b' ha tf=>by
         by_cases e:b'=b
         ·subst e;simp only [and_true,if_true];exact wY.out.up_step ha tf hq tE
         ·simp only [e,and_false,if_false])
        (have tM:=Jj (wh.setCell (p:=⟨G+1+q,b,none⟩) (.inl (by show G<=G+1+q/\G+1+q<_;omega)) (.bool true)));(have hq0:(0:Int)<=q:=by omega);(have hq1:(q:Int)<f.blocks.length:=by omega);(have hqg:((q:Int) ≥ 0):=by omega);(have hne:H≠G+1+q:=by omega);clear wg wh td;(go_wp2_with fail);rcases tW.out with hz | ⟨p,hp,he,tU,hlt⟩
        ·go_roundg 0
         case measure=>omega
         case rel=>exact ⟨-1,by rw [hz],.inl ⟨rfl,rfl⟩,by rw [<- hz];exact tN.out,tM.out⟩
        ·go_roundg (ord p+1)
         case measure=>omega
         case rel=>exact ⟨(p:Int),by rw [he],.inr ⟨p,hp,rfl,tU,rfl⟩,by rw [<- he];exact tN.out,tM.out⟩
    ·(have tV:b=f.blocks.length:=by omega);subst tV;(have tg:=Jj (wg.congr (M':=dmB f.blocks) λ a b' _ tf=>by rw [decide_eq_true tf];rfl));(have sc:Hid (Below w.heap.size w wo):=Jj (tO.out.trans (wh.below tO.out.size (λ y hy=>by have:=tL.out;omega))));clear wg wh;(go_wp2_with fail);(go_ret);exact ⟨⟨G,G+1,rfl,tL.out,tg.out,ord,wY.out⟩,sc.out⟩
def ahB (D:Nat->Nat->Bool) (m e:Mk):Bool:=if m.b=e.b then decide (m.a<e.a) else decide (0<=m.b) && D m.b.toNat e.b.toNat
set_option maxRecDepth 100000 in
set_option maxHeartbeats 8000000 in
theorem q24 (f:qB) (vf:Value) (w:World) (hf:VFun w vf f) (b:Nat) (k:qE) (hb:f.blocks[b]?=some k) :
  Calls Tryz.prog 119 #[vf,.int .i64 (b:Int)] w λ e w'=>e=.returned (.agg #[.int .i64 (b:Int),.int .i64 (k.ins.length:Int)])/\Below w.heap.size w w':=by
 have wO:=hf;obtain ⟨Ar,cr,Ab,cb,rfl,-,wm,-,-⟩:=hf;have wQ:b<f.blocks.length:=(Jk hb).1;have hbn:=wm.len;obtain ⟨bt,ot,kb,rfl,ww,-,⟨Ai,ci,p1,-⟩,-⟩:=wm.at_ wQ;obtain rfl:k=kb:=J3 (hb.symm.trans ww.out);(have hb0:(0:Int)<=b:=by omega);(have hb1:(b:Int)<f.blocks.length:=by omega);clear wO wm ww hb
 (go_enter Tryz.func119,Tryz.ntmps119);(go_upto_region 1 with fail);obtain ⟨W,hW⟩:∃ W,W=(w.alloc (.cells #[.int .i64 f.params,.int .i64 f.result,.slice Ar f.regs.length cr,.slice (some ⟨bt,ot,none⟩) f.blocks.length cb] 30)).alloc (.cells #[.int .i64 0,.int .i64 0] 90):=⟨_,rfl⟩;obtain ⟨N,hN⟩:∃ N,N=w.heap.size:=⟨_,rfl⟩;obtain ⟨bA,bB,wk,wg⟩:=kN w N hN _ _ W hW;rw [<- hW,<- hN];rw [hN] at wg;have a3:=q6 bA 3;have e0:=q6 bB 0
 have e1:=q6 bB 1;have z0:=qC bB 0;have z1:=qC bB 1;have p1:=q7 wg _ _ p1;have HB:=Jj bB;have wj:=Jj wg;have HN:=Jj hN;clear hW hN bA bB wk wg;go_wp2_with fail
 refine bodyPost_ret (results_cell_row rfl _ _ (N+1) 90 #[.int .i64 b,.int .i64 k.ins.length] (0,0) _ (by rfl) (qK (i:=1) _ (qK (i:=0) _ HB.out)) Tryz.underlying90 (by rfl) (by kernel_rfl)) rfl ?_;exact ⟨rfl,(wj.out.setCell (p:=⟨N+1,0,none⟩) (by show w.heap.size<=N+1;have:=HN.out;omega) _).setCell (p:=⟨N+1,1,none⟩) (by show w.heap.size<=N+1;have:=HN.out;omega) _⟩
set_option maxRecDepth 100000 in
set_option maxHeartbeats 8000000 in
theorem q3o (n G:Nat) (D0:Nat) (D:Nat->Nat->Bool) (m e:Mk) (w:World) (hG:BGr w G D0 n D) (hm:m.b<n) (he:0<=e.b/\e.b<n) (hn:n<=1000) :
  Calls Tryz.prog 82 #[m.v,e.v,.slice (some ⟨G,0,none⟩) n n] w λ en w'=>en=.returned (.bool (ahB D m e))/\Below w.heap.size w w':=by
 obtain ⟨mr,mb,ma⟩:=m;obtain ⟨er,eb,ea⟩:=e;obtain ⟨rr,wl⟩:∃ rr,rr=ahB D ⟨mr,mb,ma⟩ ⟨er,eb,ea⟩:=⟨_,rfl⟩;rw [<- wl];have wu:Hid (rr=if mb=eb then decide (ma<ea) else decide (0<=mb) && D mb.toNat eb.toNat):=Jj wl;clear wl;unfold Mk.v;have hm:mb<n:=hm;have he:0<=eb/\eb<n:=he
 (go_enter Tryz.func82,Tryz.ntmps82);(go_upto_region 1 with fail);obtain ⟨W,hW⟩:∃ W,W=(w.alloc (.cells #[.int .i64 mb,.int .i64 ma] 90)).alloc (.cells #[.int .i64 eb,.int .i64 ea] 90):=⟨_,rfl⟩;obtain ⟨N,hN⟩:∃ N,N=w.heap.size:=⟨_,rfl⟩;obtain ⟨bA,bB,wk,wg⟩:=kN w N hN _ _ W hW;rw [<- hW,<- hN];rw [hN] at wg;have m0:=q6 bA 0;have m1:=q6 bA 1
 have e0:=q6 bB 0;have e1:=q6 bB 1;have hGW:BGr W G D0 n D:=⟨hG.row.of_block (wg.block _ hG.row.lt),λ a ha=>(hG.cells a ha).of_block (wg.block _ (hG.cells a ha).lt),hG.lt⟩;have wM:=Jj hGW;have wj:=Jj wg;clear hW hN bA bB wk wg hG hGW
 by_cases wh:mb=eb
 ·subst wh;(have wh:(mb == mb)=true:=by simp);have HV:Hid (rr=decide (ma<ea)):=Jj (wu.out.trans (if_pos rfl));(go_wp2_with fail);(go_ret);exact ⟨by rw [HV.out];rfl,wj.out⟩
 ·(have hbe':(mb == eb)=false:=by simpa using wh);have HNE:=Jj wh
  by_cases h0:0<=mb
  ·obtain ⟨x,rfl⟩:=Int.eq_ofNat_of_zero_le h0;obtain ⟨y,rfl⟩:=Int.eq_ofNat_of_zero_le he.1;(have hx:x<n:=by omega);(have hy:y<n:=by omega);(have hx1:(x:Int)<n:=by omega);(have hy1:(y:Int)<n:=by omega);have r0:=wM.out.row.cell hx;have r1:=(wM.out.cells x hx).cell hy;have wv:(0:Int)<=x:=by omega
   (have hy0:(0:Int)<=y:=by omega);(have HV:Hid (rr=D x y):=Jj (by rw [wu.out,if_neg wh,decide_eq_true wv];simp));have wJ:decide ((0:Int)<=(x:Nat))=true:=decide_eq_true wv;clear wh he hm h0;(go_wp2_with fail);(go_big_quiet (fail));(go_wp2_with fail);(go_ret);exact ⟨by rw [HV.out];rfl,wj.out.trans ⟨rfl,rfl,rfl,J4 _,λ _ _=>rfl⟩⟩
  ·have wJ:decide ((0:Int)<=mb)=false:=decide_eq_false h0;(have HV:Hid (rr=false):=Jj (by rw [wu.out,if_neg wh,wJ];rfl));clear wh he hm;(go_wp2_with fail);(go_big_quiet (fail));(go_wp2_with fail);(go_ret);exact ⟨by rw [HV.out];rfl,wj.out.trans ⟨rfl,rfl,rfl,J4 _,λ _ _=>rfl⟩⟩
theorem q9A (n:Nat) (hn:n<=1000000):bits BinOp.and IntKind.u64 (n:Int) 4294967295=(n:Int):=by
 have h:=bits_and_u64_nat n 4294967295 (by omega) (by omega);have h2:n &&& 4294967295=n:=by
  have:=Nat.and_two_pow_sub_one_eq_mod n 32;rw [show (2:Nat) ^ 32 - 1=4294967295 by decide] at this;rw [this];exact Nat.mod_eq_of_lt (by omega)
 rw [h2] at h;exact h
set_option maxRecDepth 100000 in
theorem q6k (n:Nat) (w:World) (hn:n<=1000000):Calls Tryz.prog 147 #[.int .u64 1,.int .u64 (n:Int)] w λ e w'=>e=.returned (.tuple #[.int .u64 0,.int .u64 (n:Int)])/\w=w':=by
 (have e1:bits BinOp.and IntKind.u64 1 4294967295=1:=by decide);have e2:=q9A n hn;(have e3:(n:Int) / 4294967296=0:=by omega);(have e4:IntKind.u64.wrap (n:Int)=n:=(by rw [IntKind.wrap_u64];omega));(have e5:IntKind.u64.wrap 0=0:=by decide);(have e6:bits BinOp.and IntKind.u64 0 4294967295=0:=by decide);(go_enter Tryz.func147,Tryz.ntmps147);(go_wp2_with fail);go_ret2
 exact ⟨rfl,rfl⟩
set_option maxRecDepth 100000 in
theorem q8K (n:Nat) (w:World) (hn:n<=1000000):Calls Tryz.prog 139 #[.int .u64 1,.int .u64 (n:Int)] w λ e w'=>e=.returned (.tuple #[.int .u64 0,.int .u64 (n:Int)])/\w=w':=by
 (go_enter Tryz.func139,Tryz.ntmps139);(go_wp2_with (go_at_call 147;refine (q6k n _ hn).mono ?_;rintro e w' ⟨rfl,rfl⟩));(go_ret2);exact ⟨rfl,rfl⟩
theorem jj {B:Nat} {a:World} (b:Nat) (hb:B<=b):∀ (vs:List Value) (o:Nat) {w:World},Below B a w->Below B a (w.setCells b o vs)
 | [],_,_,h=>h
 | v::r,o,_,h=>jj b hb r (o+1) (h.setCell (p:=⟨b,o,none⟩) hb v)
theorem q2L {P:Program} (w:World) {o:Oper} {a:Act} {K:Act->World->Prop} {Q:Exit->Act->World->Prop} (d s:Operand) (t t':TypeId)
  (ho:o.op=.call { callee:=.builtin .copy,args:=#[d,s],argTypes:=#[t,t'] }) (v u:Value) (hd:a.eval d=v) (hs:a.eval s=u) {v':Value} {w':World}
  (hr:(Builtin.copy_ #[t,t'] o.type #[v,u]).run P w=.ok v' w') (h:K (a.put o.dst v') w'):o.wp P a w K Q:=by
 unfold Oper.wp execOp;simp only [ho,resolve,invoke,builtin,Sem.run_bind,Sem.run_pure,Result.andThen_ok,List.map_toArray,List.map_cons,List.map_nil,hd,hs,hr];exact h
theorem xO {G n:Nat} {e:TypeId} (F:Nat->Value):∀ (k o:Nat) {w:World} {V:Nat->Value},w.rowIs G e n V->(w.setCells G o ((List.range' o k).map F)).rowIs G e n (λ j=>if o<=j/\j<o+k then F j else V j)
 | 0,o,w,V,h=>by
  refine (show (w.setCells G o ((List.range' o 0).map F)).rowIs G e n V from h).congr λ j _=>?_;rw [if_neg (by omega)]
 | k+1,o,w,V,h=>by
  rw [List.range'_succ,List.map_cons];refine (show (w.setCells G o (F o::(List.range' (o+1) k).map F)).rowIs G e n _ from xO F k (o+1) (h.set o (F o))).congr λ j _=>?_
  by_cases e1:j=o
  ·subst e1;rw [if_neg (by omega),if_pos rfl,if_pos (by omega)]
  ·by_cases e2:o+1<=j/\j<o+1+k
   ·rw [if_pos e2,if_pos (by omega)]
   ·rw [if_neg e2,if_neg e1,if_neg (by omega)]
theorem jg {P:Program} (w:World) (dT sT ty elem:TypeId) (b o dLen dCap:Nat) (a:Addr) (sLen sCap:Nat) (cs:List Value)
  (hu:P.underlying dT=some (.slice elem)) (hs:(P.info? elem).map (·.size)=some 2) (hn:cs.length=Nat.min sLen dLen * 2)
  (wj:∀ j v,cs[j]?=some v->w.cell? (a.add j)=some v) (hc:∀ j,j<cs.length->(w.cell? ⟨b,o+j,none⟩).isSome=true) (hf:∀ j,j<cs.length->w.frozen? ⟨b,o+j,none⟩=false) (h1:∀ v∈cs,v.oneCell'=true) :
  (Builtin.copy_ #[dT,sT] ty #[.slice (some ⟨b,o,none⟩) dLen dCap,.slice (some a) sLen sCap]).run P w=.ok (goInt (Nat.min sLen dLen)) (w.setCells b o cs):=by
 have hl:=run_loadCells_list (P:=P) w a cs wj;have wZ:=run_storeCells_cells (P:=P) b o cs 0 w (by simpa using hc) (by simpa using hf) h1;cases hq:P.info? elem with
 | none=>simp [hq] at hs
 | some i =>
  (have hi:i.size=2:=by simpa [hq] using hs);simp [Builtin.copy_,run_underlying hu,Builtin.lenOf,Builtin.firstCells,sizeOf,typeInfo,hq,hi,<- hn,hl,wZ]
def mkC (b a:Int) (j:Nat):Value:=if j % 2=0 then .int .i64 b else .int .i64 a
theorem q5z {P:Program} (t ty e:TypeId) (hu:P.underlying t=some (.slice e)) (hs:(P.info? e).map (·.size)=some 2) {w:World} {G n k d:Nat} {V:Nat->Value} (h:w.rowIs G e (2 * n) V) {b a:Int} {H c c':Nat} (wv:k+d<=n)
  (wj:∀ j,j<2 * d->w.cell? ⟨H,j,none⟩=some (mkC b a j)) (sl dl:Nat) (wk:Nat.min sl dl=d) :
  ∃ w',(Builtin.copy_ #[t,t] ty #[.slice (some ⟨G,k * 2,none⟩) dl c,.slice (some ⟨H,0,none⟩) sl c']).run P w=.ok (.int .i64 (d:Int)) w' /\
   w'.rowIs G e (2 * n) (λ j=>if 2 * k<=j/\j<2 * k+2 * d then mkC b a j else V j)/\∀ B a,B<=G->Below B a w->Below B a w':=by
 have wW:∀ j v,((List.range' (k * 2) (2 * d)).map (mkC b a))[j]?=some v->j<2 * d/\v=mkC b a j:=λ j v hj=>by
  rw [List.getElem?_map] at hj
  by_cases wU:j<2 * d
  ·rw [List.getElem?_range' wU] at hj;refine ⟨wU,?_⟩;(have:mkC b a (k * 2+1 * j)=v:=by simpa using hj);(rw [<- this];unfold mkC);rw [show (k * 2+1 * j) % 2=j % 2 by omega]
  ·rw [List.getElem?_eq_none (by simp;omega)] at hj;cases hj
 refine ⟨w.setCells G (k * 2) ((List.range' (k * 2) (2 * d)).map (mkC b a)),?_,?_,λ B a hB hw=>jj G hB _ _ hw⟩
 ·have:=jg (P:=P) w t t ty e G (k * 2) dl c ⟨H,0,none⟩ sl c' ((List.range' (k * 2) (2 * d)).map (mkC b a)) hu hs (by rw [List.length_map,List.length_range',wk];omega)
   (λ j v hj=>by
    obtain ⟨h1,rfl⟩:=wW j v hj
    rw [show (⟨H,0,none⟩:Addr).add j=⟨H,j,none⟩ by unfold Addr.add;simp <;> omega];exact wj j h1)
   (λ j hj=>by rw [List.length_map,List.length_range'] at hj;rw [h.cell (by omega)];rfl) (λ j _=>h.frozen _)
   (λ v hv=>by obtain ⟨j,hj⟩:=List.mem_iff_getElem?.1 hv;obtain ⟨-,rfl⟩:=wW j v hj;unfold mkC;split <;> rfl)
  rw [wk] at this;exact this
 ·refine (xO (mkC b a) (2 * d) (k * 2) h).congr λ j _=>?_;rw [show k * 2=2 * k by omega]
theorem q3F {P:Program} (t e:TypeId) (ht:P.underlying t=some (.slice e)) (wm:(P.info? e).map (λ i=>(i.zero,i.size,i.bytes))=some (some (.agg #[.int .i64 0,.int .i64 0]),2,16))
  (kl kc:IntKind) (n:Nat) (hn:n<=1000000) (w:World) :
  (Instr.makeSlice t (.int kl (n:Int)) (.int kc (n:Int))).run P w=.ok (.slice (some ⟨w.heap.size,0,none⟩) n n) (w.alloc (.cells (madeCells #[.int .i64 0,.int .i64 0] (n * 2)) e)):=by
 obtain ⟨i,hi,wT⟩:=Option.map_eq_some_iff.1 wm;simp only [Prod.mk.injEq] at wT;obtain ⟨hz,hs,hb⟩:=wT;(have hr:=run_make (P:=P) w t e i _ ht hi hz kl kc n n (by omega) (Int.le_refl _) (by rw [hb];omega) (by omega));simp only [Int.toNat_natCast,hs] at hr;exact hr
theorem q3G (w:World) (n:Nat) (t:TypeId):(w.alloc (.cells (madeCells #[.int .i64 0,.int .i64 0] (n * 2)) t)).rowIs w.heap.size t (2 * n) (λ _=>.int .i64 0) :=
 ⟨_,blk_alloc_new _ _,by rw [size_madeCells];omega,λ i hi=>by
  (have h2:i % 2=0\/i % 2=1:=by omega);simp only [madeCells];(have hr:(Array.range (n * 2))[i]?=some i:=by rw [Array.getElem?_eq_getElem (by simp;omega)];simp);rw [Array.getElem?_map,hr]
  rcases h2 with h2 | h2 <;> simp [h2]⟩
def qBI (n:Nat) (b a:Int) (w:World) (e:Ending) (w':World):Prop :=
 (∃ G,e=.returned (.slice (some ⟨G,0,none⟩) n n)/\w.heap.size<=G/\w'.rowIs G 90 (2 * n) (mkC b a))/\Below w.heap.size w w'
theorem q8s {P:Program} (t ty e:TypeId) (hu:P.underlying t=some (.slice e)) (hs:(P.info? e).map (·.size)=some 2) (w:World) (G c:Nat) (A:Addr) (c':Nat) :
  (Builtin.copy_ #[t,t] ty #[.slice (some ⟨G,0,none⟩) 0 c,.slice (some A) 1 c']).run P w=.ok (.int .i64 ((0:Nat):Int)) w:=by
 have h:=jg (P:=P) w t t ty e G 0 0 c A 1 c' [] hu hs (by simp) (λ j v hj=>by simp at hj) (λ j hj=>by simp at hj) (λ j hj=>by simp at hj) (λ v hv=>by cases hv);exact h
set_option maxRecDepth 100000 in
set_option maxHeartbeats 4000000 in
theorem q2R (n H c:Nat) (b a:Int) (w:World) (wR:w.cell? ⟨H,0,none⟩=some (.int .i64 b)) (wQ:w.cell? ⟨H,1,none⟩=some (.int .i64 a)) (hn:n<=1000000):Calls Tryz.prog 117 #[.slice (some ⟨H,0,none⟩) 1 c,.int .i64 (n:Int)] w (qBI n b a w):=by
 have wO:=q3F (P:=Tryz.prog) 131 90 Tryz.underlying131 (by kernel_rfl) .i64 .i64 n hn;(have e4:IntKind.u64.wrap (n:Int)=n:=(by rw [IntKind.wrap_u64];omega));(have wJ:(Tryz.prog.info? 90).map (·.size)=some 2:=by kernel_rfl);obtain ⟨W0,hW0⟩:∃ W0,w.alloc (.cells (madeCells #[.int .i64 0,.int .i64 0] (n * 2)) 90)=W0:=⟨_,rfl⟩;(have wu:Below w.heap.size w W0:=by rw [<- hW0];exact (J5 _ _).alloc (J4 _) _);have wM:W0.rowIs w.heap.size 90 (2 * n) (λ j=>if j<2 * 0 then mkC b a j else .int .i64 0):=by
  rw [<- hW0];exact (q3G w n 90).congr λ j _=>by simp
 have wV:∀ j,j<2 * 1->W0.cell? ⟨H,j,none⟩=some (mkC b a j):=λ j hj=>by
  rcases (show j=0\/j=1 by omega) with rfl | rfl
  ·exact (wu.cell (p:=⟨H,0,none⟩) (World.block_lt_of_cell? w _ wR)).trans wR
  ·exact (wu.cell (p:=⟨H,1,none⟩) (World.block_lt_of_cell? w _ wQ)).trans wQ
 obtain ⟨k,w1,hr,wv,wl,wg,hB⟩:∃ (k:Nat) (w1:World),(Builtin.copy_ #[131,131] 3 #[.slice (some ⟨w.heap.size,0,none⟩) n n,.slice (some ⟨H,0,none⟩) 1 c]).run Tryz.prog W0=.ok (.int .i64 (k:Int)) w1/\k<=n/\(n=0\/1<=k)/\w1.rowIs w.heap.size 90 (2 * n) (λ j=>if j<2 * k then mkC b a j else .int .i64 0)/\Below w.heap.size w w1:=by
  by_cases h0:n=0
  ·subst h0;exact ⟨0,W0,q8s 131 3 90 Tryz.underlying131 wJ W0 _ 0 _ c,J4 _,.inl rfl,wM,wu⟩
  ·(obtain ⟨w1,h1,h2,h3⟩:=q5z (P:=Tryz.prog) 131 3 90 Tryz.underlying131 wJ wM (k:=0) (d:=1) (b:=b) (a:=a) (H:=H) (c:=n) (c':=c) (by omega) wV 1 n (by show min 1 n=1;omega));exact ⟨1,w1,h1,by omega,.inr (J4 _),h2.congr λ j _=>by by_cases e:j<2 * 1;rw [if_pos (by omega),if_pos e];rw [if_neg (by omega),if_neg e,if_neg (by omega)],h3 _ _ (J4 _) wu⟩
 have HR:=Jj wg;have HB:=Jj hB;have wY:=Jj wl;clear wg hB wl wu wM wV wR wQ wJ;(go_enter Tryz.func117,Tryz.ntmps117);(go_wp2_with (first | (go_at_call 139;refine (q8K n _ hn).mono ?_;rintro e w' ⟨rfl,rfl⟩) | (at_builtin;rw [hW0];refine wpList_copy_runs _ rfl (.tmp 31) (.tmp 32) 131 131 rfl _ _ rfl rfl hr ?_)));clear hr wO e4 hW0;obtain ⟨G,hG⟩:∃ G,G=w.heap.size:=⟨_,rfl⟩;have HG:=Jj hG
 rw [<- hG] at HR HB ⊢;clear hG
 go_loopw [8] (λ m wr=>∃ k:Nat,k<=n/\m=.int .i64 k/\(n=0\/1<=k)/\wr.rowIs G 90 (2 * n) (λ j=>if j<2 * k then mkC b a j else .int .i64 0)/\Below G w wr) (λ m _=>n - (intOf m).toNat)
 case atStart=>exact ⟨k,wv,rfl,wY.out,HR.out,HB.out⟩
 case round =>
  clear wv HR HB wY;obtain ⟨k,wv,rfl,wl,wg,ww⟩:=hrel
  by_cases hlt:k<n
  ·have hk1:1<=k:=by omega
   obtain ⟨w2,ta,wh,wX⟩:=q5z (P:=Tryz.prog) 131 3 90 Tryz.underlying131 (by kernel_rfl) (w:=wr.drew) (show wr.drew.rowIs G 90 (2 * n) _ from wg) (k:=k) (d:=min k (n - k)) (b:=b) (a:=a) (H:=G) (c:=n - k) (c':=n) (by omega) (λ j hj=>by
    have:=World.rowIs.cell wg (i:=j) (by omega)
    rw [if_pos (by omega)] at this;exact this) k (n - k) rfl
   have HX:Hid (w2.rowIs G 90 (2 * n) (λ j=>if j<2 * (k+min k (n - k)) then mkC b a j else .int .i64 0)/\Below G w w2):=Jj ⟨wh.congr λ j _=>by
    by_cases e:j<2 * k
    ·rw [if_neg (by omega),if_pos e,if_pos (by omega)]
    ·by_cases e2:j<2 * (k+min k (n - k))
     ·rw [if_pos (by omega),if_pos e2]
     ·rw [if_neg (by omega),if_neg e,if_neg e2],wX _ _ (J4 _) ww.drew⟩
   (have hnk:¬ (n=k):=by omega);clear wh wX wg ww wl;(have e1:IntKind.i64.wrap ((k:Int)+((min k (n - k):Nat):Int))=((k+min k (n - k):Nat):Int):=by rw [Go.IntWalk.i64_in _ (by omega)];omega);have E1:=Jj e1;clear e1;(go_wp2_with fail);refine qS (L:=9) (S:=λ w'=>True) (by kernel_rfl) (by rfl) (by kernel_rfl) (by kernel_rfl) ?_;change wpAnyH _ _ _ _ _ _ _ _ (World.drew _);refine tk 0 38 trivial ?_
   simp only [J6,aS,J1,J2];refine tk 1 39 trivial ?_;simp only [J6,aS,J1,J2];refine tk 2 40 trivial ?_;simp only [J6,aS,J1,J2];refine tk 3 41 trivial ?_;simp only [J6,aS,J1,J2];refine tk 4 42 trivial ?_;simp only [J6,aS,J1,J2]
   refine tk 5 43 trivial ?_;simp only [J6,aS,J1,J2];refine tk 6 44 trivial ?_;simp only [J6,aS,J1,J2];refine zk (i:=7) (by kernel_rfl) (λ o ho K' hK=>?_);(simp only [JZ,JX,JY,J0] at ho;subst ho);refine q2L _ (.tmp 41) (.tmp 44) 131 131 (by rfl) _ _ (by rfl) (by rfl) ta ?_;refine hK.out _ _ trivial ?_;clear hK K'
   simp only [J6,aS,J1,J2];refine tk 8 46 trivial ?_;simp only [J6,aS,J1,J2];refine wpAnyH_done (by kernel_rfl) ?_ _;refine vL (by decide) (λ o ho K' hK=>?_);(simp only [JZ,JX,JY,J0] at ho;subst ho);(go_simp);refine hK.out _ _ ?_;clear hK K'
   go_wp2_with fail
   go_roundw
   case rel=>exact ⟨k+min k (n - k),by omega,by rw [<- E1.out],.inr (by omega),HX.out.1,HX.out.2⟩
   case measure=>simp only [intOf];have:=E1.out;simp;omega
  ·(obtain rfl:k=n:=by omega);have HX:=Jj (And.intro wg ww);clear wg ww wl;(go_wp2_with fail);(go_ret);exact ⟨⟨G,rfl,by rw [HG.out];exact J4 _,HX.out.1.congr λ j hj=>by rw [if_pos (by omega)]⟩,by rw [<- HG.out];exact HX.out.2⟩
theorem xx {P:Program} {f:FuncId} {fn:Func} {c:Code} (hf:P.funcs[f]?=some fn) (wu:(fn.name == "runtime.NumGoroutine")=false) (hb:fn.body=some c) (args:Array Value) (w:World) :
  (callFunc f args).run P w=.ok (.enter f args) w:=by
 (have h1:fn.name≠"runtime.NumGoroutine":=by simpa using wu);simp [callFunc,hf,h1,hb]
structure AgP (n GM GA BM BA:Nat) (l:List Mk) (w:World):Prop where
 m:w.rowIs GM 4 n (λ j=>.bool (decide (0<vN l j)))
 a:w.rowIs GA 4 n (λ j=>.bool (decide (2<=vN l j)))
 bm:w.heap[BM]?=some (.cells #[.slice (some ⟨GM,0,none⟩) n n] 64)
 ba:w.heap[BA]?=some (.cells #[.slice (some ⟨GA,0,none⟩) n n] 64)
theorem AgP.below {n GM GA BM BA:Nat} {l:List Mk} {w w':World} (h:AgP n GM GA BM BA l w) (hb:Below w.heap.size w w'):AgP n GM GA BM BA l w' :=
 ⟨h.m.of_block (hb.block _ h.m.lt),h.a.of_block (hb.block _ h.a.lt),(hb.block _ (qW h.bm)).trans h.bm,(hb.block _ (qW h.ba)).trans h.ba⟩
set_option maxRecDepth 100000 in
set_option maxHeartbeats 8000000 in
theorem q5V {n GM GA BM BA:Nat} {l:List Mk} {w:World} (e:Mk) (h:AgP n GM GA BM BA l w) (hMA:GM≠GA) (hMB:GM≠BM) (hMC:GM≠BA) (hAB:GA≠BM) (hAC:GA≠BA) (wm:0<=e.r) (wl:e.r<n) :
  Calls Tryz.prog 77 #[.int .i64 e.r,e.v,.pointer (some ⟨BM,0,none⟩),.pointer (some ⟨BA,0,none⟩)] w λ en w'=>en=.returned (.tuple #[])/\AgP n GM GA BM BA (l++[e]) w'/\FrX (λ b=>b=GM\/b=GA) w w':=by
 obtain ⟨r,b,a⟩:=e;obtain ⟨k,rfl⟩:=Int.eq_ofNat_of_zero_le (show (0:Int)<=r from wm);(have wv:k<n:=by have:((k:Nat):Int)<n:=wl;omega);(have wR:((k:Nat):Int)<n:=by omega);(have wT:(0:Int)<=k:=by omega);unfold Mk.v;have H:=Jj h;clear h wm wl;go_enter Tryz.func77,Tryz.ntmps77
 (go_upto_region 1 with fail);obtain ⟨w1,wk,wJ,wh,wg,wj,-⟩:=named w #[.int .i64 b,.int .i64 a] 90;rw [<- wk];have h1:=H.out.below wg;have m0:=h1.m.cell wv;have a0:=h1.a.cell wv;have m1:=h1.m.frozen k;have a1:=h1.a.frozen k;have d0:=q6 h1.bm 0
 have e0:=q6 h1.ba 0;have H1:=Jj h1;have ww:=Jj wg;clear wk wJ wh wg wj h1;(go_region);have hM2:=((H1.out.m.setOther (a:=⟨GA,k,none⟩) hMA (.bool (decide (0<vN l k)))).set k (.bool true)).drew;have hA2:=((H1.out.a.set k (.bool (decide (0<vN l k)))).setOther (a:=⟨GM,k,none⟩) (Ne.symm hMA) (.bool true)).drew;have wO:=(JQ (w1.setCell ⟨GA,k,none⟩ (.bool (decide (0<vN l k)))) ⟨GM,k,none⟩ (.bool true) BM (λ e=>hMB e.symm)).trans ((JQ w1 ⟨GA,k,none⟩ (.bool (decide (0<vN l k))) BM (λ e=>hAB e.symm)).trans H1.out.bm);have wQ:=(JQ (w1.setCell ⟨GA,k,none⟩ (.bool (decide (0<vN l k)))) ⟨GM,k,none⟩ (.bool true) BA (λ e=>hMC e.symm)).trans ((JQ w1 ⟨GA,k,none⟩ (.bool (decide (0<vN l k))) BA (λ e=>hAC e.symm)).trans H1.out.ba)
 have HE:Hid (AgP n GM GA BM BA (l++[⟨((k:Nat):Int),b,a⟩]) ((w1.setCell ⟨GA,k,none⟩ (.bool (decide (0<vN l k)))).setCell ⟨GM,k,none⟩ (.bool true)).drew/\FrX (λ b=>b=GM\/b=GA) w ((w1.setCell ⟨GA,k,none⟩ (.bool (decide (0<vN l k)))).setCell ⟨GM,k,none⟩ (.bool true)).drew):=Jj
  ⟨⟨hM2.congr λ j _=>by
    rw [xL]
    by_cases e:j=k
    ·subst e;simp
    ·rw [if_neg e,if_neg (by show ¬ ((k:Nat):Int)=(j:Int);omega),Nat.add_zero],
   hA2.congr λ j _=>by
    rw [xL]
    by_cases e:j=k
    ·subst e;simp;omega
    ·rw [if_neg e,if_neg (by show ¬ ((k:Nat):Int)=(j:Int);omega),Nat.add_zero],wO,wQ⟩,
   ((((FrX.refl _ w).trans (FrX.of_below ww.out)).setCell (p:=⟨GA,k,none⟩) (.inl (.inr rfl)) _).setCell (p:=⟨GM,k,none⟩) (.inl (.inl rfl)) _).drew⟩
 clear hM2 hA2 wO wQ;(go_end0);exact ⟨rfl,HE.out.1,HE.out.2⟩
def mkF (l:List Mk) (j:Nat):Value:=if j % 2=0 then .int .i64 (yy l (j / 2)).b else .int .i64 (yy l (j / 2)).a
structure MkP (n GM GR BM BR:Nat) (l:List Mk) (w:World):Prop where
 m:w.rowIs GM 4 n (λ j=>.bool (decide (0<vN l j)))
 r:w.rowIs GR 90 (2 * n) (mkF l)
 bm:w.heap[BM]?=some (.cells #[.slice (some ⟨GM,0,none⟩) n n] 64)
 br:w.heap[BR]?=some (.cells #[.slice (some ⟨GR,0,none⟩) n n] 131)
theorem MkP.below {n GM GR BM BR:Nat} {l:List Mk} {w w':World} (h:MkP n GM GR BM BR l w) (hb:Below w.heap.size w w'):MkP n GM GR BM BR l w' :=
 ⟨h.m.of_block (hb.block _ h.m.lt),h.r.of_block (hb.block _ h.r.lt),(hb.block _ (qW h.bm)).trans h.bm,(hb.block _ (qW h.br)).trans h.br⟩
set_option maxRecDepth 100000 in
set_option maxHeartbeats 8000000 in
theorem q50 {n GM GR BM BR:Nat} {l:List Mk} {w:World} (e:Mk) (h:MkP n GM GR BM BR l w) (hMA:GM≠GR) (hMB:GM≠BM) (hMC:GM≠BR) (hAB:GR≠BM) (hAC:GR≠BR) (wm:0<=e.r) (wl:e.r<n) (hn:n<=1000000) :
  Calls Tryz.prog 118 #[.int .i64 e.r,e.v,.pointer (some ⟨BM,0,none⟩),.pointer (some ⟨BR,0,none⟩)] w λ en w'=>en=.returned (.tuple #[])/\MkP n GM GR BM BR (l++[e]) w'/\FrX (λ b=>b=GM\/b=GR) w w':=by
 obtain ⟨r,b,a⟩:=e;obtain ⟨k,rfl⟩:=Int.eq_ofNat_of_zero_le (show (0:Int)<=r from wm);(have wv:k<n:=by have:((k:Nat):Int)<n:=wl;omega);(have wR:((k:Nat):Int)<n:=by omega);(have wT:(0:Int)<=k:=by omega);unfold Mk.v;have H:=Jj h;clear h wm wl;go_enter Tryz.func118,Tryz.ntmps118
 (go_upto_region 1 with fail);obtain ⟨w1,wk,wJ,wh,wg,wj,-⟩:=named w #[.int .i64 b,.int .i64 a] 90;rw [<- wk];obtain ⟨N,hN⟩:∃ N,N=w.heap.size:=⟨_,rfl⟩;rw [<- hN] at wj ⊢;have x0:=wj 0 _ rfl;have x1:=wj 1 _ rfl;have h1:=H.out.below wg;have m0:=h1.m.cell wv
 have m1:=h1.m.frozen k;have r0:=h1.r.cell (i:=k * 2) (by omega);have r1:=h1.r.cell (i:=k * 2+1) (by omega);have z0:=h1.r.frozen (k * 2);have z1:=h1.r.frozen (k * 2+1);have d0:=q6 h1.bm 0;have e0:=q6 h1.br 0;have H1:=Jj h1;have ww:=Jj wg
 clear wk wJ wh wg wj h1 hN
 by_cases hc:0<vN l k
 ·have hd:decide (0<vN l k)=true:=decide_eq_true hc;rw [hd] at m0
  have HE:Hid (MkP n GM GR BM BR (l++[⟨((k:Nat):Int),b,a⟩]) w1):=Jj ⟨H1.out.m.congr λ j _=>by
    rw [xL]
    by_cases e:j=k
    ·subst e;rw [decide_eq_true hc,decide_eq_true (by omega)]
    ·rw [if_neg (by show ¬ ((k:Nat):Int)=(j:Int);omega),Nat.add_zero],
   H1.out.r.congr λ j _=>by
    unfold mkF;have hf:yy (l++[⟨((k:Nat):Int),b,a⟩]) (j / 2)=yy l (j / 2):=by
     by_cases e:j / 2=k
     ·exact q0v (.inl (by rw [e];exact hc))
     ·exact q0v (.inr (by show ¬ ((k:Nat):Int)=((j / 2:Nat):Int);omega))
    rw [hf],H1.out.bm,H1.out.br⟩
  clear r0 r1 hc hd;(go_wp2_with fail);(go_end0);exact ⟨rfl,HE.out,FrX.of_below ww.out⟩
 ·have hd:decide (0<vN l k)=false:=decide_eq_false hc;rw [hd] at m0;have HC:=Jj hc;clear hc hd;(go_upto_region 2 with fail);(go_region);have hM2:=(((H1.out.m.setOther (a:=⟨GR,k * 2,none⟩) hMA (.int .i64 b)).setOther (a:=⟨GR,k * 2+1,none⟩) hMA (.int .i64 a)).set k (.bool true)).drew;have hR2:=(((H1.out.r.set (k * 2) (.int .i64 b)).set (k * 2+1) (.int .i64 a)).setOther (a:=⟨GM,k,none⟩) (Ne.symm hMA) (.bool true)).drew;have wM:∀ B,B≠GR->B≠GM->(((w1.setCell ⟨GR,k * 2,none⟩ (.int .i64 b)).setCell ⟨GR,k * 2+1,none⟩ (.int .i64 a)).setCell ⟨GM,k,none⟩ (.bool true)).drew.heap[B]?=w1.heap[B]?:=λ B h1 h2 =>
   (JQ ((w1.setCell ⟨GR,k * 2,none⟩ (.int .i64 b)).setCell ⟨GR,k * 2+1,none⟩ (.int .i64 a)) ⟨GM,k,none⟩ (.bool true) B h2).trans ((JQ (w1.setCell ⟨GR,k * 2,none⟩ (.int .i64 b)) ⟨GR,k * 2+1,none⟩ (.int .i64 a) B h1).trans (JQ w1 ⟨GR,k * 2,none⟩ (.int .i64 b) B h1))
  have HE:Hid (MkP n GM GR BM BR (l++[⟨((k:Nat):Int),b,a⟩]) (((w1.setCell ⟨GR,k * 2,none⟩ (.int .i64 b)).setCell ⟨GR,k * 2+1,none⟩ (.int .i64 a)).setCell ⟨GM,k,none⟩ (.bool true)).drew/\FrX (λ b=>b=GM\/b=GR) w (((w1.setCell ⟨GR,k * 2,none⟩ (.int .i64 b)).setCell ⟨GR,k * 2+1,none⟩ (.int .i64 a)).setCell ⟨GM,k,none⟩ (.bool true)).drew):=Jj
   ⟨⟨hM2.congr λ j _=>by
     rw [xL]
     by_cases e:j=k
     ·subst e;simp
     ·rw [if_neg e,if_neg (by show ¬ ((k:Nat):Int)=(j:Int);omega),Nat.add_zero],
    hR2.congr λ j _=>by
     unfold mkF
     by_cases e:j / 2=k
     ·rw [e,q8d HC.out rfl];rcases (show j=k * 2\/j=k * 2+1 by omega) with rfl | rfl
      ·rw [if_neg (by omega),if_pos rfl,if_pos (by omega)]
      ·rw [if_pos rfl,if_neg (by omega)]
     ·rw [q0v (.inr (by show ¬ ((k:Nat):Int)=((j / 2:Nat):Int);omega)),if_neg (by omega),if_neg (by omega)],(wM BM (Ne.symm hAB) (Ne.symm hMB)).trans H1.out.bm,(wM BR (Ne.symm hAC) (Ne.symm hMC)).trans H1.out.br⟩,
    (((((FrX.refl _ w).trans (FrX.of_below ww.out)).setCell (p:=⟨GR,k * 2,none⟩) (.inl (.inr rfl)) _).setCell (p:=⟨GR,k * 2+1,none⟩) (.inl (.inr rfl)) _).setCell (p:=⟨GM,k,none⟩) (.inl (.inl rfl)) _).drew⟩
  clear hM2 hR2 wM;(go_end0);exact ⟨rfl,HE.out.1,HE.out.2⟩
end Go.Proofs.YtfoggldjjnabcaaGreatDoor
