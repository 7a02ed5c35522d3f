/- The program's madeAgain and Makers: what they tell. -/
import Derived.Test.YtfoggldjjnabcaaGreatDoorModAK
import Derived.Test.YtfoggldjjnabcaaGreatDoorPpBK
import Derived.Deep.RegionHeld3
import Derived.RowKit
import Derived.IntWalk
import Derived.Laws.BitsAll
import Derived.Laws.Bits64
import Derived.Laws.Bits64b
import Derived.Test.YtfoggldjjnabcaaGreatDoorAheadGK
set_option linter.unusedVariables false
set_option linter.unusedSimpArgs false
namespace Go.Proofs.YtfoggldjjnabcaaGreatDoor
open Go.ChangeShapes Go.WideShapes Go.RowKit Go.Deep
theorem qA9 {w W:World} {o0 o1 o2 o3 o4:Obj} (hW:((((w.alloc o0).alloc o1).alloc o2).alloc o3).alloc o4=W) :
  W.heap[w.heap.size]?=some o0/\W.heap[w.heap.size+1]?=some o1/\W.heap[w.heap.size+1+1]?=some o2/\W.heap[w.heap.size+1+1+1]?=some o3/\W.heap[w.heap.size+1+1+1+1]?=some o4/\Below w.heap.size w W:=by
 subst hW;(have hz (u:World) (o:Obj):(u.alloc o).heap.size=u.heap.size+1:=by simp);have hg (u:World) (o:Obj) (k:Nat):(u.alloc o).heap[k]?=if k=u.heap.size then some o else u.heap[k]?:=by
  show (u.heap.push o)[k]?=_;rw [Array.getElem?_push]
 refine ⟨?_,?_,?_,?_,?_,?_⟩
 ·simp only [hg,hz];(repeat rw [if_neg (by omega)]);exact if_pos (by first | trivial | omega)
 ·simp only [hg,hz];(repeat rw [if_neg (by omega)]);exact if_pos (by first | trivial | omega)
 ·simp only [hg,hz];(repeat rw [if_neg (by omega)]);exact if_pos (by first | trivial | omega)
 ·simp only [hg,hz];(repeat rw [if_neg (by omega)]);exact if_pos (by first | trivial | omega)
 ·simp only [hg,hz];exact if_pos (by first | trivial | omega)
 ·refine Below.alloc (Below.alloc (Below.alloc (Below.alloc (Below.alloc (J5 _ _) ?_ _) ?_ _) ?_ _) ?_ _) ?_ _;(all_goals (try simp only [hz]));all_goals omega
def OfNone (w:World):Prop:=w.cell? ⟨1,0,none⟩=some (.int .i64 (-1))/\w.cell? ⟨1,1,none⟩=some (.int .i64 (-2))
theorem OfNone.keep {w w':World} (h:OfNone w) (hk:Kept w w'):OfNone w':=⟨hk _ _ h.1,hk _ _ h.2⟩
def qBK (f:qB) (w:World) (e:Ending) (w':World):Prop :=
 (∃ G,e=.returned (.slice (some ⟨G,0,none⟩) f.regs.length f.regs.length)/\w.heap.size<=G/\w'.rowIs G 4 f.regs.length (λ j=>.bool (decide (2<=vN (evL f) j))))/\Below w.heap.size w w'
set_option maxRecDepth 100000 in
set_option maxHeartbeats 8000000 in
theorem q1R (f:qB) (vf:Value) (w:World) (hf:VFun w vf f) (hn:f.regs.length<=300) (hG:OfNone w):Calls Tryz.prog 38 #[vf] w (qBK f w):=by
 have wQ:=hf;obtain ⟨Ar,cr,Ab,cb,rfl,wX,td,ta,-⟩:=hf;have tf:=Jj wQ;have HG:=Jj hG;have ww:=run_make_row' (P:=Tryz.prog) 64 4 (.bool false) 1 Tryz.underlying64 Tryz.info4 rfl .i64 .i64 f.regs.length (by omega) (by omega);clear wQ wX td ta hG;(go_enter Tryz.func38,Tryz.ntmps38);(go_upto_region 1 with fail);rename_i K aK
 have HK:Hid (∀ (BM BA GM GA:Nat) (W:World),W.heap[BM]?=some (.cells #[.slice (some ⟨GM,0,none⟩) f.regs.length f.regs.length] 64)->W.heap[BA]?=some (.cells #[.slice (some ⟨GA,0,none⟩) f.regs.length f.regs.length] 64) ->
   W.heap[GM]?=some (.cells (madeCells #[.bool false] f.regs.length) 4)->W.heap[GA]?=some (.cells (madeCells #[.bool false] f.regs.length) 4)->W.heap[w.heap.size]?=some (.cells #[.int .i64 f.params,.int .i64 f.result,.slice Ar f.regs.length cr,.slice Ab f.blocks.length cb] 30) ->
   (GM≠GA/\GM≠BM/\GM≠BA/\GA≠BM/\GA≠BA/\w.heap.size<GM/\w.heap.size<GA)->Below w.heap.size w W->K ⟨#[.agg #[.int .i64 f.params,.int .i64 f.result,.slice Ar f.regs.length cr,.slice Ab f.blocks.length cb],.pointer (some ⟨w.heap.size,0,none⟩),.slice none 0 0,.pointer (some ⟨BM,0,none⟩),.pointer (some ⟨BA,0,none⟩),.pointer (some ⟨w.heap.size,2,none⟩),.slice Ar f.regs.length cr,.int .i64 f.regs.length,.slice (some ⟨GM,0,none⟩) f.regs.length f.regs.length,.pointer (some ⟨w.heap.size,2,none⟩),.slice Ar f.regs.length cr,.int .i64 f.regs.length,.slice (some ⟨GA,0,none⟩) f.regs.length f.regs.length,undef,undef,undef,undef],[]⟩ W):=Jj (by
  intro BM BA GM GA W bm ba gm ga bf hd hb;refine aK _ _ ?_;clear aK;obtain ⟨d1,d2,d3,d4,d5,d6,d7⟩:=hd;have f0:=q6 bf 0;have f1:=q6 bf 1;have f2:=q6 bf 2;have f3:=q6 bf 3;have wj:∀ G,W.heap[G]?=some (.cells (madeCells #[.bool false] f.regs.length) 4)->W.rowIs G 4 f.regs.length (λ _=>.bool false):=λ G h=>⟨_,h,size_madeCells _ _,λ i hi=>by simp [madeCells,hi,Nat.mod_one]⟩
  have hP:AgP f.regs.length GM GA BM BA [] W:=⟨(wj _ gm).congr λ j _=>by simp [vN],(wj _ ga).congr λ j _=>by simp [vN],bm,ba⟩;have tc:∀ B,(∃ c,W.heap[B]?=some c)->B<W.heap.size:=λ B ⟨c,h⟩=>(Array.getElem?_eq_some_iff.1 h).1;have HV:Hid (Vis (AgP f.regs.length GM GA BM BA) (λ b=>b=GM\/b=GA) f.regs.length 77 (.pointer (some ⟨BM,0,none⟩)) (.pointer (some ⟨BA,0,none⟩)) W):=Jj
   ⟨xx Tryz.func77 (by kernel_rfl) rfl,λ b hb=>by
    rcases hb with rfl | rfl
    ·exact tc _ ⟨_,gm⟩
    ·exact tc _ ⟨_,ga⟩,λ l u u' h h2=>h.below h2,λ l e u hp hx h0 h1=>q5V e hp d1 d2 d3 d4 d5 h0 h1⟩
  (have hKW:∀ w',FrX (λ b=>b=GM\/b=GA) W w'->Below w.heap.size w w':=λ w' h=>hb.trans (h.below hb.size (λ k hk=>by rcases hk with rfl | rfl <;> omega)));have tj:=Jj (kM f _ w W HV.out tf.out (λ w' h=>q7 (hKW w' h)) (λ w' h=>HG.out.keep (q7 (hKW w' h))) hP);have th:=Jj hKW;have HD:=Jj (And.intro d6 d7);clear bm gm ga wj hP tc hKW d1 d2 d3 d4 d5 d6 d7 hb;(go_wp2_with fail);refine tj.out.mono ?_;rintro e w2 ⟨rfl,wZ,tq⟩;have b1:=q6 wZ.ba 0
  have tL:=Jj wZ;have tJ:=Jj (th.out _ tq);clear wZ tq f0 f1 f2 f3 ba bf;(go_wp2_with fail);go_ret
  exact ⟨⟨GA,rfl,by have:=HD.out;omega,tL.out.a⟩,tJ.out⟩)
 clear aK;(go_region);all_goals
  generalize hW:World.alloc (World.alloc (World.alloc (World.alloc (World.alloc w _) _) _) _) _=W;obtain ⟨b0,b1,b2,b3,b4,hb⟩:=qA9 hW;clear hW;refine HK.out _ _ _ _ _ ?_ ?_ ?_ ?_ ?_ ?_ ?_
  ·first | exact b1 | exact b2 | exact b3 | exact b4
  ·first | exact b1 | exact b2 | exact b3 | exact b4
  ·first | exact b1 | exact b2 | exact b3 | exact b4
  ·first | exact b1 | exact b2 | exact b3 | exact b4
  ·exact b0
  ·clear b0 b1 b2 b3 b4;omega
  ·exact hb.drew
def q6A (f:qB) (w:World) (e:Ending) (w':World):Prop :=
 (∃ G,e=.returned (.slice (some ⟨G,0,none⟩) f.regs.length f.regs.length)/\w.heap.size<=G/\w'.rowIs G 90 (2 * f.regs.length) (mkF (evL f)))/\Below w.heap.size w w'
set_option maxRecDepth 100000 in
set_option maxHeartbeats 8000000 in
theorem q4z (f:qB) (vf:Value) (w:World) (hf:VFun w vf f) (hn:f.regs.length<=300) (hG:OfNone w):Calls Tryz.prog 78 #[vf] w (q6A f w):=by
 have wQ:=hf;obtain ⟨Ar,cr,Ab,cb,rfl,wX,td,ta,-⟩:=hf;have tf:=Jj wQ;have HG:=Jj hG;have ww:=run_make_row' (P:=Tryz.prog) 64 4 (.bool false) 1 Tryz.underlying64 Tryz.info4 rfl .i64 .i64 f.regs.length (by omega) (by omega);have tN:=Jj ww;clear wQ wX td ta hG ww;(go_enter Tryz.func78,Tryz.ntmps78);go_upto_region 1 with fail
 obtain ⟨w1,tr,tF,tw,wl,wv,-⟩:=named w #[.int .i64 f.params,.int .i64 f.result,.slice Ar f.regs.length cr,.slice Ab f.blocks.length cb] 30;rw [<- tr];obtain ⟨N,hN⟩:∃ N,N=w.heap.size:=⟨_,rfl⟩;rw [<- hN] at wv ⊢;have f0:=wv 0 _ rfl;have f1:=wv 1 _ rfl;have f2:=wv 2 _ rfl;have f3:=wv 3 _ rfl;obtain ⟨z0,z1⟩:=HG.out.keep tw
 have wT:=Jj wl;have HN:=Jj hN;(have hNw:N<w1.heap.size:=by omega);have f2:w1.cell? ⟨N,2,none⟩=some (.slice Ar f.regs.length cr):=f2;obtain ⟨w2,wu⟩:∃ w2,w2=w1.alloc (.cells #[.int .i64 (-1),.int .i64 (-2)] 90):=⟨_,rfl⟩;(have wh:Below w1.heap.size w1 w2:=by rw [wu];exact (J5 _ _).alloc (J4 _) _);have tu:=q7 wh;(have f2':(w1.alloc (.cells #[.int .i64 (-1),.int .i64 (-2)] 90)).cell? ⟨N,2,none⟩=some (.slice Ar f.regs.length cr):=by rw [<- wu];exact tu _ _ f2);have b2:w2.heap[w1.heap.size]?=some (.cells #[.int .i64 (-1),.int .i64 (-2)] 90):=by rw [wu];exact heap_alloc_new _ _
 have wR:=Jj (q2R f.regs.length w1.heap.size 1 (-1) (-2) w2 (q6 b2 0) (q6 b2 1) (by omega));rw [wu] at wR;clear tr tF tw wl wv hN;(go_wp2_with fail);rw [<- wu] at wR ⊢;refine wR.out.mono ?_;rintro e w3 ⟨⟨GR,rfl,hGR,wj⟩,tz⟩;have wm:Below w1.heap.size w1 w3:=wh.trans (tz.mono wh.size);have hNw1:=hNw
 have HR:=Jj wj;(have tB:Hid (w1.heap.size<=GR):=Jj (by have:=wh.size;omega));have wO:=q7 wm;have f0:=wO _ _ f0;have f1:=wO _ _ f1;have f2:=wO _ _ f2;have f3:=wO _ _ f3;have tD:Hid (Below w.heap.size w w3):=Jj (wT.out.trans (wm.mono wT.out.size));have tM:Hid (N<w1.heap.size):=Jj hNw
 clear wu wh tu f2' b2 wR tz hGR wj wm hNw1 hNw wO z0 z1;(go_upto_region 2 with fail);obtain ⟨w4,wV,tE,wM,wk,tx,-⟩:=named w3 #[.slice (some ⟨GR,0,none⟩) f.regs.length f.regs.length] 131;rw [<- wV];obtain ⟨BR,hBR⟩:∃ BR,BR=w3.heap.size:=⟨_,rfl⟩;rw [<- hBR] at tx ⊢;have ww:=tN.out;have f0:=wM _ _ f0;have f1:=wM _ _ f1
 have f2:=wM _ _ f2;have f3:=wM _ _ f3;(have bR:w4.heap[BR]?=some (.cells #[.slice (some ⟨GR,0,none⟩) f.regs.length f.regs.length] 131):=by rw [wV,hBR];exact heap_alloc_new _ _);have tO:=Jj bR;(have tH:Hid (GR<BR/\BR<w4.heap.size):=Jj ⟨by rw [hBR];exact HR.out.lt,by omega⟩);have tg:Hid (w4.rowIs GR 90 (2 * f.regs.length) (mkC (-1) (-2))):=Jj (HR.out.of_block (wk.block _ HR.out.lt));have tC:Hid (Below w.heap.size w w4):=Jj (tD.out.trans (wk.mono tD.out.size));clear wV tE wM wk tx hBR bR HR;go_upto_region 3 with fail
 obtain ⟨w6,wU⟩:∃ w6,w6=(w4.alloc (.cells (madeCells #[.bool false] f.regs.length) 4)).alloc (.cells #[.slice (some ⟨w4.heap.size,0,none⟩) f.regs.length f.regs.length] 64):=⟨_,rfl⟩;obtain ⟨GM,hGM⟩:∃ GM,GM=w4.heap.size:=⟨_,rfl⟩;obtain ⟨bM,bB,wW,wg⟩:=kN w4 GM hGM _ _ w6 wU;rw [<- wU,<- hGM];rw [hGM] at wg;rw [<- hGM] at bB;have wJ:=q7 wg;have f0:=wJ _ _ f0;have f1:=wJ _ _ f1
 have f2:=wJ _ _ f2;have f3:=wJ _ _ f3;have tp:=tH.out
 have hP:MkP f.regs.length GM GR (GM+1) BR [] w6:=⟨⟨_,bM,size_madeCells _ _,λ i hi=>by simp [madeCells,hi,Nat.mod_one,vN]⟩,
  (tg.out.of_block (wg.block _ tg.out.lt)).congr λ j _=>by unfold mkF mkC yy;rfl,bB,(wg.block _ tp.2).trans tO.out⟩
 have hR6:=tg.out.lt;have HV:Hid (Vis (MkP f.regs.length GM GR (GM+1) BR) (λ b=>b=GM\/b=GR) f.regs.length 118 (.pointer (some ⟨GM+1,0,none⟩)) (.pointer (some ⟨BR,0,none⟩)) w6):=Jj
  ⟨xx Tryz.func118 (by kernel_rfl) rfl,λ b hb=>by rcases hb with rfl | rfl <;> omega,λ l u u' h h2=>h.below h2,λ l e u hp hx h0 h1=>q50 e hp (by omega) (by omega) (by omega) (by omega) (by omega) h0 h1 (by omega)⟩
 have hBW:Below w.heap.size w w6:=tC.out.trans (wg.mono tC.out.size);(have hKW:∀ w',FrX (λ b=>b=GM\/b=GR) w6 w'->Below w.heap.size w w':=λ w' h=>hBW.trans (h.below hBW.size (λ k hk=>by have:=tM.out;have:=HN.out;have:=tB.out;have:=wT.out.size;rcases hk with rfl | rfl <;> omega)));have tj:=Jj (kM f _ w w6 HV.out tf.out (λ w' h=>q7 (hKW w' h)) (λ w' h=>HG.out.keep (q7 (hKW w' h))) hP);have th:=Jj hKW;clear wU hGM bM bB wW wg wJ tp hP hR6 hBW hKW ww;(go_wp2_with fail);refine tj.out.mono ?_;rintro e w7 ⟨rfl,wY,tm⟩;have b1:=q6 wY.br 0
 have tK:=Jj wY;have tG:=Jj (th.out _ tm);clear wY tm f0 f1 f2 f3;(go_wp2_with fail);(go_ret);exact ⟨⟨GR,rfl,by have:=tB.out;have:=wT.out.size;omega,tK.out.r⟩,tG.out⟩
def q7I (f:qB) (e:Mk):Bool:=decide (f.params<=e.r) && !(ahB (dmB f.blocks) (yy (evL f) e.r.toNat) e)
structure SnP (f:qB) (Ar Ab:Option Addr) (cr cb GK BF BK BD BS GS G D0:Nat) (l:List Mk) (w:World):Prop where
 s:w.rowIs GS 4 f.regs.length (λ j=>.bool (l.any λ e=>decide (e.r=(j:Int)) && q7I f e))
 k:w.rowIs GK 90 (2 * f.regs.length) (mkF (evL f))
 d:BGr w G D0 f.blocks.length (dmB f.blocks)
 bf:w.heap[BF]?=some (.cells #[.int .i64 f.params,.int .i64 f.result,.slice Ar f.regs.length cr,.slice Ab f.blocks.length cb] 30)
 bk:w.heap[BK]?=some (.cells #[.slice (some ⟨GK,0,none⟩) f.regs.length f.regs.length] 131)
 bd:w.heap[BD]?=some (.cells #[.slice (some ⟨G,0,none⟩) f.blocks.length f.blocks.length] 59)
 bs:w.heap[BS]?=some (.cells #[.slice (some ⟨GS,0,none⟩) f.regs.length f.regs.length] 64)
section
variable {f:qB} {Ar Ab:Option Addr} {cr cb GK BF BK BD BS GS G D0:Nat} {l:List Mk} {w w':World}
theorem BGr.below {n:Nat} {D:Nat->Nat->Bool} (h:BGr w G D0 n D) (hb:Below w.heap.size w w'):BGr w' G D0 n D :=
 ⟨h.row.of_block (hb.block _ h.row.lt),λ a ha=>(h.cells a ha).of_block (hb.block _ (h.cells a ha).lt),h.lt⟩
theorem SnP.below (h:SnP f Ar Ab cr cb GK BF BK BD BS GS G D0 l w) (hb:Below w.heap.size w w'):SnP f Ar Ab cr cb GK BF BK BD BS GS G D0 l w' :=
 ⟨h.s.of_block (hb.block _ h.s.lt),h.k.of_block (hb.block _ h.k.lt),h.d.below hb,(hb.block _ (qW h.bf)).trans h.bf,(hb.block _ (qW h.bk)).trans h.bk,(hb.block _ (qW h.bd)).trans h.bd,(hb.block _ (qW h.bs)).trans h.bs⟩
theorem SnP.grow (h:SnP f Ar Ab cr cb GK BF BK BD BS GS G D0 l w) {l':List Mk} (hx:FrX (λ b=>b=GS) w w') (hs:w'.rowIs GS 4 f.regs.length (λ j=>.bool (l'.any λ e=>decide (e.r=(j:Int)) && q7I f e)))
  (h1:GK≠GS) (h2:G≠GS) (h3:∀ a,a<f.blocks.length->D0+a≠GS) (h4:BF≠GS) (h5:BK≠GS) (h6:BD≠GS) (h7:BS≠GS):SnP f Ar Ab cr cb GK BF BK BD BS GS G D0 l' w' :=
 ⟨hs,h.k.of_block (hx.block _ h.k.lt h1),⟨h.d.row.of_block (hx.block _ h.d.row.lt h2),λ a ha=>(h.d.cells a ha).of_block (hx.block _ (h.d.cells a ha).lt (h3 a ha)),h.d.lt⟩,
  (hx.block _ (qW h.bf) h4).trans h.bf,(hx.block _ (qW h.bk) h5).trans h.bk,(hx.block _ (qW h.bd) h6).trans h.bd,(hx.block _ (qW h.bs) h7).trans h.bs⟩
theorem q1E {l:List Mk} {e:Mk} {p:Mk->Bool}:(l++[e]).any p=(l.any p || p e):=by rw [List.any_append];simp
set_option maxRecDepth 100000 in
set_option maxHeartbeats 16000000 in
theorem q6N (e:Mk) (h:SnP f Ar Ab cr cb GK BF BK BD BS GS G D0 l w) (h1:GK≠GS) (h2:G≠GS) (h3:∀ a,a<f.blocks.length->D0+a≠GS) (h4:BF≠GS) (h5:BK≠GS) (h6:BD≠GS) (h7:BS≠GS)
  (wR:0<=e.r) (wQ:e.r<f.regs.length) (wW:0<=e.b) (wU:e.b<f.blocks.length) (hm:∀ r,(yy (evL f) r).b<f.blocks.length) (tc:f.blocks.length<=1000) :
  Calls Tryz.prog 81 #[.int .i64 e.r,e.v,.pointer (some ⟨BF,0,none⟩),.pointer (some ⟨BK,0,none⟩),.pointer (some ⟨BD,0,none⟩),.pointer (some ⟨BS,0,none⟩)] w λ en w'=>en=.returned (.tuple #[])/\SnP f Ar Ab cr cb GK BF BK BD BS GS G D0 (l++[e]) w'/\FrX (λ b=>b=GS) w w':=by
 obtain ⟨r,b,a⟩:=e;obtain ⟨k,rfl⟩:=Int.eq_ofNat_of_zero_le (show (0:Int)<=r from wR);(have td:k<f.regs.length:=by have:((k:Nat):Int)<f.regs.length:=wQ;omega);(have hk1:((k:Nat):Int)<f.regs.length:=by omega);(have hk0:(0:Int)<=k:=by omega);have tg:=Jj (And.intro wW wU);have HM:=Jj (hm k);have H:=Jj h;obtain ⟨mk,wT⟩:∃ mk,mk=yy (evL f) k:=⟨_,rfl⟩
 have wk:=Jj wT;obtain ⟨mr,mb,ma⟩:=mk;unfold Mk.v;have wJ:=Jj (And.intro h1 (And.intro h2 (And.intro h3 (And.intro h4 (And.intro h5 (And.intro h6 h7))))));clear h wR wQ wW wU hm h1 h2 h3 h4 h5 h6 h7 wT;(go_enter Tryz.func81,Tryz.ntmps81);(go_upto_region 1 with fail);obtain ⟨w1,wO,wZ,wv,wg,wj,-⟩:=named w #[.int .i64 b,.int .i64 a] 90;rw [<- wO]
 obtain ⟨N,hN⟩:∃ N,N=w.heap.size:=⟨_,rfl⟩;rw [<- hN] at wj ⊢;have x0:w1.cell? ⟨N,0,none⟩=some (.int .i64 b):=wj 0 _ rfl;have x1:w1.cell? ⟨N,1,none⟩=some (.int .i64 a):=wj 1 _ rfl;have h1:=H.out.below wg;have H1:=Jj h1;have f0:w1.cell? ⟨BF,0,none⟩=some (.int .i64 f.params):=q6 h1.bf 0;have k0:w1.cell? ⟨BK,0,none⟩=some (.slice (some ⟨GK,0,none⟩) f.regs.length f.regs.length):=q6 h1.bk 0;have d0:w1.cell? ⟨BD,0,none⟩=some (.slice (some ⟨G,0,none⟩) f.blocks.length f.blocks.length):=q6 h1.bd 0
 have s0:w1.cell? ⟨BS,0,none⟩=some (.slice (some ⟨GS,0,none⟩) f.regs.length f.regs.length):=q6 h1.bs 0;have r0:w1.cell? ⟨GK,k * 2,none⟩=some (.int .i64 mb):=by
  have:=h1.k.cell (i:=k * 2) (by omega);rw [this];unfold mkF;rw [if_pos (by omega),show k * 2 / 2=k by omega,<- wk.out]
 have r1:w1.cell? ⟨GK,k * 2+1,none⟩=some (.int .i64 ma):=by
  have:=h1.k.cell (i:=k * 2+1) (by omega);rw [this];unfold mkF;rw [if_neg (by omega),show (k * 2+1) / 2=k by omega,<- wk.out]
 have wl:=Jj wg;clear wO wZ wv wg wj h1 hN
 by_cases hp:f.params<=k
 ·have wh:decide (f.params<=(k:Int))=true:=decide_eq_true hp
  have HS:Hid (∀ W,Below w1.heap.size w1 W->W.cell? ⟨BF,0,none⟩=some (.int .i64 f.params)/\W.cell? ⟨BK,0,none⟩=some (.slice (some ⟨GK,0,none⟩) f.regs.length f.regs.length)/\W.cell? ⟨GK,k * 2,none⟩=some (.int .i64 mb)/\W.cell? ⟨GK,k * 2+1,none⟩=some (.int .i64 ma)/\W.cell? ⟨BD,0,none⟩=some (.slice (some ⟨G,0,none⟩) f.blocks.length f.blocks.length)/\W.cell? ⟨N,0,none⟩=some (.int .i64 b)/\W.cell? ⟨N,1,none⟩=some (.int .i64 a)):=Jj (λ W hW =>
   ⟨q7 hW _ _ f0,q7 hW _ _ k0,q7 hW _ _ r0,q7 hW _ _ r1,q7 hW _ _ d0,q7 hW _ _ x0,q7 hW _ _ x1⟩)
  have wX:Hid (∀ W,Below w1.heap.size w1 W->Calls Tryz.prog 82 #[.agg #[.int .i64 mb,.int .i64 ma],.agg #[.int .i64 b,.int .i64 a],.slice (some ⟨G,0,none⟩) f.blocks.length f.blocks.length] W λ en w'=>en=.returned (.bool (ahB (dmB f.blocks) ⟨mr,mb,ma⟩ ⟨((k:Nat):Int),b,a⟩))/\Below W.heap.size W w'):=Jj (λ W hW =>
   q3o f.blocks.length G D0 (dmB f.blocks) ⟨mr,mb,ma⟩ ⟨((k:Nat):Int),b,a⟩ W (H1.out.d.below hW) (by have:=HM.out;rw [<- wk.out] at this;exact this) tg.out tc)
  obtain ⟨rr,wu⟩:∃ rr,rr=ahB (dmB f.blocks) ⟨mr,mb,ma⟩ ⟨((k:Nat):Int),b,a⟩:=⟨_,rfl⟩;rw [<- wu] at wX;have tf:=Jj wu;clear f0 k0 d0 r0 r1 x0 x1 wu;go_region_held3 (λ W=>W.cell? ⟨BF,0,none⟩=some (.int .i64 f.params)/\W.cell? ⟨BK,0,none⟩=some (.slice (some ⟨GK,0,none⟩) f.regs.length f.regs.length)/\W.cell? ⟨GK,k * 2,none⟩=some (.int .i64 mb)/\W.cell? ⟨GK,k * 2+1,none⟩=some (.int .i64 ma)/\W.cell? ⟨BD,0,none⟩=some (.slice (some ⟨G,0,none⟩) f.blocks.length f.blocks.length)/\W.cell? ⟨N,0,none⟩=some (.int .i64 b)/\W.cell? ⟨N,1,none⟩=some (.int .i64 a))
   (first
    | exact HS.out _ wM.out
    | (refine HS.out _ ?_;repeat (first | exact J5 _ _ | refine Below.drew ?_)))
   (first
    | (go_at_call 82;refine (wX.out _ (J5 w1.heap.size w1).drew).mono ?_;rintro e wd ⟨rfl,wV⟩;have wM:=Jj ((J5 w1.heap.size w1).drew.trans wV)))
  have wY:Hid (Below w.heap.size w wd):=Jj (wl.out.trans (wM.out.mono wl.out.size));have HD:Hid (SnP f Ar Ab cr cb GK BF BK BD BS GS G D0 l wd):=Jj (H1.out.below wM.out)
  have wm:Hid (q7I f ⟨((k:Nat):Int),b,a⟩=!rr):=Jj (by
   show (decide (f.params<=((k:Nat):Int)) && !(ahB (dmB f.blocks) (yy (evL f) ((k:Nat):Int).toNat) ⟨((k:Nat):Int),b,a⟩))=_
   rw [wh,Int.toNat_natCast,<- wk.out,<- tf.out];rfl)
  have s1:=q6 HD.out.bs 0;have t0:=HD.out.s.cell td;have t1:=HD.out.s.frozen k;clear s0 wV;clear wh;cases rr
  ·have ta:(!false)=true:=rfl;(go_wp2_with fail);(go_end0);have hx:FrX (λ b=>b=GS) w (wd.setCell ⟨GS,k,none⟩ (.bool true)):=FrX.setCell (X:=λ b=>b=GS) (FrX.of_below wY.out) (p:=⟨GS,k,none⟩) (.inl rfl) _;refine ⟨rfl,?_,hx⟩;obtain ⟨h1,h2,h3,h4,h5,h6,h7⟩:=wJ.out;refine HD.out.grow (FrX.setCell (X:=λ b=>b=GS) (FrX.refl _ wd) (p:=⟨GS,k,none⟩) (.inl rfl) _) ((HD.out.s.set k (.bool true)).congr λ j _=>?_) h1 h2 h3 h4 h5 h6 h7;rw [q1E]
   by_cases e:j=k
   ·subst e;simp [wm.out]
   ·rw [if_neg e,decide_eq_false (by show ¬ ((k:Nat):Int)=(j:Int);omega)];simp
  ·have ta:(!true)=false:=rfl;clear t0 t1 s1;(go_wp2_with fail);(go_end0);refine ⟨rfl,?_,FrX.of_below wY.out⟩;obtain ⟨h1,h2,h3,h4,h5,h6,h7⟩:=wJ.out;refine HD.out.grow (FrX.refl _ wd) (HD.out.s.congr λ j _=>?_) h1 h2 h3 h4 h5 h6 h7;rw [q1E,wm.out];simp
 ·have wh:decide (f.params<=(k:Int))=false:=decide_eq_false hp
  have wm:Hid (q7I f ⟨((k:Nat):Int),b,a⟩=false):=Jj (by
   show (decide (f.params<=((k:Nat):Int)) && _)=_
   rw [wh];rfl)
  (go_big_quiet (fail));clear f0 k0 d0 s0 r0 r1 x0 x1;(go_wp2_with fail);(go_end0);have ww:Below w1.heap.size w1 (w1.drewN nq):=⟨rfl,rfl,rfl,J4 _,λ _ _=>rfl⟩;refine ⟨rfl,?_,FrX.of_below (wl.out.trans (ww.mono wl.out.size))⟩;obtain ⟨h1,h2,h3,h4,h5,h6,h7⟩:=wJ.out;refine (H1.out.below ww).grow (FrX.refl _ _) ((H1.out.below ww).s.congr λ j _=>?_) h1 h2 h3 h4 h5 h6 h7;rw [q1E,wm.out];simp
end
end Go.Proofs.YtfoggldjjnabcaaGreatDoor

namespace Go.Proofs.YtfoggldjjnabcaaGreatDoor
open Go.ChangeShapes Go.WideShapes Go.RowKit Go.Deep
def pl (b:Int):Int:=bits .and .u64 (IntKind.u64.wrap b) 63
def asN (x:Bool):Int:=if x then 1 else 0
def two (op a b:Int):Int :=
 if op=3 then wrap64 (a+b)
 else if op=4 then wrap64 (a - b)
 else if op=5 then wrap64 (a * b)
 else if op=6 then bits .and .i64 a b
 else if op=7 then bits .or .i64 a b
 else if op=8 then bits .xor .i64 a b
 else if op=9 then wrap64 (a * 2 ^ min (pl b).toNat 64)
 else if op=10 then a / 2 ^ min (pl b).toNat 64
 else if op=11 then wrap64 (a.tdiv b)
 else if op=12 then asN (decide (a<b))
 else asN (a == b)
def one (op a:Int):Int:=if op=14 then wrap64 (1 - a) else a
def q5m (op:Int):Int:=if op=2\/op=14 then 1 else if 3<=op/\op<=13 then 2 else 0
def qP (f:qB) (i:Nat):qE:=f.blocks.getD i default
def InR (n:Nat) (a:Int):Prop:=0<=a/\a<n
def qAL (m:List qB) (n:Nat) (x:qN):Prop :=
 (∀ a∈x.args,InR n a) /\
 ((x.op=1/\InR n x.dst)\/(2<=x.op/\x.op<=14/\(x.args.length:Int)=q5m x.op/\InR n x.dst)\/(x.op=15/\x.args.length=1/\InR n x.dst) \/
  (x.op=16/\x.args.length=2)\/(x.op=18/\x.args.length=1) \/
  (x.op=17/\InR m.length x.fn/\(x.args.length:Int)=(qh m x.fn).params/\(x.dst=-1\/InR n x.dst)))
structure q2H (m:List qB) (f:qB):Prop where
 nb:1<=f.blocks.length/\f.blocks.length<=64
 nr:f.regs.length<=256
 par:0<=f.params/\f.params<=8/\f.params<=f.regs.length
 items:∀ b∈f.blocks,b.phis.length+b.ins.length<=256
 tos:∀ b∈f.blocks,∀ t∈b.term.to,1<=t/\t<f.blocks.length
 kind:∀ b∈f.blocks,(b.term.kind=1/\b.term.to.length=1)\/(b.term.kind=2/\b.term.to.length=2/\InR f.regs.length b.term.arg)\/(b.term.kind=3/\b.term.to.length=0/\(b.term.arg=-1\/InR f.regs.length b.term.arg))
 phis:∀ (i:Nat) (b:qE),f.blocks[i]?=some b->∀ p∈b.phis,p.args.length=(qH f.blocks i).length/\InR f.regs.length p.dst/\∀ a∈p.args,InR f.regs.length a
 ins:∀ b∈f.blocks,∀ x∈b.ins,qAL m f.regs.length x
theorem qf {c:Prop} [Decidable c] {a b:Int} (hb:b≠0) (h:(if c then a else b)=0):c/\a=0:=by
 split at h
 ·exact ⟨‹c›,h⟩
 ·exact absurd h hb
theorem xX {f:qB} (h:y6 f=0):vG f=true/\zv f=true/\zZ f=true/\q05 f=true:=by
 unfold y6 at h;obtain ⟨h1,h⟩:=qf (by decide) h;obtain ⟨h2,h⟩:=qf (by decide) h;obtain ⟨h3,-⟩:=qf (by decide) h;rw [Bool.and_eq_true] at h3;exact ⟨h1,h2,h3.1,h3.2⟩
theorem q8V {bs:List qE} {b:qE} (h:b∈bs):b.phis.length+b.ins.length<=z7 bs:=by
 unfold z7
 induction bs with
 | nil=>cases h
 | cons x r ih =>
  simp only [List.map_cons,List.sum_cons];rcases List.mem_cons.1 h with rfl | h
  ·omega
  ·have:=ih h;omega
theorem q6s {bs l:List qE} {i:Nat} (h:vV bs l i=true):∀ (k:Nat) (b:qE),l[k]?=some b->∀ p∈b.phis,p.args.length=(qH bs (i+k:Nat)).length:=by
 induction l generalizing i with
 | nil=>intro k b hk;simp at hk
 | cons x r ih =>
  simp only [vV,Bool.and_eq_true] at h;intro k b hk p hp;cases k with
  | zero =>
   obtain rfl:=J3 hk;exact of_decide_eq_true (List.all_eq_true.1 h.1 p hp)
  | succ k =>
   have:=ih h.2 k b hk p hp
   rwa [show i+1+k=i+(k+1) by omega] at this
theorem q98 {l:List Int} {n:Nat} (h:zq l n=true):∀ a∈l,InR n a:=λ a ha=>by
 have:=of_decide_eq_true (List.all_eq_true.1 h a ha);exact ⟨this.1,this.2⟩
theorem q8Y {n:Nat} {a:Int} (h:isIn n a=true):InR n a:=of_decide_eq_true (p:=0<=a/\a<n) h
theorem jR {f:qB} {x:qN} {ts:List Int} {d:Int} {bad:Bool} (h:jG f x ts d bad=0):(∀ a∈x.args,InR f.regs.length a)/\((d=0/\x.dst=-1)\/(0<d/\InR f.regs.length x.dst)):=by
 unfold jG at h;obtain ⟨h1,h⟩:=qf (by decide) h;obtain ⟨h2,-⟩:=qf (by decide) h;rw [Bool.and_eq_true,Bool.or_eq_true] at h1;simp only [Bool.and_eq_true] at h2;refine ⟨q98 h1.1,?_⟩;have h3:=h2.1.1.1.2
 by_cases hd:d=0
 ·rw [if_pos hd] at h3;exact .inl ⟨hd,of_decide_eq_true h3⟩
 ·rw [if_neg hd] at h3;have:=of_decide_eq_true h3;rcases h1.2 with h4 | h4
  ·exact absurd (of_decide_eq_true h4) hd
  ·exact .inr ⟨this.1,q8Y h4⟩
theorem qAj {m:List qB} {f:qB} {x:qN} (wh:∀ t∈f.regs,t=1\/t=2) (h:zm m f x=0):qAL m f.regs.length x:=by
 unfold zm at h
 by_cases wk:x.op=17
 ·rw [if_pos wk] at h;obtain ⟨h1,h⟩:=qf (by decide) h;obtain ⟨h2,h⟩:=qf (by decide) h;obtain ⟨g1,g2⟩:=jR h;refine ⟨g1,.inr (.inr (.inr (.inr (.inr ⟨wk,q8Y h1,h2,?_⟩))))⟩;rcases g2 with g2 | g2
  ·exact .inl g2.2
  ·exact .inr g2.2
 ·rw [if_neg wk] at h
  split at h
  ·exact absurd h (by decide)
  ·rename_i ts d hs;obtain ⟨hl,h⟩:=qf (by decide) h;obtain ⟨g1,g2⟩:=jR h;have hdt:yY f x=1\/yY f x=2:=by
    unfold yY
    split
    ·rename_i wv;have hr:=of_decide_eq_true wv;(have wu:x.dst.toNat<f.regs.length:=by omega);unfold reg;rw [JJ,Jq wu];exact wh _ (List.getElem_mem wu)
    ·exact .inl rfl
   refine ⟨g1,?_⟩;unfold yI at hs
   by_cases o1:x.op=1
   ·rw [if_pos o1] at hs;simp only [J0,Prod.mk.injEq] at hs;rcases g2 with g2 | g2
    ·omega
    ·exact .inl ⟨o1,g2.2⟩
   rw [if_neg o1] at hs
   by_cases o2:x.op=2
   ·rw [if_pos o2] at hs;simp only [J0,Prod.mk.injEq] at hs;rcases g2 with g2 | g2
    ·omega
    ·exact .inr (.inl ⟨by omega,by omega,by rw [hl,<- hs.1,o2];rfl,g2.2⟩)
   rw [if_neg o2] at hs
   by_cases o12:x.op=12\/x.op=13
   ·rw [if_pos o12] at hs;simp only [J0,Prod.mk.injEq] at hs;rcases g2 with g2 | g2
    ·omega
    ·exact .inr (.inl ⟨by omega,by omega,by rw [hl,<- hs.1];rcases o12 with o | o <;> rw [o] <;> rfl,g2.2⟩)
   rw [if_neg o12] at hs
   by_cases o14:x.op=14
   ·rw [if_pos o14] at hs;simp only [J0,Prod.mk.injEq] at hs;rcases g2 with g2 | g2
    ·omega
    ·exact .inr (.inl ⟨by omega,by omega,by rw [hl,<- hs.1,o14];rfl,g2.2⟩)
   rw [if_neg o14] at hs
   by_cases o15:x.op=15
   ·rw [if_pos o15] at hs;simp only [J0,Prod.mk.injEq] at hs;rcases g2 with g2 | g2
    ·omega
    ·exact .inr (.inr (.inl ⟨o15,by rw [hl,<- hs.1];rfl,g2.2⟩))
   rw [if_neg o15] at hs
   by_cases o16:x.op=16
   ·rw [if_pos o16] at hs;simp only [J0,Prod.mk.injEq] at hs;exact .inr (.inr (.inr (.inl ⟨o16,by rw [hl,<- hs.1];rfl⟩)))
   rw [if_neg o16] at hs
   by_cases o18:x.op=18
   ·rw [if_pos o18] at hs;simp only [J0,Prod.mk.injEq] at hs;exact .inr (.inr (.inr (.inr (.inl ⟨o18,by rw [hl,<- hs.1];rfl⟩))))
   rw [if_neg o18] at hs
   by_cases o3:3<=x.op/\x.op<=11
   ·rw [if_pos o3] at hs;simp only [J0,Prod.mk.injEq] at hs;rcases g2 with g2 | g2
    ·omega
    ·refine .inr (.inl ⟨by omega,by omega,?_,g2.2⟩);rw [hl,<- hs.1];unfold q5m;rw [if_neg (by omega),if_pos (by omega)];rfl
   rw [if_neg o3] at hs;cases hs
theorem q2j {m:List qB} {f:qB} (h:zh m f=0):q2H m f:=by
 obtain ⟨ho,hb⟩:=funE_zero.1 h;obtain ⟨h1,h2,h3,h4⟩:=xX ho;have h1:=of_decide_eq_true h1;unfold zv at h2;rw [Bool.and_eq_true,Bool.and_eq_true] at h2;have wj:=of_decide_eq_true h2.1.2;have wh:∀ t∈f.regs,t=1\/t=2:=λ t ht=>of_decide_eq_true (List.all_eq_true.1 h2.1.1 t ht);have wl:∀ b∈f.blocks,jp b.term=true/\b.term.to.all (toB f.blocks.length)=true:=λ b wg=>by
  have:=List.all_eq_true.1 h3 b wg;unfold yP at this
  rwa [Bool.and_eq_true] at this
 refine ⟨⟨h1.1,h1.2.1⟩,h1.2.2.1,wj,λ b wg=>by have:=q8V wg;omega,λ b wg t ht=>?_,λ b wg=>?_,λ i b hi p hp=>?_,λ b wg x hx=>?_⟩
 ·have:=of_decide_eq_true (List.all_eq_true.1 (wl b wg).2 t ht);omega
 ·have ht:=(wl b wg).1;have he:=(blockE_zero.1 (hb b wg)).2.2;unfold jp at ht;unfold je zu at he
  by_cases k1:b.term.kind=1
  ·rw [if_pos k1] at ht;exact .inl ⟨k1,of_decide_eq_true ht⟩
  rw [if_neg k1] at ht
  by_cases k2:b.term.kind=2
  ·rw [if_pos k2,Bool.and_eq_true] at ht;rw [if_pos k2,if_neg (show ¬ (2:Int)=0 by decide)] at he;exact .inr (.inl ⟨k2,of_decide_eq_true ht.1,(qf (by decide) he).1⟩)
  rw [if_neg k2] at ht
  by_cases k3:b.term.kind=3
  ·rw [if_pos k3] at ht;rw [if_neg k2,if_pos k3] at he;refine .inr (.inr ⟨k3,of_decide_eq_true ht,?_⟩)
   split at he
   ·exact .inl (qf (by decide) he).1
   ·exact .inr (qf (by decide) he).1
  rw [if_neg k3] at ht;cases ht
 ·have hm:=q6s h4 i b hi p hp;rw [Nat.zero_add] at hm;have wm:=(blockE_zero.1 (hb b (Jz hi))).1 p hp;unfold jA at wm;have:=(qf (by decide) wm).1;rw [Bool.and_eq_true] at this;exact ⟨hm,of_decide_eq_true (p:=0<=p.dst/\p.dst<f.regs.length) this.1,q98 this.2⟩
 ·exact qAj wh ((blockE_zero.1 (hb b wg)).2.1 x hx)
theorem q1i {m:List qB} (h:zx m):m.length<=32/\∀ f∈m,q2H m f:=by
 obtain ⟨h1,h2⟩:=proper_iff.1 h;exact ⟨h1,λ f hf=>q2j (h2 f hf)⟩
end Go.Proofs.YtfoggldjjnabcaaGreatDoor
