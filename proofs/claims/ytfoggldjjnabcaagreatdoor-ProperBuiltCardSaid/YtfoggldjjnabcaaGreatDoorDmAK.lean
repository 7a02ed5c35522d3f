/- What backwards keeps while it goes through blocks, and the closures that do it: enter, goOn. -/
import Derived.Test.YtfoggldjjnabcaaGreatDoorModAK
import Derived.Test.YtfoggldjjnabcaaGreatDoorGrNK
import Derived.Test.YtfoggldjjnabcaaGreatDoorDmMK
import Derived.StillTailTactics
import Derived.OrdersHeld
import Derived.RegionTactic
import Derived.Lib.Hide
import Derived.Test.YtfoggldjjnabcaaGreatDoorDmGK
import Derived.Deep.DeepCutAuto
import Derived.Deep.LoopGhost
import Derived.Laws.ResultCell
set_option linter.unusedVariables false
set_option linter.unusedSimpArgs false
namespace Go.Proofs.YtfoggldjjnabcaaGreatDoor
open Go.ChangeShapes Go.WideShapes Go.RowKit Go.Deep
structure BW (w:World) (M G n:Nat) (S:Nat->Bool) (R:Nat->List Nat) (V:Nat->Value) (op dn:List Nat) (vo vd:Value):Prop where
 nbox:w.heap[M]?=some (.cells #[.slice (some ⟨G,0,none⟩) n n] 65 (0,0))
 gbox:w.heap[M+2]?=some (.cells #[.slice (some ⟨M+1,0,none⟩) n n] 64 (0,0))
 dbox:w.heap[M+3]?=some (.cells #[vd] 27 (0,0))
 obox:w.heap[M+4]?=some (.cells #[vo] 27 (0,0))
 ebox:w.heap[M+5]?=some (.cells #[.func (.func 131) #[] #[.pointer (some ⟨M+2,0,none⟩),.pointer (some ⟨M+4,0,none⟩)]] 191 (0,0))
 rbox:w.heap[M+6]?=some (.cells #[.func (.func 132) #[] #[.pointer (some ⟨M,0,none⟩),.pointer (some ⟨M+2,0,none⟩),.pointer (some ⟨M+5,0,none⟩),.pointer (some ⟨M+6,0,none⟩),.pointer (some ⟨M+4,0,none⟩),.pointer (some ⟨M+3,0,none⟩)]] 182 (0,0))
 grow:w.rowIs (M+1) 4 n (λ x=>.bool (S x))
 nrow:w.rowIs G 27 n V
 lists:∀ x,x<n->∃ A c,V x=.slice A (R x).length c/\SL w 1 (RIntB (λ b=>b<M/\b≠G)) A c (zs (R x))
 ownO:w.ownsRow (M+7) 3 1 vo op.length ((zs op).map (Value.int .i64))
 ownD:w.ownsRow (M+7) 3 1 vd dn.length ((zs dn).map (Value.int .i64))
 apart:vo.ownBlock=none\/vo.ownBlock≠vd.ownBlock
 inR:∀ x,x<n->∀ t∈R x,t<n
 gm:G<M
theorem BW.size {w:World} {M G n:Nat} {S:Nat->Bool} {R:Nat->List Nat} {V:Nat->Value} {op dn:List Nat} {vo vd:Value} (h:BW w M G n S R V op dn vo vd):M+6<w.heap.size:=qW h.rbox
theorem BW.of_blocks {w w':World} {M G n:Nat} {S:Nat->Bool} {R:Nat->List Nat} {V:Nat->Value} {op dn:List Nat} {vo vd:Value} (h:BW w M G n S R V op dn vo vd)
  (hk:∀ k,k<M+7->w'.heap[k]?=w.heap[k]?) (ho:∀ g,vo.ownBlock=some g->w'.heap[g]?=w.heap[g]?) (hd:∀ g,vd.ownBlock=some g->w'.heap[g]?=w.heap[g]?):BW w' M G n S R V op dn vo vd:=by
 have wv:=h.gm;refine ⟨(hk _ (by omega)).trans h.nbox,(hk _ (by omega)).trans h.gbox,(hk _ (by omega)).trans h.dbox,(hk _ (by omega)).trans h.obox,(hk _ (by omega)).trans h.ebox,(hk _ (by omega)).trans h.rbox,h.grow.of_block (hk _ (by omega)),h.nrow.of_block (hk _ (by omega)),λ x hx=>?_,qJ h.ownO ho,qJ h.ownD hd,h.apart,h.inR,h.gm⟩;obtain ⟨A,c,e,hs⟩:=h.lists x hx;exact ⟨A,c,e,SIntsB.go (λ a v hb ha=>(JK (hk _ (by have:=hb.1;omega))).trans ha) (λ _ hb=>hb) hs⟩
theorem BW.below {w w':World} {M G n:Nat} {S:Nat->Bool} {R:Nat->List Nat} {V:Nat->Value} {op dn:List Nat} {vo vd:Value} (h:BW w M G n S R V op dn vo vd) (hb:Below w.heap.size w w'):BW w' M G n S R V op dn vo vd :=
 h.of_blocks (λ k hk=>hb.block k (by have:=h.size;omega)) (λ g hg=>hb.block g (h.ownO.lt g hg).2) (λ g hg=>hb.block g (h.ownD.lt g hg).2)
theorem BW.drewN {w:World} {M G n:Nat} {S:Nat->Bool} {R:Nat->List Nat} {V:Nat->Value} {op dn:List Nat} {vo vd:Value} (h:BW w M G n S R V op dn vo vd) (k:Nat):BW (w.drewN k) M G n S R V op dn vo vd :=
 h.of_blocks (λ _ _=>rfl) (λ _ _=>rfl) (λ _ _=>rfl)
theorem BW.gone {w:World} {M G n:Nat} {S:Nat->Bool} {R:Nat->List Nat} {V:Nat->Value} {op dn:List Nat} {vo vd:Value} (h:BW w M G n S R V op dn vo vd) (b:Nat):BW (w.setCell ⟨M+1,b,none⟩ (.bool true)) M G n (mark S b) R V op dn vo vd:=by
 have wv:=h.gm;have hk:∀ k,k≠M+1->(w.setCell ⟨M+1,b,none⟩ (.bool true)).heap[k]?=w.heap[k]?:=λ k hk=>JQ _ _ _ _ hk;refine ⟨(hk _ (by omega)).trans h.nbox,(hk _ (by omega)).trans h.gbox,(hk _ (by omega)).trans h.dbox,(hk _ (by omega)).trans h.obox,(hk _ (by omega)).trans h.ebox,(hk _ (by omega)).trans h.rbox,(h.grow.set b (.bool true)).congr λ x hx=>?_,h.nrow.of_block (hk _ (by omega)),λ x hx=>?_,qJ h.ownO (λ g hg=>hk g (by have:=(h.ownO.lt g hg).1;omega)),qJ h.ownD (λ g hg=>hk g (by have:=(h.ownD.lt g hg).1;omega)),h.apart,h.inR,h.gm⟩
 ·unfold mark;split <;> simp_all
 ·obtain ⟨A,c,e,hs⟩:=h.lists x hx;exact ⟨A,c,e,SIntsB.go (λ a v hb ha=>(JK (hk _ (by have:=hb.1;omega))).trans ha) (λ _ hb=>hb) hs⟩
theorem BW.open_ {w w2:World} {M G n:Nat} {S:Nat->Bool} {R:Nat->List Nat} {V:Nat->Value} {op dn op':List Nat} {vo vd vo':Value} (h:BW w M G n S R V op dn vo vd)
  (hk:∀ k,k<M+7->w2.heap[k]?=w.heap[k]?) (hd:∀ g,vd.ownBlock=some g->w2.heap[g]?=w.heap[g]?)
  (wh:w2.ownsRow (M+7) 3 1 vo' op'.length ((zs op').map (Value.int .i64))) (ha:vo'.ownBlock=none\/vo'.ownBlock≠vd.ownBlock):BW (w2.setCell ⟨M+4,0,none⟩ vo') M G n S R V op' dn vo' vd:=by
 have wv:=h.gm;have hs:∀ k,k≠M+4->(w2.setCell ⟨M+4,0,none⟩ vo').heap[k]?=w2.heap[k]?:=λ k hk=>JQ _ _ _ _ hk;have wg:∀ k,k<M+7->k≠M+4->(w2.setCell ⟨M+4,0,none⟩ vo').heap[k]?=w.heap[k]?:=λ k h1 h2=>(hs k h2).trans (hk k h1)
 refine ⟨(wg _ (by omega) (by omega)).trans h.nbox,(wg _ (by omega) (by omega)).trans h.gbox,(wg _ (by omega) (by omega)).trans h.dbox,qK (i:=0) vo' ((hk _ (by omega)).trans h.obox),(wg _ (by omega) (by omega)).trans h.ebox,(wg _ (by omega) (by omega)).trans h.rbox,h.grow.of_block (wg _ (by omega) (by omega)),h.nrow.of_block (wg _ (by omega) (by omega)),λ x hx=>?_,
  qJ wh (λ g hg=>hs g (by have:=(wh.lt g hg).1;omega)),qJ h.ownD (λ g hg=>(hs g (by have:=(h.ownD.lt g hg).1;omega)).trans (hd g hg)),ha,h.inR,h.gm⟩
 obtain ⟨A,c,e,wJ⟩:=h.lists x hx;exact ⟨A,c,e,SIntsB.go (λ a v hb ha=>(JK (wg _ (by have:=hb.1;omega) (by have:=hb.1;omega))).trans ha) (λ _ hb=>hb) wJ⟩
theorem BW.done_ {w w2:World} {M G n:Nat} {S:Nat->Bool} {R:Nat->List Nat} {V:Nat->Value} {op dn dn':List Nat} {vo vd vd':Value} (h:BW w M G n S R V op dn vo vd)
  (hk:∀ k,k<M+7->w2.heap[k]?=w.heap[k]?) (ho:∀ g,vo.ownBlock=some g->w2.heap[g]?=w.heap[g]?)
  (wh:w2.ownsRow (M+7) 3 1 vd' dn'.length ((zs dn').map (Value.int .i64))) (ha:vo.ownBlock=none\/vo.ownBlock≠vd'.ownBlock):BW (w2.setCell ⟨M+3,0,none⟩ vd') M G n S R V op dn' vo vd':=by
 have wv:=h.gm;have hs:∀ k,k≠M+3->(w2.setCell ⟨M+3,0,none⟩ vd').heap[k]?=w2.heap[k]?:=λ k hk=>JQ _ _ _ _ hk;have wg:∀ k,k<M+7->k≠M+3->(w2.setCell ⟨M+3,0,none⟩ vd').heap[k]?=w.heap[k]?:=λ k h1 h2=>(hs k h2).trans (hk k h1)
 refine ⟨(wg _ (by omega) (by omega)).trans h.nbox,(wg _ (by omega) (by omega)).trans h.gbox,qK (i:=0) vd' ((hk _ (by omega)).trans h.dbox),(wg _ (by omega) (by omega)).trans h.obox,(wg _ (by omega) (by omega)).trans h.ebox,(wg _ (by omega) (by omega)).trans h.rbox,h.grow.of_block (wg _ (by omega) (by omega)),h.nrow.of_block (wg _ (by omega) (by omega)),λ x hx=>?_,
  qJ h.ownO (λ g hg=>(hs g (by have:=(h.ownO.lt g hg).1;omega)).trans (ho g hg)),qJ wh (λ g hg=>hs g (by have:=(wh.lt g hg).1;omega)),ha,h.inR,h.gm⟩
 obtain ⟨A,c,e,wJ⟩:=h.lists x hx;exact ⟨A,c,e,SIntsB.go (λ a v hb ha=>(JK (wg _ (by have:=hb.1;omega) (by have:=hb.1;omega))).trans ha) (λ _ hb=>hb) wJ⟩
theorem BW.next_ {w:World} {M G n b:Nat} {S:Nat->Bool} {R:Nat->List Nat} {V:Nat->Value} {op dn l:List Nat} {vo vd:Value} {A:Option Addr} {c:Nat} (h:BW w M G n S R V op dn vo vd) (hl:∀ t∈l,t<n)
  (hs:SL w 1 (RIntB (λ b=>b<M/\b≠G)) A c (zs l)):BW (w.setCell ⟨G,b,none⟩ (.slice A l.length c)) M G n S (λ x=>if x=b then l else R x) (λ x=>if x=b then .slice A l.length c else V x) op dn vo vd:=by
 have wv:=h.gm;have hk:∀ k,k≠G->(w.setCell ⟨G,b,none⟩ (.slice A l.length c)).heap[k]?=w.heap[k]?:=λ k hk=>JQ _ _ _ _ hk;have wR:KeptB (λ y=>y<M/\y≠G) w (w.setCell ⟨G,b,none⟩ (.slice A l.length c)):=λ a v hb ha=>(JK (hk _ hb.2)).trans ha;refine ⟨(hk _ (by omega)).trans h.nbox,(hk _ (by omega)).trans h.gbox,(hk _ (by omega)).trans h.dbox,(hk _ (by omega)).trans h.obox,(hk _ (by omega)).trans h.ebox,(hk _ (by omega)).trans h.rbox,h.grow.of_block (hk _ (by omega)),h.nrow.set b _,λ x hx=>?_,qJ h.ownO (λ g hg=>hk g (by have:=(h.ownO.lt g hg).1;omega)),qJ h.ownD (λ g hg=>hk g (by have:=(h.ownD.lt g hg).1;omega)),h.apart,λ x hx=>?_,h.gm⟩
 ·by_cases e:x=b
  ·simp only [if_pos e];exact ⟨A,c,rfl,SIntsB.go wR (λ _ hb=>hb) hs⟩
  ·simp only [if_neg e];obtain ⟨A',c',e',wW⟩:=h.lists x hx;exact ⟨A',c',e',SIntsB.go wR (λ _ hb=>hb) wW⟩
 ·by_cases e:x=b
  ·simp only [if_pos e];exact hl
  ·simp only [if_neg e];exact h.inR x hx
theorem q0Z (w:World):(sizeOf (Tryz.prog.elem 27)).run Tryz.prog w=.ok 1 w:=by kernel_rfl
theorem ki:Tryz.prog.underlying 27=some (.slice (Tryz.prog.elem 27)):=by kernel_rfl
theorem q7D {B:Nat->Prop} {w:World} {A:Option Addr} {c:Nat} {x:Int} {xs:List Int} (h:SL w 1 (RIntB B) A c (x::xs)) :
  ∃ A' c',(∀ W,(Instr.slice 27 (.slice A (xs.length+1) c) (some (.int .i64 1)) none none).run Tryz.prog W=.ok (.slice A' xs.length c') W)/\SL w 1 (RIntB B) A' c' xs:=by
 obtain ⟨h1,⟨h2,_⟩,h3⟩:=h;obtain ⟨b,o,rfl,hx⟩:=h3 (by simp);simp only [List.length_cons] at h1;have wl:∀ W,(Instr.slice 27 (.slice (some ⟨b,o,none⟩) (xs.length+1) c) (some (.int .i64 1)) none none).run Tryz.prog W=.ok (sliced (some ⟨b,o,none⟩) 1 (xs.length+1) c 1) W:=λ W=>by
  rw [run_slice_l W 27 (some ⟨b,o,none⟩) (xs.length+1) c ki .i64 1 (by omega) (by omega),q0Z];simp [Result.andThen]
 by_cases hc:c=1
 ·obtain rfl:xs=[]:=List.length_eq_zero_iff.1 (by omega);refine ⟨some ⟨b,o,none⟩,c - 1,λ W=>(wl W).trans (by unfold sliced;rw [if_pos hc];simp),Nat.zero_le _,⟨by omega,λ e=>by cases e⟩,λ h=>absurd h (by simp)⟩
 ·(refine ⟨some ⟨b,o+1,none⟩,c - 1,λ W=>(wl W).trans (by unfold sliced;rw [if_neg hc,Option.map_some];unfold Addr.add;simp),by omega,⟨by omega,λ e=>by cases e⟩,λ _=>⟨b,o+1,rfl,λ i y hi=>?_⟩⟩);have:=hx (i+1) y (by simpa using hi)
  rwa [show o+(i+1) * 1=o+1+i * 1 by omega] at this
theorem q0L {w:World} {base:Nat} {v:Value} {xs:List Nat} {x:Nat} (h:w.ownsRow base 3 1 v (xs++[x]).length ((zs (xs++[x])).map (Value.int .i64))) :
  ∃ g cap,v=.slice (some ⟨g,0,none⟩) (xs.length+1) cap/\w.cell? ⟨g,xs.length,none⟩=some (.int .i64 x)/\xs.length+1<=cap/\cap<=maxLen /\
   (∀ W,(Instr.slice 27 (.slice (some ⟨g,0,none⟩) (xs.length+1) cap) none (some (.int .i64 xs.length)) none).run Tryz.prog W=.ok (.slice (some ⟨g,0,none⟩) xs.length cap) W) /\
   w.ownsRow base 3 1 (.slice (some ⟨g,0,none⟩) xs.length cap) xs.length ((zs xs).map (Value.int .i64)):=by
 (have hl:(xs++[x]).length=xs.length+1:=by simp);have h0:=h;obtain ⟨h1,⟨-,h2⟩ | ⟨g,cap,cur,rfl,hb,hh,hn,hc,wV,ht⟩⟩:=h
 ·rw [hl] at h2;omega
 ·rw [hl] at hn ht;refine ⟨g,cap,by rw [hl],?_,hn,hc,λ W=>?_,⟨by simp [zs],.inr ⟨g,cap,cur,rfl,hb,hh,by omega,hc,wV,?_⟩⟩⟩
  ·have:=h0.cells (g:=g) rfl xs.length (.int .i64 x) (by simp [zs])
   rwa [show (⟨g,0,none⟩:Addr).add xs.length=⟨g,xs.length,none⟩ by unfold Addr.add;split <;> simp_all] at this
  ·rw [run_slice_h W 27 (some ⟨g,0,none⟩) (xs.length+1) cap ki .i64 xs.length (by omega) (by omega),q0Z];(have wY:cap≠0:=by omega);simp [Result.andThen,sliced,wY,Addr.add]
  ·(have:cur.toList.take (xs.length * 1)=(cur.toList.take ((xs.length+1) * 1)).take xs.length:=by rw [List.take_take];congr 1;omega);rw [this,ht,yG,List.map_append,List.take_left' (by simp [zs])]
def qBw (M G n:Nat) (S:Nat->Bool) (R:Nat->List Nat) (V:Nat->Value) (op dn:List Nat) (vd:Value) (w:World) (e:Ending) (w':World):Prop :=
 e=.returned (.tuple #[])/\(∃ vo',BW w' M G n S R V op dn vo' vd)/\BB M G w w'
set_option maxHeartbeats 4000000 in
theorem q12 (M G n b:Nat) (S:Nat->Bool) (R:Nat->List Nat) (V:Nat->Value) (op dn:List Nat) (vo vd:Value) (w:World) (h:BW w M G n S R V op dn vo vd) (hb:b<n) (hn:n<=1000000) (ho:op.length<=1000000) :
  Calls Tryz.prog 131 #[.int .i64 b,.pointer (some ⟨M+2,0,none⟩),.pointer (some ⟨M+4,0,none⟩)] w (qBw M G n (mark S b) R V (op++[b]) dn vd w):=by
 obtain ⟨i0,hi,wQ,wO,wM⟩:=info_parts Tryz.info3;have HI:=Jj (And.intro hi (And.intro wQ (And.intro wO wM)));clear hi wQ wO wM;have hM:=h.size;have wv:=h.gm;have c1:w.cell? ⟨M+2,0,none⟩=some (.slice (some ⟨M+1,0,none⟩) n n):=q6 h.gbox 0;have c2:=h.grow.cell hb;have f2:=h.grow.frozen b;have hg:=h.gone b
 (have wU:BB M G w (w.setCell ⟨M+1,b,none⟩ (.bool true)):=(BB.refl M G w).setCell (.inr (by show M<=M+1;omega)) _);(have hz:(w.setCell ⟨M+1,b,none⟩ (.bool true)).heap.size=w.heap.size:=by simp);have HH:=Jj h;clear h;(go_enter Tryz.func131,Tryz.ntmps131);(go_upto_region 1 with fail);clear c1 c2 f2;generalize w.setCell ⟨M+1,b,none⟩ (.bool true)=w1 at *;have hM1:M+6<w1.heap.size:=by omega
 have c3:w1.cell? ⟨M+4,0,none⟩=some vo:=q6 hg.obox 0;have wZ:=Jj wU;have HZ:=Jj hz;clear wU hz;go_wp2_with (at_builtin;refine wpList_append_lies _ rfl (.tmp 7) (.tmp 9) 27 rfl (M+7) 3 i0 (.int .i64 0) 1 8 Tryz.underlying27 HI.out.1 HI.out.2.1 HI.out.2.2.1 HI.out.2.2.2 rfl (by decide) vo _ _ rfl (hg.ownO.alloc _) ⟨w1.heap.size,0,none⟩ 1 1 [.int .i64 b] rfl rfl ?c1 ?c2 ?c0 ?c3 ?c4 ?c5 (w1.heap.size+1) ?c6 ?_)
 case c1=>exact qm w1 _ _ rfl
 case c2=>exact ints_oneCell .i64 [(b:Int)]
 case c0=>omega
 case c3=>unfold maxLen;omega
 case c4=>omega
 case c5=>simp;omega
 case c6=>simp
 intro g cap w2 wh wj wu hlt;(have hk:∀ k,k<w1.heap.size->some k≠vo.ownBlock->w2.heap[k]?=w1.heap[k]?:=λ k hk wX=>(wj.block k (by simp;omega) wX).trans (Below.heap_alloc _ _ _ hk));have wk:∀ k,k<M+7->w2.heap[k]?=w1.heap[k]?:=λ k wg=>hk k (by omega) (λ e=>by have:=(hg.ownO.lt k e.symm).1;omega)
 have wm:=hg.open_ (op':=op++[b]) (vo':=.slice (some ⟨g,0,none⟩) (op.length+1) cap) wk (λ x hx=>hk x (hg.ownD.lt x hx).2 (λ e=>by
   rcases hg.apart with h | h
   ·rw [h] at e;cases e
   ·exact h (e.symm.trans hx.symm))) (by simpa [zs] using wh) (by
  right;intro e;(have wT:vd.ownBlock=some g:=by rw [<- e];rfl);rcases wu with h | h
  ·rcases hg.apart with h2 | h2
   ·rw [h] at h2;cases h2
   ·exact h2 (h.trans wT.symm)
  ·have:=(hg.ownD.lt g wT).2;omega)
 have c4:w2.cell? ⟨M+4,0,none⟩=some vo:=(JK (a:=⟨M+4,0,none⟩) (wk (M+4) (by omega))).trans c3;have f4:w2.frozen? ⟨M+4,0,none⟩=false:=qA ((wk (M+4) (by omega)).trans hg.obox) 0;(have ww:BB M G w w2:=(wZ.out.alloc (by have:=HZ.out;omega) _).grown wj (by have:=HZ.out;simp;omega) (λ k hk=>.inr (by have:=(hg.ownO.lt k hk).1;omega)));have HN:=Jj wm;have ta:=Jj ww;clear wh wj wu hk wk wm ww hg c3;(go_wp2_with fail);(go_end0);exact ⟨rfl,⟨_,HN.out⟩,ta.out.setCell (.inr (by show M<=M+4;omega)) _⟩
end Go.Proofs.YtfoggldjjnabcaaGreatDoor

namespace Go.Proofs.YtfoggldjjnabcaaGreatDoor
open Go
section
variable {P:Program} {ops:Array Oper} {Q:Exit->Act->World->Prop} {md:Region.Mode} {S:World->Prop}
def q46 (md:Region.Mode) (ops:Array Oper):Bool :=
 (List.range ops.size).all λ i=>((ops[i]?).map λ o=>o.after.all λ e=>!Region.binds md e || decide (e.on<i)).getD true
def q11 (md:Region.Mode) (ops:Array Oper) (L:Nat):Bool :=
 (List.range L).all λ i=>(List.range (L+1)).any λ j=>decide (i<j) && ((ops[j]?).map λ o=>o.after.any λ e=>Region.binds md e && decide (e.on=i)).getD false
theorem q16 (h:q46 md ops=true) {i:Nat} {o:Oper} (ho:ops[i]?=some o):∀ e∈o.after,Region.binds md e=true->e.on<i:=by
 intro e he hb;unfold q46 at h;have hi:i<ops.size:=(Array.getElem?_eq_some_iff.1 ho).1;have h1:=List.all_eq_true.1 h i (List.mem_range.2 hi);rw [ho] at h1;simp only [Option.map_some,Option.getD_some,Array.all_eq_true_iff_forall_mem] at h1;have h2:=h1 e he;simpa [hb] using h2
theorem q41 {L:Nat} (h:q11 md ops L=true) {i:Nat} (hi:i<L):∃ j o e,i<j/\j<=L/\ops[j]?=some o/\e∈o.after/\Region.binds md e=true/\e.on=i:=by
 unfold q11 at h;have h1:=List.all_eq_true.1 h i (List.mem_range.2 hi);obtain ⟨j,hj,h2⟩:=List.any_eq_true.1 h1;rw [Bool.and_eq_true] at h2;obtain ⟨h3,h4⟩:=h2;cases ho:ops[j]? with
 | none=>rw [ho] at h4;simp at h4
 | some o =>
  rw [ho] at h4;simp only [Option.map_some,Option.getD_some,Array.any_eq_true'] at h4;obtain ⟨e,he,hb⟩:=h4;rw [Bool.and_eq_true] at hb;exact ⟨j,o,e,of_decide_eq_true h3,by have:=List.mem_range.1 hj;omega,ho,he,hb.1,of_decide_eq_true hb.2⟩
def Closed (md:Region.Mode) (ops:Array Oper) (listed:Array Bool):Prop :=
 ∀ i o,ops[i]?=some o->listed.getD i true=true->∀ e∈o.after,Region.binds md e=true->listed.getD e.on false=true
theorem q3r {l:Array Bool} {i:Nat} (h:i<l.size) (a b:Bool):l.getD i a=l.getD i b:=by
 simp [Array.getD,h]
theorem q1T {l:Array Bool} {i:Nat} (h:i<l.size) (d:Bool):(l.setIfInBounds i true).getD i d=true:=by
 simp [Array.getD,h]
theorem Closed.set {listed:Array Bool} (hc:Closed md ops listed) (hs:listed.size=ops.size) {i:Nat} (hi:i∈Region.ready md ops listed):Closed md ops (listed.setIfInBounds i true):=by
 intro j o ho hj e he hb
 by_cases wm:j=i
 ·subst wm;obtain ⟨_,o',wj,wg⟩:=mem_ready.1 hi;rw [ho] at wj;cases wj;exact getD_set_true (wg e he hb)
 ·rw [getD_set_ne true (Ne.symm wm)] at hj;exact getD_set_true (hc j o ho hj e he hb)
theorem q4N {L:Nat} {listed:Array Bool} (wh:ops.size=L+1) (hs:listed.size=ops.size) (hf:q11 md ops L=true) (hc:Closed md ops listed) (hL:L∈Region.ready md ops listed):∀ i,i<L->listed.getD i true=true:=by
 have key:∀ n i,L - i<=n->i<L->listed.getD i true=true:=by
  intro n
  induction n with
  | zero=>intro i h1 h2;omega
  | succ n ih =>
   intro i h1 h2;obtain ⟨j,o,e,hij,hjL,ho,he,hb,wv⟩:=q41 hf h2;have h3:listed.getD e.on false=true:=by
    by_cases hj:j=L
    ·subst hj;obtain ⟨_,o',wj,wg⟩:=mem_ready.1 hL;rw [ho] at wj;cases wj;exact wg e he hb
    ·exact hc j o ho (ih j (by omega) (by omega)) e he hb
   rw [wv] at h3;rw [q3r (by omega) true false];exact h3
 exact λ i hi=>key (L - i) i (J4 _) hi
theorem q0b {L:Nat} {listed:Array Bool} (wh:ops.size=L+1) (hs:listed.size=ops.size) (hd:q46 md ops=true) (hL:listed.getD L true=false):Region.ready md ops listed≠[]:=by
 have key:∀ n i,i<=n->i<=L->listed.getD i true=false->∃ k,k∈Region.ready md ops listed:=by
  intro n
  induction n with
  | zero =>
   intro i h1 h2 h3;(obtain rfl:i=0:=by omega);have ho:ops[0]?=some ops[0]:=Array.getElem?_eq_getElem (by omega);exact ⟨0,mem_ready.2 ⟨h3,_,ho,λ e he hb=>absurd (q16 hd ho e he hb) (by omega)⟩⟩
  | succ n ih =>
   intro i h1 h2 h3;have ho:ops[i]?=some ops[i]:=Array.getElem?_eq_getElem (by omega)
   by_cases wg:∀ e∈ops[i].after,Region.binds md e=true->listed.getD e.on false=true
   ·exact ⟨i,mem_ready.2 ⟨h3,_,ho,wg⟩⟩
   ·simp only [Classical.not_forall] at wg;obtain ⟨e,he,hb,wu⟩:=wg;have wk:=q16 hd ho e he hb;refine ih e.on (by omega) (by omega) ?_;rw [q3r (by omega) true false];simpa using wu
 obtain ⟨k,hk⟩:=key L L (J4 _) (J4 _) hL;intro h0;rw [h0] at hk;cases hk
def q4U (P:Program) (ops:Array Oper) (Q:Exit->Act->World->Prop) (L:Nat):Exit->Act->World->Prop
 | .normal,a,w=>wpOp P ops Q L (Q .normal) a w
 | e,a,w=>Q e a w
theorem q6J {L:Nat} {o:Oper} {a:Act} {K:Act->World->Prop} {r:Result Next} (h:o.upon P a K (q4U P ops Q L) r):o.upon P a K Q r:=by
 cases r with
 | ok n w' =>
  cases n <;> simp only [Oper.upon] at h ⊢ <;> exact h
 | halt x w'=>cases x <;> simp only [Oper.upon] at h ⊢ <;> exact h
theorem q6E {L i:Nat} {K:Act->World->Prop} {a:Act} {w:World} (h:wpOp P ops (q4U P ops Q L) i K a w):wpOp P ops Q i K a w:=by
 unfold wpOp at *
 split
 ·rename_i ho;simp only [ho] at h;exact h
 ·rename_i o ho;simp only [ho] at h
  split
  ·rename_i hw;simp only [hw,if_true] at h;exact h.imp (λ h=>by unfold Oper.wp at *;exact q6J h) (λ h=>⟨h.1,h.2⟩)
  ·rename_i hw;simp only [hw] at h;exact h
theorem q4W {L:Nat} (wh:ops.size=L+1) (hd:q46 md ops=true) (hf:q11 md ops L=true) :
  ∀ (fuel:Nat) (listed:Array Bool) (a:Act) (w:World),listed.size=ops.size->Closed md ops listed->listed.getD L true=false ->
   wpAnyH P md ops (q4U P ops Q L) S fuel (listed.setIfInBounds L true) a w->wpAny P md ops Q (fuel+1) listed a w:=by
 intro fuel
 induction fuel with
 | zero =>
  intro listed a w hs hc hL H;refine ⟨λ h0=>absurd h0 (q0b wh hs hd hL),λ i hi=>?_⟩
  by_cases hiL:i=L
  ·subst hiL;exact wpOp_mono (λ a' w' h'=>⟨H.1,h'⟩) (show wpOp P ops Q i (Q .normal) a w from H.2)
  ·have:=ready_mono hi hiL;rw [H.1] at this;cases this
 | succ fuel ih =>
  intro listed a w hs hc hL H;refine ⟨λ h0=>absurd h0 (q0b wh hs hd hL),λ i hi=>?_⟩
  by_cases hiL:i=L
  ·subst hiL;have wg:=q4N wh hs hf hc hi;have hr:Region.ready md ops (listed.setIfInBounds i true)=[]:=by
    rw [List.eq_nil_iff_forall_not_mem];intro k hk;obtain ⟨h0,o,ho,_⟩:=mem_ready.1 hk;have hkl:k<ops.size:=(Array.getElem?_eq_some_iff.1 ho).1
    by_cases wl:k=i
    ·subst wl;rw [q1T (by omega)] at h0;cases h0
    ·rw [getD_set_ne true (Ne.symm wl),wg k (by omega)] at h0;cases h0
   exact wpOp_mono (λ a' w' h'=>wpAny_done hr h' _) (show wpOp P ops Q i (Q .normal) a w from H.1 hr)
  ·have h1:=q6E (H.2 i (ready_mono hi hiL));refine wpOp_mono (λ a' w' h'=>ih (listed.setIfInBounds i true) a' w' (by simpa using hs) (hc.set hs hi) ?_ ?_) h1
   ·rw [getD_set_ne true hiL];exact hL
   ·rw [Array.setIfInBounds_comm _ _ hiL];exact h'.2
theorem qS {id L:Nat} {a:Act} {w:World} (hm:P.follows .mixedOrders=true) (wh:ops.size=L+1) (hd:q46 .any ops=true) (hf:q11 .any ops L=true)
  (h:wpAnyH P .any ops (q4U P ops Q L) S L ((Array.replicate ops.size false).setIfInBounds L true) a { w with drawn:=w.drawn+1 }):(Code.region id ops true).wp P Q a w:=by
 refine wp_region_any hm ?_;have h2:=q4W (md:=.any) (Q:=Q) (S:=S) wh hd hf L (Array.replicate ops.size false) a { w with drawn:=w.drawn+1 } (by simp) (λ i o ho hi=>?_) (by simp [Array.getD,wh]) h
 ·rwa [<- wh] at h2
 ·have wk:=(Array.getElem?_eq_some_iff.1 ho).1;simp [Array.getD,wk] at hi
theorem qBk {i:Nat} (d:Option Tmp) {v:Value} {fuel:Nat} {listed:Array Bool} {a:Act} {w:World} (hd:(ops[i]?).map (·.dst)=some d)
  (hs:Region.noSelect ops=true) (hf:Region.free md ops listed i=true) (hr:(Region.ready md ops listed).contains i=true)
  (hQ:∀ c a w,Q (.panic c) (a.put d v) w->Q (.panic c) a w) (hS:S w) (hy:∀ o,ops[i]?=some o->YieldsIf P ops S o v a)
  (h:wpAnyH P md ops Q S fuel (listed.setIfInBounds i true) (a.put d v) w):wpAnyH P md ops Q S (fuel+1) listed a w:=by
 cases ho:ops[i]? with
 | none=>rw [ho] at hd;cases hd
 | some o =>
  rw [ho] at hd;obtain rfl:=J3 hd;exact wpAnyH_take ho hs hf hr hQ (hy o ho) hS h
theorem zk {i:Nat} {fuel:Nat} {listed:Array Bool} {a:Act} {w:World} (hr:Region.ready md ops listed=[i])
  (h:∀ o,ops[i]?=some o->∀ K:Act->World->Prop,RowKit.Hid (∀ a' w',S w'->wpAnyH P md ops Q S fuel (listed.setIfInBounds i true) a' w'->K a' w')->if Region.wanted o (yielded ops a.tmps)=true then Oper.wp P o a w K Q else K (a.put o.dst undef) w) :
  wpAnyH P md ops Q S (fuel+1) listed a w:=by
 refine wpAnyH_all hr (by simp) λ k hk=>?_;obtain rfl:=List.mem_singleton.1 hk;unfold wpOp
 split
 ·rename_i ho;(have:k∈Region.ready md ops listed:=by rw [hr];simp);obtain ⟨_,o,wj,_⟩:=mem_ready.1 this;rw [ho] at wj;cases wj
 ·rename_i o ho;have:=h o ho (λ a' w'=>S w'/\wpAnyH P md ops Q S fuel (listed.setIfInBounds k true) a' w') (Jj (λ a' w' h1 h2=>⟨h1,h2⟩))
  split
  ·rename_i hw;rw [if_pos hw] at this;exact .inl this
  ·rename_i hw;rw [if_neg hw] at this;exact this
theorem vL {L:Nat} {a:Act} {w:World} (hL:L<ops.size)
  (h:∀ o,ops[L]?=some o->∀ K:Act->World->Prop,RowKit.Hid (∀ a' w',Q .normal a' w'->K a' w')->if Region.wanted o (yielded ops a.tmps)=true then Oper.wp P o a w K Q else K (a.put o.dst undef) w):q4U P ops Q L .normal a w:=by
 show wpOp P ops Q L (Q .normal) a w;have ho:ops[L]?=some ops[L]:=Array.getElem?_eq_getElem hL;have:=h _ ho (Q .normal) (Jj (λ a' w' h1=>h1));unfold wpOp;simp only [ho]
 split
 ·rename_i hw;rw [if_pos hw] at this;exact .inl this
 ·rename_i hw;rw [if_neg hw] at this;exact this
end
theorem tk {P:Program} {ops:Array Oper} {Q:Exit->Act->World->Prop} {md:Region.Mode} {S:World->Prop} (i:Nat) (d:Tmp) {v:Value} {fuel:Nat} {listed:Array Bool} {a:Act} {w:World} (hS:S w) (h:wpAnyH P md ops Q S fuel (listed.setIfInBounds i true) (a.put (some d) v) w)
  (hy:∀ o,ops[i]?=some o->YieldsIf P ops S o v a:=by intro o ho;simp only [JZ,JX,JY,J0] at ho;subst ho;refine Or.inl ⟨by rfl,λ w' hSw=>?_⟩;(try dsimp only at hSw);go_simp;try with_reducible rfl)
  (hd:(ops[i]?).map (·.dst)=some (some d):=by rfl) (hs:Region.noSelect ops=true:=by kernel_rfl) (hf:Region.free md ops listed i=true:=by kernel_rfl) (hr:(Region.ready md ops listed).contains i=true:=by kernel_rfl)
  (hQ:∀ c a w,Q (.panic c) (a.put (some d) v) w->Q (.panic c) a w:=by exact λ _ _ _ h=>h):wpAnyH P md ops Q S (fuel+1) listed a w :=
 qBk (some d) hd hs hf hr hQ hS hy h
theorem aS {α:Type} (l:List α) (i:Nat) (a:α):l.toArray.setIfInBounds i a=(l.set i a).toArray:=List.setIfInBounds_toArray ..
theorem aT {α:Type} (l:List α) (i:Nat):l.toArray[i]?=l[i]?:=JZ ..
end Go.Proofs.YtfoggldjjnabcaaGreatDoor

namespace Go.Proofs.YtfoggldjjnabcaaGreatDoor
open Go.ChangeShapes Go.WideShapes Go.RowKit Go.Deep
structure GvM (w:World) (k He Ha Hl:Nat) (early least:Nat->Nat) (above:Nat->Int):Prop where
 e:w.rowIs He 3 k (λ v=>.int .i64 (early v:Int))
 a:w.rowIs Ha 3 k (λ v=>.int .i64 (above v))
 l:w.rowIs Hl 3 k (λ v=>.int .i64 (least v:Int))
 ne:He≠Ha/\He≠Hl/\Ha≠Hl
def qBH (k:Nat) (w:World) (e:Ending) (w':World):Prop :=
 (∃ He Ha Hl,e=.returned (.agg #[.slice (some ⟨He,0,none⟩) k k,.slice (some ⟨Ha,0,none⟩) k k,.slice (some ⟨Hl,0,none⟩) k k])/\w.heap.size<=He/\w.heap.size<=Ha/\w.heap.size<=Hl/\GvM w' k He Ha Hl (λ v=>v) (λ v=>v) (λ _=>-1))/\Below w.heap.size w w'
theorem qAw (w:World) (M:Nat) (hM:M=w.heap.size) (o0 o1 o2 o3 o4:Obj) (W:World) (hW:W=(((((w.alloc o0).alloc o1).alloc o2).alloc o3).alloc o4).drew) :
  W.heap[M]?=some o0/\W.heap[M+1]?=some o1/\W.heap[M+1+1]?=some o2/\W.heap[M+1+1+1]?=some o3/\W.heap[M+1+1+1+1]?=some o4/\W.heap.size=M+5/\Below M w W:=by
 subst hM hW;(have hz (u:World) (o:Obj):(u.alloc o).heap.size=u.heap.size+1:=by simp);have hg (u:World) (o:Obj) (k:Nat):(u.alloc o).heap[k]?=if k=u.heap.size then some o else u.heap[k]?:=by
  show (u.heap.push o)[k]?=_;rw [Array.getElem?_push]
 have hd (u:World) (k:Nat):u.drew.heap[k]?=u.heap[k]?:=rfl;refine ⟨?_,?_,?_,?_,?_,?_,?_⟩
 ·(rw [hd];simp only [hg,hz];repeat rw [if_neg (by omega)]);exact if_pos (by first | trivial | omega)
 ·(rw [hd];simp only [hg,hz];repeat rw [if_neg (by omega)]);exact if_pos (by first | trivial | omega)
 ·(rw [hd];simp only [hg,hz];repeat rw [if_neg (by omega)]);exact if_pos (by first | trivial | omega)
 ·(rw [hd];simp only [hg,hz];repeat rw [if_neg (by omega)]);exact if_pos (by first | trivial | omega)
 ·(rw [hd];simp only [hg,hz];repeat rw [if_neg (by omega)]);exact if_pos (by first | trivial | omega)
 ·show (((((w.alloc o0).alloc o1).alloc o2).alloc o3).alloc o4).heap.size=_;simp [hz]
 ·refine Below.drew ?_;refine (((((J5 _ w).alloc ?_ _).alloc ?_ _).alloc ?_ _).alloc ?_ _).alloc ?_ _;all_goals (simp [hz];try omega)
def qBy (k:Nat) (w:World) (He Ha Hl Hg:Nat) (wc:World):Prop :=
 wc.heap[Hg]?=some (.cells #[.slice (some ⟨He,0,none⟩) k k,.slice (some ⟨Ha,0,none⟩) k k,.slice (some ⟨Hl,0,none⟩) k k] 189) /\
 wc.heap[He]?=some (.cells (madeCells #[.int .i64 0] k) 3)/\wc.heap[Ha]?=some (.cells (madeCells #[.int .i64 0] k) 3)/\wc.heap[Hl]?=some (.cells (madeCells #[.int .i64 0] k) 3) /\
 wc.heap[w.heap.size]?=some (.cells #[.slice none 0 0,.slice none 0 0,.slice none 0 0] 189) /\
 (w.heap.size<He/\w.heap.size<Ha/\w.heap.size<Hl/\w.heap.size<Hg/\He≠Ha/\He≠Hl/\Ha≠Hl/\Hg≠He/\Hg≠Ha/\Hg≠Hl)/\Below w.heap.size w wc
def qAy (k:Nat) (w:World) (s3:Value) (wc:World):Prop:=∃ He Ha Hl Hg:Nat,s3=.pointer (some ⟨Hg,0,none⟩)/\qBy k w He Ha Hl Hg wc
theorem qAh {k:Nat} {w W:World} {s3:Value} {o0 o1 o2 o3 o4:Obj} (hW:W=(((((w.alloc o0).alloc o1).alloc o2).alloc o3).alloc o4).drew)
  (f:(W.heap[w.heap.size]?=some o0/\W.heap[w.heap.size+1]?=some o1/\W.heap[w.heap.size+1+1]?=some o2/\W.heap[w.heap.size+1+1+1]?=some o3/\W.heap[w.heap.size+1+1+1+1]?=some o4/\W.heap.size=w.heap.size+5/\Below w.heap.size w W)->qAy k w s3 W):qAy k w s3 W :=
 f (qAw w w.heap.size rfl o0 o1 o2 o3 o4 W hW)
def LayNG (k:Nat) (w:World) (He Ha Hl Hg j:Nat) (wr:World):Prop :=
 GvM wr k He Ha Hl (λ v=>if v<j then v else 0) (λ v=>if v<j then v else 0) (λ v=>if v<j then -1 else 0) /\
 wr.heap[Hg]?=some (.cells #[.slice (some ⟨He,0,none⟩) k k,.slice (some ⟨Ha,0,none⟩) k k,.slice (some ⟨Hl,0,none⟩) k k] 189) /\
 wr.heap[w.heap.size]?=some (.cells #[.slice none 0 0,.slice none 0 0,.slice none 0 0] 189)/\Below w.heap.size w wr
theorem yJ {w:World} {H k:Nat} (h:w.heap[H]?=some (.cells (madeCells #[.int .i64 0] k) 3)):w.rowIs H 3 k (λ _=>.int .i64 0) :=
 ⟨_,h,size_madeCells _ _,λ i hi=>by simp [madeCells,hi,Nat.mod_one]⟩
theorem LayNG.start {k:Nat} {w wc:World} {He Ha Hl Hg:Nat} (h:qBy k w He Ha Hl Hg wc):LayNG k w He Ha Hl Hg 0 wc:=by
 obtain ⟨h1,h2,h3,h4,h5,⟨_,_,_,_,n1,n2,n3,_⟩,h7⟩:=h;exact ⟨⟨(yJ h2).congr λ _ _=>rfl,(yJ h3).congr λ _ _=>rfl,(yJ h4).congr λ _ _=>rfl,n1,n2,n3⟩,h1,h5,h7⟩
theorem LayNG.step {k:Nat} {w wr:World} {He Ha Hl Hg j:Nat} (h:LayNG k w He Ha Hl Hg j wr)
  (hn:w.heap.size<He/\w.heap.size<Ha/\w.heap.size<Hl/\w.heap.size<Hg/\He≠Ha/\He≠Hl/\Ha≠Hl/\Hg≠He/\Hg≠Ha/\Hg≠Hl) :
  LayNG k w He Ha Hl Hg (j+1) (((wr.setCell ⟨He,j,none⟩ (.int .i64 (j:Int))).setCell ⟨Ha,j,none⟩ (.int .i64 (-1))).setCell ⟨Hl,j,none⟩ (.int .i64 (j:Int))).drew:=by
 obtain ⟨p1,p2,p3,p4,n1,n2,n3,n4,n5,n6⟩:=hn;obtain ⟨⟨h1,h2,h3,h4⟩,h5,h6,h7⟩:=h;have hs:∀ (u:World) (H i k:Nat) (v:Value),k≠H->(u.setCell ⟨H,i,none⟩ v).heap[k]?=u.heap[k]?:=λ u H i k v hk=>JQ _ _ _ _ hk;have rd:∀ (u:World) (H:Nat) (f:Nat->Value),u.rowIs H 3 k f->u.drew.rowIs H 3 k f:=λ _ _ _ h=>h;have r1:=((h1.set j (.int .i64 (j:Int))).of_block (hs _ Ha j He (.int .i64 (-1)) n1)).of_block (hs _ Hl j He (.int .i64 (j:Int)) n2);have r2:=((h2.of_block (hs _ He j Ha (.int .i64 (j:Int)) n1.symm)).set j (.int .i64 (-1))).of_block (hs _ Hl j Ha (.int .i64 (j:Int)) n3);have r3:=((h3.of_block (hs _ He j Hl (.int .i64 (j:Int)) n2.symm)).of_block (hs _ Ha j Hl (.int .i64 (-1)) n3.symm)).set j (.int .i64 (j:Int));refine ⟨⟨?_,?_,?_,h4⟩,?_,?_,?_⟩
 ·refine (rd _ _ _ r1).congr λ v _=>?_
  by_cases e:v=j
  ·simp [e]
  ·simp only [if_neg e];by_cases e2:v<j
   ·rw [if_pos e2,if_pos (by omega)]
   ·rw [if_neg e2,if_neg (by omega)]
 ·refine (rd _ _ _ r2).congr λ v _=>?_
  by_cases e:v=j
  ·simp [e]
  ·simp only [if_neg e];by_cases e2:v<j
   ·rw [if_pos e2,if_pos (by omega)]
   ·rw [if_neg e2,if_neg (by omega)]
 ·refine (rd _ _ _ r3).congr λ v _=>?_
  by_cases e:v=j
  ·simp [e]
  ·simp only [if_neg e];by_cases e2:v<j
   ·rw [if_pos e2,if_pos (by omega)]
   ·rw [if_neg e2,if_neg (by omega)]
 ·exact (hs _ Hl j Hg _ n6).trans ((hs _ Ha j Hg _ n5).trans ((hs _ He j Hg _ n4).trans h5))
 ·exact (hs _ Hl j _ _ (by omega)).trans ((hs _ Ha j _ _ (by omega)).trans ((hs _ He j _ _ (by omega)).trans h6))
 ·exact (((h7.setCell (p:=⟨He,j,none⟩) (by show _<=He;omega) _).setCell (p:=⟨Ha,j,none⟩) (by show _<=Ha;omega) _).setCell (p:=⟨Hl,j,none⟩) (by show _<=Hl;omega) _).drew
theorem LayNG.all {k:Nat} {w wr:World} {He Ha Hl Hg:Nat} (h:LayNG k w He Ha Hl Hg k wr):GvM wr k He Ha Hl (λ v=>v) (λ v=>v) (λ _=>-1):=by
 obtain ⟨⟨h1,h2,h3,h4⟩,-⟩:=h;exact ⟨h1.congr λ v hv=>by rw [if_pos hv],h2.congr λ v hv=>by rw [if_pos hv],h3.congr λ v hv=>by rw [if_pos hv],h4⟩
theorem GvM.of_blocks {w w':World} {k He Ha Hl:Nat} {early least:Nat->Nat} {above:Nat->Int} (h:GvM w k He Ha Hl early least above) (he:w'.heap[He]?=w.heap[He]?) (ha:w'.heap[Ha]?=w.heap[Ha]?) (hl:w'.heap[Hl]?=w.heap[Hl]?):GvM w' k He Ha Hl early least above :=
 ⟨h.e.of_block he,h.a.of_block ha,h.l.of_block hl,h.ne⟩
set_option maxRecDepth 100000 in
set_option maxHeartbeats 4000000 in
theorem kH (k:Nat) (w:World) (hk:k<=1000000):Calls Tryz.prog 129 #[.int .i64 k] w (qBH k w):=by
 have ww:=run_make_row' (P:=Tryz.prog) 27 3 (.int .i64 0) 8 Tryz.underlying27 Tryz.info3 rfl .i64 .i64 k (by omega) (by omega);(go_enter Tryz.func129,Tryz.ntmps129);(go_upto_region 1 with fail);go_cut [3] (λ s3 wc=>qAy k w s3 wc)
 case first =>
  (go_region);all_goals (go_wp2_with fail;go_meet)
  all_goals (
   case rel =>
    refine qAh rfl ?_;rintro ⟨b0,b1,b2,b3,b4,hsz,wl⟩
    exact ⟨_,_,_,_,rfl,by first | exact b1 | exact b2 | exact b3 | exact b4,by first | exact b1 | exact b2 | exact b3 | exact b4,by first | exact b1 | exact b2 | exact b3 | exact b4,by first | exact b1 | exact b2 | exact b3 | exact b4,b0,by omega,wl⟩)
 case rest =>
  obtain ⟨He,Ha,Hl,Hg,rfl,wh⟩:=hcut;have wJ:=Jj (LayNG.start wh);have HD:=Jj wh.2.2.2.2.2.1;clear wh ww;go_wp2_with fail
  go_loopw [13] (λ i wr=>∃ j:Nat,j<=k/\i=.int .i64 j/\LayNG k w He Ha Hl Hg j wr) (λ i _=>k - (intOf i).toNat)
  case atStart=>exact ⟨0,Nat.zero_le _,rfl,wJ.out⟩
  case round =>
   obtain ⟨j,hj,rfl,hl⟩:=hrel;have HL:=Jj hl;obtain ⟨⟨r1,r2,r3,-⟩,h5,h6,h7⟩:=hl;have c0:wr.cell? ⟨Hg,0,none⟩=some (.slice (some ⟨He,0,none⟩) k k):=q6 h5 0;have c1:wr.cell? ⟨Hg,1,none⟩=some (.slice (some ⟨Ha,0,none⟩) k k):=q6 h5 1;have c2:wr.cell? ⟨Hg,2,none⟩=some (.slice (some ⟨Hl,0,none⟩) k k):=q6 h5 2
   by_cases wk:j<k
   ·(have e1:wr.cell? ⟨He,j,none⟩=some (.int .i64 0):=by have:=r1.cell wk;simpa using this);(have e2:wr.cell? ⟨Ha,j,none⟩=some (.int .i64 0):=by have:=r2.cell wk;simpa using this);(have e3:wr.cell? ⟨Hl,j,none⟩=some (.int .i64 0):=by have:=r3.cell wk;simpa using this);have f1:=r1.frozen j;have f2:=r2.frozen j;have f3:=r3.frozen j;(have hj0:(0:Int)<=j:=by omega);(have hj1:(j:Int)<k:=by omega);obtain ⟨p1,p2,p3,p4,n1,n2,n3,n4,n5,n6⟩:=HD.out
    have n7:=Ne.symm n1;have n8:=Ne.symm n2;have n9:=Ne.symm n3;have n10:=Ne.symm n4;have n11:=Ne.symm n5;have n12:=Ne.symm n6;clear r1 r2 r3 h5 h6 h7;(go_upto_region 5 with fail);go_region
    all_goals (
     go_wp2_with fail
     go_roundw)
    case rel=>exact ⟨j+1,by omega,by go_num,LayNG.step HL.out HD.out⟩
    case measure=>simp [intOf];omega
   ·(obtain rfl:j=k:=by omega);have hGV:=LayNG.all HL.out;obtain ⟨p1,p2,p3,p4,-⟩:=HD.out;have wg:∀ y,y≠w.heap.size->(((wr.setCell ⟨w.heap.size,0,none⟩ (.slice (some ⟨He,0,none⟩) j j)).setCell ⟨w.heap.size,1,none⟩ (.slice (some ⟨Ha,0,none⟩) j j)).setCell ⟨w.heap.size,2,none⟩ (.slice (some ⟨Hl,0,none⟩) j j)).heap[y]?=wr.heap[y]?:=λ y hy=>((JQ _ _ _ _ hy).trans (JQ _ _ _ _ hy)).trans (JQ _ _ _ _ hy);have wj:(((wr.setCell ⟨w.heap.size,0,none⟩ (.slice (some ⟨He,0,none⟩) j j)).setCell ⟨w.heap.size,1,none⟩ (.slice (some ⟨Ha,0,none⟩) j j)).setCell ⟨w.heap.size,2,none⟩ (.slice (some ⟨Hl,0,none⟩) j j)).heap[w.heap.size]?=some (.cells #[.slice (some ⟨He,0,none⟩) j j,.slice (some ⟨Ha,0,none⟩) j j,.slice (some ⟨Hl,0,none⟩) j j] 189):=qK _ (qK _ (qK _ h6));have wu:=Jj wj;have wm:=Jj (hGV.of_blocks (wg He (by omega)) (wg Ha (by omega)) (wg Hl (by omega)));have wv:=Jj (((h7.setCell (p:=⟨w.heap.size,0,none⟩) (J4 _) (.slice (some ⟨He,0,none⟩) j j)).setCell (p:=⟨w.heap.size,1,none⟩) (J4 _) (.slice (some ⟨Ha,0,none⟩) j j)).setCell (p:=⟨w.heap.size,2,none⟩) (J4 _) (.slice (some ⟨Hl,0,none⟩) j j));have hm0:=q6 h6 0
    have hm1:=q6 h6 1;have hm2:=q6 h6 2;(have hf0:wr.frozen? ⟨w.heap.size,0,none⟩=false:=by unfold World.frozen?;simp [h6]);(have hf1:wr.frozen? ⟨w.heap.size,1,none⟩=false:=by unfold World.frozen?;simp [h6]);(have hf2:wr.frozen? ⟨w.heap.size,2,none⟩=false:=by unfold World.frozen?;simp [h6]);have HP:=Jj (And.intro p1 (And.intro p2 p3));clear r1 r2 r3 h5 h6 h7 wg wj hGV p1 p2 p3 p4;(go_wp2_with fail);refine bodyPost_ret (results_cell_row rfl _ _ w.heap.size 189 #[.slice (some ⟨He,0,none⟩) j j,.slice (some ⟨Ha,0,none⟩) j j,.slice (some ⟨Hl,0,none⟩) j j] (0,0) _ (by rfl) wu.out Tryz.underlying189 (by rfl) (by kernel_rfl)) rfl ?_
    exact ⟨⟨He,Ha,Hl,rfl,by have:=HP.out;omega,by have:=HP.out;omega,by have:=HP.out;omega,wm.out⟩,wv.out⟩
end Go.Proofs.YtfoggldjjnabcaaGreatDoor
