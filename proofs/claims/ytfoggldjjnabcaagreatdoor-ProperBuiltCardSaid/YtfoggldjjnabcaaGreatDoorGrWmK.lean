/- The nearest of each place, as the program reckons them. -/
import Derived.Test.YtfoggldjjnabcaaGreatDoorModAK
import Derived.Test.YtfoggldjjnabcaaGreatDoorDmVK
import Derived.Test.YtfoggldjjnabcaaGreatDoorGrNK
set_option linter.unusedVariables false
set_option linter.unusedSimpArgs false
namespace Go.Proofs.YtfoggldjjnabcaaGreatDoor
open Go.ChangeShapes Go.WideShapes Go.RowKit Go.Deep
structure NrM (w0 w:World) (N0 Hg He Ha Hl Hn Gw k:Nat) (vb vf va:Value) (early least:Nat->Nat) (above:Nat->Int) (near:Nat->Nat) (V:Nat->Value) (W:Nat->List Nat):Prop where
 gv:GvM w k He Ha Hl early least above
 gb:w.heap[Hg]?=some (.cells #[.slice (some ⟨He,0,none⟩) k k,.slice (some ⟨Ha,0,none⟩) k k,.slice (some ⟨Hl,0,none⟩) k k] 189)
 tb:w.heap[N0]?=some (.cells #[vb,vf,va] 147)
 nr:w.rowIs Hn 3 k (λ v=>.int .i64 (near v:Int))
 wt:Gri w Gw (Gw+1) k V (λ s=>zs (W s))
 fr:Below N0 w0 w
 lt:N0<He/\N0<Ha/\N0<Hl/\He<Hg/\Ha<Hg/\Hl<Hg/\Hg<Hn/\Hn<Gw
section
variable {w0 w w':World} {N0 Hg He Ha Hl Hn Gw k:Nat} {vb vf va:Value} {early least:Nat->Nat} {above:Nat->Int} {near:Nat->Nat} {V:Nat->Value} {W:Nat->List Nat}
theorem NrM.drew (h:NrM w0 w N0 Hg He Ha Hl Hn Gw k vb vf va early least above near V W):NrM w0 w.drew N0 Hg He Ha Hl Hn Gw k vb vf va early least above near V W :=
 ⟨h.gv.of_blocks rfl rfl rfl,h.gb,h.tb,h.nr,h.wt.drewN 1,⟨h.fr.os,h.fr.tape,h.fr.output,h.fr.size,h.fr.block⟩,h.lt⟩
theorem NrM.best (h:NrM w0 w N0 Hg He Ha Hl Hn Gw k vb vf va early least above near V W) {least':Nat->Nat} {above':Nat->Int} (hg:GvM w' k He Ha Hl early least' above') (hf:FrX (λ b=>b=Ha\/b=Hl) w w'):NrM w0 w' N0 Hg He Ha Hl Hn Gw k vb vf va early least' above' near V W:=by
 have wj:=h.lt;have hG:=h.wt.row.lt;refine ⟨hg,hf.box h.gb (by omega),hf.box h.tb (by omega),h.nr.of_block (hf.block _ h.nr.lt (by omega)),h.wt.of_blocks (hf.block _ hG (by omega)) (λ g tq tG=>hf.block g tG (by omega)),?_,wj⟩;have h0:N0<w.heap.size:=(Array.getElem?_eq_some_iff.1 h.tb).1;exact h.fr.trans (hf.below (by omega) (λ b hb=>by omega))
theorem NrM.setE (h:NrM w0 w N0 Hg He Ha Hl Hn Gw k vb vf va early least above near V W) (P x:Nat):NrM w0 (w.setCell ⟨He,P,none⟩ (.int .i64 (x:Int))) N0 Hg He Ha Hl Hn Gw k vb vf va (qM early P x) least above near V W:=by
 have wj:=h.lt;have tX:=h.gv.ne;have hs:∀ b,b≠He->(w.setCell ⟨He,P,none⟩ (.int .i64 (x:Int))).heap[b]?=w.heap[b]?:=λ b hb=>JQ _ _ _ _ hb;exact ⟨⟨(h.gv.e.set P (.int .i64 (x:Int))).congr λ v _=>by unfold qM;by_cases e:v=P <;> simp [e],h.gv.a.of_block (hs Ha (by omega)),h.gv.l.of_block (hs Hl (by omega)),tX⟩,(hs Hg (by omega)).trans h.gb,(hs N0 (by omega)).trans h.tb,h.nr.of_block (hs Hn (by omega)),h.wt.setOther (by show Gw≠He;omega) (by show He<Gw+1;omega) _,h.fr.setCell (by show N0<=He;omega) _,wj⟩
theorem NrM.setA (h:NrM w0 w N0 Hg He Ha Hl Hn Gw k vb vf va early least above near V W) (P:Nat) (x:Int):NrM w0 (w.setCell ⟨Ha,P,none⟩ (.int .i64 x)) N0 Hg He Ha Hl Hn Gw k vb vf va early least (qM above P x) near V W:=by
 have wj:=h.lt;have tX:=h.gv.ne;have hs:∀ b,b≠Ha->(w.setCell ⟨Ha,P,none⟩ (.int .i64 x)).heap[b]?=w.heap[b]?:=λ b hb=>JQ _ _ _ _ hb;exact ⟨⟨h.gv.e.of_block (hs He (by omega)),(h.gv.a.set P (.int .i64 x)).congr λ v _=>by unfold qM;by_cases e:v=P <;> simp [e],h.gv.l.of_block (hs Hl (by omega)),tX⟩,(hs Hg (by omega)).trans h.gb,(hs N0 (by omega)).trans h.tb,h.nr.of_block (hs Hn (by omega)),h.wt.setOther (by show Gw≠Ha;omega) (by show Ha<Gw+1;omega) _,h.fr.setCell (by show N0<=Ha;omega) _,wj⟩
theorem NrM.setN (h:NrM w0 w N0 Hg He Ha Hl Hn Gw k vb vf va early least above near V W) (P x:Nat):NrM w0 (w.setCell ⟨Hn,P,none⟩ (.int .i64 (x:Int))) N0 Hg He Ha Hl Hn Gw k vb vf va early least above (qM near P x) V W:=by
 have wj:=h.lt;have hs:∀ b,b≠Hn->(w.setCell ⟨Hn,P,none⟩ (.int .i64 (x:Int))).heap[b]?=w.heap[b]?:=λ b hb=>JQ _ _ _ _ hb;exact ⟨h.gv.of_blocks (hs He (by omega)) (hs Ha (by omega)) (hs Hl (by omega)),(hs Hg (by omega)).trans h.gb,(hs N0 (by omega)).trans h.tb,(h.nr.set P (.int .i64 (x:Int))).congr λ v _=>by unfold qM;by_cases e:v=P <;> simp [e],h.wt.setOther (by show Gw≠Hn;omega) (by show Hn<Gw+1;omega) _,h.fr.setCell (by show N0<=Hn;omega) _,wj⟩
theorem Gri.nil {w:World} {G K n:Nat} {V:Nat->Value} {L:Nat->List Int} (h:Gri w G K n V L) (t:Nat):Gri (w.setCell ⟨G,t,none⟩ (.slice none 0 0)) G K n (qM V t (.slice none 0 0)) (qM L t []):=by
 refine ⟨(h.row.set t _).congr λ v _=>by unfold qM;rfl,λ i hi=>?_,λ i j hi hj tm=>?_,h.lt⟩
 ·by_cases e:i=t
  ·subst e;rw [qF,qF];exact World.ownsRow_nil _ _ _ _
  ·rw [q8 _ _ e,q8 _ _ e];exact ownsRow_setCell_below (h.own i hi) (a:=⟨G,t,none⟩) h.lt _
 ·by_cases ei:i=t
  ·subst ei;rw [qF];exact .inl rfl
  ·rw [q8 _ _ ei]
   by_cases ej:j=t
   ·(subst ej;rw [qF]);cases hb:(V i).ownBlock with
    | none=>exact .inl rfl
    | some b=>right;intro e;cases e
   ·rw [q8 _ _ ej];exact h.apart i j hi hj tm
theorem NrM.nilW (h:NrM w0 w N0 Hg He Ha Hl Hn Gw k vb vf va early least above near V W) (P:Nat):NrM w0 (w.setCell ⟨Gw,P,none⟩ (.slice none 0 0)) N0 Hg He Ha Hl Hn Gw k vb vf va early least above near (qM V P (.slice none 0 0)) (qM W P []):=by
 have wj:=h.lt;have hs:∀ b,b≠Gw->(w.setCell ⟨Gw,P,none⟩ (.slice none 0 0)).heap[b]?=w.heap[b]?:=λ b hb=>JQ _ _ _ _ hb;exact ⟨h.gv.of_blocks (hs He (by omega)) (hs Ha (by omega)) (hs Hl (by omega)),(hs Hg (by omega)).trans h.gb,(hs N0 (by omega)).trans h.tb,h.nr.of_block (hs Hn (by omega)),(h.wt.nil P).congr λ i _=>by unfold qM;split <;> rfl,h.fr.setCell (by show N0<=Gw;omega) _,wj⟩
theorem NrM.push (h:NrM w0 w N0 Hg He Ha Hl Hn Gw k vb vf va early least above near V W) {t x:Nat} (ht:t<k) {g cap:Nat} (hg:GroD w w' (V t) (.slice (some ⟨g,0,none⟩) ((W t).length+1) cap)) (ho:w'.ownsRow (Gw+1) 3 1 (.slice (some ⟨g,0,none⟩) ((W t).length+1) cap) ((W t).length+1) ((zs (W t)).map (Value.int .i64)++[.int .i64 (x:Int)])) :
  NrM w0 (w'.setCell ⟨Gw,t,none⟩ (.slice (some ⟨g,0,none⟩) ((W t).length+1) cap)) N0 Hg He Ha Hl Hn Gw k vb vf va early least above near (qM V t (.slice (some ⟨g,0,none⟩) ((W t).length+1) cap)) (qM W t (W t++[x])):=by
 have wj:=h.lt;have hV:=(h.wt.own t ht).lt;(have hK:∀ b,b<Gw+1->b<w.heap.size->w'.heap[b]?=w.heap[b]?:=λ b hb hz=>hg.block b hz (λ e=>by have:=(hV b e).1;omega));have sZ:(zs (W t)).length=(W t).length:=qg _;have hN0:N0<w.heap.size:=(Array.getElem?_eq_some_iff.1 h.tb).1;have hHg:Hg<w.heap.size:=(Array.getElem?_eq_some_iff.1 h.gb).1;have hs:∀ b,b≠Gw->(w'.setCell ⟨Gw,t,none⟩ (.slice (some ⟨g,0,none⟩) ((W t).length+1) cap)).heap[b]?=w'.heap[b]?:=λ b hb=>JQ _ _ _ _ hb;have wY:∀ b,b<Gw->b<w.heap.size->(w'.setCell ⟨Gw,t,none⟩ (.slice (some ⟨g,0,none⟩) ((W t).length+1) cap)).heap[b]?=w.heap[b]?:=λ b hb hz=>(hs b (by omega)).trans (hK b (by omega) hz);refine ⟨h.gv.of_blocks (wY He (by omega) h.gv.e.lt) (wY Ha (by omega) h.gv.a.lt) (wY Hl (by omega) h.gv.l.lt),(wY Hg (by omega) hHg).trans h.gb,(wY N0 (by omega) hN0).trans h.tb,h.nr.of_block (wY Hn (by omega) h.nr.lt),?_,?_,wj⟩
 ·have td:w'.rowIs Gw 27 k V:=h.wt.row.of_block (hK Gw (by omega) h.wt.row.lt);refine ⟨(td.set t _).congr λ v _=>by unfold qM;rfl,λ i hi=>?_,λ i j hi hj tm=>?_,by omega⟩
  ·refine ownsRow_setCell_below (a:=⟨Gw,t,none⟩) ?_ (by show Gw<Gw+1;omega) _
   by_cases e:i=t
   ·subst e;rw [qF,qF,yG,List.map_append];simpa [sZ] using ho
   ·rw [q8 _ _ e,q8 _ _ e];refine qJ (h.wt.own i hi) λ b hb=>hg.block b ((h.wt.own i hi).lt b hb).2 λ e2=>?_;rcases h.wt.apart i t hi ht e with h2 | h2
    ·rw [h2] at hb;cases hb
    ·exact h2 (hb.trans e2.symm)
  ·have key:∀ j,j<k->j≠t->(V j).ownBlock=none\/(V j).ownBlock≠some g:=λ j hj rh=>by
    cases hb:(V j).ownBlock with
    | none=>exact .inl rfl
    | some b =>
     (right;intro e);rcases hg.own g rfl with h1 | h1
     ·rcases h.wt.apart j t hj ht rh with h2 | h2
      ·rw [h2] at hb;cases hb
      ·exact h2 (by rw [hb,h1];exact e)
     ·have:=((h.wt.own j hj).lt b hb).2;have:=J3 e;omega
   by_cases ei:i=t
   ·subst ei;rw [qF,q8 _ _ (Ne.symm tm)];right;rcases key j hj (Ne.symm tm) with h1 | h1
    ·rw [h1];intro e;cases e
    ·exact λ e=>h1 e.symm
   ·rw [q8 _ _ ei]
    by_cases ej:j=t
    ·subst ej;rw [qF];exact key i hi ei
    ·rw [q8 _ _ ej];exact h.wt.apart i j hi hj tm
 ·(refine Below.setCell ?_ (p:=⟨Gw,t,none⟩) (by show N0<=Gw;omega) _);exact h.fr.trans ⟨hg.os,hg.tape,hg.output,hg.size,λ b hb=>hK b (by omega) (by omega)⟩
theorem NrM.congr (h:NrM w0 w N0 Hg He Ha Hl Hn Gw k vb vf va early least above near V W) {early' near':Nat->Nat} (he:∀ v,v<k->early' v=early v) (hn:∀ v,v<k->near' v=near v):NrM w0 w N0 Hg He Ha Hl Hn Gw k vb vf va early' least above near' V W :=
 ⟨⟨h.gv.e.congr λ v hv=>by rw [he v hv],h.gv.a,h.gv.l,h.gv.ne⟩,h.gb,h.tb,h.nr.congr λ v hv=>by rw [hn v hv],h.wt,h.fr,h.lt⟩
theorem NrM.start (hg:GvM w k He Ha Hl early least above) (ht:w.heap[N0]?=some (.cells #[vb,vf,va] 147)) (hb:Below N0 w0 w) (hE:N0<He) (hA:N0<Ha) (hL:N0<Hl) :
  NrM w0 (((w.alloc (.cells #[.slice (some ⟨He,0,none⟩) k k,.slice (some ⟨Ha,0,none⟩) k k,.slice (some ⟨Hl,0,none⟩) k k] 189)).alloc (.cells (madeCells #[.int .i64 0] k) 3)).alloc (.cells (madeCells #[.slice none 0 0] k) 27))
   N0 w.heap.size He Ha Hl (w.heap.size+1) (w.heap.size+1+1) k vb vf va early least above (λ _=>0) (λ _=>.slice none 0 0) (λ _=>[]):=by
 obtain ⟨b0,b1,b2,hz,wl⟩:=q2v w w.heap.size rfl (.cells #[.slice (some ⟨He,0,none⟩) k k,.slice (some ⟨Ha,0,none⟩) k k,.slice (some ⟨Hl,0,none⟩) k k] 189) (.cells (madeCells #[.int .i64 0] k) 3) (.cells (madeCells #[.slice none 0 0] k) 27) _ rfl;have h0:N0<w.heap.size:=(Array.getElem?_eq_some_iff.1 ht).1;have h1:=hg.e.lt;have h2:=hg.a.lt;have h3:=hg.l.lt;refine ⟨hg.of_blocks (wl.block He h1) (wl.block Ha h2) (wl.block Hl h3),b0,(wl.block N0 h0).trans ht,yJ b1,?_,hb.trans (wl.mono (by omega)),by omega⟩;exact Gri.made _ _ _ k (by simp) (by omega)
end
theorem HandP.congr {par early near near':Nat->Nat} {L v:Nat} (h:HandP par L early near v) (he:near' v=near v):HandP par L early near' v:=by
 obtain ⟨x,h1,h2,h3,h4⟩:=h;exact ⟨x,h1,h2,h3,by rw [he];exact h4⟩
def qB7 (k:Nat) (E:Nat->Nat->Prop) (par:Nat->Nat) (w0:World) (e:Ending) (w':World):Prop :=
 (∃ (Hn:Nat) (s near:Nat->Nat),e=.returned (.slice (some ⟨Hn,0,none⟩) k k)/\w0.heap.size<=Hn/\EarlyP 1 k E par s/\q0G k par s near/\w'.rowIs Hn 3 k (λ v=>.int .i64 (if v=0 then -1 else (near v:Int))))/\Below w0.heap.size w0 w'
set_option maxRecDepth 100000 in
set_option maxHeartbeats 16000000 in
theorem q6L (nx:Nat->List Nat) (n k:Nat) (bl par:Nat->Nat) (ah:Nat->List Nat) (pl:Nat->Int) (vb vf va:Value) (V0:Nat->Value) (K0:Nat) (w:World) (TE:TvE nx n k bl par ah pl) (R:TvR w K0 k vb vf va V0 bl par ah) (hn:n<=1000) :
  Calls Tryz.prog 97 #[.agg #[vb,vf,va]] w (qB7 k (xR nx k bl) par w):=by
 have hkn:=TE.kn;have sH:=TE.first.1;have tY:=run_make_row' (P:=Tryz.prog) 27 3 (.int .i64 0) 8 Tryz.underlying27 Tryz.info3 rfl .i64 .i64 k (by omega) (by omega);have wJ:=run_make_row' (P:=Tryz.prog) 65 27 (.slice none 0 0) 24 Tryz.underlying65 Tryz.info27 rfl .i64 .i64 k (by omega) (by omega);obtain ⟨i0,hi,sw,su,ss⟩:=info_parts Tryz.info3;have tN:=Jj (And.intro hi (And.intro sw (And.intro su ss)));clear hi sw su ss;obtain ⟨A1,c1,rfl⟩:=zY R.rb;obtain ⟨A2,c2,rfl⟩:=zY R.rf
 obtain ⟨A3,c3,rfl⟩:=zY R.ra;have tK:=Jj TE;have HR:=Jj R;have wk:=Jj TE.tree;clear TE R;(go_enter Tryz.func97,Tryz.ntmps97);(go_upto_region 1 with fail);obtain ⟨w1,tR,rc,rg,ww,rj,-⟩:=named w #[.slice A1 k c1,.slice A2 k c2,.slice A3 k c3] 147;obtain ⟨N0,hN0⟩:∃ N0,N0=w.heap.size:=⟨_,rfl⟩
 rw [<- tR,<- hN0];(have wR:w1.heap[N0]?=some (.cells #[.slice A1 k c1,.slice A2 k c2,.slice A3 k c3] 147):=by rw [tR,hN0];exact heap_alloc_new w _);have c0:w1.cell? ⟨N0,0,none⟩=some (.slice A1 k c1):=q6 wR 0;have sO:=Jj (kH k w1 (by omega));have rO:=Jj wR;have rS:=Jj ww;have ta:=Jj hN0;have rn:Hid (w1.heap.size=N0+1):=Jj (by omega);clear tR rc rg ww rj wR hN0 tY wJ
 (go_wp2_with fail);refine sO.out.mono ?_;rintro e w2 ⟨⟨He,Ha,Hl,rfl,h1,h2,h3,wv⟩,tJ⟩;have tY:=run_make_row' (P:=Tryz.prog) 27 3 (.int .i64 0) 8 Tryz.underlying27 Tryz.info3 rfl .i64 .i64 k (by omega) (by omega);have wJ:=run_make_row' (P:=Tryz.prog) 65 27 (.slice none 0 0) 24 Tryz.underlying65 Tryz.info27 rfl .i64 .i64 k (by omega) (by omega);(have hN1:N0<w1.heap.size:=by have:=rn.out;omega);have wQ:=(tJ.block N0 hN1).trans rO.out;(have wT:=Jj (NrM.start (w0:=w) wv wQ ((show Below N0 w w1 by rw [ta.out];exact rS.out).trans (tJ.mono (by omega))) (by omega) (by omega) (by omega)));have sj:w2.cell? ⟨N0,0,none⟩=some (.slice A1 k c1):=q6 wQ 0
 (have hN2:N0<w2.heap.size:=by have:=tJ.size;omega);clear c0 sO h1 h2 h3 wv tJ wQ hN1;(go_upto_region 4 with fail);obtain ⟨Hg,hHg⟩:∃ Hg,Hg=w2.heap.size:=⟨_,rfl⟩;obtain ⟨w5,tQ⟩:∃ w5,w5=((w2.alloc (.cells #[.slice (some ⟨He,0,none⟩) k k,.slice (some ⟨Ha,0,none⟩) k k,.slice (some ⟨Hl,0,none⟩) k k] 189)).alloc (.cells (madeCells #[.int .i64 0] k) 3)).alloc (.cells (madeCells #[.slice none 0 0] k) 27):=⟨_,rfl⟩;have tB:=wT.out;rw [<- tQ,<- hHg] at tB;rw [<- tQ,<- hHg];clear wT tY wJ sj hN2 tQ hHg
 have wT:=Jj tB;have rk:w5.cell? ⟨N0,0,none⟩=some (.slice A1 k c1):=q6 tB.tb 0;clear tB;(go_wp2_with fail);clear rk
 go_loopw [6] (λ s6 wq=>∃ (P:Nat) (early least:Nat->Nat) (above:Nat->Int) (near:Nat->Nat) (V:Nat->Value) (W:Nat->List Nat),s6=.int .i64 (P:Int)/\P<k/\NrI k (P+1) (xR nx k bl) par early near W/\GrvI par k (P+1) early least above/\NrM w wq N0 Hg He Ha Hl (Hg+1) (Hg+1+1) k (.slice A1 k c1) (.slice A2 k c2) (.slice A3 k c3) early least above near V W) (λ s6 _=>(intOf s6).toNat)
 case atStart =>
  refine ⟨k - 1,_,_,_,_,_,_,by congr 1;omega,by omega,?_,?_,wT.out⟩
  ·rw [show k - 1+1=k by omega];exact NrI.start _ par k sH λ u v h=>(wk.out.lt u v h).2
  ·rw [show k - 1+1=k by omega];exact GrvI.start par k _
 case round =>
  obtain ⟨P,early,least,above,near,V,W,rfl,hP,tD,sf,hm⟩:=hrel;obtain ⟨wo,rfl⟩:∃ wo,wo=wr:=⟨wr,rfl⟩;have wm:=Jj tD;have rH:=Jj sf;have HM:=Jj hm
  by_cases h0:0<P
  ·have d2:wo.cell? ⟨N0,2,none⟩=some (.slice A3 k c3):=q6 hm.tb 2;(have sG:Kept w wo:=q7 (by rw [<- ta.out];exact hm.fr));obtain ⟨ga,capa,ux,sB,sC,tH,-⟩:=vH HR.out.ra hP;obtain ⟨rfl,-⟩:=qu _ sC;simp only [Value.slice.injEq] at sB;obtain ⟨rfl,-,rfl⟩:=sB;have tH:=sG _ _ tH;obtain ⟨Av,cv,hAv⟩:=zY (HR.out.rV P hP);rw [hAv] at tH
   have tV:=HR.out.rV P hP;rw [hAv] at tV;(obtain ⟨Av2,cv2,hAv2,sF⟩:=ql (xs:=zs (ah P)) (by rw [qg];exact tV) (λ y hy=>by obtain ⟨t,ht,rfl⟩:=y4 hy;have:=((tK.out.ahd P hP t).1 ht).1;unfold I64;omega));simp only [Value.slice.injEq] at hAv2;obtain ⟨rfl,-,rfl⟩:=hAv2;have rm:=Jj sF;(have hP0:(0:Int)<=P:=by omega);(have hP1:(P:Int)<k:=by omega);have hPp:((P:Int) > 0):=by omega
   have halen:(ah P).length<=2000000:=by
    have h1:=tK.out.few P hP;have h2:n * (n+1)<=1000 * 1001:=Nat.mul_le_mul hn (by omega);omega
   clear tD sf hm sC hAv tV sF sG;(go_upto_region 8 with fail);clear d2 tH
   go_loopw [41] (λ s41 wq=>∃ (j e:Nat) (least':Nat->Nat) (above':Nat->Int),j<=(ah P).length/\s41=.int .i64 (j:Int)/\e<=P/\PredP par early P ((ah P).take j) e/\GrvI par k (P+1) (qM early P e) least' above'/\NrM w wq N0 Hg He Ha Hl (Hg+1) (Hg+1+1) k (.slice A1 k c1) (.slice A2 k c2) (.slice (some ⟨ga,0,none⟩) k c3) (qM early P e) least' above' near V W) (λ s41 _=>(ah P).length - (intOf s41).toNat)
   case atStart =>
    have he:qM early P P=early:=by
     funext v
     by_cases e:v=P
     ·subst e;rw [qF];exact (wm.out.fresh v (by omega)).symm
     ·rw [q8 _ _ e]
    exact ⟨0,P,least,above,Nat.zero_le _,rfl,J4 _,PredP.start _ _ _,by rw [he];exact rH.out,by rw [he];exact HM.out⟩
   case round =>
    obtain ⟨j,e,least',above',hj,rfl,heP,tf,tq,wh⟩:=hrel;have rq:=Jj tf;have sX:=Jj tq;have tM:=Jj wh
    by_cases sd:j<(ah P).length
    ·(have sc:Kept w wr:=q7 (by rw [<- ta.out];exact wh.fr));(obtain ⟨bu,ou,x,rfl,hx,hxc,-⟩:=(SL.keep sc (RInt.keep sc) rm.out).int (k:=j) (by rw [qg];exact sd));obtain ⟨u,hu,rfl⟩:=jD hx.out;have sD:u<k:=((tK.out.ahd P hP u).1 (Jz hu)).1;(have sJ:(0:Int)<=j:=by omega);(have sI:(j:Int)<(ah P).length:=by omega);have HU:=Jj hu;have sr:=Jj (q4G (place:=u) He Ha Hl wr.drew wk.out tq wh.drew.gv sD (by omega));have g0:wr.cell? ⟨Hg,0,none⟩=some (.slice (some ⟨He,0,none⟩) k k):=q6 wh.gb 0
     have g1:wr.cell? ⟨Hg,1,none⟩=some (.slice (some ⟨Ha,0,none⟩) k k):=q6 wh.gb 1;have g2:wr.cell? ⟨Hg,2,none⟩=some (.slice (some ⟨Hl,0,none⟩) k k):=q6 wh.gb 2;have sL:∀ x,x<k->wr.cell? ⟨He,x,none⟩=some (.int .i64 ((qM early P e x:Nat):Int)):=λ x hx=>wh.gv.e.cell hx;have rN:=Jj sL;clear tf tq wh sc hx hu sL;(go_upto_region 10 with fail);refine qS (L:=17) (S:=λ w'=>w'.cell? ⟨Hg,0,none⟩=some (.slice (some ⟨He,0,none⟩) k k)/\w'.cell? ⟨Hg,1,none⟩=some (.slice (some ⟨Ha,0,none⟩) k k)/\w'.cell? ⟨Hg,2,none⟩=some (.slice (some ⟨Hl,0,none⟩) k k)/\∀ x,x<k->w'.cell? ⟨He,x,none⟩=some (.int .i64 ((qM early P e x:Nat):Int))) (by kernel_rfl) (by rfl) (by kernel_rfl) (by kernel_rfl) ?_;change wpAnyH _ _ _ _ _ _ _ _ (World.drew _);have hS0:wr.drew.cell? ⟨Hg,0,none⟩=some (.slice (some ⟨He,0,none⟩) k k)/\wr.drew.cell? ⟨Hg,1,none⟩=some (.slice (some ⟨Ha,0,none⟩) k k)/\wr.drew.cell? ⟨Hg,2,none⟩=some (.slice (some ⟨Hl,0,none⟩) k k)/\∀ x,x<k->wr.drew.cell? ⟨He,x,none⟩=some (.int .i64 ((qM early P e x:Nat):Int)):=⟨g0,g1,g2,rN.out⟩
     clear g0 g1 g2;refine tk 0 45 hS0 ?_;simp only [J6,aS,J1,J2];refine tk 1 46 hS0 ?_;simp only [J6,aS,J1,J2];refine tk 2 47 hS0 ?_;simp only [J6,aS,J1,J2];refine tk 3 48 hS0 ?_;simp only [J6,aS,J1,J2]
     refine tk 4 49 hS0 ?_;simp only [J6,aS,J1,J2];refine tk 5 50 hS0 ?_;simp only [J6,aS,J1,J2];refine tk 6 51 hS0 ?_;simp only [J6,aS,J1,J2];refine tk 7 52 hS0 ?_;simp only [J6,aS,J1,J2];refine tk 8 53 hS0 ?_
     simp only [J6,aS,J1,J2];refine tk 9 54 hS0 ?_;simp only [J6,aS,J1,J2];refine tk 10 55 hS0 ?_;simp only [J6,aS,J1,J2];refine tk 11 56 hS0 ?_;simp only [J6,aS,J1,J2];refine zk (i:=12) (by kernel_rfl) (λ o ho K' hK=>?_);simp only [JZ,JX,JY,J0] at ho;subst ho
     (go_simp);refine sr.out.mono ?_;rintro e' wb ⟨x,least2,above2,rfl,sx,tz,tG,wv,tr⟩;have wg:=(tM.out.drew).best wv tr;have tL:=Jj wg;have rM:=Jj tG;have tO:=Jj tz;(have r9:(0:Int)<=x:=by omega);have r8:(x:Int)<k:=by omega
     have hSC:wb.cell? ⟨Hg,0,none⟩=some (.slice (some ⟨He,0,none⟩) k k)/\wb.cell? ⟨Hg,1,none⟩=some (.slice (some ⟨Ha,0,none⟩) k k)/\wb.cell? ⟨Hg,2,none⟩=some (.slice (some ⟨Hl,0,none⟩) k k)/\∀ x,x<k->wb.cell? ⟨He,x,none⟩=some (.int .i64 ((qM early P e x:Nat):Int)):=⟨q6 wg.gb 0,q6 wg.gb 1,q6 wg.gb 2,λ x hx=>wg.gv.e.cell hx⟩;have xc:=wg.gv.e.cell hP;have xf:=wg.gv.e.frozen P;refine hK.out _ _ hSC ?_;clear hK K' tz tG wv tr wg;(try simp only [J6,aS,J1,J2]);refine tk 13 58 hSC ?_;simp only [J6,aS,J1,J2];refine tk 14 59 hSC ?_
     simp only [J6,aS,J1,J2];refine tk 15 60 hSC ?_;simp only [J6,aS,J1,J2];refine tk 16 61 hSC ?_;simp only [J6,aS,J1,J2];refine wpAnyH_done (by kernel_rfl) ?_ _;refine vL (by decide) (λ o ho K' hK=>?_);(simp only [JZ,JX,JY,J0] at ho;subst ho);go_simp
     (rw [show (if qM early P e x<qM early P e P then ((qM early P e x:Nat):Int) else ((qM early P e P:Nat):Int))=((min e (qM early P e x):Nat):Int) by rw [qF];split <;> omega]);refine hK.out _ _ ?_;clear hK K' hSC hS0 xc xf;(have rt:Hid (PredP par early P ((ah P).take (j+1)) (min e (qM early P e x))):=Jj (by rw [qG HU.out];exact rq.out.step wk.out (λ v hv=>wm.out.fresh v (by omega)) sD tO.out heP));have rJ:Hid (GrvI par k (P+1) (qM early P (min e (qM early P e x))) least2 above2):=Jj (rM.out.congr λ v hv=>by rw [q8 _ _ (by omega),q8 _ _ (by omega)]);(have rz:=Jj ((tL.out.setE P (min e (qM early P e x))).congr (early':=qM early P (min e (qM early P e x))) (near':=near) (λ v _=>by unfold qM;by_cases e1:v=P <;> simp [e1]) (λ _ _=>rfl)));have rD:Hid (min e (qM early P e x)<=P):=Jj (by omega);go_wp2_with fail
     go_roundw
     case rel=>exact ⟨j+1,_,least2,above2,by omega,by go_num,rD.out,rt.out,rJ.out,rz.out⟩
     case measure=>simp [intOf];omega
    ·have tj:(ah P).take j=ah P:=List.take_of_length_le (by omega);rw [tj] at tf;obtain ⟨heP1,tw⟩:=tf.done wk.out (λ u=>tK.out.ahd P hP u) wm.out.ear h0 hP;have wV:=Jj tw;(have sh:e<k:=by omega);have g0:wr.cell? ⟨Hg,0,none⟩=some (.slice (some ⟨He,0,none⟩) k k):=q6 wh.gb 0;(have sM:wr.cell? ⟨He,P,none⟩=some (.int .i64 (e:Int)):=by have:=wh.gv.e.cell hP;rw [qF] at this;exact this);have tx:wr.cell? ⟨Hg+1+1,e,none⟩=some (V e):=wh.wt.row.cell sh;have sY:=Jj (wh.wt.row.frozen e)
     have tW:=wh.wt.own e sh;rw [qg] at tW;have sm:=Jj tW;(have hwl:(W e).length<=1000000:=by have:=wm.out.few e;omega);have hGs:Hg+1+1<wr.heap.size:=wh.wt.row.lt;(have he0:(0:Int)<=e:=by omega);(have he1:(e:Int)<k:=by omega);have hes:He<wr.heap.size:=wh.gv.e.lt;clear tf tq wh tj tw tW
     (go_upto_region 12 with fail);refine qS (L:=18) (S:=λ w'=>w'.cell? ⟨Hg,0,none⟩=some (.slice (some ⟨He,0,none⟩) k k)/\w'.cell? ⟨He,P,none⟩=some (.int .i64 (e:Int))/\w'.cell? ⟨Hg+1+1,e,none⟩=some (V e)) (by kernel_rfl) (by rfl) (by kernel_rfl) (by kernel_rfl) ?_;change wpAnyH _ _ _ _ _ _ _ _ (World.drew _);have hS:∀ w',Below wr.heap.size wr w'->w'.cell? ⟨Hg,0,none⟩=some (.slice (some ⟨He,0,none⟩) k k)/\w'.cell? ⟨He,P,none⟩=some (.int .i64 (e:Int))/\w'.cell? ⟨Hg+1+1,e,none⟩=some (V e):=λ w' h=>⟨q7 h _ _ g0,q7 h _ _ sM,q7 h _ _ tx⟩;have hS0:=hS wr.drew (J5 _ _).drew;clear g0 sM tx;refine tk 0 63 hS0 ?_;simp only [J6,aS,J1,J2];refine tk 1 64 hS0 ?_
     simp only [J6,aS,J1,J2];refine tk 2 65 hS0 ?_;simp only [J6,aS,J1,J2];refine tk 3 66 hS0 ?_;simp only [J6,aS,J1,J2];refine tk 4 67 hS0 ?_;simp only [J6,aS,J1,J2];refine tk 5 68 hS0 ?_;simp only [J6,aS,J1,J2]
     refine tk 6 69 hS0 ?_;simp only [J6,aS,J1,J2];refine tk 7 70 hS0 ?_;simp only [J6,aS,J1,J2];refine tk 8 71 hS0 ?_;simp only [J6,aS,J1,J2];refine tk 9 72 hS0 ?_;simp only [J6,aS,J1,J2];refine tk 10 73 hS0 ?_
     simp only [J6,aS,J1,J2];refine tk 11 74 hS0 ?_;simp only [J6,aS,J1,J2];refine tk 12 75 hS0 ?_;simp only [J6,aS,J1,J2];refine tk 13 76 hS0 ?_;simp only [J6,aS,J1,J2];refine tk 14 77 hS0 ?_;simp only [J6,aS,J1,J2]
     refine zk (i:=15) (by kernel_rfl) (λ o ho K' hK=>?_);(simp only [JZ,JX,JY,J0] at ho;subst ho);(go_simp);have sN:Below wr.heap.size wr (wr.alloc (.cells #[.int .i64 (P:Int)] 3)).drew:=((J5 _ wr).alloc (J4 _) _).drew;refine hK.out _ _ (hS _ sN) ?_;clear hK K';refine zk (i:=16) (by kernel_rfl) (λ o ho K' hK=>?_);(simp only [JZ,JX,JY,J0] at ho;subst ho);refine step_append_lies _ (by rfl) _ _ _ (by rfl) (Hg+1+1+1) 3 i0 (.int .i64 0) 1 8 Tryz.underlying27 tN.out.1 tN.out.2.1 tN.out.2.2.1 tN.out.2.2.2 rfl (by decide) (V e) (W e).length _ (by rfl) (sm.out.alloc _)
      ⟨wr.heap.size,0,none⟩ 1 1 [.int .i64 (P:Int)] (by rfl) (by rfl) (v7 _ _ _) (by intro u hu;rw [List.mem_singleton.1 hu];rfl) (by decide) (by unfold maxLen;omega) (by omega) (by simp;omega) (wr.heap.size+1) (by simp) ?_
     intro gc cap' wC hownC hgrowC hlocC hltC;have wU:Hid (GroD wr wC (V e) (.slice (some ⟨gc,0,none⟩) ((W e).length+1) cap')):=Jj (yC (qq (w:=wr.drew) hgrowC hlocC));have sQ:=Jj (tM.out.push sh wU.out hownC);(have hVb:∀ b,b<Hg+1+1+1->b<wr.heap.size->wC.heap[b]?=wr.heap[b]?:=λ b hb hz=>wU.out.block b hz (λ e=>by have:=(sm.out.lt b e).1;omega));have sb:=tM.out.lt;have hSC:wC.cell? ⟨Hg,0,none⟩=some (.slice (some ⟨He,0,none⟩) k k)/\wC.cell? ⟨He,P,none⟩=some (.int .i64 (e:Int))/\wC.cell? ⟨Hg+1+1,e,none⟩=some (V e):=⟨(JK (a:=⟨Hg,0,none⟩) (hVb Hg (by omega) (by omega))).trans hS0.1,(JK (a:=⟨He,P,none⟩) (hVb He (by omega) (by omega))).trans hS0.2.1,(JK (a:=⟨Hg+1+1,e,none⟩) (hVb (Hg+1+1) (by omega) (by omega))).trans hS0.2.2⟩;have xf:wC.frozen? ⟨Hg+1+1,e,none⟩=false:=(World.frozen?_of_block (a:=⟨Hg+1+1,e,none⟩) (hVb (Hg+1+1) (by omega) (by omega))).trans sY.out;have xc:=hSC.2.2;refine hK.out _ _ hSC ?_
     clear hK K' hgrowC hlocC hownC;simp only [J6,aS,J1,J2];refine tk 17 80 hSC ?_;simp only [J6,aS,J1,J2];refine wpAnyH_done (by kernel_rfl) ?_ _;refine vL (by decide) (λ o ho K' hK=>?_);(simp only [JZ,JX,JY,J0] at ho;subst ho);(go_simp);refine hK.out _ _ ?_
     clear hK K' hSC hS0 hS xc xf hVb sb hltC sN sm sY;generalize wC.setCell ⟨Hg+1+1,e,none⟩ (.slice (some ⟨gc,0,none⟩) ((W e).length+1) cap')=w7 at *;generalize hW1:qM W e (W e++[P])=W1 at *;generalize hV1:qM V e (.slice (some ⟨gc,0,none⟩) ((W e).length+1) cap')=V1 at *;clear wU hV1
     -- whence,and the place hung below it
     have hpl:par P<P:=wk.out.par_lt P h0 hP;(have tC:par P<k:=by omega);have wM:=sQ.out;(have tg:Kept w w7:=q7 (by rw [<- ta.out];exact wM.fr));obtain ⟨gf,capf,uf,sy,sE,si,-⟩:=vH HR.out.rf hP;obtain ⟨rfl,-⟩:=qu _ sE;simp only [Value.slice.injEq] at sy;obtain ⟨rfl,-,rfl⟩:=sy;have si:w7.cell? ⟨gf,P,none⟩=some (.int .i64 (par P:Int)):=by have:=tg _ _ si;unfold xu at this;rwa [if_neg (by omega)] at this
     have d1:w7.cell? ⟨N0,1,none⟩=some (.slice (some ⟨gf,0,none⟩) k c2):=q6 wM.tb 1;have g1:w7.cell? ⟨Hg,1,none⟩=some (.slice (some ⟨Ha,0,none⟩) k k):=q6 wM.gb 1;have xa:=wM.gv.a.cell hP;have xaf:=wM.gv.a.frozen P;(have hp0:(0:Int)<=(par P:Int):=by omega);(have hp1:(par P:Int)<k:=by omega);have sn:=Jj (wM.setA P (par P:Int));have rK:=Jj (sX.out.link wk.out h0 hP);clear sE wM tg sQ tM sX
     (go_upto_region 15 with fail);clear si d1 g1 xa xaf;generalize w7.setCell ⟨Ha,P,none⟩ (.int .i64 (par P:Int))=w8 at *;have tx:=sn.out.wt.row.cell tC;obtain ⟨Al,cl,hAl⟩:=zY (sn.out.wt.own (par P) tC);rw [qg] at hAl;rw [hAl] at tx;have hwl1:(W1 (par P)).length<=1000000:=by
      rw [<- hW1];have h1:=wm.out.few e;have h2:=wm.out.few (par P)
      by_cases e1:par P=e
      ·rw [e1,qF];simp;omega
      ·rw [q8 _ _ e1];omega
     (go_upto_region 16 with fail);clear tx
     go_loopw [96] (λ s96 wq=>∃ (j:Nat) (least3:Nat->Nat) (above3:Nat->Int) (near3:Nat->Nat),j<=(W1 (par P)).length/\s96=.int .i64 (j:Int)/\GrvI par k P (qM early P e) least3 above3/\NrM w wq N0 Hg He Ha Hl (Hg+1) (Hg+1+1) k (.slice A1 k c1) (.slice (some ⟨gf,0,none⟩) k c2) (.slice (some ⟨ga,0,none⟩) k c3) (qM early P e) least3 above3 near3 V1 W1/\(∀ v∈(W1 (par P)).take j,HandP par P (qM early P e) near3 v)/\(∀ v,v ∉ (W1 (par P)).take j->near3 v=near v)) (λ s96 _=>(W1 (par P)).length - (intOf s96).toNat)
     case atStart=>exact ⟨0,least',_,near,Nat.zero_le _,rfl,rK.out,sn.out,λ v hv=>by simp at hv,λ v _=>rfl⟩
     case round =>
      obtain ⟨j,least3,above3,near3,hj,rfl,tF,wu,tp,th⟩:=hrel;have rL:=Jj tF;have sS:=Jj wu;have sV:=Jj tp;have sU:=Jj th
      by_cases sd:j<(W1 (par P)).length
      ·(obtain ⟨gl,capl,ul,tS,tU,ri,-⟩:=vH (wu.wt.own (par P) tC) (i:=j) (by rw [qg];exact sd));rw [hAl,qg] at tS;simp only [Value.slice.injEq] at tS;obtain ⟨rfl,-,rfl⟩:=tS;have tT:∃ v:Nat,(W1 (par P))[j]?=some v/\ul=.int .i64 (v:Int):=by
        rw [List.getElem?_map] at tU;obtain ⟨x,hx,rfl⟩:=Option.map_eq_some_iff.1 tU;obtain ⟨v,hv,rfl⟩:=jD hx;exact ⟨v,hv,rfl⟩
       obtain ⟨v,hv,rfl⟩:=tT;(have tP:=wm.out.waits (e:=e) wk.out hP (par P) v (by rw [hW1];exact Jz hv));have tc:v<k:=tP.2.1;have wZ:=Jj tP;have HV:=Jj hv;(have sJ:(0:Int)<=j:=by omega);(have sI:(j:Int)<(W1 (par P)).length:=by omega);(have hv0:(0:Int)<=v:=by omega);have hv1:(v:Int)<k:=by omega
       have xn:=wu.nr.cell tc;have xnf:=wu.nr.frozen v;have wX:=wu.setN v (par P);have rC:=Jj wX;have sr:=Jj (q4G (place:=v) He Ha Hl _ wk.out tF wX.gv tc (by omega));have g0:(wr.setCell ⟨Hg+1,v,none⟩ (.int .i64 (par P:Int))).cell? ⟨Hg,0,none⟩=some (.slice (some ⟨He,0,none⟩) k k):=q6 wX.gb 0;have g1:(wr.setCell ⟨Hg+1,v,none⟩ (.int .i64 (par P:Int))).cell? ⟨Hg,1,none⟩=some (.slice (some ⟨Ha,0,none⟩) k k):=q6 wX.gb 1;have g2:(wr.setCell ⟨Hg+1,v,none⟩ (.int .i64 (par P:Int))).cell? ⟨Hg,2,none⟩=some (.slice (some ⟨Hl,0,none⟩) k k):=q6 wX.gb 2;clear tF wu tp th tU tP hv wX
       (go_upto_region 19 with fail);clear xn xnf ri;generalize wr.setCell ⟨Hg+1,v,none⟩ (.int .i64 (par P:Int))=w9 at *;(go_wp2_with fail);refine sr.out.mono ?_;rintro e' wb ⟨x,least4,above4,rfl,sx,tz,sK,wv,tr⟩;have wW:=rC.out.best wv tr;have sR:=Jj wW;have sW:=Jj sK
       have tO:=Jj tz;(have r9:(0:Int)<=x:=by omega);(have r8:(x:Int)<k:=by omega);have g3:wb.cell? ⟨Hg,0,none⟩=some (.slice (some ⟨He,0,none⟩) k k):=q6 wW.gb 0;have xe:=wW.gv.e.cell sx;have xn:=wW.nr.cell tc;rw [qF] at xn;have xnf:=wW.nr.frozen v;clear g0 g1 g2 tz sK wv tr wW
       by_cases wj:qM early P e x<par P
       ·(have wO:((qM early P e x:Nat):Int)<(par P:Int):=by omega);have tZ:decide (((qM early P e x:Nat):Int)<(par P:Int))=true:=decide_eq_true wO;have rA:=Jj (sR.out.setN v x)
        have sq:Hid (∀ y∈(W1 (par P)).take (j+1),HandP par P (qM early P e) (qM (qM near3 v (par P)) v x) y):=Jj (λ y hy=>by
         by_cases ey:y=v
         ·subst ey;exact q5x wk.out wV.out h0 hP wZ.out.1 tc wZ.out.2.2.1 wZ.out.2.2.2 tO.out _ (by rw [qF,if_pos wj])
         ·rw [qG HV.out] at hy;rcases List.mem_append.1 hy with hy | hy
          ·exact (sV.out y hy).congr (by rw [q8 _ _ ey,q8 _ _ ey])
          ·exact absurd (List.mem_singleton.1 hy) ey)
        have sp:Hid (∀ y,y ∉ (W1 (par P)).take (j+1)->(qM (qM near3 v (par P)) v x) y=near y):=Jj (λ y hy=>by
         rw [qG HV.out,List.mem_append,List.mem_singleton] at hy;have ey:y≠v:=λ e=>hy (.inr e);rw [show (qM (qM near3 v (par P)) v x) y=near3 y by rw [q8 _ _ ey,q8 _ _ ey]]
         exact sU.out y λ h=>hy (.inl h))
        go_wp2_with fail
        go_roundw
        case rel=>exact ⟨j+1,least4,above4,_,by omega,by go_num,sW.out,rA.out,sq.out,sp.out⟩
        case measure=>simp [intOf];omega
       ·(have wO:¬ ((qM early P e x:Nat):Int)<(par P:Int):=by omega);have tZ:decide (((qM early P e x:Nat):Int)<(par P:Int))=false:=decide_eq_false wO
        have sq:Hid (∀ y∈(W1 (par P)).take (j+1),HandP par P (qM early P e) (qM near3 v (par P)) y):=Jj (λ y hy=>by
         by_cases ey:y=v
         ·subst ey;exact q5x wk.out wV.out h0 hP wZ.out.1 tc wZ.out.2.2.1 wZ.out.2.2.2 tO.out _ (by rw [qF,if_neg wj])
         ·rw [qG HV.out] at hy;rcases List.mem_append.1 hy with hy | hy
          ·exact (sV.out y hy).congr (by rw [q8 _ _ ey])
          ·exact absurd (List.mem_singleton.1 hy) ey)
        have sp:Hid (∀ y,y ∉ (W1 (par P)).take (j+1)->(qM near3 v (par P)) y=near y):=Jj (λ y hy=>by
         rw [qG HV.out,List.mem_append,List.mem_singleton] at hy;have ey:y≠v:=λ e=>hy (.inr e);rw [show (qM near3 v (par P)) y=near3 y by rw [q8 _ _ ey]]
         exact sU.out y λ h=>hy (.inl h))
        go_wp2_with fail
        go_roundw
        case rel=>exact ⟨j+1,least4,above4,_,by omega,by go_num,sW.out,sR.out,sq.out,sp.out⟩
        case measure=>simp [intOf];omega
      ·have tj:(W1 (par P)).take j=W1 (par P):=List.take_of_length_le (by omega);rw [tj] at tp th;(have rx:Hid (NrI k P (xR nx k bl) par (qM early P e) near3 (qM W1 (par P) [])):=Jj (by rw [<- hW1];exact wm.out.next wk.out h0 hP wV.out (by rw [hW1];exact tp) (by rw [hW1];exact th)));have ry:=Jj (wu.nilW (par P));have xw:=wu.wt.row.cell tC;have xwf:=wu.wt.row.frozen (par P);clear tp th tj tF wu;go_wp2_with fail
       go_roundw
       case rel=>exact ⟨P - 1,_,least3,above3,near3,_,_,by congr 1;omega,by omega,by rw [show P - 1+1=P by omega];exact rx.out,by rw [show P - 1+1=P by omega];exact rL.out,ry.out⟩
       case measure=>simp [intOf];omega
  ·(obtain rfl:P=0:=by omega);(have hz:¬ (((0:Nat):Int) > 0):=by omega);have ru:=Jj (NdI.start (near:=near) tD);clear tD sf hm;go_upto_region 25 with fail
   go_loopw [124] (λ s124 wq=>∃ (j:Nat) (near2:Nat->Nat),j<=k/\s124=.int .i64 (j:Int)/\NdI k par early near near2 j/\NrM w wq N0 Hg He Ha Hl (Hg+1) (Hg+1+1) k (.slice A1 k c1) (.slice A2 k c2) (.slice A3 k c3) early least above near2 V W) (λ s124 _=>k - (intOf s124).toNat)
   case atStart=>exact ⟨0,near,Nat.zero_le _,rfl,ru.out,HM.out⟩
   case round =>
    obtain ⟨j,near2,hj,rfl,hnd,wg⟩:=hrel;have HND:=Jj hnd;have tL:=Jj wg
    by_cases tE:j<k
    ·have hb:near2 j<k:=by
      have h1:=hnd.left j (J4 _);rcases Nat.eq_zero_or_pos j with h2 | h2
      ·subst h2;rw [hnd.zero];omega
      ·have:=wm.out.pick wk.out h2 tE;omega
     have xn:=wg.nr.cell tE;have xnf:=wg.nr.frozen j;have xb:=wg.nr.cell hb;have xe:=wg.gv.e.cell tE;have g0:wr.cell? ⟨Hg,0,none⟩=some (.slice (some ⟨He,0,none⟩) k k):=q6 wg.gb 0;(have sJ:(0:Int)<=j:=by omega);(have sI:(j:Int)<k:=by omega);(have hb0:(0:Int)<=near2 j:=by omega);have hb1:(near2 j:Int)<k:=by omega
     have wT:=Jj (hnd.step wk.out wm.out tE);clear hnd wg
     by_cases tu:near2 j=early j
     ·(have rl:(((near2 j:Nat):Int) != ((early j:Nat):Int))=false:=by simp [tu]);(have sk:Hid (NdI k par early near near2 (j+1)):=Jj (by have:=wT.out;rwa [if_pos tu] at this));clear tu;go_wp2_with fail
      go_roundw
      case rel=>exact ⟨j+1,near2,by omega,by go_num,sk.out,tL.out⟩
      case measure=>simp [intOf];omega
     ·(have rl:(((near2 j:Nat):Int) != ((early j:Nat):Int))=true:=by simp;omega);(have sk:Hid (NdI k par early near (qM near2 j (near2 (near2 j))) (j+1)):=Jj (by have:=wT.out;rwa [if_neg tu] at this));have sS:=Jj (tL.out.setN j (near2 (near2 j)));clear tu;go_wp2_with fail
      go_roundw
      case rel=>exact ⟨j+1,_,by omega,by go_num,sk.out,sS.out⟩
      case measure=>simp [intOf];omega
    ·(obtain rfl:k=j:=by omega);have xn:=wg.nr.cell sH;have xnf:=wg.nr.frozen 0;(have hkp:((k:Int) > 0):=by omega);(have rp:=Jj ((wg.nr.set 0 (.int .i64 (-1))).congr (g:=λ v=>.int .i64 (if v=0 then -1 else (near2 v:Int))) λ v _=>by by_cases e:v=0 <;> simp [e]));(have rQ:=Jj (wg.fr.setCell (p:=⟨Hg+1,0,none⟩) (by have:=wg.lt;show N0<=Hg+1;omega) (.int .i64 (-1))));have rv:=Jj hnd.all;(have rF:Hid (N0<=Hg+1):=Jj (by have:=wg.lt;omega));clear hnd wg
     (go_wp2_with fail);(go_ret);exact ⟨⟨Hg+1,early,near2,rfl,by rw [<- ta.out];exact rF.out,wm.out.ear,rv.out,rp.out⟩,by rw [<- ta.out];exact rQ.out⟩
end Go.Proofs.YtfoggldjjnabcaaGreatDoor

namespace Go.Proofs.YtfoggldjjnabcaaGreatDoor
open Go.ChangeShapes Go.WideShapes Go.RowKit Go.Deep
def qi (bs:List qE) (b w:Int) (x:Nat):Bool:=if 0<=b/\b<bs.length/\b≠w then xP (nxF bs) w bs.length b.toNat bs.length x else false
end Go.Proofs.YtfoggldjjnabcaaGreatDoor
