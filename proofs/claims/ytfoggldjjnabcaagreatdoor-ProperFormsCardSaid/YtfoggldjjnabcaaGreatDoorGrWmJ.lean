/- The nearest of each place, as the program reckons them. -/
import Derived.Test.YtfoggldjjnabcaaGreatDoorDmVJ
import Derived.Test.YtfoggldjjnabcaaGreatDoorGrNmJ
namespace Go.Proofs.YtfoggldjjnabcaaGreatDoor
open Go.ChangeShapes Go.WideShapes Go.RowKit Go.Deep
set_option linter.unusedVariables false
structure NrM (w0 w:World) (N0 Hg He Ha Hl Hn Gw k:Nat) (vb vf va:Value) (early least:Nat→Nat) (above:Nat→Int) (near:Nat→Nat) (V:Nat→Value) (W:Nat→List Nat):Prop where
  gv:GvM w k He Ha Hl early least above
  gb:w.heap[Hg]?=some (.cells #[.slice (some ⟨He,0,none⟩) k k,.slice (some ⟨Ha,0,none⟩) k k,.slice (some ⟨Hl,0,none⟩) k k] 189)
  tb:w.heap[N0]?=some (.cells #[vb,vf,va] 147)
  nr:w.rowIs Hn 3 k (fun v=>.int .i64 (near v:Int))
  wt:Gri w Gw (Gw+1) k V (fun s=>zs (W s))
  fr:Below N0 w0 w
  lt:N0<He∧N0<Ha∧N0<Hl∧He<Hg∧Ha<Hg∧Hl<Hg∧Hg<Hn∧Hn<Gw
section
variable {w0 w w':World} {N0 Hg He Ha Hl Hn Gw k:Nat} {vb vf va:Value} {early least:Nat→Nat} {above:Nat→Int} {near:Nat→Nat} {V:Nat→Value} {W:Nat→List Nat}
theorem NrM.drew (h:NrM w0 w N0 Hg He Ha Hl Hn Gw k vb vf va early least above near V W):NrM w0 w.drew N0 Hg He Ha Hl Hn Gw k vb vf va early least above near V W :=
  ⟨h.gv.of_blocks rfl rfl rfl,h.gb,h.tb,h.nr,h.wt.drewN 1,⟨h.fr.os,h.fr.tape,h.fr.output,h.fr.size,h.fr.block⟩,h.lt⟩
theorem NrM.best (h:NrM w0 w N0 Hg He Ha Hl Hn Gw k vb vf va early least above near V W) {least':Nat→Nat} {above':Nat→Int} (hg:GvM w' k He Ha Hl early least' above') (hf:FrX (fun b=>b=Ha∨b=Hl) w w'):NrM w0 w' N0 Hg He Ha Hl Hn Gw k vb vf va early least' above' near V W:=by
  have hlt:=h.lt;have hG:=h.wt.row.lt;refine ⟨hg,hf.box h.gb (by omega),hf.box h.tb (by omega),h.nr.of_block (hf.block _ h.nr.lt (by omega)),h.wt.of_blocks (hf.block _ hG (by omega)) (fun g hg1 hg2=>hf.block g hg2 (by omega)),?_,hlt⟩;have h0:N0<w.heap.size:=(Array.getElem?_eq_some_iff.1 h.tb).1;exact h.fr.trans (hf.below (by omega) (fun b hb=>by omega))
theorem NrM.setE (h:NrM w0 w N0 Hg He Ha Hl Hn Gw k vb vf va early least above near V W) (P x:Nat):NrM w0 (w.setCell ⟨He,P,none⟩ (.int .i64 (x:Int))) N0 Hg He Ha Hl Hn Gw k vb vf va (updF early P x) least above near V W:=by
  have hlt:=h.lt;have hne:=h.gv.ne;have hs:∀ b,b≠He→(w.setCell ⟨He,P,none⟩ (.int .i64 (x:Int))).heap[b]?=w.heap[b]?:=fun b hb=>Below.heap_setCell _ _ _ _ hb;exact ⟨⟨(h.gv.e.set P (.int .i64 (x:Int))).congr fun v _=>by unfold updF;by_cases e:v=P <;> simp [e],h.gv.a.of_block (hs Ha (by omega)),h.gv.l.of_block (hs Hl (by omega)),hne⟩,(hs Hg (by omega)).trans h.gb,(hs N0 (by omega)).trans h.tb,h.nr.of_block (hs Hn (by omega)),h.wt.setOther (by show Gw≠He;omega) (by show He<Gw+1;omega) _,h.fr.setCell (by show N0≤He;omega) _,hlt⟩
theorem NrM.setA (h:NrM w0 w N0 Hg He Ha Hl Hn Gw k vb vf va early least above near V W) (P:Nat) (x:Int):NrM w0 (w.setCell ⟨Ha,P,none⟩ (.int .i64 x)) N0 Hg He Ha Hl Hn Gw k vb vf va early least (updF above P x) near V W:=by
  have hlt:=h.lt;have hne:=h.gv.ne;have hs:∀ b,b≠Ha→(w.setCell ⟨Ha,P,none⟩ (.int .i64 x)).heap[b]?=w.heap[b]?:=fun b hb=>Below.heap_setCell _ _ _ _ hb;exact ⟨⟨h.gv.e.of_block (hs He (by omega)),(h.gv.a.set P (.int .i64 x)).congr fun v _=>by unfold updF;by_cases e:v=P <;> simp [e],h.gv.l.of_block (hs Hl (by omega)),hne⟩,(hs Hg (by omega)).trans h.gb,(hs N0 (by omega)).trans h.tb,h.nr.of_block (hs Hn (by omega)),h.wt.setOther (by show Gw≠Ha;omega) (by show Ha<Gw+1;omega) _,h.fr.setCell (by show N0≤Ha;omega) _,hlt⟩
theorem NrM.setN (h:NrM w0 w N0 Hg He Ha Hl Hn Gw k vb vf va early least above near V W) (P x:Nat):NrM w0 (w.setCell ⟨Hn,P,none⟩ (.int .i64 (x:Int))) N0 Hg He Ha Hl Hn Gw k vb vf va early least above (updF near P x) V W:=by
  have hlt:=h.lt;have hs:∀ b,b≠Hn→(w.setCell ⟨Hn,P,none⟩ (.int .i64 (x:Int))).heap[b]?=w.heap[b]?:=fun b hb=>Below.heap_setCell _ _ _ _ hb;exact ⟨h.gv.of_blocks (hs He (by omega)) (hs Ha (by omega)) (hs Hl (by omega)),(hs Hg (by omega)).trans h.gb,(hs N0 (by omega)).trans h.tb,(h.nr.set P (.int .i64 (x:Int))).congr fun v _=>by unfold updF;by_cases e:v=P <;> simp [e],h.wt.setOther (by show Gw≠Hn;omega) (by show Hn<Gw+1;omega) _,h.fr.setCell (by show N0≤Hn;omega) _,hlt⟩
theorem Gri.nil {w:World} {G K n:Nat} {V:Nat→Value} {L:Nat→List Int} (h:Gri w G K n V L) (t:Nat):Gri (w.setCell ⟨G,t,none⟩ (.slice none 0 0)) G K n (updF V t (.slice none 0 0)) (updF L t []):=by
  refine ⟨(h.row.set t _).congr fun v _=>by unfold updF;rfl,fun i hi=>?_,fun i j hi hj hij=>?_,h.lt⟩
  · by_cases e:i=t
    · subst e;rw [qB,qB];exact World.ownsRow_nil _ _ _ _
    · rw [q9 _ _ e,q9 _ _ e];exact ownsRow_setCell_below (h.own i hi) (a:=⟨G,t,none⟩) h.lt _
  · by_cases ei:i=t
    · subst ei;rw [qB];exact .inl rfl
    · rw [q9 _ _ ei]
      by_cases ej:j=t
      · (subst ej;rw [qB]);cases hb:(V i).ownBlock with
        | none=>exact .inl rfl
        | some b=>right;intro e;cases e
      · rw [q9 _ _ ej];exact h.apart i j hi hj hij
theorem NrM.nilW (h:NrM w0 w N0 Hg He Ha Hl Hn Gw k vb vf va early least above near V W) (P:Nat):NrM w0 (w.setCell ⟨Gw,P,none⟩ (.slice none 0 0)) N0 Hg He Ha Hl Hn Gw k vb vf va early least above near (updF V P (.slice none 0 0)) (updF W P []):=by
  have hlt:=h.lt;have hs:∀ b,b≠Gw→(w.setCell ⟨Gw,P,none⟩ (.slice none 0 0)).heap[b]?=w.heap[b]?:=fun b hb=>Below.heap_setCell _ _ _ _ hb;exact ⟨h.gv.of_blocks (hs He (by omega)) (hs Ha (by omega)) (hs Hl (by omega)),(hs Hg (by omega)).trans h.gb,(hs N0 (by omega)).trans h.tb,h.nr.of_block (hs Hn (by omega)),(h.wt.nil P).congr fun i _=>by unfold updF;split <;> rfl,h.fr.setCell (by show N0≤Gw;omega) _,hlt⟩
theorem NrM.push (h:NrM w0 w N0 Hg He Ha Hl Hn Gw k vb vf va early least above near V W) {t x:Nat} (ht:t<k) {g cap:Nat} (hg:GroD w w' (V t) (.slice (some ⟨g,0,none⟩) ((W t).length+1) cap)) (ho:w'.ownsRow (Gw+1) 3 1 (.slice (some ⟨g,0,none⟩) ((W t).length+1) cap) ((W t).length+1) ((zs (W t)).map (Value.int .i64)++[.int .i64 (x:Int)])) :
    NrM w0 (w'.setCell ⟨Gw,t,none⟩ (.slice (some ⟨g,0,none⟩) ((W t).length+1) cap)) N0 Hg He Ha Hl Hn Gw k vb vf va early least above near (updF V t (.slice (some ⟨g,0,none⟩) ((W t).length+1) cap)) (updF W t (W t++[x])):=by
  have hlt:=h.lt;have hV:=(h.wt.own t ht).lt;(have hK:∀ b,b<Gw+1→b<w.heap.size→w'.heap[b]?=w.heap[b]?:=fun b hb hz=>hg.block b hz (fun e=>by have:=(hV b e).1;omega));have hzs:(zs (W t)).length=(W t).length:=qc _;have hN0:N0<w.heap.size:=(Array.getElem?_eq_some_iff.1 h.tb).1;have hHg:Hg<w.heap.size:=(Array.getElem?_eq_some_iff.1 h.gb).1;have hs:∀ b,b≠Gw→(w'.setCell ⟨Gw,t,none⟩ (.slice (some ⟨g,0,none⟩) ((W t).length+1) cap)).heap[b]?=w'.heap[b]?:=fun b hb=>Below.heap_setCell _ _ _ _ hb;have hal:∀ b,b<Gw→b<w.heap.size→(w'.setCell ⟨Gw,t,none⟩ (.slice (some ⟨g,0,none⟩) ((W t).length+1) cap)).heap[b]?=w.heap[b]?:=fun b hb hz=>(hs b (by omega)).trans (hK b (by omega) hz);refine ⟨h.gv.of_blocks (hal He (by omega) h.gv.e.lt) (hal Ha (by omega) h.gv.a.lt) (hal Hl (by omega) h.gv.l.lt),(hal Hg (by omega) hHg).trans h.gb,(hal N0 (by omega) hN0).trans h.tb,h.nr.of_block (hal Hn (by omega) h.nr.lt),?_,?_,hlt⟩
  · have hrow':w'.rowIs Gw 27 k V:=h.wt.row.of_block (hK Gw (by omega) h.wt.row.lt);refine ⟨(hrow'.set t _).congr fun v _=>by unfold updF;rfl,fun i hi=>?_,fun i j hi hj hij=>?_,by omega⟩
    · refine ownsRow_setCell_below (a:=⟨Gw,t,none⟩) ?_ (by show Gw<Gw+1;omega) _
      by_cases e:i=t
      · subst e;rw [qB,qB,zs_snoc,List.map_append];simpa [hzs] using ho
      · rw [q9 _ _ e,q9 _ _ e];refine qH (h.wt.own i hi) fun b hb=>hg.block b ((h.wt.own i hi).lt b hb).2 fun e2=>?_;rcases h.wt.apart i t hi ht e with h2 | h2
        · rw [h2] at hb;cases hb
        · exact h2 (hb.trans e2.symm)
    · have key:∀ j,j<k→j≠t→(V j).ownBlock=none∨(V j).ownBlock≠some g:=fun j hj hjt=>by
        cases hb:(V j).ownBlock with
        | none=>exact .inl rfl
        | some b =>
          (right;intro e);rcases hg.own g rfl with h1 | h1
          · rcases h.wt.apart j t hj ht hjt with h2 | h2
            · rw [h2] at hb;cases hb
            · exact h2 (by rw [hb,h1];exact e)
          · have:=((h.wt.own j hj).lt b hb).2;have:=Option.some.inj e;omega
      by_cases ei:i=t
      · subst ei;rw [qB,q9 _ _ (Ne.symm hij)];right;rcases key j hj (Ne.symm hij) with h1 | h1
        · rw [h1];intro e;cases e
        · exact fun e=>h1 e.symm
      · rw [q9 _ _ ei]
        by_cases ej:j=t
        · subst ej;rw [qB];exact key i hi ei
        · rw [q9 _ _ ej];exact h.wt.apart i j hi hj hij
  · (refine Below.setCell ?_ (p:=⟨Gw,t,none⟩) (by show N0≤Gw;omega) _);exact h.fr.trans ⟨hg.os,hg.tape,hg.output,hg.size,fun b hb=>hK b (by omega) (by omega)⟩
theorem NrM.congr (h:NrM w0 w N0 Hg He Ha Hl Hn Gw k vb vf va early least above near V W) {early' near':Nat→Nat} (he:∀ v,v<k→early' v=early v) (hn:∀ v,v<k→near' v=near v):NrM w0 w N0 Hg He Ha Hl Hn Gw k vb vf va early' least above near' V W :=
  ⟨⟨h.gv.e.congr fun v hv=>by rw [he v hv],h.gv.a,h.gv.l,h.gv.ne⟩,h.gb,h.tb,h.nr.congr fun v hv=>by rw [hn v hv],h.wt,h.fr,h.lt⟩
theorem NrM.start (hg:GvM w k He Ha Hl early least above) (ht:w.heap[N0]?=some (.cells #[vb,vf,va] 147)) (hb:Below N0 w0 w) (hE:N0<He) (hA:N0<Ha) (hL:N0<Hl) :
    NrM w0 (((w.alloc (.cells #[.slice (some ⟨He,0,none⟩) k k,.slice (some ⟨Ha,0,none⟩) k k,.slice (some ⟨Hl,0,none⟩) k k] 189)).alloc (.cells (madeCells #[.int .i64 0] k) 3)).alloc (.cells (madeCells #[.slice none 0 0] k) 27))
      N0 w.heap.size He Ha Hl (w.heap.size+1) (w.heap.size+1+1) k vb vf va early least above (fun _=>0) (fun _=>.slice none 0 0) (fun _=>[]):=by
  obtain ⟨b0,b1,b2,hz,hbel⟩:=boxes3t w w.heap.size rfl (.cells #[.slice (some ⟨He,0,none⟩) k k,.slice (some ⟨Ha,0,none⟩) k k,.slice (some ⟨Hl,0,none⟩) k k] 189) (.cells (madeCells #[.int .i64 0] k) 3) (.cells (madeCells #[.slice none 0 0] k) 27) _ rfl;have h0:N0<w.heap.size:=(Array.getElem?_eq_some_iff.1 ht).1;have h1:=hg.e.lt;have h2:=hg.a.lt;have h3:=hg.l.lt;refine ⟨hg.of_blocks (hbel.block He h1) (hbel.block Ha h2) (hbel.block Hl h3),b0,(hbel.block N0 h0).trans ht,row_made b1,?_,hb.trans (hbel.mono (by omega)),by omega⟩;exact Gri.made _ _ _ k (by simp) (by omega)
end
theorem HandP.congr {par early near near':Nat→Nat} {L v:Nat} (h:HandP par L early near v) (he:near' v=near v):HandP par L early near' v:=by
  obtain ⟨x,h1,h2,h3,h4⟩:=h;exact ⟨x,h1,h2,h3,by rw [he];exact h4⟩
def ToldTn (k:Nat) (E:Nat→Nat→Prop) (par:Nat→Nat) (w0:World) (e:Ending) (w':World):Prop :=
  (∃ (Hn:Nat) (s near:Nat→Nat),e=.returned (.slice (some ⟨Hn,0,none⟩) k k)∧w0.heap.size≤Hn∧EarlyP 1 k E par s∧NearP k par s near∧w'.rowIs Hn 3 k (fun v=>.int .i64 (if v=0 then -1 else (near v:Int))))∧Below w0.heap.size w0 w'
set_option maxRecDepth 100000 in
set_option maxHeartbeats 16000000 in
theorem tnear_any (nx:Nat→List Nat) (n k:Nat) (bl par:Nat→Nat) (ah:Nat→List Nat) (pl:Nat→Int) (vb vf va:Value) (V0:Nat→Value) (K0:Nat) (w:World) (TE:TvE nx n k bl par ah pl) (R:TvR w K0 k vb vf va V0 bl par ah) (hn:n≤1000) :
    Calls Tryz.prog 97 #[.agg #[vb,vf,va]] w (ToldTn k (EdgeP nx k bl) par w):=by
  have hkn:=TE.kn;have hk0:=TE.first.1;have hmk:=run_make_row' (P:=Tryz.prog) 27 3 (.int .i64 0) 8 Tryz.underlying27 Tryz.info3 rfl .i64 .i64 k (by omega) (by omega);have hmk2:=run_make_row' (P:=Tryz.prog) 65 27 (.slice none 0 0) 24 Tryz.underlying65 Tryz.info27 rfl .i64 .i64 k (by omega) (by omega);obtain ⟨i0,hi,hz0,hz1,hz2⟩:=info_parts Tryz.info3;have HI0:=Lib.hid (And.intro hi (And.intro hz0 (And.intro hz1 hz2)));clear hi hz0 hz1 hz2;obtain ⟨A1,c1,rfl⟩:=qg R.rb;obtain ⟨A2,c2,rfl⟩:=qg R.rf
  obtain ⟨A3,c3,rfl⟩:=qg R.ra;have HTE:=Lib.hid TE;have HR:=Lib.hid R;have HTR:=Lib.hid TE.tree;clear TE R;(go_enter Tryz.func97,Tryz.ntmps97);(go_upto_region 1 with fail);obtain ⟨w1,hw1,hs1,hk1,hbel1,hc1,-⟩:=named w #[.slice A1 k c1,.slice A2 k c2,.slice A3 k c3] 147;obtain ⟨N0,hN0⟩:∃ N0,N0=w.heap.size:=⟨_,rfl⟩
  rw [← hw1,← hN0];(have hbox:w1.heap[N0]?=some (.cells #[.slice A1 k c1,.slice A2 k c2,.slice A3 k c3] 147):=by rw [hw1,hN0];exact heap_alloc_new w _);have c0:w1.cell? ⟨N0,0,none⟩=some (.slice A1 k c1):=q7 hbox 0;have HNG:=Lib.hid (newGrove_any k w1 (by omega));have HBX:=Lib.hid hbox;have HB1:=Lib.hid hbel1;have HN0:=Lib.hid hN0;have HS1:Hid (w1.heap.size=N0+1):=Lib.hid (by omega);clear hw1 hs1 hk1 hbel1 hc1 hbox hN0 hmk hmk2
  (go_wp2_with fail);refine HNG.out.mono ?_;rintro e w2 ⟨⟨He,Ha,Hl,rfl,h1,h2,h3,hgv⟩,hb2⟩;have hmk:=run_make_row' (P:=Tryz.prog) 27 3 (.int .i64 0) 8 Tryz.underlying27 Tryz.info3 rfl .i64 .i64 k (by omega) (by omega);have hmk2:=run_make_row' (P:=Tryz.prog) 65 27 (.slice none 0 0) 24 Tryz.underlying65 Tryz.info27 rfl .i64 .i64 k (by omega) (by omega);(have hN1:N0<w1.heap.size:=by have:=HS1.out;omega);have hbx2:=(hb2.block N0 hN1).trans HBX.out;(have HST:=Lib.hid (NrM.start (w0:=w) hgv hbx2 ((show Below N0 w w1 by rw [HN0.out];exact HB1.out).trans (hb2.mono (by omega))) (by omega) (by omega) (by omega)));have hcc0:w2.cell? ⟨N0,0,none⟩=some (.slice A1 k c1):=q7 hbx2 0
  (have hN2:N0<w2.heap.size:=by have:=hb2.size;omega);clear c0 HNG h1 h2 h3 hgv hb2 hbx2 hN1;(go_upto_region 4 with fail);obtain ⟨Hg,hHg⟩:∃ Hg,Hg=w2.heap.size:=⟨_,rfl⟩;obtain ⟨w5,hw5⟩:∃ w5,w5=((w2.alloc (.cells #[.slice (some ⟨He,0,none⟩) k k,.slice (some ⟨Ha,0,none⟩) k k,.slice (some ⟨Hl,0,none⟩) k k] 189)).alloc (.cells (madeCells #[.int .i64 0] k) 3)).alloc (.cells (madeCells #[.slice none 0 0] k) 27):=⟨_,rfl⟩;have hst:=HST.out;rw [← hw5,← hHg] at hst;rw [← hw5,← hHg];clear HST hmk hmk2 hcc0 hN2 hw5 hHg
  have HST:=Lib.hid hst;have hc0:w5.cell? ⟨N0,0,none⟩=some (.slice A1 k c1):=q7 hst.tb 0;clear hst;(go_wp2_with fail);clear hc0
  go_loopw [6] (fun s6 wq=>∃ (P:Nat) (early least:Nat→Nat) (above:Nat→Int) (near:Nat→Nat) (V:Nat→Value) (W:Nat→List Nat),s6=.int .i64 (P:Int)∧P<k∧NrI k (P+1) (EdgeP nx k bl) par early near W∧GrvI par k (P+1) early least above∧NrM w wq N0 Hg He Ha Hl (Hg+1) (Hg+1+1) k (.slice A1 k c1) (.slice A2 k c2) (.slice A3 k c3) early least above near V W) (fun s6 _=>(intOf s6).toNat)
  case atStart =>
    refine ⟨k - 1,_,_,_,_,_,_,by congr 1;omega,by omega,?_,?_,HST.out⟩
    · rw [show k - 1+1=k by omega];exact NrI.start _ par k hk0 fun u v h=>(HTR.out.lt u v h).2
    · rw [show k - 1+1=k by omega];exact GrvI.start par k _
  case round =>
    obtain ⟨P,early,least,above,near,V,W,rfl,hP,hni,hgr,hm⟩:=hrel;obtain ⟨wo,rfl⟩:∃ wo,wo=wr:=⟨wr,rfl⟩;have HNI:=Lib.hid hni;have HGR:=Lib.hid hgr;have HM:=Lib.hid hm
    by_cases h0:0<P
    · have d2:wo.cell? ⟨N0,2,none⟩=some (.slice A3 k c3):=q7 hm.tb 2;(have hkw:Kept w wo:=q6 (by rw [← HN0.out];exact hm.fr));obtain ⟨ga,capa,ux,hva,hux,hca,-⟩:=own_cellD HR.out.ra hP;obtain ⟨rfl,-⟩:=qj _ hux;simp only [Value.slice.injEq] at hva;obtain ⟨rfl,-,rfl⟩:=hva;have hca:=hkw _ _ hca;obtain ⟨Av,cv,hAv⟩:=qg (HR.out.rV P hP);rw [hAv] at hca
      have hrv:=HR.out.rV P hP;rw [hAv] at hrv;(obtain ⟨Av2,cv2,hAv2,hsl⟩:=qx (xs:=zs (ah P)) (by rw [qc];exact hrv) (fun y hy=>by obtain ⟨t,ht,rfl⟩:=zs_mem hy;have:=((HTE.out.ahd P hP t).1 ht).1;unfold I64;omega));simp only [Value.slice.injEq] at hAv2;obtain ⟨rfl,-,rfl⟩:=hAv2;have HSL:=Lib.hid hsl;(have hP0:(0:Int)≤P:=by omega);(have hP1:(P:Int)<k:=by omega);have hPp:((P:Int) > 0):=by omega
      have halen:(ah P).length≤2000000:=by
        have h1:=HTE.out.few P hP;have h2:n * (n+1)≤1000 * 1001:=Nat.mul_le_mul hn (by omega);omega
      clear hni hgr hm hux hAv hrv hsl hkw;(go_upto_region 8 with fail);clear d2 hca
      go_loopw [41] (fun s41 wq=>∃ (j e:Nat) (least':Nat→Nat) (above':Nat→Int),j≤(ah P).length∧s41=.int .i64 (j:Int)∧e≤P∧PredP par early P ((ah P).take j) e∧GrvI par k (P+1) (updF early P e) least' above'∧NrM w wq N0 Hg He Ha Hl (Hg+1) (Hg+1+1) k (.slice A1 k c1) (.slice A2 k c2) (.slice (some ⟨ga,0,none⟩) k c3) (updF early P e) least' above' near V W) (fun s41 _=>(ah P).length - (intOf s41).toNat)
      case atStart =>
        have he:updF early P P=early:=by
          funext v
          by_cases e:v=P
          · subst e;rw [qB];exact (HNI.out.fresh v (by omega)).symm
          · rw [q9 _ _ e]
        exact ⟨0,P,least,above,Nat.zero_le _,rfl,Nat.le_refl _,PredP.start _ _ _,by rw [he];exact HGR.out,by rw [he];exact HM.out⟩
      case round =>
        obtain ⟨j,e,least',above',hj,rfl,heP,hpr,hg1,hm1⟩:=hrel;have HPR:=Lib.hid hpr;have HG1:=Lib.hid hg1;have HM1:=Lib.hid hm1
        by_cases hjl:j<(ah P).length
        · (have hkr:Kept w wr:=q6 (by rw [← HN0.out];exact hm1.fr));(obtain ⟨bu,ou,x,rfl,hx,hxc,-⟩:=(SL.keep hkr (RInt.keep hkr) HSL.out).int (k:=j) (by rw [qc];exact hjl));obtain ⟨u,hu,rfl⟩:=zs_at hx.out;have huk:u<k:=((HTE.out.ahd P hP u).1 (List.mem_of_getElem? hu)).1;(have hj0:(0:Int)≤j:=by omega);(have hj1:(j:Int)<(ah P).length:=by omega);have HU:=Lib.hid hu;have HBE:=Lib.hid (best_any (place:=u) He Ha Hl wr.drew HTR.out hg1 hm1.drew.gv huk (by omega));have g0:wr.cell? ⟨Hg,0,none⟩=some (.slice (some ⟨He,0,none⟩) k k):=q7 hm1.gb 0
          have g1:wr.cell? ⟨Hg,1,none⟩=some (.slice (some ⟨Ha,0,none⟩) k k):=q7 hm1.gb 1;have g2:wr.cell? ⟨Hg,2,none⟩=some (.slice (some ⟨Hl,0,none⟩) k k):=q7 hm1.gb 2;have hec:∀ x,x<k→wr.cell? ⟨He,x,none⟩=some (.int .i64 ((updF early P e x:Nat):Int)):=fun x hx=>hm1.gv.e.cell hx;have HEC:=Lib.hid hec;clear hpr hg1 hm1 hkr hx hu hec;(go_upto_region 10 with fail);refine qI (L:=17) (S:=fun w'=>w'.cell? ⟨Hg,0,none⟩=some (.slice (some ⟨He,0,none⟩) k k)∧w'.cell? ⟨Hg,1,none⟩=some (.slice (some ⟨Ha,0,none⟩) k k)∧w'.cell? ⟨Hg,2,none⟩=some (.slice (some ⟨Hl,0,none⟩) k k)∧∀ x,x<k→w'.cell? ⟨He,x,none⟩=some (.int .i64 ((updF early P e x:Nat):Int))) (by kernel_rfl) (by rfl) (by kernel_rfl) (by kernel_rfl) ?_;change wpAnyH _ _ _ _ _ _ _ _ (World.drew _);have hS0:wr.drew.cell? ⟨Hg,0,none⟩=some (.slice (some ⟨He,0,none⟩) k k)∧wr.drew.cell? ⟨Hg,1,none⟩=some (.slice (some ⟨Ha,0,none⟩) k k)∧wr.drew.cell? ⟨Hg,2,none⟩=some (.slice (some ⟨Hl,0,none⟩) k k)∧∀ x,x<k→wr.drew.cell? ⟨He,x,none⟩=some (.int .i64 ((updF early P e x:Nat):Int)):=⟨g0,g1,g2,HEC.out⟩
          clear g0 g1 g2;refine tk 0 45 hS0 ?_;simp only [Act.put,aS,List.set_cons_zero,List.set_cons_succ];refine tk 1 46 hS0 ?_;simp only [Act.put,aS,List.set_cons_zero,List.set_cons_succ];refine tk 2 47 hS0 ?_;simp only [Act.put,aS,List.set_cons_zero,List.set_cons_succ];refine tk 3 48 hS0 ?_;simp only [Act.put,aS,List.set_cons_zero,List.set_cons_succ]
          refine tk 4 49 hS0 ?_;simp only [Act.put,aS,List.set_cons_zero,List.set_cons_succ];refine tk 5 50 hS0 ?_;simp only [Act.put,aS,List.set_cons_zero,List.set_cons_succ];refine tk 6 51 hS0 ?_;simp only [Act.put,aS,List.set_cons_zero,List.set_cons_succ];refine tk 7 52 hS0 ?_;simp only [Act.put,aS,List.set_cons_zero,List.set_cons_succ];refine tk 8 53 hS0 ?_
          simp only [Act.put,aS,List.set_cons_zero,List.set_cons_succ];refine tk 9 54 hS0 ?_;simp only [Act.put,aS,List.set_cons_zero,List.set_cons_succ];refine tk 10 55 hS0 ?_;simp only [Act.put,aS,List.set_cons_zero,List.set_cons_succ];refine tk 11 56 hS0 ?_;simp only [Act.put,aS,List.set_cons_zero,List.set_cons_succ];refine oneH (i:=12) (by kernel_rfl) (fun o ho K' hK=>?_);simp only [List.getElem?_toArray,List.getElem?_cons_zero,List.getElem?_cons_succ,Option.some.injEq] at ho;subst ho
          (go_simp);refine HBE.out.mono ?_;rintro e' wb ⟨x,least2,above2,rfl,hxk,hbp,hg2,hgv,hfr⟩;have hm2:=(HM1.out.drew).best hgv hfr;have HM2:=Lib.hid hm2;have HG2:=Lib.hid hg2;have HBP:=Lib.hid hbp;(have hx0:(0:Int)≤x:=by omega);have hx1:(x:Int)<k:=by omega
          have hSC:wb.cell? ⟨Hg,0,none⟩=some (.slice (some ⟨He,0,none⟩) k k)∧wb.cell? ⟨Hg,1,none⟩=some (.slice (some ⟨Ha,0,none⟩) k k)∧wb.cell? ⟨Hg,2,none⟩=some (.slice (some ⟨Hl,0,none⟩) k k)∧∀ x,x<k→wb.cell? ⟨He,x,none⟩=some (.int .i64 ((updF early P e x:Nat):Int)):=⟨q7 hm2.gb 0,q7 hm2.gb 1,q7 hm2.gb 2,fun x hx=>hm2.gv.e.cell hx⟩;have xc:=hm2.gv.e.cell hP;have xf:=hm2.gv.e.frozen P;refine hK.out _ _ hSC ?_;clear hK K' hbp hg2 hgv hfr hm2;(try simp only [Act.put,aS,List.set_cons_zero,List.set_cons_succ]);refine tk 13 58 hSC ?_;simp only [Act.put,aS,List.set_cons_zero,List.set_cons_succ];refine tk 14 59 hSC ?_
          simp only [Act.put,aS,List.set_cons_zero,List.set_cons_succ];refine tk 15 60 hSC ?_;simp only [Act.put,aS,List.set_cons_zero,List.set_cons_succ];refine tk 16 61 hSC ?_;simp only [Act.put,aS,List.set_cons_zero,List.set_cons_succ];refine wpAnyH_done (by kernel_rfl) ?_ _;refine lastH (by decide) (fun o ho K' hK=>?_);(simp only [List.getElem?_toArray,List.getElem?_cons_zero,List.getElem?_cons_succ,Option.some.injEq] at ho;subst ho);go_simp
          (rw [show (if updF early P e x<updF early P e P then ((updF early P e x:Nat):Int) else ((updF early P e P:Nat):Int))=((min e (updF early P e x):Nat):Int) by rw [qB];split <;> omega]);refine hK.out _ _ ?_;clear hK K' hSC hS0 xc xf;(have HPN:Hid (PredP par early P ((ah P).take (j+1)) (min e (updF early P e x))):=Lib.hid (by rw [qD HU.out];exact HPR.out.step HTR.out (fun v hv=>HNI.out.fresh v (by omega)) huk HBP.out heP));have HGN:Hid (GrvI par k (P+1) (updF early P (min e (updF early P e x))) least2 above2):=Lib.hid (HG2.out.congr fun v hv=>by rw [q9 _ _ (by omega),q9 _ _ (by omega)]);(have HMN:=Lib.hid ((HM2.out.setE P (min e (updF early P e x))).congr (early':=updF early P (min e (updF early P e x))) (near':=near) (fun v _=>by unfold updF;by_cases e1:v=P <;> simp [e1]) (fun _ _=>rfl)));have HLE:Hid (min e (updF early P e x)≤P):=Lib.hid (by omega);go_wp2_with fail
          go_roundw
          case rel=>exact ⟨j+1,_,least2,above2,by omega,by go_num,HLE.out,HPN.out,HGN.out,HMN.out⟩
          case measure=>simp [intOf];omega
        · have hjj:(ah P).take j=ah P:=List.take_of_length_le (by omega);rw [hjj] at hpr;obtain ⟨heP1,hear⟩:=hpr.done HTR.out (fun u=>HTE.out.ahd P hP u) HNI.out.ear h0 hP;have HEAR:=Lib.hid hear;(have hek:e<k:=by omega);have g0:wr.cell? ⟨Hg,0,none⟩=some (.slice (some ⟨He,0,none⟩) k k):=q7 hm1.gb 0;(have hce:wr.cell? ⟨He,P,none⟩=some (.int .i64 (e:Int)):=by have:=hm1.gv.e.cell hP;rw [qB] at this;exact this);have hcw:wr.cell? ⟨Hg+1+1,e,none⟩=some (V e):=hm1.wt.row.cell hek;have HFZ:=Lib.hid (hm1.wt.row.frozen e)
          have how:=hm1.wt.own e hek;rw [qc] at how;have HOW:=Lib.hid how;(have hwl:(W e).length≤1000000:=by have:=HNI.out.few e;omega);have hGs:Hg+1+1<wr.heap.size:=hm1.wt.row.lt;(have he0:(0:Int)≤e:=by omega);(have he1:(e:Int)<k:=by omega);have hes:He<wr.heap.size:=hm1.gv.e.lt;clear hpr hg1 hm1 hjj hear how
          (go_upto_region 12 with fail);refine qI (L:=18) (S:=fun w'=>w'.cell? ⟨Hg,0,none⟩=some (.slice (some ⟨He,0,none⟩) k k)∧w'.cell? ⟨He,P,none⟩=some (.int .i64 (e:Int))∧w'.cell? ⟨Hg+1+1,e,none⟩=some (V e)) (by kernel_rfl) (by rfl) (by kernel_rfl) (by kernel_rfl) ?_;change wpAnyH _ _ _ _ _ _ _ _ (World.drew _);have hS:∀ w',Below wr.heap.size wr w'→w'.cell? ⟨Hg,0,none⟩=some (.slice (some ⟨He,0,none⟩) k k)∧w'.cell? ⟨He,P,none⟩=some (.int .i64 (e:Int))∧w'.cell? ⟨Hg+1+1,e,none⟩=some (V e):=fun w' h=>⟨q6 h _ _ g0,q6 h _ _ hce,q6 h _ _ hcw⟩;have hS0:=hS wr.drew (Below.refl _ _).drew;clear g0 hce hcw;refine tk 0 63 hS0 ?_;simp only [Act.put,aS,List.set_cons_zero,List.set_cons_succ];refine tk 1 64 hS0 ?_
          simp only [Act.put,aS,List.set_cons_zero,List.set_cons_succ];refine tk 2 65 hS0 ?_;simp only [Act.put,aS,List.set_cons_zero,List.set_cons_succ];refine tk 3 66 hS0 ?_;simp only [Act.put,aS,List.set_cons_zero,List.set_cons_succ];refine tk 4 67 hS0 ?_;simp only [Act.put,aS,List.set_cons_zero,List.set_cons_succ];refine tk 5 68 hS0 ?_;simp only [Act.put,aS,List.set_cons_zero,List.set_cons_succ]
          refine tk 6 69 hS0 ?_;simp only [Act.put,aS,List.set_cons_zero,List.set_cons_succ];refine tk 7 70 hS0 ?_;simp only [Act.put,aS,List.set_cons_zero,List.set_cons_succ];refine tk 8 71 hS0 ?_;simp only [Act.put,aS,List.set_cons_zero,List.set_cons_succ];refine tk 9 72 hS0 ?_;simp only [Act.put,aS,List.set_cons_zero,List.set_cons_succ];refine tk 10 73 hS0 ?_
          simp only [Act.put,aS,List.set_cons_zero,List.set_cons_succ];refine tk 11 74 hS0 ?_;simp only [Act.put,aS,List.set_cons_zero,List.set_cons_succ];refine tk 12 75 hS0 ?_;simp only [Act.put,aS,List.set_cons_zero,List.set_cons_succ];refine tk 13 76 hS0 ?_;simp only [Act.put,aS,List.set_cons_zero,List.set_cons_succ];refine tk 14 77 hS0 ?_;simp only [Act.put,aS,List.set_cons_zero,List.set_cons_succ]
          refine oneH (i:=15) (by kernel_rfl) (fun o ho K' hK=>?_);(simp only [List.getElem?_toArray,List.getElem?_cons_zero,List.getElem?_cons_succ,Option.some.injEq] at ho;subst ho);(go_simp);have hb8:Below wr.heap.size wr (wr.alloc (.cells #[.int .i64 (P:Int)] 3)).drew:=((Below.refl _ wr).alloc (Nat.le_refl _) _).drew;refine hK.out _ _ (hS _ hb8) ?_;clear hK K';refine oneH (i:=16) (by kernel_rfl) (fun o ho K' hK=>?_);(simp only [List.getElem?_toArray,List.getElem?_cons_zero,List.getElem?_cons_succ,Option.some.injEq] at ho;subst ho);refine step_append_lies _ (by rfl) _ _ _ (by rfl) (Hg+1+1+1) 3 i0 (.int .i64 0) 1 8 Tryz.underlying27 HI0.out.1 HI0.out.2.1 HI0.out.2.2.1 HI0.out.2.2.2 rfl (by decide) (V e) (W e).length _ (by rfl) (HOW.out.alloc _)
            ⟨wr.heap.size,0,none⟩ 1 1 [.int .i64 (P:Int)] (by rfl) (by rfl) (qo _ _ _) (by intro u hu;rw [List.mem_singleton.1 hu];rfl) (by decide) (by unfold maxLen;omega) (by omega) (by simp;omega) (wr.heap.size+1) (by simp) ?_
          intro gc cap' wC hownC hgrowC hlocC hltC;have HGRO:Hid (GroD wr wC (V e) (.slice (some ⟨gc,0,none⟩) ((W e).length+1) cap')):=Lib.hid (groD_drew (qu (w:=wr.drew) hgrowC hlocC));have HMP:=Lib.hid (HM1.out.push hek HGRO.out hownC);(have hVb:∀ b,b<Hg+1+1+1→b<wr.heap.size→wC.heap[b]?=wr.heap[b]?:=fun b hb hz=>HGRO.out.block b hz (fun e=>by have:=(HOW.out.lt b e).1;omega));have hlt1:=HM1.out.lt;have hSC:wC.cell? ⟨Hg,0,none⟩=some (.slice (some ⟨He,0,none⟩) k k)∧wC.cell? ⟨He,P,none⟩=some (.int .i64 (e:Int))∧wC.cell? ⟨Hg+1+1,e,none⟩=some (V e):=⟨(World.cell?_of_block (a:=⟨Hg,0,none⟩) (hVb Hg (by omega) (by omega))).trans hS0.1,(World.cell?_of_block (a:=⟨He,P,none⟩) (hVb He (by omega) (by omega))).trans hS0.2.1,(World.cell?_of_block (a:=⟨Hg+1+1,e,none⟩) (hVb (Hg+1+1) (by omega) (by omega))).trans hS0.2.2⟩;have xf:wC.frozen? ⟨Hg+1+1,e,none⟩=false:=(World.frozen?_of_block (a:=⟨Hg+1+1,e,none⟩) (hVb (Hg+1+1) (by omega) (by omega))).trans HFZ.out;have xc:=hSC.2.2;refine hK.out _ _ hSC ?_
          clear hK K' hgrowC hlocC hownC;simp only [Act.put,aS,List.set_cons_zero,List.set_cons_succ];refine tk 17 80 hSC ?_;simp only [Act.put,aS,List.set_cons_zero,List.set_cons_succ];refine wpAnyH_done (by kernel_rfl) ?_ _;refine lastH (by decide) (fun o ho K' hK=>?_);(simp only [List.getElem?_toArray,List.getElem?_cons_zero,List.getElem?_cons_succ,Option.some.injEq] at ho;subst ho);(go_simp);refine hK.out _ _ ?_
          clear hK K' hSC hS0 hS xc xf hVb hlt1 hltC hb8 HOW HFZ;generalize wC.setCell ⟨Hg+1+1,e,none⟩ (.slice (some ⟨gc,0,none⟩) ((W e).length+1) cap')=w7 at *;generalize hW1:updF W e (W e++[P])=W1 at *;generalize hV1:updF V e (.slice (some ⟨gc,0,none⟩) ((W e).length+1) cap')=V1 at *;clear HGRO hV1
          -- whence,and the place hung below it
          have hpl:par P<P:=HTR.out.par_lt P h0 hP;(have hpk:par P<k:=by omega);have hm7:=HMP.out;(have hkw7:Kept w w7:=q6 (by rw [← HN0.out];exact hm7.fr));obtain ⟨gf,capf,uf,hvf,huf,hcf,-⟩:=own_cellD HR.out.rf hP;obtain ⟨rfl,-⟩:=qj _ huf;simp only [Value.slice.injEq] at hvf;obtain ⟨rfl,-,rfl⟩:=hvf;have hcf:w7.cell? ⟨gf,P,none⟩=some (.int .i64 (par P:Int)):=by have:=hkw7 _ _ hcf;unfold frmP at this;rwa [if_neg (by omega)] at this
          have d1:w7.cell? ⟨N0,1,none⟩=some (.slice (some ⟨gf,0,none⟩) k c2):=q7 hm7.tb 1;have g1:w7.cell? ⟨Hg,1,none⟩=some (.slice (some ⟨Ha,0,none⟩) k k):=q7 hm7.gb 1;have xa:=hm7.gv.a.cell hP;have xaf:=hm7.gv.a.frozen P;(have hp0:(0:Int)≤(par P:Int):=by omega);(have hp1:(par P:Int)<k:=by omega);have HM8:=Lib.hid (hm7.setA P (par P:Int));have HGL:=Lib.hid (HG1.out.link HTR.out h0 hP);clear huf hm7 hkw7 HMP HM1 HG1
          (go_upto_region 15 with fail);clear hcf d1 g1 xa xaf;generalize w7.setCell ⟨Ha,P,none⟩ (.int .i64 (par P:Int))=w8 at *;have hcw:=HM8.out.wt.row.cell hpk;obtain ⟨Al,cl,hAl⟩:=qg (HM8.out.wt.own (par P) hpk);rw [qc] at hAl;rw [hAl] at hcw;have hwl1:(W1 (par P)).length≤1000000:=by
            rw [← hW1];have h1:=HNI.out.few e;have h2:=HNI.out.few (par P)
            by_cases e1:par P=e
            · rw [e1,qB];simp;omega
            · rw [q9 _ _ e1];omega
          (go_upto_region 16 with fail);clear hcw
          go_loopw [96] (fun s96 wq=>∃ (j:Nat) (least3:Nat→Nat) (above3:Nat→Int) (near3:Nat→Nat),j≤(W1 (par P)).length∧s96=.int .i64 (j:Int)∧GrvI par k P (updF early P e) least3 above3∧NrM w wq N0 Hg He Ha Hl (Hg+1) (Hg+1+1) k (.slice A1 k c1) (.slice (some ⟨gf,0,none⟩) k c2) (.slice (some ⟨ga,0,none⟩) k c3) (updF early P e) least3 above3 near3 V1 W1∧(∀ v∈(W1 (par P)).take j,HandP par P (updF early P e) near3 v)∧(∀ v,v ∉ (W1 (par P)).take j→near3 v=near v)) (fun s96 _=>(W1 (par P)).length - (intOf s96).toNat)
          case atStart=>exact ⟨0,least',_,near,Nat.zero_le _,rfl,HGL.out,HM8.out,fun v hv=>by simp at hv,fun v _=>rfl⟩
          case round =>
            obtain ⟨j,least3,above3,near3,hj,rfl,hg3,hm3,hh3,hk3⟩:=hrel;have HG3:=Lib.hid hg3;have HM3:=Lib.hid hm3;have HH3:=Lib.hid hh3;have HK3:=Lib.hid hk3
            by_cases hjl:j<(W1 (par P)).length
            · (obtain ⟨gl,capl,ul,hvl,hul,hcl,-⟩:=own_cellD (hm3.wt.own (par P) hpk) (i:=j) (by rw [qc];exact hjl));rw [hAl,qc] at hvl;simp only [Value.slice.injEq] at hvl;obtain ⟨rfl,-,rfl⟩:=hvl;have hul':∃ v:Nat,(W1 (par P))[j]?=some v∧ul=.int .i64 (v:Int):=by
                rw [List.getElem?_map] at hul;obtain ⟨x,hx,rfl⟩:=Option.map_eq_some_iff.1 hul;obtain ⟨v,hv,rfl⟩:=zs_at hx;exact ⟨v,hv,rfl⟩
              obtain ⟨v,hv,rfl⟩:=hul';(have hwt:=HNI.out.waits (e:=e) HTR.out hP (par P) v (by rw [hW1];exact List.mem_of_getElem? hv));have hvk:v<k:=hwt.2.1;have HWT:=Lib.hid hwt;have HV:=Lib.hid hv;(have hj0:(0:Int)≤j:=by omega);(have hj1:(j:Int)<(W1 (par P)).length:=by omega);(have hv0:(0:Int)≤v:=by omega);have hv1:(v:Int)<k:=by omega
              have xn:=hm3.nr.cell hvk;have xnf:=hm3.nr.frozen v;have hm4:=hm3.setN v (par P);have HM4:=Lib.hid hm4;have HBE:=Lib.hid (best_any (place:=v) He Ha Hl _ HTR.out hg3 hm4.gv hvk (by omega));have g0:(wr.setCell ⟨Hg+1,v,none⟩ (.int .i64 (par P:Int))).cell? ⟨Hg,0,none⟩=some (.slice (some ⟨He,0,none⟩) k k):=q7 hm4.gb 0;have g1:(wr.setCell ⟨Hg+1,v,none⟩ (.int .i64 (par P:Int))).cell? ⟨Hg,1,none⟩=some (.slice (some ⟨Ha,0,none⟩) k k):=q7 hm4.gb 1;have g2:(wr.setCell ⟨Hg+1,v,none⟩ (.int .i64 (par P:Int))).cell? ⟨Hg,2,none⟩=some (.slice (some ⟨Hl,0,none⟩) k k):=q7 hm4.gb 2;clear hg3 hm3 hh3 hk3 hul hwt hv hm4
              (go_upto_region 19 with fail);clear xn xnf hcl;generalize wr.setCell ⟨Hg+1,v,none⟩ (.int .i64 (par P:Int))=w9 at *;(go_wp2_with fail);refine HBE.out.mono ?_;rintro e' wb ⟨x,least4,above4,rfl,hxk,hbp,hg4,hgv,hfr⟩;have hm5:=HM4.out.best hgv hfr;have HM5:=Lib.hid hm5;have HG4:=Lib.hid hg4
              have HBP:=Lib.hid hbp;(have hx0:(0:Int)≤x:=by omega);(have hx1:(x:Int)<k:=by omega);have g3:wb.cell? ⟨Hg,0,none⟩=some (.slice (some ⟨He,0,none⟩) k k):=q7 hm5.gb 0;have xe:=hm5.gv.e.cell hxk;have xn:=hm5.nr.cell hvk;rw [qB] at xn;have xnf:=hm5.nr.frozen v;clear g0 g1 g2 hbp hg4 hgv hfr hm5
              by_cases hlt:updF early P e x<par P
              · (have hlt2:((updF early P e x:Nat):Int)<(par P:Int):=by omega);have hltb:decide (((updF early P e x:Nat):Int)<(par P:Int))=true:=decide_eq_true hlt2;have HM6:=Lib.hid (HM5.out.setN v x)
                have HHN:Hid (∀ y∈(W1 (par P)).take (j+1),HandP par P (updF early P e) (updF (updF near3 v (par P)) v x) y):=Lib.hid (fun y hy=>by
                  by_cases ey:y=v
                  · subst ey;exact hand_of HTR.out HEAR.out h0 hP HWT.out.1 hvk HWT.out.2.2.1 HWT.out.2.2.2 HBP.out _ (by rw [qB,if_pos hlt])
                  · rw [qD HV.out] at hy;rcases List.mem_append.1 hy with hy | hy
                    · exact (HH3.out y hy).congr (by rw [q9 _ _ ey,q9 _ _ ey])
                    · exact absurd (List.mem_singleton.1 hy) ey)
                have HKN:Hid (∀ y,y ∉ (W1 (par P)).take (j+1)→(updF (updF near3 v (par P)) v x) y=near y):=Lib.hid (fun y hy=>by
                  rw [qD HV.out,List.mem_append,List.mem_singleton] at hy;have ey:y≠v:=fun e=>hy (.inr e);rw [show (updF (updF near3 v (par P)) v x) y=near3 y by rw [q9 _ _ ey,q9 _ _ ey]]
                  exact HK3.out y fun h=>hy (.inl h))
                go_wp2_with fail
                go_roundw
                case rel=>exact ⟨j+1,least4,above4,_,by omega,by go_num,HG4.out,HM6.out,HHN.out,HKN.out⟩
                case measure=>simp [intOf];omega
              · (have hlt2:¬ ((updF early P e x:Nat):Int)<(par P:Int):=by omega);have hltb:decide (((updF early P e x:Nat):Int)<(par P:Int))=false:=decide_eq_false hlt2
                have HHN:Hid (∀ y∈(W1 (par P)).take (j+1),HandP par P (updF early P e) (updF near3 v (par P)) y):=Lib.hid (fun y hy=>by
                  by_cases ey:y=v
                  · subst ey;exact hand_of HTR.out HEAR.out h0 hP HWT.out.1 hvk HWT.out.2.2.1 HWT.out.2.2.2 HBP.out _ (by rw [qB,if_neg hlt])
                  · rw [qD HV.out] at hy;rcases List.mem_append.1 hy with hy | hy
                    · exact (HH3.out y hy).congr (by rw [q9 _ _ ey])
                    · exact absurd (List.mem_singleton.1 hy) ey)
                have HKN:Hid (∀ y,y ∉ (W1 (par P)).take (j+1)→(updF near3 v (par P)) y=near y):=Lib.hid (fun y hy=>by
                  rw [qD HV.out,List.mem_append,List.mem_singleton] at hy;have ey:y≠v:=fun e=>hy (.inr e);rw [show (updF near3 v (par P)) y=near3 y by rw [q9 _ _ ey]]
                  exact HK3.out y fun h=>hy (.inl h))
                go_wp2_with fail
                go_roundw
                case rel=>exact ⟨j+1,least4,above4,_,by omega,by go_num,HG4.out,HM5.out,HHN.out,HKN.out⟩
                case measure=>simp [intOf];omega
            · have hjj:(W1 (par P)).take j=W1 (par P):=List.take_of_length_le (by omega);rw [hjj] at hh3 hk3;(have HNN:Hid (NrI k P (EdgeP nx k bl) par (updF early P e) near3 (updF W1 (par P) [])):=Lib.hid (by rw [← hW1];exact HNI.out.next HTR.out h0 hP HEAR.out (by rw [hW1];exact hh3) (by rw [hW1];exact hk3)));have HMZ:=Lib.hid (hm3.nilW (par P));have xw:=hm3.wt.row.cell hpk;have xwf:=hm3.wt.row.frozen (par P);clear hh3 hk3 hjj hg3 hm3;go_wp2_with fail
              go_roundw
              case rel=>exact ⟨P - 1,_,least3,above3,near3,_,_,by congr 1;omega,by omega,by rw [show P - 1+1=P by omega];exact HNN.out,by rw [show P - 1+1=P by omega];exact HG3.out,HMZ.out⟩
              case measure=>simp [intOf];omega
    · (obtain rfl:P=0:=by omega);(have hz:¬ (((0:Nat):Int) > 0):=by omega);have HNS:=Lib.hid (NdI.start (near:=near) hni);clear hni hgr hm;go_upto_region 25 with fail
      go_loopw [124] (fun s124 wq=>∃ (j:Nat) (near2:Nat→Nat),j≤k∧s124=.int .i64 (j:Int)∧NdI k par early near near2 j∧NrM w wq N0 Hg He Ha Hl (Hg+1) (Hg+1+1) k (.slice A1 k c1) (.slice A2 k c2) (.slice A3 k c3) early least above near2 V W) (fun s124 _=>k - (intOf s124).toNat)
      case atStart=>exact ⟨0,near,Nat.zero_le _,rfl,HNS.out,HM.out⟩
      case round =>
        obtain ⟨j,near2,hj,rfl,hnd,hm2⟩:=hrel;have HND:=Lib.hid hnd;have HM2:=Lib.hid hm2
        by_cases hjk:j<k
        · have hb:near2 j<k:=by
            have h1:=hnd.left j (Nat.le_refl _);rcases Nat.eq_zero_or_pos j with h2 | h2
            · subst h2;rw [hnd.zero];omega
            · have:=HNI.out.pick HTR.out h2 hjk;omega
          have xn:=hm2.nr.cell hjk;have xnf:=hm2.nr.frozen j;have xb:=hm2.nr.cell hb;have xe:=hm2.gv.e.cell hjk;have g0:wr.cell? ⟨Hg,0,none⟩=some (.slice (some ⟨He,0,none⟩) k k):=q7 hm2.gb 0;(have hj0:(0:Int)≤j:=by omega);(have hj1:(j:Int)<k:=by omega);(have hb0:(0:Int)≤near2 j:=by omega);have hb1:(near2 j:Int)<k:=by omega
          have HST:=Lib.hid (hnd.step HTR.out HNI.out hjk);clear hnd hm2
          by_cases heq:near2 j=early j
          · (have hbe:(((near2 j:Nat):Int) != ((early j:Nat):Int))=false:=by simp [heq]);(have HS2:Hid (NdI k par early near near2 (j+1)):=Lib.hid (by have:=HST.out;rwa [if_pos heq] at this));clear heq;go_wp2_with fail
            go_roundw
            case rel=>exact ⟨j+1,near2,by omega,by go_num,HS2.out,HM2.out⟩
            case measure=>simp [intOf];omega
          · (have hbe:(((near2 j:Nat):Int) != ((early j:Nat):Int))=true:=by simp;omega);(have HS2:Hid (NdI k par early near (updF near2 j (near2 (near2 j))) (j+1)):=Lib.hid (by have:=HST.out;rwa [if_neg heq] at this));have HM3:=Lib.hid (HM2.out.setN j (near2 (near2 j)));clear heq;go_wp2_with fail
            go_roundw
            case rel=>exact ⟨j+1,_,by omega,by go_num,HS2.out,HM3.out⟩
            case measure=>simp [intOf];omega
        · (obtain rfl:k=j:=by omega);have xn:=hm2.nr.cell hk0;have xnf:=hm2.nr.frozen 0;(have hkp:((k:Int) > 0):=by omega);(have HRW:=Lib.hid ((hm2.nr.set 0 (.int .i64 (-1))).congr (g:=fun v=>.int .i64 (if v=0 then -1 else (near2 v:Int))) fun v _=>by by_cases e:v=0 <;> simp [e]));(have HBF:=Lib.hid (hm2.fr.setCell (p:=⟨Hg+1,0,none⟩) (by have:=hm2.lt;show N0≤Hg+1;omega) (.int .i64 (-1))));have HNP:=Lib.hid hnd.all;(have HHG:Hid (N0≤Hg+1):=Lib.hid (by have:=hm2.lt;omega));clear hnd hm2
          (go_wp2_with fail);(go_ret);exact ⟨⟨Hg+1,early,near2,rfl,by rw [← HN0.out];exact HHG.out,HNI.out.ear,HNP.out,HRW.out⟩,by rw [← HN0.out];exact HBF.out⟩
end Go.Proofs.YtfoggldjjnabcaaGreatDoor

namespace Go.Proofs.YtfoggldjjnabcaaGreatDoor
open Go.ChangeShapes Go.WideShapes Go.RowKit Go.Deep
set_option linter.unusedVariables false
def fromB (bs:List BlkD) (b w:Int) (x:Nat):Bool:=if 0≤b∧b<bs.length∧b≠w then fromN (nxF bs) w bs.length b.toNat bs.length x else false
theorem range_fold {nx:Nat→List Nat} {w:Int} {S:Nat→Bool} (a:Nat):(List.range (a+1)).foldl (fromA nx w) S=fromA nx w ((List.range a).foldl (fromA nx w) S) a:=by
  rw [List.range_succ,List.foldl_append];rfl
theorem mk_fold {w:Int} {S:Nat→Bool} {l:List Nat} {k q:Nat} (h:l[k]?=some q):(l.take (k+1)).foldl (mkW w) S=mkW w ((l.take k).foldl (mkW w) S) q:=by
  rw [qD h,List.foldl_append];rfl
end Go.Proofs.YtfoggldjjnabcaaGreatDoor
