/- The program's atBeginning, atEnd. -/
import Derived.Test.YtfoggldjjnabcaaGreatDoorModAK
import Derived.Test.YtfoggldjjnabcaaGreatDoorLvGK
import Derived.Test.YtfoggldjjnabcaaGreatDoorDmAK
import Derived.Test.YtfoggldjjnabcaaGreatDoorAheadGK
import Derived.Test.YtfoggldjjnabcaaGreatDoorLvSK
import Derived.Laws.EntriesVeiled
import Derived.BigQuiet
set_option linter.unusedVariables false
set_option linter.unusedSimpArgs false
namespace Go.Proofs.YtfoggldjjnabcaaGreatDoor
open Go.ChangeShapes Go.WideShapes Go.RowKit Go.Deep
theorem Tryz.info201:(Tryz.prog.info? 201).map (λ i=>(i.zero,i.size,i.bytes))=some (some (.agg #[.int .i64 0,.int .i64 0]),2,16):=by kernel_rfl
theorem Tryz.underlying143:Tryz.prog.underlying 143=some (.slice 201):=by kernel_rfl
def q9E (Wa:World) (H Ga n R K:Nat) (W:World) (vo:Value) (mk ph:Nat->Nat->Bool) (s':LvS) (e:Ending) (W':World):Prop :=
 e=.returned (.tuple #[])/\∃ vo',WsM Wa H Ga n R K W' vo' mk ph s'/\GroS H (H+4 * (n+1)) W W' vo vo'
set_option maxRecDepth 100000 in
set_option maxHeartbeats 8000000 in
theorem jk (Wa:World) (H Ga n R K:Nat) (W:World) (vo:Value) (mk ph:Nat->Nat->Bool) (s:LvS) (h:WsM Wa H Ga n R K W vo mk ph s) (hf:FewS n R s) (hn:n<=64) (hR:R<=256) (b r:Nat) (hb:b<n) (hr:r<R) :
  Calls Tryz.prog 125 #[.pointer (some ⟨H+4 * (n+1),0,none⟩),.int .i64 (b:Int),.int .i64 (r:Int)] W (q9E Wa H Ga n R K W vo mk ph (atB ph s b r)):=by
 obtain ⟨i1,hi,wT,wM,wR⟩:=info_parts Tryz.info201;have wJ:=Jj (And.intro hi (And.intro wT (And.intro wM wR)));clear hi wT wM wR;(have hnR:n * R<=16384:=by have:=Nat.mul_le_mul hn hR;omega);have wX:s.op.length<=16384:=Nat.le_trans hf.le hnR;obtain ⟨P,hP⟩:∃ P,H+4 * (n+1)=P:=⟨_,rfl⟩;obtain ⟨G2,hG2⟩:∃ G2,H+(n+1)=G2:=⟨_,rfl⟩;obtain ⟨G3,hG3⟩:∃ G3,H+2 * (n+1)=G3:=⟨_,rfl⟩;obtain ⟨p0,p1,p2,p3,p4,p5,p6⟩:=h.cells hP
 obtain ⟨a1,a2,a3⟩:=h.g3.at_ hb hr;obtain ⟨q1,q2,-⟩:=h.g2.at_ hb hr;rw [hG2] at q1 q2 p2;rw [hG3] at a1 a2 a3 p3;have HM:=Jj h;have HH:=Jj (And.intro hP (And.intro hG2 hG3));(have hPG:G3<P/\G2<G3/\G3+1+b<P:=by omega);obtain ⟨hPG1,hPG2,hPG3⟩:=hPG;have wZ:(0:Int)<=b:=by omega
 (have wY:(b:Int)<n:=by omega);(have wW:(0:Int)<=r:=by omega);(have wV:(r:Int)<R:=by omega);rw [hP];clear h hf hP hG2 hG3 hnR p0 p1 p4;(go_enter Tryz.func125,Tryz.ntmps125);cases hA:s.A b r
 ·cases wl:ph b r
  ·rw [hA] at a2;rw [wl] at q2;(have HS:Hid (atB ph s b r=⟨vM s.A b r,s.E,s.op++[(b,r)]⟩):=Jj (by unfold atB;rw [hA,wl];rfl));clear hA wl;obtain ⟨W1,hW1⟩:∃ W1,W.setCell ⟨G3+1+b,r,none⟩ (.bool true)=W1:=⟨_,rfl⟩;(have hM1:WsM Wa H Ga n R K W1 vo mk ph ⟨vM s.A b r,s.E,s.op⟩:=by rw [<- hW1,<- HH.out.2.2];exact HM.out.setA r hb);obtain ⟨-,-,-,-,-,t5,t6⟩:=hM1.cells HH.out.1;have wk:=Jj hM1;have HO:Hid (W1.ownsRow K 201 2 vo s.op.length (opF s.op)):=Jj hM1.op
   (have wM:W.heap.size=W1.heap.size:=by rw [<- hW1];simp);obtain ⟨Av,cv,wu⟩:=qX hM1.op;have ta:=Jj hW1;obtain ⟨lo,wv⟩:∃ lo,s.op.length=lo:=⟨_,rfl⟩;have tg:=Jj wv;rw [wv] at wX wu;(have td:Hid (W1.ownsRow K 201 2 (.slice Av lo cv) lo (opF s.op)):=Jj (by have h1:=HO.out;rw [wv,wu] at h1;exact h1));have tc:=Jj wu;rw [wu] at t5
   clear hM1 wv wu HO
   go_wp2_with (first | rw [hW1] |
    (at_builtin;refine wpList_append_lies _ rfl (.tmp 41) (.tmp 45) 143 rfl K 201 i1 (.agg #[.int .i64 0,.int .i64 0]) 2 16 Tryz.underlying143 wJ.out.1 wJ.out.2.1 wJ.out.2.2.1 wJ.out.2.2.2 rfl (by decide) _ lo (opF s.op) rfl (td.out.alloc _) ⟨W1.heap.size,0,none⟩ 1 1 [.int .i64 (b:Int),.int .i64 (r:Int)] rfl rfl (zE W1 #[.int .i64 (b:Int),.int .i64 (r:Int)] _ rfl) (by simp [Value.oneCell']) (by decide) ?e3 ?e4 ?e5 (W1.heap.size+1) ?e6 ?_))
   case e3=>unfold maxLen;omega
   case e4=>omega
   case e5=>have:=wk.out.kw;simp;omega
   case e6=>simp
   intro g cap w6 wh wg wj wO;(have ww:GroD W1 w6 vo (.slice (some ⟨g,0,none⟩) (lo+1) cap):=by rw [tc.out];exact qq wg wj);(have hbxC:w6.heap[P]?=W1.heap[P]?:=ww.block P (by have h1:=wk.out.box;rw [HH.out.1] at h1;exact (Array.getElem?_eq_some_iff.1 h1).1) (λ e=>by have:=(wk.out.op.lt P e).1;have:=wk.out.hk;have:=HH.out.1;omega));(have hMN:=WsM.setOp wk.out ww (l:=s.op++[(b,r)]) (by rw [List.length_append,tg.out,q3T];simpa using wh));rw [HH.out.1] at hMN;have hGR:GroS H (H+4 * (n+1)) W (w6.setCell ⟨P,5,none⟩ (.slice (some ⟨g,0,none⟩) (lo+1) cap)) vo (.slice (some ⟨g,0,none⟩) (lo+1) cap):=by
    (refine GroS.trans (b:=W1) (v:=vo) ?_ (GroS.trans (b:=w6) (v:=.slice (some ⟨g,0,none⟩) (lo+1) cap) (.of_groD ww) (GroS.store _ _ (by have:=HH.out;show H<=P/\P<=_;omega) _)));rw [<- ta.out];exact GroS.store _ _ (by have:=HH.out;show H<=G3+1+b/\G3+1+b<=_;omega) _
   have tf:=Jj hMN;have th:=Jj hGR;have r5:=(JK (a:=⟨P,5,none⟩) hbxC).trans t5;have r6:=(World.frozen?_of_block (a:=⟨P,5,none⟩) hbxC).trans t6;clear wh wg wj wO ww hbxC hMN hGR t5 t6;(go_wp2_with fail);(go_end0);exact ⟨rfl,_,by rw [HS.out];exact tf.out,th.out⟩
  ·rw [hA] at a2;rw [wl] at q2;(have HS:Hid (atB ph s b r=s):=Jj (by unfold atB;rw [hA,wl];rfl));clear hA wl;(go_wp2_with fail);(go_end0);exact ⟨rfl,vo,by rw [HS.out];exact HM.out,GroS.refl _ _ _ _⟩
 ·rw [hA] at a2;(have HS:Hid (atB ph s b r=s):=Jj (by unfold atB;rw [hA];rfl));clear hA;(go_wp2_with fail);(go_end0);exact ⟨rfl,vo,by rw [HS.out];exact HM.out,GroS.refl _ _ _ _⟩
set_option maxRecDepth 100000 in
set_option maxHeartbeats 8000000 in
theorem q29 (Wa:World) (H Ga n R K:Nat) (W:World) (vo:Value) (mk ph:Nat->Nat->Bool) (s:LvS) (h:WsM Wa H Ga n R K W vo mk ph s) (hf:FewS n R s) (hn:n<=64) (hR:R<=256) (b r:Nat) (hb:b<n) (hr:r<R) :
  Calls Tryz.prog 141 #[.pointer (some ⟨H+4 * (n+1),0,none⟩),.int .i64 (b:Int),.int .i64 (r:Int)] W (q9E Wa H Ga n R K W vo mk ph (atE mk ph s b r)):=by
 obtain ⟨P,hP⟩:∃ P,H+4 * (n+1)=P:=⟨_,rfl⟩;obtain ⟨G4,hG4⟩:∃ G4,H+3 * (n+1)=G4:=⟨_,rfl⟩;obtain ⟨p0,p1,p2,p3,p4,p5,p6⟩:=h.cells hP;obtain ⟨a1,a2,a3⟩:=h.g4.at_ hb hr;rw [hG4] at a1 a2 a3 p4;have HM:=Jj h;have HF:=Jj hf;have HH:=Jj (And.intro hP hG4);have hPG:G4<P/\G4+1+b<P:=by omega
 obtain ⟨hPG1,hPG2⟩:=hPG;(have wZ:(0:Int)<=b:=by omega);(have wY:(b:Int)<n:=by omega);(have wW:(0:Int)<=r:=by omega);(have wV:(r:Int)<R:=by omega);rw [hP];cases hE:s.E b r
 ·rw [hE] at a2;obtain ⟨W1,hW1⟩:∃ W1,W.setCell ⟨G4+1+b,r,none⟩ (.bool true)=W1:=⟨_,rfl⟩;(have hM1:WsM Wa H Ga n R K W1 vo mk ph ⟨s.A,vM s.E b r,s.op⟩:=by rw [<- hW1,<- hG4];exact h.setE r hb);have hF1:FewS n R ⟨s.A,vM s.E b r,s.op⟩:=hf;obtain ⟨-,t1,-⟩:=hM1.cells hP;obtain ⟨q1,q2,-⟩:=hM1.g1.at_ hb hr;have wk:=Jj hM1;(have wU:Hid (GroS H (H+4 * (n+1)) W W1 vo vo):=Jj (by rw [<- hW1];exact GroS.store _ _ (by show H<=G4+1+b/\G4+1+b<=_;omega) _));cases wm:mk b r
  ·rw [wm] at q2;have wQ:=jk Wa H Ga n R K W1 vo mk ph ⟨s.A,vM s.E b r,s.op⟩ hM1 hF1 hn hR b r hb hr;rw [hP] at wQ;have tj:=Jj wQ;(have HS:Hid (atE mk ph s b r=atB ph ⟨s.A,vM s.E b r,s.op⟩ b r):=Jj (by unfold atE;rw [if_neg (by rw [hE];simp),if_neg (by rw [wm];simp)]));clear h hf hP hG4 hE wm hM1 hF1 wQ p0 p1 p2 p3 p5 p6;(go_enter Tryz.func141,Tryz.ntmps141);(go_wp2_with (first | rw [hW1] | (go_at_call 125;refine tj.out.mono ?_;rintro e w2 ⟨rfl,vo',hM2,hG2⟩)));go_end0
   exact ⟨rfl,vo',by rw [HS.out];exact hM2,wU.out.trans hG2⟩
  ·rw [wm] at q2;(have HS:Hid (atE mk ph s b r=⟨s.A,vM s.E b r,s.op⟩):=Jj (by unfold atE;rw [if_neg (by rw [hE];simp),if_pos wm]));clear h hf hP hG4 hE wm hM1 hF1 p0 p1 p2 p3 p5 p6;(go_enter Tryz.func141,Tryz.ntmps141);(go_wp2_with (rw [hW1]));(go_end0);exact ⟨rfl,vo,by rw [HS.out];exact wk.out,wU.out⟩
 ·rw [hE] at a2;(have HS:Hid (atE mk ph s b r=s):=Jj (by unfold atE;rw [if_pos hE]));clear h hf hP hG4 hE p0 p1 p2 p3 p5 p6;(go_enter Tryz.func141,Tryz.ntmps141);(go_wp2_with fail);(go_end0);exact ⟨rfl,vo,by rw [HS.out];exact HM.out,GroS.refl _ _ _ _⟩
theorem Tryz.infoL64:(Tryz.prog.info? 64).map (λ i=>(i.zero,i.size,i.bytes))=some (some (.slice none 0 0),1,24):=by kernel_rfl
theorem Tryz.underlyingL59:Tryz.prog.underlying 59=some (.slice 64):=by kernel_rfl
def LayR (w4:World) (G n R j:Nat) (wq:World):Prop :=
 wq.heap.size=G+1+j/\wq.rowIs G 64 n (λ a=>if a<j then .slice (some ⟨G+1+a,0,none⟩) R R else .slice none 0 0)/\(∀ a,a<j->wq.rowIs (G+1+a) 4 R (λ _=>.bool false))/\FrX (λ b=>b=G) w4 wq
theorem LayR.step {w4 wq:World} {G n R j:Nat} (h:LayR w4 G n R j wq):LayR w4 G n R (j+1) ((wq.setCell ⟨G,j,none⟩ (.slice (some ⟨wq.heap.size,0,none⟩) R R)).alloc (.cells (madeCells #[.bool false] R) 4)):=by
 obtain ⟨h1,h2,h3,h4⟩:=h;have hs:∀ y,y≠G->(wq.setCell ⟨G,j,none⟩ (.slice (some ⟨wq.heap.size,0,none⟩) R R)).heap[y]?=wq.heap[y]?:=λ y hy=>JQ _ _ _ _ hy;(have hz:(wq.setCell ⟨G,j,none⟩ (.slice (some ⟨wq.heap.size,0,none⟩) R R)).heap.size=wq.heap.size:=by simp);have wk:=heap_alloc_new (wq.setCell ⟨G,j,none⟩ (.slice (some ⟨wq.heap.size,0,none⟩) R R)) (.cells (madeCells #[.bool false] R) 4);refine ⟨by simp;omega,?_,λ a ha=>?_,(h4.setCell (.inl rfl) _).alloc _⟩
 ·refine ((h2.set j _).of_block (Below.heap_alloc _ _ _ (by have:=h2.lt;omega))).congr λ a _=>?_
  by_cases e:a=j
  ·subst e;simp only [if_true];rw [if_pos (by omega),h1]
  ·simp only [if_neg e]
   by_cases e2:a<j
   ·rw [if_pos e2,if_pos (by omega)]
   ·rw [if_neg e2,if_neg (by omega)]
 ·by_cases e:a=j
  ·subst e;(have e:G+1+a=(wq.setCell ⟨G,a,none⟩ (.slice (some ⟨wq.heap.size,0,none⟩) R R)).heap.size:=by omega);rw [<- e] at wk;exact ⟨_,wk,size_madeCells _ _,λ i hi=>by simp [madeCells,hi,Nat.mod_one]⟩
  ·exact (h3 a (by omega)).of_block ((Below.heap_alloc _ _ _ (by omega)).trans (hs _ (by omega)))
theorem LayR.all {w4 wq:World} {G n R:Nat} (h:LayR w4 G n R n wq):BG1 wq G n R (λ _ _=>false) :=
 ⟨h.2.1.congr λ a ha=>by rw [if_pos ha],h.2.2.1⟩
set_option maxRecDepth 100000 in
set_option maxHeartbeats 8000000 in
theorem jQ (n R:Nat) (hn:n<=64) (hR:R<=256) (w:World) :
  Calls Tryz.prog 123 #[.int .i64 (n:Int),.int .i64 (R:Int)] w λ e w'=>e=.returned (.slice (some ⟨w.heap.size,0,none⟩) n n)/\BG1 w' w.heap.size n R (λ _ _=>false)/\w'.heap.size=w.heap.size+(n+1)/\Below w.heap.size w w':=by
 have wU:=run_make_row' (P:=Tryz.prog) 59 64 (.slice none 0 0) 24 Tryz.underlyingL59 Tryz.infoL64 rfl .i64 .i64 n (by omega) (by omega);have wl:=run_make_row' (P:=Tryz.prog) 64 4 (.bool false) 1 Tryz.underlying64 Tryz.info4 rfl .i64 .i64 R (by omega) (by omega);have tf:=Jj wl;clear wl;(go_enter Tryz.func123,Tryz.ntmps123);(go_upto_region 2 with fail);clear wU;obtain ⟨G,hG⟩:∃ G,G=w.heap.size:=⟨_,rfl⟩;obtain ⟨w4,wu⟩:∃ w4,w4=w.alloc (.cells (madeCells #[.slice none 0 0] n) 64):=⟨_,rfl⟩
 have wm:LayR w4 G n R 0 w4:=by
  subst wu hG;exact ⟨by simp,(World.rowIs_made w _ _ _).congr λ a _=>by simp,λ a ha=>by omega,FrX.refl _ _⟩
 (have wW:Hid (Below w.heap.size w w4):=Jj (by rw [wu];exact (J5 _ _).alloc (J4 _) _));have ww:=Jj hG;have wO:=Jj wm;rw [<- wu,<- hG];clear wu hG wm;go_wp2_with fail
 go_loopw [11] (λ s11 wq=>∃ j:Nat,j<=n/\s11=.int .i64 (j:Int)/\LayR w4 G n R j wq) (λ s11 _=>n - (intOf s11).toNat)
 case atStart=>exact ⟨0,Nat.zero_le _,rfl,wO.out⟩
 case round =>
  obtain ⟨j,hj,rfl,hl⟩:=hrel;have HL:=Jj hl
  by_cases wZ:j<n
  ·have wU:=tf.out;(have xc:wr.cell? ⟨G,j,none⟩=some (.slice none 0 0):=by have:=hl.2.1.cell wZ;rwa [if_neg (by omega)] at this);have xf:=hl.2.1.frozen j;have hG:=hl.2.1.lt;(have hj0:(0:Int)<=j:=by omega);(have hj1:(j:Int)<n:=by omega);have tc:=Jj (LayR.step hl);clear hl;go_wp2_with fail
   go_roundw
   case rel=>exact ⟨j+1,by omega,by go_num,tc.out⟩
   case measure=>simp [intOf];omega
  ·(obtain rfl:j=n:=by omega);clear hl;(go_wp2_with fail);(go_ret);refine ⟨by rw [<- ww.out];rfl,by rw [<- ww.out];exact HL.out.all,by have:=HL.out.1;have:=ww.out;omega,wW.out.trans (HL.out.2.2.2.below ?_ (λ b hb=>?_))⟩
   ·exact wW.out.size
   ·have:=ww.out;have hb:b=G:=hb;omega
set_option maxRecDepth 100000 in
set_option maxHeartbeats 8000000 in
theorem q5d (W:World) (B1 B2 GM R K r:Nat) (vu:Value) (l:List Nat) (m:Bool) (b1:W.heap[B1]?=some (.cells #[.slice (some ⟨GM,0,none⟩) R R] 64)) (b2:W.heap[B2]?=some (.cells #[vu] 27)) (hm:W.cell? ⟨GM,r,none⟩=some (.bool m))
  (ho:W.ownsRow K 3 1 vu l.length (l.map λ y:Nat=>Value.int .i64 (y:Int))) (hr:r<R) (hR:R<=256) (hl:l.length<=200000) (hK:B2<K) (hKW:K<=W.heap.size) :
  Calls Tryz.prog 140 #[.int .i64 (r:Int),.pointer (some ⟨B1,0,none⟩),.pointer (some ⟨B2,0,none⟩)] W λ e W'=>e=.returned (.tuple #[])/\∃ vu',W'.heap[B2]?=some (.cells #[vu'] 27)/\W'.ownsRow K 3 1 vu' (if m=true then l else l++[r]).length ((if m=true then l else l++[r]).map λ y:Nat=>Value.int .i64 (y:Int))/\GroS B2 B2 W W' vu vu':=by
 obtain ⟨i0,hi,wT,wR,wQ⟩:=info_parts Tryz.info3;have HI:=Jj (And.intro hi (And.intro wT (And.intro wR wQ)));clear hi wT wR wQ;have c1:=q6 b1 0;have c2:=q6 b2 0;(have f2:W.frozen? ⟨B2,0,none⟩=false:=by simp [World.frozen?,b2]);have wX:=Jj b2;have HO:=Jj ho;have wY:B2<W.heap.size:=(Array.getElem?_eq_some_iff.1 b2).1
 (have hr0:(0:Int)<=r:=by omega);(have hr1:(r:Int)<R:=by omega);obtain ⟨Av,cv,hv⟩:=qX ho;obtain ⟨lz,wv⟩:∃ lz,l.length=lz:=⟨_,rfl⟩;rw [wv] at hv hl;have tg:=Jj wv;have HV:=Jj hv;(have td:Hid (W.ownsRow K 3 1 (.slice Av lz cv) lz (l.map λ y:Nat=>Value.int .i64 (y:Int))):=Jj (by rw [hv,wv] at ho;exact ho));rw [hv] at c2
 clear b1 b2 ho wv hv;(go_enter Tryz.func140,Tryz.ntmps140);cases m
 ·go_wp2_with (at_builtin;refine wpList_append_lies _ rfl (.tmp 9) (.tmp 11) 27 rfl K 3 i0 (.int .i64 0) 1 8 Tryz.underlying27 HI.out.1 HI.out.2.1 HI.out.2.2.1 HI.out.2.2.2 rfl (by decide) _ lz _ rfl (td.out.alloc _) ⟨W.heap.size,0,none⟩ 1 1 [.int .i64 (r:Int)] rfl rfl ?e1 ?e2 (by decide) ?e3 ?e4 ?e5 (W.heap.size+1) ?e6 ?_)
  case e1=>exact qm W _ _ rfl
  case e2=>exact ints_oneCell .i64 [(r:Int)]
  case e3=>unfold maxLen;omega
  case e4=>omega
  case e5=>simp;omega
  case e6=>simp
  intro g cap w6 wh wg wj wJ;(have wM:GroD W w6 vu (.slice (some ⟨g,0,none⟩) (lz+1) cap):=by rw [HV.out];exact qq wg wj);(have hbC:w6.heap[B2]?=some (.cells #[vu] 27):=(wM.block B2 wY (λ e=>by have:=(HO.out.lt B2 e).1;omega)).trans wX.out);(have q0:w6.cell? ⟨B2,0,none⟩=some (.slice Av lz cv):=by rw [<- HV.out];exact q6 hbC 0);(have q1:w6.frozen? ⟨B2,0,none⟩=false:=by simp [World.frozen?,hbC]);have tj:=Jj hbC;have th:=Jj wM;have wV:=Jj wh;clear wM hbC wh wg wj wJ c2 f2 c1 hm
  (go_wp2_with fail);(go_end0);refine ⟨rfl,_,?_,?_,(GroS.of_groD th.out).trans (GroS.store _ _ (p:=⟨B2,0,none⟩) ⟨J4 _,J4 _⟩ _)⟩
  ·simp [World.setCell,Array.getElem?_modify,tj.out]
  ·rw [tg.out];exact qJ (by simpa using wV.out) (λ g' ta=>JQ _ _ _ _ (λ e=>by have:=(wV.out.lt g' ta).1;have e:g'=B2:=e;omega))
 ·(go_wp2_with fail);(go_end0);exact ⟨rfl,vu,wX.out,HO.out,GroS.refl _ _ _ _⟩
theorem FrX.groS {X:Nat->Prop} {w0 a b:World} {lo hi:Nat} {v v':Value} (h:FrX X w0 a) (g:GroS lo hi a b v v') (hx:∀ k,lo<=k->k<=hi->X k\/w0.heap.size<=k) (hv:∀ k,v.ownBlock=some k->X k\/w0.heap.size<=k):FrX X w0 b :=
 ⟨g.os.trans h.os,g.tape.trans h.tape,g.output.trans h.output,Nat.le_trans h.size g.size,λ k hk hn=>(g.block k (Nat.lt_of_lt_of_le hk h.size) (λ e=>by
  rcases hx k e.1 e.2 with h1 | h1
  ·exact hn h1
  ·omega) (λ e=>by
  rcases hv k e with h1 | h1
  ·exact hn h1
  ·omega)).trans (h.block k hk hn)⟩
def qBv (w:World) (GM R:Nat) (k:qE) (e:Ending) (w':World):Prop :=
 ∃ vu,e=.returned vu/\w'.ownsRow w.heap.size 3 1 vu (usB k).length ((usB k).map λ y:Nat=>Value.int .i64 (y:Int))/\w'.rowIs GM 4 R (λ r=>.bool (mkI k.ins k.ins.length r))/\FrX (λ b=>b=GM) w w'
set_option maxRecDepth 100000 in
set_option maxHeartbeats 8000000 in
theorem q4a (Wa w:World) (k:qE) (v:Value) (hv:VBlk Wa v k) (GM R:Nat) (hW:Below Wa.heap.size Wa w) (hGM:Wa.heap.size<=GM) (hm:w.rowIs GM 4 R (λ _=>.bool false)) (tf:q4S R k) (hR:R<=256) :
  Calls Tryz.prog 124 #[v,.slice (some ⟨GM,0,none⟩) R R] w (qBv w GM R k):=by
 obtain ⟨Ap,cp,Ai,ci,At,ct,rfl,-,hi,-,hk1,hk2⟩:=hv;have HW:=Jj hW;have HI:=Jj hi;have tj:=Jj tf;have HM:=Jj hm;have tW:=Jj (And.intro hGM hm.lt);have tF:=tf.len;have tL:∀ (fn:Fn) (first cap:Array Value) (w:World),(Instr.makeFunc fn first cap).run Tryz.prog w=.ok (.func fn first cap) w:=λ _ _ _ _=>rfl;clear hW hi tf hm hGM
 (go_enter Tryz.func124,Tryz.ntmps124);(go_upto_region 3 with fail);clear tL;obtain ⟨N,hN⟩:∃ N,N=w.heap.size:=⟨_,rfl⟩;rw [<- hN];obtain ⟨W0,hW0⟩:∃ W0,W0=((w.alloc (.cells #[.slice Ap k.phis.length cp,.slice Ai k.ins.length ci,.int .i64 k.term.kind,.int .i64 k.term.arg,.slice At k.term.to.length ct] 51)).alloc (.cells #[.slice (some ⟨GM,0,none⟩) R R] 64)).alloc (.cells #[.slice none 0 0] 27):=⟨_,rfl⟩;obtain ⟨b0,b1,b2,ww⟩:W0.heap[N]?=some (.cells #[.slice Ap k.phis.length cp,.slice Ai k.ins.length ci,.int .i64 k.term.kind,.int .i64 k.term.arg,.slice At k.term.to.length ct] 51)/\W0.heap[N+1]?=some (.cells #[.slice (some ⟨GM,0,none⟩) R R] 64)/\W0.heap[N+1+1]?=some (.cells #[.slice none 0 0] 27)/\Below N w W0:=by
  subst hW0 hN;have h0:=heap_alloc_new w (.cells #[.slice Ap k.phis.length cp,.slice Ai k.ins.length ci,.int .i64 k.term.kind,.int .i64 k.term.arg,.slice At k.term.to.length ct] 51);have h1:=heap_alloc_new (w.alloc (.cells #[.slice Ap k.phis.length cp,.slice Ai k.ins.length ci,.int .i64 k.term.kind,.int .i64 k.term.arg,.slice At k.term.to.length ct] 51)) (.cells #[.slice (some ⟨GM,0,none⟩) R R] 64);have h2:=heap_alloc_new ((w.alloc (.cells #[.slice Ap k.phis.length cp,.slice Ai k.ins.length ci,.int .i64 k.term.kind,.int .i64 k.term.arg,.slice At k.term.to.length ct] 51)).alloc (.cells #[.slice (some ⟨GM,0,none⟩) R R] 64)) (.cells #[.slice none 0 0] 27);refine ⟨?_,?_,by simpa using h2,(((J5 _ w).alloc (J4 _) _).alloc (by simp) _).alloc (by simp;omega) _⟩
  ·exact (Below.heap_alloc _ _ _ (by simp;omega)).trans ((Below.heap_alloc _ _ _ (by simp)).trans h0)
  ·exact (Below.heap_alloc _ _ _ (by simp)).trans (by simpa using h1)
 (have tz:W0.heap.size=N+3:=by rw [hW0,hN];simp);(have wk:Hid (Wa.heap.size<=GM/\GM<N):=Jj (by rw [hN];exact tW.out));have wl:Hid (W0.heap.size=N+3/\N=w.heap.size):=Jj ⟨tz,hN⟩;have sh:=Jj b0;have sf:=Jj b1;have sd:=Jj b2;have wj:=Jj ww;(have tH:Hid (Below Wa.heap.size Wa W0):=Jj (HW.out.trans (ww.mono (by have:=wk.out;omega))));have tV:=Jj (HM.out.of_block (ww.block GM wk.out.2))
 have c1:=q6 b0 1;(have hk30:(300:Nat) * k.ins.length<=90000:=by omega);rw [<- hW0];clear hW0 hN ww b0 b1 b2 tz;(go_wp2_with fail);clear c1
 go_loopw [15] (λ s15 wq=>∃ (i:Nat) (vu:Value),i<=k.ins.length/\s15=.int .i64 (i:Int)/\wq.heap[N+1+1]?=some (.cells #[vu] 27)/\wq.ownsRow (N+3) 3 1 vu (usK k.ins i).length ((usK k.ins i).map λ y:Nat=>Value.int .i64 (y:Int))/\wq.rowIs GM 4 R (λ r=>.bool (mkI k.ins i r))/\FrX (λ b=>b=GM\/b=N+1+1) W0 wq) (λ s15 _=>k.ins.length - (intOf s15).toNat)
 case atStart=>exact ⟨0,_,Nat.zero_le _,rfl,sd.out,World.ownsRow_nil _ _ _ _,tV.out.congr λ _ _=>by simp [mkI],FrX.refl _ _⟩
 case round =>
  obtain ⟨i,vu,hi,rfl,wm,ho,hm,wM⟩:=hrel;obtain ⟨wL,rfl⟩:∃ wL,wL=wr:=⟨_,rfl⟩;have HO:=Jj ho;have wY:=Jj hm;have wQ:=Jj wM;have tw:=Jj wm;(have hb0L:wL.heap[N]?=_:=(wM.block N (by have:=wl.out;omega) (by have:=wk.out;omega)).trans sh.out);have HB0L:=Jj hb0L;have hb1L:wL.heap[N+1]?=_:=(wM.block (N+1) (by have:=wl.out;omega) (by have:=wk.out;omega)).trans sf.out
  have wZ:=Jj hb1L;(have wT:Below Wa.heap.size Wa wL:=tH.out.trans (wM.below tH.out.size (λ b hb=>by have:=wk.out;omega)));have tY:=Jj wT;have hul:=q5e (λ x hx=>(tj.out.ins x hx).2.2) i;have hzL:=wM.size
  by_cases tF:i<k.ins.length
  ·obtain ⟨bi,oi,x,rfl,hx,h0,h1,⟨A2,c2,tG,tD⟩,h3,h4⟩:=HI.out.at_ tF;have wR:=q7 wT;have h2:=wR _ _ tG;obtain ⟨tC,tB,tK⟩:=tj.out.ins x (Jz hx.out);have d0:=wR _ _ h0.1;have d1:=wR _ _ h1.1;have d3:=wR _ _ h3.1;have d4:=wR _ _ h4.1;have HX:=Jj hx
   have tP:=Jj tC;have tO:=Jj tB;have tS:=Jj tD;(have hi0:(0:Int)<=i:=by omega);(have hi1:(i:Int)<k.ins.length:=by omega);obtain ⟨la,tg⟩:∃ la,x.args.length=la:=⟨_,rfl⟩;rw [tg] at h2 tK;have tq:=Jj tg;obtain ⟨Q,hQ⟩:∃ Q,Q=wL.heap.size:=⟨_,rfl⟩
   obtain ⟨wB,hwB⟩:∃ wB,wB=wL.alloc (.cells #[.int .i64 x.op,.int .i64 x.dst,.slice A2 la c2,.int .i64 x.imm,.int .i64 x.fn] 53):=⟨_,rfl⟩;(have hbQ:wB.heap[Q]?=some (.cells #[.int .i64 x.op,.int .i64 x.dst,.slice A2 la c2,.int .i64 x.imm,.int .i64 x.fn] 53):=by rw [hwB,hQ];exact heap_alloc_new _ _);(have hbelB:Below wL.heap.size wL wB:=by rw [hwB];exact (J5 _ _).alloc (J4 _) _);(have HQ:Hid (Q=wL.heap.size/\wB.heap.size=Q+1/\N+3<=Q):=Jj ⟨hQ,by rw [hwB,hQ];simp,by have:=wl.out;omega⟩);have tZ:=Jj hbQ;have wJ:=Jj hbelB;have q2:=q6 hbQ 2;(go_upto_region 6 with fail);rw [<- hwB,<- hQ]
   clear ho hm wM hb0L hb1L wT wR hx h0 h1 h2 tG h3 h4 tD tC tB tg hwB hQ hbQ hbelB d0 d1 d3 d4;(go_wp2_with fail);clear q2
   go_loopw [22] (λ s22 wq=>∃ (j:Nat) (v2:Value),j<=la/\s22=.int .i64 (j:Int)/\wq.heap[N+1+1]?=some (.cells #[v2] 27)/\wq.ownsRow (N+3) 3 1 v2 (usK k.ins i++usA k.ins i (x.args.take j)).length ((usK k.ins i++usA k.ins i (x.args.take j)).map λ y:Nat=>Value.int .i64 (y:Int))/\GroS (N+1+1) (N+1+1) wB wq vu v2) (λ s22 _=>la - (intOf s22).toNat)
   case atStart=>exact ⟨0,vu,Nat.zero_le _,rfl,(wJ.out.block _ (by have:=HQ.out;omega)).trans tw.out,by rw [q7d,List.append_nil];exact qJ HO.out (λ g hg=>wJ.out.block g (HO.out.lt g hg).2),GroS.refl _ _ _ _⟩
   case round =>
    obtain ⟨j,v2,hj,rfl,wm,ho,hG⟩:=hrel;have tU:=Jj ho;have HG:=Jj hG;have tx:=Jj wm
    by_cases tM:j<la
    ·(have wg:∀ b,b<wL.heap.size->b≠N+1+1->vu.ownBlock≠some b->wr.heap[b]?=wL.heap[b]?:=λ b h1 h2 h3=>(hG.block b (by have:=HQ.out;omega) (by omega) h3).trans (wJ.out.block b h1));(have wv:∀ b,b<N+3->vu.ownBlock≠some b:=λ b hb e=>by have:=(HO.out.lt b e).1;omega);(have hb1J:wr.heap[N+1]?=_:=(wg (N+1) (by have:=HQ.out;omega) (by omega) (wv _ (by omega))).trans wZ.out);(have wW:Below Wa.heap.size Wa wr:=tY.out.trans ⟨hG.os.trans wJ.out.os,hG.tape.trans wJ.out.tape,hG.output.trans wJ.out.output,Nat.le_trans wJ.out.size hG.size,λ b hb=>wg b (by have:=wk.out;have:=HQ.out;omega) (by have:=wk.out;omega) (wv _ (by have:=wk.out;omega))⟩);(obtain ⟨bt,ot,y,rfl,hy,hyc,-⟩:=(SInts.keep (q7 wW) tS.out).int (k:=j) (by rw [tq.out];exact tM));have td:=tP.out y (Jz hy.out);(obtain ⟨r,rfl⟩:∃ r:Nat,y=(r:Int):=⟨y.toNat,by have:=td.1;omega⟩);(have hr:r<R:=by have:=td.2;omega);have tE:=(wY.out.of_block (wg GM (by have:=wk.out;have:=HQ.out;omega) (by have:=wk.out;omega) (wv _ (by have:=wk.out;omega)))).cell hr
     have wu:(usK k.ins i++usA k.ins i (x.args.take j)).length<=200000:=by
      have h1:=q5f k.ins i (x.args.take j);rw [List.length_take,tq.out] at h1;rw [List.length_append];omega
     (have wV:=q5d wr (N+1) (N+1+1) GM R (N+3) r v2 _ _ hb1J wm tE ho hr hR wu (by omega) (by have:=hG.size;have:=HQ.out;omega));have tu:=Jj wV;have tR:=Jj (q7e (ins:=k.ins) (i:=i) hy.out);(have hj0:(0:Int)<=j:=by omega);(have hj1:(j:Int)<la:=by omega);clear wm ho hG wg wv hb1J wW hy td tE wu wV;(go_wp2_with (go_at_call 140;refine tu.out.mono ?_;rintro e w5 ⟨rfl,v3,wX,wU,hG5⟩));have sc:=Jj wX;have tm:=Jj wU
     have tc:=Jj hG5;clear wX wU hG5
     go_roundw
     case rel =>
      refine ⟨j+1,v3,by omega,by go_num,sc.out,?_,HG.out.trans tc.out⟩;rw [tR.out];have h1:=tm.out;cases hq:mkI k.ins i r
      ·rw [hq] at h1;simpa [List.append_assoc] using h1
      ·rw [hq] at h1;simpa using h1
     case measure=>simp [intOf];omega
    ·(obtain rfl:j=la:=by omega);(have wg:∀ b,b<wL.heap.size->b≠N+1+1->vu.ownBlock≠some b->wr.heap[b]?=wL.heap[b]?:=λ b h1 h2 h3=>(hG.block b (by have:=HQ.out;omega) (by omega) h3).trans (wJ.out.block b h1));(have wv:∀ b,b<N+3->vu.ownBlock≠some b:=λ b hb e=>by have:=(HO.out.lt b e).1;omega);(have hbQ3:wr.heap[Q]?=_:=(hG.block Q (by have:=HQ.out;omega) (by have:=HQ.out;omega) (λ e=>by have:=(HO.out.lt Q e).2;have:=HQ.out;omega)).trans tZ.out);have d1:=q6 hbQ3 1;(have hb1J:wr.heap[N+1]?=_:=(wg (N+1) (by have:=HQ.out;omega) (by omega) (wv _ (by omega))).trans wZ.out);have e1:=q6 hb1J 0;(have hmJ:=wY.out.of_block (wg GM (by have:=wk.out;have:=HQ.out;omega) (by have:=wk.out;omega) (wv _ (by have:=wk.out;omega))));have wh:FrX (λ b=>b=GM\/b=N+1+1) W0 wr:=(wQ.out.trans (.of_below wJ.out)).groS hG (λ q h1 h2=>.inl (.inr (by omega))) (λ q hq=>.inr (by have:=(HO.out.lt q hq).1;have:=wl.out;omega))
     (have ta:usK k.ins (i+1)=usK k.ins i++usA k.ins i (x.args.take j):=by rw [xy HX.out,List.take_of_length_le (by rw [tq.out];exact J4 _)]);have tQ:=Jj ta;have HMJ:=Jj hmJ;have tr:=Jj wh;have tJ:=Jj (q3d HX.out)
     by_cases hd:x.dst=-1
     ·rw [hd] at d1;have tp:Hid (wr.rowIs GM 4 R (λ r=>.bool (mkI k.ins (i+1) r))):=Jj (hmJ.congr λ r _=>by rw [tJ.out r,decide_eq_false (by omega),Bool.or_false]);clear wm ho hG wg wv hbQ3 hb1J e1 hmJ wh ta hd;go_wp2_with fail
      go_roundw
      case rel=>exact ⟨i+1,v2,by omega,by go_num,tx.out,by rw [tQ.out];exact tU.out,tp.out,tr.out⟩
      case measure=>simp [intOf];omega
     ·obtain ⟨d,wO,hdR⟩:∃ d:Nat,x.dst=(d:Int)/\d<R:=by
       rcases tO.out with h1 | h1
       ·exact absurd h1 hd
       ·exact ⟨x.dst.toNat,by have:=h1.1;omega,by have:=h1.1;have:=h1.2;omega⟩
      rw [wO] at d1;have HDE:=Jj wO
      have tp:Hid ((wr.setCell ⟨GM,d,none⟩ (.bool true)).rowIs GM 4 R (λ r=>.bool (mkI k.ins (i+1) r))):=Jj ((hmJ.set d _).congr λ r _=>by
       rw [tJ.out r,wO]
       by_cases e:r=d
       ·subst e;simp
       ·rw [if_neg e,decide_eq_false (by omega),Bool.or_false])
      have hs:∀ y,y≠GM->(wr.setCell ⟨GM,d,none⟩ (.bool true)).heap[y]?=wr.heap[y]?:=λ y hy=>JQ _ _ _ _ hy;(have sb:Hid ((wr.setCell ⟨GM,d,none⟩ (.bool true)).heap[N+1+1]?=some (.cells #[v2] 27)):=Jj ((hs _ (by have:=wk.out;omega)).trans wm));(have tT:Hid ((wr.setCell ⟨GM,d,none⟩ (.bool true)).ownsRow (N+3) 3 1 v2 (usK k.ins (i+1)).length ((usK k.ins (i+1)).map λ y:Nat=>Value.int .i64 (y:Int))):=Jj (by rw [ta];exact qJ ho (λ g hg=>hs g (by have:=(ho.lt g hg).1;have:=wk.out;omega))));have tX:=Jj (wh.setCell (p:=⟨GM,d,none⟩) (.inl (.inl rfl)) (.bool true));have gf:=hmJ.frozen d;have gc:=hmJ.cell hdR;(have tN:(0:Int)<=d:=by omega);(have hd1:(d:Int)<R:=by omega);clear wm ho hG wg wv hbQ3 hb1J hmJ wh ta hd wO hs
      go_wp2_with fail
      go_roundw
      case rel=>exact ⟨i+1,v2,by omega,by go_num,sb.out,tT.out,tp.out,tX.out⟩
      case measure=>simp [intOf];omega
  ·(obtain rfl:i=k.ins.length:=by omega);have e3:=q6 hb0L 3;have e2:=q6 wm 0;have HB:=Jj wT
   by_cases hd:k.term.arg=-1
   ·(have th:Hid (usB k=usK k.ins k.ins.length):=Jj (by unfold usB usE;rw [if_neg (λ h=>by rw [hd] at h;omega),List.append_nil]));rw [hd] at e3;clear ho hm wM hb0L hb1L wT wm hd;(go_wp2_with fail);(go_ret);refine ⟨vu,rfl,?_,wY.out,?_⟩
    ·rw [th.out];exact zw HO.out (by have:=wl.out;omega)
    ·exact ⟨wQ.out.os.trans wj.out.os,wQ.out.tape.trans wj.out.tape,wQ.out.output.trans wj.out.output,Nat.le_trans wj.out.size wQ.out.size,λ b hb hn=>(wQ.out.block b (by have:=wl.out;omega) (λ e=>by have:=wl.out;rcases e with e | e;exact hn e;omega)).trans (wj.out.block b (by have:=wl.out;omega))⟩
   ·obtain ⟨d,wO,hdR⟩:∃ d:Nat,k.term.arg=(d:Int)/\d<R:=by
     rcases tj.out.arg with h1 | h1
     ·exact absurd h1 hd
     ·exact ⟨k.term.arg.toNat,by have:=h1.1;omega,by have:=h1.1;have:=h1.2;omega⟩
    rw [wO] at e3;(have wu:(usK k.ins k.ins.length).length<=200000:=by omega);(have wV:=q5d wL (N+1) (N+1+1) GM R (N+3) d vu _ _ hb1L wm (hm.cell hdR) ho hdR hR wu (by omega) (by have:=wl.out;omega));have tu:=Jj wV
    have th:Hid (usB k=if mkI k.ins k.ins.length d=true then usK k.ins k.ins.length else usK k.ins k.ins.length++[d]):=Jj (by
     unfold usB usE;rw [wO];(have e:((d:Int)).toNat=d:=by omega);rw [e];cases hq:mkI k.ins k.ins.length d
     ·rw [if_pos ⟨by omega,rfl⟩];simp
     ·rw [if_neg (λ h=>by simp at h)];simp)
    (have tN:(0:Int)<=d:=by omega);clear ho hm wM hb0L hb1L wT wm hd wO wu wV e2;(go_wp2_with (go_at_call 140;refine tu.out.mono ?_;rintro e w5 ⟨rfl,v3,wX,wU,hG5⟩;have e5:=q6 wX 0;have tm:=Jj wU;have tc:=Jj hG5;clear wX wU hG5));(go_ret);(have wh:FrX (λ b=>b=GM\/b=N+1+1) W0 w5:=wQ.out.groS tc.out (λ q h1 h2=>.inl (.inr (by omega))) (λ q hq=>.inr (by have:=(HO.out.lt q hq).1;have:=wl.out;omega)));refine ⟨v3,rfl,?_,?_,?_⟩
    ·rw [th.out];exact zw tm.out (by have:=wl.out;omega)
    ·exact wY.out.of_block (tc.out.block GM wY.out.lt (by have:=wk.out;omega) (λ e=>by have:=(HO.out.lt GM e).1;have:=wk.out;omega))
    ·exact ⟨wh.os.trans wj.out.os,wh.tape.trans wj.out.tape,wh.output.trans wj.out.output,Nat.le_trans wj.out.size wh.size,λ b hb hn=>(wh.block b (by have:=wl.out;omega) (λ e=>by have:=wl.out;rcases e with e | e;exact hn e;omega)).trans (wj.out.block b (by have:=wl.out;omega))⟩
set_option maxRecDepth 100000 in
set_option maxHeartbeats 8000000 in
theorem q1F (bs:List qE) (Wa:World) (H Ga R K:Nat) (W:World) (vo:Value) (mk ph:Nat->Nat->Bool) (s:LvS) (h:WsM Wa H Ga bs.length R K W vo mk ph s) (hf:FewS bs.length R s) (hn:bs.length<=64) (hR:R<=256) (b:Nat) (hb:b<bs.length)
  (wX:SL Wa 1 RRow (some ⟨Ga,0,none⟩) bs.length (kT bs)) (ps:List PhiD) (A:Option Addr) (c:Nat) (wT:SL Wa 2 RPhi A c ps) (hpl:ps.length<=1000)
  (wV:∀ p∈ps,p.args.length=(qH bs b).length/\∀ a∈p.args,InR R a) :
  Calls Tryz.prog 126 #[.pointer (some ⟨H+4 * (bs.length+1),0,none⟩),.int .i64 (b:Int),.slice A ps.length c] W λ e W'=>q9E Wa H Ga bs.length R K W vo mk ph (alE mk ph (qH bs b) s ps) e W'/\FewS bs.length R (alE mk ph (qH bs b) s ps):=by
 obtain ⟨P,hP⟩:∃ P,H+4 * (bs.length+1)=P:=⟨_,rfl⟩;have HP:=Jj hP;have HM:=Jj h;have HF:=Jj hf;have tG:=Jj wX;have tm:=Jj wT;have tp:=Jj wV;have HZ:Hid (Wa.heap.size=H/\H<=P):=Jj ⟨h.hz,by omega⟩;have hb0:(0:Int)<=b:=by omega
 (have tg:(b:Int)<bs.length:=by omega);obtain ⟨n,wM⟩:∃ n,bs.length=n:=⟨_,rfl⟩;have tr:=Jj wM;obtain ⟨m,hm⟩:∃ m,(qH bs b).length=m:=⟨_,rfl⟩;(have hm64:m<=64:=by rw [<- hm];have:=vU bs 0 b;unfold qH;omega);have wl:=Jj hm;rw [hP];rw [wM] at tg;clear h hf wX wT wV hP wM hm
 (go_enter Tryz.func126,Tryz.ntmps126);go_wp2_with fail
 go_loopw [12] (λ s12 wq=>∃ (k:Nat) (v':Value),k<=ps.length/\s12=.int .i64 (k:Int)/\WsM Wa H Ga bs.length R K wq v' mk ph (alE mk ph (qH bs b) s (ps.take k))/\FewS bs.length R (alE mk ph (qH bs b) s (ps.take k))/\GroS H P W wq vo v') (λ s12 _=>ps.length - (intOf s12).toNat)
 case atStart=>exact ⟨0,vo,Nat.zero_le _,rfl,HM.out,HF.out,GroS.refl _ _ _ _⟩
 case round =>
  obtain ⟨k,v',hk,rfl,hM,hF,hG⟩:=hrel;obtain ⟨wL,rfl⟩:∃ wL,wL=wr:=⟨_,rfl⟩;have tu:=Jj hM;have tc:=Jj hF;have tz:=Jj hG
  by_cases tf:k<ps.length
  ·(have wj:Below Wa.heap.size Wa wL:=by rw [HZ.out.1];exact hM.bel);obtain ⟨bp,op,p,rfl,hp,wU,A2,c2,wJ,wQ⟩:=tm.out.at_ tf;obtain ⟨wg,wk⟩:=tp.out p (Jz hp.out);rw [wg,wl.out] at wJ;have wv:=q7 wj _ _ wU.1;have ww:=q7 wj _ _ wJ;(have hk0:(0:Int)<=k:=by omega);(have hk1:(k:Int)<ps.length:=by omega);have wZ:=Jj hp
   have wh:=Jj (And.intro wg wk);have th:=Jj wQ;obtain ⟨Q,hQ⟩:∃ Q,Q=wL.heap.size:=⟨_,rfl⟩;obtain ⟨wB,hwB⟩:∃ wB,wB=wL.alloc (.cells #[.int .i64 p.dst,.slice A2 m c2] 55):=⟨_,rfl⟩;(have hbQ:wB.heap[Q]?=some (.cells #[.int .i64 p.dst,.slice A2 m c2] 55):=by rw [hwB,hQ];exact heap_alloc_new _ _);(have hbelB:Below wL.heap.size wL wB:=by rw [hwB];exact (J5 _ _).alloc (J4 _) _);have hMB:=hM.below hbelB;obtain ⟨t0,-⟩:=hMB.cells HP.out;obtain ⟨A3,c3,wu,wR⟩:=q2G tG.out hb (J5 Wa.heap.size Wa)
   rw [wl.out] at wu;(have td:=q7 (show Below Wa.heap.size Wa wB by rw [HZ.out.1];exact hMB.bel) _ _ wu);rw [tr.out] at t0;have tx:=Jj hMB;have tF:=Jj hbQ
   have HQ:Hid (Q=wL.heap.size/\wB.heap.size=Q+1/\P<Q):=Jj ⟨hQ,by rw [hwB,hQ];simp,by
    have h1:=(Array.getElem?_eq_some_iff.1 hM.box).1
    rw [HP.out] at h1;omega⟩
   have tj:Hid (∀ W,Below Wa.heap.size Wa W->SL W 1 RInt A3 c3 (qH bs b)/\SL W 1 RInt A2 c2 p.args):=Jj (λ W hW=>⟨SInts.keep (q7 hW) wR,SInts.keep (q7 hW) th.out⟩);(have tq:Hid (v'.ownBlock≠some Q):=Jj (λ e=>by have:=(hM.op.lt Q e).2;omega));have tB:Hid (GroS H P W wB vo v'):=Jj (hG.mono hbelB);clear hM hF hG wj hp wU wJ wQ wg wk hMB hbelB wR wu;(go_upto_region 3 with fail);rw [<- hwB,<- hQ];clear hwB hQ wv ww;(go_wp2_with fail);clear t0 td
   go_loopw [24] (λ s24 wq=>∃ (j:Nat) (v2:Value),j<=m/\s24=.int .i64 (j:Int)/\WsM Wa H Ga bs.length R K wq v2 mk ph (atEs mk ph (alE mk ph (qH bs b) s (ps.take k)) ((prP (qH bs b) p.args).take j))/\FewS bs.length R (atEs mk ph (alE mk ph (qH bs b) s (ps.take k)) ((prP (qH bs b) p.args).take j))/\GroS H P wB wq v' v2) (λ s24 _=>m - (intOf s24).toNat)
   case atStart=>exact ⟨0,v',Nat.zero_le _,rfl,tx.out,tc.out,GroS.refl _ _ _ _⟩
   case round =>
    obtain ⟨j,v2,hj,rfl,hM,hF,hG⟩:=hrel;have tw:=Jj hM;have tD:=Jj hF;have ta:=Jj hG
    by_cases wW:j<m
    ·(have wj:Below Wa.heap.size Wa wr:=by rw [HZ.out.1];exact hM.bel);obtain ⟨sA,sP⟩:=tj.out wr wj;(obtain ⟨bt,ot,x,rfl,hx,hxc,-⟩:=sA.int (k:=j) (by rw [wl.out];exact wW));(obtain ⟨bu,ou,y,rfl,hy,hyc,-⟩:=sP.int (k:=j) (by rw [wh.out.1,wl.out];exact wW));obtain ⟨q,rfl,hq⟩:=q9C hx.out;have wm:=wh.out.2 y (Jz hy.out);(obtain ⟨z,rfl⟩:∃ z:Nat,y=(z:Int):=⟨y.toNat,by have:=wm.1;omega⟩);(have hz:z<R:=by have:=wm.2;omega);have hbQ2:wr.heap[Q]?=some (.cells #[.int .i64 p.dst,.slice (some ⟨bu,ou,none⟩) m c2] 55):=(hG.block Q (by have:=HQ.out;omega) (by have:=HQ.out;omega) tq.out).trans tF.out
     have d0:=q6 hbQ2 0;have d1:=q6 hbQ2 1;have wO:=q29 Wa H Ga bs.length R K wr v2 mk ph _ hM hF hn hR q z hq hz;rw [HP.out] at wO;have tE:=Jj wO;have hST:=qAV hx.out hy.out;have hFS:=hF.atE mk ph hq hz;have wY:=Jj hST;have tC:=Jj hFS
     (have hj0:(0:Int)<=j:=by omega);(have hj1:(j:Int)<m:=by omega);clear hM hF hG wj sA sP hx hy wm hbQ2 wO hST hFS;(go_wp2_with (go_at_call 141;refine tE.out.mono ?_;rintro e w5 ⟨rfl,v3,hM5,hG5⟩));rw [HP.out] at hG5
     go_roundw
     case rel =>
      refine ⟨j+1,v3,by omega,by go_num,?_,?_,ta.out.trans hG5⟩
      ·rw [qG wY.out,q28];simpa using hM5
      ·rw [qG wY.out,q28];simpa using tC.out
     case measure=>simp [intOf];omega
    ·(obtain rfl:j=m:=by omega);(have e:(prP (qH bs b) p.args).take j=prP (qH bs b) p.args:=List.take_of_length_le (by rw [q9Y wh.out.1,wl.out];exact J4 _));have HE:=Jj e;clear hM hF hG e;go_wp2_with fail
     go_roundw
     case rel =>
      refine ⟨k+1,v2,by omega,by go_num,?_,?_,tB.out.trans ta.out⟩
      ·have h1:=tw.out;rw [HE.out] at h1;rw [qG wZ.out,q4O];exact h1
      ·have h1:=tD.out;rw [HE.out] at h1;rw [qG wZ.out,q4O];exact h1
     case measure=>simp [intOf];omega
  ·(obtain rfl:k=ps.length:=by omega);clear hM hF hG;(go_wp2_with fail);(go_end0);have e:ps.take ps.length=ps:=List.take_length;have h1:=tu.out;have h2:=tc.out;rw [e] at h1 h2;exact ⟨⟨rfl,v',h1,by rw [HP.out];exact tz.out⟩,h2⟩
end Go.Proofs.YtfoggldjjnabcaaGreatDoor
