/- The reference of layer 6: Dominates. -/
import Derived.Test.YtfoggldjjnabcaaGreatDoorGrPJ
import Derived.Test.YtfoggldjjnabcaaGreatDoorDmPJ
import Derived.Test.YtfoggldjjnabcaaGreatDoorGrWJ
import Derived.Test.YtfoggldjjnabcaaGreatDoorInfBJ
namespace Go.Proofs.YtfoggldjjnabcaaGreatDoor
open Go.ChangeShapes Go.WideShapes Go.RowKit Go.Deep
set_option linter.unusedVariables false
theorem Tryz.infoD64:(Tryz.prog.info? 64).map (fun i=>(i.zero,i.size,i.bytes))=some (some (.slice none 0 0),1,24):=by kernel_rfl
theorem Tryz.underlyingD59:Tryz.prog.underlying 59=some (.slice 64):=by kernel_rfl
structure TRow (w:World) (K n j:Nat) (v:Value) (D:Nat→Nat) (M:Nat→Nat→Bool):Prop where
  own:w.ownsRow K 64 1 v j ((List.range j).map fun a=>Value.slice (some ⟨D a,0,none⟩) n n)
  cells:∀ a,a<j→w.rowIs (D a) 4 n (fun b=>.bool (M a b))
  ap:∀ a,a<j→v.ownBlock≠some (D a)
  ge:∀ a,a<j→K≤D a
theorem TRow.below {w w':World} {K n j:Nat} {v:Value} {D:Nat→Nat} {M:Nat→Nat→Bool} (h:TRow w K n j v D M) (hb:Below w.heap.size w w'):TRow w' K n j v D M :=
  ⟨qH h.own (fun g hg=>hb.block g (h.own.lt g hg).2),fun a ha=>(h.cells a ha).of_block (hb.block _ (h.cells a ha).lt),h.ap,h.ge⟩
theorem owns_mono {w:World} {base base' n size:Nat} {e:TypeId} {v:Value} {xs:List Value} (h:w.ownsRow base e size v n xs) (hk:base'≤base):w.ownsRow base' e size v n xs:=by
  obtain ⟨h1,h2 | ⟨g,cap,cur,rfl,hb,h3⟩⟩:=h
  · exact ⟨h1,.inl h2⟩
  · exact ⟨h1,.inr ⟨g,cap,cur,rfl,Nat.le_trans hk hb,h3⟩⟩
theorem TRow.nil (w:World) (K n:Nat) (D:Nat→Nat) (M:Nat→Nat→Bool):TRow w K n 0 (.slice none 0 0) D M :=
  ⟨World.ownsRow_nil _ _ _ _,fun a ha=>by omega,fun a ha=>by omega,fun a ha=>by omega⟩
theorem TRow.push {w w':World} {K n j d:Nat} {v v':Value} {D:Nat→Nat} {M:Nat→Nat→Bool} (h:TRow w K n j v D M) (hg:GroD w w' v v')
    (ho:w'.ownsRow K 64 1 v' (j+1) ((List.range j).map (fun a=>Value.slice (some ⟨D a,0,none⟩) n n)++[.slice (some ⟨d,0,none⟩) n n]))
    (hd:w.rowIs d 4 n (fun b=>.bool (M j b))) (hK:K≤d) (hv:v.ownBlock≠some d):TRow w' K n (j+1) v' (updF D j d) M:=by
  have key:∀ x,x<w.heap.size→v.ownBlock≠some x→v'.ownBlock≠some x:=fun x hx hvx e=>by
    rcases hg.own x e with h1 | h1
    · exact hvx h1
    · omega
  refine ⟨?_,fun a ha=>?_,fun a ha=>?_,fun a ha=>?_⟩
  · rw [map_range_snoc] at ho;have:((List.range (j+1)).map (updF (fun a=>Value.slice (some ⟨D a,0,none⟩) n n) j (.slice (some ⟨d,0,none⟩) n n)))=(List.range (j+1)).map fun a=>Value.slice (some ⟨updF D j d a,0,none⟩) n n :=
      List.map_congr_left fun a _=>by unfold updF;by_cases e:a=j <;> simp [e]
    rwa [this] at ho
  · by_cases e:a=j
    · subst e;rw [qB];exact hd.of_block (hg.block _ hd.lt hv)
    · rw [q9 _ _ e];exact (h.cells a (by omega)).of_block (hg.block _ (h.cells a (by omega)).lt (h.ap a (by omega)))
  · by_cases e:a=j
    · subst e;rw [qB];exact key d hd.lt hv
    · rw [q9 _ _ e];exact key _ (h.cells a (by omega)).lt (h.ap a (by omega))
  · by_cases e:a=j
    · subst e;rw [qB];exact hK
    · rw [q9 _ _ e];exact h.ge a (by omega)
theorem TRow.at_ {w:World} {K n j:Nat} {v:Value} {D:Nat→Nat} {M:Nat→Nat→Bool} (h:TRow w K n j v D M) {a:Nat} (ha:a<j):∃ g cap,v=.slice (some ⟨g,0,none⟩) j cap∧w.cell? ⟨g,a,none⟩=some (.slice (some ⟨D a,0,none⟩) n n):=by
  obtain ⟨g,cap,u,rfl,hu,hc,-⟩:=own_cellD h.own ha;obtain ⟨rfl,-⟩:=qj _ hu;exact ⟨g,cap,rfl,hc⟩
def ToldRD (bs:List BlkD) (w:World) (e:Ending) (w':World):Prop :=
  (∃ v D,e=.returned v∧TRow w' w.heap.size bs.length bs.length v D (dmB bs))∧Below w.heap.size w w'
set_option maxRecDepth 100000 in
set_option maxHeartbeats 8000000 in
theorem refDom_any (f:FunD) (v:Value) (w:World) (hv:VFun w v f) (hn:f.blocks.length≤1000):Calls Tryz.prog 43 #[v] w (ToldRD f.blocks w):=by
  have hv0:=hv;obtain ⟨i0,hi,hz0,hz1,hz2⟩:=info_parts Tryz.infoD64;have HI:=Lib.hid (And.intro hi (And.intro hz0 (And.intro hz1 hz2)));clear hi hz0 hz1 hz2;obtain ⟨Ar,cr,A,c,rfl,-,-,-,-⟩:=hv;have HV:=Lib.hid hv0;(go_enter Tryz.func43,Tryz.ntmps43);(go_upto_region 1 with fail);obtain ⟨w1,hw1,hs1,hk1,hbel1,hc1,-⟩:=named w #[.int .i64 f.params,.int .i64 f.result,.slice Ar f.regs.length cr,.slice A f.blocks.length c] 30
  rw [← hw1];have c0:w1.cell? ⟨w.heap.size,0,none⟩=some (.int .i64 f.params):=hc1 0 _ rfl;have c1:w1.cell? ⟨w.heap.size,1,none⟩=some (.int .i64 f.result):=hc1 1 _ rfl;have c2:w1.cell? ⟨w.heap.size,2,none⟩=some (.slice Ar f.regs.length cr):=hc1 2 _ rfl;have c3:w1.cell? ⟨w.heap.size,3,none⟩=some (.slice A f.blocks.length c):=hc1 3 _ rfl;have HC:=Lib.hid (And.intro c0 (And.intro c1 (And.intro c2 c3)));have HB1:=Lib.hid hbel1;have HS1:=Lib.hid hs1;have HN:=Lib.hid (from_any f 0 (-1) _ w1 (VFun.keep hk1 hv0) hn)
  clear hw1 hs1 hbel1 hc1 hv0 hk1;(go_wp2_with fail);refine HN.out.mono ?_;rintro e w2 ⟨⟨R,rfl,hR,hr⟩,hb2⟩;(have HB2:Hid (Below w.heap.size w w2):=Lib.hid (HB1.out.trans (hb2.mono (by have:=HS1.out;omega))));have HR:=Lib.hid hr;(have HNW:Hid (w.heap.size<w2.heap.size):=Lib.hid (by have:=hb2.size;have:=HS1.out;omega));(have hk2:∀ i,w2.cell? ⟨w.heap.size,i,none⟩=w1.cell? ⟨w.heap.size,i,none⟩:=fun i=>hb2.cell (p:=⟨w.heap.size,i,none⟩) (by have:=HS1.out;show w.heap.size<_;omega));have HC2:=Lib.hid (And.intro ((hk2 0).trans HC.out.1) (And.intro ((hk2 1).trans HC.out.2.1) (And.intro ((hk2 2).trans HC.out.2.2.1) ((hk2 3).trans HC.out.2.2.2))))
  have hmk:=run_make_row' (P:=Tryz.prog) 64 4 (.bool false) 1 Tryz.underlying64 Tryz.info4 rfl .i64 .i64 f.blocks.length (by omega) (by omega);have HMK:=Lib.hid hmk;clear c0 c1 c2 c3 hr hR hb2 HN hk2 hmk;go_wp2_with fail
  go_loopw [4,5] (fun s4 s5 wq=>∃ (j:Nat) (v:Value) (D:Nat→Nat),j≤f.blocks.length∧v=s4∧s5=.int .i64 (j:Int)∧TRow wq w2.heap.size f.blocks.length j v D (dmB f.blocks)∧Below w2.heap.size w2 wq) (fun s4 s5 _=>f.blocks.length - (intOf s5).toNat)
  case atStart=>exact ⟨0,_,fun _=>0,Nat.zero_le _,rfl,rfl,TRow.nil _ _ _ _ _,Below.refl _ _⟩
  case round =>
    obtain ⟨j,v,D,hj,rfl,rfl,ht,hb⟩:=hrel;have HT:=Lib.hid ht;have HB:=Lib.hid hb;have HBW:Hid (Below w.heap.size w wr):=Lib.hid (HB2.out.trans (hb.mono (Nat.le_of_lt HNW.out)))
    by_cases hjl:j<f.blocks.length
    · have hk:∀ i,wr.cell? ⟨w.heap.size,i,none⟩=w2.cell? ⟨w.heap.size,i,none⟩:=fun i=>hb.cell (p:=⟨w.heap.size,i,none⟩) HNW.out;have c0:=(hk 0).trans HC2.out.1;have c1:=(hk 1).trans HC2.out.2.1;have c2:=(hk 2).trans HC2.out.2.2.1;have c3:=(hk 3).trans HC2.out.2.2.2;have HN:=Lib.hid (from_any f 0 j _ wr (VFun.keep (q6 HBW.out) HV.out) hn);clear ht hb hk;(go_wp2_with fail);refine HN.out.mono ?_
      rintro e w4 ⟨⟨R2,rfl,hR2,hr2⟩,hb4⟩;have HB4:Hid (Below w2.heap.size w2 w4):=Lib.hid (HB.out.trans (hb4.mono HB.out.size));have HT4:=Lib.hid (HT.out.below hb4);have HR4:=Lib.hid (HR.out.of_block (HB4.out.block R HR.out.lt));have HR2:=Lib.hid hr2;have hmk:=HMK.out;clear hb4 hr2 hR2 HN c0 c1 c2 c3;(go_upto_region 8 with fail);clear hmk
      obtain ⟨Q,hQ⟩:∃ Q,Q=w4.heap.size:=⟨_,rfl⟩;obtain ⟨w5,hw5⟩:∃ w5,w5=w4.alloc (.cells (madeCells #[.bool false] f.blocks.length) 4):=⟨_,rfl⟩;(have hb5:Below w4.heap.size w4 w5:=by rw [hw5];exact (Below.refl _ _).alloc (Nat.le_refl _) _);(have hrow:w5.rowIs Q 4 f.blocks.length (fun x=>.bool (if x<0 then dmB f.blocks j x else false)):=by rw [hw5,hQ];exact (World.rowIs_made w4 (.bool false) f.blocks.length 4).congr fun x _=>by simp);have HROW:=Lib.hid hrow;have HR5:=Lib.hid (HR4.out.of_block (hb5.block R HR4.out.lt));have HR25:=Lib.hid (HR2.out.of_block (hb5.block R2 HR2.out.lt));have HT5:=Lib.hid (HT4.out.below hb5);have HB5:Hid (Below w2.heap.size w2 w5):=Lib.hid (HB4.out.trans (hb5.mono HB4.out.size))
      (have HQ:Hid (w2.heap.size≤Q∧R<Q∧R2<Q∧Q<w5.heap.size∧(∀ a,a<j→D a<Q)∧(∀ g,v.ownBlock=some g→g<Q)):=Lib.hid ⟨by rw [hQ];exact HB4.out.size,by rw [hQ];exact HR4.out.lt,by rw [hQ];exact HR2.out.lt,hrow.lt,fun a ha=>by rw [hQ];exact (HT4.out.cells a ha).lt,fun g hg=>by rw [hQ];exact (HT4.out.own.lt g hg).2⟩);rw [← hw5,← hQ];clear hw5 hQ hb5 hrow HR4 HR2 HT4;go_wp2_with fail
      go_loopw [8] (fun s8 wq=>∃ b:Nat,b≤f.blocks.length∧s8=.int .i64 (b:Int)∧wq.rowIs Q 4 f.blocks.length (fun x=>.bool (if x<b then dmB f.blocks j x else false))∧FrX (fun y=>y=Q) w5 wq) (fun s8 _=>f.blocks.length - (intOf s8).toNat)
      case atStart=>exact ⟨0,Nat.zero_le _,rfl,HROW.out,FrX.refl _ _⟩
      case round =>
        obtain ⟨b,hb,rfl,hrw,hfr⟩:=hrel;have HFR:=Lib.hid hfr;have HRW:=Lib.hid hrw
        by_cases hbl:b<f.blocks.length
        · (have xr:=(HR5.out.of_block (hfr.block R HR5.out.lt (by have:=HQ.out;omega))).cell hbl);(have x2:=(HR25.out.of_block (hfr.block R2 HR25.out.lt (by have:=HQ.out;omega))).cell hbl);have xc:=hrw.cell hbl;have xf:=hrw.frozen b;(have hb0:(0:Int)≤b:=by omega);have hb1:(b:Int)<f.blocks.length:=by omega
          have HST:Hid (∀ u,dmB f.blocks j b=u→(wr.setCell ⟨Q,b,none⟩ (.bool u)).rowIs Q 4 f.blocks.length (fun x=>.bool (if x<b+1 then dmB f.blocks j x else false))):=Lib.hid (fun u hu=>(HRW.out.set b (.bool u)).congr fun x _=>by
            by_cases e:x=b
            · subst e;rw [if_pos rfl,if_pos (by omega),hu]
            · rw [if_neg e]
              by_cases e2:x<b
              · rw [if_pos e2,if_pos (by omega)]
              · rw [if_neg e2,if_neg (by omega)])
          have HF2:Hid (∀ u,FrX (fun y=>y=Q) w5 (wr.setCell ⟨Q,b,none⟩ (.bool u))):=Lib.hid (fun u=>HFR.out.setCell (p:=⟨Q,b,none⟩) (.inl rfl) _);(have hE:(((j:Nat):Int) == ((b:Nat):Int))=decide (j=b):=by rw [Bool.eq_iff_iff,beq_iff_eq,decide_eq_true_iff];omega);have HD:Hid (dmB f.blocks j b=(fromB f.blocks 0 (-1) b && (decide (j=b) || !fromB f.blocks 0 j b))):=Lib.hid rfl;clear hrw hfr;generalize fromB f.blocks 0 (-1) b=y1 at *;generalize fromB f.blocks 0 j b=y3 at *;generalize decide (j=b)=y2 at *;cases y1 <;> cases y2 <;> cases y3
          all_goals (
            go_wp2_with fail
            go_roundw
            case rel=>exact ⟨b+1,by omega,by go_num,HST.out _ (by rw [HD.out];rfl),HF2.out _⟩
            case measure=>simp [intOf];omega)
        · (have hbb:b=f.blocks.length:=by omega);subst hbb;(have hlow:=hfr.below HB5.out.size (fun k hk=>by have:=HQ.out.1;have e:k=Q:=hk;omega));(have hT6:TRow wr w2.heap.size f.blocks.length j v D (dmB f.blocks):=⟨qH HT5.out.own (fun g hg=>hfr.block g (HT5.out.own.lt g hg).2 (fun e=>by have:=HQ.out.2.2.2.2.2 g hg;have e:g=Q:=e;omega)),fun a ha=>(HT5.out.cells a ha).of_block (hfr.block _ (HT5.out.cells a ha).lt (fun e=>by have:=HQ.out.2.2.2.2.1 a ha;have e:D a=Q:=e;omega)),HT5.out.ap,HT5.out.ge⟩);have HT6:=Lib.hid hT6;have HRZ:=Lib.hid (hrw.congr (g:=fun x=>.bool (dmB f.blocks j x)) fun x hx=>by rw [if_pos hx]);have HB6:Hid (Below w2.heap.size w2 wr):=Lib.hid (HB5.out.trans (hlow.mono (Nat.le_refl _)));have hz6:=HB6.out.size;clear hrw hfr hlow hT6
          go_wp2_with (at_builtin;refine wpList_append_lies _ rfl (.tmp 48) (.tmp 50) 59 rfl w2.heap.size 64 i0 (.slice none 0 0) 1 24 Tryz.underlyingD59 HI.out.1 HI.out.2.1 HI.out.2.2.1 HI.out.2.2.2 rfl (by decide) v _ _ rfl (HT6.out.own.alloc _) ⟨wr.heap.size,0,none⟩ 1 1 [.slice (some ⟨Q,0,none⟩) f.blocks.length f.blocks.length] rfl rfl ?e1 ?e2 ?e0 ?e3 ?e4 ?e5 (wr.heap.size+1) ?e6 ?_)
          case e1=>exact qo wr _ _
          case e2=>intro u hu;rw [List.mem_singleton.1 hu];rfl
          case e0=>omega
          case e3=>unfold maxLen;omega
          case e4=>omega
          case e5=>simp;omega
          case e6=>simp
          intro g cap w7 hown7 hgrow7 hloc7 hlt7;have HGR:Hid (GroD wr w7 v (.slice (some ⟨g,0,none⟩) (j+1) cap)):=Lib.hid (qu (w:=wr) hgrow7 (by simpa using hloc7));have HT7:=Lib.hid (HT6.out.push HGR.out hown7 HRZ.out HQ.out.1 (fun e=>Nat.lt_irrefl Q (HQ.out.2.2.2.2.2 Q e)));have HB7:Hid (Below w2.heap.size w2 w7):=Lib.hid (HB6.out.trans ((HGR.out.fr (X:=fun y=>v.ownBlock=some y) (FrX.refl _ _) (fun g hg=>.inl hg)).below HB6.out.size (fun k hk=>(HT6.out.own.lt k hk).1)));clear hown7 hgrow7 hloc7 hlt7;go_wp2_with fail
          go_roundw
          case rel=>exact ⟨j+1,_,_,by omega,rfl,by go_num,HT7.out,HB7.out⟩
          case measure=>simp [intOf];omega
    · (have hjj:j=f.blocks.length:=by omega);subst hjj;clear ht hb;(go_wp2_with fail);(go_ret);exact ⟨⟨_,D,rfl,⟨owns_mono HT.out.own (Nat.le_of_lt HNW.out),HT.out.cells,HT.out.ap,fun a ha=>Nat.le_trans (Nat.le_of_lt HNW.out) (HT.out.ge a ha)⟩⟩,HBW.out⟩
set_option linter.unusedSimpArgs false
def ahR (f:FunD) (D:Nat→Nat→Bool) (r b:Nat) (a:Int):Bool :=
  if (r:Int)<f.params then true else if cntM (mkBs f.blocks 0) r=0 then false else
  if (fstM (mkBs f.blocks 0) r).b=(b:Int) then decide ((fstM (mkBs f.blocks 0) r).a<a) else D (fstM (mkBs f.blocks 0) r).b.toNat b
theorem fst_in {f:FunD} {r:Nat} (h:cntM (mkBs f.blocks 0) r≠0):∃ c:Nat,(fstM (mkBs f.blocks 0) r).b=(c:Int)∧c<f.blocks.length:=by
  unfold fstM;cases hf:(mkBs f.blocks 0).find? fun e=>decide (e.r=(r:Int)) with
  | none =>
    exfalso;apply h;unfold cntM;rw [List.countP_eq_zero];intro e he hp;have:=List.find?_eq_none.1 hf e he;exact this hp
  | some e =>
    obtain ⟨k,b,h1,h2,-⟩:=mem_mkBs.1 (List.mem_of_find?_eq_some hf);rw [Nat.zero_add] at h2;exact ⟨k,h2,(List.getElem?_eq_some_iff.1 h1).1⟩
set_option maxRecDepth 100000 in
set_option maxHeartbeats 16000000 in
theorem refAheadR_any (f:FunD) (vf:Value) (w:World) (hf:VFun w vf f) (hsm:SmallF f) (r b:Nat) (a:Int) (vd:Value) (K:Nat) (Dd:Nat→Nat) (D:Nat→Nat→Bool) (hG:TRow w K f.blocks.length f.blocks.length vd Dd D) (hb:b<f.blocks.length) :
    Calls Tryz.prog 89 #[vf,vd,.int .i64 (r:Int),.int .i64 (b:Int),.int .i64 a] w fun e w'=>e=.returned (.bool (ahR f D r b a))∧Below w.heap.size w w':=by
  have hf0:=hf;obtain ⟨Ar,cr,Ab,cb,rfl,-,hbs,-,-⟩:=hf;have HF:=Lib.hid hf0;have HG:=Lib.hid hG;have HSM:=Lib.hid hsm;have hnb:f.blocks.length≤70:=hsm.1;clear hf0 hbs hG hsm;(go_enter Tryz.func89,Tryz.ntmps89);go_upto_region 1 with fail
  obtain ⟨w1,hw1,hs1,hk1,hbel1,hc1,-⟩:=named w #[.int .i64 f.params,.int .i64 f.result,.slice Ar f.regs.length cr,.slice Ab f.blocks.length cb] 30;rw [← hw1];obtain ⟨N,hN⟩:∃ N,N=w.heap.size:=⟨_,rfl⟩;rw [← hN] at hc1 ⊢;have f0:=hc1 0 _ rfl;have f1:=hc1 1 _ rfl;have f2:=hc1 2 _ rfl;have f3:=hc1 3 _ rfl;have HB1:=Lib.hid hbel1
  have HM:=Lib.hid (refMaker_any f _ w1 (VFun.keep hk1 HF.out) HSM.out r);clear hw1 hs1 hk1 hbel1 hc1 hN
  by_cases hp:(r:Int)<f.params
  · (have HR:Hid (ahR f D r b a=true):=Lib.hid (by unfold ahR;rw [if_pos hp]));have hd:decide ((r:Int)<f.params)=true:=decide_eq_true hp;clear f1 f2 f3 hp;(go_wp2_with fail);(go_ret);exact ⟨by rw [HR.out];rfl,HB1.out⟩
  have HP:=Lib.hid hp;have hd:decide ((r:Int)<f.params)=false:=decide_eq_false hp;clear hp;(go_wp2_with fail);refine HM.out.mono ?_;rintro e w2 ⟨rfl,hb2⟩;have HB2:Hid (Below w.heap.size w w2):=Lib.hid (HB1.out.trans (hb2.mono HB1.out.size));obtain ⟨mk,hmk⟩:∃ mk,mk=fstM (mkBs f.blocks 0) r:=⟨_,rfl⟩;obtain ⟨c,hc⟩:∃ c,c=cntM (mkBs f.blocks 0) r:=⟨_,rfl⟩
  rw [← hmk,← hc];have HMK:=Lib.hid hmk;have HC:=Lib.hid hc;obtain ⟨mr,mb,ma⟩:=mk;clear hb2 HM hmk hc f0 f1 f2 f3
  by_cases h0:c=0
  · (have HR:Hid (ahR f D r b a=false):=Lib.hid (by unfold ahR;rw [if_neg (show ¬ (r:Int)<f.params by have:=HP.out;omega),if_pos (by rw [← HC.out];exact h0)]));subst h0;(go_wp2_with fail);(go_ret);exact ⟨by rw [HR.out];rfl,HB2.out.alloc HB2.out.size _⟩
  (have hb2:((c:Int) == 0)=false:=by simp [h0]);(obtain ⟨d,hd1,hd2⟩:=fst_in (f:=f) (r:=r) (by rw [← HC.out];exact h0));rw [← HMK.out] at hd1;obtain rfl:mb=(d:Int):=hd1
  by_cases hbb:d=b
  · (have HR:Hid (ahR f D r b a=decide (ma<a)):=Lib.hid (by unfold ahR;rw [if_neg (show ¬ (r:Int)<f.params by have:=HP.out;omega),if_neg (by rw [← HC.out];exact h0),← HMK.out,if_pos (show ((d:Nat):Int)=(b:Int) by omega)]));subst hbb;(go_wp2_with fail);(go_ret);exact ⟨by rw [HR.out];rfl,HB2.out.alloc HB2.out.size _⟩
  · (have HR:Hid (ahR f D r b a=D d b):=Lib.hid (by unfold ahR;rw [if_neg (show ¬ (r:Int)<f.params by have:=HP.out;omega),if_neg (by rw [← HC.out];exact h0),← HMK.out,if_neg (show ¬ ((d:Nat):Int)=(b:Int) by omega)];rfl));obtain ⟨w3,hw3⟩:∃ w3,w3=w2.alloc (.cells #[.int .i64 (d:Int),.int .i64 ma] 90):=⟨_,rfl⟩;(have hB3:Below w.heap.size w w3:=by rw [hw3];exact HB2.out.alloc HB2.out.size _);have HB3:=Lib.hid hB3;have hG2:=HG.out.below hB3;obtain ⟨g,cap,rfl,x0⟩:=hG2.at_ hd2;have x1:=(hG2.cells d hd2).cell hb;(have hb3:((d:Int) == (b:Int))=false:=by simp;omega);have hd0:(0:Int)≤d:=by omega
    (have hdn:(d:Int)<f.blocks.length:=by omega);(have hb0:(0:Int)≤b:=by omega);(have hbn:(b:Int)<f.blocks.length:=by omega);(have bx:w3.heap[w2.heap.size]?=some (.cells #[.int .i64 (d:Int),.int .i64 ma] 90):=by rw [hw3];exact heap_alloc_new _ _);have y0:=q7 bx 0;have y1:=q7 bx 1;clear hG2 hB3 bx;(go_upto_region 4 with fail);rw [← hw3]
    clear hw3;(go_wp2_with fail);(go_ret);exact ⟨by rw [HR.out];rfl,HB3.out⟩
set_option maxHeartbeats 1000000 in
theorem refAhead_any (f:FunD) (block:Int) (v:Value) (w:World) (hv:VFun w v f) (hn:f.blocks.length≤1000000) :
    Calls Tryz.prog 32 #[v,.int .i64 block] w fun e w'=>(∃ r,e=.returned r∧VS w' 1 RInt r (qG f.blocks block))∧Below w.heap.size w w':=by
  obtain ⟨Ar,cr,A,c,rfl,-,hb,-,-⟩:=hv;have hbl:=hb.len;obtain ⟨i0,hi,hz0,hz1,hz2⟩:=info_parts Tryz.info3;have HI:=Lib.hid (And.intro hi (And.intro hz0 (And.intro hz1 hz2)));clear hi hz0 hz1 hz2;(go_enter Tryz.func32,Tryz.ntmps32);(go_wp2_with fail);obtain ⟨w1,hw1⟩:∃ w1,w1=w.alloc (.cells #[.int .i64 f.params,.int .i64 f.result,.slice Ar f.regs.length cr,.slice A f.blocks.length c] 30):=⟨_,rfl⟩;have hs1:w.heap.size<w1.heap.size:=by rw [hw1];simp
  (have hk1:Kept w w1:=by rw [hw1];exact kept_alloc _ _);(have hbel1:Below w.heap.size w w1:=by rw [hw1];exact (Below.refl _ _).alloc (Nat.le_refl _) _);(have hc1:w1.cell? ⟨w.heap.size,3,none⟩=some (.slice A f.blocks.length c):=by rw [hw1];simp);rw [← hw1];clear hw1
  go_loopw [5,6] (fun out i wr=>∃ k:Nat,k≤f.blocks.length∧i=.int .i64 k∧Below w1.heap.size w1 wr ∧
    wr.ownsRow w1.heap.size 3 1 out (qG (f.blocks.take k) block).length ((qG (f.blocks.take k) block).map (Value.int .i64))) (fun _ i _=>f.blocks.length - (intOf i).toNat)
  case atStart=>exact ⟨0,Nat.zero_le _,rfl,Below.refl _ _,rfl,.inl ⟨rfl,rfl⟩⟩
  case round =>
    obtain ⟨k,hk,rfl,hbel,hown⟩:=hrel;have hs:=hbel.size;have hkw:Kept w1 wr:=q6 hbel;have hbox:=hkw _ _ hc1
    by_cases hlt:k<f.blocks.length
    · obtain ⟨b,o,kb,rfl,hkb,-,-,-,-,A',c',hvt,hst⟩:=(SBlks.keep (hk1.trans hkw) hb).at_ hlt;have htm:=hst.len;go_wp2_with fail
      go_loopw [7,8] (fun h i w2=>∃ j n:Nat,j≤kb.term.to.length∧i=.int .i64 j∧w2=wr.drewN n∧h=.bool (hasTo block (kb.term.to.take j))) (fun _ i _=>kb.term.to.length - (intOf i).toNat)
      case atStart=>exact ⟨0,0,Nat.zero_le _,rfl,rfl,rfl⟩
      case round =>
        obtain ⟨j,n,hj,rfl,rfl,rfl⟩:=hrel
        by_cases hjt:j<kb.term.to.length
        · obtain ⟨b',o',x,rfl,hx,hxc,-⟩:=hst.int hjt;have HS:=Lib.hid (hasTo_step block hx.out);generalize hasTo block (kb.term.to.take j)=h0 at *;cases h0
          · by_cases he:x=block
            · (have he':(x == block)=true:=by simp [he]);(have HS':Hid (hasTo block (kb.term.to.take (j+1))=true):=Lib.hid (by rw [HS.out,he'];rfl));clear HS he;go_wp2_with fail
              go_roundw
              case rel=>exact ⟨j+1,_,by omega,by go_num,rfl,by rw [HS'.out]⟩
              case measure=>simp [intOf];omega
            · (have he':(x == block)=false:=by simp [he]);(have HS':Hid (hasTo block (kb.term.to.take (j+1))=false):=Lib.hid (by rw [HS.out,he'];rfl));clear HS he;go_wp2_with fail
              go_roundw
              case rel=>exact ⟨j+1,_,by omega,by go_num,rfl,by rw [HS'.out]⟩
              case measure=>simp [intOf];omega
          · (have HS':Hid (hasTo block (kb.term.to.take (j+1))=true):=Lib.hid (by rw [HS.out];rfl));clear HS;go_wp2_with fail
            go_roundw
            case rel=>exact ⟨j+1,_,by omega,by go_num,rfl,by rw [HS'.out]⟩
            case measure=>simp [intOf];omega
        · have hjj:kb.term.to.take j=kb.term.to:=List.take_of_length_le (by omega);rw [hjj];clear hjj;have HA:=Lib.hid (aheadL_step block hkb.out);generalize hasTo block kb.term.to=h0 at *;cases h0
          · go_wp2_with fail
            go_roundw
            case rel=>exact ⟨k+1,by omega,by go_num,below_drewN hbel _,by rw [HA.out];simpa using (show (wr.drewN n).ownsRow _ _ _ _ _ _ from hown)⟩
            case measure=>simp [intOf];omega
          · (have hln:(qG (f.blocks.take k) block).length≤k:=Nat.le_trans (aheadK_len _ _ _) (by simp;omega));go_wp2_with (at_builtin;refine wpList_append_own _ rfl (.tmp 44) (.tmp 46) 27 rfl w1.heap.size 3 i0 (.int .i64 0) 1 8 Tryz.underlying27 HI.out.1 HI.out.2.1 HI.out.2.2.1 HI.out.2.2.2 rfl (by decide) _ _ _ rfl (World.ownsRow.alloc (w:=wr.drewN n) hown _) ⟨wr.heap.size,0,none⟩ 1 1 [.int .i64 k] rfl rfl ?c1 ?c2 ?c3 ?c4 ?c5 ?_)
            case c1=>exact news_one (wr.drewN n) _ _ rfl
            case c2=>rfl
            case c3=>unfold maxLen;omega
            case c4=>omega
            case c5=>omega
            intro v' w3 hown' hgrow _;(have hbel3:Below w1.heap.size w1 w3:=((below_drewN hbel n).alloc hs _).grown hgrow (by simp;omega) (fun g hg=>(hown.lt g hg).1));go_wp2_with fail
            go_roundw
            case rel=>exact ⟨k+1,by omega,by go_num,hbel3,by rw [HA.out];simpa using hown'⟩
            case measure=>simp [intOf];omega
    · have hkk:f.blocks.take k=f.blocks:=List.take_of_length_le (by omega);rw [hkk] at hown;clear hkk;(go_wp2_with fail);(go_ret);exact ⟨⟨_,rfl,qx hown (aheadL_i64 _ _ (by omega))⟩,hbel1.trans (hbel.mono (by omega))⟩
end Go.Proofs.YtfoggldjjnabcaaGreatDoor
