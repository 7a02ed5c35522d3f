/- The program's Nearest. -/
import Derived.Test.YtfoggldjjnabcaaGreatDoorGrWmJ
import Derived.Test.YtfoggldjjnabcaaGreatDoorGrPJ
namespace Go.Proofs.YtfoggldjjnabcaaGreatDoor
open Go.ChangeShapes Go.WideShapes Go.RowKit Go.Deep
set_option linter.unusedVariables false
set_option maxRecDepth 100000 in
set_option maxHeartbeats 4000000 in
theorem travel_nil (G:Nat) (w:World):Calls Tryz.prog 96 #[.slice (some ⟨G,0,none⟩) 0 0] w fun e w'=>e=.returned (.agg #[.slice none 0 0,.slice none 0 0,.slice none 0 0])∧Below w.heap.size w w':=by
  (go_enter Tryz.func96,Tryz.ntmps96);(go_upto_region 2 with fail);obtain ⟨M,hM⟩:∃ M,M=w.heap.size:=⟨_,rfl⟩;obtain ⟨W,hW⟩:∃ W,W=(w.alloc (.cells #[.slice none 0 0,.slice none 0 0,.slice none 0 0] 147)).alloc (.cells #[.slice none 0 0,.slice none 0 0,.slice none 0 0] 147):=⟨_,rfl⟩;rw [← hW];obtain ⟨b0,b1,hbel⟩:W.heap[M]?=some (.cells #[.slice none 0 0,.slice none 0 0,.slice none 0 0] 147)∧W.heap[M+1]?=some (.cells #[.slice none 0 0,.slice none 0 0,.slice none 0 0] 147)∧Below M w W:=by
    subst hM hW;have h1:=heap_alloc_new w (.cells #[.slice none 0 0,.slice none 0 0,.slice none 0 0] 147);have h2:=heap_alloc_new (w.alloc (.cells #[.slice none 0 0,.slice none 0 0,.slice none 0 0] 147)) (.cells #[.slice none 0 0,.slice none 0 0,.slice none 0 0] 147);refine ⟨(Below.heap_alloc _ _ _ (by simp)).trans h1,by simpa using h2,((Below.refl _ w).alloc (Nat.le_refl _) _).alloc (by simp) _⟩
  have d0:W.cell? ⟨M+1,0,none⟩=some (.slice none 0 0):=q7 b1 0;have d1:W.cell? ⟨M+1,1,none⟩=some (.slice none 0 0):=q7 b1 1;have d2:W.cell? ⟨M+1,2,none⟩=some (.slice none 0 0):=q7 b1 2;have m0:=q7 b0 0;have m1:=q7 b0 1;have m2:=q7 b0 2;(have hf0:W.frozen? ⟨M,0,none⟩=false:=by unfold World.frozen?;simp [b0]);(have hf1:W.frozen? ⟨M,1,none⟩=false:=by unfold World.frozen?;simp [b0]);have hf2:W.frozen? ⟨M,2,none⟩=false:=by unfold World.frozen?;simp [b0]
  have hfin:(((W.setCell ⟨M,0,none⟩ (.slice none 0 0)).setCell ⟨M,1,none⟩ (.slice none 0 0)).setCell ⟨M,2,none⟩ (.slice none 0 0)).heap[M]?=some (.cells #[.slice none 0 0,.slice none 0 0,.slice none 0 0] 147):=qF _ (qF _ (qF _ b0));have HFIN:=Lib.hid hfin;have HBF:=Lib.hid (((hbel.setCell (p:=⟨M,0,none⟩) (Nat.le_refl _) (.slice none 0 0)).setCell (p:=⟨M,1,none⟩) (Nat.le_refl _) (.slice none 0 0)).setCell (p:=⟨M,2,none⟩) (Nat.le_refl _) (.slice none 0 0));have HM:=Lib.hid hM;rw [← hM];clear hW b0 b1 hbel hfin hM;(go_wp2_with fail);refine bodyPost_ret (results_cell_row rfl _ _ M 147 #[.slice none 0 0,.slice none 0 0,.slice none 0 0] (0,0) _ (by rfl) HFIN.out Tryz.underlying147 (by rfl) (by kernel_rfl)) rfl ?_;exact ⟨rfl,by rw [← HM.out];exact HBF.out⟩
set_option maxRecDepth 100000 in
set_option maxHeartbeats 4000000 in
theorem tnear_nil (w:World):Calls Tryz.prog 97 #[.agg #[.slice none 0 0,.slice none 0 0,.slice none 0 0]] w fun e w'=>(∃ H,e=.returned (.slice (some ⟨H,0,none⟩) 0 0))∧Below w.heap.size w w':=by
  (go_enter Tryz.func97,Tryz.ntmps97);(go_upto_region 1 with fail);obtain ⟨w1,hw1,hs1,hk1,hbel1,hc1,-⟩:=named w #[.slice none 0 0,.slice none 0 0,.slice none 0 0] 147;rw [← hw1];have c0:w1.cell? ⟨w.heap.size,0,none⟩=some (.slice none 0 0):=hc1 0 _ rfl;have HNG:=Lib.hid (newGrove_any 0 w1 (by omega));have HB1:=Lib.hid hbel1;have HS1:=Lib.hid hs1;clear hw1 hs1 hk1 hbel1 hc1
  (go_wp2_with fail);refine HNG.out.mono ?_;rintro e w2 ⟨⟨He,Ha,Hl,rfl,h1,h2,h3,hgv⟩,hb2⟩;have hmk:∀ w:World,(Instr.makeSlice 27 (.int .i64 0) (.int .i64 0)).run Tryz.prog w=.ok (.slice (some ⟨w.heap.size,0,none⟩) 0 0) (w.alloc (.cells (madeCells #[.int .i64 0] 0) 3)):=run_make_row' (P:=Tryz.prog) 27 3 (.int .i64 0) 8 Tryz.underlying27 Tryz.info3 rfl .i64 .i64 0 (by omega) (by omega);have hmk2:∀ w:World,(Instr.makeSlice 65 (.int .i64 0) (.int .i64 0)).run Tryz.prog w=.ok (.slice (some ⟨w.heap.size,0,none⟩) 0 0) (w.alloc (.cells (madeCells #[.slice none 0 0] 0) 27)):=run_make_row' (P:=Tryz.prog) 65 27 (.slice none 0 0) 24 Tryz.underlying65 Tryz.info27 rfl .i64 .i64 0 (by omega) (by omega);(have hc0:w2.cell? ⟨w.heap.size,0,none⟩=some (.slice none 0 0):=(hb2.cell (p:=⟨w.heap.size,0,none⟩) (by have:=HS1.out;show w.heap.size<_;omega)).trans c0);(have hN2:w.heap.size<w2.heap.size:=by have:=hb2.size;have:=HS1.out;omega);(have HB2:Hid (Below w.heap.size w w2):=Lib.hid (HB1.out.trans (hb2.mono (by have:=HS1.out;omega))));have HW:=Lib.hid hN2
  clear c0 HNG h1 h2 h3 hgv hb2;(go_upto_region 4 with fail);obtain ⟨w5,hw5⟩:∃ w5,w5=((w2.alloc (.cells #[.slice (some ⟨He,0,none⟩) 0 0,.slice (some ⟨Ha,0,none⟩) 0 0,.slice (some ⟨Hl,0,none⟩) 0 0] 189)).alloc (.cells (madeCells #[.int .i64 0] 0) 3)).alloc (.cells (madeCells #[.slice none 0 0] 0) 27):=⟨_,rfl⟩;obtain ⟨-,-,-,-,hbel⟩:=boxes3t w2 w2.heap.size rfl _ _ _ w5 hw5;(have HB5:Hid (Below w.heap.size w w5):=Lib.hid (HB2.out.trans (hbel.mono (by have:=HW.out;omega))));have hc5:w5.cell? ⟨w.heap.size,0,none⟩=some (.slice none 0 0):=(hbel.cell (p:=⟨w.heap.size,0,none⟩) HW.out).trans hc0;rw [← hw5];clear hmk hmk2 hw5 hbel hc0;go_wp2_with fail
  go_loopw [6] (fun s6 wq=>s6=.int .i64 (-1)∧Below w.heap.size w wq) (fun _ _=>0)
  case atStart=>exact ⟨rfl,HB5.out⟩
  case round =>
    obtain ⟨rfl,hb⟩:=hrel;have HR:=Lib.hid hb;clear hb;(have h1:¬ ((-1:Int) > 0):=by decide);go_wp2_with fail
    go_loopw [124] (fun s124 wq=>s124=.int .i64 0∧Below w.heap.size w wq) (fun _ _=>0)
    case atStart=>exact ⟨rfl,HR.out⟩
    case round =>
      obtain ⟨rfl,hb⟩:=hrel;have HR2:=Lib.hid hb;clear hb;(go_wp2_with fail);(go_ret);exact ⟨⟨_,rfl⟩,HR2.out⟩
def ToldNe (bs:List BlkD) (w:World) (e:Ending) (w':World):Prop :=
  (∃ H,e=.returned (.slice (some ⟨H,0,none⟩) bs.length bs.length)∧w.heap.size≤H∧w'.rowIs H 3 bs.length (fun b=>.int .i64 (nearD bs b))∧∃ ord,NearB bs (nearD bs) ord)∧Below w.heap.size w w'
def NJ (bl D:Nat→Nat) (pl:Nat→Int) (j b:Nat):Int:=if 0≤pl b∧pl b<(j:Int) then nearI bl D pl b else -1
theorem NJ_zero (bl D:Nat→Nat) (pl:Nat→Int) (b:Nat):NJ bl D pl 0 b=-1:=by unfold NJ;rw [if_neg (by omega)]
theorem NJ_step {nx:Nat→List Nat} {n k:Nat} {bl par D:Nat→Nat} {ah:Nat→List Nat} {pl:Nat→Int} (T:TvE nx n k bl par ah pl) {j b:Nat} (hj:j<k) (hb:b<n):NJ bl D pl (j+1) b=if j=0 then -1 else if b=bl j then (bl (D j):Int) else NJ bl D pl j b:=by
  by_cases hj0:j=0
  · subst hj0;rw [if_pos rfl];unfold NJ nearI
    by_cases h:0≤pl b∧pl b<((0+1:Nat):Int)
    · rw [if_pos h,if_pos (by have:=h.2;omega)]
    · rw [if_neg h]
  · rw [if_neg hj0]
    by_cases e:b=bl j
    · subst e;have h1:=(T.blk j hj).2;rw [if_pos rfl];unfold NJ nearI;rw [if_pos (by omega),if_neg (by omega),h1];rfl
    · rw [if_neg e];have hne:pl b≠(j:Int):=fun h=>by
        rcases T.plc b hb with h1 | ⟨p,h1,h2,h3⟩
        · omega
        · (obtain rfl:p=j:=by omega);exact e h3.symm
      unfold NJ
      by_cases h:0≤pl b∧pl b<(j:Int)
      · rw [if_pos (by omega),if_pos h]
      · rw [if_neg (by omega),if_neg h]
theorem NJ_all {nx:Nat→List Nat} {n k:Nat} {bl par D:Nat→Nat} {ah:Nat→List Nat} {pl:Nat→Int} (T:TvE nx n k bl par ah pl) {b:Nat} (hb:b<n):NJ bl D pl k b=nearI bl D pl b:=by
  unfold NJ nearI;rcases T.plc b hb with h | ⟨p,h1,h2,h3⟩
  · rw [if_neg (by omega),if_pos (by omega)]
  · rw [if_pos (by omega)]
set_option maxRecDepth 100000 in
set_option maxHeartbeats 8000000 in
theorem nearest_some (f:FunD) (v:Value) (w:World) (hv:VFun w v f) (hn:f.blocks.length≤1000) (h0:0<f.blocks.length):Calls Tryz.prog 60 #[v] w (ToldNe f.blocks w):=by
  have hv0:=hv;obtain ⟨Ar,cr,A,c,rfl,-,-,-,-⟩:=hv;(go_enter Tryz.func60,Tryz.ntmps60);(go_upto_region 1 with fail);obtain ⟨w1,hw1,hs1,hk1,hbel1,hc1,-⟩:=named w #[.int .i64 f.params,.int .i64 f.result,.slice Ar f.regs.length cr,.slice A f.blocks.length c] 30;rw [← hw1];have c0:=hc1 0 _ rfl;have c1:=hc1 1 _ rfl;have c2:=hc1 2 _ rfl
  have c3:=hc1 3 _ rfl;have HC3:=Lib.hid c3;have HB1:=Lib.hid hbel1;have HS1:=Lib.hid hs1;have HN:=Lib.hid (next_any f _ w1 (VFun.keep hk1 hv0) (by omega));clear hw1 hs1 hbel1 hc1 hv0 hk1;(go_wp2_with fail);refine HN.out.mono ?_;rintro e w2 ⟨⟨V,G,rfl,hG,hg⟩,hb2⟩
  have HB2:Hid (Below w1.heap.size w1 w2):=Lib.hid hb2;(have HTV:=Lib.hid (travel_any (nxF f.blocks) f.blocks.length G w2 (hg.reads (by omega) (fun i hi x hx=>by obtain ⟨q,hq,rfl⟩:=zs_mem hx;have:=nxF_lt f.blocks i q hq;unfold I64;omega)) h0 hn (nxF_lt f.blocks) (fun x=>by unfold nxF;split;exact nextN_few _ _;simp)));clear c0 c1 c2 c3 hG hg hb2 HN;(go_wp2_with fail);refine HTV.out.mono ?_;rintro e w3 ⟨⟨k,bl,par,ah,pl,vb,vf,va,V0,rfl,hTE,hTR⟩,hb3⟩;have HTE:=Lib.hid hTE;have hkn:=hTE.kn;obtain ⟨A1,k1,rfl⟩:=qg hTR.rb
  obtain ⟨A2,k2,rfl⟩:=qg hTR.rf;obtain ⟨A3,k3,rfl⟩:=qg hTR.ra;have HTR:=Lib.hid hTR;have HB3:Hid (Below w1.heap.size w1 w3):=Lib.hid (HB2.out.trans (hb3.mono HB2.out.size));have hmk:=run_make_row' (P:=Tryz.prog) 27 3 (.int .i64 0) 8 Tryz.underlying27 Tryz.info3 rfl .i64 .i64 f.blocks.length (by omega) (by omega);(have c3:w3.cell? ⟨w.heap.size,3,none⟩=some (.slice A f.blocks.length c):=(HB3.out.cell (p:=⟨w.heap.size,3,none⟩) (by have:=HS1.out;show w.heap.size<_;omega)).trans HC3.out);(have hN3:w.heap.size<w3.heap.size:=by have:=HB3.out.size;have:=HS1.out;omega);clear hTE hTR hb3 HTV;go_upto_region 3 with fail
  clear hmk;obtain ⟨T,hT⟩:∃ T,T=w3.heap.size:=⟨_,rfl⟩;obtain ⟨w5,hw5⟩:∃ w5,w5=(w3.alloc (.cells #[.slice A1 k k1,.slice A2 k k2,.slice A3 k k3] 147)).alloc (.cells (madeCells #[.int .i64 0] f.blocks.length) 3):=⟨_,rfl⟩;obtain ⟨b0,b1,hbel⟩:w5.heap[T]?=some (.cells #[.slice A1 k k1,.slice A2 k k2,.slice A3 k k3] 147)∧w5.heap[T+1]?=some (.cells (madeCells #[.int .i64 0] f.blocks.length) 3)∧Below T w3 w5:=by
    subst hw5 hT;have h1:=heap_alloc_new w3 (.cells #[.slice A1 k k1,.slice A2 k k2,.slice A3 k k3] 147);have h2:=heap_alloc_new (w3.alloc (.cells #[.slice A1 k k1,.slice A2 k k2,.slice A3 k k3] 147)) (.cells (madeCells #[.int .i64 0] f.blocks.length) 3);exact ⟨(Below.heap_alloc _ _ _ (by simp)).trans h1,by simpa using h2,((Below.refl _ w3).alloc (Nat.le_refl _) _).alloc (by simp) _⟩
  have HTB:=Lib.hid b0;have hrow:=row_made b1;(have HB5:Hid (Below w1.heap.size w1 w5):=Lib.hid (HB3.out.trans (hbel.mono (by have:=HB3.out.size;omega))));have HT5:Hid (w1.heap.size≤T∧T+1<w5.heap.size):=Lib.hid ⟨by have:=HB3.out.size;omega,(Array.getElem?_eq_some_iff.1 b1).1⟩
  have HTR5:Hid (∀ (w':World),Below T w5 w'→TvR w' w2.heap.size k (.slice A1 k k1) (.slice A2 k k2) (.slice A3 k k3) V0 bl par ah):=Lib.hid (fun w' hb=>by
    (have hbb:Below w3.heap.size w3 w':=by rw [← hT];exact hbel.trans hb);have ho:∀ {sz n:Nat} {e:TypeId} {u:Value} {xs:List Value},w3.ownsRow w2.heap.size e sz u n xs→w'.ownsRow w2.heap.size e sz u n xs:=fun h=>qH h fun g hg=>hbb.block g (h.lt g hg).2
    exact ⟨ho HTR.out.rb,ho HTR.out.rf,ho HTR.out.ra,fun v hv=>ho (HTR.out.rV v hv)⟩)
  rw [← hw5,← hT];clear hw5 hT hbel b0 b1 c3 hN3;go_wp2_with fail
  go_loopw [17] (fun s17 wq=>∃ j:Nat,j≤f.blocks.length∧s17=.int .i64 (j:Int)∧wq.rowIs (T+1) 3 f.blocks.length (fun b=>.int .i64 (if b<j then -1 else 0))∧FrX (fun b=>b=T+1) w5 wq) (fun s17 _=>f.blocks.length - (intOf s17).toNat)
  case atStart=>exact ⟨0,Nat.zero_le _,rfl,hrow.congr fun _ _=>rfl,FrX.refl _ _⟩
  case round =>
    obtain ⟨j,hj,rfl,hr,hfr⟩:=hrel;have HFR:=Lib.hid hfr
    by_cases hjn:j<f.blocks.length
    · (have e1:wr.cell? ⟨T+1,j,none⟩=some (.int .i64 0):=by have:=hr.cell hjn;simpa using this);have f1:=hr.frozen j;(have hj0:(0:Int)≤j:=by omega);have hj1:(j:Int)<f.blocks.length:=by omega
      have HR:=Lib.hid ((hr.set j (.int .i64 (-1))).congr (g:=fun b=>.int .i64 (if b<j+1 then -1 else 0)) fun v _=>by
        by_cases e:v=j
        · simp [e]
        · simp only [if_neg e];by_cases e2:v<j
          · rw [if_pos e2,if_pos (by omega)]
          · rw [if_neg e2,if_neg (by omega)])
      clear hr hfr hrow;go_wp2_with fail
      go_roundw
      case rel=>exact ⟨j+1,by omega,by go_num,HR.out,HFR.out.setCell (.inl rfl) _⟩
      case measure=>simp [intOf];omega
    · (have hjj:j=f.blocks.length:=by omega);subst hjj;have HPR:=Lib.hid (hr.congr (g:=fun b=>.int .i64 (NJ bl (fun v=>v) pl 0 b)) fun v hv=>by rw [NJ_zero,if_pos hv]);have hbx:=HFR.out.box HTB.out (by omega);have t0:wr.cell? ⟨T,0,none⟩=some (.slice A1 k k1):=q7 hbx 0;have t1:wr.cell? ⟨T,1,none⟩=some (.slice A2 k k2):=q7 hbx 1;have t2:wr.cell? ⟨T,2,none⟩=some (.slice A3 k k3):=q7 hbx 2;(have hbT:Below T w5 wr:=HFR.out.below (by have:=HT5.out;omega) (fun b hb=>by omega));have HTN:=Lib.hid (tnear_any (nxF f.blocks) f.blocks.length k bl par ah pl _ _ _ V0 w2.heap.size wr HTE.out (HTR5.out wr hbT) hn)
      have HBX:=Lib.hid hbx;clear hr hfr hrow hbx hbT;(go_wp2_with fail);refine HTN.out.mono ?_;rintro e w6 ⟨⟨Hn,s,near,rfl,hHn,hS,hNP,hnr⟩,hb6⟩;have hNB:=HTE.out.near h0 hS hNP;(have HNE:Hid (∃ ord,NearB f.blocks (nearD f.blocks) ord):=Lib.hid ⟨_,⟨fun b hb h=>by rw [← hNB.is_near hb];exact hNB.none b hb h,fun b hb h1 h2=>by rw [← hNB.is_near hb];exact hNB.some b hb h1 h2,hNB.ord,hNB.self,hNB.trans,hNB.first,hNB.reach⟩⟩);have HIS:Hid (∀ b,b<f.blocks.length→NJ bl near pl k b=nearD f.blocks b):=Lib.hid (fun b hb=>(NJ_all HTE.out hb).trans (hNB.is_near hb));have hT1:T+1<wr.heap.size:=HPR.out.lt
      have HP6:=Lib.hid ((HPR.out.of_block (hb6.block (T+1) hT1)).congr (g:=fun b=>.int .i64 (NJ bl near pl 0 b)) fun v _=>by rw [NJ_zero,NJ_zero]);have HX6:Hid (w6.heap[T]?=some (.cells #[.slice A1 k k1,.slice A2 k k2,.slice A3 k k3] 147)):=Lib.hid ((hb6.block T (by omega)).trans HBX.out);have HF6:Hid (FrX (fun b=>b=T+1) w5 w6):=Lib.hid (HFR.out.trans (FrX.of_below hb6));have HNR:=Lib.hid hnr;have HHN:Hid (T+1<Hn):=Lib.hid (by omega);(have HSN:Hid (∀ v,0<v→v<k→near v<k):=Lib.hid (fun v h1 h2=>by have:=near_le HTE.out.tree hS hNP v h1 h2;have:=hS.lt HTE.out.tree h1 h2;omega));clear hS hNP hnr hb6 hHn hNB t0 t1 t2 HTN hT1;go_wp2_with fail
      go_loopw [27] (fun s27 wq=>∃ j:Nat,j≤k∧s27=.int .i64 (j:Int)∧wq.rowIs (T+1) 3 f.blocks.length (fun b=>.int .i64 (NJ bl near pl j b))∧FrX (fun b=>b=T+1) w6 wq) (fun s27 _=>k - (intOf s27).toNat)
      case atStart=>exact ⟨0,Nat.zero_le _,rfl,HP6.out,FrX.refl _ _⟩
      case round =>
        obtain ⟨j,hj,rfl,hr,hfr⟩:=hrel;have HFR2:=Lib.hid hfr;have HRR:=Lib.hid hr
        by_cases hjk:j<k
        · (have xn:=(HNR.out.of_block (hfr.block Hn (HNR.out.lt) (by have:=HHN.out;omega))).cell hjk);(have hj0:(0:Int)≤j:=by omega);have hj1:(j:Int)<k:=by omega
          by_cases hz:j=0
          · have HR:=Lib.hid (hr.congr (g:=fun b=>.int .i64 (NJ bl near pl (j+1) b)) fun v hv=>by rw [NJ_step HTE.out hjk hv,if_pos hz,hz,NJ_zero]);rw [if_pos hz] at xn;(have h1:¬ ((-1:Int) ≥ 0):=by decide);clear hr hfr hz;go_wp2_with fail
            go_roundw
            case rel=>exact ⟨j+1,by omega,by go_num,HR.out,HFR2.out⟩
            case measure=>simp [intOf];omega
          · rw [if_neg hz] at xn;have hnk:=HSN.out j (by omega) hjk;have hbx:=(HF6.out.trans hfr).box HTB.out (by omega);have t0:wr.cell? ⟨T,0,none⟩=some (.slice A1 k k1):=q7 hbx 0;(have hTR:=HTR5.out wr ((HF6.out.trans hfr).below (by have:=HT5.out;omega) (fun b hb=>by omega)));obtain ⟨g1,cap1,u1,hv1,hu1,x1,-⟩:=own_cellD hTR.rb hjk;obtain ⟨rfl,-⟩:=qj _ hu1;simp only [Value.slice.injEq] at hv1;obtain ⟨rfl,-,rfl⟩:=hv1
            obtain ⟨g2,cap2,u2,hv2,hu2,x2,-⟩:=own_cellD hTR.rb hnk;obtain ⟨rfl,-⟩:=qj _ hu2;simp only [Value.slice.injEq,Option.some.injEq,Addr.mk.injEq,and_true,true_and] at hv2;obtain ⟨rfl,rfl⟩:=hv2;have hbj:=(HTE.out.blk j hjk).1;have xc:=hr.cell hbj;have xf:=hr.frozen (bl j);(have HR:=Lib.hid ((hr.set (bl j) (.int .i64 (bl (near j):Int))).congr (g:=fun b=>.int .i64 (NJ bl near pl (j+1) b)) fun v hv=>by rw [NJ_step HTE.out hjk hv,if_neg hz];by_cases e:v=bl j <;> simp [e]));have hb0:(0:Int)≤(bl j:Int):=by omega
            (have hb1:(bl j:Int)<f.blocks.length:=by omega);(have hn0:(0:Int)≤(near j:Int):=by omega);(have hn1:(near j:Int)<k:=by omega);clear hr hfr hz hbx hTR hu1 hu2;(go_upto_region 12 with fail);(go_region);go_wp2_with fail
            go_roundw
            case rel=>exact ⟨j+1,by omega,by go_num,HR.out,(HFR2.out.setCell (.inl rfl) _).drew⟩
            case measure=>simp [intOf];omega
        · (have hjj:j=k:=by omega);subst hjj;have HRES:=Lib.hid (hr.congr (g:=fun b=>.int .i64 (nearD f.blocks b)) fun v hv=>by rw [HIS.out v hv]);(have HBF:Hid (Below w.heap.size w wr):=Lib.hid (HB1.out.trans ((HB5.out.mono (by have:=HS1.out;omega)).trans ((HF6.out.trans hfr).below (by have:=HT5.out;have:=HS1.out;omega) (fun b hb=>by have:=HT5.out;have:=HS1.out;omega)))));(have HTT:Hid (w.heap.size≤T+1):=Lib.hid (by have:=HT5.out;have:=HS1.out;omega));clear hr hfr;(go_wp2_with fail);(go_ret);exact ⟨⟨T+1,rfl,HTT.out,HRES.out,HNE.out⟩,HBF.out⟩
set_option maxRecDepth 100000 in
set_option maxHeartbeats 8000000 in
theorem nearest_none (f:FunD) (v:Value) (w:World) (hv:VFun w v f) (h0:f.blocks.length=0):Calls Tryz.prog 60 #[v] w (ToldNe f.blocks w):=by
  have hv0:=hv;obtain ⟨Ar,cr,A,c,rfl,-,-,-,-⟩:=hv;have HNX:=Lib.hid (fun w1 (hk1:Kept w w1)=>next_any f _ w1 (VFun.keep hk1 hv0) (by omega));have H0:=Lib.hid h0;rw [h0];clear h0;(go_enter Tryz.func60,Tryz.ntmps60);(go_upto_region 1 with fail);obtain ⟨w1,hw1,hs1,hk1,hbel1,hc1,-⟩:=named w #[.int .i64 f.params,.int .i64 f.result,.slice Ar f.regs.length cr,.slice A 0 c] 30
  rw [← hw1];have c0:=hc1 0 _ rfl;have c1:=hc1 1 _ rfl;have c2:=hc1 2 _ rfl;have c3:=hc1 3 _ rfl;have HC3:=Lib.hid c3;have HB1:=Lib.hid hbel1;have HS1:=Lib.hid hs1;have HN:=Lib.hid (HNX.out w1 hk1)
  rw [H0.out] at HN;clear hw1 hs1 hbel1 hc1 hv0 hk1;(go_wp2_with fail);refine HN.out.mono ?_;rintro e w2 ⟨⟨V,G,rfl,hG,hg⟩,hb2⟩;have HB2:Hid (Below w1.heap.size w1 w2):=Lib.hid hb2;have HTV:=Lib.hid (travel_nil G w2);clear c0 c1 c2 c3 hG hg hb2 HN;go_wp2_with fail
  refine HTV.out.mono ?_;rintro e w3 ⟨rfl,hb3⟩;have HB3:Hid (Below w1.heap.size w1 w3):=Lib.hid (HB2.out.trans (hb3.mono HB2.out.size));have hmk:∀ w:World,(Instr.makeSlice 27 (.int .i64 0) (.int .i64 0)).run Tryz.prog w=.ok (.slice (some ⟨w.heap.size,0,none⟩) 0 0) (w.alloc (.cells (madeCells #[.int .i64 0] 0) 3)):=run_make_row' (P:=Tryz.prog) 27 3 (.int .i64 0) 8 Tryz.underlying27 Tryz.info3 rfl .i64 .i64 0 (by omega) (by omega);(have c3:w3.cell? ⟨w.heap.size,3,none⟩=some (.slice A 0 c):=(HB3.out.cell (p:=⟨w.heap.size,3,none⟩) (by have:=HS1.out;show w.heap.size<_;omega)).trans HC3.out);(have hN3:w.heap.size<w3.heap.size:=by have:=HB3.out.size;have:=HS1.out;omega);clear hb3 HTV;(go_upto_region 3 with fail);clear hmk
  obtain ⟨T,hT⟩:∃ T,T=w3.heap.size:=⟨_,rfl⟩;obtain ⟨w5,hw5⟩:∃ w5,w5=(w3.alloc (.cells #[.slice none 0 0,.slice none 0 0,.slice none 0 0] 147)).alloc (.cells (madeCells #[.int .i64 0] 0) 3):=⟨_,rfl⟩;obtain ⟨b0,b1,hbel⟩:w5.heap[T]?=some (.cells #[.slice none 0 0,.slice none 0 0,.slice none 0 0] 147)∧w5.heap[T+1]?=some (.cells (madeCells #[.int .i64 0] 0) 3)∧Below T w3 w5:=by
    subst hw5 hT;have h1:=heap_alloc_new w3 (.cells #[.slice none 0 0,.slice none 0 0,.slice none 0 0] 147);have h2:=heap_alloc_new (w3.alloc (.cells #[.slice none 0 0,.slice none 0 0,.slice none 0 0] 147)) (.cells (madeCells #[.int .i64 0] 0) 3);exact ⟨(Below.heap_alloc _ _ _ (by simp)).trans h1,by simpa using h2,((Below.refl _ w3).alloc (Nat.le_refl _) _).alloc (by simp) _⟩
  have HTB:=Lib.hid b0;have HRW:=Lib.hid (row_made b1);(have HB5:Hid (Below w.heap.size w w5):=Lib.hid (HB1.out.trans ((HB3.out.mono (by have:=HS1.out;omega)).trans (hbel.mono (by omega)))));have HTT:Hid (w.heap.size≤T∧T<w5.heap.size):=Lib.hid ⟨by omega,(Array.getElem?_eq_some_iff.1 b0).1⟩;rw [← hw5,← hT];clear hw5 hT hbel b0 b1 c3 hN3;go_wp2_with fail
  go_loopw [17] (fun s17 wq=>s17=.int .i64 0∧wq=w5) (fun _ _=>0)
  case atStart=>exact ⟨rfl,rfl⟩
  case round =>
    obtain ⟨rfl,hwq⟩:=hrel;(have t0:wr.cell? ⟨T,0,none⟩=some (.slice none 0 0):=by rw [hwq];exact q7 HTB.out 0);(have t1:wr.cell? ⟨T,1,none⟩=some (.slice none 0 0):=by rw [hwq];exact q7 HTB.out 1);(have t2:wr.cell? ⟨T,2,none⟩=some (.slice none 0 0):=by rw [hwq];exact q7 HTB.out 2);have HTN:=Lib.hid (tnear_nil wr);have HWQ:=Lib.hid hwq;clear hwq;(go_wp2_with fail);refine HTN.out.mono ?_
    rintro e w6 ⟨⟨Hn,rfl⟩,hb6⟩;(have HB6:Hid (Below T w5 w6):=Lib.hid (by rw [← HWQ.out];exact hb6.mono (by rw [HWQ.out];exact Nat.le_of_lt HTT.out.2)));(have HR6:=Lib.hid (HRW.out.of_block (w':=w6) (by rw [← HWQ.out];exact hb6.block (T+1) (by rw [HWQ.out];exact HRW.out.lt))));clear hb6 t0 t1 t2 HTN;go_wp2_with fail
    go_loopw [27] (fun s27 wq=>s27=.int .i64 0∧wq=w6) (fun _ _=>0)
    case atStart=>exact ⟨rfl,rfl⟩
    case round =>
      obtain ⟨rfl,hwq⟩:=hrel;have HW2:=Lib.hid hwq;clear hwq;(go_wp2_with fail);(go_ret);refine ⟨⟨T+1,by rw [H0.out];rfl,by have:=HTT.out;omega,?_,fun _=>0,?_⟩,?_⟩
      · rw [HW2.out,H0.out];exact HR6.out.congr fun v hv=>by omega
      · (have hno:∀ a b,dmB f.blocks a b=false:=fun a b=>by unfold dmB fromB;rw [if_neg (by rw [H0.out];omega)];rfl);refine ⟨fun b hb=>?_,fun b hb=>?_,fun a b ha=>?_,fun a ha=>?_,fun a b c h=>?_,fun b hb=>?_,fun a b ha=>?_⟩
        · rw [H0.out] at hb;omega
        · rw [H0.out] at hb;omega
        · rw [H0.out] at ha;omega
        · rw [H0.out] at ha;omega
        · rw [hno] at h;cases h
        · rw [H0.out] at hb;omega
        · rw [H0.out] at ha;omega
      · rw [HW2.out];exact HB5.out.trans (HB6.out.mono HTT.out.1)
theorem nearest_any (f:FunD) (v:Value) (w:World) (hv:VFun w v f) (hn:f.blocks.length≤1000):Calls Tryz.prog 60 #[v] w (ToldNe f.blocks w):=by
  by_cases h0:f.blocks.length=0
  · exact nearest_none f v w hv h0
  · exact nearest_some f v w hv hn (by omega)
set_option maxRecDepth 100000 in
set_option maxHeartbeats 4000000 in
theorem reached_any (f:FunD) (v:Value) (w:World) (hv:VFun w v f) (hn:f.blocks.length≤1000) :
    Calls Tryz.prog 36 #[v] w (ToldR_ f.blocks w):=by
  have hv0:=hv;obtain ⟨Ar,cr,A,c,rfl,hr,hb,hp64,hr64⟩:=hv;have hmk:=run_make_row' (P:=Tryz.prog) 64 4 (.bool false) 1 Tryz.underlying64 Tryz.info4 rfl .i64 .i64 f.blocks.length (by omega) (by omega);clear hr hb hp64 hr64;(go_enter Tryz.func36,Tryz.ntmps36);(go_upto_region 2 with fail);clear hmk;obtain ⟨w1,hw1,hs1,hk1,hbel1,hc1,-⟩:=named w #[.int .i64 f.params,.int .i64 f.result,.slice Ar f.regs.length cr,.slice A f.blocks.length c] 30;rw [← hw1]
  have hrow:=World.rowIs_made w1 (.bool false) f.blocks.length 4;have hk2:Kept w1 (w1.alloc (.cells (madeCells #[.bool false] f.blocks.length) 4)):=kept_alloc _ _;have c0:=hk2 _ _ (hc1 0 _ rfl);have c1:=hk2 _ _ (hc1 1 _ rfl);have c2:=hk2 _ _ (hc1 2 _ rfl);have c3:=hk2 _ _ (hc1 3 _ rfl);have hb2:Below w.heap.size w (w1.alloc (.cells (madeCells #[.bool false] f.blocks.length) 4)):=hbel1.alloc (by omega) _;(have hz2:(w1.alloc (.cells (madeCells #[.bool false] f.blocks.length) 4)).heap.size=w1.heap.size+1:=by simp);obtain ⟨H,hH⟩:∃ H,H=w1.heap.size:=⟨_,rfl⟩
  rw [hs1] at hH;rw [hs1,← hH] at hrow hz2;rw [← hH];generalize w1.alloc (.cells (madeCells #[.bool false] f.blocks.length) 4)=w2 at *;have HO:=Lib.hid (order_any f _ w2 (VFun.keep (hk1.trans hk2) hv0) hn);have HB2:=Lib.hid hb2;have HH:Hid (w.heap.size≤H):=Lib.hid (by omega);have HZ:=Lib.hid hz2;have HROW:=Lib.hid hrow
  clear hw1 hs1 hbel1 hc1 hv0 hk1 hk2 hb2 hz2 hrow hH;(go_wp2_with fail);refine HO.out.mono ?_;rintro e w3 ⟨⟨vo,rfl,hown⟩,hb3⟩;(obtain ⟨Ao,co,rfl,hso⟩:=slB_of_own (B:=fun b=>w2.heap.size≤b) (xs:=zs (orderF f.blocks)) (by rw [qc];exact hown) (fun x hx=>by obtain ⟨q,hq,rfl⟩:=zs_mem hx;have:=orderF_lt hq;unfold I64;omega) (fun g h1 _=>h1));rw [qc];have hlen:=orderF_len f.blocks;have HB3:Hid (Below w.heap.size w w3):=Lib.hid (HB2.out.trans (hb3.mono HB2.out.size));have hrow3:w3.rowIs H 4 f.blocks.length (fun x=>.bool (tookB (orderF f.blocks) 0 x)):=(HROW.out.of_block (hb3.block H HROW.out.lt)).congr fun x _=>by simp [tookB]
  have HSO:=Lib.hid hso;clear hown hb3 hso c0 c1 c2 c3;go_wp2_with fail
  go_loopw [13] (fun i wr=>∃ k:Nat,k≤(orderF f.blocks).length∧i=.int .i64 k∧wr.rowIs H 4 f.blocks.length (fun x=>.bool (tookB (orderF f.blocks) k x))∧BB w3.heap.size H w3 wr) (fun i _=>(orderF f.blocks).length - (intOf i).toNat)
  case atStart=>exact ⟨0,Nat.zero_le _,rfl,hrow3,BB.refl _ _ _⟩
  case round =>
    obtain ⟨k,hk,rfl,hrw,hbb⟩:=hrel;have HBB:=Lib.hid hbb;(have hso:=SIntsB.go (B:=fun b=>w2.heap.size≤b∧b<w3.heap.size) (B':=fun b=>w2.heap.size≤b) (w:=w3) (w':=wr) (fun a v hb ha=>(World.cell?_of_block (hbb.block a.block (by have:=hb.2;omega) (by have:=HZ.out;have:=hb.1;omega))).trans ha) (fun b hb=>hb.1) (SIntsB.lt HSO.out));clear hbb
    by_cases hlt:k<(orderF f.blocks).length
    · (obtain ⟨b,o,x,rfl,hx,-,hxc,-⟩:=hso.at_ (k:=k) (by rw [qc];exact hlt));obtain ⟨q,hq,rfl⟩:=zs_at hx.out;have hqn:q<f.blocks.length:=orderF_lt (List.mem_of_getElem? hq);(have hxc:wr.cell? ⟨b,o+k,none⟩=some (.int .i64 (q:Int)):=by rw [Nat.mul_one] at hxc;exact hxc);(have hq0:(0:Int)≤q:=by omega);(have hq1:(q:Int)<f.blocks.length:=by omega);have hcell:=hrw.cell hqn;have hfr:=hrw.frozen q;have HRW:=Lib.hid ((hrw.set q (.bool true)).congr (g:=fun x=>.bool (tookB (orderF f.blocks) (k+1) x)) fun x _=>by rw [takesB_succ hq];by_cases e:x=q <;> simp [e])
      clear hrw hq hso;go_wp2_with fail
      go_roundw
      case rel=>exact ⟨k+1,by omega,by go_num,HRW.out,HBB.out.setCell (.inl rfl) _⟩
      case measure=>simp [intOf];omega
    · have HRW:=Lib.hid (hrw.congr (g:=fun x=>.bool (qv f.blocks x)) fun x _=>by rw [takesB_all (by omega)]);clear hrw hso;(go_wp2_with fail);(go_ret);exact ⟨⟨H,rfl,HH.out,HRW.out⟩,HB3.out.trans (HBB.out.below HB3.out.size HH.out)⟩
theorem Tryz.info64:(Tryz.prog.info? 64).map (fun i=>(i.zero,i.size,i.bytes))=some (some (.slice none 0 0),1,24):=by kernel_rfl
structure BGr (w:World) (G D0 n:Nat) (M:Nat→Nat→Bool):Prop where
  row:w.rowIs G 64 n (fun a=>.slice (some ⟨D0+a,0,none⟩) n n)
  cells:∀ a,a<n→w.rowIs (D0+a) 4 n (fun b=>.bool (M a b))
  lt:G<D0
theorem BGr.congr {w:World} {G D0 n:Nat} {M M':Nat→Nat→Bool} (h:BGr w G D0 n M) (he:∀ a b,a<n→b<n→M a b=M' a b):BGr w G D0 n M' :=
  ⟨h.row,fun a ha=>(h.cells a ha).congr fun b hb=>by rw [he a b ha hb],h.lt⟩
theorem BGr.of_blocks {w w':World} {G D0 n:Nat} {M:Nat→Nat→Bool} (h:BGr w G D0 n M) (hb:∀ y,G≤y→y<D0+n→w'.heap[y]?=w.heap[y]?):BGr w' G D0 n M :=
  ⟨h.row.of_block (hb G (Nat.le_refl _) (by have:=h.lt;omega)),fun a ha=>(h.cells a ha).of_block (hb _ (by have:=h.lt;omega) (by omega)),h.lt⟩
theorem BGr.set {w:World} {G D0 n:Nat} {M:Nat→Nat→Bool} (h:BGr w G D0 n M) (q b:Nat) (x:Bool):BGr (w.setCell ⟨D0+q,b,none⟩ (.bool x)) G D0 n (fun a b'=>if a=q∧b'=b then x else M a b'):=by
  have hs:∀ y,y≠D0+q→(w.setCell ⟨D0+q,b,none⟩ (.bool x)).heap[y]?=w.heap[y]?:=fun y hy=>Below.heap_setCell _ _ _ _ hy;have hlt:=h.lt;refine ⟨h.row.of_block (hs G (by omega)),fun a ha=>?_,hlt⟩
  by_cases e:a=q
  · subst e;exact ((h.cells a ha).set b (.bool x)).congr fun b' _=>by by_cases e2:b'=b <;> simp [e2]
  · exact ((h.cells a ha).of_block (hs _ (by omega))).congr fun b' _=>by simp [e]
def LayB (w4:World) (G n j:Nat) (wq:World):Prop :=
  wq.heap.size=G+1+j∧wq.rowIs G 64 n (fun a=>if a<j then .slice (some ⟨G+1+a,0,none⟩) n n else .slice none 0 0)∧(∀ a,a<j→wq.rowIs (G+1+a) 4 n (fun _=>.bool false))∧FrX (fun b=>b=G) w4 wq
theorem LayB.step {w4 wq:World} {G n j:Nat} (h:LayB w4 G n j wq):LayB w4 G n (j+1) ((wq.setCell ⟨G,j,none⟩ (.slice (some ⟨wq.heap.size,0,none⟩) n n)).alloc (.cells (madeCells #[.bool false] n) 4)):=by
  obtain ⟨h1,h2,h3,h4⟩:=h;have hs:∀ y,y≠G→(wq.setCell ⟨G,j,none⟩ (.slice (some ⟨wq.heap.size,0,none⟩) n n)).heap[y]?=wq.heap[y]?:=fun y hy=>Below.heap_setCell _ _ _ _ hy;(have hz:(wq.setCell ⟨G,j,none⟩ (.slice (some ⟨wq.heap.size,0,none⟩) n n)).heap.size=wq.heap.size:=by simp);have hnew:=heap_alloc_new (wq.setCell ⟨G,j,none⟩ (.slice (some ⟨wq.heap.size,0,none⟩) n n)) (.cells (madeCells #[.bool false] n) 4);refine ⟨by simp;omega,?_,fun a ha=>?_,(h4.setCell (.inl rfl) _).alloc _⟩
  · refine ((h2.set j _).of_block (Below.heap_alloc _ _ _ (by have:=h2.lt;omega))).congr fun a _=>?_
    by_cases e:a=j
    · subst e;simp only [if_true];rw [if_pos (by omega),h1]
    · simp only [if_neg e]
      by_cases e2:a<j
      · rw [if_pos e2,if_pos (by omega)]
      · rw [if_neg e2,if_neg (by omega)]
  · by_cases e:a=j
    · subst e;(have e:G+1+a=(wq.setCell ⟨G,a,none⟩ (.slice (some ⟨wq.heap.size,0,none⟩) n n)).heap.size:=by omega);rw [← e] at hnew;exact ⟨_,hnew,size_madeCells _ _,fun i hi=>by simp [madeCells,hi,Nat.mod_one]⟩
    · exact (h3 a (by omega)).of_block ((Below.heap_alloc _ _ _ (by omega)).trans (hs _ (by omega)))
theorem LayB.all {w4 wq:World} {G n:Nat} (h:LayB w4 G n n wq):BGr wq G (G+1) n (fun _ _=>false) :=
  ⟨h.2.1.congr fun a ha=>by rw [if_pos ha],h.2.2.1,by omega⟩
def ToldDo (bs:List BlkD) (w:World) (e:Ending) (w':World):Prop :=
  (∃ G D0,e=.returned (.slice (some ⟨G,0,none⟩) bs.length bs.length)∧w.heap.size≤G∧BGr w' G D0 bs.length (dmB bs)∧∃ ord,NearB bs (nearD bs) ord)∧Below w.heap.size w w'
set_option maxRecDepth 100000 in
set_option maxHeartbeats 8000000 in
theorem domDominates_any (f:FunD) (v:Value) (w:World) (hv:VFun w v f) (hn:f.blocks.length≤1000):Calls Tryz.prog 79 #[v] w (ToldDo f.blocks w):=by
  have hv0:=hv;obtain ⟨Ar,cr,A,c,rfl,-,-,-,-⟩:=hv;have HV:=Lib.hid hv0;(go_enter Tryz.func79,Tryz.ntmps79);(go_upto_region 1 with fail);obtain ⟨w1,hw1,hs1,hk1,hbel1,hc1,-⟩:=named w #[.int .i64 f.params,.int .i64 f.result,.slice Ar f.regs.length cr,.slice A f.blocks.length c] 30;rw [← hw1];have c0:w1.cell? ⟨w.heap.size,0,none⟩=some (.int .i64 f.params):=hc1 0 _ rfl;have c1:w1.cell? ⟨w.heap.size,1,none⟩=some (.int .i64 f.result):=hc1 1 _ rfl
  have c2:w1.cell? ⟨w.heap.size,2,none⟩=some (.slice Ar f.regs.length cr):=hc1 2 _ rfl;have c3:w1.cell? ⟨w.heap.size,3,none⟩=some (.slice A f.blocks.length c):=hc1 3 _ rfl;have HC:=Lib.hid (And.intro c0 (And.intro c1 (And.intro c2 c3)));have HB1:=Lib.hid hbel1;have HS1:=Lib.hid hs1;have HN:=Lib.hid (nearest_any f _ w1 (VFun.keep hk1 hv0) hn);clear hw1 hs1 hbel1 hc1 hv0 hk1;(go_wp2_with fail);refine HN.out.mono ?_
  rintro e w2 ⟨⟨H,rfl,hH,hnr,ord,hNB⟩,hb2⟩;have HB2:Hid (Below w1.heap.size w1 w2):=Lib.hid hb2;have HNB:=Lib.hid hNB;have HNR:=Lib.hid hnr;have hHl:H<w2.heap.size:=hnr.lt;have hmk:=run_make_row' (P:=Tryz.prog) 59 64 (.slice none 0 0) 24 Tryz.underlying59 Tryz.info64 rfl .i64 .i64 f.blocks.length (by omega) (by omega);clear c0 c1 c2 c3 hH hnr hb2 HN hNB;(go_upto_region 3 with fail);clear hmk
  obtain ⟨G,hG⟩:∃ G,G=w2.heap.size:=⟨_,rfl⟩;obtain ⟨w4,hw4⟩:∃ w4,w4=w2.alloc (.cells (madeCells #[.slice none 0 0] f.blocks.length) 64):=⟨_,rfl⟩;have hlay:LayB w4 G f.blocks.length 0 w4:=by
    subst hw4 hG;exact ⟨by simp,(World.rowIs_made w2 _ _ _).congr fun a _=>by simp,fun a ha=>by omega,FrX.refl _ _⟩
  (have HNR4:=Lib.hid (HNR.out.of_block (w':=w4) (by rw [hw4];exact Below.heap_alloc _ _ _ hHl)));(have HB4:Hid (Below w1.heap.size w1 w4):=Lib.hid (by rw [hw4];exact HB2.out.alloc HB2.out.size _));(have HHG:Hid (H<G∧w1.heap.size≤G∧G<w4.heap.size):=Lib.hid ⟨by omega,by have:=HB2.out.size;omega,by rw [hw4,hG];simp⟩);have HLAY:=Lib.hid hlay;rw [← hw4,← hG];have hmk3:=run_make_row' (P:=Tryz.prog) 64 4 (.bool false) 1 Tryz.underlying64 Tryz.info4 rfl .i64 .i64 f.blocks.length (by omega) (by omega);have HMK:=Lib.hid hmk3;clear hw4 hG hlay hHl hmk3 HNR;go_wp2_with fail
  go_loopw [16] (fun s16 wq=>∃ j:Nat,j≤f.blocks.length∧s16=.int .i64 (j:Int)∧LayB w4 G f.blocks.length j wq) (fun s16 _=>f.blocks.length - (intOf s16).toNat)
  case atStart=>exact ⟨0,Nat.zero_le _,rfl,HLAY.out⟩
  case round =>
    obtain ⟨j,hj,rfl,hl⟩:=hrel;have HL:=Lib.hid hl
    by_cases hjn:j<f.blocks.length
    · have hmk:=HMK.out;(have xc:wr.cell? ⟨G,j,none⟩=some (.slice none 0 0):=by have:=hl.2.1.cell hjn;rwa [if_neg (by omega)] at this);have xf:=hl.2.1.frozen j;have hG:=hl.2.1.lt;(have hj0:(0:Int)≤j:=by omega);(have hj1:(j:Int)<f.blocks.length:=by omega);have HST:=Lib.hid (LayB.step hl);clear hl;go_wp2_with fail
      go_roundw
      case rel=>exact ⟨j+1,by omega,by go_num,HST.out⟩
      case measure=>simp [intOf];omega
    · (have hjj:j=f.blocks.length:=by omega);subst hjj;have hbg:=LayB.all hl;(have hbel5:Below G w4 wr:=hl.2.2.2.below (by have:=HHG.out;omega) (fun b hb=>by omega));have hb15:Below w1.heap.size w1 wr:=HB4.out.trans (hbel5.mono HHG.out.2.1);(have hkw:∀ i,wr.cell? ⟨w.heap.size,i,none⟩=w1.cell? ⟨w.heap.size,i,none⟩:=fun i=>hb15.cell (p:=⟨w.heap.size,i,none⟩) (by have:=HS1.out;show w.heap.size<_;omega));have c0:=(hkw 0).trans HC.out.1;have c1:=(hkw 1).trans HC.out.2.1;have c2:=(hkw 2).trans HC.out.2.2.1
      have c3:=(hkw 3).trans HC.out.2.2.2;(have HRE:=Lib.hid (reached_any f _ wr (VFun.keep (q6 (HB1.out.trans (hb15.mono (by have:=HS1.out;omega)))) HV.out) hn));have hsz:=hl.1;have HBG:=Lib.hid hbg;have HNR5:=Lib.hid (HNR4.out.of_block (hbel5.block H HHG.out.1));(have HB5:Hid (Below w.heap.size w wr):=Lib.hid (HB1.out.trans (hb15.mono (by have:=HS1.out;omega))));have HSZ:Hid (wr.heap.size=G+1+f.blocks.length):=Lib.hid hsz;clear hl hbg hbel5 hb15 hkw hsz;go_wp2_with fail
      refine HRE.out.mono ?_;rintro e w6 ⟨⟨R,rfl,hR,hrr⟩,hb6⟩;(have hB6:=HBG.out.of_blocks (w':=w6) (fun y _ hy=>hb6.block y (by have:=HSZ.out;omega)));have HBG6:=Lib.hid (hB6.congr (M':=fun a b'=>decide (b'<0) && dmB f.blocks a b') fun a b _ _=>by simp);have HNR6:=Lib.hid (HNR5.out.of_block (hb6.block H HNR5.out.lt));have HRR:=Lib.hid hrr;(have HRG:Hid (G+1+f.blocks.length≤R):=Lib.hid (by have:=HSZ.out;omega));have HB6:Hid (Below w.heap.size w w6):=Lib.hid (HB5.out.trans (hb6.mono HB5.out.size));have HG6:Hid (w.heap.size≤G):=Lib.hid (by have:=HHG.out;have:=HS1.out;omega)
      clear hb6 hrr hR c0 c1 c2 c3 HRE hB6;go_wp2_with fail
      go_loopw [29] (fun s29 wq=>∃ b:Nat,b≤f.blocks.length∧s29=.int .i64 (b:Int)∧BGr wq G (G+1) f.blocks.length (fun a b'=>decide (b'<b) && dmB f.blocks a b')∧FrX (fun y=>G≤y∧y<G+1+f.blocks.length) w6 wq) (fun s29 _=>f.blocks.length - (intOf s29).toNat)
      case atStart=>exact ⟨0,Nat.zero_le _,rfl,HBG6.out,FrX.refl _ _⟩
      case round =>
        obtain ⟨b,hb,rfl,hbg,hfr⟩:=hrel;obtain ⟨wo,rfl⟩:∃ wo,wo=wr:=⟨wr,rfl⟩;have HBGR:=Lib.hid hbg;have HFR:=Lib.hid hfr
        by_cases hbn:b<f.blocks.length
        · (have xr:=(HRR.out.of_block (hfr.block R HRR.out.lt (by have:=HRG.out;omega))).cell hbn);(have hb0:(0:Int)≤b:=by omega);(have hb1:(b:Int)<f.blocks.length:=by omega);cases hre:qv f.blocks b
          · have HN2:=Lib.hid (hbg.congr (M':=fun a b'=>decide (b'<b+1) && dmB f.blocks a b') fun a b' _ _=>by
              by_cases e:b'=b
              · subst e;(have:dmB f.blocks a b'=false:=by unfold dmB;rw [qz,hre];rfl);simp [this]
              · have:decide (b'<b)=decide (b'<b+1):=by rw [decide_eq_decide];omega
                rw [this])
            rw [hre] at xr;clear hbg hfr hre;go_wp2_with fail
            go_roundw
            case rel=>exact ⟨b+1,by omega,by go_num,HN2.out,HFR.out⟩
            case measure=>simp [intOf];omega
          · rw [hre] at xr;have hself:dmB f.blocks b b=true:=HNB.out.self b hbn (by rw [qz];exact hre)
            have HBG3:=Lib.hid (hbg.congr (M':=fun a b'=>if b'=b then upB f.blocks b (b:Int) a else decide (b'<b) && dmB f.blocks a b') fun a b' _ _=>by
              by_cases e:b'=b
              · subst e;rw [if_pos rfl];unfold upB;rw [Int.toNat_natCast,decide_eq_false (by omega),decide_eq_false (by omega)];cases dmB f.blocks a b' <;> rfl
              · rw [if_neg e])
            have HSELF:=Lib.hid hself;clear hbg hfr hre hself;(go_upto_region 13 with fail);go_loopg [8] (ord b+1) (fun gk s8 wq=>∃ y:Int,s8=.int .i64 y∧((y=-1∧gk=0)∨∃ q:Nat,q<f.blocks.length∧y=(q:Int)∧dmB f.blocks q b=true∧gk=ord q+1)∧BGr wq G (G+1) f.blocks.length (fun a b'=>if b'=b then upB f.blocks b y a else decide (b'<b) && dmB f.blocks a b')∧FrX (fun y=>G≤y∧y<G+1+f.blocks.length) w6 wq)
            case atStart=>exact ⟨(b:Int),rfl,.inr ⟨b,hbn,rfl,HSELF.out,rfl⟩,HBG3.out,HFR.out⟩
            case round =>
              obtain ⟨y,rfl,hor,hbg,hfr⟩:=hrel;have HBGR:=Lib.hid hbg;have HFR:=Lib.hid hfr;rcases hor with ⟨rfl,rfl⟩ | ⟨q,hq,rfl,hdq,rfl⟩
              · have HN2:=Lib.hid (hbg.congr (M':=fun a b'=>decide (b'<b+1) && dmB f.blocks a b') fun a b' _ _=>by
                  by_cases e:b'=b
                  · subst e;rw [if_pos rfl];unfold upB;simp
                  · rw [if_neg e];have:decide (b'<b)=decide (b'<b+1):=by rw [decide_eq_decide];omega
                    rw [this])
                (have h1:¬ ((-1:Int) ≥ 0):=by decide);clear hbg hfr;go_wp2_with fail
                go_roundw
                case rel=>exact ⟨b+1,by omega,by go_num,HN2.out,HFR.out⟩
                case measure=>simp [intOf];omega
              · have HUP:=Lib.hid (HNB.out.up_less hbn hq hdq);have hcl:=hbg.cells q hq;have xg:=hbg.row.cell hq;have xc:=hcl.cell hbn;have xf:=hcl.frozen b;(have xn:=(HNR6.out.of_block (hfr.block H HNR6.out.lt (by have:=HHG.out;omega))).cell hq);have hHG:H<G:=HHG.out.1
                have HB7:=Lib.hid ((hbg.set q b true).congr (M':=fun a b'=>if b'=b then upB f.blocks b (nearD f.blocks q) a else decide (b'<b) && dmB f.blocks a b') fun a b' ha hb'=>by
                  by_cases e:b'=b
                  · subst e;simp only [and_true,if_true];exact HNB.out.up_step ha hb' hq hdq
                  · simp only [e,and_false,if_false])
                (have HF7:=Lib.hid (hfr.setCell (p:=⟨G+1+q,b,none⟩) (.inl (by show G≤G+1+q∧G+1+q<_;omega)) (.bool true)));(have hq0:(0:Int)≤q:=by omega);(have hq1:(q:Int)<f.blocks.length:=by omega);(have hqg:((q:Int) ≥ 0):=by omega);(have hne:H≠G+1+q:=by omega);clear hbg hfr hcl;(go_wp2_with fail);rcases HUP.out with hz | ⟨p,hp,he,hdp,hlt⟩
                · go_roundg 0
                  case measure=>omega
                  case rel=>exact ⟨-1,by rw [hz],.inl ⟨rfl,rfl⟩,by rw [← hz];exact HB7.out,HF7.out⟩
                · go_roundg (ord p+1)
                  case measure=>omega
                  case rel=>exact ⟨(p:Int),by rw [he],.inr ⟨p,hp,rfl,hdp,rfl⟩,by rw [← he];exact HB7.out,HF7.out⟩
        · (have hbb:b=f.blocks.length:=by omega);subst hbb;(have HRES:=Lib.hid (hbg.congr (M':=dmB f.blocks) fun a b' _ hb'=>by rw [decide_eq_true hb'];rfl));(have HBF:Hid (Below w.heap.size w wo):=Lib.hid (HB6.out.trans (hfr.below HB6.out.size (fun y hy=>by have:=HG6.out;omega))));clear hbg hfr;(go_wp2_with fail);(go_ret);exact ⟨⟨G,G+1,rfl,HG6.out,HRES.out,ord,HNB.out⟩,HBF.out⟩
end Go.Proofs.YtfoggldjjnabcaaGreatDoor
