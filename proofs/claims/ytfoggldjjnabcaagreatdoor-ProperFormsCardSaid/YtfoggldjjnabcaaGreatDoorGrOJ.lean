/- The program's newGrove: three rows, each place hanging below none. -/
import Derived.Test.YtfoggldjjnabcaaGreatDoorGrNmJ
import Derived.Test.YtfoggldjjnabcaaGreatDoorLastJ
import Derived.Deep.DeepCutAuto
import Derived.Deep.LoopGhost
import Derived.StillTailTactics
import Derived.Laws.ResultCell
import Derived.Test.YtfoggldjjnabcaaGreatDoorInfBJ
import Derived.Laws.EntriesVeiled
namespace Go.Proofs.YtfoggldjjnabcaaGreatDoor
open Go.ChangeShapes Go.WideShapes Go.RowKit Go.Deep
set_option linter.unusedVariables false
structure GvM (w:World) (k He Ha Hl:Nat) (early least:Nat→Nat) (above:Nat→Int):Prop where
  e:w.rowIs He 3 k (fun v=>.int .i64 (early v:Int))
  a:w.rowIs Ha 3 k (fun v=>.int .i64 (above v))
  l:w.rowIs Hl 3 k (fun v=>.int .i64 (least v:Int))
  ne:He≠Ha∧He≠Hl∧Ha≠Hl
def ToldNG (k:Nat) (w:World) (e:Ending) (w':World):Prop :=
  (∃ He Ha Hl,e=.returned (.agg #[.slice (some ⟨He,0,none⟩) k k,.slice (some ⟨Ha,0,none⟩) k k,.slice (some ⟨Hl,0,none⟩) k k])∧w.heap.size≤He∧w.heap.size≤Ha∧w.heap.size≤Hl∧GvM w' k He Ha Hl (fun v=>v) (fun v=>v) (fun _=>-1))∧Below w.heap.size w w'
theorem boxes5 (w:World) (M:Nat) (hM:M=w.heap.size) (o0 o1 o2 o3 o4:Obj) (W:World) (hW:W=(((((w.alloc o0).alloc o1).alloc o2).alloc o3).alloc o4).drew) :
    W.heap[M]?=some o0∧W.heap[M+1]?=some o1∧W.heap[M+1+1]?=some o2∧W.heap[M+1+1+1]?=some o3∧W.heap[M+1+1+1+1]?=some o4∧W.heap.size=M+5∧Below M w W:=by
  subst hM hW;(have hz (u:World) (o:Obj):(u.alloc o).heap.size=u.heap.size+1:=by simp);have hg (u:World) (o:Obj) (k:Nat):(u.alloc o).heap[k]?=if k=u.heap.size then some o else u.heap[k]?:=by
    show (u.heap.push o)[k]?=_;rw [Array.getElem?_push]
  have hd (u:World) (k:Nat):u.drew.heap[k]?=u.heap[k]?:=rfl;refine ⟨?_,?_,?_,?_,?_,?_,?_⟩
  · (rw [hd];simp only [hg,hz];repeat rw [if_neg (by omega)]);exact if_pos (by first | trivial | omega)
  · (rw [hd];simp only [hg,hz];repeat rw [if_neg (by omega)]);exact if_pos (by first | trivial | omega)
  · (rw [hd];simp only [hg,hz];repeat rw [if_neg (by omega)]);exact if_pos (by first | trivial | omega)
  · (rw [hd];simp only [hg,hz];repeat rw [if_neg (by omega)]);exact if_pos (by first | trivial | omega)
  · (rw [hd];simp only [hg,hz];repeat rw [if_neg (by omega)]);exact if_pos (by first | trivial | omega)
  · show (((((w.alloc o0).alloc o1).alloc o2).alloc o3).alloc o4).heap.size=_;simp [hz]
  · refine Below.drew ?_;refine (((((Below.refl _ w).alloc ?_ _).alloc ?_ _).alloc ?_ _).alloc ?_ _).alloc ?_ _;all_goals (simp [hz];try omega)
def MkNG (k:Nat) (w:World) (He Ha Hl Hg:Nat) (wc:World):Prop :=
  wc.heap[Hg]?=some (.cells #[.slice (some ⟨He,0,none⟩) k k,.slice (some ⟨Ha,0,none⟩) k k,.slice (some ⟨Hl,0,none⟩) k k] 189) ∧
  wc.heap[He]?=some (.cells (madeCells #[.int .i64 0] k) 3)∧wc.heap[Ha]?=some (.cells (madeCells #[.int .i64 0] k) 3)∧wc.heap[Hl]?=some (.cells (madeCells #[.int .i64 0] k) 3) ∧
  wc.heap[w.heap.size]?=some (.cells #[.slice none 0 0,.slice none 0 0,.slice none 0 0] 189) ∧
  (w.heap.size<He∧w.heap.size<Ha∧w.heap.size<Hl∧w.heap.size<Hg∧He≠Ha∧He≠Hl∧Ha≠Hl∧Hg≠He∧Hg≠Ha∧Hg≠Hl)∧Below w.heap.size w wc
def WcNG (k:Nat) (w:World) (s3:Value) (wc:World):Prop:=∃ He Ha Hl Hg:Nat,s3=.pointer (some ⟨Hg,0,none⟩)∧MkNG k w He Ha Hl Hg wc
theorem leafNG {k:Nat} {w W:World} {s3:Value} {o0 o1 o2 o3 o4:Obj} (hW:W=(((((w.alloc o0).alloc o1).alloc o2).alloc o3).alloc o4).drew)
    (f:(W.heap[w.heap.size]?=some o0∧W.heap[w.heap.size+1]?=some o1∧W.heap[w.heap.size+1+1]?=some o2∧W.heap[w.heap.size+1+1+1]?=some o3∧W.heap[w.heap.size+1+1+1+1]?=some o4∧W.heap.size=w.heap.size+5∧Below w.heap.size w W)→WcNG k w s3 W):WcNG k w s3 W :=
  f (boxes5 w w.heap.size rfl o0 o1 o2 o3 o4 W hW)
def LayNG (k:Nat) (w:World) (He Ha Hl Hg j:Nat) (wr:World):Prop :=
  GvM wr k He Ha Hl (fun v=>if v<j then v else 0) (fun v=>if v<j then v else 0) (fun v=>if v<j then -1 else 0) ∧
  wr.heap[Hg]?=some (.cells #[.slice (some ⟨He,0,none⟩) k k,.slice (some ⟨Ha,0,none⟩) k k,.slice (some ⟨Hl,0,none⟩) k k] 189) ∧
  wr.heap[w.heap.size]?=some (.cells #[.slice none 0 0,.slice none 0 0,.slice none 0 0] 189)∧Below w.heap.size w wr
theorem row_made {w:World} {H k:Nat} (h:w.heap[H]?=some (.cells (madeCells #[.int .i64 0] k) 3)):w.rowIs H 3 k (fun _=>.int .i64 0) :=
  ⟨_,h,size_madeCells _ _,fun i hi=>by simp [madeCells,hi,Nat.mod_one]⟩
theorem LayNG.start {k:Nat} {w wc:World} {He Ha Hl Hg:Nat} (h:MkNG k w He Ha Hl Hg wc):LayNG k w He Ha Hl Hg 0 wc:=by
  obtain ⟨h1,h2,h3,h4,h5,⟨_,_,_,_,n1,n2,n3,_⟩,h7⟩:=h;exact ⟨⟨(row_made h2).congr fun _ _=>rfl,(row_made h3).congr fun _ _=>rfl,(row_made h4).congr fun _ _=>rfl,n1,n2,n3⟩,h1,h5,h7⟩
theorem LayNG.step {k:Nat} {w wr:World} {He Ha Hl Hg j:Nat} (h:LayNG k w He Ha Hl Hg j wr)
    (hn:w.heap.size<He∧w.heap.size<Ha∧w.heap.size<Hl∧w.heap.size<Hg∧He≠Ha∧He≠Hl∧Ha≠Hl∧Hg≠He∧Hg≠Ha∧Hg≠Hl) :
    LayNG k w He Ha Hl Hg (j+1) (((wr.setCell ⟨He,j,none⟩ (.int .i64 (j:Int))).setCell ⟨Ha,j,none⟩ (.int .i64 (-1))).setCell ⟨Hl,j,none⟩ (.int .i64 (j:Int))).drew:=by
  obtain ⟨p1,p2,p3,p4,n1,n2,n3,n4,n5,n6⟩:=hn;obtain ⟨⟨h1,h2,h3,h4⟩,h5,h6,h7⟩:=h;have hs:∀ (u:World) (H i k:Nat) (v:Value),k≠H→(u.setCell ⟨H,i,none⟩ v).heap[k]?=u.heap[k]?:=fun u H i k v hk=>Below.heap_setCell _ _ _ _ hk;have rd:∀ (u:World) (H:Nat) (f:Nat→Value),u.rowIs H 3 k f→u.drew.rowIs H 3 k f:=fun _ _ _ h=>h;have r1:=((h1.set j (.int .i64 (j:Int))).of_block (hs _ Ha j He (.int .i64 (-1)) n1)).of_block (hs _ Hl j He (.int .i64 (j:Int)) n2);have r2:=((h2.of_block (hs _ He j Ha (.int .i64 (j:Int)) n1.symm)).set j (.int .i64 (-1))).of_block (hs _ Hl j Ha (.int .i64 (j:Int)) n3);have r3:=((h3.of_block (hs _ He j Hl (.int .i64 (j:Int)) n2.symm)).of_block (hs _ Ha j Hl (.int .i64 (-1)) n3.symm)).set j (.int .i64 (j:Int));refine ⟨⟨?_,?_,?_,h4⟩,?_,?_,?_⟩
  · refine (rd _ _ _ r1).congr fun v _=>?_
    by_cases e:v=j
    · simp [e]
    · simp only [if_neg e];by_cases e2:v<j
      · rw [if_pos e2,if_pos (by omega)]
      · rw [if_neg e2,if_neg (by omega)]
  · refine (rd _ _ _ r2).congr fun v _=>?_
    by_cases e:v=j
    · simp [e]
    · simp only [if_neg e];by_cases e2:v<j
      · rw [if_pos e2,if_pos (by omega)]
      · rw [if_neg e2,if_neg (by omega)]
  · refine (rd _ _ _ r3).congr fun v _=>?_
    by_cases e:v=j
    · simp [e]
    · simp only [if_neg e];by_cases e2:v<j
      · rw [if_pos e2,if_pos (by omega)]
      · rw [if_neg e2,if_neg (by omega)]
  · exact (hs _ Hl j Hg _ n6).trans ((hs _ Ha j Hg _ n5).trans ((hs _ He j Hg _ n4).trans h5))
  · exact (hs _ Hl j _ _ (by omega)).trans ((hs _ Ha j _ _ (by omega)).trans ((hs _ He j _ _ (by omega)).trans h6))
  · exact (((h7.setCell (p:=⟨He,j,none⟩) (by show _≤He;omega) _).setCell (p:=⟨Ha,j,none⟩) (by show _≤Ha;omega) _).setCell (p:=⟨Hl,j,none⟩) (by show _≤Hl;omega) _).drew
theorem LayNG.all {k:Nat} {w wr:World} {He Ha Hl Hg:Nat} (h:LayNG k w He Ha Hl Hg k wr):GvM wr k He Ha Hl (fun v=>v) (fun v=>v) (fun _=>-1):=by
  obtain ⟨⟨h1,h2,h3,h4⟩,-⟩:=h;exact ⟨h1.congr fun v hv=>by rw [if_pos hv],h2.congr fun v hv=>by rw [if_pos hv],h3.congr fun v hv=>by rw [if_pos hv],h4⟩
theorem GvM.of_blocks {w w':World} {k He Ha Hl:Nat} {early least:Nat→Nat} {above:Nat→Int} (h:GvM w k He Ha Hl early least above) (he:w'.heap[He]?=w.heap[He]?) (ha:w'.heap[Ha]?=w.heap[Ha]?) (hl:w'.heap[Hl]?=w.heap[Hl]?):GvM w' k He Ha Hl early least above :=
  ⟨h.e.of_block he,h.a.of_block ha,h.l.of_block hl,h.ne⟩
set_option maxRecDepth 100000 in
set_option maxHeartbeats 4000000 in
theorem newGrove_any (k:Nat) (w:World) (hk:k≤1000000):Calls Tryz.prog 129 #[.int .i64 k] w (ToldNG k w):=by
  have hmk:=run_make_row' (P:=Tryz.prog) 27 3 (.int .i64 0) 8 Tryz.underlying27 Tryz.info3 rfl .i64 .i64 k (by omega) (by omega);(go_enter Tryz.func129,Tryz.ntmps129);(go_upto_region 1 with fail);go_cut [3] (fun s3 wc=>WcNG k w s3 wc)
  case first =>
    (go_region);all_goals (go_wp2_with fail;go_meet)
    all_goals (
      case rel =>
        refine leafNG rfl ?_;rintro ⟨b0,b1,b2,b3,b4,hsz,hbel⟩
        exact ⟨_,_,_,_,rfl,by first | exact b1 | exact b2 | exact b3 | exact b4,by first | exact b1 | exact b2 | exact b3 | exact b4,by first | exact b1 | exact b2 | exact b3 | exact b4,by first | exact b1 | exact b2 | exact b3 | exact b4,b0,by omega,hbel⟩)
  case rest =>
    obtain ⟨He,Ha,Hl,Hg,rfl,hmk2⟩:=hcut;have HST:=Lib.hid (LayNG.start hmk2);have HD:=Lib.hid hmk2.2.2.2.2.2.1;clear hmk2 hmk;go_wp2_with fail
    go_loopw [13] (fun i wr=>∃ j:Nat,j≤k∧i=.int .i64 j∧LayNG k w He Ha Hl Hg j wr) (fun i _=>k - (intOf i).toNat)
    case atStart=>exact ⟨0,Nat.zero_le _,rfl,HST.out⟩
    case round =>
      obtain ⟨j,hj,rfl,hl⟩:=hrel;have HL:=Lib.hid hl;obtain ⟨⟨r1,r2,r3,-⟩,h5,h6,h7⟩:=hl;have c0:wr.cell? ⟨Hg,0,none⟩=some (.slice (some ⟨He,0,none⟩) k k):=q7 h5 0;have c1:wr.cell? ⟨Hg,1,none⟩=some (.slice (some ⟨Ha,0,none⟩) k k):=q7 h5 1;have c2:wr.cell? ⟨Hg,2,none⟩=some (.slice (some ⟨Hl,0,none⟩) k k):=q7 h5 2
      by_cases hjk:j<k
      · (have e1:wr.cell? ⟨He,j,none⟩=some (.int .i64 0):=by have:=r1.cell hjk;simpa using this);(have e2:wr.cell? ⟨Ha,j,none⟩=some (.int .i64 0):=by have:=r2.cell hjk;simpa using this);(have e3:wr.cell? ⟨Hl,j,none⟩=some (.int .i64 0):=by have:=r3.cell hjk;simpa using this);have f1:=r1.frozen j;have f2:=r2.frozen j;have f3:=r3.frozen j;(have hj0:(0:Int)≤j:=by omega);(have hj1:(j:Int)<k:=by omega);obtain ⟨p1,p2,p3,p4,n1,n2,n3,n4,n5,n6⟩:=HD.out
        have n7:=Ne.symm n1;have n8:=Ne.symm n2;have n9:=Ne.symm n3;have n10:=Ne.symm n4;have n11:=Ne.symm n5;have n12:=Ne.symm n6;clear r1 r2 r3 h5 h6 h7;(go_upto_region 5 with fail);go_region
        all_goals (
          go_wp2_with fail
          go_roundw)
        case rel=>exact ⟨j+1,by omega,by go_num,LayNG.step HL.out HD.out⟩
        case measure=>simp [intOf];omega
      · (obtain rfl:j=k:=by omega);have hGV:=LayNG.all HL.out;obtain ⟨p1,p2,p3,p4,-⟩:=HD.out;have hoth:∀ y,y≠w.heap.size→(((wr.setCell ⟨w.heap.size,0,none⟩ (.slice (some ⟨He,0,none⟩) j j)).setCell ⟨w.heap.size,1,none⟩ (.slice (some ⟨Ha,0,none⟩) j j)).setCell ⟨w.heap.size,2,none⟩ (.slice (some ⟨Hl,0,none⟩) j j)).heap[y]?=wr.heap[y]?:=fun y hy=>((Below.heap_setCell _ _ _ _ hy).trans (Below.heap_setCell _ _ _ _ hy)).trans (Below.heap_setCell _ _ _ _ hy);have hfin:(((wr.setCell ⟨w.heap.size,0,none⟩ (.slice (some ⟨He,0,none⟩) j j)).setCell ⟨w.heap.size,1,none⟩ (.slice (some ⟨Ha,0,none⟩) j j)).setCell ⟨w.heap.size,2,none⟩ (.slice (some ⟨Hl,0,none⟩) j j)).heap[w.heap.size]?=some (.cells #[.slice (some ⟨He,0,none⟩) j j,.slice (some ⟨Ha,0,none⟩) j j,.slice (some ⟨Hl,0,none⟩) j j] 189):=qF _ (qF _ (qF _ h6));have HFIN:=Lib.hid hfin;have HRES:=Lib.hid (hGV.of_blocks (hoth He (by omega)) (hoth Ha (by omega)) (hoth Hl (by omega)));have HBEL:=Lib.hid (((h7.setCell (p:=⟨w.heap.size,0,none⟩) (Nat.le_refl _) (.slice (some ⟨He,0,none⟩) j j)).setCell (p:=⟨w.heap.size,1,none⟩) (Nat.le_refl _) (.slice (some ⟨Ha,0,none⟩) j j)).setCell (p:=⟨w.heap.size,2,none⟩) (Nat.le_refl _) (.slice (some ⟨Hl,0,none⟩) j j));have hm0:=q7 h6 0
        have hm1:=q7 h6 1;have hm2:=q7 h6 2;(have hf0:wr.frozen? ⟨w.heap.size,0,none⟩=false:=by unfold World.frozen?;simp [h6]);(have hf1:wr.frozen? ⟨w.heap.size,1,none⟩=false:=by unfold World.frozen?;simp [h6]);(have hf2:wr.frozen? ⟨w.heap.size,2,none⟩=false:=by unfold World.frozen?;simp [h6]);have HP:=Lib.hid (And.intro p1 (And.intro p2 p3));clear r1 r2 r3 h5 h6 h7 hoth hfin hGV p1 p2 p3 p4;(go_wp2_with fail);refine bodyPost_ret (results_cell_row rfl _ _ w.heap.size 189 #[.slice (some ⟨He,0,none⟩) j j,.slice (some ⟨Ha,0,none⟩) j j,.slice (some ⟨Hl,0,none⟩) j j] (0,0) _ (by rfl) HFIN.out Tryz.underlying189 (by rfl) (by kernel_rfl)) rfl ?_
        exact ⟨⟨He,Ha,Hl,rfl,by have:=HP.out;omega,by have:=HP.out;omega,by have:=HP.out;omega,HRES.out⟩,HBEL.out⟩
def ToldG (M G n:Nat) (nx:Nat→List Nat) (b:Nat) (S:Nat→Bool) (R:Nat→List Nat) (op:List Nat) (s':DS) (w:World) (e:Ending) (w':World):Prop :=
  e=.returned (.tuple #[])∧∃ (R':Nat→List Nat) (V':Nat→Value) (vo' vd':Value),BW w' M G n s'.seen R' V' op s'.out vo' vd'∧(∀ x,x<n→s'.seen x=false→R' x=nx x)∧(∀ x,x<n→S x=true→x≠b→R' x=R x)∧BB M G w w'
def lenAt (G b:Nat) (w:World):Nat:=match w.cell? ⟨G,b,none⟩ with
  | some (.slice _ m _)=>m
  | _=>0
theorem lenAt_of {G b m:Nat} {w:World} {A:Option Addr} {c:Nat} (h:w.cell? ⟨G,b,none⟩=some (.slice A m c)):lenAt G b w=m:=by unfold lenAt;rw [h]
def GoOn (M G n F:Nat) (nx:Nat→List Nat):Prop:=∀ (b deep:Nat) (l:List Nat) (S:Nat→Bool) (R:Nat→List Nat) (V:Nat→Value) (op dn:List Nat) (vo vd:Value) (w:World),
  BW w M G n S R V (op++[b]) dn vo vd→b<n→S b=true→R b=l→(∀ x,x<n→S x=false→R x=nx x)→qP n S≤F→deep+F<4096→op.length+F≤900000→dn.length+qP n S≤900000 →
  Calls Tryz.prog 132 #[.int .i64 b,.int .i64 deep,.pointer (some ⟨M,0,none⟩),.pointer (some ⟨M+2,0,none⟩),.pointer (some ⟨M+5,0,none⟩),.pointer (some ⟨M+6,0,none⟩),.pointer (some ⟨M+4,0,none⟩),.pointer (some ⟨M+3,0,none⟩)] w
    (ToldG M G n nx b S R op (rest nx F b l ⟨S,dn⟩) w)
set_option maxRecDepth 100000 in
set_option maxHeartbeats 8000000 in
theorem goOn_step (M G n F:Nat) (nx:Nat→List Nat) (hn:n≤1000000) (hnx:∀ x,∀ t∈nx x,t<n) (ih:∀ F',F=F'+1→GoOn M G n F' nx):GoOn M G n F nx:=by
  intro b deep l S R V op dn vo vd w h hb hSb hRb hun hF hdeep hop hdn;obtain ⟨i0,hi,hz0,hz1,hz2⟩:=info_parts Tryz.info3;have HI:=Lib.hid (And.intro hi (And.intro hz0 (And.intro hz1 hz2)));clear hi hz0 hz1 hz2;have HIH:=Lib.hid ih;have H0:=Lib.hid h;have HUN:=Lib.hid hun;have HSB:=Lib.hid hSb;have HRB:=Lib.hid hRb
  (have hd1:(deep:Int)<4096:=by omega);(have hd2:((deep:Int) == 4096)=false:=by simp;omega);have HF:=Lib.hid hF;have HDN:=Lib.hid hdn;clear ih h hun hSb hRb hF hdn;(go_enter Tryz.func132,Tryz.ntmps132);go_wp2_with fail
  go_loopw [] (fun wr=>∃ (l':List Nat) (S':Nat→Bool) (R':Nat→List Nat) (V':Nat→Value) (vo' vd':Value) (dn':List Nat),BW wr M G n S' R' V' (op++[b]) dn' vo' vd'∧R' b=l'∧S' b=true∧(∀ x,x<n→S' x=false→R' x=nx x)∧qP n S'≤F∧dn'.length+qP n S'≤900000 ∧
    rest nx F b l' ⟨S',dn'⟩=rest nx F b l ⟨S,dn⟩∧(∀ x,x<n→S x=true→x≠b→R' x=R x)∧(∀ x,S x=true→S' x=true)∧BB M G w wr) (fun wr=>lenAt G b wr)
  case atStart=>exact ⟨l,S,R,V,vo,vd,dn,H0.out,HRB.out,HSB.out,HUN.out,HF.out,HDN.out,rfl,fun _ _ _ _=>rfl,fun _ h=>h,BB.refl _ _ _⟩
  case round =>
    obtain ⟨l',S',R',V',vo',vd',dn',hw,hR,hSb,hun,hF,hdn,hrest,hold,hgrow,hbb⟩:=hrel;have HUN':=Lib.hid hun;have HF':=Lib.hid hF;have HDN':=Lib.hid hdn;have HREST:=Lib.hid hrest;have HOLD:=Lib.hid hold;have HGROW:=Lib.hid hgrow;have HBB:=Lib.hid hbb;have HSB':=Lib.hid hSb
    clear hun hF hdn hrest hold hgrow hbb hSb HUN HSB HRB HF HDN H0;have hM:=hw.size;have hgm:=hw.gm;obtain ⟨A,c,hv,hs⟩:=hw.lists b hb;rw [hR] at hv hs;have hrow:=hw.nrow.cell hb;rw [hv] at hrow;have hnb:wr.cell? ⟨M,0,none⟩=some (.slice (some ⟨G,0,none⟩) n n):=q7 hw.nbox 0;have hlen:=hs.len
    rw [qc] at hlen;cases l' with
    | nil =>
      obtain ⟨g,cap,hvo,hlast,hcap,hcm,hpop,hown⟩:=own_pop hw.ownO;subst hvo;have c4:wr.cell? ⟨M+4,0,none⟩=some (.slice (some ⟨g,0,none⟩) (op.length+1) cap):=q7 hw.obox 0;have f4:wr.frozen? ⟨M+4,0,none⟩=false:=qV hw.obox 0;have hnew:=hw.open_ (op':=op) (vo':=.slice (some ⟨g,0,none⟩) op.length cap) (fun _ _=>rfl) (fun _ _=>rfl) hown hw.apart;(have hb1:BB M G wr (wr.setCell ⟨M+4,0,none⟩ (.slice (some ⟨g,0,none⟩) op.length cap)):=(BB.refl M G wr).setCell (.inr (by show M≤M+4;omega)) _);(have hz1:M+6<(wr.setCell ⟨M+4,0,none⟩ (.slice (some ⟨g,0,none⟩) op.length cap)).heap.size:=by simpa using hM);(have hl1:(op.length:Int)≤cap:=by omega);have hop0:op.length<1000000:=by omega
      simp only [List.length_nil] at hrow;clear hlast hown hcap hw hs hv;(go_upto_region 9 with fail);clear hrow hnb c4 f4 hpop;generalize wr.setCell ⟨M+4,0,none⟩ (.slice (some ⟨g,0,none⟩) op.length cap)=w1 at *;have c3:w1.cell? ⟨M+3,0,none⟩=some vd':=q7 hnew.dbox 0;(have HDL:Hid (dn'.length≤900000):=Lib.hid (by have:=HDN'.out;omega));go_wp2_with (at_builtin;refine wpList_append_lies _ rfl (.tmp 58) (.tmp 60) 27 rfl (M+7) 3 i0 (.int .i64 0) 1 8 Tryz.underlying27 HI.out.1 HI.out.2.1 HI.out.2.2.1 HI.out.2.2.2 rfl (by decide) vd' _ _ rfl (hnew.ownD.alloc _) ⟨w1.heap.size,0,none⟩ 1 1 [.int .i64 b] rfl rfl ?c1 ?c2 ?c0 ?c3 ?c4 ?c5 (w1.heap.size+1) ?c6 ?_)
      case c1=>exact qi w1 _ _ rfl
      case c2=>exact ints_oneCell .i64 [(b:Int)]
      case c0=>omega
      case c3=>have:=HDL.out;unfold maxLen;omega
      case c4=>have:=HDL.out;omega
      case c5=>simp;omega
      case c6=>simp
      intro g2 cap2 w2 hown2 hgrow hloc hlt;(have hk:∀ k,k<w1.heap.size→some k≠vd'.ownBlock→w2.heap[k]?=w1.heap[k]?:=fun k hk hne=>(hgrow.block k (by simp;omega) hne).trans (Below.heap_alloc _ _ _ hk));have hlow:∀ k,k<M+7→w2.heap[k]?=w1.heap[k]?:=fun k hk'=>hk k (by omega) (fun e=>by have:=(hnew.ownD.lt k e.symm).1;omega)
      have hfin:=hnew.done_ (dn':=dn'++[b]) (vd':=.slice (some ⟨g2,0,none⟩) (dn'.length+1) cap2) hlow (fun x hx=>hk x (hnew.ownO.lt x hx).2 (fun e=>by
          rcases hnew.apart with h | h
          · rw [h] at hx;cases hx
          · exact h (hx.trans e))) (by simpa [zs] using hown2) (by
        right;intro e;have hgo:(Value.slice (some ⟨g,0,none⟩) op.length cap).ownBlock=some g2:=e;rcases hloc with h | h
        · rcases hnew.apart with h2 | h2
          · rw [h2] at hgo;cases hgo
          · exact h2 (hgo.trans h.symm)
        · have:=(hnew.ownO.lt g2 hgo).2;omega)
      have d3:w2.cell? ⟨M+3,0,none⟩=some vd':=(World.cell?_of_block (a:=⟨M+3,0,none⟩) (hlow (M+3) (by omega))).trans c3;have f3:w2.frozen? ⟨M+3,0,none⟩=false:=qV ((hlow (M+3) (by omega)).trans hnew.dbox) 0;(have hbb2:BB M G w w2:=((HBB.out.trans hb1).alloc (by omega) _).grown hgrow (by simp;omega) (fun k hk=>.inr (by have:=(hnew.ownD.lt k hk).1;omega)));have HN:=Lib.hid hfin;have HB2:=Lib.hid hbb2;clear hown2 hgrow hloc hk hlow hfin hbb2 hnew c3 hb1;(go_wp2_with fail);(go_end0);refine ⟨rfl,R',V',.slice (some ⟨g,0,none⟩) op.length cap,.slice (some ⟨g2,0,none⟩) (dn'.length+1) cap2,?_,?_,HOLD.out,HB2.out.setCell (.inr (by show M≤M+3;omega)) _⟩
      · rw [← HREST.out,rest_nil];exact HN.out
      · rw [← HREST.out,rest_nil];exact HUN'.out
    | cons t l' =>
      obtain ⟨A',c',hcut,hs'⟩:=cut_first (x:=(t:Int)) (xs:=zs l') hs;obtain ⟨b1,o1,x,rfl,hx,hxb,hxc,hx64⟩:=hs.at_ (k:=0) (by simp [zs]);(obtain rfl:x=(t:Int):=by have:=hx.out;simp [zs] at this;exact this.symm);rw [Nat.zero_mul,Nat.add_zero] at hxc;rw [qc] at hcut;have hfr:=hw.nrow.frozen b;(have htn:t<n:=hw.inR b hb t (by rw [hR];simp));obtain ⟨w1,hw1⟩:∃ w1,w1=(wr.setCell ⟨G,b,none⟩ (.slice A' l'.length c')).drew:=⟨_,rfl⟩;have hnew:BW w1 M G n S' (fun x=>if x=b then l' else R' x) (fun x=>if x=b then .slice A' l'.length c' else V' x) (op++[b]) dn' vo' vd':=by
        rw [hw1];exact (hw.next_ (b:=b) (l:=l') (A:=A') (c:=c') (fun y hy=>hw.inR b hb y (by rw [hR];simp [hy])) hs').drewN 1
      (have hb1:BB M G wr w1:=by rw [hw1];exact ((BB.refl M G wr).setCell (.inl rfl) _).drew);(have hz1:M+6<w1.heap.size:=by rw [hw1];simpa [World.drew] using hM);have HLN:Hid (lenAt G b wr=l'.length+1):=Lib.hid (lenAt_of hrow);simp only [List.length_cons] at hrow hlen;(have hbn:(b:Int)<n:=by omega);(have hb0:(0:Int)≤b:=by omega);(have hc0:(0:Int)<((l'.length:Int)+1):=by omega);clear hw hs hv hs' hx hxb;go_upto_region 3 with fail
      (go_still_tail 8,(by kernel_rfl));change wpList _ _ _ _ _ wr.drew;(go_upto_region 4 with fail);rw [← hw1];clear hw1 hrow hnb hfr hcut hxc hlen hM;have HNEW:=Lib.hid hnew;have HBB1:Hid (BB M G w w1):=Lib.hid (HBB.out.trans hb1);have hgb:w1.cell? ⟨M+2,0,none⟩=some (.slice (some ⟨M+1,0,none⟩) n n):=q7 hnew.gbox 0;have hgt:=hnew.grow.cell htn
      (have ht0:(0:Int)≤t:=by omega);(have ht1:(t:Int)<n:=by omega);cases hst:S' t
      · rw [hst] at hgt;have HST:=Lib.hid hst;have heb:w1.cell? ⟨M+5,0,none⟩=some (.func (.func 131) #[] #[.pointer (some ⟨M+2,0,none⟩),.pointer (some ⟨M+4,0,none⟩)]):=q7 hnew.ebox 0;have hpos:0<qP n S':=unseen_pos hst htn;(have hopl:(op++[b]).length≤1000000:=by simp;omega);(obtain ⟨F',hF'⟩:∃ F',F=F'+1:=⟨F - 1,by have:=HF'.out;omega⟩);have HFF:=Lib.hid hF';have HPOS:=Lib.hid hpos;have HOPL:=Lib.hid hopl
        clear hst hpos hF' hnew hb1 hopl;(go_wp2_with fail);refine (enterG_any M G n t _ _ _ _ _ _ _ w1 HNEW.out htn hn HOPL.out).mono ?_;rintro e w2 ⟨rfl,⟨vo2,hw2⟩,hbb2⟩;have hrb:w2.cell? ⟨M+6,0,none⟩=some (.func (.func 132) #[] #[.pointer (some ⟨M,0,none⟩),.pointer (some ⟨M+2,0,none⟩),.pointer (some ⟨M+5,0,none⟩),.pointer (some ⟨M+6,0,none⟩),.pointer (some ⟨M+4,0,none⟩),.pointer (some ⟨M+3,0,none⟩)]):=q7 hw2.rbox 0;have HW2:=Lib.hid hw2;have HBB2:Hid (BB M G w w2):=Lib.hid (HBB1.out.trans hbb2);clear hgt hgb heb hw2 hbb2;have htb:t≠b:=fun e=>by have h1:=HST.out;rw [e,HSB'.out] at h1;cases h1
        have HTB:=Lib.hid htb;have hum:=qy HST.out htn
        have HC:Hid (Calls Tryz.prog 132 #[.int .i64 t,.int .i64 ((deep:Int)+1),.pointer (some ⟨M,0,none⟩),.pointer (some ⟨M+2,0,none⟩),.pointer (some ⟨M+5,0,none⟩),.pointer (some ⟨M+6,0,none⟩),.pointer (some ⟨M+4,0,none⟩),.pointer (some ⟨M+3,0,none⟩)] w2 (ToldG M G n nx t (mark S' t) (fun x=>if x=b then l' else R' x) (op++[b]) (rest nx F' t (nx t) ⟨mark S' t,dn'⟩) w2)):=Lib.hid (by
          have:=HIH.out F' HFF.out t (deep+1) (nx t) (mark S' t) (fun x=>if x=b then l' else R' x) _ (op++[b]) dn' vo2 vd' w2 HW2.out htn (mark_same _ _) (by rw [if_neg htb];exact HUN'.out t htn HST.out)
            (fun x hx hm=>by
              have hxs:S' x=false:=by
                cases h:S' x
                · rfl
                · rw [mark_of h] at hm;cases hm
              rw [if_neg (fun e=>by rw [e,HSB'.out] at hxs;cases hxs)];exact HUN'.out x hx hxs)
            (by have:=HF'.out;have:=HFF.out;omega) (by have:=HFF.out;omega) (by have:=HFF.out;simp;omega) (by have:=HDN'.out;omega)
          rwa [show (((deep+1:Nat):Int))=(deep:Int)+1 by push_cast;rfl] at this)
        have HVIS:Hid (rest nx F' t (nx t) ⟨mark S' t,dn'⟩=visit nx F t ⟨S',dn'⟩):=Lib.hid (by rw [HFF.out,visit_succ]);clear htb hum;(go_wp2_with fail);refine HC.out.mono ?_;rintro e w3 ⟨rfl,R'',V'',vo'',vd'',hw3,hun3,hold3,hbb3⟩;have HLV:=Lib.hid (len_visit hnx F t ⟨S',dn'⟩ htn HST.out HF'.out)
        have HGV:Hid (∀ x,S' x=true→(visit nx F t ⟨S',dn'⟩).seen x=true):=Lib.hid (by
          obtain ⟨e,he,_⟩:=went_visit hnx F t ⟨S',dn'⟩ htn HST.out HF'.out
          exact he.grows)
        rw [← HVIS.out] at HLV HGV;have HVIS2:Hid (rest nx F b l' (rest nx F' t (nx t) ⟨mark S' t,dn'⟩)=rest nx F b l ⟨S,dn⟩):=Lib.hid (by rw [← HREST.out,rest_new _ _ _ _ _ _ HST.out,HVIS.out]);generalize rest nx F' t (nx t) ⟨mark S' t,dn'⟩=s' at *;have HUN3:=Lib.hid hun3;have HOLD3:=Lib.hid hold3;have HBB3:=Lib.hid hbb3;have HW3:=Lib.hid hw3;obtain ⟨g3,cap3,hvo3,hlast3,hcap3,hcm3,-,-⟩:=own_pop hw3.ownO;subst hvo3
        have hob:w3.cell? ⟨M+4,0,none⟩=some (.slice (some ⟨g3,0,none⟩) (op.length+1) cap3):=q7 hw3.obox 0;(have hbb':((b:Int) != b)=false:=by simp);(have hop0:op.length<1000000:=by omega);have hRb:R'' b=l':=by
          have:=HOLD3.out b hb (mark_of HSB'.out) (fun e=>HTB.out e.symm);rw [this];simp
        have HRB:=Lib.hid hRb
        have hln:Hid (lenAt G b w3<lenAt G b wr):=Lib.hid (by
          obtain ⟨A3,c3,e3,-⟩:=hw3.lists b hb;have h1:=hw3.nrow.cell hb;rw [e3,hRb] at h1
          rw [HLN.out,lenAt_of h1];omega)
        clear hw3 hun3 hold3 hbb3 hrb hRb HC;go_wp2_with fail
        go_roundw
        case rel=>exact ⟨l',s'.seen,R'',V'',_,vd'',s'.out,HW3.out,HRB.out,HGV.out b HSB'.out,HUN3.out,by have:=HLV.out.2;omega,by have:=HLV.out.1;have:=HDN'.out;exact Nat.le_trans (Nat.le_of_eq HLV.out.1) HDN'.out,HVIS2.out,
          fun x hx h1 h2=>by
            rw [HOLD3.out x hx (mark_of (HGROW.out x h1)) (fun e=>by have h3:=HST.out;rw [← e,HGROW.out x h1] at h3;cases h3),if_neg h2];exact HOLD.out x hx h1 h2,
          fun x h1=>HGV.out x (HGROW.out x h1),HBB2.out.trans HBB3.out⟩
        case measure=>exact hln.out
      · rw [hst] at hgt;have HST:=Lib.hid hst
        have hln:Hid (lenAt G b w1<lenAt G b wr):=Lib.hid (by
          have h1:=hnew.nrow.cell hb;simp only [if_true] at h1
          rw [HLN.out,lenAt_of h1];omega)
        have HREST2:Hid (rest nx F b l' ⟨S',dn'⟩=rest nx F b l ⟨S,dn⟩):=Lib.hid (by rw [← HREST.out,rest_seen _ _ _ _ _ _ hst]);clear hst hnew hb1;go_wp2_with fail
        go_roundw
        case rel=>exact ⟨l',S',_,_,vo',vd',dn',HNEW.out,by simp,HSB'.out,fun x hx hs=>by
            rw [if_neg (fun e=>by rw [e,HSB'.out] at hs;cases hs)];exact HUN'.out x hx hs,HF'.out,HDN'.out,HREST2.out,fun x hx h1 h2=>by rw [if_neg h2];exact HOLD.out x hx h1 h2,HGROW.out,HBB1.out⟩
        case measure=>exact hln.out
theorem goOn_any (M G n:Nat) (nx:Nat→List Nat) (hn:n≤1000000) (hnx:∀ x,∀ t∈nx x,t<n):∀ F:Nat,GoOn M G n F nx
  | 0=>goOn_step M G n 0 nx hn hnx (fun F' h=>by omega)
  | F+1=>goOn_step M G n (F+1) nx hn hnx (fun F' h=>by (obtain rfl:F=F':=by omega);exact goOn_any M G n nx hn hnx F)
theorem boxes7 (w:World) (M:Nat) (hM:M=w.heap.size) (o0 o1 o2 o3 o4 o5 o6:Obj) (W:World) (hW:W=((((((w.alloc o0).alloc o1).alloc o2).alloc o3).alloc o4).alloc o5).alloc o6) :
    W.heap[M]?=some o0∧W.heap[M+1]?=some o1∧W.heap[M+2]?=some o2∧W.heap[M+3]?=some o3∧W.heap[M+4]?=some o4∧W.heap[M+5]?=some o5∧W.heap[M+6]?=some o6∧W.heap.size=M+7∧Below M w W:=by
  subst hM hW;(have hz (u:World) (o:Obj):(u.alloc o).heap.size=u.heap.size+1:=by simp);have hg (u:World) (o:Obj) (k:Nat):(u.alloc o).heap[k]?=if k=u.heap.size then some o else u.heap[k]?:=by
    show (u.heap.push o)[k]?=_;rw [Array.getElem?_push]
  refine ⟨?_,?_,?_,?_,?_,?_,?_,?_,?_⟩
  · (simp only [hg,hz];repeat rw [if_neg (by omega)]);exact if_pos (by first | trivial | omega)
  · (simp only [hg,hz];repeat rw [if_neg (by omega)]);exact if_pos (by first | trivial | omega)
  · (simp only [hg,hz];repeat rw [if_neg (by omega)]);exact if_pos (by first | trivial | omega)
  · (simp only [hg,hz];repeat rw [if_neg (by omega)]);exact if_pos (by first | trivial | omega)
  · (simp only [hg,hz];repeat rw [if_neg (by omega)]);exact if_pos (by first | trivial | omega)
  · (simp only [hg,hz];repeat rw [if_neg (by omega)]);exact if_pos (by first | trivial | omega)
  · (simp only [hg,hz];repeat rw [if_neg (by omega)]);exact if_pos (by first | trivial | omega)
  · simp [hz]
  · refine (((((((Below.refl _ w).alloc ?_ _).alloc ?_ _).alloc ?_ _).alloc ?_ _).alloc ?_ _).alloc ?_ _).alloc ?_ _;all_goals (simp [hz];try omega)
theorem doneL_rest (nx:Nat→List Nat) {n:Nat} (hn:n≠0):rest nx (n - 1) 0 (nx 0) ⟨mark qZ 0,[]⟩=visit nx n 0 ⟨qZ,[]⟩:=by
  obtain ⟨m,rfl⟩:∃ m,n=m+1:=⟨n - 1,by omega⟩
  rfl
theorem doneL_out (nx:Nat→List Nat) {n:Nat} (hn:n≠0):doneL nx n=(visit nx n 0 ⟨qZ,[]⟩).out:=by unfold doneL;rw [if_neg hn]
set_option maxRecDepth 100000 in
set_option maxHeartbeats 8000000 in
theorem backwards_any (G K n:Nat) (V:Nat→Value) (nx:Nat→List Nat) (w:World) (h:Gri w G K n V (fun i=>zs (nx i))) (hn:n≤1000) (hnx:∀ x,∀ t∈nx x,t<n) :
    Calls Tryz.prog 98 #[.slice (some ⟨G,0,none⟩) n n] w fun e w'=>(∃ vd,e=.returned vd∧w'.ownsRow w.heap.size 3 1 vd (doneL nx n).length ((zs (doneL nx n)).map (Value.int .i64)))∧BB w.heap.size G w w':=by
  by_cases hn0:n=0
  · subst hn0;have e:doneL nx 0=[]:=rfl;rw [e];(go_enter Tryz.func98,Tryz.ntmps98);(go_wp2_with fail);(go_ret);exact ⟨⟨_,rfl,World.ownsRow_nil _ _ _ _⟩,(BB.refl _ _ _).alloc (Nat.le_refl _) _⟩
  · (have hpos:0<n:=by omega);(have hne:((n:Int) == 0)=false:=by simp;omega);have hmf:∀ (fn:Fn) (first cap:Array Value) (w:World),(Instr.makeFunc fn first cap).run Tryz.prog w=.ok (.func fn first cap) w:=fun _ _ _ _=>rfl;have hmk:=run_make_row' (P:=Tryz.prog) 64 4 (.bool false) 1 Tryz.underlying64 Tryz.info4 rfl .i64 .i64 n (by omega) (by omega);clear hn0;(go_enter Tryz.func98,Tryz.ntmps98);(go_upto_region 8 with fail);clear hmk hmf;obtain ⟨M,hM⟩:∃ M,M=w.heap.size:=⟨_,rfl⟩
    rw [← hM]
    obtain ⟨W,hW⟩:∃ W,W=((((((w.alloc (.cells #[.slice (some ⟨G,0,none⟩) n n] 65)).alloc (.cells (madeCells #[.bool false] n) 4)).alloc (.cells #[.slice (some ⟨M+1,0,none⟩) n n] 64)).alloc (.cells #[.slice none 0 0] 27)).alloc (.cells #[.slice none 0 0] 27)).alloc
      (.cells #[.func (.func 131) #[] #[.pointer (some ⟨M+1+1,0,none⟩),.pointer (some ⟨M+1+1+1+1,0,none⟩)]] 191)).alloc
      (.cells #[.func (.func 132) #[] #[.pointer (some ⟨M,0,none⟩),.pointer (some ⟨M+1+1,0,none⟩),.pointer (some ⟨M+1+1+1+1+1,0,none⟩),.pointer (some ⟨M+1+1+1+1+1+1,0,none⟩),.pointer (some ⟨M+1+1+1+1,0,none⟩),.pointer (some ⟨M+1+1+1,0,none⟩)]] 182):=⟨_,rfl⟩
    rw [← hW];obtain ⟨b0,b1,b2,b3,b4,b5,b6,hsz,hbel⟩:=boxes7 w M hM _ _ _ _ _ _ _ W hW;clear hW;(have hGM:G<M:=by rw [hM];exact h.row.lt);have hbw:BW W M G n qZ nx V [] [] (.slice none 0 0) (.slice none 0 0):=by
      refine ⟨b0,b2,b3,b4,b5,b6,⟨_,b1,size_madeCells _ _,fun i hi=>?_⟩,h.row.of_block (hbel.block G hGM),fun x hx=>?_,World.ownsRow_nil _ _ _ _,World.ownsRow_nil _ _ _ _,.inl rfl,fun x _=>hnx x,hGM⟩
      · simp [madeCells,hi,Nat.mod_one,qZ]
      · (have hg:=h.below (w':=W) (by rw [← hM];exact hbel));(obtain ⟨A,c,e,hs⟩:=slB_of_own (h.own x hx) (fun y hy=>by obtain ⟨q,hq,rfl⟩:=zs_mem hy;have:=hnx x q hq;unfold I64;omega) (B:=fun b=>b<M∧b≠G) (fun g h1 h2=>⟨by omega,fun e=>by have:=h.lt;omega⟩));rw [qc] at e;exact ⟨A,c,e,SIntsB.go (fun a v hb ha=>(World.cell?_of_block (hbel.block _ hb.1)).trans ha) (fun _ hb=>hb) hs⟩
    have HBEL:Hid (BB M G w W):=Lib.hid (BB.of_below hbel (Nat.le_refl _));have heb:W.cell? ⟨M+1+1+1+1+1,0,none⟩=some (.func (.func 131) #[] #[.pointer (some ⟨M+1+1,0,none⟩),.pointer (some ⟨M+1+1+1+1,0,none⟩)]):=q7 b5 0;have HE:=Lib.hid (enterG_any M G n 0 qZ nx V [] [] _ _ W hbw hpos (by omega) (by simp));have HMW:=Lib.hid hM;clear b0 b1 b2 b3 b4 b5 b6 hsz hbel hbw hM;(go_wp2_with fail);refine HE.out.mono ?_;rintro e w2 ⟨rfl,⟨vo,hw2⟩,hbb2⟩;have HB2:Hid (BB M G w w2):=Lib.hid (HBEL.out.trans hbb2)
    have HW2:=Lib.hid hw2;clear heb HE HBEL hw2 hbb2;go_wp2_with fail
    go_loopw [] (fun wr=>((∃ vo vd,BW wr M G n (mark qZ 0) nx V [0] [] vo vd)∨(∃ S R V' vo vd,BW wr M G n S R V' [] (doneL nx n) vo vd))∧BB M G w wr) (fun wr=>lenAt (M+4) 0 wr)
    case atStart=>exact ⟨.inl ⟨_,_,HW2.out⟩,HB2.out⟩
    case round =>
      obtain ⟨hor,hbb⟩:=hrel;have HBB:=Lib.hid hbb;clear hbb HW2 HB2;rcases hor with ⟨vo,vd,hw⟩ | ⟨S,R,V',vo,vd,hw⟩
      · have HW:=Lib.hid hw;obtain ⟨g,cap,hvo,hlast,hcap,hcm,-,-⟩:=own_pop (xs:=[]) (x:=0) hw.ownO;subst hvo;have hob:wr.cell? ⟨M+1+1+1+1,0,none⟩=some (.slice (some ⟨g,0,none⟩) 1 cap):=q7 hw.obox 0;have hrb:wr.cell? ⟨M+1+1+1+1+1+1,0,none⟩=some (.func (.func 132) #[] #[.pointer (some ⟨M,0,none⟩),.pointer (some ⟨M+1+1,0,none⟩),.pointer (some ⟨M+1+1+1+1+1,0,none⟩),.pointer (some ⟨M+1+1+1+1+1+1,0,none⟩),.pointer (some ⟨M+1+1+1+1,0,none⟩),.pointer (some ⟨M+1+1+1,0,none⟩)]):=q7 hw.rbox 0;have hob':wr.cell? ⟨M+4,0,none⟩=some (.slice (some ⟨g,0,none⟩) 1 cap):=hob;have hrb':wr.cell? ⟨M+6,0,none⟩=some (.func (.func 132) #[] #[.pointer (some ⟨M,0,none⟩),.pointer (some ⟨M+1+1,0,none⟩),.pointer (some ⟨M+1+1+1+1+1,0,none⟩),.pointer (some ⟨M+1+1+1+1+1+1,0,none⟩),.pointer (some ⟨M+1+1+1+1,0,none⟩),.pointer (some ⟨M+1+1+1,0,none⟩)]):=hrb;have hl0:wr.cell? ⟨g,0,none⟩=some (.int .i64 0):=hlast;have hun:=qy (S:=qZ) (b:=0) rfl hpos
        have hul:=unseen_le n qZ;(have HG:=Lib.hid (goOn_any M G n nx (by omega) hnx (n - 1) 0 0 (nx 0) (mark qZ 0) nx V [] [] _ _ wr.drew (hw.drewN 1) hpos (mark_same _ _) rfl (fun _ _ _=>rfl) (by omega) (by omega) (by simp;omega) (by simp;omega)));have HL:Hid (lenAt (M+4) 0 wr=1):=Lib.hid (lenAt_of hob);clear hw hlast hun hul;(go_upto_region 10 with fail);(have hw0:IntKind.i64.wrap (0:Int)=0:=by decide);(go_still_tail 7,(by kernel_rfl));change wpList _ _ _ _ _ wr.drew;go_wp2_with fail
        refine HG.out.mono ?_;rintro e w3 ⟨rfl,R',V',vo',vd',hw3,-,-,hbb3⟩;rw [doneL_rest nx (by omega),← doneL_out nx (by omega)] at hw3;have HW3:=Lib.hid hw3
        have HM:Hid (lenAt (M+4) 0 w3<lenAt (M+4) 0 wr):=Lib.hid (by
          rcases hw3.ownO.2 with ⟨e,_⟩ | ⟨g3,c3,cur3,e,_⟩
          · have h1:w3.cell? ⟨M+4,0,none⟩=some vo':=q7 hw3.obox 0;rw [e] at h1;rw [HL.out,lenAt_of h1];omega
          · have h1:w3.cell? ⟨M+4,0,none⟩=some vo':=q7 hw3.obox 0;rw [e] at h1
            rw [HL.out,lenAt_of h1];simp)
        have HB3:Hid (BB M G w w3):=Lib.hid (HBB.out.trans ((BB.refl M G wr).drew.trans hbb3));clear hw3 hbb3 hob hrb hob' hrb' hl0 HG;go_wp2_with fail
        go_roundw
        case rel=>exact ⟨.inr ⟨_,_,_,_,_,HW3.out⟩,HB3.out⟩
        case measure=>exact HM.out
      · have HW:=Lib.hid hw;have h1:wr.cell? ⟨M+1+1+1+1,0,none⟩=some vo:=q7 hw.obox 0;have h2:wr.cell? ⟨M+1+1+1,0,none⟩=some vd:=q7 hw.dbox 0;have hown:=own_base hw.ownD (base':=M) (by omega);have hvo:∃ A c,vo=.slice A 0 c:=by
          rcases hw.ownO.2 with ⟨e,_⟩ | ⟨g3,c3,cur3,e,_⟩
          · exact ⟨_,_,e⟩
          · exact ⟨_,_,e⟩
        obtain ⟨A,c,rfl⟩:=hvo;have HO:=Lib.hid hown;clear hw hown;(go_wp2_with fail);(go_ret);exact ⟨⟨_,rfl,by rw [← HMW.out];exact HO.out⟩,by rw [← HMW.out];exact HBB.out⟩
end Go.Proofs.YtfoggldjjnabcaaGreatDoor
