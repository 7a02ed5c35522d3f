/- The program's newGrove: three rows, each place hanging below none. -/
import Derived.Test.YtfoggldjjnabcaaDmGJ
import Derived.Test.YtfoggldjjnabcaaInfBJ
import Derived.Test.YtfoggldjjnabcaaSpecJ
import Derived.Deep.DeepCutAuto
import Derived.Deep.LoopGhost
import Derived.StillTailTactics
import Derived.Laws.ResultCell
import Derived.Test.YtfoggldjjnabcaaGrNmJ
import Derived.Test.YtfoggldjjnabcaaDmTJ
import Derived.BigQuiet
import Derived.Test.YtfoggldjjnabcaaGrYJ
namespace Go.Proofs.Ytfoggldjjnabcaa
open Go.ChangeShapes Go.WideShapes Go.RowKit Go.Deep
set_option linter.unusedVariables false
structure GvM (w:World) (k He Ha Hl:Nat) (early least:Nat→Nat) (above:Nat→Int):Prop where
  e:w.rowIs He 3 k (fun v=>.int .i64 (early v:Int))
  a:w.rowIs Ha 3 k (fun v=>.int .i64 (above v))
  l:w.rowIs Hl 3 k (fun v=>.int .i64 (least v:Int))
  ne:He≠Ha∧He≠Hl∧Ha≠Hl
def ToldNG (k:Nat) (w:World) (e:Ending) (w':World):Prop :=
  (∃ He Ha Hl,e=.returned (.agg #[.slice (some ⟨He,0,none⟩) k k,.slice (some ⟨Ha,0,none⟩) k k,.slice (some ⟨Hl,0,none⟩) k k])∧w.heap.size≤He∧w.heap.size≤Ha∧w.heap.size≤Hl∧GvM w' k He Ha Hl (fun v=>v) (fun v=>v) (fun _=>-1))∧Below w.heap.size w w'
theorem boxes5 (w:World) (M:Nat) (hM:M=w.heap.size) (o0 o1 o2 o3 o4:Obj) (W:World) (hW:W=(((((w.alloc o0).alloc o1).alloc o2).alloc o3).alloc o4).drew) :
    W.heap[M]?=some o0∧W.heap[M+1]?=some o1∧W.heap[M+1+1]?=some o2∧W.heap[M+1+1+1]?=some o3∧W.heap[M+1+1+1+1]?=some o4∧W.heap.size=M+5∧Below M w W:=by
  subst hM hW;(have hz (u:World) (o:Obj):(u.alloc o).heap.size=u.heap.size+1:=by simp);have hg (u:World) (o:Obj) (k:Nat):(u.alloc o).heap[k]?=if k=u.heap.size then some o else u.heap[k]?:=by
    show (u.heap.push o)[k]?=_;rw [Array.getElem?_push]
  have hd (u:World) (k:Nat):u.drew.heap[k]?=u.heap[k]?:=rfl;refine ⟨?_,?_,?_,?_,?_,?_,?_⟩
  · (rw [hd];simp only [hg,hz];repeat rw [if_neg (by omega)]);exact if_pos (by first | trivial | omega)
  · (rw [hd];simp only [hg,hz];repeat rw [if_neg (by omega)]);exact if_pos (by first | trivial | omega)
  · (rw [hd];simp only [hg,hz];repeat rw [if_neg (by omega)]);exact if_pos (by first | trivial | omega)
  · (rw [hd];simp only [hg,hz];repeat rw [if_neg (by omega)]);exact if_pos (by first | trivial | omega)
  · (rw [hd];simp only [hg,hz];repeat rw [if_neg (by omega)]);exact if_pos (by first | trivial | omega)
  · show (((((w.alloc o0).alloc o1).alloc o2).alloc o3).alloc o4).heap.size=_;simp [hz]
  · refine Below.drew ?_;refine (((((Below.refl _ w).alloc ?_ _).alloc ?_ _).alloc ?_ _).alloc ?_ _).alloc ?_ _;all_goals (simp [hz];try omega)
def MkNG (k:Nat) (w:World) (He Ha Hl Hg:Nat) (wc:World):Prop :=
  wc.heap[Hg]?=some (.cells #[.slice (some ⟨He,0,none⟩) k k,.slice (some ⟨Ha,0,none⟩) k k,.slice (some ⟨Hl,0,none⟩) k k] 117) ∧
  wc.heap[He]?=some (.cells (madeCells #[.int .i64 0] k) 3)∧wc.heap[Ha]?=some (.cells (madeCells #[.int .i64 0] k) 3)∧wc.heap[Hl]?=some (.cells (madeCells #[.int .i64 0] k) 3) ∧
  wc.heap[w.heap.size]?=some (.cells #[.slice none 0 0,.slice none 0 0,.slice none 0 0] 117) ∧
  (w.heap.size<He∧w.heap.size<Ha∧w.heap.size<Hl∧w.heap.size<Hg∧He≠Ha∧He≠Hl∧Ha≠Hl∧Hg≠He∧Hg≠Ha∧Hg≠Hl)∧Below w.heap.size w wc
def WcNG (k:Nat) (w:World) (s3:Value) (wc:World):Prop:=∃ He Ha Hl Hg:Nat,s3=.pointer (some ⟨Hg,0,none⟩)∧MkNG k w He Ha Hl Hg wc
theorem leafNG {k:Nat} {w W:World} {s3:Value} {o0 o1 o2 o3 o4:Obj} (hW:W=(((((w.alloc o0).alloc o1).alloc o2).alloc o3).alloc o4).drew)
    (f:(W.heap[w.heap.size]?=some o0∧W.heap[w.heap.size+1]?=some o1∧W.heap[w.heap.size+1+1]?=some o2∧W.heap[w.heap.size+1+1+1]?=some o3∧W.heap[w.heap.size+1+1+1+1]?=some o4∧W.heap.size=w.heap.size+5∧Below w.heap.size w W)→WcNG k w s3 W):WcNG k w s3 W :=
  f (boxes5 w w.heap.size rfl o0 o1 o2 o3 o4 W hW)
def LayNG (k:Nat) (w:World) (He Ha Hl Hg j:Nat) (wr:World):Prop :=
  GvM wr k He Ha Hl (fun v=>if v<j then v else 0) (fun v=>if v<j then v else 0) (fun v=>if v<j then -1 else 0) ∧
  wr.heap[Hg]?=some (.cells #[.slice (some ⟨He,0,none⟩) k k,.slice (some ⟨Ha,0,none⟩) k k,.slice (some ⟨Hl,0,none⟩) k k] 117) ∧
  wr.heap[w.heap.size]?=some (.cells #[.slice none 0 0,.slice none 0 0,.slice none 0 0] 117)∧Below w.heap.size w wr
theorem row_made {w:World} {H k:Nat} (h:w.heap[H]?=some (.cells (madeCells #[.int .i64 0] k) 3)):w.rowIs H 3 k (fun _=>.int .i64 0) :=
  ⟨_,h,size_madeCells _ _,fun i hi=>by simp [madeCells,hi,Nat.mod_one]⟩
theorem LayNG.start {k:Nat} {w wc:World} {He Ha Hl Hg:Nat} (h:MkNG k w He Ha Hl Hg wc):LayNG k w He Ha Hl Hg 0 wc:=by
  obtain ⟨h1,h2,h3,h4,h5,⟨_,_,_,_,n1,n2,n3,_⟩,h7⟩:=h;exact ⟨⟨(row_made h2).congr fun _ _=>rfl,(row_made h3).congr fun _ _=>rfl,(row_made h4).congr fun _ _=>rfl,n1,n2,n3⟩,h1,h5,h7⟩
theorem LayNG.step {k:Nat} {w wr:World} {He Ha Hl Hg j:Nat} (h:LayNG k w He Ha Hl Hg j wr)
    (hn:w.heap.size<He∧w.heap.size<Ha∧w.heap.size<Hl∧w.heap.size<Hg∧He≠Ha∧He≠Hl∧Ha≠Hl∧Hg≠He∧Hg≠Ha∧Hg≠Hl) :
    LayNG k w He Ha Hl Hg (j+1) (((wr.setCell ⟨He,j,none⟩ (.int .i64 (j:Int))).setCell ⟨Ha,j,none⟩ (.int .i64 (-1))).setCell ⟨Hl,j,none⟩ (.int .i64 (j:Int))).drew:=by
  obtain ⟨p1,p2,p3,p4,n1,n2,n3,n4,n5,n6⟩:=hn;obtain ⟨⟨h1,h2,h3,h4⟩,h5,h6,h7⟩:=h;have hs:∀ (u:World) (H i k:Nat) (v:Value),k≠H→(u.setCell ⟨H,i,none⟩ v).heap[k]?=u.heap[k]?:=fun u H i k v hk=>Below.heap_setCell _ _ _ _ hk;have rd:∀ (u:World) (H:Nat) (f:Nat→Value),u.rowIs H 3 k f→u.drew.rowIs H 3 k f:=fun _ _ _ h=>h;have r1:=((h1.set j (.int .i64 (j:Int))).of_block (hs _ Ha j He (.int .i64 (-1)) n1)).of_block (hs _ Hl j He (.int .i64 (j:Int)) n2);have r2:=((h2.of_block (hs _ He j Ha (.int .i64 (j:Int)) n1.symm)).set j (.int .i64 (-1))).of_block (hs _ Hl j Ha (.int .i64 (j:Int)) n3);have r3:=((h3.of_block (hs _ He j Hl (.int .i64 (j:Int)) n2.symm)).of_block (hs _ Ha j Hl (.int .i64 (-1)) n3.symm)).set j (.int .i64 (j:Int));refine ⟨⟨?_,?_,?_,h4⟩,?_,?_,?_⟩
  · refine (rd _ _ _ r1).congr fun v _=>?_
    by_cases e:v=j
    · simp [e]
    · simp only [if_neg e];by_cases e2:v<j
      · rw [if_pos e2,if_pos (by omega)]
      · rw [if_neg e2,if_neg (by omega)]
  · refine (rd _ _ _ r2).congr fun v _=>?_
    by_cases e:v=j
    · simp [e]
    · simp only [if_neg e];by_cases e2:v<j
      · rw [if_pos e2,if_pos (by omega)]
      · rw [if_neg e2,if_neg (by omega)]
  · refine (rd _ _ _ r3).congr fun v _=>?_
    by_cases e:v=j
    · simp [e]
    · simp only [if_neg e];by_cases e2:v<j
      · rw [if_pos e2,if_pos (by omega)]
      · rw [if_neg e2,if_neg (by omega)]
  · exact (hs _ Hl j Hg _ n6).trans ((hs _ Ha j Hg _ n5).trans ((hs _ He j Hg _ n4).trans h5))
  · exact (hs _ Hl j _ _ (by omega)).trans ((hs _ Ha j _ _ (by omega)).trans ((hs _ He j _ _ (by omega)).trans h6))
  · exact (((h7.setCell (p:=⟨He,j,none⟩) (by show _≤He;omega) _).setCell (p:=⟨Ha,j,none⟩) (by show _≤Ha;omega) _).setCell (p:=⟨Hl,j,none⟩) (by show _≤Hl;omega) _).drew
theorem LayNG.all {k:Nat} {w wr:World} {He Ha Hl Hg:Nat} (h:LayNG k w He Ha Hl Hg k wr):GvM wr k He Ha Hl (fun v=>v) (fun v=>v) (fun _=>-1):=by
  obtain ⟨⟨h1,h2,h3,h4⟩,-⟩:=h;exact ⟨h1.congr fun v hv=>by rw [if_pos hv],h2.congr fun v hv=>by rw [if_pos hv],h3.congr fun v hv=>by rw [if_pos hv],h4⟩
theorem GvM.of_blocks {w w':World} {k He Ha Hl:Nat} {early least:Nat→Nat} {above:Nat→Int} (h:GvM w k He Ha Hl early least above) (he:w'.heap[He]?=w.heap[He]?) (ha:w'.heap[Ha]?=w.heap[Ha]?) (hl:w'.heap[Hl]?=w.heap[Hl]?):GvM w' k He Ha Hl early least above :=
  ⟨h.e.of_block he,h.a.of_block ha,h.l.of_block hl,h.ne⟩
set_option maxRecDepth 100000 in
set_option maxHeartbeats 4000000 in
theorem newGrove_any (k:Nat) (w:World) (hk:k≤1000000):Calls Try.prog 70 #[.int .i64 k] w (ToldNG k w):=by
  have hmk:=run_make_row' (P:=Try.prog) 28 3 (.int .i64 0) 8 Try.underlying28 Try.info3 rfl .i64 .i64 k (by omega) (by omega);(go_enter Try.func70,Try.ntmps70);(go_upto_region 1 with fail);go_cut [3] (fun s3 wc=>WcNG k w s3 wc)
  case first =>
    (go_region);all_goals (go_wp2_with fail;go_meet)
    all_goals (
      case rel =>
        refine leafNG rfl ?_;rintro ⟨b0,b1,b2,b3,b4,hsz,hbel⟩
        exact ⟨_,_,_,_,rfl,by first | exact b1 | exact b2 | exact b3 | exact b4,by first | exact b1 | exact b2 | exact b3 | exact b4,by first | exact b1 | exact b2 | exact b3 | exact b4,by first | exact b1 | exact b2 | exact b3 | exact b4,b0,by omega,hbel⟩)
  case rest =>
    obtain ⟨He,Ha,Hl,Hg,rfl,hmk2⟩:=hcut;have HST:=Lib.hid (LayNG.start hmk2);have HD:=Lib.hid hmk2.2.2.2.2.2.1;clear hmk2 hmk;go_wp2_with fail
    go_loopw [13] (fun i wr=>∃ j:Nat,j≤k∧i=.int .i64 j∧LayNG k w He Ha Hl Hg j wr) (fun i _=>k - (intOf i).toNat)
    case atStart=>exact ⟨0,Nat.zero_le _,rfl,HST.out⟩
    case round =>
      obtain ⟨j,hj,rfl,hl⟩:=hrel;have HL:=Lib.hid hl;obtain ⟨⟨r1,r2,r3,-⟩,h5,h6,h7⟩:=hl;have c0:wr.cell? ⟨Hg,0,none⟩=some (.slice (some ⟨He,0,none⟩) k k):=q5 h5 0;have c1:wr.cell? ⟨Hg,1,none⟩=some (.slice (some ⟨Ha,0,none⟩) k k):=q5 h5 1;have c2:wr.cell? ⟨Hg,2,none⟩=some (.slice (some ⟨Hl,0,none⟩) k k):=q5 h5 2
      by_cases hjk:j<k
      · (have e1:wr.cell? ⟨He,j,none⟩=some (.int .i64 0):=by have:=r1.cell hjk;simpa using this);(have e2:wr.cell? ⟨Ha,j,none⟩=some (.int .i64 0):=by have:=r2.cell hjk;simpa using this);(have e3:wr.cell? ⟨Hl,j,none⟩=some (.int .i64 0):=by have:=r3.cell hjk;simpa using this);have f1:=r1.frozen j;have f2:=r2.frozen j;have f3:=r3.frozen j;(have hj0:(0:Int)≤j:=by omega);(have hj1:(j:Int)<k:=by omega);obtain ⟨p1,p2,p3,p4,n1,n2,n3,n4,n5,n6⟩:=HD.out
        have n7:=Ne.symm n1;have n8:=Ne.symm n2;have n9:=Ne.symm n3;have n10:=Ne.symm n4;have n11:=Ne.symm n5;have n12:=Ne.symm n6;clear r1 r2 r3 h5 h6 h7;(go_upto_region 5 with fail);go_region
        all_goals (
          go_wp2_with fail
          go_roundw)
        case rel=>exact ⟨j+1,by omega,by go_num,LayNG.step HL.out HD.out⟩
        case measure=>simp [intOf];omega
      · (obtain rfl:j=k:=by omega);have hGV:=LayNG.all HL.out;obtain ⟨p1,p2,p3,p4,-⟩:=HD.out;have hoth:∀ y,y≠w.heap.size→(((wr.setCell ⟨w.heap.size,0,none⟩ (.slice (some ⟨He,0,none⟩) j j)).setCell ⟨w.heap.size,1,none⟩ (.slice (some ⟨Ha,0,none⟩) j j)).setCell ⟨w.heap.size,2,none⟩ (.slice (some ⟨Hl,0,none⟩) j j)).heap[y]?=wr.heap[y]?:=fun y hy=>((Below.heap_setCell _ _ _ _ hy).trans (Below.heap_setCell _ _ _ _ hy)).trans (Below.heap_setCell _ _ _ _ hy);have hfin:(((wr.setCell ⟨w.heap.size,0,none⟩ (.slice (some ⟨He,0,none⟩) j j)).setCell ⟨w.heap.size,1,none⟩ (.slice (some ⟨Ha,0,none⟩) j j)).setCell ⟨w.heap.size,2,none⟩ (.slice (some ⟨Hl,0,none⟩) j j)).heap[w.heap.size]?=some (.cells #[.slice (some ⟨He,0,none⟩) j j,.slice (some ⟨Ha,0,none⟩) j j,.slice (some ⟨Hl,0,none⟩) j j] 117):=qG _ (qG _ (qG _ h6));have HFIN:=Lib.hid hfin;have HRES:=Lib.hid (hGV.of_blocks (hoth He (by omega)) (hoth Ha (by omega)) (hoth Hl (by omega)));have HBEL:=Lib.hid (((h7.setCell (p:=⟨w.heap.size,0,none⟩) (Nat.le_refl _) (.slice (some ⟨He,0,none⟩) j j)).setCell (p:=⟨w.heap.size,1,none⟩) (Nat.le_refl _) (.slice (some ⟨Ha,0,none⟩) j j)).setCell (p:=⟨w.heap.size,2,none⟩) (Nat.le_refl _) (.slice (some ⟨Hl,0,none⟩) j j));have hm0:=q5 h6 0
        have hm1:=q5 h6 1;have hm2:=q5 h6 2;(have hf0:wr.frozen? ⟨w.heap.size,0,none⟩=false:=by unfold World.frozen?;simp [h6]);(have hf1:wr.frozen? ⟨w.heap.size,1,none⟩=false:=by unfold World.frozen?;simp [h6]);(have hf2:wr.frozen? ⟨w.heap.size,2,none⟩=false:=by unfold World.frozen?;simp [h6]);have HP:=Lib.hid (And.intro p1 (And.intro p2 p3));clear r1 r2 r3 h5 h6 h7 hoth hfin hGV p1 p2 p3 p4;(go_wp2_with fail);refine bodyPost_ret (results_cell_row rfl _ _ w.heap.size 117 #[.slice (some ⟨He,0,none⟩) j j,.slice (some ⟨Ha,0,none⟩) j j,.slice (some ⟨Hl,0,none⟩) j j] (0,0) _ (by rfl) HFIN.out Try.underlying117 (by rfl) (by kernel_rfl)) rfl ?_
        exact ⟨⟨He,Ha,Hl,rfl,by have:=HP.out;omega,by have:=HP.out;omega,by have:=HP.out;omega,HRES.out⟩,HBEL.out⟩
inductive ChainP (L:Nat) (above:Nat→Int) (place:Nat):List Nat→Nat→Prop
  | nil:ChainP L above place [] place
  | snoc {ws:List Nat} {q p:Nat}:ChainP L above place ws q→L≤q→above q=(p:Int)→L≤p→ChainP L above place (ws++[q]) p
variable {k L:Nat} {E:Nat→Nat→Prop} {par early least:Nat→Nat} {above:Nat→Int} {place:Nat}
theorem ChainP.last {l:List Nat} {x p:Nat} (h:ChainP L above place (l++[x]) p):ChainP L above place l x∧L≤x∧above x=(p:Int)∧L≤p:=by
  generalize hm:l++[x]=m at h;cases h with
  | nil=>simp at hm
  | snoc h1 h2 h3 h4 =>
    obtain ⟨h5,h6⟩:=List.append_inj' hm rfl;simp at h6;(subst h5;subst h6);exact ⟨h1,h2,h3,h4⟩
theorem ChainP.none {p:Nat} (h:ChainP L above place [] p):p=place:=by
  generalize hm:([]:List Nat)=m at h;cases h with
  | nil=>rfl
  | snoc h1 h2 h3 h4=>simp at hm
theorem ChainP.lt (G:GrvI par k L early least above) (hp:place<k) {ws:List Nat} {q:Nat} (h:ChainP L above place ws q):q<k∧(∀ x∈ws,q<x∧x<k)∧ws.length+q≤place:=by
  induction h with
  | nil=>exact ⟨hp,fun x hx=>by (cases hx),by simp⟩
  | @snoc ws q p h1 h2 h3 h4 ih =>
    obtain ⟨i1,i2,i3⟩:=ih;obtain ⟨a,a1,a2,-⟩:=G.hi q h2 i1;(have:p<q:=by omega);(refine ⟨by omega,fun x hx=>?_,by simp;omega⟩);rcases List.mem_append.1 hx with hx | hx
    · have:=i2 x hx;omega
    · rw [List.mem_singleton.1 hx];omega
theorem ChainP.congr {above':Nat→Int} {ws:List Nat} {q:Nat} (h:ChainP L above place ws q) (he:∀ x∈ws,above' x=above x):ChainP L above' place ws q:=by
  induction h with
  | nil=>exact .nil
  | @snoc ws q p h1 h2 h3 h4 ih=>exact .snoc (ih fun x hx=>he x (by simp [hx])) h2 ((he q (by simp)).trans h3) h4
structure BkI (par early:Nat→Nat) (k L place:Nat) (ws:List Nat) (r:Nat) (least:Nat→Nat) (above:Nat→Int):Prop where
  g:GrvI par k L early least above
  c:∃ q,q<k∧ChainP L above place (ws.take r) q∧above q<(L:Int)
theorem BkI.step (T:TreeP k E par) {ws:List Nat} {r x:Nat} (hp:place<k) (h:BkI par early k L place ws (r+1) least above) (hx:ws[r]?=some x) :
    ∃ q,x<k∧q<k∧L≤x∧L≤q∧above x=(q:Int)∧-1≤above q∧BkI par early k L place ws r (updF least x (if early (least q)<early (least x) then least q else least x)) (updF above x (above q)):=by
  obtain ⟨hg,q,hq,hc,hqL⟩:=h;rw [qC hx] at hc;obtain ⟨h1,h2,h3,h4⟩:=hc.last;obtain ⟨i1,i2,-⟩:=ChainP.lt hg hp h1;have hg':=hg.hang T h2 i1 h3 h4 rfl;obtain ⟨a,a1,-⟩:=hg.hi q h4 hq;refine ⟨q,i1,hq,h2,h4,h3,by omega,hg',x,i1,h1.congr fun y hy=>q7 _ _ (by have:=(i2 y hy).1;omega),by rw [qB];exact hqL⟩
theorem BkI.done (T:TreeP k E par) {ws:List Nat} (hp:place<k) (h:BkI par early k L place ws 0 least above):BestP par L early place (least place):=by
  obtain ⟨hg,q,hq,hc,hqL⟩:=h;rw [List.take_zero] at hc;obtain rfl:=hc.none;exact hg.best hp hqL
theorem GvM.setL {w:World} {He Ha Hl:Nat} (h:GvM w k He Ha Hl early least above) (x y:Nat):GvM (w.setCell ⟨Hl,x,none⟩ (.int .i64 (y:Int))).drew k He Ha Hl early (updF least x y) above:=by
  have hs:∀ b,b≠Hl→(w.setCell ⟨Hl,x,none⟩ (.int .i64 (y:Int))).heap[b]?=w.heap[b]?:=fun b hb=>Below.heap_setCell _ _ _ _ hb;(have r:=(h.l.set x (.int .i64 (y:Int))).congr (g:=fun v=>.int .i64 ((updF least x y v:Nat):Int)) fun v _=>by unfold updF;by_cases e:v=x <;> simp [e]);exact ⟨(h.e.of_block (hs He h.ne.2.1):World.rowIs _ He 3 k _),(h.a.of_block (hs Ha h.ne.2.2):World.rowIs _ Ha 3 k _),r,h.ne⟩
theorem GvM.setA {w:World} {He Ha Hl:Nat} (h:GvM w k He Ha Hl early least above) (x:Nat) (y:Int):GvM (w.setCell ⟨Ha,x,none⟩ (.int .i64 y)).drew k He Ha Hl early least (updF above x y):=by
  have hs:∀ b,b≠Ha→(w.setCell ⟨Ha,x,none⟩ (.int .i64 y)).heap[b]?=w.heap[b]?:=fun b hb=>Below.heap_setCell _ _ _ _ hb;(have r:=(h.a.set x (.int .i64 y)).congr (g:=fun v=>.int .i64 (updF above x y v)) fun v _=>by unfold updF;by_cases e:v=x <;> simp [e]);exact ⟨(h.e.of_block (hs He h.ne.1):World.rowIs _ He 3 k _),r,(h.l.of_block (hs Hl h.ne.2.2.symm):World.rowIs _ Hl 3 k _),h.ne⟩
theorem GvM.keepL {w:World} {He Ha Hl:Nat} (h:GvM w k He Ha Hl early least above) (x:Nat):GvM w k He Ha Hl early (updF least x (least x)) above :=
  ⟨h.e,h.a,h.l.congr fun v _=>by unfold updF;by_cases e:v=x <;> simp [e],h.ne⟩
def ToldBe (par early:Nat→Nat) (k L place He Ha Hl:Nat) (w:World) (e:Ending) (w':World):Prop :=
  ∃ (x:Nat) (least':Nat→Nat) (above':Nat→Int),e=.returned (.int .i64 (x:Int))∧x<k∧BestP par L early place x∧GrvI par k L early least' above'∧GvM w' k He Ha Hl early least' above'∧FrX (fun b=>b=Ha∨b=Hl) w w'
set_option maxRecDepth 100000 in
set_option maxHeartbeats 8000000 in
theorem best_any (He Ha Hl:Nat) (w:World) (T:TreeP k E par) (G:GrvI par k L early least above) (hm:GvM w k He Ha Hl early least above) (hp:place<k) (hk:k≤1000000) :
    Calls Try.prog 71 #[.agg #[.slice (some ⟨He,0,none⟩) k k,.slice (some ⟨Ha,0,none⟩) k k,.slice (some ⟨Hl,0,none⟩) k k],.int .i64 (place:Int)] w (ToldBe par early k L place He Ha Hl w):=by
  obtain ⟨i0,hi,hz0,hz1,hz2⟩:=info_parts Try.info3;have HI:=Lib.hid (And.intro hi (And.intro hz0 (And.intro hz1 hz2)));clear hi hz0 hz1 hz2;have hlE:=hm.e.lt;have hlA:=hm.a.lt;have hlL:=hm.l.lt;have HM:=Lib.hid hm;have HG:=Lib.hid G;have HT:=Lib.hid T
  clear hm G T;(go_enter Try.func71,Try.ntmps71);(go_upto_region 3 with fail);obtain ⟨w1,hw1,hs1,hk1,hbel1,hc1,hblk1⟩:=named w #[.slice (some ⟨He,0,none⟩) k k,.slice (some ⟨Ha,0,none⟩) k k,.slice (some ⟨Hl,0,none⟩) k k] 117;rw [← hw1];(have hbox:w1.heap[w.heap.size]?=some (.cells #[.slice (some ⟨He,0,none⟩) k k,.slice (some ⟨Ha,0,none⟩) k k,.slice (some ⟨Hl,0,none⟩) k k] 117):=by rw [hw1];exact heap_alloc_new w _);have HM1:=Lib.hid (HM.out.of_blocks (hbel1.block He hlE) (hbel1.block Ha hlA) (hbel1.block Hl hlL));have HB1:=Lib.hid hbel1;have HBOX:=Lib.hid hbox
  (have hNs:w.heap.size<w1.heap.size:=by omega);have HNB:Hid (w1.heap.size=w.heap.size+1):=Lib.hid (by omega);clear hw1 hs1 hk1 hbel1 hc1 hblk1 hbox
  go_loopw [5,6] (fun s5 s6 wr=>∃ (ws:List Nat) (q:Nat),s6=.int .i64 (q:Int)∧q<k∧ChainP L above place ws q∧wr.ownsRow (w.heap.size+1) 3 1 s5 ws.length ((zs ws).map (Value.int .i64))∧FrX (fun _=>False) w1 wr) (fun _ s6 _=>(intOf s6).toNat)
  case atStart=>exact ⟨[],place,rfl,hp,.nil,World.ownsRow_nil _ _ _ _,FrX.refl _ _⟩
  case round =>
    obtain ⟨ws,q,rfl,hq,hc,hown,hfr⟩:=hrel;have hboxr:=hfr.box HBOX.out (fun h=>h);have c0:wr.cell? ⟨w.heap.size,0,none⟩=some (.slice (some ⟨He,0,none⟩) k k):=q5 hboxr 0;have c1:wr.cell? ⟨w.heap.size,1,none⟩=some (.slice (some ⟨Ha,0,none⟩) k k):=q5 hboxr 1;have c2:wr.cell? ⟨w.heap.size,2,none⟩=some (.slice (some ⟨Hl,0,none⟩) k k):=q5 hboxr 2;have hM:=HM1.out.of_blocks (hfr.block He (by omega) (fun h=>h)) (hfr.block Ha (by omega) (fun h=>h)) (hfr.block Hl (by omega) (fun h=>h));have hca:=hM.a.cell hq;(have hq0:(0:Int)≤q:=by omega);have hq1:(q:Int)<k:=by omega
    have HMR:=Lib.hid hM;have HC:=Lib.hid hc;have HOWN:=Lib.hid hown;have HFR:=Lib.hid hfr;have hlen:=(ChainP.lt HG.out hp hc).2.2;clear hboxr hM hc hown hfr
    by_cases hL:L≤q
    · obtain ⟨a,a1,a2,-⟩:=HG.out.hi q hL hq;(have hak:a<k:=by omega);have hcb:=HMR.out.a.cell hak;rw [a1] at hca;(have ha0:(0:Int)≤a:=by omega);have ha1:(a:Int)<k:=by omega
      by_cases hL2:L≤a
      · obtain ⟨b,b1,b2,-⟩:=HG.out.hi a hL2 hak;rw [b1] at hcb;(have hb0:(0:Int)≤b:=by omega);have hd:decide ((b:Int) ≥ 0)=true:=decide_eq_true hb0;have HCN:=Lib.hid (ChainP.snoc HC.out hL a1 hL2);have HA:=Lib.hid (And.intro a2 hak);have HAQ:Hid (above q=(a:Int)):=Lib.hid a1;clear a1 a2 hak b1 b2 hL hL2;go_upto_region 3 with fail
        (go_quiet (fail));have hown2:(wr.drewN nq).ownsRow (w.heap.size+1) 3 1 u5 ws.length ((zs ws).map (Value.int .i64)):=HOWN.out;have hfr2:FrX (fun _=>False) w1 (wr.drewN nq):=HFR.out.trans ⟨rfl,rfl,rfl,Nat.le_refl _,fun _ _ _=>rfl⟩;have d0:(wr.drewN nq).cell? ⟨w.heap.size,1,none⟩=some (.slice (some ⟨Ha,0,none⟩) k k):=c1;have d1:(wr.drewN nq).cell? ⟨Ha,q,none⟩=some (.int .i64 (a:Int)):=hca;generalize wr.drewN nq=w2 at *;have HOWN2:=Lib.hid hown2;have HFR2:=Lib.hid hfr2;have hsz2:=hfr2.size
        clear hown2 hfr2 c0 c1 c2 hca hcb hd;(have hwl:ws.length≤1000000:=by omega);(have hNw2:w.heap.size<w2.heap.size:=by omega);go_wp2_with (at_builtin;refine wpList_append_lies _ rfl (.tmp 34) (.tmp 36) 28 rfl (w.heap.size+1) 3 i0 (.int .i64 0) 1 8 Try.underlying28 HI.out.1 HI.out.2.1 HI.out.2.2.1 HI.out.2.2.2 rfl (by decide) u5 _ _ rfl (HOWN2.out.alloc _) ⟨w2.heap.size,0,none⟩ 1 1 [.int .i64 (q:Int)] rfl rfl ?e1 ?e2 ?e0 ?e3 ?e4 ?e5 (w2.heap.size+1) ?e6 ?_)
        case e1=>exact qR w2 _ _ rfl
        case e2=>exact ints_oneCell .i64 [(q:Int)]
        case e0=>omega
        case e3=>unfold maxLen;omega
        case e4=>omega
        case e5=>simp;omega
        case e6=>simp
        intro g cap w3 hown3 hgrow3 hloc3 hlt3;(have hfr3:FrX (fun _=>False) w1 w3:=(HFR2.out.alloc _).grown hgrow3 (fun g hg=>.inr (by have:=(HOWN2.out.lt g hg).1;have:=HFR2.out.size;exact (Nat.lt_or_ge g w1.heap.size).elim (fun e=>by exfalso;have:=HNB.out;omega) (fun e=>by omega))));have hblk:∀ b,b<w1.heap.size→w3.heap[b]?=w1.heap[b]?:=fun b hb=>hfr3.block b hb (fun h=>h);have hbox3:=hfr3.box HBOX.out (fun h=>h);have d0:w3.cell? ⟨w.heap.size,1,none⟩=some (.slice (some ⟨Ha,0,none⟩) k k):=q5 hbox3 1;have d1:w3.cell? ⟨Ha,q,none⟩=some (.int .i64 (a:Int)):=by
          have:=((HM1.out.of_blocks (hblk He (by omega)) (hblk Ha (by omega)) (hblk Hl (by omega))).a.cell (by omega:q<k));rw [HAQ.out] at this;exact this
        have hnew:w3.ownsRow (w.heap.size+1) 3 1 (.slice (some ⟨g,0,none⟩) (ws.length+1) cap) (ws++[q]).length ((zs (ws++[q])).map (Value.int .i64)):=by
          rw [zs_snoc,List.map_append];simpa using hown3
        have HNEW:=Lib.hid hnew;have HFR3:=Lib.hid hfr3;clear hown3 hgrow3 hloc3 hnew hfr3 hblk hbox3;go_wp2_with fail
        go_roundw
        case rel=>exact ⟨ws++[q],a,rfl,HA.out.2,HCN.out,HNEW.out,HFR3.out⟩
        case measure=>have:=HA.out.1;simp [intOf];omega
      · have hbm:above a=-1:=(HG.out.lo a (by omega) hak).1;rw [hbm] at hcb;(have hX:above q<(L:Int):=by omega);clear hbm;have HX:Hid (above q<(L:Int)):=Lib.hid (by omega);(go_upto_region 3 with fail);(go_quiet (fail));have hM2:=HMR.out.of_blocks (w':=wr.drewN nq) rfl rfl rfl;have hown2:(wr.drewN nq).ownsRow (w.heap.size+1) 3 1 u5 ws.length ((zs ws).map (Value.int .i64)):=HOWN.out
        have hfr2:FrX (fun b=>b=Ha∨b=Hl) w1 (wr.drewN nq):=((HFR.out.mono (fun _ _ h=>h.elim):FrX (fun b=>b=Ha∨b=Hl) w1 wr).trans ⟨rfl,rfl,rfl,Nat.le_refl _,fun _ _ _=>rfl⟩);generalize wr.drewN nq=w2 at *;have HM2:=Lib.hid hM2;have HFR2:=Lib.hid hfr2;(obtain ⟨A,c,rfl,hsl⟩:=slB_of_own (B:=fun g=>w.heap.size+1≤g∧g<w2.heap.size) (xs:=ws.map fun q:Nat=>(q:Int)) (by simpa [zs] using hown2) (fun y hy=>by obtain ⟨t,ht,rfl⟩:=List.mem_map.1 hy;have:=(ChainP.lt HG.out hp HC.out).2.1 t ht;unfold I64;omega) (fun _ h1 h2=>⟨h1,h2⟩));rw [List.length_map];have HSL:=Lib.hid hsl;have hsz2:=hfr2.size;have HST:=Lib.hid (show BkI par early k L place ws ws.length least above from ⟨HG.out,q,hq,by rw [List.take_length];exact HC.out,HX.out⟩)
        have HWL:Hid (∀ x∈ws,x<k):=Lib.hid (fun x hx=>((ChainP.lt HG.out hp HC.out).2.1 x hx).2);clear hM2 hown2 hfr2 hsl c0 c1 c2 hca hcb hX a1 a2 hak ha0 ha1 hL2;go_wp2_with fail
        go_loopw [7] (fun s7 wq=>∃ (r:Nat) (least':Nat→Nat) (above':Nat→Int),s7=.int .i64 ((r:Int) - 1)∧r≤ws.length∧BkI par early k L place ws r least' above'∧GvM wq k He Ha Hl early least' above'∧FrX (fun b=>b=Ha∨b=Hl) w2 wq) (fun s7 _=>(intOf s7+1).toNat)
        case atStart=>exact ⟨ws.length,least,above,rfl,Nat.le_refl _,HST.out,HM2.out,FrX.refl _ _⟩
        case round =>
          obtain ⟨r,least',above',e7,hr,hbk,hmq,hfq⟩:=hrel;have hHa:He≠Ha∧He≠Hl∧Ha≠Hl:=hmq.ne;have hboxr:=(HFR2.out.trans hfq).box HBOX.out (by omega);have c0:wr.cell? ⟨w.heap.size,0,none⟩=some (.slice (some ⟨He,0,none⟩) k k):=q5 hboxr 0;have c1:wr.cell? ⟨w.heap.size,1,none⟩=some (.slice (some ⟨Ha,0,none⟩) k k):=q5 hboxr 1;have c2:wr.cell? ⟨w.heap.size,2,none⟩=some (.slice (some ⟨Hl,0,none⟩) k k):=q5 hboxr 2;have HMQ:=Lib.hid hmq;have HFQ:=Lib.hid hfq;have HBK:=Lib.hid hbk
          have hsz3:=hfq.size;(have hsq:=SIntsB.go (B:=fun g=>w.heap.size+1≤g∧g<w2.heap.size) (B':=fun _=>True) (w:=w2) (w':=wr) (fun a v hb ha=>(World.cell?_of_block (hfq.block a.block hb.2 (by have:=hb.1;omega))).trans ha) (fun _ _=>trivial) HSL.out);cases r with
          | zero =>
            obtain rfl:u7=.int .i64 (-1):=e7;have hcl:=hmq.l.cell hp;(have hp0:(0:Int)≤place:=by omega);(have hp1:(place:Int)<k:=by omega);have HRES:Hid (least' place<k∧BestP par L early place (least' place)):=Lib.hid ⟨GrvI.least_lt HT.out hbk.g hp,hbk.done HT.out hp⟩;have HFF:Hid (FrX (fun b=>b=Ha∨b=Hl) w wr):=Lib.hid ((FrX.of_below HB1.out).trans (HFR2.out.trans hfq));clear hboxr hmq hfq hbk hsq;(go_wp2_with fail);go_ret
            exact ⟨least' place,least',above',rfl,HRES.out.1,HRES.out.2,HBK.out.g,HMQ.out,HFF.out⟩
          | succ r =>
            (obtain rfl:u7=.int .i64 (r:Int):=by rw [e7];congr 1;omega);(have hrl:r<ws.length:=by omega);(obtain ⟨bb,oo,y,rfl,hy,-,hyc,-⟩:=hsq.at_ (k:=r) (by rw [List.length_map];exact hrl));obtain ⟨x,hx,rfl⟩:=zs_at (l:=ws) hy.out;obtain ⟨q',hxk,hqk,hLx,hLq,hax,hqm,hnx⟩:=hbk.step HT.out hp hx;(have hyc:wr.cell? ⟨bb,oo+r,none⟩=some (.int .i64 (x:Int)):=by rw [Nat.mul_one] at hyc;exact hyc);have e1:=hmq.a.cell hxk;rw [hax] at e1;have e2:=hmq.a.cell hqk
            have e3:=hmq.l.cell hxk;have e4:=hmq.l.cell hqk;have hlx:=GrvI.least_lt HT.out hbk.g hxk;have hlq:=GrvI.least_lt HT.out hbk.g hqk;have e5:=hmq.e.cell hlx;have e6:=hmq.e.cell hlq;have f1:=hmq.a.frozen x;have f2:=hmq.l.frozen x;have HNX:=Lib.hid hnx
            have HXQ:Hid (least' x<k∧least' q'<k):=Lib.hid ⟨hlx,hlq⟩;(have hx0:(0:Int)≤x:=by omega);(have hx1:(x:Int)<k:=by omega);(have hq0:(0:Int)≤q':=by omega);(have hq1:(q':Int)<k:=by omega);(have hr0:(0:Int)≤r:=by omega);(have hr1:(r:Int)<ws.length:=by omega);have hs1:=hmq.l.set x (.int .i64 (least' q':Int));have hwl:ws.length≤1000000:=by have:=(ChainP.lt HG.out hp HC.out).2.2;omega
            clear hboxr hmq hfq hbk hsq hnx hx hax hLx hLq e7 hy hs1
            by_cases hlt:early (least' q')<early (least' x)
            · have hd:decide ((early (least' q'):Int)<(early (least' x):Int))=true:=decide_eq_true (by omega);have HIF:Hid ((if early (least' q')<early (least' x) then least' q' else least' x)=least' q'):=Lib.hid (if_pos hlt);(have hlt2:((early (least' q'):Int)<(early (least' x):Int)):=by omega);(go_upto_region 11 with fail);(go_quiet (fail));have HMQ4:=Lib.hid (HMQ.out.of_blocks (w':=wr.drewN nq) rfl rfl rfl);have HFQ4:Hid (FrX (fun b=>b=Ha∨b=Hl) w2 (wr.drewN nq)):=Lib.hid (HFQ.out.trans ⟨rfl,rfl,rfl,Nat.le_refl _,fun _ _ _=>rfl⟩);have c0':(wr.drewN nq).cell? ⟨w.heap.size,0,none⟩=some (.slice (some ⟨He,0,none⟩) k k):=c0;have c1':(wr.drewN nq).cell? ⟨w.heap.size,1,none⟩=some (.slice (some ⟨Ha,0,none⟩) k k):=c1
              have c2':(wr.drewN nq).cell? ⟨w.heap.size,2,none⟩=some (.slice (some ⟨Hl,0,none⟩) k k):=c2;have e1':(wr.drewN nq).cell? ⟨Ha,x,none⟩=some (.int .i64 (q':Int)):=e1;have e2':(wr.drewN nq).cell? ⟨Ha,q',none⟩=some (.int .i64 (above' q')):=e2;have e3':(wr.drewN nq).cell? ⟨Hl,x,none⟩=some (.int .i64 (least' x:Int)):=e3;have e4':(wr.drewN nq).cell? ⟨Hl,q',none⟩=some (.int .i64 (least' q':Int)):=e4;have f1':(wr.drewN nq).frozen? ⟨Ha,x,none⟩=false:=f1;have f2':(wr.drewN nq).frozen? ⟨Hl,x,none⟩=false:=f2;clear c0 c1 c2 e1 e2 e3 e4 e5 e6 f1 f2;generalize wr.drewN nq=w4 at *
              (go_upto_region 12 with fail);(go_region);have HM5:=Lib.hid (GvM.setL HMQ4.out x (least' q'));have HF5:Hid (FrX (fun b=>b=Ha∨b=Hl) w2 (w4.setCell ⟨Hl,x,none⟩ (.int .i64 (least' q':Int))).drew):=Lib.hid (HFQ4.out.setCell (.inl (.inr rfl)) _).drew;have hs5:∀ b,b≠Hl→(w4.setCell ⟨Hl,x,none⟩ (.int .i64 (least' q':Int))).drew.heap[b]?=w4.heap[b]?:=fun b hb=>Below.heap_setCell _ _ _ _ hb;have hc5:∀ (b i:Nat),b≠Hl→(w4.setCell ⟨Hl,x,none⟩ (.int .i64 (least' q':Int))).drew.cell? ⟨b,i,none⟩=w4.cell? ⟨b,i,none⟩:=fun b i hb=>World.cell?_of_block (hs5 b hb);have c1:=(hc5 w.heap.size 1 (by omega)).trans c1';have e1:=(hc5 Ha x hHa.2.2).trans e1';have e2:=(hc5 Ha q' hHa.2.2).trans e2'
              have f1:=(World.frozen?_of_block (a:=⟨Ha,x,none⟩) (hs5 Ha hHa.2.2)).trans f1';clear hs5 hc5 c0' c1' c2' e1' e2' e3' e4' f1' f2';generalize (w4.setCell ⟨Hl,x,none⟩ (.int .i64 (least' q':Int))).drew=w5 at *;(go_upto_region 13 with fail);(go_region);have HM6:=Lib.hid (GvM.setA HM5.out x (above' q'));have HF6:Hid (FrX (fun b=>b=Ha∨b=Hl) w2 (w5.setCell ⟨Ha,x,none⟩ (.int .i64 (above' q'))).drew):=Lib.hid (HF5.out.setCell (.inl (.inl rfl)) _).drew;clear c1 e1 e2 f1;go_wp2_with fail
              go_roundw
              case rel=>exact ⟨r,_,_,by first | rfl | go_num,by omega,HNX.out,by rw [HIF.out];exact HM6.out,HF6.out⟩
              case measure=>(simp [intOf] <;> try omega)
            · have hd:decide ((early (least' q'):Int)<(early (least' x):Int))=false:=decide_eq_false (by omega);have HIF:Hid ((if early (least' q')<early (least' x) then least' q' else least' x)=least' x):=Lib.hid (if_neg hlt);(have hlt2:¬ ((early (least' q'):Int)<(early (least' x):Int)):=by omega);(go_upto_region 11 with fail);(go_quiet (fail));have HMQ4:=Lib.hid (HMQ.out.of_blocks (w':=wr.drewN nq) rfl rfl rfl);have HFQ4:Hid (FrX (fun b=>b=Ha∨b=Hl) w2 (wr.drewN nq)):=Lib.hid (HFQ.out.trans ⟨rfl,rfl,rfl,Nat.le_refl _,fun _ _ _=>rfl⟩);have c0':(wr.drewN nq).cell? ⟨w.heap.size,0,none⟩=some (.slice (some ⟨He,0,none⟩) k k):=c0;have c1':(wr.drewN nq).cell? ⟨w.heap.size,1,none⟩=some (.slice (some ⟨Ha,0,none⟩) k k):=c1
              have c2':(wr.drewN nq).cell? ⟨w.heap.size,2,none⟩=some (.slice (some ⟨Hl,0,none⟩) k k):=c2;have e1':(wr.drewN nq).cell? ⟨Ha,x,none⟩=some (.int .i64 (q':Int)):=e1;have e2':(wr.drewN nq).cell? ⟨Ha,q',none⟩=some (.int .i64 (above' q')):=e2;have e3':(wr.drewN nq).cell? ⟨Hl,x,none⟩=some (.int .i64 (least' x:Int)):=e3;have e4':(wr.drewN nq).cell? ⟨Hl,q',none⟩=some (.int .i64 (least' q':Int)):=e4;have f1':(wr.drewN nq).frozen? ⟨Ha,x,none⟩=false:=f1;have f2':(wr.drewN nq).frozen? ⟨Hl,x,none⟩=false:=f2;clear c0 c1 c2 e1 e2 e3 e4 e5 e6 f1 f2;generalize wr.drewN nq=w4 at *
              have c1:=c1';have e1:=e1';have e2:=e2';have f1:=f1';clear c0' c1' c2' e1' e2' e3' e4' f1' f2';(go_upto_region 13 with fail);(go_region);have HM6:=Lib.hid (GvM.setA HMQ4.out x (above' q'));have HF6:Hid (FrX (fun b=>b=Ha∨b=Hl) w2 (w4.setCell ⟨Ha,x,none⟩ (.int .i64 (above' q'))).drew):=Lib.hid (HFQ4.out.setCell (.inl (.inl rfl)) _).drew
              clear c1 e1 e2 f1;go_wp2_with fail
              go_roundw
              case rel=>exact ⟨r,_,_,by first | rfl | go_num,by omega,HNX.out,by rw [HIF.out];exact HM6.out.keepL x,HF6.out⟩
              case measure=>(simp [intOf] <;> try omega)
    · have ham:above q=-1:=(HG.out.lo q (by omega) hq).1;rw [ham] at hca;(have hX:above q<(L:Int):=by omega);clear ham;have HX:Hid (above q<(L:Int)):=Lib.hid (by omega);(go_upto_region 3 with fail);(go_quiet (fail));have hM2:=HMR.out.of_blocks (w':=wr.drewN nq) rfl rfl rfl;have hown2:(wr.drewN nq).ownsRow (w.heap.size+1) 3 1 u5 ws.length ((zs ws).map (Value.int .i64)):=HOWN.out
      have hfr2:FrX (fun b=>b=Ha∨b=Hl) w1 (wr.drewN nq):=((HFR.out.mono (fun _ _ h=>h.elim):FrX (fun b=>b=Ha∨b=Hl) w1 wr).trans ⟨rfl,rfl,rfl,Nat.le_refl _,fun _ _ _=>rfl⟩);generalize wr.drewN nq=w2 at *;have HM2:=Lib.hid hM2;have HFR2:=Lib.hid hfr2;(obtain ⟨A,c,rfl,hsl⟩:=slB_of_own (B:=fun g=>w.heap.size+1≤g∧g<w2.heap.size) (xs:=ws.map fun q:Nat=>(q:Int)) (by simpa [zs] using hown2) (fun y hy=>by obtain ⟨t,ht,rfl⟩:=List.mem_map.1 hy;have:=(ChainP.lt HG.out hp HC.out).2.1 t ht;unfold I64;omega) (fun _ h1 h2=>⟨h1,h2⟩));rw [List.length_map];have HSL:=Lib.hid hsl;have hsz2:=hfr2.size;have HST:=Lib.hid (show BkI par early k L place ws ws.length least above from ⟨HG.out,q,hq,by rw [List.take_length];exact HC.out,HX.out⟩)
      have HWL:Hid (∀ x∈ws,x<k):=Lib.hid (fun x hx=>((ChainP.lt HG.out hp HC.out).2.1 x hx).2);clear hM2 hown2 hfr2 hsl c0 c1 c2 hca hX;go_wp2_with fail
      go_loopw [7] (fun s7 wq=>∃ (r:Nat) (least':Nat→Nat) (above':Nat→Int),s7=.int .i64 ((r:Int) - 1)∧r≤ws.length∧BkI par early k L place ws r least' above'∧GvM wq k He Ha Hl early least' above'∧FrX (fun b=>b=Ha∨b=Hl) w2 wq) (fun s7 _=>(intOf s7+1).toNat)
      case atStart=>exact ⟨ws.length,least,above,rfl,Nat.le_refl _,HST.out,HM2.out,FrX.refl _ _⟩
      case round =>
        obtain ⟨r,least',above',e7,hr,hbk,hmq,hfq⟩:=hrel;have hHa:He≠Ha∧He≠Hl∧Ha≠Hl:=hmq.ne;have hboxr:=(HFR2.out.trans hfq).box HBOX.out (by omega);have c0:wr.cell? ⟨w.heap.size,0,none⟩=some (.slice (some ⟨He,0,none⟩) k k):=q5 hboxr 0;have c1:wr.cell? ⟨w.heap.size,1,none⟩=some (.slice (some ⟨Ha,0,none⟩) k k):=q5 hboxr 1;have c2:wr.cell? ⟨w.heap.size,2,none⟩=some (.slice (some ⟨Hl,0,none⟩) k k):=q5 hboxr 2;have HMQ:=Lib.hid hmq;have HFQ:=Lib.hid hfq;have HBK:=Lib.hid hbk
        have hsz3:=hfq.size;(have hsq:=SIntsB.go (B:=fun g=>w.heap.size+1≤g∧g<w2.heap.size) (B':=fun _=>True) (w:=w2) (w':=wr) (fun a v hb ha=>(World.cell?_of_block (hfq.block a.block hb.2 (by have:=hb.1;omega))).trans ha) (fun _ _=>trivial) HSL.out);cases r with
        | zero =>
          obtain rfl:u7=.int .i64 (-1):=e7;have hcl:=hmq.l.cell hp;(have hp0:(0:Int)≤place:=by omega);(have hp1:(place:Int)<k:=by omega);have HRES:Hid (least' place<k∧BestP par L early place (least' place)):=Lib.hid ⟨GrvI.least_lt HT.out hbk.g hp,hbk.done HT.out hp⟩;have HFF:Hid (FrX (fun b=>b=Ha∨b=Hl) w wr):=Lib.hid ((FrX.of_below HB1.out).trans (HFR2.out.trans hfq));clear hboxr hmq hfq hbk hsq;(go_wp2_with fail);go_ret
          exact ⟨least' place,least',above',rfl,HRES.out.1,HRES.out.2,HBK.out.g,HMQ.out,HFF.out⟩
        | succ r =>
          (obtain rfl:u7=.int .i64 (r:Int):=by rw [e7];congr 1;omega);(have hrl:r<ws.length:=by omega);(obtain ⟨bb,oo,y,rfl,hy,-,hyc,-⟩:=hsq.at_ (k:=r) (by rw [List.length_map];exact hrl));obtain ⟨x,hx,rfl⟩:=zs_at (l:=ws) hy.out;obtain ⟨q',hxk,hqk,hLx,hLq,hax,hqm,hnx⟩:=hbk.step HT.out hp hx;(have hyc:wr.cell? ⟨bb,oo+r,none⟩=some (.int .i64 (x:Int)):=by rw [Nat.mul_one] at hyc;exact hyc);have e1:=hmq.a.cell hxk;rw [hax] at e1;have e2:=hmq.a.cell hqk
          have e3:=hmq.l.cell hxk;have e4:=hmq.l.cell hqk;have hlx:=GrvI.least_lt HT.out hbk.g hxk;have hlq:=GrvI.least_lt HT.out hbk.g hqk;have e5:=hmq.e.cell hlx;have e6:=hmq.e.cell hlq;have f1:=hmq.a.frozen x;have f2:=hmq.l.frozen x;have HNX:=Lib.hid hnx
          have HXQ:Hid (least' x<k∧least' q'<k):=Lib.hid ⟨hlx,hlq⟩;(have hx0:(0:Int)≤x:=by omega);(have hx1:(x:Int)<k:=by omega);(have hq0:(0:Int)≤q':=by omega);(have hq1:(q':Int)<k:=by omega);(have hr0:(0:Int)≤r:=by omega);(have hr1:(r:Int)<ws.length:=by omega);have hs1:=hmq.l.set x (.int .i64 (least' q':Int));have hwl:ws.length≤1000000:=by have:=(ChainP.lt HG.out hp HC.out).2.2;omega
          clear hboxr hmq hfq hbk hsq hnx hx hax hLx hLq e7 hy hs1
          by_cases hlt:early (least' q')<early (least' x)
          · have hd:decide ((early (least' q'):Int)<(early (least' x):Int))=true:=decide_eq_true (by omega);have HIF:Hid ((if early (least' q')<early (least' x) then least' q' else least' x)=least' q'):=Lib.hid (if_pos hlt);(have hlt2:((early (least' q'):Int)<(early (least' x):Int)):=by omega);(go_upto_region 11 with fail);(go_quiet (fail));have HMQ4:=Lib.hid (HMQ.out.of_blocks (w':=wr.drewN nq) rfl rfl rfl);have HFQ4:Hid (FrX (fun b=>b=Ha∨b=Hl) w2 (wr.drewN nq)):=Lib.hid (HFQ.out.trans ⟨rfl,rfl,rfl,Nat.le_refl _,fun _ _ _=>rfl⟩);have c0':(wr.drewN nq).cell? ⟨w.heap.size,0,none⟩=some (.slice (some ⟨He,0,none⟩) k k):=c0;have c1':(wr.drewN nq).cell? ⟨w.heap.size,1,none⟩=some (.slice (some ⟨Ha,0,none⟩) k k):=c1
            have c2':(wr.drewN nq).cell? ⟨w.heap.size,2,none⟩=some (.slice (some ⟨Hl,0,none⟩) k k):=c2;have e1':(wr.drewN nq).cell? ⟨Ha,x,none⟩=some (.int .i64 (q':Int)):=e1;have e2':(wr.drewN nq).cell? ⟨Ha,q',none⟩=some (.int .i64 (above' q')):=e2;have e3':(wr.drewN nq).cell? ⟨Hl,x,none⟩=some (.int .i64 (least' x:Int)):=e3;have e4':(wr.drewN nq).cell? ⟨Hl,q',none⟩=some (.int .i64 (least' q':Int)):=e4;have f1':(wr.drewN nq).frozen? ⟨Ha,x,none⟩=false:=f1;have f2':(wr.drewN nq).frozen? ⟨Hl,x,none⟩=false:=f2;clear c0 c1 c2 e1 e2 e3 e4 e5 e6 f1 f2;generalize wr.drewN nq=w4 at *
            (go_upto_region 12 with fail);(go_region);have HM5:=Lib.hid (GvM.setL HMQ4.out x (least' q'));have HF5:Hid (FrX (fun b=>b=Ha∨b=Hl) w2 (w4.setCell ⟨Hl,x,none⟩ (.int .i64 (least' q':Int))).drew):=Lib.hid (HFQ4.out.setCell (.inl (.inr rfl)) _).drew;have hs5:∀ b,b≠Hl→(w4.setCell ⟨Hl,x,none⟩ (.int .i64 (least' q':Int))).drew.heap[b]?=w4.heap[b]?:=fun b hb=>Below.heap_setCell _ _ _ _ hb;have hc5:∀ (b i:Nat),b≠Hl→(w4.setCell ⟨Hl,x,none⟩ (.int .i64 (least' q':Int))).drew.cell? ⟨b,i,none⟩=w4.cell? ⟨b,i,none⟩:=fun b i hb=>World.cell?_of_block (hs5 b hb);have c1:=(hc5 w.heap.size 1 (by omega)).trans c1';have e1:=(hc5 Ha x hHa.2.2).trans e1';have e2:=(hc5 Ha q' hHa.2.2).trans e2'
            have f1:=(World.frozen?_of_block (a:=⟨Ha,x,none⟩) (hs5 Ha hHa.2.2)).trans f1';clear hs5 hc5 c0' c1' c2' e1' e2' e3' e4' f1' f2';generalize (w4.setCell ⟨Hl,x,none⟩ (.int .i64 (least' q':Int))).drew=w5 at *;(go_upto_region 13 with fail);(go_region);have HM6:=Lib.hid (GvM.setA HM5.out x (above' q'));have HF6:Hid (FrX (fun b=>b=Ha∨b=Hl) w2 (w5.setCell ⟨Ha,x,none⟩ (.int .i64 (above' q'))).drew):=Lib.hid (HF5.out.setCell (.inl (.inl rfl)) _).drew;clear c1 e1 e2 f1;go_wp2_with fail
            go_roundw
            case rel=>exact ⟨r,_,_,by first | rfl | go_num,by omega,HNX.out,by rw [HIF.out];exact HM6.out,HF6.out⟩
            case measure=>(simp [intOf] <;> try omega)
          · have hd:decide ((early (least' q'):Int)<(early (least' x):Int))=false:=decide_eq_false (by omega);have HIF:Hid ((if early (least' q')<early (least' x) then least' q' else least' x)=least' x):=Lib.hid (if_neg hlt);(have hlt2:¬ ((early (least' q'):Int)<(early (least' x):Int)):=by omega);(go_upto_region 11 with fail);(go_quiet (fail));have HMQ4:=Lib.hid (HMQ.out.of_blocks (w':=wr.drewN nq) rfl rfl rfl);have HFQ4:Hid (FrX (fun b=>b=Ha∨b=Hl) w2 (wr.drewN nq)):=Lib.hid (HFQ.out.trans ⟨rfl,rfl,rfl,Nat.le_refl _,fun _ _ _=>rfl⟩);have c0':(wr.drewN nq).cell? ⟨w.heap.size,0,none⟩=some (.slice (some ⟨He,0,none⟩) k k):=c0;have c1':(wr.drewN nq).cell? ⟨w.heap.size,1,none⟩=some (.slice (some ⟨Ha,0,none⟩) k k):=c1
            have c2':(wr.drewN nq).cell? ⟨w.heap.size,2,none⟩=some (.slice (some ⟨Hl,0,none⟩) k k):=c2;have e1':(wr.drewN nq).cell? ⟨Ha,x,none⟩=some (.int .i64 (q':Int)):=e1;have e2':(wr.drewN nq).cell? ⟨Ha,q',none⟩=some (.int .i64 (above' q')):=e2;have e3':(wr.drewN nq).cell? ⟨Hl,x,none⟩=some (.int .i64 (least' x:Int)):=e3;have e4':(wr.drewN nq).cell? ⟨Hl,q',none⟩=some (.int .i64 (least' q':Int)):=e4;have f1':(wr.drewN nq).frozen? ⟨Ha,x,none⟩=false:=f1;have f2':(wr.drewN nq).frozen? ⟨Hl,x,none⟩=false:=f2;clear c0 c1 c2 e1 e2 e3 e4 e5 e6 f1 f2;generalize wr.drewN nq=w4 at *
            have c1:=c1';have e1:=e1';have e2:=e2';have f1:=f1';clear c0' c1' c2' e1' e2' e3' e4' f1' f2';(go_upto_region 13 with fail);(go_region);have HM6:=Lib.hid (GvM.setA HMQ4.out x (above' q'));have HF6:Hid (FrX (fun b=>b=Ha∨b=Hl) w2 (w4.setCell ⟨Ha,x,none⟩ (.int .i64 (above' q'))).drew):=Lib.hid (HFQ4.out.setCell (.inl (.inl rfl)) _).drew
            clear c1 e1 e2 f1;go_wp2_with fail
            go_roundw
            case rel=>exact ⟨r,_,_,by first | rfl | go_num,by omega,HNX.out,by rw [HIF.out];exact HM6.out.keepL x,HF6.out⟩
            case measure=>(simp [intOf] <;> try omega)
end Go.Proofs.Ytfoggldjjnabcaa
