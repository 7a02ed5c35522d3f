/- The program's backwards, Order, Reached. -/
import Derived.Test.YtfoggldjjnabcaaInfBJ
import Derived.Laws.EntriesVeiled
import Derived.RegionTactic
import Derived.WalkSpells
import Derived.StillTailTactics
namespace Go.Proofs.Ytfoggldjjnabcaa
open Go.ChangeShapes Go.WideShapes Go.RowKit Go.Deep
set_option linter.unusedVariables false
theorem boxes7 (w:World) (M:Nat) (hM:M=w.heap.size) (o0 o1 o2 o3 o4 o5 o6:Obj) (W:World) (hW:W=((((((w.alloc o0).alloc o1).alloc o2).alloc o3).alloc o4).alloc o5).alloc o6) :
    W.heap[M]?=some o0∧W.heap[M+1]?=some o1∧W.heap[M+2]?=some o2∧W.heap[M+3]?=some o3∧W.heap[M+4]?=some o4∧W.heap[M+5]?=some o5∧W.heap[M+6]?=some o6∧W.heap.size=M+7∧Below M w W:=by
  subst hM hW;(have hz (u:World) (o:Obj):(u.alloc o).heap.size=u.heap.size+1:=by simp);have hg (u:World) (o:Obj) (k:Nat):(u.alloc o).heap[k]?=if k=u.heap.size then some o else u.heap[k]?:=by
    show (u.heap.push o)[k]?=_;rw [Array.getElem?_push]
  refine ⟨?_,?_,?_,?_,?_,?_,?_,?_,?_⟩
  · (simp only [hg,hz];repeat rw [if_neg (by omega)]);exact if_pos (by first | trivial | omega)
  · (simp only [hg,hz];repeat rw [if_neg (by omega)]);exact if_pos (by first | trivial | omega)
  · (simp only [hg,hz];repeat rw [if_neg (by omega)]);exact if_pos (by first | trivial | omega)
  · (simp only [hg,hz];repeat rw [if_neg (by omega)]);exact if_pos (by first | trivial | omega)
  · (simp only [hg,hz];repeat rw [if_neg (by omega)]);exact if_pos (by first | trivial | omega)
  · (simp only [hg,hz];repeat rw [if_neg (by omega)]);exact if_pos (by first | trivial | omega)
  · (simp only [hg,hz];repeat rw [if_neg (by omega)]);exact if_pos (by first | trivial | omega)
  · simp [hz]
  · refine (((((((Below.refl _ w).alloc ?_ _).alloc ?_ _).alloc ?_ _).alloc ?_ _).alloc ?_ _).alloc ?_ _).alloc ?_ _;all_goals (simp [hz];try omega)
theorem doneL_rest (nx:Nat→List Nat) {n:Nat} (hn:n≠0):rest nx (n - 1) 0 (nx 0) ⟨mark ql 0,[]⟩=visit nx n 0 ⟨ql,[]⟩:=by
  obtain ⟨m,rfl⟩:∃ m,n=m+1:=⟨n - 1,by omega⟩
  rfl
theorem doneL_out (nx:Nat→List Nat) {n:Nat} (hn:n≠0):doneL nx n=(visit nx n 0 ⟨ql,[]⟩).out:=by unfold doneL;rw [if_neg hn]
set_option maxRecDepth 100000 in
set_option maxHeartbeats 8000000 in
theorem backwards_any (G K n:Nat) (V:Nat→Value) (nx:Nat→List Nat) (w:World) (h:Gri w G K n V (fun i=>zs (nx i))) (hn:n≤1000) (hnx:∀ x,∀ t∈nx x,t<n) :
    Calls Try.prog 53 #[.slice (some ⟨G,0,none⟩) n n] w fun e w'=>(∃ vd,e=.returned vd∧w'.ownsRow w.heap.size 3 1 vd (doneL nx n).length ((zs (doneL nx n)).map (Value.int .i64)))∧BB w.heap.size G w w':=by
  by_cases hn0:n=0
  · subst hn0;have e:doneL nx 0=[]:=rfl;rw [e];(go_enter Try.func53,Try.ntmps53);(go_wp2_with fail);(go_ret);exact ⟨⟨_,rfl,World.ownsRow_nil _ _ _ _⟩,(BB.refl _ _ _).alloc (Nat.le_refl _) _⟩
  · (have hpos:0<n:=by omega);(have hne:((n:Int) == 0)=false:=by simp;omega);have hmf:∀ (fn:Fn) (first cap:Array Value) (w:World),(Instr.makeFunc fn first cap).run Try.prog w=.ok (.func fn first cap) w:=fun _ _ _ _=>rfl;have hmk:=run_make_row' (P:=Try.prog) 59 4 (.bool false) 1 Try.underlying59 Try.info4 rfl .i64 .i64 n (by omega) (by omega);clear hn0;(go_enter Try.func53,Try.ntmps53);(go_upto_region 8 with fail);clear hmk hmf;obtain ⟨M,hM⟩:∃ M,M=w.heap.size:=⟨_,rfl⟩
    rw [← hM]
    obtain ⟨W,hW⟩:∃ W,W=((((((w.alloc (.cells #[.slice (some ⟨G,0,none⟩) n n] 60)).alloc (.cells (madeCells #[.bool false] n) 4)).alloc (.cells #[.slice (some ⟨M+1,0,none⟩) n n] 59)).alloc (.cells #[.slice none 0 0] 28)).alloc (.cells #[.slice none 0 0] 28)).alloc
      (.cells #[.func (.func 72) #[] #[.pointer (some ⟨M+1+1,0,none⟩),.pointer (some ⟨M+1+1+1+1,0,none⟩)]] 119)).alloc
      (.cells #[.func (.func 73) #[] #[.pointer (some ⟨M,0,none⟩),.pointer (some ⟨M+1+1,0,none⟩),.pointer (some ⟨M+1+1+1+1+1,0,none⟩),.pointer (some ⟨M+1+1+1+1+1+1,0,none⟩),.pointer (some ⟨M+1+1+1+1,0,none⟩),.pointer (some ⟨M+1+1+1,0,none⟩)]] 110):=⟨_,rfl⟩
    rw [← hW];obtain ⟨b0,b1,b2,b3,b4,b5,b6,hsz,hbel⟩:=boxes7 w M hM _ _ _ _ _ _ _ W hW;clear hW;(have hGM:G<M:=by rw [hM];exact h.row.lt);have hbw:BW W M G n ql nx V [] [] (.slice none 0 0) (.slice none 0 0):=by
      refine ⟨b0,b2,b3,b4,b5,b6,⟨_,b1,size_madeCells _ _,fun i hi=>?_⟩,h.row.of_block (hbel.block G hGM),fun x hx=>?_,World.ownsRow_nil _ _ _ _,World.ownsRow_nil _ _ _ _,.inl rfl,fun x _=>hnx x,hGM⟩
      · simp [madeCells,hi,Nat.mod_one,ql]
      · (have hg:=h.below (w':=W) (by rw [← hM];exact hbel));(obtain ⟨A,c,e,hs⟩:=slB_of_own (h.own x hx) (fun y hy=>by obtain ⟨q,hq,rfl⟩:=zs_mem hy;have:=hnx x q hq;unfold I64;omega) (B:=fun b=>b<M∧b≠G) (fun g h1 h2=>⟨by omega,fun e=>by have:=h.lt;omega⟩));rw [qP] at e;exact ⟨A,c,e,SIntsB.go (fun a v hb ha=>(World.cell?_of_block (hbel.block _ hb.1)).trans ha) (fun _ hb=>hb) hs⟩
    have HBEL:Hid (BB M G w W):=Lib.hid (BB.of_below hbel (Nat.le_refl _));have heb:W.cell? ⟨M+1+1+1+1+1,0,none⟩=some (.func (.func 72) #[] #[.pointer (some ⟨M+1+1,0,none⟩),.pointer (some ⟨M+1+1+1+1,0,none⟩)]):=q5 b5 0;have HE:=Lib.hid (enterG_any M G n 0 ql nx V [] [] _ _ W hbw hpos (by omega) (by simp));have HMW:=Lib.hid hM;clear b0 b1 b2 b3 b4 b5 b6 hsz hbel hbw hM;(go_wp2_with fail);refine HE.out.mono ?_;rintro e w2 ⟨rfl,⟨vo,hw2⟩,hbb2⟩;have HB2:Hid (BB M G w w2):=Lib.hid (HBEL.out.trans hbb2)
    have HW2:=Lib.hid hw2;clear heb HE HBEL hw2 hbb2;go_wp2_with fail
    go_loopw [] (fun wr=>((∃ vo vd,BW wr M G n (mark ql 0) nx V [0] [] vo vd)∨(∃ S R V' vo vd,BW wr M G n S R V' [] (doneL nx n) vo vd))∧BB M G w wr) (fun wr=>lenAt (M+4) 0 wr)
    case atStart=>exact ⟨.inl ⟨_,_,HW2.out⟩,HB2.out⟩
    case round =>
      obtain ⟨hor,hbb⟩:=hrel;have HBB:=Lib.hid hbb;clear hbb HW2 HB2;rcases hor with ⟨vo,vd,hw⟩ | ⟨S,R,V',vo,vd,hw⟩
      · have HW:=Lib.hid hw;obtain ⟨g,cap,hvo,hlast,hcap,hcm,-,-⟩:=own_pop (xs:=[]) (x:=0) hw.ownO;subst hvo;have hob:wr.cell? ⟨M+1+1+1+1,0,none⟩=some (.slice (some ⟨g,0,none⟩) 1 cap):=q5 hw.obox 0;have hrb:wr.cell? ⟨M+1+1+1+1+1+1,0,none⟩=some (.func (.func 73) #[] #[.pointer (some ⟨M,0,none⟩),.pointer (some ⟨M+1+1,0,none⟩),.pointer (some ⟨M+1+1+1+1+1,0,none⟩),.pointer (some ⟨M+1+1+1+1+1+1,0,none⟩),.pointer (some ⟨M+1+1+1+1,0,none⟩),.pointer (some ⟨M+1+1+1,0,none⟩)]):=q5 hw.rbox 0;have hob':wr.cell? ⟨M+4,0,none⟩=some (.slice (some ⟨g,0,none⟩) 1 cap):=hob;have hrb':wr.cell? ⟨M+6,0,none⟩=some (.func (.func 73) #[] #[.pointer (some ⟨M,0,none⟩),.pointer (some ⟨M+1+1,0,none⟩),.pointer (some ⟨M+1+1+1+1+1,0,none⟩),.pointer (some ⟨M+1+1+1+1+1+1,0,none⟩),.pointer (some ⟨M+1+1+1+1,0,none⟩),.pointer (some ⟨M+1+1+1,0,none⟩)]):=hrb;have hl0:wr.cell? ⟨g,0,none⟩=some (.int .i64 0):=hlast;have hun:=unseen_mark (S:=ql) (b:=0) rfl hpos
        have hul:=unseen_le n ql;(have HG:=Lib.hid (goOn_any M G n nx (by omega) hnx (n - 1) 0 0 (nx 0) (mark ql 0) nx V [] [] _ _ wr.drew (hw.drewN 1) hpos (mark_same _ _) rfl (fun _ _ _=>rfl) (by omega) (by omega) (by simp;omega) (by simp;omega)));have HL:Hid (lenAt (M+4) 0 wr=1):=Lib.hid (lenAt_of hob);clear hw hlast hun hul;(go_upto_region 10 with fail);(have hw0:IntKind.i64.wrap (0:Int)=0:=by decide);(go_still_tail 7,(by kernel_rfl));change wpList _ _ _ _ _ wr.drew;go_wp2_with fail
        refine HG.out.mono ?_;rintro e w3 ⟨rfl,R',V',vo',vd',hw3,-,-,hbb3⟩;rw [doneL_rest nx (by omega),← doneL_out nx (by omega)] at hw3;have HW3:=Lib.hid hw3
        have HM:Hid (lenAt (M+4) 0 w3<lenAt (M+4) 0 wr):=Lib.hid (by
          rcases hw3.ownO.2 with ⟨e,_⟩ | ⟨g3,c3,cur3,e,_⟩
          · have h1:w3.cell? ⟨M+4,0,none⟩=some vo':=q5 hw3.obox 0;rw [e] at h1;rw [HL.out,lenAt_of h1];omega
          · have h1:w3.cell? ⟨M+4,0,none⟩=some vo':=q5 hw3.obox 0;rw [e] at h1
            rw [HL.out,lenAt_of h1];simp)
        have HB3:Hid (BB M G w w3):=Lib.hid (HBB.out.trans ((BB.refl M G wr).drew.trans hbb3));clear hw3 hbb3 hob hrb hob' hrb' hl0 HG;go_wp2_with fail
        go_roundw
        case rel=>exact ⟨.inr ⟨_,_,_,_,_,HW3.out⟩,HB3.out⟩
        case measure=>exact HM.out
      · have HW:=Lib.hid hw;have h1:wr.cell? ⟨M+1+1+1+1,0,none⟩=some vo:=q5 hw.obox 0;have h2:wr.cell? ⟨M+1+1+1,0,none⟩=some vd:=q5 hw.dbox 0;have hown:=own_base hw.ownD (base':=M) (by omega);have hvo:∃ A c,vo=.slice A 0 c:=by
          rcases hw.ownO.2 with ⟨e,_⟩ | ⟨g3,c3,cur3,e,_⟩
          · exact ⟨_,_,e⟩
          · exact ⟨_,_,e⟩
        obtain ⟨A,c,rfl⟩:=hvo;have HO:=Lib.hid hown;clear hw hown;(go_wp2_with fail);(go_ret);exact ⟨⟨_,rfl,by rw [← HMW.out];exact HO.out⟩,by rw [← HMW.out];exact HBB.out⟩
def Turned (l l':List Nat) (i:Nat):Prop:=l'.length=l.length∧∀ p,p<l.length→l'[p]?=if p<i∨l.length - 1 - i<p then l[l.length - 1 - p]? else l[p]?
theorem Turned.zero (l:List Nat):Turned l l 0:=⟨rfl,fun p hp=>by rw [if_neg (by omega)]⟩
theorem Turned.all {l l':List Nat} {i:Nat} (h:Turned l l' i) (hi:l.length≤2 * i+1):l'=l.reverse:=by
  apply List.ext_getElem?;intro p
  by_cases hp:p<l.length
  · rw [h.2 p hp,List.getElem?_reverse hp]
    split
    · rfl
    · congr 1;omega
  · rw [List.getElem?_eq_none (by rw [h.1];omega),List.getElem?_eq_none (by simp;omega)]
theorem Turned.step {l l':List Nat} {i x y:Nat} (h:Turned l l' i) (hi:i<l.length - 1 - i) (hx:l'[i]?=some x) (hy:l'[l.length - 1 - i]?=some y):Turned l ((l'.set i y).set (l.length - 1 - i) x) (i+1):=by
  have e1:=h.2 i (by omega);have e2:=h.2 (l.length - 1 - i) (by omega);rw [if_neg (by omega),hx] at e1;rw [if_neg (by omega),hy] at e2;refine ⟨by simp [h.1],fun p hp=>?_⟩;rw [List.getElem?_set,List.getElem?_set];have hl:=h.1
  by_cases c1:l.length - 1 - i=p
  · subst c1;rw [if_pos rfl,if_pos (by simp;omega),if_pos (by omega),show l.length - 1 - (l.length - 1 - i)=i by omega,← e1]
  · rw [if_neg c1]
    by_cases c2:i=p
    · subst c2;rw [if_pos rfl,if_pos (by omega),if_pos (by omega),← e2]
    · rw [if_neg c2,h.2 p hp]
      by_cases c3:p<i∨l.length - 1 - i<p
      · rw [if_pos c3,if_pos (by omega)]
      · rw [if_neg c3,if_neg (by omega)]
theorem grown_refl (w:World) (row:Option Nat):w.grownBy w row:=⟨rfl,rfl,rfl,Nat.le_refl _,fun _ _ _=>rfl⟩
theorem grown_trans {a b c:World} {row:Option Nat} (h:a.grownBy b row) (k:b.grownBy c row):a.grownBy c row :=
  ⟨k.os.trans h.os,k.tape.trans h.tape,k.output.trans h.output,Nat.le_trans h.size k.size,fun i h1 h2=>(k.block i (Nat.lt_of_lt_of_le h1 h.size) h2).trans (h.block i h1 h2)⟩
theorem grown_drew (w:World) (row:Option Nat):w.grownBy w.drew row:=⟨rfl,rfl,rfl,Nat.le_refl _,fun _ _ _=>rfl⟩
theorem own_cell {w:World} {base n cap g:Nat} {l:List Nat} {i x:Nat} (h:w.ownsRow base 3 1 (.slice (some ⟨g,0,none⟩) n cap) n ((zs l).map (Value.int .i64))) (hi:l[i]?=some x):w.cell? ⟨g,i,none⟩=some (.int .i64 x):=by
  have:=h.cells (g:=g) rfl i (.int .i64 x) (by simp [zs,hi])
  rwa [show (⟨g,0,none⟩:Addr).add i=⟨g,i,none⟩ by unfold Addr.add;split <;> simp_all] at this
theorem zs_set (l:List Nat) (i x:Nat):((zs l).map (Value.int .i64)).set i (.int .i64 x)=(zs (l.set i x)).map (Value.int .i64):=by
  simp only [zs,List.map_set]
theorem ownsRow_drew {w:World} {base n size:Nat} {e:TypeId} {v:Value} {xs:List Value} (h:w.ownsRow base e size v n xs):w.drew.ownsRow base e size v n xs:=h
set_option maxRecDepth 100000 in
set_option maxHeartbeats 4000000 in
theorem reverse_any (base:Nat) (l:List Nat) (v:Value) (w:World) (h:w.ownsRow base 3 1 v l.length ((zs l).map (Value.int .i64))) (hl:l.length≤1000000) :
    Calls Try.prog 54 #[v] w fun e w'=>e=.returned (.tuple #[])∧w'.ownsRow base 3 1 v l.length ((zs l.reverse).map (Value.int .i64))∧w.grownBy w' v.ownBlock:=by
  have h0:=h;rcases h.2 with ⟨hv,hn⟩ | ⟨g,cap,cur,hv,-⟩
  · subst hv;obtain rfl:l=[]:=List.length_eq_zero_iff.1 hn;clear h h0 hl hn;(go_enter Try.func54,Try.ntmps54);go_wp2_with fail
    go_loopw [2,3] (fun s2 s3 wr=>s2=.int .i64 0∧s3=.int .i64 (-1)∧wr=w) (fun _ _ _=>0)
    case atStart=>exact ⟨rfl,rfl,rfl⟩
    case round =>
      obtain ⟨rfl,rfl,rfl⟩:=hrel;(go_wp2_with fail);(go_end0);exact ⟨rfl,World.ownsRow_nil _ _ _ _,grown_refl _ _⟩
  · subst hv;have HO:=Lib.hid h;clear h h0;(go_enter Try.func54,Try.ntmps54);go_wp2_with fail
    go_loopw [2,3] (fun s2 s3 wr=>∃ (i:Nat) (jz:Int) (l':List Nat),s2=.int .i64 i∧s3=.int .i64 jz∧jz=(l.length:Int) - 1 - i∧i≤l.length∧Turned l l' i∧wr.ownsRow base 3 1 (.slice (some ⟨g,0,none⟩) l.length cap) l.length ((zs l').map (Value.int .i64))∧w.grownBy wr (some g)) (fun s2 _ _=>l.length - (intOf s2).toNat)
    case atStart=>exact ⟨0,_,l,rfl,rfl,by omega,Nat.zero_le _,Turned.zero l,HO.out,grown_refl _ _⟩
    case round =>
      obtain ⟨i,jz,l',rfl,rfl,hjz,hi,ht,hown,hg⟩:=hrel;have HJ:=Lib.hid hjz;have HT:=Lib.hid ht;have HOW:=Lib.hid hown;have HG:=Lib.hid hg;clear hjz ht hown hg HO
      by_cases hlt:(i:Int)<jz
      · obtain ⟨j,rfl⟩:∃ j:Nat,jz=j:=⟨jz.toNat,by omega⟩;(have hij:i<j:=by omega);(have hjl:j<l.length:=by have:=HJ.out;omega);(have HJN:Hid (j=l.length - 1 - i):=Lib.hid (by have:=HJ.out;omega));(obtain ⟨x,hx⟩:∃ x,l'[i]?=some x:=⟨_,List.getElem?_eq_getElem (by rw [HT.out.1];omega)⟩);(obtain ⟨y,hy⟩:∃ y,l'[j]?=some y:=⟨_,List.getElem?_eq_getElem (by rw [HT.out.1];omega)⟩);have ci:wr.cell? ⟨g,i,none⟩=some (.int .i64 x):=own_cell HOW.out hx;have cj:wr.cell? ⟨g,j,none⟩=some (.int .i64 y):=own_cell HOW.out hy;have fi:=HOW.out.frozenAt i
        have fj:=HOW.out.frozenAt j;have HX:=Lib.hid hx;have HY:=Lib.hid hy;clear hx hy;(go_wp2_with fail);(go_region);all_goals
          (go_wp2_with fail);have h1:=HOW.out.stored i (.int .i64 y);have h2:=h1.1.stored j (.int .i64 x);rw [zs_set,zs_set] at h2;have h3:Turned l ((l'.set i y).set j x) (i+1):=by
            have:=HT.out.step (by have:=HJN.out;omega) HX.out (by rw [← HJN.out];exact HY.out)
            rwa [← HJN.out] at this
          have HS:=Lib.hid (ownsRow_drew h2.1);have HGR:=Lib.hid (grown_trans HG.out (grown_trans (grown_trans h1.2 h2.2) (grown_drew _ _)))
          go_roundw
          case rel=>exact ⟨i+1,(j:Int) - 1,(l'.set i y).set j x,by go_num,rfl,by have:=HJ.out;push_cast;omega,by omega,h3,HS.out,HGR.out⟩
          case measure=>simp [intOf];omega
      · have hnot:¬ ((i:Int)<jz):=hlt;(have hlen:Hid (l.length≤2 * i+1):=Lib.hid (by have:=HJ.out;omega));(go_wp2_with fail);(go_end0);exact ⟨rfl,by rw [← HT.out.all hlen.out];exact HOW.out,HG.out⟩
theorem orderF_len (bs:List BlkD):(qK bs).length≤bs.length:=orderL_len (qe bs)
theorem orderF_lt {bs:List BlkD} {x:Nat} (h:x∈qK bs):x<bs.length:=orderL_lt (qe bs) h
theorem doneL_len (nx:Nat→List Nat) (n:Nat):(orderL nx n).length=(doneL nx n).length:=by simp [orderL]
theorem below_grown {n:Nat} {w w':World} {row:Option Nat} (h:w.grownBy w' row) (hr:∀ k,row=some k→n≤k) (hn:n≤w.heap.size):Below n w w' :=
  ⟨h.os,h.tape,h.output,h.size,fun k hk=>h.block k (by omega) (fun e=>by have:=hr k e.symm;omega)⟩
def ToldO_ (bs:List BlkD) (w:World) (e:Ending) (w':World):Prop :=
  (∃ v,e=.returned v∧w'.ownsRow w.heap.size 3 1 v (qK bs).length ((zs (qK bs)).map (Value.int .i64)))∧Below w.heap.size w w'
set_option maxRecDepth 100000 in
set_option maxHeartbeats 4000000 in
theorem order_any (f:FunD) (v:Value) (w:World) (hv:VFun w v f) (hn:f.blocks.length≤1000) :
    Calls Try.prog 40 #[v] w (ToldO_ f.blocks w):=by
  have hv0:=hv;obtain ⟨Ar,cr,A,c,rfl,hr,hb,hp64,hr64⟩:=hv;clear hr hb hp64 hr64;(go_enter Try.func40,Try.ntmps40);(go_upto_region 1 with fail);obtain ⟨w1,hw1,hs1,hk1,hbel1,hc1,-⟩:=named w #[.int .i64 f.params,.int .i64 f.result,.slice Ar f.regs.length cr,.slice A f.blocks.length c] 31;rw [← hw1];have c0:=hc1 0 _ rfl;have c1:=hc1 1 _ rfl
  have c2:=hc1 2 _ rfl;have c3:=hc1 3 _ rfl;have HB1:=Lib.hid hbel1;have HN:=Lib.hid (next_any f _ w1 (VFun.keep hk1 hv0) (by omega));clear hw1 hs1 hbel1 hc1 hv0 hk1;(go_wp2_with fail);refine HN.out.mono ?_;rintro e w2 ⟨⟨V,G,rfl,hG,hg⟩,hb2⟩;have HB2:Hid (Below w.heap.size w w2):=Lib.hid (HB1.out.trans (hb2.mono HB1.out.size))
  have HK:=Lib.hid (backwards_any G (G+2) f.blocks.length V (nxF f.blocks) w2 hg hn (qe f.blocks));have HG:Hid (w.heap.size≤G):=Lib.hid (Nat.le_trans HB1.out.size hG);clear c0 c1 c2 c3 hG hg hb2 HN;(go_wp2_with fail);refine HK.out.mono ?_;rintro e w3 ⟨⟨vd,rfl,hown⟩,hb3⟩;have HB3:Hid (Below w.heap.size w w3):=Lib.hid (HB2.out.trans (hb3.below HB2.out.size HG.out));have hown':=own_base hown (base':=w.heap.size) HB2.out.size;have HR:=Lib.hid (reverse_any w.heap.size (doneL (nxF f.blocks) f.blocks.length) vd w3 hown' (by have:=orderF_len f.blocks;rw [← doneL_len];unfold qK at this;omega))
  have HO:=Lib.hid hown';clear hown hown' hb3 HK;(go_wp2_with fail);refine HR.out.mono ?_;rintro e w4 ⟨rfl,hown4,hg4⟩;have HO4:=Lib.hid hown4;have HB4:Hid (Below w.heap.size w w4):=Lib.hid (HB3.out.trans (below_grown hg4 (fun k hk=>(HO.out.lt k hk).1) HB3.out.size));clear hown4 hg4 HR;go_wp2_with fail
  (go_ret);exact ⟨⟨vd,rfl,by have:=HO4.out;rw [← doneL_len] at this;exact this⟩,HB4.out⟩
def ToldR_ (bs:List BlkD) (w:World) (e:Ending) (w':World):Prop :=
  (∃ H,e=.returned (.slice (some ⟨H,0,none⟩) bs.length bs.length)∧w.heap.size≤H∧w'.rowIs H 4 bs.length (fun x=>.bool (qE bs x)))∧Below w.heap.size w w'
def tookB (l:List Nat) (k x:Nat):Bool:=decide (x∈l.take k)
theorem takesB_succ {l:List Nat} {k q:Nat} (h:l[k]?=some q) (x:Nat):tookB l (k+1) x=if x=q then true else tookB l k x:=by
  unfold tookB;rw [qC h]
  by_cases e:x=q
  · simp [e]
  · simp [e]
theorem takesB_all {bs:List BlkD} {k:Nat} (h:(qK bs).length≤k) (x:Nat):tookB (qK bs) k x=qE bs x:=by
  unfold tookB qE reachB qK at *;rw [List.take_of_length_le h]
theorem wpList_append_runs {ops:Array Oper} {rest:List Oper} {o:Oper} {a:Act} {w:World} {Q:Exit→Act→World→Prop} (hgd:o.guard=none) (s x:Operand) (t t':TypeId)
    (ho:o.op=.call { callee:=.builtin .append,args:=#[s,x],argTypes:=#[t,t'] }) (vs vx:Value) (hs:a.eval s=vs) (hx:a.eval x=vx) {v':Value} {w':World}
    (hr:(Builtin.append_ #[t,t'] o.type #[vs,vx]).run Try.prog w=.ok v' w')
    (h:wpList Try.prog ops Q rest (a.put o.dst v') w'):wpList Try.prog ops Q (o::rest) a w:=by
  refine wpList_plain hgd fun K hK=>?_;unfold Oper.wp execOp;simp only [ho,resolve,invoke,builtin,Sem.run_bind,Sem.run_pure,Result.andThen_ok,List.map_toArray,List.map_cons,List.map_nil,hs,hx,hr];exact hK _ _ h
def ToldC_ (xs:List Int) (w:World) (e:Ending) (w':World):Prop:=(∃ v,e=.returned v∧w'.ownsRow w.heap.size 3 1 v xs.length (xs.map (Value.int .i64)))∧Below w.heap.size w w'
set_option maxRecDepth 100000 in
theorem qt (xs:List Int) (v:Value) (w:World) (hv:VS w 1 RInt v xs) (hn:xs.length≤1000000):Calls Try.prog 26 #[v] w (ToldC_ xs w):=by
  obtain ⟨A,c,rfl,hs⟩:=hv;have heq:=Lib.run_eql_slice_nil (P:=Try.prog) w 28 3 A xs.length c 0 0 Try.underlying28;cases A with
  | none =>
    obtain rfl:xs=[]:=by
      rcases Nat.eq_zero_or_pos xs.length with h0 | h0
      · exact List.length_eq_zero_iff.1 h0
      · obtain ⟨b,o,e,_⟩:=hs.2.2 h0;cases e
    obtain rfl:c=0:=hs.2.1.2 rfl;clear hs heq;have heq:=Lib.run_eql_slice_nil (P:=Try.prog) w 28 3 none 0 0 0 0 Try.underlying28;(go_enter Try.func26,Try.ntmps26);(go_wp2_with (simp only [heq,Option.isNone]));(go_ret);exact ⟨⟨_,rfl,World.ownsRow_nil _ _ _ _⟩,Below.refl _ _⟩
  | some ad =>
    obtain ⟨v',w',hr,-,hg,hown,-⟩:=run_append_copy 28 (w:=w.alloc (.cells #[] 3)) (heap_alloc_new w (.cells #[] 3)) (SInts.keep (qN w _) hs) rfl hn;(have hB:Below w.heap.size w w':=((Below.refl w.heap.size w).alloc (Nat.le_refl _) (.cells #[] 3)).grown hg (by simp) (fun k hk=>by have:=Option.some.inj hk;omega));have HF:=Lib.hid (And.intro hown hB);clear hown hB hg hs;(go_enter Try.func26,Try.ntmps26);(go_wp2_with (first | (at_builtin;refine wpList_append_runs rfl (.tmp 5) (.tmp 6) 28 28 rfl _ _ rfl rfl hr ?_) | simp only [heq,Option.isNone]));(go_ret);exact ⟨⟨v',rfl,HF.out.1⟩,HF.out.2⟩
def ToldNums (r:Nat→Bool) (n:Nat) (w:World) (e:Ending) (w':World):Prop :=
  (∃ G,e=.returned (.slice (some ⟨G,0,none⟩) n n)∧w.heap.size≤G∧w'.rowIs G 3 n (fun i=>.int .i64 (numB r i)))∧Below w.heap.size w w'
set_option maxRecDepth 100000 in
set_option maxHeartbeats 4000000 in
theorem numbersOf_any (H n:Nat) (r:Nat→Bool) (w:World) (hrow:w.rowIs H 4 n (fun x=>.bool (r x))) (hn:n≤1000000) :
    Calls Try.prog 24 #[.slice (some ⟨H,0,none⟩) n n] w (ToldNums r n w):=by
  have hmk2:=run_make_row' (P:=Try.prog) 28 3 (.int .i64 0) 8 Try.underlying28 Try.info3 rfl .i64 .i64 n (by omega) (by omega);(go_enter Try.func24,Try.ntmps24);(go_wp2_with fail);clear hmk2;have hg0:=World.rowIs_made w (.int .i64 0) n 3;have hb0:Below w.heap.size w (w.alloc (.cells (madeCells #[.int .i64 0] n) 3)):=(Below.refl _ _).alloc (Nat.le_refl _) _;obtain ⟨G,hG⟩:∃ G,G=w.heap.size:=⟨_,rfl⟩;have HG:=Lib.hid hG;have hr0:=hrow.of_block (hb0.block H hrow.lt)
  (have hHG:H<G:=by rw [hG];exact hrow.lt);rw [← hG] at hg0 hb0 ⊢;generalize w.alloc (.cells (madeCells #[.int .i64 0] n) 3)=w1 at *;clear hrow hG
  go_loopw [4,12] (fun m i wr=>∃ k:Nat,k≤n∧i=.int .i64 k∧m=.int .i64 ((List.range k).countP r)∧wr.rowIs H 4 n (fun x=>.bool (r x))∧wr.rowIs G 3 n (fun j=>.int .i64 (if j<k then numB r j else 0))∧Below G w wr) (fun _ i _=>n - (intOf i).toNat)
  case atStart=>exact ⟨0,Nat.zero_le _,rfl,rfl,hr0,hg0.congr fun j _=>by simp,hb0⟩
  case round =>
    obtain ⟨k,hk,rfl,rfl,hrr,hgr,hbr⟩:=hrel;have HRR:=Lib.hid hrr;have HBR:=Lib.hid hbr
    by_cases hlt:k<n
    · have hc:=hrr.cell hlt;have hgc:=hgr.cell hlt;have hgf:=hgr.frozen k;have hcs:=countP_range_succ r k;have hcl:=countP_range_le r k;have hset (x:Int) (hx:x=numB r k):=(hgr.set k (.int .i64 x)).congr (g:=fun j=>.int .i64 (if j<k+1 then numB r j else 0)) fun j _=>by
        by_cases e:j=k
        · subst e;simp [hx]
        · (have:(j<k+1)=(j<k):=by rw [eq_iff_iff];omega);simp only [if_neg e,this]
      have HSET:=Lib.hid hset;have HCS:=Lib.hid hcs;clear hset hcs hrr hgr hbr;cases hrk:r k
      · rw [hrk] at hc;(have hm:Hid ((-1:Int)=numB r k):=Lib.hid (by unfold numB;rw [hrk];rfl));(have hcc:Hid ((List.range (k+1)).countP r=(List.range k).countP r):=Lib.hid (by rw [HCS.out,hrk];rfl));clear hrk;generalize (List.range k).countP r=m at *;go_wp2_with fail
        go_roundw
        case rel=>exact ⟨k+1,by omega,by go_num,by rw [hcc.out],HRR.out.setOther (by show H≠G;omega) _,HSET.out _ hm.out,HBR.out.setCell (by show G≤G;omega) _⟩
        case measure=>simp [intOf];omega
      · rw [hrk] at hc;(have hm:Hid ((((List.range k).countP r:Nat):Int)=numB r k):=Lib.hid (by unfold numB;rw [if_pos hrk]));(have hcc:Hid ((List.range (k+1)).countP r=(List.range k).countP r+1):=Lib.hid (by rw [HCS.out,hrk];rfl));clear hrk;generalize (List.range k).countP r=m at *;go_wp2_with fail
        go_roundw
        case rel=>exact ⟨k+1,by omega,by go_num,by rw [hcc.out];go_num,HRR.out.setOther (by show H≠G;omega) _,HSET.out _ hm.out,HBR.out.setCell (by show G≤G;omega) _⟩
        case measure=>simp [intOf];omega
    · have HGR:=Lib.hid (hgr.congr (g:=fun j=>.int .i64 (numB r j)) fun j hj=>by rw [if_pos (by omega)]);clear hgr;(go_wp2_with fail);(go_ret);exact ⟨⟨G,rfl,by have:=HG.out;omega,HGR.out⟩,by rw [← HG.out];exact HBR.out⟩
def AJ (bs:List BlkD) (k j i:Nat):List Int:=qF (bs.take k) i++(if i∈(nxF bs k).take j then [(k:Int)] else [])
theorem AJ_zero (bs:List BlkD) (k i:Nat):AJ bs k 0 i=qF (bs.take k) i:=by simp [AJ]
theorem AJ_all {bs:List BlkD} {k:Nat} (hk:k<bs.length) {i:Nat} (hi:i<bs.length) {j:Nat} (hj:(nxF bs k).length≤j):AJ bs k j i=AJ bs (k+1) 0 i:=by
  rw [AJ_zero];have hb:bs[k]?=some bs[k]:=List.getElem?_eq_getElem hk;rw [aheadL_step i hb];unfold AJ;rw [List.take_of_length_le hj];(congr 1);have:(i∈nxF bs k)↔hasTo i bs[k].term.to=true:=by
    rw [nxF_mem hb];unfold hasTo;rw [List.any_eq_true];constructor
    · rintro ⟨_,h⟩;exact ⟨_,h,by simp⟩
    · rintro ⟨x,hx,e⟩;rw [beq_iff_eq] at e;exact ⟨hi,e ▸ hx⟩
  by_cases h:i∈nxF bs k
  · rw [if_pos h,if_pos (this.1 h)]
  · rw [if_neg h,if_neg (fun e=>h (this.2 e))]
theorem AJ_new {bs:List BlkD} {k j q:Nat} (hq:(nxF bs k)[j]?=some q) (i:Nat):(if i=q then AJ bs k j q++[(k:Int)] else AJ bs k j i)=AJ bs k (j+1) i:=by
  (have hnd:(nxF bs k).Nodup:=by unfold nxF;split;exact nextN_nodup _ _;simp);have hnot:q ∉ (nxF bs k).take j:=by
    have:=hnd;rw [← List.take_append_drop j (nxF bs k),List.nodup_append] at this;intro h;refine this.2.2 q h q ?_ rfl;(have h2:((nxF bs k).drop j)[0]?=some q:=by rw [List.getElem?_drop];exact hq);exact List.mem_of_getElem? h2
  unfold AJ;rw [qC hq]
  by_cases e:i=q
  · subst e;rw [if_pos rfl,if_neg hnot,if_pos (by simp)];simp
  · rw [if_neg e];congr 1
    by_cases h:i∈(nxF bs k).take j
    · rw [if_pos h,if_pos (by simp [h])]
    · rw [if_neg h,if_neg (by simp [h,e])]
theorem AJ_len (bs:List BlkD) (k j i:Nat):(AJ bs k j i).length≤bs.length+1:=by
  unfold AJ;have:=aheadK_len (bs.take k) 0 i;rw [List.length_append,qF];have h2:(bs.take k).length≤bs.length:=by simp;omega
  split <;> simp <;> omega
theorem AJ_i64 (bs:List BlkD) (k j i:Nat) (hk:k≤1000000) (h:bs.length≤1000000):∀ x∈AJ bs k j i,I64 x:=by
  intro x hx;unfold AJ at hx;rcases List.mem_append.1 hx with hx | hx
  · exact aheadL_i64 _ _ (by simp;omega) x hx
  · split at hx
    · rw [List.mem_singleton.1 hx];unfold I64;omega
    · simp at hx
def ToldA_ (bs:List BlkD) (w:World) (e:Ending) (w':World):Prop :=
  (∃ V G K,e=.returned (.slice (some ⟨G,0,none⟩) bs.length bs.length)∧w.heap.size≤G∧Gri w' G K bs.length V (fun i=>qF bs i))∧Below w.heap.size w w'
set_option maxRecDepth 100000 in
set_option maxHeartbeats 8000000 in
theorem aheadOf_any (f:FunD) (v:Value) (w:World) (hv:VFun w v f) (hn:f.blocks.length≤1000) :
    Calls Try.prog 25 #[v] w (ToldA_ f.blocks w):=by
  have hv0:=hv;obtain ⟨Ar,cr,A,c,rfl,-,-,-,-⟩:=hv;have HV:=Lib.hid hv0;obtain ⟨i0,hi,hz0,hz1,hz2⟩:=info_parts Try.info3;have HI:=Lib.hid (And.intro hi (And.intro hz0 (And.intro hz1 hz2)));clear hi hz0 hz1 hz2 hv0;have hmk:=run_make_row' (P:=Try.prog) 60 28 (.slice none 0 0) 24 Try.underlying60 Try.info28 rfl .i64 .i64 f.blocks.length (by omega) (by omega);(go_enter Try.func25,Try.ntmps25);go_upto_region 2 with fail
  clear hmk;obtain ⟨w1,hw1,hs1,hk1,hbel1,hc1,-⟩:=named w #[.int .i64 f.params,.int .i64 f.result,.slice Ar f.regs.length cr,.slice A f.blocks.length c] 31;rw [← hw1];obtain ⟨G,hG⟩:∃ G,G=w.heap.size+1:=⟨_,rfl⟩;have hrow:=World.rowIs_made w1 (.slice none 0 0) f.blocks.length 28;have hb2:Below w1.heap.size w1 (w1.alloc (.cells (madeCells #[.slice none 0 0] f.blocks.length) 28)):=(Below.refl _ _).alloc (Nat.le_refl _) _;(have hz2:(w1.alloc (.cells (madeCells #[.slice none 0 0] f.blocks.length) 28)).heap.size=w1.heap.size+1:=by simp);rw [hs1,← hG] at hrow hb2 hz2;rw [← hG]
  generalize w1.alloc (.cells (madeCells #[.slice none 0 0] f.blocks.length) 28)=w2 at *;have hk2:=kept_below hb2 (by omega);have c0:=hk2 _ _ (hc1 0 _ rfl);have c1:=hk2 _ _ (hc1 1 _ rfl);have c2:=hk2 _ _ (hc1 2 _ rfl);have c3:=hk2 _ _ (hc1 3 _ rfl);(have hgw:w.heap.size<G:=by omega);(have hg2:G<w2.heap.size:=by omega);have HB2:Hid (Below w.heap.size w w2):=Lib.hid (hbel1.trans (hb2.mono (by omega)))
  have HN:=Lib.hid (next_any f _ w2 (VFun.keep (hk1.trans hk2) HV.out) (by omega));have HROW:=Lib.hid hrow;clear hw1 hs1 hk1 hbel1 hc1 hb2 hz2 hk2 hG hrow HV;(go_wp2_with fail);refine HN.out.mono ?_;rintro e w3 ⟨⟨Vn,Gn,rfl,hGn,hgn⟩,hb3⟩;have hz3:=hb3.size;have HB3:Hid (Below w.heap.size w w3):=Lib.hid (HB2.out.trans (hb3.mono HB2.out.size));have hgr:Gri w3 G w3.heap.size f.blocks.length (fun _=>.slice none 0 0) (AJ f.blocks 0 0) :=
    ⟨HROW.out.of_block (hb3.block G HROW.out.lt),fun i hi=>by rw [AJ_zero,List.take_zero];exact World.ownsRow_nil _ _ _ _,fun _ _ _ _ _=>.inl rfl,by omega⟩
  have HGN:=Lib.hid hgn;have hGn2:w2.heap.size≤Gn:=hGn;clear hgn hb3 hGn HN c0 c1 c2 c3;go_wp2_with fail
  go_loopw [15] (fun i wr=>∃ (k:Nat) (V:Nat→Value),k≤f.blocks.length∧i=.int .i64 k∧BB w3.heap.size G w3 wr∧Gri wr G w3.heap.size f.blocks.length V (AJ f.blocks k 0)) (fun i _=>f.blocks.length - (intOf i).toNat)
  case atStart=>exact ⟨0,_,Nat.zero_le _,rfl,BB.refl _ _ _,hgr⟩
  case round =>
    obtain ⟨k,V,hk,rfl,hbb,hg⟩:=hrel;obtain ⟨wo,rfl⟩:∃ wo,wo=wr:=⟨wr,rfl⟩;have hGnl:=HGN.out.row.lt;have hgnr:Gri wo Gn (Gn+2) f.blocks.length Vn (fun i=>zs (nxF f.blocks i)):=HGN.out.of_blocks (hbb.block Gn hGnl (by omega)) (fun g h1 h2=>hbb.block g h2 (by omega));have HG:=Lib.hid hg;have HBB:=Lib.hid hbb;clear hg hbb hgr
    by_cases hlt:k<f.blocks.length
    · have hrc:=hgnr.row.cell hlt;(have hll:(nxF f.blocks k).length≤f.blocks.length:=by unfold nxF;split;exact nextN_few _ _;simp);(obtain ⟨Al,cl,hvl,hsl⟩:=slB_of_own (B:=fun g=>Gn+2≤g∧g<w3.heap.size) (xs:=zs (nxF f.blocks k)) (w:=w3) (HGN.out.own k hlt) (fun y hy=>by obtain ⟨q,hq,rfl⟩:=zs_mem hy;have:=qe f.blocks k q hq;unfold I64;omega) (fun _ h1 h2=>⟨h1,h2⟩));rw [hvl] at hrc;rw [qP] at hrc;have HSL:=Lib.hid hsl;clear hvl hsl hgnr;go_wp2_with fail
      go_loopw [22] (fun i wr=>∃ (j:Nat) (V:Nat→Value),j≤(nxF f.blocks k).length∧i=.int .i64 j∧BB w3.heap.size G w3 wr∧Gri wr G w3.heap.size f.blocks.length V (AJ f.blocks k j)) (fun i _=>(nxF f.blocks k).length - (intOf i).toNat)
      case atStart=>exact ⟨0,V,Nat.zero_le _,rfl,HBB.out,HG.out⟩
      case round =>
        obtain ⟨j,V',hj,rfl,hbi,hgi⟩:=hrel;have HBI:=Lib.hid hbi;(have hsr:=SIntsB.go (B:=fun g=>Gn+2≤g∧g<w3.heap.size) (B':=fun _=>True) (w:=w3) (w':=wr) (fun a v hb ha=>(World.cell?_of_block (hbi.block a.block hb.2 (by have:=hb.1;omega))).trans ha) (fun _ _=>trivial) HSL.out);have hzi:=hbi.size;clear hbi
        by_cases hjl:j<(nxF f.blocks k).length
        · (obtain ⟨bl,ol,y,rfl,hy,-,hyc,-⟩:=hsr.at_ (k:=j) (by rw [qP];exact hjl));obtain ⟨q,hq,rfl⟩:=zs_at hy.out;have hqn:q<f.blocks.length:=qe f.blocks k q (List.mem_of_getElem? hq);(have hyc:wr.cell? ⟨bl,ol+j,none⟩=some (.int .i64 (q:Int)):=by rw [Nat.mul_one] at hyc;exact hyc);(have hq0:(0:Int)≤q:=by omega);(have hq1:(q:Int)<f.blocks.length:=by omega);have hrow:=hgi.row.cell hqn;have hvs:VS wr 1 RInt (V' q) (AJ f.blocks k j q):=qV (hgi.own q hqn) (AJ_i64 _ _ _ _ (by omega) (by omega));have hla:=AJ_len f.blocks k j q
          have HQ:=Lib.hid hq;clear hq hsr;go_wp2_with (at_builtin;refine wpList_append_lies _ rfl (.tmp 31) (.tmp 33) 28 rfl w3.heap.size 3 i0 (.int .i64 0) 1 8 Try.underlying28 HI.out.1 HI.out.2.1 HI.out.2.2.1 HI.out.2.2.2 rfl (by decide) (V' q) _ _ rfl ((hgi.own q hqn).alloc _) ⟨wr.heap.size,0,none⟩ 1 1 [.int .i64 k] rfl rfl ?c1 ?c2 ?c0 ?c3 ?c4 ?c5 (wr.heap.size+1) ?c6 ?_)
          case c1=>exact qR wr _ _ rfl
          case c2=>exact ints_oneCell .i64 [(k:Int)]
          case c0=>omega
          case c3=>unfold maxLen;omega
          case c4=>omega
          case c5=>simp;omega
          case c6=>simp
          intro g cap w4 hown4 hgrow4 hloc4 hlt4;have hgp:=(Gri.push (hgi.alloc _) hqn hown4 hgrow4 (by simpa using hloc4)).congr (fun i _=>AJ_new HQ.out i);(have hG4:w4.heap[G]?=(wr.alloc (.cells #[.int .i64 k] 3)).heap[G]?:=hgrow4.block _ (by simp;omega) (fun e=>by have:=((hgi.own q hqn).lt _ e.symm).1;omega));have hrow4:=(World.cell?_of_block (a:=⟨G,q,none⟩) hG4).trans ((hgi.row.alloc _).cell hqn);have hfr4:=(World.frozen?_of_block (a:=⟨G,q,none⟩) hG4).trans ((hgi.row.alloc _).frozen q);(have HB4:Hid (BB w3.heap.size G w3 w4):=Lib.hid ((HBI.out.alloc hzi _).grown hgrow4 (by simp;omega) (fun g hg=>.inr (by have:=((hgi.own q hqn).lt g hg).1;omega))));have HGP:=Lib.hid hgp;clear hgp hown4 hgrow4 hloc4 hG4 hgi hrow hvs;go_wp2_with fail
          go_roundw
          case rel=>exact ⟨j+1,_,by omega,by go_num,HB4.out.setCell (.inl rfl) _,HGP.out⟩
          case measure=>simp [intOf];omega
        · have HGF:=Lib.hid (hgi.congr (fun i hi=>AJ_all hlt hi (by omega)));clear hgi hsr;go_wp2_with fail
          go_roundw
          case rel=>exact ⟨k+1,V',by omega,by go_num,HBI.out,HGF.out⟩
          case measure=>simp [intOf];omega
    · have hkk:f.blocks.take k=f.blocks:=List.take_of_length_le (by omega);have HGF:=Lib.hid (HG.out.congr (L':=fun i=>qF f.blocks i) (fun i _=>by rw [AJ_zero,hkk]));clear hkk hgnr;(go_wp2_with fail);(go_ret);exact ⟨⟨V,G,_,rfl,by omega,HGF.out⟩,HB3.out.trans (HBB.out.below HB3.out.size (by omega))⟩
end Go.Proofs.Ytfoggldjjnabcaa
