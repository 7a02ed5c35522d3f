/- The reference's kinds: the types of an operation's arguments, and of its result. -/
import Derived.Test.YtfoggldjjnabcaaGreatDoorRefEJ
import Derived.Test.YtfoggldjjnabcaaGreatDoorAheadGJ
import Derived.Test.YtfoggldjjnabcaaGreatDoorPpUJ
import Derived.OwnWalk
import Derived.Deep.DeepCutAuto
namespace Go.Proofs.YtfoggldjjnabcaaGreatDoor
open Go.ChangeShapes Go.WideShapes Go.RowKit Go.Deep
set_option linter.unusedVariables false
def kL (f:FunD) (x:InsD):List Int:=((sigOf f x).getD ([],0)).1
def kD (f:FunD) (x:InsD):Int:=((sigOf f x).getD ([],0)).2
def kO (f:FunD) (x:InsD):Bool:=(sigOf f x).isSome
def ToldK (f:FunD) (x:InsD) (w:World) (e:Ending) (w':World):Prop :=
  (∃ A c,e=.returned (.tuple #[.slice A (kL f x).length c,.int .i64 (kD f x),.bool (kO f x)])∧SL w' 1 RInt A c (kL f x)∧(x.op=17→A=none∧c=0))∧Below w.heap.size w w'
theorem sl_none {α:Type} {w:World} {sz:Nat} {R:World→Nat→Nat→α→Prop}:SL w sz R none 0 []:=⟨Nat.le_refl _,⟨by unfold maxLen;omega,fun _=>rfl⟩,fun hp=>absurd hp (by simp)⟩
theorem zA (w:World) (t:TypeId) {x:Int} {g:Nat} (hg:g=w.heap.size) (hx:I64 x):SL (w.alloc (.cells #[.int .i64 x] t)) 1 RInt (some ⟨g,0,none⟩) 1 [x]:=by
  subst hg;exact SL.one ⟨(World.cell?_alloc_at (w:=w) #[.int .i64 x] t w.heap.size 0 rfl).trans rfl,hx⟩
theorem z9 (w:World) (t:TypeId) {x y:Int} {g:Nat} (hg:g=w.heap.size) (hx:I64 x) (hy:I64 y):SL (w.alloc (.cells #[.int .i64 x,.int .i64 y] t)) 1 RInt (some ⟨g,0,none⟩) 2 [x,y]:=by
  subst hg;refine ⟨Nat.le_refl _,⟨by unfold maxLen;omega,fun e=>by cases e⟩,fun _=>⟨w.heap.size,0,rfl,fun i z hi=>?_⟩⟩
  match i,hi with
  | 0,hi=>obtain rfl:=Option.some.inj hi;exact ⟨(World.cell?_alloc_at (w:=w) #[.int .i64 x,.int .i64 y] t w.heap.size 0 rfl).trans rfl,hx⟩
  | 1,hi=>obtain rfl:=Option.some.inj hi;exact ⟨(World.cell?_alloc_at (w:=w) #[.int .i64 x,.int .i64 y] t w.heap.size 1 rfl).trans rfl,hy⟩
  | i+2,hi=>simp at hi
theorem qN {f:FunD} {x:InsD} {w w':World} {l:List Int} {d:Int} (h:sigOf f x=some (l,d)) {A:Option Addr} {c:Nat} {e:Ending} (he:e=.returned (.tuple #[.slice A l.length c,.int .i64 d,.bool true])) (hs:SL w' 1 RInt A c l) (hop:x.op≠17) (hb:Below w.heap.size w w'):ToldK f x w e w':=by
  unfold ToldK kL kD kO;rw [h];exact ⟨⟨A,c,he,hs,fun h=>absurd h hop⟩,hb⟩
theorem toldK_none {f:FunD} {x:InsD} {w w':World} (h:sigOf f x=none) {e:Ending} (he:e=.returned (.tuple #[.slice none 0 0,.int .i64 0,.bool false])) (hb:Below w.heap.size w w'):ToldK f x w e w':=by
  unfold ToldK kL kD kO;rw [h];exact ⟨⟨none,0,he,sl_none,fun _=>⟨rfl,rfl⟩⟩,hb⟩
set_option maxRecDepth 100000 in
set_option maxHeartbeats 16000000 in
theorem kinds_any (m:List FunD) (f:FunD) (x:InsD) (v u y:Value) (w:World) (hv:VMod w v m) (hu:VFun w u f) (hy:VIns w y x) :
    Calls Tryz.prog 121 #[v,u,y] w (ToldK f x w):=by
  obtain ⟨xop,xdst,xargs,ximm,xfn⟩:=x;obtain ⟨Am,cm,rfl,hm⟩:=hv;obtain ⟨Ar,cr,Ab,cb,rfl,hr,hb,hp64,hr64⟩:=hu;obtain ⟨Ax,cx,rfl,hx,hop64,hd64,hi64,hf64⟩:=hy;dsimp only at hop64 hd64 hi64 hf64;have hrl:=hr.len;(have hb3:=fun A B C=>(((Below.refl w.heap.size w).alloc (Nat.le_refl _) A).alloc (by simp) B).alloc (by simp;omega) C);(have hB:=fun A B C D=>(hb3 A B C).alloc (by simp;omega) D);clear hm hx hb
  have hcase:((∃ d1:decide (0≤xdst)=false,Hid (dstT f ⟨xop,xdst,xargs,ximm,xfn⟩=1))∨(∃ d2:decide (xdst<(f.regs.length:Int))=false,decide (0≤xdst)=true∧Hid (dstT f ⟨xop,xdst,xargs,ximm,xfn⟩=1)))∨(∃ k:Nat,xdst=k∧k<f.regs.length):=by
    by_cases h1:0≤xdst
    · by_cases h2:xdst<f.regs.length
      · exact .inr ⟨xdst.toNat,by omega,by omega⟩
      · exact .inl (.inr ⟨decide_eq_false h2,decide_eq_true h1,Lib.hid (by unfold dstT isIn;rw [if_neg (by simp;omega)])⟩)
    · exact .inl (.inl ⟨decide_eq_false h1,Lib.hid (by unfold dstT isIn;rw [if_neg (by simp;omega)])⟩)
  obtain ⟨dv,hdv64,hrest⟩:∃ dv:Int,I64 dv∧((((decide (0≤xdst)=false∧dv=1)∨(decide (xdst<(f.regs.length:Int))=false∧decide (0≤xdst)=true∧dv=1))∨(∃ (k b o:Nat),xdst=k∧k<f.regs.length∧Ar=some ⟨b,o,none⟩∧w.cell? ⟨b,o+k,none⟩=some (.int .i64 dv)∧b<w.heap.size))∧Hid (dstT f ⟨xop,xdst,xargs,ximm,xfn⟩=dv)):=by
    rcases hcase with (⟨d1,h⟩ | ⟨d2,d3,h⟩) | ⟨k,hk,hkl⟩
    · exact ⟨1,by unfold I64;omega,.inl (.inl ⟨d1,rfl⟩),h⟩
    · exact ⟨1,by unfold I64;omega,.inl (.inr ⟨d2,d3,rfl⟩),h⟩
    · obtain ⟨b,o,r,e,hrr,hc,h64⟩:=hr.int hkl;exact ⟨r,h64,.inr ⟨k,b,o,hk,hkl,e,hc,block_lt_of_cell hc⟩,Lib.hid (by unfold dstT isIn;rw [if_pos (by simp;omega),hk];exact reg_of rfl hrr.out)⟩
  obtain ⟨hrest,HD⟩:=hrest;have HH:=Lib.hid (And.intro hr hdv64);clear hcase hr hdv64;have key:xop=1∨xop=2∨xop=12∨xop=13∨xop=14∨xop=15∨xop=16∨xop=18∨(3≤xop∧xop≤11)∨(¬ (3≤xop∧xop≤11)∧xop≠1∧xop≠2∧xop≠12∧xop≠13∧xop≠14∧xop≠15∧xop≠16∧xop≠18):=by omega
  -- begin
  rcases key with h | h | h | h | h | h | h | h | ⟨h1,h2⟩ | ⟨h,n1,n2,n3,n4,n5,n6,n7,n8⟩
  · (have HS:Hid (sigOf f ⟨xop,xdst,xargs,ximm,xfn⟩=some ([],dv)):=Lib.hid (by have hd:=HD.out;subst h;unfold sigOf;simp [hd]));have HO:Hid (xop≠17):=Lib.hid (by omega);(have e0:(xop == 1)=true:=by simp [h]);(have e1:(xop == 2)=false:=by simp [h]);(have e2:(xop == 12)=false:=by simp [h]);(have e3:(xop == 13)=false:=by simp [h]);(have e4:(xop == 14)=false:=by simp [h]);(have e5:(xop == 15)=false:=by simp [h]);have e6:(xop == 16)=false:=by simp [h]
    (have e7:(xop == 18)=false:=by simp [h]);(have e9:decide (3≤xop)=false:=by simp [h]);(have e10:decide (xop≤11)=true:=by simp [h]);clear h;rcases hrest with (⟨d1,rfl⟩ | ⟨d1,d2,rfl⟩) | ⟨k,b,o,hk,hkl,rfl,hc,hblt⟩
    · skip
      (go_enter Tryz.func121,Tryz.ntmps121);(go_wp2_with fail);(go_ret3);exact qN HS.out rfl (sl_none) HO.out (hb3 _ _ _)
    · skip
      (go_enter Tryz.func121,Tryz.ntmps121);(go_wp2_with fail);(go_ret3);exact qN HS.out rfl (sl_none) HO.out (hb3 _ _ _)
    · have q1:decide (0≤xdst)=true:=decide_eq_true (by omega);have q2:decide (xdst<(f.regs.length:Int))=true:=decide_eq_true (by omega);(have q3:(k:Int)<f.regs.length:=by omega);(have q4:(0:Int)≤k:=by omega);(have hb1:b<w.heap.size+1:=by omega);(have hb2:b<w.heap.size+1+1:=by omega);subst hk;(go_enter Tryz.func121,Tryz.ntmps121);go_wp2_with fail
      (go_ret3);exact qN HS.out rfl (sl_none) HO.out (hb3 _ _ _)
  · (have HS:Hid (sigOf f ⟨xop,xdst,xargs,ximm,xfn⟩=some ([dv],dv)):=Lib.hid (by have hd:=HD.out;subst h;unfold sigOf;simp [hd]));have HO:Hid (xop≠17):=Lib.hid (by omega);(have e0:(xop == 1)=false:=by simp [h]);(have e1:(xop == 2)=true:=by simp [h]);(have e2:(xop == 12)=false:=by simp [h]);(have e3:(xop == 13)=false:=by simp [h]);(have e4:(xop == 14)=false:=by simp [h]);(have e5:(xop == 15)=false:=by simp [h]);have e6:(xop == 16)=false:=by simp [h]
    (have e7:(xop == 18)=false:=by simp [h]);(have e9:decide (3≤xop)=false:=by simp [h]);(have e10:decide (xop≤11)=true:=by simp [h]);clear h;rcases hrest with (⟨d1,rfl⟩ | ⟨d1,d2,rfl⟩) | ⟨k,b,o,hk,hkl,rfl,hc,hblt⟩
    · skip
      (go_enter Tryz.func121,Tryz.ntmps121);(go_wp2_with fail);(go_ret3);exact qN HS.out rfl (zA _ _ (by simp) (by first | exact HH.out.2 | (unfold I64;omega))) HO.out (hB _ _ _ _)
    · skip
      (go_enter Tryz.func121,Tryz.ntmps121);(go_wp2_with fail);(go_ret3);exact qN HS.out rfl (zA _ _ (by simp) (by first | exact HH.out.2 | (unfold I64;omega))) HO.out (hB _ _ _ _)
    · have q1:decide (0≤xdst)=true:=decide_eq_true (by omega);have q2:decide (xdst<(f.regs.length:Int))=true:=decide_eq_true (by omega);(have q3:(k:Int)<f.regs.length:=by omega);(have q4:(0:Int)≤k:=by omega);(have hb1:b<w.heap.size+1:=by omega);(have hb2:b<w.heap.size+1+1:=by omega);subst hk;(go_enter Tryz.func121,Tryz.ntmps121);go_wp2_with fail
      (go_ret3);exact qN HS.out rfl (zA _ _ (by simp) (by first | exact HH.out.2 | (unfold I64;omega))) HO.out (hB _ _ _ _)
  · (have HS:Hid (sigOf f ⟨xop,xdst,xargs,ximm,xfn⟩=some ([1,1],2)):=Lib.hid (by subst h;unfold sigOf;simp));have HO:Hid (xop≠17):=Lib.hid (by omega);(have e0:(xop == 1)=false:=by simp [h]);(have e1:(xop == 2)=false:=by simp [h]);(have e2:(xop == 12)=true:=by simp [h]);(have e3:(xop == 13)=false:=by simp [h]);(have e4:(xop == 14)=false:=by simp [h]);(have e5:(xop == 15)=false:=by simp [h]);have e6:(xop == 16)=false:=by simp [h]
    (have e7:(xop == 18)=false:=by simp [h]);(have e9:decide (3≤xop)=true:=by simp [h]);(have e10:decide (xop≤11)=false:=by simp [h]);clear h;rcases hrest with (⟨d1,rfl⟩ | ⟨d1,d2,rfl⟩) | ⟨k,b,o,hk,hkl,rfl,hc,hblt⟩
    · skip
      (go_enter Tryz.func121,Tryz.ntmps121);(go_wp2_with fail);(go_ret3);exact qN HS.out rfl (z9 _ _ (by simp) (by unfold I64;omega) (by unfold I64;omega)) HO.out (hB _ _ _ _)
    · skip
      (go_enter Tryz.func121,Tryz.ntmps121);(go_wp2_with fail);(go_ret3);exact qN HS.out rfl (z9 _ _ (by simp) (by unfold I64;omega) (by unfold I64;omega)) HO.out (hB _ _ _ _)
    · have q1:decide (0≤xdst)=true:=decide_eq_true (by omega);have q2:decide (xdst<(f.regs.length:Int))=true:=decide_eq_true (by omega);(have q3:(k:Int)<f.regs.length:=by omega);(have q4:(0:Int)≤k:=by omega);(have hb1:b<w.heap.size+1:=by omega);(have hb2:b<w.heap.size+1+1:=by omega);subst hk;(go_enter Tryz.func121,Tryz.ntmps121);go_wp2_with fail
      (go_ret3);exact qN HS.out rfl (z9 _ _ (by simp) (by unfold I64;omega) (by unfold I64;omega)) HO.out (hB _ _ _ _)
  · (have HS:Hid (sigOf f ⟨xop,xdst,xargs,ximm,xfn⟩=some ([1,1],2)):=Lib.hid (by subst h;unfold sigOf;simp));have HO:Hid (xop≠17):=Lib.hid (by omega);(have e0:(xop == 1)=false:=by simp [h]);(have e1:(xop == 2)=false:=by simp [h]);(have e2:(xop == 12)=false:=by simp [h]);(have e3:(xop == 13)=true:=by simp [h]);(have e4:(xop == 14)=false:=by simp [h]);(have e5:(xop == 15)=false:=by simp [h]);have e6:(xop == 16)=false:=by simp [h]
    (have e7:(xop == 18)=false:=by simp [h]);(have e9:decide (3≤xop)=true:=by simp [h]);(have e10:decide (xop≤11)=false:=by simp [h]);clear h;rcases hrest with (⟨d1,rfl⟩ | ⟨d1,d2,rfl⟩) | ⟨k,b,o,hk,hkl,rfl,hc,hblt⟩
    · skip
      (go_enter Tryz.func121,Tryz.ntmps121);(go_wp2_with fail);(go_ret3);exact qN HS.out rfl (z9 _ _ (by simp) (by unfold I64;omega) (by unfold I64;omega)) HO.out (hB _ _ _ _)
    · skip
      (go_enter Tryz.func121,Tryz.ntmps121);(go_wp2_with fail);(go_ret3);exact qN HS.out rfl (z9 _ _ (by simp) (by unfold I64;omega) (by unfold I64;omega)) HO.out (hB _ _ _ _)
    · have q1:decide (0≤xdst)=true:=decide_eq_true (by omega);have q2:decide (xdst<(f.regs.length:Int))=true:=decide_eq_true (by omega);(have q3:(k:Int)<f.regs.length:=by omega);(have q4:(0:Int)≤k:=by omega);(have hb1:b<w.heap.size+1:=by omega);(have hb2:b<w.heap.size+1+1:=by omega);subst hk;(go_enter Tryz.func121,Tryz.ntmps121);go_wp2_with fail
      (go_ret3);exact qN HS.out rfl (z9 _ _ (by simp) (by unfold I64;omega) (by unfold I64;omega)) HO.out (hB _ _ _ _)
  · (have HS:Hid (sigOf f ⟨xop,xdst,xargs,ximm,xfn⟩=some ([2],2)):=Lib.hid (by subst h;unfold sigOf;simp));have HO:Hid (xop≠17):=Lib.hid (by omega);(have e0:(xop == 1)=false:=by simp [h]);(have e1:(xop == 2)=false:=by simp [h]);(have e2:(xop == 12)=false:=by simp [h]);(have e3:(xop == 13)=false:=by simp [h]);(have e4:(xop == 14)=true:=by simp [h]);(have e5:(xop == 15)=false:=by simp [h]);have e6:(xop == 16)=false:=by simp [h]
    (have e7:(xop == 18)=false:=by simp [h]);(have e9:decide (3≤xop)=true:=by simp [h]);(have e10:decide (xop≤11)=false:=by simp [h]);clear h;rcases hrest with (⟨d1,rfl⟩ | ⟨d1,d2,rfl⟩) | ⟨k,b,o,hk,hkl,rfl,hc,hblt⟩
    · skip
      (go_enter Tryz.func121,Tryz.ntmps121);(go_wp2_with fail);(go_ret3);exact qN HS.out rfl (zA _ _ (by simp) (by first | exact HH.out.2 | (unfold I64;omega))) HO.out (hB _ _ _ _)
    · skip
      (go_enter Tryz.func121,Tryz.ntmps121);(go_wp2_with fail);(go_ret3);exact qN HS.out rfl (zA _ _ (by simp) (by first | exact HH.out.2 | (unfold I64;omega))) HO.out (hB _ _ _ _)
    · have q1:decide (0≤xdst)=true:=decide_eq_true (by omega);have q2:decide (xdst<(f.regs.length:Int))=true:=decide_eq_true (by omega);(have q3:(k:Int)<f.regs.length:=by omega);(have q4:(0:Int)≤k:=by omega);(have hb1:b<w.heap.size+1:=by omega);(have hb2:b<w.heap.size+1+1:=by omega);subst hk;(go_enter Tryz.func121,Tryz.ntmps121);go_wp2_with fail
      (go_ret3);exact qN HS.out rfl (zA _ _ (by simp) (by first | exact HH.out.2 | (unfold I64;omega))) HO.out (hB _ _ _ _)
  · (have HS:Hid (sigOf f ⟨xop,xdst,xargs,ximm,xfn⟩=some ([1],1)):=Lib.hid (by subst h;unfold sigOf;simp));have HO:Hid (xop≠17):=Lib.hid (by omega);(have e0:(xop == 1)=false:=by simp [h]);(have e1:(xop == 2)=false:=by simp [h]);(have e2:(xop == 12)=false:=by simp [h]);(have e3:(xop == 13)=false:=by simp [h]);(have e4:(xop == 14)=false:=by simp [h]);(have e5:(xop == 15)=true:=by simp [h]);have e6:(xop == 16)=false:=by simp [h]
    (have e7:(xop == 18)=false:=by simp [h]);(have e9:decide (3≤xop)=true:=by simp [h]);(have e10:decide (xop≤11)=false:=by simp [h]);clear h;rcases hrest with (⟨d1,rfl⟩ | ⟨d1,d2,rfl⟩) | ⟨k,b,o,hk,hkl,rfl,hc,hblt⟩
    · skip
      (go_enter Tryz.func121,Tryz.ntmps121);(go_wp2_with fail);(go_ret3);exact qN HS.out rfl (zA _ _ (by simp) (by first | exact HH.out.2 | (unfold I64;omega))) HO.out (hB _ _ _ _)
    · skip
      (go_enter Tryz.func121,Tryz.ntmps121);(go_wp2_with fail);(go_ret3);exact qN HS.out rfl (zA _ _ (by simp) (by first | exact HH.out.2 | (unfold I64;omega))) HO.out (hB _ _ _ _)
    · have q1:decide (0≤xdst)=true:=decide_eq_true (by omega);have q2:decide (xdst<(f.regs.length:Int))=true:=decide_eq_true (by omega);(have q3:(k:Int)<f.regs.length:=by omega);(have q4:(0:Int)≤k:=by omega);(have hb1:b<w.heap.size+1:=by omega);(have hb2:b<w.heap.size+1+1:=by omega);subst hk;(go_enter Tryz.func121,Tryz.ntmps121);go_wp2_with fail
      (go_ret3);exact qN HS.out rfl (zA _ _ (by simp) (by first | exact HH.out.2 | (unfold I64;omega))) HO.out (hB _ _ _ _)
  · (have HS:Hid (sigOf f ⟨xop,xdst,xargs,ximm,xfn⟩=some ([1,1],0)):=Lib.hid (by subst h;unfold sigOf;simp));have HO:Hid (xop≠17):=Lib.hid (by omega);(have e0:(xop == 1)=false:=by simp [h]);(have e1:(xop == 2)=false:=by simp [h]);(have e2:(xop == 12)=false:=by simp [h]);(have e3:(xop == 13)=false:=by simp [h]);(have e4:(xop == 14)=false:=by simp [h]);(have e5:(xop == 15)=false:=by simp [h]);have e6:(xop == 16)=true:=by simp [h]
    (have e7:(xop == 18)=false:=by simp [h]);(have e9:decide (3≤xop)=true:=by simp [h]);(have e10:decide (xop≤11)=false:=by simp [h]);clear h;rcases hrest with (⟨d1,rfl⟩ | ⟨d1,d2,rfl⟩) | ⟨k,b,o,hk,hkl,rfl,hc,hblt⟩
    · skip
      (go_enter Tryz.func121,Tryz.ntmps121);(go_wp2_with fail);(go_ret3);exact qN HS.out rfl (z9 _ _ (by simp) (by unfold I64;omega) (by unfold I64;omega)) HO.out (hB _ _ _ _)
    · skip
      (go_enter Tryz.func121,Tryz.ntmps121);(go_wp2_with fail);(go_ret3);exact qN HS.out rfl (z9 _ _ (by simp) (by unfold I64;omega) (by unfold I64;omega)) HO.out (hB _ _ _ _)
    · have q1:decide (0≤xdst)=true:=decide_eq_true (by omega);have q2:decide (xdst<(f.regs.length:Int))=true:=decide_eq_true (by omega);(have q3:(k:Int)<f.regs.length:=by omega);(have q4:(0:Int)≤k:=by omega);(have hb1:b<w.heap.size+1:=by omega);(have hb2:b<w.heap.size+1+1:=by omega);subst hk;(go_enter Tryz.func121,Tryz.ntmps121);go_wp2_with fail
      (go_ret3);exact qN HS.out rfl (z9 _ _ (by simp) (by unfold I64;omega) (by unfold I64;omega)) HO.out (hB _ _ _ _)
  · (have HS:Hid (sigOf f ⟨xop,xdst,xargs,ximm,xfn⟩=some ([1],0)):=Lib.hid (by subst h;unfold sigOf;simp));have HO:Hid (xop≠17):=Lib.hid (by omega);(have e0:(xop == 1)=false:=by simp [h]);(have e1:(xop == 2)=false:=by simp [h]);(have e2:(xop == 12)=false:=by simp [h]);(have e3:(xop == 13)=false:=by simp [h]);(have e4:(xop == 14)=false:=by simp [h]);(have e5:(xop == 15)=false:=by simp [h]);have e6:(xop == 16)=false:=by simp [h]
    (have e7:(xop == 18)=true:=by simp [h]);(have e9:decide (3≤xop)=true:=by simp [h]);(have e10:decide (xop≤11)=false:=by simp [h]);clear h;rcases hrest with (⟨d1,rfl⟩ | ⟨d1,d2,rfl⟩) | ⟨k,b,o,hk,hkl,rfl,hc,hblt⟩
    · skip
      (go_enter Tryz.func121,Tryz.ntmps121);(go_wp2_with fail);(go_ret3);exact qN HS.out rfl (zA _ _ (by simp) (by first | exact HH.out.2 | (unfold I64;omega))) HO.out (hB _ _ _ _)
    · skip
      (go_enter Tryz.func121,Tryz.ntmps121);(go_wp2_with fail);(go_ret3);exact qN HS.out rfl (zA _ _ (by simp) (by first | exact HH.out.2 | (unfold I64;omega))) HO.out (hB _ _ _ _)
    · have q1:decide (0≤xdst)=true:=decide_eq_true (by omega);have q2:decide (xdst<(f.regs.length:Int))=true:=decide_eq_true (by omega);(have q3:(k:Int)<f.regs.length:=by omega);(have q4:(0:Int)≤k:=by omega);(have hb1:b<w.heap.size+1:=by omega);(have hb2:b<w.heap.size+1+1:=by omega);subst hk;(go_enter Tryz.func121,Tryz.ntmps121);go_wp2_with fail
      (go_ret3);exact qN HS.out rfl (zA _ _ (by simp) (by first | exact HH.out.2 | (unfold I64;omega))) HO.out (hB _ _ _ _)
  · (have HS:Hid (sigOf f ⟨xop,xdst,xargs,ximm,xfn⟩=some ([1,1],1)):=Lib.hid (by unfold sigOf;dsimp only;rw [if_neg (by omega),if_neg (by omega),if_neg (by omega),if_neg (by omega),if_neg (by omega),if_neg (by omega),if_neg (by omega),if_pos ⟨h1,h2⟩]));have HO:Hid (xop≠17):=Lib.hid (by omega);have e0:(xop == 1)=false:=beq_eq_false_iff_ne.2 (by omega);have e1:(xop == 2)=false:=beq_eq_false_iff_ne.2 (by omega);have e2:(xop == 12)=false:=beq_eq_false_iff_ne.2 (by omega);have e3:(xop == 13)=false:=beq_eq_false_iff_ne.2 (by omega);have e4:(xop == 14)=false:=beq_eq_false_iff_ne.2 (by omega);have e5:(xop == 15)=false:=beq_eq_false_iff_ne.2 (by omega);have e6:(xop == 16)=false:=beq_eq_false_iff_ne.2 (by omega)
    have e7:(xop == 18)=false:=beq_eq_false_iff_ne.2 (by omega);have e9:decide (3≤xop)=true:=decide_eq_true h1;have e10:decide (xop≤11)=true:=decide_eq_true h2;clear h1 h2;rcases hrest with (⟨d1,rfl⟩ | ⟨d1,d2,rfl⟩) | ⟨k,b,o,hk,hkl,rfl,hc,hblt⟩
    · skip
      (go_enter Tryz.func121,Tryz.ntmps121);(go_wp2_with fail);(go_ret3);exact qN HS.out rfl (z9 _ _ (by simp) (by unfold I64;omega) (by unfold I64;omega)) HO.out (hB _ _ _ _)
    · skip
      (go_enter Tryz.func121,Tryz.ntmps121);(go_wp2_with fail);(go_ret3);exact qN HS.out rfl (z9 _ _ (by simp) (by unfold I64;omega) (by unfold I64;omega)) HO.out (hB _ _ _ _)
    · have q1:decide (0≤xdst)=true:=decide_eq_true (by omega);have q2:decide (xdst<(f.regs.length:Int))=true:=decide_eq_true (by omega);(have q3:(k:Int)<f.regs.length:=by omega);(have q4:(0:Int)≤k:=by omega);(have hb1:b<w.heap.size+1:=by omega);(have hb2:b<w.heap.size+1+1:=by omega);subst hk;(go_enter Tryz.func121,Tryz.ntmps121);go_wp2_with fail
      (go_ret3);exact qN HS.out rfl (z9 _ _ (by simp) (by unfold I64;omega) (by unfold I64;omega)) HO.out (hB _ _ _ _)
  · (have HS:Hid (sigOf f ⟨xop,xdst,xargs,ximm,xfn⟩=none):=Lib.hid (by unfold sigOf;dsimp only;rw [if_neg n1,if_neg n2,if_neg (by omega),if_neg n5,if_neg n6,if_neg n7,if_neg n8,if_neg h]));have e0:(xop == 1)=false:=beq_eq_false_iff_ne.2 n1;have e1:(xop == 2)=false:=beq_eq_false_iff_ne.2 n2;have e2:(xop == 12)=false:=beq_eq_false_iff_ne.2 n3;have e3:(xop == 13)=false:=beq_eq_false_iff_ne.2 n4;have e4:(xop == 14)=false:=beq_eq_false_iff_ne.2 n5;have e5:(xop == 15)=false:=beq_eq_false_iff_ne.2 n6;have e6:(xop == 16)=false:=beq_eq_false_iff_ne.2 n7;have e7:(xop == 18)=false:=beq_eq_false_iff_ne.2 n8
    have hc3:decide (3≤xop)=false∨(decide (3≤xop)=true∧decide (xop≤11)=false):=by
      by_cases g:3≤xop
      · exact .inr ⟨decide_eq_true g,decide_eq_false (fun g2=>h ⟨g,g2⟩)⟩
      · exact .inl (decide_eq_false g)
    clear h n1 n2 n3 n4 n5 n6 n7 n8;rcases hc3 with g | ⟨g,g'⟩
    · skip
      rcases hrest with (⟨d1,rfl⟩ | ⟨d1,d2,rfl⟩) | ⟨k,b,o,hk,hkl,rfl,hc,hblt⟩
      · skip
        (go_enter Tryz.func121,Tryz.ntmps121);(go_wp2_with fail);(go_ret3);exact toldK_none HS.out rfl (hb3 _ _ _)
      · skip
        (go_enter Tryz.func121,Tryz.ntmps121);(go_wp2_with fail);(go_ret3);exact toldK_none HS.out rfl (hb3 _ _ _)
      · have q1:decide (0≤xdst)=true:=decide_eq_true (by omega);have q2:decide (xdst<(f.regs.length:Int))=true:=decide_eq_true (by omega);(have q3:(k:Int)<f.regs.length:=by omega);(have q4:(0:Int)≤k:=by omega);(have hb1:b<w.heap.size+1:=by omega);(have hb2:b<w.heap.size+1+1:=by omega);subst hk;(go_enter Tryz.func121,Tryz.ntmps121);go_wp2_with fail
        (go_ret3);exact toldK_none HS.out rfl (hb3 _ _ _)
    · skip
      rcases hrest with (⟨d1,rfl⟩ | ⟨d1,d2,rfl⟩) | ⟨k,b,o,hk,hkl,rfl,hc,hblt⟩
      · skip
        (go_enter Tryz.func121,Tryz.ntmps121);(go_wp2_with fail);(go_ret3);exact toldK_none HS.out rfl (hb3 _ _ _)
      · skip
        (go_enter Tryz.func121,Tryz.ntmps121);(go_wp2_with fail);(go_ret3);exact toldK_none HS.out rfl (hb3 _ _ _)
      · have q1:decide (0≤xdst)=true:=decide_eq_true (by omega);have q2:decide (xdst<(f.regs.length:Int))=true:=decide_eq_true (by omega);(have q3:(k:Int)<f.regs.length:=by omega);(have q4:(0:Int)≤k:=by omega);(have hb1:b<w.heap.size+1:=by omega);(have hb2:b<w.heap.size+1+1:=by omega);subst hk;(go_enter Tryz.func121,Tryz.ntmps121);go_wp2_with fail
        (go_ret3);exact toldK_none HS.out rfl (hb3 _ _ _)
  -- end
def oddF (o:Bool) (l:List Int):Bool:=o || l.any fun t=>decide (t<0)
def tsF:Bool→List Int→List Int
  | _,[]=>[]
  | o,t::l=>(if o then -1 else t)::tsF (o || decide (t<0)) l
theorem tsF_snoc (o:Bool) (l:List Int) (t:Int):tsF o (l++[t])=tsF o l++[if oddF o l then -1 else t]:=by
  induction l generalizing o with
  | nil=>simp [tsF,oddF]
  | cons a l ih=>simp only [List.cons_append,tsF,ih];simp [oddF,Bool.or_assoc]
theorem tsF_len (o:Bool) (l:List Int):(tsF o l).length=l.length:=by
  induction l generalizing o with
  | nil=>rfl
  | cons a l ih=>simp [tsF,ih]
theorem tsF_step {o:Bool} {P:List Int} {j:Nat} {p:Int} (h:P[j]?=some p):tsF o (P.take (j+1))=tsF o (P.take j)++[if oddF o (P.take j) then -1 else p]:=by rw [qD h,tsF_snoc]
theorem oddF_step {o:Bool} {P:List Int} {j:Nat} {p:Int} (h:P[j]?=some p):oddF o (P.take (j+1))=(oddF o (P.take j) || decide (p<0)):=by
  rw [qD h];unfold oddF;simp [Bool.or_assoc]
def callP (g:FunD):List Int:=if oddB g then List.replicate g.params.toNat 0 else g.regs.take g.params.toNat
def foldB (regs:List Int) (l:List (Int × Int)):Int:=l.foldl (fun b p=>qM b (isE regs p.1 p.2)) 0
theorem foldB_step {regs:List Int} {l:List (Int × Int)} {j:Nat} {a t:Int} (h:l[j]?=some (a,t)):foldB regs (l.take (j+1))=qM (foldB regs (l.take j)) (isE regs a t):=by
  unfold foldB;rw [qD h,List.foldl_append];rfl
def b1R (f:FunD) (dst d b0:Int):Int:=if d=0 then (if dst=-1 then b0 else qM b0 3) else if d<0 then qM b0 (qM (isE f.regs dst (-1)) 3) else qM b0 (isE f.regs dst d)
def qW (x:InsD) (odd:Bool):Bool:=((x.op != 1) && (x.imm != 0)) || ((x.op != 17) && (x.fn != 0)) || odd
def b2R (x:InsD) (odd:Bool) (b1:Int):Int:=if qW x odd then qM b1 3 else b1
def b3R (f:FunD) (x:InsD) (b2:Int):Int:=if x.op=1∧b2=0∧reg f.regs x.dst=2∧x.imm≠0∧x.imm≠1 then 3 else b2
def restR (f:FunD) (x:InsD) (ts:List Int) (d:Int) (odd:Bool):Int:=b3R f x (b2R x odd (b1R f x.dst d (foldB f.regs (x.args.zip ts))))
def tailR (f:FunD) (x:InsD) (ts:List Int) (d:Int) (ok odd:Bool):Int:=if ok then (if x.args.length=ts.length then restR f x ts d odd else 6) else 6
def insR (m:List FunD) (f:FunD) (x:InsD):Int :=
  if x.op=17 then
    (if isIn m.length x.fn then (if (x.args.length:Int)=(funAt m x.fn).params then tailR f x (tsF (oddB (funAt m x.fn)) (callP (funAt m x.fn))) (funAt m x.fn).result true (oddF (oddB (funAt m x.fn)) (callP (funAt m x.fn))) else 6) else 4)
  else tailR f x (kL f x) (kD f x) (kO f x) false
theorem worstE_zero {a b:Int} (h:qM a b=0):a=0∧b=0:=by
  unfold qM at h
  split at h
  · omega
  · split at h <;> omega
theorem isE_in {regs:List Int} {r t:Int} (h:isE regs r t=0):isIn regs.length r=true:=by
  unfold isE at h
  split at h
  · exact decide_eq_true ‹_›
  · omega
theorem b1_in {f:FunD} {dst d b0:Int} (hd:0<d) (h:b1R f dst d b0=0):isIn f.regs.length dst=true:=by
  unfold b1R at h;rw [if_neg (by omega),if_neg (by omega)] at h;exact isE_in (worstE_zero h).2
theorem b2_zero {x:InsD} {odd:Bool} {b1:Int} (h:b2R x odd b1=0):b1=0:=by
  unfold b2R at h
  split at h
  · exact (worstE_zero h).1
  · exact h
theorem reg_ty' {regs:List Int} (h:∀ t∈regs,t=1∨t=2) {r:Int} (hr:isIn regs.length r=true):reg regs r=1∨reg regs r=2:=by
  have hr:=of_decide_eq_true hr;(have hl:r.toNat<regs.length:=by omega);unfold reg;rw [List.getD_eq_getElem?_getD,List.getElem?_eq_getElem hl];exact h _ (List.getElem_mem hl)
theorem dstT_ty {f:FunD} (h:∀ t∈f.regs,t=1∨t=2) (x:InsD):dstT f x=1∨dstT f x=2:=by
  unfold dstT
  split
  · exact reg_ty' h ‹_›
  · exact .inl rfl
theorem kD_ty {f:FunD} (h:∀ t∈f.regs,t=1∨t=2) (x:InsD):kD f x=0∨kD f x=1∨kD f x=2:=by
  have hd:=dstT_ty h x;unfold kD sigOf
  repeat' split
  (all_goals simp);all_goals omega
theorem kD_i64 {f:FunD} (h:∀ t∈f.regs,t=1∨t=2) {x:InsD}:I64 (kD f x):=by
  have:=kD_ty h x;unfold I64;omega
theorem kD_pos {f:FunD} (h:∀ t∈f.regs,t=1∨t=2) {op dst imm fn:Int} {args:List Int}:op=1→kO f ⟨op,dst,args,imm,fn⟩=true→0<kD f ⟨op,dst,args,imm,fn⟩:=fun h1 _=>by
  have hd:=dstT_ty h ⟨op,dst,args,imm,fn⟩;subst h1;(have:kD f ⟨1,dst,args,imm,fn⟩=dstT f ⟨1,dst,args,imm,fn⟩:=by unfold kD sigOf;simp);rw [this];omega
end Go.Proofs.YtfoggldjjnabcaaGreatDoor
