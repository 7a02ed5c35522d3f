/- The reference's small functions of layer 2: is, worst, end. -/
import Derived.Test.YtfoggldjjnabcaaGreatDoorAheadGJ
import Derived.Deep.QuietTactic
import Derived.BigQuiet
import Derived.Test.YtfoggldjjnabcaaGreatDoorRefAJ
import Derived.Test.YtfoggldjjnabcaaGreatDoorLastJ
import Derived.StillTailTactics
namespace Go.Proofs.YtfoggldjjnabcaaGreatDoor
open Go.ChangeShapes Go.WideShapes Go.RowKit Go.Deep
set_option linter.unusedVariables false
def isE (regs:List Int) (r t:Int):Int:=if 0≤r∧r<regs.length then (if 0≤t∧reg regs r≠t then 3 else 0) else 4
def qM (a b:Int):Int:=if a=4∨b=4 then 4 else if a≠0 then a else b
theorem qR (a b:Int) (w:World):Calls Tryz.prog 85 #[.int .i64 a,.int .i64 b] w fun e w'=>e=.returned (.int .i64 (qM a b))∧w=w':=by
  by_cases h1:a=4
  · have HE:Hid (qM a b=4):=Lib.hid (if_pos (.inl h1));(have h1':(a == 4)=true:=by simp [h1]);clear h1;(go_enter Tryz.func85,Tryz.ntmps85);(go_wp2_with fail);(go_ret);exact ⟨by rw [HE.out];rfl,rfl⟩
  · have h1':(a == 4)=false:=by simp [h1]
    by_cases h2:b=4
    · have HE:Hid (qM a b=4):=Lib.hid (if_pos (.inr h2));(have h2':(b == 4)=true:=by simp [h2]);clear h1 h2;(go_enter Tryz.func85,Tryz.ntmps85);(go_wp2_with fail);(go_ret);exact ⟨by rw [HE.out];rfl,rfl⟩
    · have h2':(b == 4)=false:=by simp [h2]
      by_cases h3:a=0
      · (have HE:Hid (qM a b=b):=Lib.hid (by unfold qM;rw [if_neg (by omega),if_neg (by omega)]));(have h3':(a != 0)=false:=by simp [h3]);clear h1 h2 h3;(go_enter Tryz.func85,Tryz.ntmps85);(go_wp2_with fail);(go_ret);exact ⟨by rw [HE.out];rfl,rfl⟩
      · (have HE:Hid (qM a b=a):=Lib.hid (by unfold qM;rw [if_neg (by omega),if_pos h3]));(have h3':(a != 0)=true:=by rw [bne_iff_ne];exact h3);clear h1 h2 h3;(go_enter Tryz.func85,Tryz.ntmps85);(go_wp2_with fail);(go_ret);exact ⟨by rw [HE.out];rfl,rfl⟩
set_option maxRecDepth 100000 in
set_option maxHeartbeats 1000000 in
theorem is_reg (f:FunD) (v:Value) (r t:Int) (w:World) (hv:VFun w v f) (ht:I64 t) :
    Calls Tryz.prog 84 #[v,.int .i64 r,.int .i64 t] w fun e w'=>e=.returned (.int .i64 (isE f.regs r t))∧Below w.heap.size w w':=by
  obtain ⟨Ar,cr,Ab,cb,rfl,hr,-,-,-⟩:=hv;have hrl:=hr.len;have hB:Below w.heap.size w (w.alloc (.cells #[.int .i64 f.params,.int .i64 f.result,.slice Ar f.regs.length cr,.slice Ab f.blocks.length cb] 30)):=(Below.refl _ _).alloc (Nat.le_refl _) _
  by_cases h1:r<0
  · have HE:Hid (isE f.regs r t=4):=Lib.hid (if_neg (by omega));(have h1':decide (r<0)=true:=by simpa using h1);(go_enter Tryz.func84,Tryz.ntmps84);(go_wp2_with fail);(go_ret);exact ⟨by rw [HE.out];rfl,hB⟩
  · (have h1':decide (r<0)=false:=by simpa using h1);obtain ⟨k,rfl⟩:=Int.eq_ofNat_of_zero_le (Int.not_lt.1 h1)
    by_cases h2:k<f.regs.length
    · (have h2':decide ((f.regs.length:Int)≤k)=false:=by simp;omega);(have h2c:(k:Int)<f.regs.length:=by omega);obtain ⟨b,o,x,rfl,hx,hxc,-⟩:=hr.int h2;have hrg:reg f.regs k=x:=reg_of rfl hx.out;have hblt:=block_lt_of_cell hxc;dsimp only at hblt
      by_cases h3:0≤t
      · have h3':decide (0≤t)=true:=by simpa using h3
        by_cases h4:x=t
        · (have HE:Hid (isE f.regs k t=0):=Lib.hid (by unfold isE;rw [if_pos (by omega),if_neg (by rw [hrg];exact fun h=>h.2 h4)]));(have h4':(x != t)=false:=by simp [h4]);clear h4 hrg h1;(go_enter Tryz.func84,Tryz.ntmps84);(go_wp2_with fail);(go_ret);exact ⟨by rw [HE.out];rfl,hB⟩
        · (have HE:Hid (isE f.regs k t=3):=Lib.hid (by unfold isE;rw [if_pos (by omega),if_pos (by rw [hrg];exact ⟨h3,h4⟩)]));(have h4':(x != t)=true:=by rw [bne_iff_ne];exact h4);clear h4 hrg h1;(go_enter Tryz.func84,Tryz.ntmps84);(go_wp2_with fail);(go_ret);exact ⟨by rw [HE.out];rfl,hB⟩
      · (have h3':decide (0≤t)=false:=by simpa using h3);(have HE:Hid (isE f.regs k t=0):=Lib.hid (by unfold isE;rw [if_pos (by omega),if_neg (fun h=>h3 h.1)]));clear hrg h1;(go_enter Tryz.func84,Tryz.ntmps84);(go_wp2_with fail);(go_ret);exact ⟨by rw [HE.out];rfl,hB⟩
    · have HE:Hid (isE f.regs k t=4):=Lib.hid (if_neg (by omega));(have h2':decide ((f.regs.length:Int)≤k)=true:=by simp;omega);(have h2c:(f.regs.length:Int)≤k:=by omega);(go_enter Tryz.func84,Tryz.ntmps84);(go_wp2_with fail);(go_ret);exact ⟨by rw [HE.out];rfl,hB⟩
set_option maxRecDepth 100000 in
set_option maxHeartbeats 1000000 in
theorem end_ref (f:FunD) (t:TermD) (v u:Value) (w:World) (hv:VFun w v f) (hu:VTerm w u t) (hk:t.kind=1∨t.kind=2∨t.kind=3) (hres:0≤f.result) :
    Calls Tryz.prog 87 #[v,u] w fun e w'=>e=.returned (.int .i64 (termE f t))∧Below w.heap.size w w':=by
  have hv0:=hv;obtain ⟨Ar,cr,Ab,cb,rfl,hr,hb,hp64,hr64⟩:=hv;obtain ⟨At,ct,rfl,hto,hk64,ha64⟩:=hu;have hB:Below w.heap.size w ((w.alloc (.cells #[.int .i64 f.params,.int .i64 f.result,.slice Ar f.regs.length cr,.slice Ab f.blocks.length cb] 30)).alloc (.cells #[.int .i64 t.kind,.int .i64 t.arg,.slice At t.to.length ct] 47)):=((Below.refl _ _).alloc (Nat.le_refl _) _).alloc (by simp) _
  by_cases h2:t.kind=2
  · have HE:Hid (isE f.regs t.arg 2=termE f t):=Lib.hid (by
      unfold termE qp isE;rw [if_pos h2,if_neg (show ¬ (2:Int)=0 by decide)]
      by_cases h:0≤t.arg∧t.arg<f.regs.length
      · rw [if_pos h,if_pos h]
        by_cases h':reg f.regs t.arg=2
        · rw [if_pos h',if_neg (fun x=>x.2 h')]
        · rw [if_neg h',if_pos ⟨by decide,h'⟩]
      · rw [if_neg h,if_neg h])
    (have h2':(t.kind == 2)=true:=by simp [h2]);clear h2 hk;(go_enter Tryz.func87,Tryz.ntmps87);(go_wp2_with fail);(refine (is_reg f _ t.arg 2 _ (VFun.keep (q6 hB) hv0) (by unfold I64;omega)).mono ?_);rintro e w1 ⟨rfl,hb1⟩;rw [HE.out];(go_wp2_with fail);go_ret
    exact ⟨rfl,hB.trans (hb1.mono hB.size)⟩
  · have h2':(t.kind == 2)=false:=by simp [h2]
    by_cases h3:t.kind=3
    · have h3':(t.kind == 3)=true:=by simp [h3]
      by_cases h0:f.result=0
      · have h0':(f.result != 0)=false:=by simp [h0]
        by_cases ha:t.arg=-1
        · (have HE:Hid (termE f t=0):=Lib.hid (by unfold termE qp;rw [if_neg h2,if_pos h3,if_pos h0,if_pos ha]));(have ha':(t.arg != -1)=false:=by simp [ha]);clear h2 h3 h0 ha hk;(go_enter Tryz.func87,Tryz.ntmps87);(go_wp2_with fail);(go_ret);exact ⟨by rw [HE.out];rfl,hB⟩
        · (have HE:Hid (termE f t=3):=Lib.hid (by unfold termE qp;rw [if_neg h2,if_pos h3,if_pos h0,if_neg ha]));(have ha':(t.arg != -1)=true:=by rw [bne_iff_ne];exact ha);clear h2 h3 h0 ha hk;(go_enter Tryz.func87,Tryz.ntmps87);(go_wp2_with fail);(go_ret);exact ⟨by rw [HE.out];rfl,hB⟩
      · have h0':(f.result != 0)=true:=by rw [bne_iff_ne];exact h0
        have HE:Hid (isE f.regs t.arg f.result=termE f t):=Lib.hid (by
          unfold termE qp isE;rw [if_neg h2,if_pos h3,if_neg h0]
          by_cases h:0≤t.arg∧t.arg<f.regs.length
          · rw [if_pos h,if_pos h]
            by_cases h':reg f.regs t.arg=f.result
            · rw [if_pos h',if_neg (fun x=>x.2 h')]
            · rw [if_neg h',if_pos ⟨hres,h'⟩]
          · rw [if_neg h,if_neg h])
        clear h2 h3 h0 hk;(go_enter Tryz.func87,Tryz.ntmps87);(go_wp2_with fail);refine (is_reg f _ t.arg f.result _ (VFun.keep (q6 hB) hv0) hr64).mono ?_;rintro e w1 ⟨rfl,hb1⟩;rw [HE.out];(go_wp2_with fail);(go_ret);exact ⟨rfl,hB.trans (hb1.mono hB.size)⟩
    · have h3':(t.kind == 3)=false:=by simp [h3]
      by_cases ha:t.arg=-1
      · (have HE:Hid (termE f t=0):=Lib.hid (by unfold termE qp;rw [if_neg h2,if_neg h3,if_pos rfl,if_pos ha]));(have ha':(t.arg != -1)=false:=by simp [ha]);clear h2 h3 ha hk;(go_enter Tryz.func87,Tryz.ntmps87);(go_wp2_with fail);(go_ret);exact ⟨by rw [HE.out];rfl,hB⟩
      · (have HE:Hid (termE f t=3):=Lib.hid (by unfold termE qp;rw [if_neg h2,if_neg h3,if_pos rfl,if_neg ha]));(have ha':(t.arg != -1)=true:=by rw [bne_iff_ne];exact ha);clear h2 h3 ha hk;(go_enter Tryz.func87,Tryz.ntmps87);(go_wp2_with fail);(go_ret);exact ⟨by rw [HE.out];rfl,hB⟩
set_option maxRecDepth 100000 in
set_option maxHeartbeats 8000000 in
theorem shape_any (f:FunD) (t:TermD) (v u:Value) (w:World) (hv:VFun w v f) (hu:VTerm w u t) :
    Calls Tryz.prog 120 #[v,u] w fun e w'=>e=.returned (.bool (ql f.blocks.length t))∧Below w.heap.size w w':=by
  obtain ⟨Ar,cr,Ab,cb,rfl,hr,hb,hp64,hr64⟩:=hv;obtain ⟨At,ct,rfl,hto,hk64,ha64⟩:=hu;have hbl:=hb.len;have htl:=hto.len;obtain ⟨w1,hw1⟩:∃ w1,w1=((w.alloc (.cells #[.int .i64 f.params,.int .i64 f.result,.slice Ar f.regs.length cr,.slice Ab f.blocks.length cb] 30)).alloc (.cells #[.int .i64 t.kind,.int .i64 t.arg,.slice At t.to.length ct] 47)):=⟨_,rfl⟩;(have hB:Below w.heap.size w w1:=by rw [hw1];exact ((Below.refl _ _).alloc (Nat.le_refl _) _).alloc (by simp) _);have hto:=SInts.keep (q6 hB) hto;(have hc3:w1.cell? ⟨w.heap.size,3,none⟩=some (.slice Ab f.blocks.length cb):=by rw [hw1];simp);have hd0:w1.cell? ⟨w.heap.size+1,0,none⟩=some (.int .i64 t.kind):=by rw [hw1];simp
  (have hd2:w1.cell? ⟨w.heap.size+1,2,none⟩=some (.slice At t.to.length ct):=by rw [hw1];simp);(have hs1:w.heap.size+1<w1.heap.size:=by rw [hw1];simp);(go_enter Tryz.func120,Tryz.ntmps120);(go_wp2_with fail);rw [← hw1];clear hw1
  go_loopw [5] (fun i wr=>∃ j q:Nat,j≤t.to.length∧i=.int .i64 j∧Hid ((t.to.take j).all (toB f.blocks.length)=true)∧wr=w1.drewN q) (fun i _=>t.to.length - (intOf i).toNat)
  case atStart=>exact ⟨0,0,Nat.zero_le _,rfl,Lib.hid rfl,rfl⟩
  case round =>
    obtain ⟨j,q,hj,rfl,hj2,rfl⟩:=hrel
    by_cases hjt:j<t.to.length
    · obtain ⟨b',o',x,rfl,hx,hxc,-⟩:=hto.int hjt;(have hk0:(0:Int)≤j:=by omega);have hk1:(j:Int)<t.to.length:=by omega
      by_cases x1:x<1
      · have HF:Hid (toB f.blocks.length x=false):=Lib.hid (decide_eq_false (by omega));(have x1':decide (x<1)=true:=by simpa using x1);clear x1;(go_wp2_with fail);(go_quiet (fail));(go_wp2_with fail);(go_ret);exact ⟨by rw [show ql f.blocks.length t=false by unfold ql;rw [qk hx.out HF.out];simp];rfl,below_drewN (below_drewN hB _) _⟩
      · have x1':decide (x<1)=false:=by simpa using x1
        by_cases x2:(f.blocks.length:Int)≤x
        · have HF:Hid (toB f.blocks.length x=false):=Lib.hid (decide_eq_false (by omega));(have x2':decide ((f.blocks.length:Int)≤x)=true:=by simpa using x2);clear x1 x2;(go_wp2_with fail);(go_quiet (fail));(go_wp2_with fail);(go_ret);exact ⟨by rw [show ql f.blocks.length t=false by unfold ql;rw [qk hx.out HF.out];simp];rfl,below_drewN (below_drewN hB _) _⟩
        · have HF:Hid (toB f.blocks.length x=true):=Lib.hid (decide_eq_true (by omega));(have x2':decide ((f.blocks.length:Int)≤x)=false:=by simpa using x2);clear x1 x2;(go_wp2_with fail);(go_quiet (fail));go_wp2_with fail
          go_roundw
          case rel=>exact ⟨j+1,_,by omega,by go_num,Lib.hid (by rw [qw hx.out hj2.out];exact HF.out),rfl⟩
          case measure=>simp [intOf];omega
    · have hd:=z8 hj2.out (Nat.le_of_not_lt hjt);(have HD:Hid (ql f.blocks.length t=tosB t):=Lib.hid (by unfold ql;rw [hd,Bool.and_true]));clear hd hj2
      by_cases k1:t.kind=1
      · (have HT:Hid (tosB t=decide (t.to.length=1)):=Lib.hid (by unfold tosB;rw [if_pos k1]));(have k1':(t.kind == 1)=true:=by simp [k1]);(have k2':(t.kind == 2)=false:=by simp [k1]);have k3':(t.kind == 3)=false:=by simp [k1]
        by_cases l1:t.to.length=1
        · (have l1':((t.to.length:Int) == 1)=true:=by simp [l1]);have HT':Hid (tosB t=true):=Lib.hid (by rw [HT.out,decide_eq_true l1]);clear k1 l1 HT;(go_wp2_with fail);(go_quiet (fail));(go_wp2_with fail);(go_ret);exact ⟨by rw [HD.out,HT'.out];rfl,below_drewN (below_drewN hB _) _⟩
        · (have l1':((t.to.length:Int) == 1)=false:=by simp;omega);have HT':Hid (tosB t=false):=Lib.hid (by rw [HT.out,decide_eq_false l1]);clear k1 l1 HT;(go_wp2_with fail);(go_quiet (fail));(go_wp2_with fail);(go_ret);exact ⟨by rw [HD.out,HT'.out];rfl,below_drewN (below_drewN hB _) _⟩
      · have k1':(t.kind == 1)=false:=by simp [k1]
        by_cases k2:t.kind=2
        · (have HT:Hid (tosB t=(decide (t.to.length=2) && decide (t.to.getD 0 0≠t.to.getD 1 0))):=Lib.hid (by unfold tosB;rw [if_neg k1,if_pos k2]));(have k2':(t.kind == 2)=true:=by simp [k2]);have k3':(t.kind == 3)=false:=by simp [k2]
          by_cases l2:t.to.length=2
          · (have l2':((t.to.length:Int) == 2)=true:=by simp [l2]);(have g0:0<t.to.length:=by omega);(have g1:1<t.to.length:=by omega);(have g1':(1:Int)<t.to.length:=by omega);(have g0':(0:Int)<t.to.length:=by omega);obtain ⟨b',o',x,rfl,hx,hxc,-⟩:=hto.int g0;obtain ⟨b2,o2,y,he,hy,hyc,-⟩:=hto.int g1;(obtain ⟨rfl,rfl⟩:b'=b2∧o'=o2:=by simpa using he);have hltx:=block_lt_of_cell hxc
            (have l2'':2≤t.to.length:=by omega);simp only [Nat.add_zero] at hxc;(have HX:Hid (t.to.getD 0 0=x):=Lib.hid (by rw [List.getD_eq_getElem?_getD,hx.out];rfl));have HY:Hid (t.to.getD 1 0=y):=Lib.hid (by rw [List.getD_eq_getElem?_getD,hy.out];rfl)
            by_cases hxy:x=y
            · (have hxy':(x != y)=false:=by simp [hxy]);(have HT':Hid (tosB t=false):=Lib.hid (by rw [HT.out,HX.out,HY.out,decide_eq_true l2,decide_eq_false (fun h=>h hxy)];rfl));clear k1 k2 l2 HT hxy g0 g1 g0' g1' HX HY;(go_wp2_with fail);(go_quiet (fail));(go_wp2_with fail);(go_ret);exact ⟨by rw [HD.out,HT'.out];rfl,below_drewN (below_drewN hB _) _⟩
            · (have hxy':(x != y)=true:=by rw [bne_iff_ne];exact hxy);(have HT':Hid (tosB t=true):=Lib.hid (by rw [HT.out,HX.out,HY.out,decide_eq_true l2,decide_eq_true hxy];rfl));clear k1 k2 l2 HT hxy g0 g1 g0' g1' HX HY;(go_wp2_with fail);(go_quiet (fail));(go_wp2_with fail);(go_ret);exact ⟨by rw [HD.out,HT'.out];rfl,below_drewN (below_drewN hB _) _⟩
          · (have l2':((t.to.length:Int) == 2)=false:=by simp;omega);(have HT':Hid (tosB t=false):=Lib.hid (by rw [HT.out,decide_eq_false l2];rfl));clear k1 k2 l2 HT;(go_wp2_with fail);(go_quiet (fail));(go_wp2_with fail);(go_ret);exact ⟨by rw [HD.out,HT'.out];rfl,below_drewN (below_drewN hB _) _⟩
        · have k2':(t.kind == 2)=false:=by simp [k2]
          by_cases k3:t.kind=3
          · (have HT:Hid (tosB t=decide (t.to.length=0)):=Lib.hid (by unfold tosB;rw [if_neg k1,if_neg k2,if_pos k3]));have k3':(t.kind == 3)=true:=by simp [k3]
            by_cases l0:t.to.length=0
            · (have l0':((t.to.length:Int) == 0)=true:=by rw [l0];rfl);have HT':Hid (tosB t=true):=Lib.hid (by rw [HT.out,decide_eq_true l0]);clear k1 k2 k3 l0 HT;(go_wp2_with fail);(go_quiet (fail));(go_wp2_with fail);(go_ret);exact ⟨by rw [HD.out,HT'.out];rfl,below_drewN (below_drewN hB _) _⟩
            · (have l0':((t.to.length:Int) == 0)=false:=by rw [beq_eq_false_iff_ne];omega);have HT':Hid (tosB t=false):=Lib.hid (by rw [HT.out,decide_eq_false l0]);clear k1 k2 k3 l0 HT;(go_wp2_with fail);(go_quiet (fail));(go_wp2_with fail);(go_ret);exact ⟨by rw [HD.out,HT'.out];rfl,below_drewN (below_drewN hB _) _⟩
          · (have HT':Hid (tosB t=false):=Lib.hid (by unfold tosB;rw [if_neg k1,if_neg k2,if_neg k3]));(have k3':(t.kind == 3)=false:=by simp [k3]);clear k1 k2 k3;(go_wp2_with fail);(go_quiet (fail));(go_wp2_with fail);(go_ret);exact ⟨by rw [HD.out,HT'.out];rfl,below_drewN (below_drewN hB _) _⟩
def sumTo (bs:List BlkD) (k:Nat):Nat:=z7 (bs.take k)+(bs.take k).length
theorem sumTo_step {bs:List BlkD} {k:Nat} {b:BlkD} (h:bs[k]?=some b):sumTo bs (k+1)=sumTo bs k+b.phis.length+b.ins.length+1:=by
  have hk:k<bs.length:=(List.getElem?_eq_some_iff.1 h).1;unfold sumTo;rw [itemsK_step h,List.length_take,List.length_take];omega
theorem sumTo_done {bs:List BlkD} {k:Nat} (h:bs.length≤k):sumTo bs k=bs.length+z7 bs:=by
  unfold sumTo;rw [List.take_of_length_le h];omega
def NearS (bs:List BlkD):Prop:=∀ b∈bs,b.phis.length≤100000∧b.ins.length≤100000
theorem sumTo_le {bs:List BlkD} (h:NearS bs) (k:Nat):sumTo bs k≤200001 * (bs.take k).length:=by
  unfold sumTo z7;have:∀ l:List BlkD,(∀ b∈l,b.phis.length≤100000∧b.ins.length≤100000)→(l.map fun b=>b.phis.length+b.ins.length).sum+l.length≤200001 * l.length:=by
    intro l
    induction l with
    | nil=>simp
    | cons b l ih =>
      intro hl;have h1:=hl b (by simp);have h2:=ih (fun b hb=>hl b (by simp [hb]));simp only [List.map_cons,List.sum_cons,List.length_cons];omega
  exact this _ (fun b hb=>h b (List.mem_of_mem_take hb))
set_option maxRecDepth 100000 in
set_option maxHeartbeats 16000000 in
theorem outer_any (f:FunD) (v:Value) (w:World) (hv:VFun w v f) (hn:f.blocks.length≤100000) (hNS:NearS f.blocks) :
    Calls Tryz.prog 83 #[v] w fun e w'=>e=.returned (.int .i64 (qU f))∧Below w.heap.size w w':=by
  have hv0:=hv;obtain ⟨Ar,cr,A,c,rfl,hr,hb,hp64,hr64⟩:=hv;have hbl:=hb.len;have hrl:=hr.len;have HNS:=Lib.hid hNS;clear hNS;obtain ⟨w1,hw1⟩:∃ w1,w1=w.alloc (.cells #[.int .i64 f.params,.int .i64 f.result,.slice Ar f.regs.length cr,.slice A f.blocks.length c] 30):=⟨_,rfl⟩;(have hB:Below w.heap.size w w1:=by rw [hw1];exact (Below.refl _ _).alloc (Nat.le_refl _) _);have hK:=q6 hB
  (have hc0:w1.cell? ⟨w.heap.size,0,none⟩=some (.int .i64 f.params):=by rw [hw1];simp);(have hc1:w1.cell? ⟨w.heap.size,1,none⟩=some (.int .i64 f.result):=by rw [hw1];simp);(have hc2:w1.cell? ⟨w.heap.size,2,none⟩=some (.slice Ar f.regs.length cr):=by rw [hw1];simp);(have hc3:w1.cell? ⟨w.heap.size,3,none⟩=some (.slice A f.blocks.length c):=by rw [hw1];simp);(have hs1:w.heap.size<w1.heap.size:=by rw [hw1];simp);(go_enter Tryz.func83,Tryz.ntmps83);(go_wp2_with fail);rw [← hw1];clear hw1
  go_loopw [3,4] (fun n i wr=>∃ k q:Nat,k≤f.blocks.length∧i=.int .i64 k∧n=.int .i64 (sumTo f.blocks k)∧wr=w1.drewN q) (fun _ i _=>f.blocks.length - (intOf i).toNat)
  case atStart=>exact ⟨0,0,Nat.zero_le _,rfl,rfl,rfl⟩
  case round =>
    obtain ⟨k,q,hk,rfl,rfl,rfl⟩:=hrel
    by_cases hlt:k<f.blocks.length
    · obtain ⟨b,o,kb,rfl,hkb,⟨Ap,cp,hphi,hphis⟩,⟨Ai,ci,hins,hinss⟩,-,-,-⟩:=(SBlks.keep hK hb).at_ hlt;have hpl:=hphis.len;have hil:=hinss.len;(have hk0:(0:Int)≤k:=by omega);(have hk1:(k:Int)<f.blocks.length:=by omega);have HSt:=Lib.hid (sumTo_step hkb.out);(have hle:=Nat.le_trans (sumTo_le HNS.out k) (Nat.mul_le_mul_left _ (show (f.blocks.take k).length≤100000 by simp;omega)));have hpn:kb.phis.length≤100000:=(HNS.out kb (List.mem_of_getElem? hkb.out)).1;have hin:kb.ins.length≤100000:=(HNS.out kb (List.mem_of_getElem? hkb.out)).2
      generalize sumTo f.blocks k=s at *;(go_wp2_with fail);(go_quiet (fail));go_wp2_with fail
      go_roundw
      case rel=>exact ⟨k+1,_,by omega,by go_num,by rw [HSt.out];go_num,rfl⟩
      case measure=>simp [intOf];omega
    · (have hle:=Nat.le_trans (sumTo_le HNS.out k) (Nat.mul_le_mul_left _ (show (f.blocks.take k).length≤100000 by simp;omega)));have HS:=Lib.hid (sumTo_done (Nat.le_of_not_lt hlt));generalize sumTo f.blocks k=s at *
      by_cases hW:1≤f.blocks.length∧f.blocks.length≤64∧f.regs.length≤256∧s≤256
      · obtain ⟨hW1,hW2,hW3,hW4⟩:=hW;have HW:Hid (withinB f=true):=Lib.hid (decide_eq_true ⟨hW1,hW2,hW3,by rw [← HS.out];exact hW4⟩)
        -- begin
        (go_wp2_with fail);clear hW1 hW2 hW3 hW4
        go_loopw [5] (fun i wr=>∃ k q:Nat,k≤f.regs.length∧i=.int .i64 k∧Hid ((f.regs.take k).all isTy=true)∧wr=w1.drewN q) (fun i _=>f.regs.length - (intOf i).toNat)
        case atStart=>exact ⟨0,q,Nat.zero_le _,rfl,Lib.hid rfl,rfl⟩
        case round =>
          obtain ⟨k',q',hk',rfl,hty,rfl⟩:=hrel
          by_cases hlt':k'<f.regs.length
          · obtain ⟨b',o',x,rfl,hx,hxc,-⟩:=(SInts.keep hK hr).int hlt';(have hk0':(0:Int)≤k':=by omega);have hk1':(k':Int)<f.regs.length:=by omega
            by_cases x1:x=1
            · have HT:Hid (isTy x=true):=Lib.hid (decide_eq_true (.inl x1));(have x1':(x != 1)=false:=by simp [x1]);clear x1;go_wp2_with fail
              go_roundw
              case rel=>exact ⟨k'+1,_,by omega,by go_num,Lib.hid (by rw [qw hx.out hty.out];exact HT.out),rfl⟩
              case measure=>simp [intOf];omega
            · have x1':(x != 1)=true:=by rw [bne_iff_ne];exact x1
              by_cases x2:x=2
              · have HT:Hid (isTy x=true):=Lib.hid (decide_eq_true (.inr x2));(have x2':(x != 2)=false:=by simp [x2]);clear x1 x2;go_wp2_with fail
                go_roundw
                case rel=>exact ⟨k'+1,_,by omega,by go_num,Lib.hid (by rw [qw hx.out hty.out];exact HT.out),rfl⟩
                case measure=>simp [intOf];omega
              · have HT:Hid (qU f=3):=Lib.hid (by
                  have h1:isTy x=false:=decide_eq_false (fun h=>h.elim x1 x2)
                  unfold qU;rw [HW.out,if_pos rfl,show qd f=false by unfold qd;rw [qk hx.out h1];rfl];rfl)
                (have x2':(x != 2)=true:=by rw [bne_iff_ne];exact x2);clear x1 x2;(go_wp2_with fail);(go_ret);exact ⟨by rw [HT.out];rfl,below_drewN hB _⟩
          · have HA:=Lib.hid (z8 hty.out (Nat.le_of_not_lt hlt'));clear hty
            by_cases hP:(0≤f.params∧f.params≤8∧f.params≤f.regs.length)∧(0≤f.result∧f.result≤2)
            · obtain ⟨⟨p1,p2,p3⟩,p4,p5⟩:=hP
              have HTY:Hid (qU f=if qr f && meetB f then 0 else 6):=Lib.hid (by
                unfold qU;rw [HW.out,if_pos rfl,show qd f=true by unfold qd;rw [HA.out,decide_eq_true ⟨p1,p2,p3⟩,decide_eq_true (by omega)];rfl,if_pos rfl])
              (go_wp2_with fail);clear p1 p2 p3 p4 p5 HW HA
              go_loopw [6] (fun i wr=>∃ k:Nat,k≤f.blocks.length∧i=.int .i64 k∧Hid ((f.blocks.take k).all (fun b=>ql f.blocks.length b.term)=true)∧Below w1.heap.size w1 wr) (fun i _=>f.blocks.length - (intOf i).toNat)
              case atStart=>exact ⟨0,Nat.zero_le _,rfl,Lib.hid rfl,below_drewN (Below.refl _ _) _⟩
              case round =>
                obtain ⟨k,hk,rfl,hi,hbel⟩:=hrel;have hs:=hbel.size;have hkw:Kept w1 wr:=q6 hbel;have hBr:Below w.heap.size w wr:=hB.trans (hbel.mono (by omega));have hc0:=hkw _ _ hc0;have hc1:=hkw _ _ hc1;have hc2:=hkw _ _ hc2;have hc3:=hkw _ _ hc3
                by_cases hlt:k<f.blocks.length
                · obtain ⟨b,o,kb,rfl,hkb,⟨Ap,cp,hphi,hphis⟩,⟨Ai,ci,hins,hinss⟩,⟨hkd,h64k⟩,⟨har,h64a⟩,⟨At,ct,hto,htos⟩⟩:=(SBlks.keep (hK.trans hkw) hb).at_ hlt;have htl:=htos.len;(have hk0:(0:Int)≤k:=by omega);(have hk1:(k:Int)<f.blocks.length:=by omega);(go_wp2_with fail);(go_still_tail 7,(by kernel_rfl));change wpList _ _ _ _ _ wr.drew;have hbd:Below w1.heap.size w1 wr.drew:=hbel.drew;have hvf:VFun wr.drew (.agg #[.int .i64 f.params,.int .i64 f.result,.slice Ar f.regs.length cr,.slice (some ⟨b,o,none⟩) f.blocks.length c]) f:=VFun.keep (hK.trans (q6 hbd)) hv0
                  have hvt:VTerm wr.drew (.agg #[.int .i64 kb.term.kind,.int .i64 kb.term.arg,.slice At kb.term.to.length ct]) kb.term:=⟨At,ct,rfl,SInts.keep (q6 (Below.refl _ wr).drew) htos,h64k,h64a⟩;generalize wr.drew=w2 at *;(go_wp2_with fail);refine (shape_any f kb.term _ _ _ hvf hvt).mono ?_;rintro e w3 ⟨rfl,hb3⟩;have hb3':Below w1.heap.size w1 w3:=hbd.trans (hb3.mono hbd.size);cases hsh:ql f.blocks.length kb.term
                  · (have HD:Hid (qU f=6):=Lib.hid (by rw [HTY.out,show qr f=false from qk hkb.out hsh];rfl));clear hsh;(go_wp2_with fail);(go_ret);exact ⟨by rw [HD.out];rfl,hB.trans (hb3'.mono hB.size)⟩
                  · (have HD:Hid ((f.blocks.take (k+1)).all (fun b=>ql f.blocks.length b.term)=true):=Lib.hid (by rw [qw hkb.out hi.out];exact hsh));clear hsh;go_wp2_with fail
                    go_roundw
                    case rel=>exact ⟨k+1,by omega,by go_num,HD,hb3'⟩
                    case measure=>simp [intOf];omega
                · have HTZ:Hid (qU f=if meetB f then 0 else 6):=Lib.hid (by rw [HTY.out,show qr f=true from z8 hi.out (Nat.le_of_not_lt hlt),Bool.true_and]);clear HTY hi;(go_wp2_with fail);clear hc0 hc1 hc2 hc3;have hc0:=‹w1.cell? ⟨w.heap.size,0,none⟩=_›;have hc1:=‹w1.cell? ⟨w.heap.size,1,none⟩=_›;have hc2:=‹w1.cell? ⟨w.heap.size,2,none⟩=_›;have hc3:=‹w1.cell? ⟨w.heap.size,3,none⟩=_›;obtain ⟨wo,rfl⟩:∃ wo,wo=wr:=⟨wr,rfl⟩
                  go_loopw [8] (fun i wr=>∃ k:Nat,k≤f.blocks.length∧i=.int .i64 k∧Hid (meetUp f.blocks k=true)∧Below w1.heap.size w1 wr) (fun i _=>f.blocks.length - (intOf i).toNat)
                  case atStart=>exact ⟨0,Nat.zero_le _,rfl,Lib.hid rfl,hbel⟩
                  case round =>
                    clear hs hkw hBr hbel;obtain ⟨k,hk,rfl,hi,hbel⟩:=hrel;have hs:=hbel.size;have hkw:Kept w1 wr:=q6 hbel;have hBr:Below w.heap.size w wr:=hB.trans (hbel.mono (by omega));have hc0w:=hkw _ _ hc0;have hc1w:=hkw _ _ hc1;have hc2w:=hkw _ _ hc2;have hc3w:=hkw _ _ hc3
                    by_cases hlt:k<f.blocks.length
                    · obtain ⟨b,o,kb,rfl,hkb,⟨Ap,cp,hphi,hphis⟩,-,-,-,-⟩:=(SBlks.keep hK hb).at_ hlt;have hpl:=hphis.len;(have hk0:(0:Int)≤k:=by omega);(have hk1:(k:Int)<f.blocks.length:=by omega);have HM:=Lib.hid (fun h=>meetUp_step hkb.out (h:meetUp f.blocks k=true));have HS:=Lib.hid (meetUp_stop hkb.out);(go_wp2_with fail);obtain ⟨wo2,rfl⟩:∃ wo2,wo2=wr:=⟨wr,rfl⟩
                      go_loopw [9] (fun i wr=>∃ j:Nat,j≤kb.phis.length∧i=.int .i64 j∧Hid ((kb.phis.take j).all (fun p=>decide (p.args.length=(qG f.blocks k).length))=true)∧Below w1.heap.size w1 wr) (fun i _=>kb.phis.length - (intOf i).toNat)
                      case atStart=>exact ⟨0,Nat.zero_le _,rfl,Lib.hid rfl,hbel⟩
                      case round =>
                        clear hs hkw hBr hbel hc0w hc1w hc2w hc3w;obtain ⟨j,hj,rfl,hj2,hbel⟩:=hrel;have hs:=hbel.size;have hkw:Kept w1 wr:=q6 hbel;have hBr:Below w.heap.size w wr:=hB.trans (hbel.mono (by omega));have hc0:=hkw _ _ hc0;have hc1:=hkw _ _ hc1;have hc2:=hkw _ _ hc2;have hc3:=hkw _ _ hc3
                        have hphi:=hkw _ _ hphi
                        by_cases hjt:j<kb.phis.length
                        · obtain ⟨b',o',p,rfl,hp,-,Aa,ca,hag,hags⟩:=(SPhis.keep hkw hphis).at_ hjt;have hal:=hags.len;(have hj0:(0:Int)≤j:=by omega);(have hj1:(j:Int)<kb.phis.length:=by omega);have HAH:=Lib.hid (refAhead_any f k (.agg #[.int .i64 f.params,.int .i64 f.result,.slice Ar f.regs.length cr,.slice (some ⟨b,o,none⟩) f.blocks.length c]) wr.drew (VFun.keep ((hK.trans hkw).trans (q6 (Below.refl _ wr).drew)) hv0) (by omega));generalize qG f.blocks k=l at *
                          by_cases hpe:p.args.length=l.length
                          · (have hpe':((p.args.length:Int) != l.length)=false:=by simp [hpe]);(have HP:Hid ((kb.phis.take (j+1)).all (fun p=>decide (p.args.length=l.length))=true):=Lib.hid (by rw [qw hp.out hj2.out];exact decide_eq_true hpe));clear hpe;(go_wp2_with fail);refine qI (L:=15) (S:=fun w'=>w'.cell? ⟨w.heap.size,0,none⟩=some (.int .i64 f.params)∧w'.cell? ⟨w.heap.size,1,none⟩=some (.int .i64 f.result)∧w'.cell? ⟨w.heap.size,2,none⟩=some (.slice Ar f.regs.length cr)∧w'.cell? ⟨w.heap.size,3,none⟩=some (.slice (some ⟨b,o,none⟩) f.blocks.length c)∧w'.cell? ⟨b,o+k * 5,none⟩=some (.slice (some ⟨b',o',none⟩) kb.phis.length cp)∧w'.cell? ⟨b',o'+j * 2+1,none⟩=some (.slice Aa p.args.length ca)) (by kernel_rfl) (by rfl) (by kernel_rfl) (by kernel_rfl) ?_;change wpAnyH _ _ _ _ _ _ _ _ (World.drew _);have hS:∀ w',Below wr.heap.size wr w'→w'.cell? ⟨w.heap.size,0,none⟩=some (.int .i64 f.params)∧w'.cell? ⟨w.heap.size,1,none⟩=some (.int .i64 f.result)∧w'.cell? ⟨w.heap.size,2,none⟩=some (.slice Ar f.regs.length cr)∧w'.cell? ⟨w.heap.size,3,none⟩=some (.slice (some ⟨b,o,none⟩) f.blocks.length c)∧w'.cell? ⟨b,o+k * 5,none⟩=some (.slice (some ⟨b',o',none⟩) kb.phis.length cp)∧w'.cell? ⟨b',o'+j * 2+1,none⟩=some (.slice Aa p.args.length ca) :=
                              fun w' h=>⟨q6 h _ _ hc0,q6 h _ _ hc1,q6 h _ _ hc2,q6 h _ _ hc3,q6 h _ _ hphi,q6 h _ _ hag⟩
                            have hS0:=hS wr.drew (Below.refl _ _).drew;refine tk 0 137 hS0 ?_;simp only [Act.put,aS,List.set_cons_zero,List.set_cons_succ];refine tk 1 138 hS0 ?_;simp only [Act.put,aS,List.set_cons_zero,List.set_cons_succ];refine tk 2 139 hS0 ?_;simp only [Act.put,aS,List.set_cons_zero,List.set_cons_succ];refine tk 3 140 hS0 ?_;simp only [Act.put,aS,List.set_cons_zero,List.set_cons_succ]
                            refine tk 4 141 hS0 ?_;simp only [Act.put,aS,List.set_cons_zero,List.set_cons_succ];refine tk 5 142 hS0 ?_;simp only [Act.put,aS,List.set_cons_zero,List.set_cons_succ];refine tk 6 143 hS0 ?_;simp only [Act.put,aS,List.set_cons_zero,List.set_cons_succ];refine tk 7 144 hS0 ?_;simp only [Act.put,aS,List.set_cons_zero,List.set_cons_succ];refine tk 8 145 hS0 ?_
                            simp only [Act.put,aS,List.set_cons_zero,List.set_cons_succ];refine tk 9 146 hS0 ?_;simp only [Act.put,aS,List.set_cons_zero,List.set_cons_succ];refine tk 10 147 hS0 ?_;simp only [Act.put,aS,List.set_cons_zero,List.set_cons_succ];refine tk 11 148 hS0 ?_;simp only [Act.put,aS,List.set_cons_zero,List.set_cons_succ];refine tk 12 149 hS0 ?_;simp only [Act.put,aS,List.set_cons_zero,List.set_cons_succ]
                            refine oneH (i:=13) (by kernel_rfl) (fun o ho K hK=>?_);(simp only [List.getElem?_toArray,List.getElem?_cons_zero,List.getElem?_cons_succ,Option.some.injEq] at ho;subst ho);(go_simp);refine HAH.out.mono ?_;rintro e w7 ⟨⟨r,rfl,hr7⟩,hb7⟩;obtain ⟨A7,c7,rfl,hs7⟩:=hr7;have hl7:=hs7.len;have hb7':Below wr.heap.size wr w7:=(Below.refl _ wr).drew.trans hb7;have hS7:=hS w7 hb7'
                            (go_wp2_with fail);refine hK.out _ _ hS7 ?_;clear hK K;refine tk 14 151 hS7 ?_;simp only [Act.put,aS,List.set_cons_zero,List.set_cons_succ];refine wpAnyH_done (by kernel_rfl) ?_ _;refine lastH (by decide) (fun o ho K hK=>?_);(simp only [List.getElem?_toArray,List.getElem?_cons_zero,List.getElem?_cons_succ,Option.some.injEq] at ho;subst ho);go_simp
                            refine hK.out _ _ ?_;clear hK K;go_wp2_with fail
                            go_roundw
                            case rel=>exact ⟨j+1,by omega,by go_num,HP,hbel.trans (hb7'.mono (by omega))⟩
                            case measure=>simp [intOf];omega
                          · (have hpe':((p.args.length:Int) != l.length)=true:=by rw [bne_iff_ne];omega);(have HP:Hid (qU f=6):=Lib.hid (by rw [HTZ.out,show meetB f=false from HS.out (qk hp.out (decide_eq_false hpe))];rfl));clear hpe;(go_wp2_with fail);refine qI (L:=15) (S:=fun w'=>w'.cell? ⟨w.heap.size,0,none⟩=some (.int .i64 f.params)∧w'.cell? ⟨w.heap.size,1,none⟩=some (.int .i64 f.result)∧w'.cell? ⟨w.heap.size,2,none⟩=some (.slice Ar f.regs.length cr)∧w'.cell? ⟨w.heap.size,3,none⟩=some (.slice (some ⟨b,o,none⟩) f.blocks.length c)∧w'.cell? ⟨b,o+k * 5,none⟩=some (.slice (some ⟨b',o',none⟩) kb.phis.length cp)∧w'.cell? ⟨b',o'+j * 2+1,none⟩=some (.slice Aa p.args.length ca)) (by kernel_rfl) (by rfl) (by kernel_rfl) (by kernel_rfl) ?_;change wpAnyH _ _ _ _ _ _ _ _ (World.drew _);have hS:∀ w',Below wr.heap.size wr w'→w'.cell? ⟨w.heap.size,0,none⟩=some (.int .i64 f.params)∧w'.cell? ⟨w.heap.size,1,none⟩=some (.int .i64 f.result)∧w'.cell? ⟨w.heap.size,2,none⟩=some (.slice Ar f.regs.length cr)∧w'.cell? ⟨w.heap.size,3,none⟩=some (.slice (some ⟨b,o,none⟩) f.blocks.length c)∧w'.cell? ⟨b,o+k * 5,none⟩=some (.slice (some ⟨b',o',none⟩) kb.phis.length cp)∧w'.cell? ⟨b',o'+j * 2+1,none⟩=some (.slice Aa p.args.length ca) :=
                              fun w' h=>⟨q6 h _ _ hc0,q6 h _ _ hc1,q6 h _ _ hc2,q6 h _ _ hc3,q6 h _ _ hphi,q6 h _ _ hag⟩
                            have hS0:=hS wr.drew (Below.refl _ _).drew;refine tk 0 137 hS0 ?_;simp only [Act.put,aS,List.set_cons_zero,List.set_cons_succ];refine tk 1 138 hS0 ?_;simp only [Act.put,aS,List.set_cons_zero,List.set_cons_succ];refine tk 2 139 hS0 ?_;simp only [Act.put,aS,List.set_cons_zero,List.set_cons_succ];refine tk 3 140 hS0 ?_;simp only [Act.put,aS,List.set_cons_zero,List.set_cons_succ]
                            refine tk 4 141 hS0 ?_;simp only [Act.put,aS,List.set_cons_zero,List.set_cons_succ];refine tk 5 142 hS0 ?_;simp only [Act.put,aS,List.set_cons_zero,List.set_cons_succ];refine tk 6 143 hS0 ?_;simp only [Act.put,aS,List.set_cons_zero,List.set_cons_succ];refine tk 7 144 hS0 ?_;simp only [Act.put,aS,List.set_cons_zero,List.set_cons_succ];refine tk 8 145 hS0 ?_
                            simp only [Act.put,aS,List.set_cons_zero,List.set_cons_succ];refine tk 9 146 hS0 ?_;simp only [Act.put,aS,List.set_cons_zero,List.set_cons_succ];refine tk 10 147 hS0 ?_;simp only [Act.put,aS,List.set_cons_zero,List.set_cons_succ];refine tk 11 148 hS0 ?_;simp only [Act.put,aS,List.set_cons_zero,List.set_cons_succ];refine tk 12 149 hS0 ?_;simp only [Act.put,aS,List.set_cons_zero,List.set_cons_succ]
                            refine oneH (i:=13) (by kernel_rfl) (fun o ho K hK=>?_);(simp only [List.getElem?_toArray,List.getElem?_cons_zero,List.getElem?_cons_succ,Option.some.injEq] at ho;subst ho);(go_simp);refine HAH.out.mono ?_;rintro e w7 ⟨⟨r,rfl,hr7⟩,hb7⟩;obtain ⟨A7,c7,rfl,hs7⟩:=hr7;have hl7:=hs7.len;have hb7':Below wr.heap.size wr w7:=(Below.refl _ wr).drew.trans hb7;have hS7:=hS w7 hb7'
                            (go_wp2_with fail);refine hK.out _ _ hS7 ?_;clear hK K;refine tk 14 151 hS7 ?_;simp only [Act.put,aS,List.set_cons_zero,List.set_cons_succ];refine wpAnyH_done (by kernel_rfl) ?_ _;refine lastH (by decide) (fun o ho K hK=>?_);(simp only [List.getElem?_toArray,List.getElem?_cons_zero,List.getElem?_cons_succ,Option.some.injEq] at ho;subst ho);go_simp
                            refine hK.out _ _ ?_;clear hK K;(go_wp2_with fail);(go_ret);exact ⟨by rw [HP.out];rfl,hBr.trans (hb7'.mono hBr.size)⟩
                        · (have HD:Hid (meetUp f.blocks (k+1)=true):=Lib.hid (by rw [HM.out hi.out];exact z8 hj2.out (Nat.le_of_not_lt hjt)));go_wp2_with fail
                          go_roundw
                          case rel=>exact ⟨k+1,by omega,by go_num,HD,hbel⟩
                          case measure=>simp [intOf];omega
                    · (have HD:Hid (qU f=0):=Lib.hid (by rw [HTZ.out,show meetB f=true from meetUp_done hi.out (Nat.le_of_not_lt hlt)];rfl));(go_wp2_with fail);(go_ret);exact ⟨by rw [HD.out];rfl,hBr⟩
            · have HT:Hid (qU f=3):=Lib.hid (by
                unfold qU;rw [HW.out,if_pos rfl,show qd f=false by
                  unfold qd;rw [HA.out,Bool.true_and,Bool.and_eq_false_iff]
                  by_cases h:0≤f.params∧f.params≤8∧f.params≤f.regs.length
                  · exact .inr (decide_eq_false (fun h'=>hP ⟨h,by omega⟩))
                  · exact .inl (decide_eq_false h)];rfl)
              by_cases p1:f.params<0
              · clear hP;(go_wp2_with fail);(go_ret);exact ⟨by rw [HT.out];rfl,below_drewN hB _⟩
              · by_cases p2:8<f.params
                · clear hP;(go_wp2_with fail);(go_ret);exact ⟨by rw [HT.out];rfl,below_drewN hB _⟩
                · by_cases p3:(f.regs.length:Int)<f.params
                  · clear hP;(go_wp2_with fail);(go_ret);exact ⟨by rw [HT.out];rfl,below_drewN hB _⟩
                  · by_cases p4:f.result<0
                    · clear hP;(go_wp2_with fail);(go_ret);exact ⟨by rw [HT.out];rfl,below_drewN hB _⟩
                    · (have p5:2<f.result:=by omega);clear hP;(go_wp2_with fail);(go_ret);exact ⟨by rw [HT.out];rfl,below_drewN hB _⟩
        -- end
      · have HW:Hid (qU f=5):=Lib.hid (by unfold qU;rw [show withinB f=false from decide_eq_false (by rw [← HS.out];exact hW)];rfl)
        by_cases g1:f.blocks.length<1
        · (go_wp2_with fail);(go_ret);exact ⟨by rw [HW.out];rfl,below_drewN hB _⟩
        · by_cases g2:64<f.blocks.length
          · clear hW;(go_wp2_with fail);(go_ret);exact ⟨by rw [HW.out];rfl,below_drewN hB _⟩
          · by_cases g3:256<f.regs.length
            · clear hW;(go_wp2_with fail);(go_ret);exact ⟨by rw [HW.out];rfl,below_drewN hB _⟩
            · (have g4:256<s:=by omega);clear hW;(go_wp2_with fail);(go_ret);exact ⟨by rw [HW.out];rfl,below_drewN hB _⟩
end Go.Proofs.YtfoggldjjnabcaaGreatDoor
