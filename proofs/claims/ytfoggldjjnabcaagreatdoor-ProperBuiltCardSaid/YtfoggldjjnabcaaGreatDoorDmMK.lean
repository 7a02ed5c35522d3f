/- The helpers of ofInstr: arith's Args, ints, constType, copyType. -/
import Derived.Test.YtfoggldjjnabcaaGreatDoorModAK
import Derived.Test.YtfoggldjjnabcaaGreatDoorChkDK
import Derived.Deep.QuietTactic
import Derived.BigQuiet
import Derived.Laws.Rows
import Derived.Laws.ResultCell
import Derived.StillTailTactics
namespace Go.Proofs.YtfoggldjjnabcaaGreatDoor
open Go.ChangeShapes Go.WideShapes Go.RowKit Go.Deep
set_option linter.unusedVariables false
set_option linter.unusedSimpArgs false
def q1D (op:Int):Int:=if op=2\/op=14 then 1 else if 3<=op/\op<=13 then 2 else 0
def q3j (op:Int):Bool:=decide (2<=op/\op<=14)
theorem q4L (op:Int) (w:World) :
  Calls Tryz.prog 152 #[.int .i64 op] w λ e w'=>e=.returned (.tuple #[.int .i64 (q1D op),.bool (q3j op)])/\w=w':=by
 by_cases h:2<=op/\op<=14
 ·(obtain rfl | rfl | rfl | rfl | rfl| rfl| rfl| rfl| rfl| rfl| rfl | rfl | rfl:op=2\/op=3\/op=4\/op=5\/op=6\/op=7\/op=8\/op=9\/op=10\/op=11\/op=12\/op=13\/op=14:=by omega);all_goals
   (go_enter Tryz.func152,Tryz.ntmps152);(go_wp2);(go_ret2);exact ⟨rfl,rfl⟩
 ·(have e1:q1D op=0:=by unfold q1D;rw [if_neg (by omega),if_neg (by omega)]);(have e2:q3j op=false:=by unfold q3j;simp;omega);rw [e1,e2];clear e1 e2;(have h2:(op == 2)=false:=by simp;omega);(have h3:(op == 3)=false:=by simp;omega);(have h4:(op == 4)=false:=by simp;omega);(have h5:(op == 5)=false:=by simp;omega);have h6:(op == 6)=false:=by simp;omega
  (have h7:(op == 7)=false:=by simp;omega);(have h8:(op == 8)=false:=by simp;omega);(have h9:(op == 9)=false:=by simp;omega);(have h10:(op == 10)=false:=by simp;omega);(have h11:(op == 11)=false:=by simp;omega);(have h12:(op == 12)=false:=by simp;omega);(have h13:(op == 13)=false:=by simp;omega);(have h14:(op == 14)=false:=by simp;omega);clear h
  (go_enter Tryz.func152,Tryz.ntmps152);(go_wp2);(go_ret2);exact ⟨rfl,rfl⟩
theorem q4w (n:Nat) (hn:n<=1000000) (w:World) :
  Calls Tryz.prog 153 #[.int .i64 n] w λ e w'=>(∃ c,e=.returned (.slice (some ⟨w.heap.size,0,none⟩) n c)/\SL w' 1 RInt (some ⟨w.heap.size,0,none⟩) c (List.replicate n 1))/\Below w.heap.size w w':=by
 have tq:=run_make_row' (P:=Tryz.prog) 27 3 (.int .i64 0) 8 Tryz.underlying27 Tryz.info3 rfl .i64 .i64 n (by omega) (by omega);(go_enter Tryz.func153,Tryz.ntmps153);(go_wp2_with fail);clear tq;have hr:=World.rowIs_made w (.int .i64 0) n 3;have hb:Below w.heap.size w (w.alloc (.cells (madeCells #[.int .i64 0] n) 3)):=(J5 _ _).alloc (J4 _) _;generalize w.alloc (.cells (madeCells #[.int .i64 0] n) 3)=w1 at *
 go_loopw [9] (λ i wr=>∃ k:Nat,k<=n/\i=.int .i64 k/\Below w.heap.size w wr/\wr.rowIs w.heap.size 3 n (λ j=>if j<k then .int .i64 1 else .int .i64 0)) (λ i _=>n - (intOf i).toNat)
 case atStart=>exact ⟨0,Nat.zero_le _,rfl,hb,hr.congr (λ j _=>(if_neg (Nat.not_lt_zero j)).symm)⟩
 case round =>
  obtain ⟨k,hk,rfl,tf,wm⟩:=hrel;have hlw:=wm.lt
  by_cases tr:k<n
  ·have hc:=wm.cell tr;rw [if_neg (Nat.lt_irrefl k)] at hc;have hf:=wm.frozen k;(have hk0:(0:Int)<=k:=by omega);have ww:(k:Int)<n:=by omega
   have wM:(wr.setCell ⟨w.heap.size,k,none⟩ (.int .i64 1)).rowIs w.heap.size 3 n (λ j=>if j<k+1 then .int .i64 1 else .int .i64 0):=(wm.set k _).congr (λ j _=>by
    by_cases e:j=k
    ·rw [if_pos e,if_pos (by omega)]
    ·rw [if_neg e]
     by_cases e2:j<k
     ·rw [if_pos e2,if_pos (by omega)]
     ·rw [if_neg e2,if_neg (by omega)])
   go_wp2_with fail
   go_roundw
   case rel=>exact ⟨k+1,by omega,by go_num,tf.setCell (J4 _) _,wM⟩
   case measure=>simp [intOf];omega
  ·(obtain rfl:k=n:=by omega);(go_wp2_with fail);(go_ret);refine ⟨⟨_,rfl,?_,?_,λ _=>⟨_,_,rfl,λ i x hi=>?_⟩⟩,tf⟩
   ·rw [List.length_replicate];exact J4 _
   ·exact ⟨by unfold maxLen;omega,λ e=>by cases e⟩
   ·obtain ⟨h1,h2⟩:=Jk hi;rw [List.length_replicate] at h1;rw [List.getElem_replicate] at h2;subst h2;rw [Nat.mul_one,Nat.zero_add];exact ⟨by rw [wm.cell h1,if_pos h1],by unfold I64;omega⟩
theorem q9y (w:World) (o o':Obj):Kept w ((w.alloc o).alloc o'):=(qc w o).trans (qc _ o')
def zi (f:qB) (x:qN):Int:=if zM x.dst f.regs.length=true/\reg f.regs x.dst=2/\(x.imm=0\/x.imm=1) then 2 else 1
theorem q1X (f:qB) (x:qN) (vf vx:Value) (w:World) (hf:VFun w vf f) (hx:VIns w vx x) :
  Calls Tryz.prog 149 #[vf,vx] w λ e w'=>e=.returned (.int .i64 (zi f x))/\Below w.heap.size w w':=by
 obtain ⟨Ar,cr,Ab,cb,rfl,hr,tx,wQ,wO⟩:=hf;obtain ⟨A,c,rfl,wv,wR,wu,wU,wV⟩:=hx;have tp:=hr.len;cases wg:zM x.dst f.regs.length
 ·(have HT:Hid (zi f x=1):=Jj (by unfold zi;rw [wg];exact if_neg (λ h=>by cases h.1)));have HA:=Jj wg;clear wg;(go_enter Tryz.func149,Tryz.ntmps149);(go_wp2_with fail);refine (zl _ _ _).mono ?_;rintro e w' ⟨rfl,rfl⟩;rw [HA.out];go_wp2_with fail
  (go_ret);exact ⟨by rw [HT.out];rfl,((J5 _ w).alloc (J4 _) _).alloc (by simp) _⟩
 ·have tz:0<=x.dst/\x.dst<f.regs.length:=of_decide_eq_true wg;obtain ⟨h0,h1⟩:=tz;obtain ⟨k,hk⟩:=Int.eq_ofNat_of_zero_le h0;(have wT:k<f.regs.length:=by omega);obtain ⟨b,o,y,rfl,hy,wl,wJ⟩:=hr.int wT;have HR:Hid (reg f.regs x.dst=y):=Jj (jS hk hy.out);have HA:=Jj wg;clear wg;rw [hk] at h0 h1 wu
  have HKK:=Jj hk;have hyc':=q9y w (.cells #[.int .i64 f.params,.int .i64 f.result,.slice (some ⟨b,o,none⟩) f.regs.length cr,.slice Ab f.blocks.length cb] 30) (.cells #[.int .i64 x.op,.int .i64 x.dst,.slice A x.args.length c,.int .i64 x.imm,.int .i64 x.fn] 53) _ _ wl;obtain ⟨op,dst,args,imm,fn⟩:=x;dsimp only at *;subst hk;clear wl;have hB:Below w.heap.size w ((w.alloc (.cells #[.int .i64 f.params,.int .i64 f.result,.slice (some ⟨b,o,none⟩) f.regs.length cr,.slice Ab f.blocks.length cb] 30)).alloc (.cells #[.int .i64 op,.int .i64 k,.slice A args.length c,.int .i64 imm,.int .i64 fn] 53)):=((J5 _ w).alloc (J4 _) _).alloc (by simp) _;have HB:=Jj hB;clear hB
  by_cases wh:y=2
  ·have tj:(y == 2)=true:=by simp [wh]
   by_cases wj:imm=0
   ·(have tw:(imm == 0)=true:=by simp [wj]);(have HT:Hid (zi f ⟨op,k,args,imm,fn⟩=2):=Jj (if_pos ⟨HA.out,by rw [HR.out];exact wh,.inl wj⟩));clear wh wj;(go_enter Tryz.func149,Tryz.ntmps149);(go_wp2_with fail);refine (zl _ _ _).mono ?_;rintro e w' ⟨rfl,rfl⟩;rw [HA.out];go_wp2_with fail
    (go_ret);exact ⟨by rw [HT.out];rfl,HB.out⟩
   ·have tw:(imm == 0)=false:=by simp [wj]
    by_cases wk:imm=1
    ·(have tu:(imm == 1)=true:=by simp [wk]);(have HT:Hid (zi f ⟨op,k,args,imm,fn⟩=2):=Jj (if_pos ⟨HA.out,by rw [HR.out];exact wh,.inr wk⟩));clear wh wj wk;(go_enter Tryz.func149,Tryz.ntmps149);(go_wp2_with fail);refine (zl _ _ _).mono ?_;rintro e w' ⟨rfl,rfl⟩;rw [HA.out];go_wp2_with fail
     (go_ret);exact ⟨by rw [HT.out];rfl,HB.out⟩
    ·(have tu:(imm == 1)=false:=by simp [wk]);have HT:Hid (zi f ⟨op,k,args,imm,fn⟩=1):=Jj (if_neg (λ h=>by exact h.2.2.elim wj wk));clear wh wj wk;(go_enter Tryz.func149,Tryz.ntmps149);(go_wp2_with fail);refine (zl _ _ _).mono ?_;rintro e w' ⟨rfl,rfl⟩;rw [HA.out];go_wp2_with fail
     (go_ret);exact ⟨by rw [HT.out];rfl,HB.out⟩
  ·(have tj:(y == 2)=false:=by simp [wh]);(have HT:Hid (zi f ⟨op,k,args,imm,fn⟩=1):=Jj (if_neg (λ h=>by have:=h.2.1;rw [HR.out] at this;exact wh this)));clear wh;(go_enter Tryz.func149,Tryz.ntmps149);(go_wp2_with fail);refine (zl _ _ _).mono ?_;rintro e w' ⟨rfl,rfl⟩;rw [HA.out];go_wp2_with fail
   (go_ret);exact ⟨by rw [HT.out];rfl,HB.out⟩
def j8 (f:qB) (x:qN):Int:=match x.args with
 | []=>1
 | a::_=>if zM a f.regs.length=true then reg f.regs a else 1
theorem q2q (f:qB) (x:qN) (vf vx:Value) (w:World) (hf:VFun w vf f) (hx:VIns w vx x) :
  Calls Tryz.prog 150 #[vf,vx] w λ e w'=>e=.returned (.int .i64 (j8 f x))/\Below w.heap.size w w':=by
 obtain ⟨Ar,cr,Ab,cb,rfl,hr,tx,wQ,wO⟩:=hf;obtain ⟨A,c,rfl,wv,wR,wu,wU,wV⟩:=hx;have tp:=hr.len;have hal:=wv.len;obtain ⟨op,dst,args,imm,fn⟩:=x;dsimp only at *;obtain ⟨wa,wY,ta,tc,tg,td,-⟩:=named w #[.int .i64 f.params,.int .i64 f.result,.slice Ar f.regs.length cr,.slice Ab f.blocks.length cb] 30;obtain ⟨w1,wZ,tm,ww,th,wW,-⟩:=named wa #[.int .i64 op,.int .i64 dst,.slice A args.length c,.int .i64 imm,.int .i64 fn] 53;rw [ta] at wW
 have HB:Hid (Below w.heap.size w w1):=Jj (tg.trans (th.mono (by omega)));have hK:=tc.trans ww;have q2:w1.cell? ⟨w.heap.size,2,none⟩=some (.slice Ar f.regs.length cr):=ww _ _ (td 2 _ rfl);have p2:w1.cell? ⟨w.heap.size+1,2,none⟩=some (.slice A args.length c):=wW 2 _ rfl;have HW:Hid ((w.alloc (.cells #[.int .i64 f.params,.int .i64 f.result,.slice Ar f.regs.length cr,.slice Ab f.blocks.length cb] 30)).alloc (.cells #[.int .i64 op,.int .i64 dst,.slice A args.length c,.int .i64 imm,.int .i64 fn] 53)=w1):=Jj (by rw [wZ,wY]);clear wY wZ ta tm tc ww tg th td wW;have hisAt:∀ (a b:Int) (j:Nat),Calls Tryz.prog 101 #[.int .i64 a,.int .i64 b] (w1.drewN j) λ e w'=>e=.returned (.bool (zM a b))/\w'=w1.drewN j:=λ a b j=>(zl a b _).mono λ e w' h=>⟨h.1,h.2.symm⟩;have HI:=Jj hisAt;clear hisAt
 cases args with
 | nil =>
  have tB:Hid ((w.alloc (.cells #[.int .i64 f.params,.int .i64 f.result,.slice Ar f.regs.length cr,.slice Ab f.blocks.length cb] 30)).alloc (.cells #[.int .i64 op,.int .i64 dst,.slice A 0 c,.int .i64 imm,.int .i64 fn] 53)=w1):=HW;clear HW;have HW:=tB;(go_enter Tryz.func150,Tryz.ntmps150);(go_wp2_with fail);rw [HW.out];simp only [List.length_nil] at p2;(go_quiet (fail));go_wp2_with fail
  (go_ret);exact ⟨rfl,below_drewN HB.out _⟩
 | cons a l =>
  obtain ⟨ba,oa,a',rfl,ha,wX,ha64⟩:=wv.int (k:=0) (by simp);obtain rfl:a=a':=J3 ha.out;have wX:=hK _ _ wX;rw [Nat.add_zero] at wX;(have hl0:0<(a::l).length:=by simp);(have hl1:(0:Int)<((a::l).length:Int):=by omega);clear wv ha;cases wg:zM a f.regs.length
  ·(have HT:Hid (j8 f ⟨op,dst,a::l,imm,fn⟩=1):=Jj (by show (if zM a f.regs.length=true then reg f.regs a else 1)=1;rw [wg];rfl));(have HA:=Jj (λ j=>by have:=HI.out a f.regs.length j;rw [wg] at this;exact this));clear wg;generalize (a::l).length=n at *;(go_enter Tryz.func150,Tryz.ntmps150);(go_wp2_with fail);rw [HW.out];(go_quiet ((go_at_call 101;exact Calls.quiet_of_same (HA.out _))));go_wp2_with fail
   (go_ret);exact ⟨by rw [HT.out];rfl,below_drewN HB.out _⟩
  ·obtain ⟨h0,h1⟩:0<=a/\a<f.regs.length:=of_decide_eq_true wg;obtain ⟨k,rfl⟩:=Int.eq_ofNat_of_zero_le h0;(have wT:k<f.regs.length:=by omega);obtain ⟨b,o,y,rfl,hy,wl,wJ⟩:=hr.int wT;have wl:=hK _ _ wl;(have HT:Hid (j8 f ⟨op,dst,(k:Int)::l,imm,fn⟩=y):=Jj (by show (if zM (k:Int) f.regs.length=true then reg f.regs k else 1)=y;rw [wg,if_pos rfl];exact jS rfl hy.out));(have HA:=Jj (λ j=>by have:=HI.out (k:Int) f.regs.length j;rw [wg] at this;exact this));clear wg;generalize ((k:Int)::l).length=n at *
   (go_enter Tryz.func150,Tryz.ntmps150);(go_wp2_with fail);rw [HW.out];(go_quiet ((go_at_call 101;exact Calls.quiet_of_same (HA.out _))));(go_wp2_with fail);(go_quiet (fail));(go_wp2_with fail);(go_ret);exact ⟨by rw [HT.out];rfl,below_drewN (below_drewN HB.out _) _⟩
theorem Tryz.info55:(Tryz.prog.info? 55).map (λ i=>(i.zero,i.size,i.bytes))=some (some (.agg #[.int .i64 0,.slice none 0 0]),2,32):=by kernel_rfl
theorem Tryz.info53:(Tryz.prog.info? 53).map (λ i=>(i.zero,i.size,i.bytes))=some (some (.agg #[.int .i64 0,.int .i64 0,.slice none 0 0,.int .i64 0,.int .i64 0]),5,56):=by kernel_rfl
theorem Tryz.info51:(Tryz.prog.info? 51).map (λ i=>(i.zero,i.size,i.bytes))=some (some (.agg #[.slice none 0 0,.slice none 0 0,.int .i64 0,.int .i64 0,.slice none 0 0]),5,88):=by kernel_rfl
theorem Tryz.info30:(Tryz.prog.info? 30).map (λ i=>(i.zero,i.size,i.bytes))=some (some (.agg #[.int .i64 0,.int .i64 0,.slice none 0 0,.slice none 0 0]),4,64):=by kernel_rfl
theorem qO {P:Program} {fn:Func} {p u:Tmp} {ty:TypeId} (h:fn.results=#[.cell p ty,.tmp u]) (tmps:Array Value) (w:World) (g:Nat) (t:TypeId) (cs:Array Value) (fr:Nat × Nat) (d:TypeDesc)
  (hp:tmps.getD p undef=.pointer (some ⟨g,0,none⟩)) (hg:w.heap[g]?=some (.cells cs t fr))
  (hu:P.underlying ty=some d) (hd:(match d with | .struct _ | .array _ _=>true | _=>false)=true) (hi:(P.info? ty).map (·.size)=some cs.size) :
  (results fn tmps).run P w=.ok (.tuple #[.agg cs,tmps.getD u undef]) w:=by
 (have tj:tmps[p]?.getD undef=.pointer (some ⟨g,0,none⟩):=by simpa using hp);rw [results_cell_tmp h];simp [tj,asAddr,run_loadVar_row w g t ty cs fr d hg hu hd hi,Result.andThen]
def qAz (w:World) (v:Value) (many:Int) (ts:List Int) (d:Int):Prop:=∃ A c,v=.agg #[.int .i64 many,.slice A ts.length c,.int .i64 d]/\SL w 1 RInt A c ts/\I64 many/\I64 d
set_option maxRecDepth 100000 in
theorem vy (d:Int) (A:Option Addr) (n c:Nat) (w:World) :
  Calls Tryz.prog 148 #[.int .i64 d,.slice A n c] w λ e w'=>e=.returned (.agg #[.int .i64 n,.slice A n c,.int .i64 d])/\Below w.heap.size w w':=by
 (go_enter Tryz.func148,Tryz.ntmps148);(go_wp2_with fail);refine bodyPost_ret (results_cell_row rfl _ _ w.heap.size 204 #[.int .i64 n,.slice A n c,.int .i64 d] (0,0) _ (by rfl) (heap_alloc_new w _) Tryz.underlying204 (by rfl) (by kernel_rfl)) rfl ?_;exact ⟨rfl,(J5 _ w).alloc (J4 _) _⟩
set_option maxRecDepth 100000 in
theorem kv (m:List qB) (vm:Value) (n:Int) (w:World) (hm:VMod w vm m) (hn:I64 n) (td:zM n m.length=false) :
  Calls Tryz.prog 151 #[vm,.int .i64 n] w λ e w'=>e=.returned (.tuple #[.agg #[.int .i64 0,.slice none 0 0,.int .i64 0],q1U 4])/\Below w.heap.size w w':=by
 obtain ⟨Am,cm,rfl,wV⟩:=hm;have tm:=wV.len;have HA:=Jj td;clear td;(go_enter Tryz.func151,Tryz.ntmps151);(go_wp2_with fail);refine (zl _ _ _).mono ?_;rintro e w' ⟨rfl,rfl⟩;rw [HA.out]
 (go_wp2_with fail);refine bodyPost_ret (qO rfl _ _ (w.heap.size+1) 204 #[.int .i64 0,.slice none 0 0,.int .i64 0] (0,0) _ (by rfl) (heap_alloc2_new w _ _) Tryz.underlying204 (by rfl) (by kernel_rfl)) rfl ?_;exact ⟨rfl,((J5 _ w).alloc (J4 _) _).alloc (by simp) _⟩
def qz (g:qB):Nat:=min g.params.toNat g.regs.length
theorem SL.takeN {α:Type} {w:World} {sz c n:Nat} {R:World->Nat->Nat->α->Prop} {A:Option Addr} {xs:List α} (h:SL w sz R A c xs) (hn:n<=xs.length):SL w sz R A c (xs.take n):=by
 obtain ⟨h1,h2,h3⟩:=h;(refine ⟨by rw [List.length_take];omega,h2,λ hp=>?_⟩);rw [List.length_take] at hp;obtain ⟨b,o,e,hx⟩:=h3 (by omega);refine ⟨b,o,e,λ i x hi=>hx i x ?_⟩;rw [List.getElem?_take] at hi
 split at hi
 ·exact hi
 ·cases hi
theorem qa {w:World} {g:Nat} {a b c:Value} {t:TypeId} (h:w.heap[g]?=some (.cells #[a,b,c] t (0,0))) (v0 v1 v2:Value) :
  (((w.setCell ⟨g,0,none⟩ v0).setCell ⟨g,1,none⟩ v1).setCell ⟨g,2,none⟩ v2).heap[g]?=some (.cells #[v0,v1,v2] t (0,0)) :=
 qK v2 (qK v1 (qK v0 h))
theorem qC {w:World} {g:Nat} {cs:Array Value} {t:TypeId} (h:w.heap[g]?=some (.cells cs t (0,0))) (i:Nat):w.frozen? ⟨g,i,none⟩=false:=by
 unfold World.frozen?;simp [h]
set_option maxRecDepth 100000 in
set_option maxHeartbeats 4000000 in
theorem ku (m:List qB) (vm:Value) (k:Nat) (g:qB) (w0 w:World) (tp:VMod w0 vm m) (hK0:Kept w0 w) (hg:m[k]?=some g) :
  Calls Tryz.prog 151 #[vm,.int .i64 k] w λ e w'=>(∃ v,e=.returned (.tuple #[v,.nilIface])/\qAz w0 v g.params (g.regs.take (qz g)) g.result)/\Below w.heap.size w w':=by
 obtain ⟨Am,cm,rfl,wO⟩:=tp;have wV:=SFuns.keep hK0 wO;have tm:=wV.len;have hk:k<m.length:=(Jk hg).1;have HA:Hid (zM k m.length=true):=Jj (decide_eq_true (by omega));have HG:=Jj hg;clear hg;(have hk1:(k:Int)<m.length:=by omega);obtain ⟨b,o,g',rfl,hx,⟨h0,z0⟩,⟨h1,z1⟩,⟨Ar,cr,h2,z2⟩,Ab,cb,h3,z3⟩:=wO.at_ hk
 obtain rfl:g=g':=J3 (HG.out.symm.trans hx.out);have hrl:=z2.len;have hrc:=z2.1;obtain ⟨gp,gr,gs,gb⟩:=g;dsimp only at *;(go_enter Tryz.func151,Tryz.ntmps151);(go_wp2_with fail);refine (zl _ _ _).mono ?_;rintro e w' ⟨rfl,rfl⟩
 rw [HA.out];obtain ⟨wa,wW,wX,wY,ta,wZ,-⟩:=named w #[.slice (some ⟨b,o,none⟩) m.length cm] 24;obtain ⟨w1,wT,tf,wM,tc,wR,-⟩:=named wa #[.int .i64 0,.slice none 0 0,.int .i64 0] 204;have hB1:Below w.heap.size w w1:=ta.trans (tc.mono (by omega));(have wu:w1.heap[wa.heap.size]?=some (.cells #[.int .i64 0,.slice none 0 0,.int .i64 0] 204 (0,0)):=by rw [wT];exact heap_alloc_new _ _);rw [<- wW,<- wT];rw [wX] at wR wu;have q0:w1.cell? ⟨w.heap.size,0,none⟩=some (.slice (some ⟨b,o,none⟩) m.length cm):=wM _ _ (wZ 0 _ rfl);have r0:w1.cell? ⟨w.heap.size+1,0,none⟩=some (.int .i64 0):=wR 0 _ rfl
 have r1:w1.cell? ⟨w.heap.size+1,1,none⟩=some (.slice none 0 0):=wR 1 _ rfl;have r2:w1.cell? ⟨w.heap.size+1,2,none⟩=some (.int .i64 0):=wR 2 _ rfl;(have ww:w.heap.size+1<w1.heap.size:=by omega);have hK:=wY.trans wM;clear wW wT wX wZ wR wY wM ta tc tf;have h0:=hK _ _ (hK0 _ _ h0);have h1:=hK _ _ (hK0 _ _ h1);have h2:=hK _ _ (hK0 _ _ h2);have h3:=hK _ _ (hK0 _ _ h3)
 by_cases wQ:gp<0
 ·cases Ar with
  | none =>
   obtain rfl:cr=0:=z2.2.1.2 rfl;(have hcut:Hid (gs.take (qz ⟨gp,gr,gs,gb⟩)=gs.take (0)):=Jj (by congr 1;unfold qz;dsimp only;omega));(have wh:Hid ((gs.take (0)).length=(0)):=Jj (by rw [List.length_take];omega));(go_wp2_with fail);obtain ⟨w2,wl,wv,wk,wm,wj,-⟩:=named w1 #[.int .i64 (gp),.int .i64 gr,.slice none gs.length 0,.slice Ab gb.length cb] 30;have hB2:Below w.heap.size w w2:=hB1.trans (wm.mono hB1.size);have wg:w2.heap[w.heap.size+1]?=some (.cells #[.int .i64 0,.slice none 0 0,.int .i64 0] 204 (0,0)):=(wm.block _ ww).trans wu;rw [<- wl];have g0:w2.cell? ⟨w1.heap.size,0,none⟩=some (.int .i64 (gp)):=wj 0 _ rfl
   have g1:w2.cell? ⟨w1.heap.size,1,none⟩=some (.int .i64 gr):=wj 1 _ rfl;have g2:w2.cell? ⟨w1.heap.size,2,none⟩=some (.slice none gs.length 0):=wj 2 _ rfl;have r0:=wk _ _ r0;have r1:=wk _ _ r1;have r2:=wk _ _ r2;(have wJ:w.heap.size+1<w2.heap.size:=by omega);have f0:=qC wg 0;have f1:=qC wg 1;have f2:=qC wg 2
   clear wl wv wj;(go_still_tail 9,(by kernel_rfl));change wpList _ _ _ _ _ w2.drew;(go_wp2_with fail);have hwF:Below w.heap.size w (((w2.setCell ⟨w.heap.size+1,0,none⟩ (.int .i64 (gp))).setCell ⟨w.heap.size+1,1,none⟩ (.slice none (0) 0)).setCell ⟨w.heap.size+1,2,none⟩ (.int .i64 gr)) :=
    ((hB2.setCell (by show _<=w.heap.size+1;omega) _).setCell (by show _<=w.heap.size+1;omega) _).setCell (by show _<=w.heap.size+1;omega) _
   have hbkF:=qa (w:=w2) wg (.int .i64 (gp)) (.slice none (0) 0) (.int .i64 gr);generalize (((w2.setCell ⟨w.heap.size+1,0,none⟩ (.int .i64 (gp))).setCell ⟨w.heap.size+1,1,none⟩ (.slice none (0) 0)).setCell ⟨w.heap.size+1,2,none⟩ (.int .i64 gr))=wF at *;refine bodyPost_ret (qO rfl _ _ (w.heap.size+1) 204 #[.int .i64 (gp),.slice none (0) 0,.int .i64 gr] (0,0) _ (by rfl) hbkF Tryz.underlying204 (by rfl) (by kernel_rfl)) rfl ?_;refine ⟨⟨_,rfl,none,0,?_,?_,z0,z1⟩,hwF.drew⟩
   ·rw [hcut.out,wh.out]
   ·rw [hcut.out];exact z2.takeN (by omega)
  | some a =>
   (have hcut:Hid (gs.take (qz ⟨gp,gr,gs,gb⟩)=gs.take (0)):=Jj (by congr 1;unfold qz;dsimp only;omega));(have wh:Hid ((gs.take (0)).length=(0)):=Jj (by rw [List.length_take];omega));(go_wp2_with fail);obtain ⟨w2,wl,wv,wk,wm,wj,-⟩:=named w1 #[.int .i64 (gp),.int .i64 gr,.slice (some a) gs.length cr,.slice Ab gb.length cb] 30;have hB2:Below w.heap.size w w2:=hB1.trans (wm.mono hB1.size);have wg:w2.heap[w.heap.size+1]?=some (.cells #[.int .i64 0,.slice none 0 0,.int .i64 0] 204 (0,0)):=(wm.block _ ww).trans wu;rw [<- wl];have g0:w2.cell? ⟨w1.heap.size,0,none⟩=some (.int .i64 (gp)):=wj 0 _ rfl;have g1:w2.cell? ⟨w1.heap.size,1,none⟩=some (.int .i64 gr):=wj 1 _ rfl
   have g2:w2.cell? ⟨w1.heap.size,2,none⟩=some (.slice (some a) gs.length cr):=wj 2 _ rfl;have r0:=wk _ _ r0;have r1:=wk _ _ r1;have r2:=wk _ _ r2;(have wJ:w.heap.size+1<w2.heap.size:=by omega);have f0:=qC wg 0;have f1:=qC wg 1;have f2:=qC wg 2;clear wl wv wj
   (go_still_tail 9,(by kernel_rfl));change wpList _ _ _ _ _ w2.drew;(go_wp2_with fail);have hwF:Below w.heap.size w (((w2.setCell ⟨w.heap.size+1,0,none⟩ (.int .i64 (gp))).setCell ⟨w.heap.size+1,1,none⟩ (.slice (some a) (0) cr)).setCell ⟨w.heap.size+1,2,none⟩ (.int .i64 gr)) :=
    ((hB2.setCell (by show _<=w.heap.size+1;omega) _).setCell (by show _<=w.heap.size+1;omega) _).setCell (by show _<=w.heap.size+1;omega) _
   have hbkF:=qa (w:=w2) wg (.int .i64 (gp)) (.slice (some a) (0) cr) (.int .i64 gr);generalize (((w2.setCell ⟨w.heap.size+1,0,none⟩ (.int .i64 (gp))).setCell ⟨w.heap.size+1,1,none⟩ (.slice (some a) (0) cr)).setCell ⟨w.heap.size+1,2,none⟩ (.int .i64 gr))=wF at *;refine bodyPost_ret (qO rfl _ _ (w.heap.size+1) 204 #[.int .i64 (gp),.slice (some a) (0) cr,.int .i64 gr] (0,0) _ (by rfl) hbkF Tryz.underlying204 (by rfl) (by kernel_rfl)) rfl ?_;refine ⟨⟨_,rfl,(some a),cr,?_,?_,z0,z1⟩,hwF.drew⟩
   ·rw [hcut.out,wh.out]
   ·rw [hcut.out];exact z2.takeN (by omega)
 ·obtain ⟨p,rfl⟩:=Int.eq_ofNat_of_zero_le (Int.not_lt.1 wQ);clear wQ
  by_cases hp:p<=gs.length
  ·by_cases th:0<p
   ·(have tg:(0:Int)<p:=by omega);(have hpc:p<=cr:=by omega);(have wU:(p:Int)<=cr:=by omega);obtain ⟨br,or_,xr,rfl,-,-,-⟩:=z2.int (k:=0) (by omega);(have hcut:Hid (gs.take (qz ⟨p,gr,gs,gb⟩)=gs.take (p)):=Jj (by congr 1;unfold qz;dsimp only;omega));(have wh:Hid ((gs.take (p)).length=(p)):=Jj (by rw [List.length_take];omega));(go_wp2_with fail);obtain ⟨w2,wl,wv,wk,wm,wj,-⟩:=named w1 #[.int .i64 (p),.int .i64 gr,.slice (some ⟨br,or_,none⟩) gs.length cr,.slice Ab gb.length cb] 30;have hB2:Below w.heap.size w w2:=hB1.trans (wm.mono hB1.size)
    have wg:w2.heap[w.heap.size+1]?=some (.cells #[.int .i64 0,.slice none 0 0,.int .i64 0] 204 (0,0)):=(wm.block _ ww).trans wu;rw [<- wl];have g0:w2.cell? ⟨w1.heap.size,0,none⟩=some (.int .i64 (p)):=wj 0 _ rfl;have g1:w2.cell? ⟨w1.heap.size,1,none⟩=some (.int .i64 gr):=wj 1 _ rfl;have g2:w2.cell? ⟨w1.heap.size,2,none⟩=some (.slice (some ⟨br,or_,none⟩) gs.length cr):=wj 2 _ rfl;have r0:=wk _ _ r0;have r1:=wk _ _ r1;have r2:=wk _ _ r2;have wJ:w.heap.size+1<w2.heap.size:=by omega
    have f0:=qC wg 0;have f1:=qC wg 1;have f2:=qC wg 2;clear wl wv wj;(go_still_tail 9,(by kernel_rfl));change wpList _ _ _ _ _ w2.drew;(go_wp2_with fail);have hwF:Below w.heap.size w (((w2.setCell ⟨w.heap.size+1,0,none⟩ (.int .i64 (p))).setCell ⟨w.heap.size+1,1,none⟩ (.slice (some ⟨br,or_,none⟩) (p) cr)).setCell ⟨w.heap.size+1,2,none⟩ (.int .i64 gr)) :=
     ((hB2.setCell (by show _<=w.heap.size+1;omega) _).setCell (by show _<=w.heap.size+1;omega) _).setCell (by show _<=w.heap.size+1;omega) _
    have hbkF:=qa (w:=w2) wg (.int .i64 (p)) (.slice (some ⟨br,or_,none⟩) (p) cr) (.int .i64 gr);generalize (((w2.setCell ⟨w.heap.size+1,0,none⟩ (.int .i64 (p))).setCell ⟨w.heap.size+1,1,none⟩ (.slice (some ⟨br,or_,none⟩) (p) cr)).setCell ⟨w.heap.size+1,2,none⟩ (.int .i64 gr))=wF at *;refine bodyPost_ret (qO rfl _ _ (w.heap.size+1) 204 #[.int .i64 (p),.slice (some ⟨br,or_,none⟩) (p) cr,.int .i64 gr] (0,0) _ (by rfl) hbkF Tryz.underlying204 (by rfl) (by kernel_rfl)) rfl ?_;refine ⟨⟨_,rfl,(some ⟨br,or_,none⟩),cr,?_,?_,z0,z1⟩,hwF.drew⟩
    ·rw [hcut.out,wh.out]
    ·rw [hcut.out];exact z2.takeN (by omega)
   ·cases Ar with
    | none =>
     obtain rfl:cr=0:=z2.2.1.2 rfl;(have hcut:Hid (gs.take (qz ⟨p,gr,gs,gb⟩)=gs.take (0)):=Jj (by congr 1;unfold qz;dsimp only;omega));(have wh:Hid ((gs.take (0)).length=(0)):=Jj (by rw [List.length_take];omega));(go_wp2_with fail);obtain ⟨w2,wl,wv,wk,wm,wj,-⟩:=named w1 #[.int .i64 (p),.int .i64 gr,.slice none gs.length 0,.slice Ab gb.length cb] 30;have hB2:Below w.heap.size w w2:=hB1.trans (wm.mono hB1.size);have wg:w2.heap[w.heap.size+1]?=some (.cells #[.int .i64 0,.slice none 0 0,.int .i64 0] 204 (0,0)):=(wm.block _ ww).trans wu;rw [<- wl];have g0:w2.cell? ⟨w1.heap.size,0,none⟩=some (.int .i64 (p)):=wj 0 _ rfl
     have g1:w2.cell? ⟨w1.heap.size,1,none⟩=some (.int .i64 gr):=wj 1 _ rfl;have g2:w2.cell? ⟨w1.heap.size,2,none⟩=some (.slice none gs.length 0):=wj 2 _ rfl;have r0:=wk _ _ r0;have r1:=wk _ _ r1;have r2:=wk _ _ r2;(have wJ:w.heap.size+1<w2.heap.size:=by omega);have f0:=qC wg 0;have f1:=qC wg 1;have f2:=qC wg 2
     clear wl wv wj;(go_still_tail 9,(by kernel_rfl));change wpList _ _ _ _ _ w2.drew;(go_wp2_with fail);have hwF:Below w.heap.size w (((w2.setCell ⟨w.heap.size+1,0,none⟩ (.int .i64 (p))).setCell ⟨w.heap.size+1,1,none⟩ (.slice none (0) 0)).setCell ⟨w.heap.size+1,2,none⟩ (.int .i64 gr)) :=
      ((hB2.setCell (by show _<=w.heap.size+1;omega) _).setCell (by show _<=w.heap.size+1;omega) _).setCell (by show _<=w.heap.size+1;omega) _
     have hbkF:=qa (w:=w2) wg (.int .i64 (p)) (.slice none (0) 0) (.int .i64 gr);generalize (((w2.setCell ⟨w.heap.size+1,0,none⟩ (.int .i64 (p))).setCell ⟨w.heap.size+1,1,none⟩ (.slice none (0) 0)).setCell ⟨w.heap.size+1,2,none⟩ (.int .i64 gr))=wF at *;refine bodyPost_ret (qO rfl _ _ (w.heap.size+1) 204 #[.int .i64 (p),.slice none (0) 0,.int .i64 gr] (0,0) _ (by rfl) hbkF Tryz.underlying204 (by rfl) (by kernel_rfl)) rfl ?_;refine ⟨⟨_,rfl,none,0,?_,?_,z0,z1⟩,hwF.drew⟩
     ·rw [hcut.out,wh.out]
     ·rw [hcut.out];exact z2.takeN (by omega)
    | some a =>
     (have hcut:Hid (gs.take (qz ⟨p,gr,gs,gb⟩)=gs.take (0)):=Jj (by congr 1;unfold qz;dsimp only;omega));(have wh:Hid ((gs.take (0)).length=(0)):=Jj (by rw [List.length_take];omega));(go_wp2_with fail);obtain ⟨w2,wl,wv,wk,wm,wj,-⟩:=named w1 #[.int .i64 (p),.int .i64 gr,.slice (some a) gs.length cr,.slice Ab gb.length cb] 30;have hB2:Below w.heap.size w w2:=hB1.trans (wm.mono hB1.size);have wg:w2.heap[w.heap.size+1]?=some (.cells #[.int .i64 0,.slice none 0 0,.int .i64 0] 204 (0,0)):=(wm.block _ ww).trans wu;rw [<- wl];have g0:w2.cell? ⟨w1.heap.size,0,none⟩=some (.int .i64 (p)):=wj 0 _ rfl;have g1:w2.cell? ⟨w1.heap.size,1,none⟩=some (.int .i64 gr):=wj 1 _ rfl
     have g2:w2.cell? ⟨w1.heap.size,2,none⟩=some (.slice (some a) gs.length cr):=wj 2 _ rfl;have r0:=wk _ _ r0;have r1:=wk _ _ r1;have r2:=wk _ _ r2;(have wJ:w.heap.size+1<w2.heap.size:=by omega);have f0:=qC wg 0;have f1:=qC wg 1;have f2:=qC wg 2;clear wl wv wj
     (go_still_tail 9,(by kernel_rfl));change wpList _ _ _ _ _ w2.drew;(go_wp2_with fail);have hwF:Below w.heap.size w (((w2.setCell ⟨w.heap.size+1,0,none⟩ (.int .i64 (p))).setCell ⟨w.heap.size+1,1,none⟩ (.slice (some a) (0) cr)).setCell ⟨w.heap.size+1,2,none⟩ (.int .i64 gr)) :=
      ((hB2.setCell (by show _<=w.heap.size+1;omega) _).setCell (by show _<=w.heap.size+1;omega) _).setCell (by show _<=w.heap.size+1;omega) _
     have hbkF:=qa (w:=w2) wg (.int .i64 (p)) (.slice (some a) (0) cr) (.int .i64 gr);generalize (((w2.setCell ⟨w.heap.size+1,0,none⟩ (.int .i64 (p))).setCell ⟨w.heap.size+1,1,none⟩ (.slice (some a) (0) cr)).setCell ⟨w.heap.size+1,2,none⟩ (.int .i64 gr))=wF at *;refine bodyPost_ret (qO rfl _ _ (w.heap.size+1) 204 #[.int .i64 (p),.slice (some a) (0) cr,.int .i64 gr] (0,0) _ (by rfl) hbkF Tryz.underlying204 (by rfl) (by kernel_rfl)) rfl ?_;refine ⟨⟨_,rfl,(some a),cr,?_,?_,z0,z1⟩,hwF.drew⟩
     ·rw [hcut.out,wh.out]
     ·rw [hcut.out];exact z2.takeN (by omega)
  ·have tg:(gs.length:Int)<p:=by omega
   by_cases th:0<gs.length
   ·(have tq:(0:Int)<gs.length:=by omega);(have wU:(gs.length:Int)<=cr:=by omega);obtain ⟨br,or_,xr,rfl,-,-,-⟩:=z2.int (k:=0) (by omega);(have hcut:Hid (gs.take (qz ⟨p,gr,gs,gb⟩)=gs.take (gs.length)):=Jj (by congr 1;unfold qz;dsimp only;omega));(have wh:Hid ((gs.take (gs.length)).length=(gs.length)):=Jj (by rw [List.length_take];omega));(go_wp2_with fail);obtain ⟨w2,wl,wv,wk,wm,wj,-⟩:=named w1 #[.int .i64 (p),.int .i64 gr,.slice (some ⟨br,or_,none⟩) gs.length cr,.slice Ab gb.length cb] 30;have hB2:Below w.heap.size w w2:=hB1.trans (wm.mono hB1.size);have wg:w2.heap[w.heap.size+1]?=some (.cells #[.int .i64 0,.slice none 0 0,.int .i64 0] 204 (0,0)):=(wm.block _ ww).trans wu
    rw [<- wl];have g0:w2.cell? ⟨w1.heap.size,0,none⟩=some (.int .i64 (p)):=wj 0 _ rfl;have g1:w2.cell? ⟨w1.heap.size,1,none⟩=some (.int .i64 gr):=wj 1 _ rfl;have g2:w2.cell? ⟨w1.heap.size,2,none⟩=some (.slice (some ⟨br,or_,none⟩) gs.length cr):=wj 2 _ rfl;have r0:=wk _ _ r0;have r1:=wk _ _ r1;have r2:=wk _ _ r2;(have wJ:w.heap.size+1<w2.heap.size:=by omega);have f0:=qC wg 0
    have f1:=qC wg 1;have f2:=qC wg 2;clear wl wv wj;(go_still_tail 9,(by kernel_rfl));change wpList _ _ _ _ _ w2.drew;(go_wp2_with fail);have hwF:Below w.heap.size w (((w2.setCell ⟨w.heap.size+1,0,none⟩ (.int .i64 (p))).setCell ⟨w.heap.size+1,1,none⟩ (.slice (some ⟨br,or_,none⟩) (gs.length) cr)).setCell ⟨w.heap.size+1,2,none⟩ (.int .i64 gr)) :=
     ((hB2.setCell (by show _<=w.heap.size+1;omega) _).setCell (by show _<=w.heap.size+1;omega) _).setCell (by show _<=w.heap.size+1;omega) _
    have hbkF:=qa (w:=w2) wg (.int .i64 (p)) (.slice (some ⟨br,or_,none⟩) (gs.length) cr) (.int .i64 gr);generalize (((w2.setCell ⟨w.heap.size+1,0,none⟩ (.int .i64 (p))).setCell ⟨w.heap.size+1,1,none⟩ (.slice (some ⟨br,or_,none⟩) (gs.length) cr)).setCell ⟨w.heap.size+1,2,none⟩ (.int .i64 gr))=wF at *;refine bodyPost_ret (qO rfl _ _ (w.heap.size+1) 204 #[.int .i64 (p),.slice (some ⟨br,or_,none⟩) (gs.length) cr,.int .i64 gr] (0,0) _ (by rfl) hbkF Tryz.underlying204 (by rfl) (by kernel_rfl)) rfl ?_;refine ⟨⟨_,rfl,(some ⟨br,or_,none⟩),cr,?_,?_,z0,z1⟩,hwF.drew⟩
    ·rw [hcut.out,wh.out]
    ·rw [hcut.out];exact z2.takeN (by omega)
   ·(have hg0:gs.length=0:=by omega);(have tq:(gs.length:Int)<=0:=by omega);cases Ar with
    | none =>
     obtain rfl:cr=0:=z2.2.1.2 rfl;(have hcut:Hid (gs.take (qz ⟨p,gr,gs,gb⟩)=gs.take (0)):=Jj (by congr 1;unfold qz;dsimp only;omega));(have wh:Hid ((gs.take (0)).length=(0)):=Jj (by rw [List.length_take];omega));(go_wp2_with fail);obtain ⟨w2,wl,wv,wk,wm,wj,-⟩:=named w1 #[.int .i64 (p),.int .i64 gr,.slice none 0 0,.slice Ab gb.length cb] 30;have hB2:Below w.heap.size w w2:=hB1.trans (wm.mono hB1.size);have wg:w2.heap[w.heap.size+1]?=some (.cells #[.int .i64 0,.slice none 0 0,.int .i64 0] 204 (0,0)):=(wm.block _ ww).trans wu;rw [<- wl];have g0:w2.cell? ⟨w1.heap.size,0,none⟩=some (.int .i64 (p)):=wj 0 _ rfl
     have g1:w2.cell? ⟨w1.heap.size,1,none⟩=some (.int .i64 gr):=wj 1 _ rfl;have g2:w2.cell? ⟨w1.heap.size,2,none⟩=some (.slice none 0 0):=wj 2 _ rfl;have r0:=wk _ _ r0;have r1:=wk _ _ r1;have r2:=wk _ _ r2;(have wJ:w.heap.size+1<w2.heap.size:=by omega);have f0:=qC wg 0;have f1:=qC wg 1;have f2:=qC wg 2
     clear wl wv wj;(go_still_tail 9,(by kernel_rfl));change wpList _ _ _ _ _ w2.drew;(go_wp2_with fail);have hwF:Below w.heap.size w (((w2.setCell ⟨w.heap.size+1,0,none⟩ (.int .i64 (p))).setCell ⟨w.heap.size+1,1,none⟩ (.slice none (0) 0)).setCell ⟨w.heap.size+1,2,none⟩ (.int .i64 gr)) :=
      ((hB2.setCell (by show _<=w.heap.size+1;omega) _).setCell (by show _<=w.heap.size+1;omega) _).setCell (by show _<=w.heap.size+1;omega) _
     have hbkF:=qa (w:=w2) wg (.int .i64 (p)) (.slice none (0) 0) (.int .i64 gr);generalize (((w2.setCell ⟨w.heap.size+1,0,none⟩ (.int .i64 (p))).setCell ⟨w.heap.size+1,1,none⟩ (.slice none (0) 0)).setCell ⟨w.heap.size+1,2,none⟩ (.int .i64 gr))=wF at *;refine bodyPost_ret (qO rfl _ _ (w.heap.size+1) 204 #[.int .i64 (p),.slice none (0) 0,.int .i64 gr] (0,0) _ (by rfl) hbkF Tryz.underlying204 (by rfl) (by kernel_rfl)) rfl ?_;refine ⟨⟨_,rfl,none,0,?_,?_,z0,z1⟩,hwF.drew⟩
     ·rw [hcut.out,wh.out]
     ·rw [hcut.out];exact z2.takeN (by omega)
    | some a =>
     (have hcut:Hid (gs.take (qz ⟨p,gr,gs,gb⟩)=gs.take (0)):=Jj (by congr 1;unfold qz;dsimp only;omega));(have wh:Hid ((gs.take (0)).length=(0)):=Jj (by rw [List.length_take];omega));(go_wp2_with fail);obtain ⟨w2,wl,wv,wk,wm,wj,-⟩:=named w1 #[.int .i64 (p),.int .i64 gr,.slice (some a) 0 cr,.slice Ab gb.length cb] 30;have hB2:Below w.heap.size w w2:=hB1.trans (wm.mono hB1.size);have wg:w2.heap[w.heap.size+1]?=some (.cells #[.int .i64 0,.slice none 0 0,.int .i64 0] 204 (0,0)):=(wm.block _ ww).trans wu;rw [<- wl];have g0:w2.cell? ⟨w1.heap.size,0,none⟩=some (.int .i64 (p)):=wj 0 _ rfl;have g1:w2.cell? ⟨w1.heap.size,1,none⟩=some (.int .i64 gr):=wj 1 _ rfl
     have g2:w2.cell? ⟨w1.heap.size,2,none⟩=some (.slice (some a) 0 cr):=wj 2 _ rfl;have r0:=wk _ _ r0;have r1:=wk _ _ r1;have r2:=wk _ _ r2;(have wJ:w.heap.size+1<w2.heap.size:=by omega);have f0:=qC wg 0;have f1:=qC wg 1;have f2:=qC wg 2;clear wl wv wj
     (go_still_tail 9,(by kernel_rfl));change wpList _ _ _ _ _ w2.drew;(go_wp2_with fail);have hwF:Below w.heap.size w (((w2.setCell ⟨w.heap.size+1,0,none⟩ (.int .i64 (p))).setCell ⟨w.heap.size+1,1,none⟩ (.slice (some a) (0) cr)).setCell ⟨w.heap.size+1,2,none⟩ (.int .i64 gr)) :=
      ((hB2.setCell (by show _<=w.heap.size+1;omega) _).setCell (by show _<=w.heap.size+1;omega) _).setCell (by show _<=w.heap.size+1;omega) _
     have hbkF:=qa (w:=w2) wg (.int .i64 (p)) (.slice (some a) (0) cr) (.int .i64 gr);generalize (((w2.setCell ⟨w.heap.size+1,0,none⟩ (.int .i64 (p))).setCell ⟨w.heap.size+1,1,none⟩ (.slice (some a) (0) cr)).setCell ⟨w.heap.size+1,2,none⟩ (.int .i64 gr))=wF at *;refine bodyPost_ret (qO rfl _ _ (w.heap.size+1) 204 #[.int .i64 (p),.slice (some a) (0) cr,.int .i64 gr] (0,0) _ (by rfl) hbkF Tryz.underlying204 (by rfl) (by kernel_rfl)) rfl ?_;refine ⟨⟨_,rfl,(some a),cr,?_,?_,z0,z1⟩,hwF.drew⟩
     ·rw [hcut.out,wh.out]
     ·rw [hcut.out];exact z2.takeN (by omega)
inductive AncP (par:Nat->Nat) (a:Nat):Nat->Prop
 | refl:AncP par a a
 | step {v:Nat}:0<v->AncP par a (par v)->AncP par a v
inductive WayP (E:Nat->Nat->Prop) (z lo:Nat):Nat->Prop
 | one {v:Nat}:E z v->lo<=v->WayP E z lo v
 | step {u v:Nat}:WayP E z lo u->E u v->lo<=v->WayP E z lo v
inductive AvP (E:Nat->Nat->Prop) (d:Nat):Nat->Prop
 | zero:0≠d->AvP E d 0
 | step {u v:Nat}:AvP E d u->E u v->v≠d->AvP E d v
structure TreeP (n:Nat) (E:Nat->Nat->Prop) (par:Nat->Nat):Prop where
 lt:∀ u v,E u v->u<n/\v<n
 par_lt:∀ v,0<v->v<n->par v<v
 par_e:∀ v,0<v->v<n->E (par v) v
 up:∀ u v,E u v->u<v->AncP par u v
 mid:∀ a b c,AncP par a c->c<n->a<=b->b<=c->AncP par a b
variable {n:Nat} {E:Nat->Nat->Prop} {par:Nat->Nat}
theorem AncP.trans {a b c:Nat} (h:AncP par a b) (k:AncP par b c):AncP par a c:=by
 induction k with
 | refl=>exact h
 | step h0 _ ih=>exact .step h0 ih
theorem TreeP.anc_le (T:TreeP n E par) {a c:Nat} (h:AncP par a c) (hc:c<n):a<=c:=by
 induction h with
 | refl=>exact J4 _
 | step h0 _ ih =>
  have:=T.par_lt _ h0 hc;have:=ih (by omega);omega
theorem TreeP.both (T:TreeP n E par) {a b c:Nat} (h:AncP par a c) (k:AncP par b c) (hc:c<n) (wM:a<=b):AncP par a b:=T.mid a b c h hc wM (T.anc_le k hc)
theorem WayP.mono {z lo lo' v:Nat} (h:WayP E z lo v) (hl:lo'<=lo):WayP E z lo' v:=by
 induction h with
 | one h1 h2=>exact .one h1 (by omega)
 | step _ h1 h2 ih=>exact .step ih h1 (by omega)
theorem WayP.ge {z lo v:Nat} (h:WayP E z lo v):lo<=v:=by
 cases h with
 | one _ h=>exact h
 | step _ _ h=>exact h
theorem TreeP.way_down (T:TreeP n E par) {z lo x u:Nat} (h:WayP E z lo x) (k:AncP par x u) (hu:u<n):WayP E z lo u:=by
 induction k with
 | refl=>exact h
 | @step v h0 k ih =>
  have hp:=T.par_lt _ h0 hu;exact .step (ih (by omega)) (T.par_e _ h0 hu) (by have:=T.anc_le (.step h0 k) hu;have:=h.ge;omega)
theorem TreeP.av_down (T:TreeP n E par) {d x u:Nat} (h:AvP E d x) (k:AncP par x u) (hu:u<n) (hd:d<x):AvP E d u:=by
 induction k with
 | refl=>exact h
 | @step v h0 k ih =>
  have hp:=T.par_lt _ h0 hu;exact .step (ih (by omega)) (T.par_e _ h0 hu) (by have:=T.anc_le (.step h0 k) hu;omega)
theorem TreeP.av_tree (T:TreeP n E par) {d:Nat}:∀ u,u<n->¬ AncP par d u->AvP E d u:=by
 intro u
 induction u using Nat.strongRecOn with
 | _ u ih =>
  intro hu hd
  by_cases h:u=0
  ·subst h;exact .zero λ e=>hd (e ▸ .refl)
  ·have hp:=T.par_lt u (by omega) hu;refine .step (ih _ hp (by omega) λ k=>hd (.step (by omega) k)) (T.par_e u (by omega) hu) λ e=>hd (e ▸ .refl)
theorem WayP.av {d z lo v:Nat} (h:WayP E z lo v) (hz:AvP E d z) (hd:d<lo):AvP E d v:=by
 induction h with
 | one h1 h2=>exact .step hz h1 (by omega)
 | step _ h1 h2 ih=>exact .step ih h1 (by omega)
def ByP (E:Nat->Nat->Prop) (z w:Nat):Prop:=E z w\/∃ u,WayP E z (w+1) u/\E u w
theorem ByP.way {z w lo:Nat} (h:ByP E z w) (hl:lo<=w):WayP E z lo w:=by
 rcases h with h | ⟨u,h,k⟩
 ·exact .one h hl
 ·exact .step (h.mono (by omega)) k hl
theorem TreeP.least (T:TreeP n E par) {z lo v:Nat} (h:WayP E z lo v):∃ y,lo<=y/\AncP par y v/\ByP E z y/\WayP E z y v:=by
 induction h with
 | @one v h1 h2=>exact ⟨v,h2,.refl,.inl h1,.one h1 (J4 _)⟩
 | @step u v h1 h2 h3 ih =>
  obtain ⟨y,hy,ha,hb,hw⟩:=ih;have wj:=T.lt _ _ h2
  by_cases h4:u<v
  ·exact ⟨y,hy,ha.trans (T.up _ _ h2 h4),hb,.step hw h2 (by have:=hw.ge;omega)⟩
  ·by_cases h5:y<=v
   ·exact ⟨y,hy,T.mid _ _ _ ha wj.1 h5 (by omega),hb,.step hw h2 h5⟩
   ·exact ⟨v,h3,.refl,.inr ⟨u,hw.mono (by omega),h2⟩,.step (hw.mono (by omega)) h2 (J4 _)⟩
structure EarlyP (L n:Nat) (E:Nat->Nat->Prop) (par s:Nat->Nat):Prop where
 here:∀ w u,L<=w->E u w->u<=w->s w<=u
 chain:∀ w u x,L<=w->E u w->AncP par x u->w<x->s w<=s x
 found:∀ w,L<=w->w<n->(∃ u,E u w/\u<w/\s w=u)\/∃ u x,E u w/\AncP par x u/\w<x/\s w=s x
 pos:0<L
variable {s:Nat->Nat} {L:Nat}
theorem EarlyP.lt (T:TreeP n E par) (S:EarlyP L n E par s) {w:Nat} (h0:L<=w) (hw:w<n):s w<w:=by
 have hp:=S.pos;have h:=S.here w _ h0 (T.par_e w (by omega) hw) (Nat.le_of_lt (T.par_lt w (by omega) hw));have:=T.par_lt w (by omega) hw;omega
theorem EarlyP.by (T:TreeP n E par) (S:EarlyP L n E par s):∀ (k w:Nat),n - w<=k->L<=w->w<n->ByP E (s w) w:=by
 intro k
 induction k with
 | zero=>intro w h1 _ h2;omega
 | succ k ih =>
  intro w hk h0 hw;rcases S.found w h0 hw with ⟨u,h1,h2,h3⟩ | ⟨u,x,h1,h2,h3,h4⟩
  ·rw [h3];exact .inl h1
  ·have hu:=(T.lt _ _ h1).1;have hx:=T.anc_le h2 hu;have:=ih x (by omega) (by omega) (by omega);rw [h4];exact .inr ⟨u,T.way_down (this.way (by omega)) h2 hu,h1⟩
theorem EarlyP.le_by (T:TreeP n E par) (S:EarlyP L n E par s):∀ (k w z:Nat),n - w<=k->L<=w->w<n->ByP E z w->s w<=z:=by
 intro k
 induction k with
 | zero=>intro w z h1 _ h2;omega
 | succ k ih =>
  intro w z hk h0 hw hb;rcases hb with h | ⟨u,h1,h2⟩
  ·by_cases hz:z<=w
   ·exact S.here w z h0 h hz
   ·have h1:=S.chain w z z h0 h .refl (by omega);have h2:=S.lt T (w:=z) (by omega) (T.lt _ _ h).1;omega
  ·obtain ⟨y,hy,ha,hb,-⟩:=T.least h1;have hu:=(T.lt _ _ h2).1;have hyu:=T.anc_le ha hu;have h3:=ih y z (by omega) (by omega) (by omega) hb;have h4:=S.chain w u y h0 h2 ha (by omega);omega
theorem EarlyP.anc (T:TreeP n E par) (S:EarlyP L n E par s) {w:Nat} (h0:L<=w) (hw:w<n):AncP par (s w) w:=by
 have wj:=S.lt T h0 hw;rcases S.by T _ w (J4 _) h0 hw with h | ⟨u,h1,h2⟩
 ·exact T.up _ _ h wj
 ·have key:∀ u,WayP E (s w) (w+1) u->AncP par (s w) u/\w<u:=by
   intro u h
   induction h with
   | @one v h3 h4=>exact ⟨T.up _ _ h3 (by omega),by omega⟩
   | @step a b h3 h4 h5 ih =>
    refine ⟨?_,by omega⟩
    by_cases h6:a<b
    ·exact ih.1.trans (T.up _ _ h4 h6)
    ·exact T.mid _ _ _ ih.1 (T.lt _ _ h4).1 (by omega) (by omega)
  obtain ⟨h3,h4⟩:=key u h1;exact T.mid _ _ _ h3 (T.lt _ _ h2).1 (by omega) (by omega)
def q0G (n:Nat) (par s D:Nat->Nat):Prop:=∀ w,0<w->w<n->∃ x,AncP par x w/\s w<x/\(∀ y,AncP par y w->s w<y->s x<=s y)/\((s x=s w/\D w=s w)\/(s x<s w/\x<w/\D w=D x))
variable {D:Nat->Nat}
theorem q0M (T:TreeP n E par) (S:EarlyP 1 n E par s) (N:q0G n par s D):∀ w,0<w->w<n->D w<=s w:=by
 intro w
 induction w using Nat.strongRecOn with
 | _ w ih =>
  intro h0 hw;obtain ⟨x,h1,h2,h3,⟨h4,h5⟩ | ⟨h4,h5,h6⟩⟩:=N w h0 hw
  ·omega
  ·have:=ih x h5 (by omega) (by omega);omega
theorem q8J (T:TreeP n E par) (S:EarlyP 1 n E par s) (N:q0G n par s D):∀ w,0<w->w<n->AncP par (D w) w:=by
 intro w
 induction w using Nat.strongRecOn with
 | _ w ih =>
  intro h0 hw;obtain ⟨x,h1,h2,h3,⟨h4,h5⟩ | ⟨h4,h5,h6⟩⟩:=N w h0 hw
  ·rw [h5];exact S.anc T h0 hw
  ·rw [h6];exact (ih x h5 (by omega) (by omega)).trans h1
theorem qAA {d v:Nat} (h:AvP E d v):v<d\/∃ z,z<d/\AvP E d z/\WayP E z (d+1) v:=by
 induction h with
 | zero h=>left;omega
 | @step u v h1 h2 h3 ih =>
  rcases Nat.lt_or_ge v d with h | h
  ·exact .inl h
  ·right;rcases ih with h4 | ⟨z,h4,h5,h6⟩
   ·exact ⟨u,h4,h1,.one h2 (by omega)⟩
   ·exact ⟨z,h4,h5,.step h6 h2 (by omega)⟩
theorem q4t (T:TreeP n E par) (S:EarlyP 1 n E par s) (N:q0G n par s D):∀ w,0<w->w<n->¬ AvP E (D w) w:=by
 intro w
 induction w using Nat.strongRecOn with
 | _ w ih =>
  intro h0 hw wJ;have hDs:=q0M T S N w h0 hw;have ww:=S.lt T h0 hw;rcases qAA wJ with h | ⟨z,hz,wm,wl⟩
  ·omega
  ·obtain ⟨y,hy,wg,wk,-⟩:=T.least wl;have hyw:=T.anc_le wg hw;have hsy:=S.le_by T _ y z (J4 _) (by omega) (by omega) wk;have wh:AvP E (D w) y:=(wk.way (lo:=D w+1) hy).av wm (by omega);obtain ⟨x,h1,h2,h3,⟨h4,h5⟩ | ⟨h4,h5,h6⟩⟩:=N w h0 hw
   ·have:=h3 y wg (by omega);omega
   ·have hDx:=q0M T S N x (by omega) (by omega)
    by_cases wv:s w<y
    ·have:=h3 y wg wv;omega
    ·have wu:AncP par y x:=T.both wg h1 hw (by omega);exact ih x h5 (by omega) (by omega) (h6 ▸ T.av_down wh wu (by omega) (by omega))
theorem q6j (T:TreeP n E par) (S:EarlyP 1 n E par s) (N:q0G n par s D):∀ w,0<w->w<n->∀ v,D w<v->v<w->AvP E v w:=by
 intro w
 induction w using Nat.strongRecOn with
 | _ w ih =>
  intro h0 hw v hv hvw;have ww:=S.lt T h0 hw;have hs:s w<v->AvP E v w:=λ h=>by
   (have h1:AvP E v (s w):=T.av_tree _ (by omega) λ k=>by have:=T.anc_le k (by omega);omega);rcases S.by T _ w (J4 _) h0 hw with h2 | ⟨u,h2,h3⟩
   ·exact .step h1 h2 (by omega)
   ·exact .step (h2.av h1 (by omega)) h3 (by omega)
  obtain ⟨x,h1,h2,h3,⟨h4,h5⟩ | ⟨h4,h5,h6⟩⟩:=N w h0 hw
  ·exact hs (by omega)
  ·by_cases hx:v<x
   ·exact T.av_down (ih x h5 (by omega) (by omega) v (by omega) hx) h1 hw hx
   ·exact hs (by omega)
theorem q66 {d:Nat}:∀ {v},AvP E d v->v≠d:=by
 intro v h;cases h with
 | zero h=>exact h
 | step _ _ h=>exact h
theorem q95 {a b v:Nat} (h:AvP E a v):AvP E b v\/AvP E a b:=by
 induction h with
 | zero h =>
  by_cases e:0=b
  ·right;rw [<- e];exact .zero h
  ·exact .inl (.zero e)
 | @step u v h1 h2 h3 ih =>
  rcases ih with h4 | h4
  ·by_cases e:v=b
   ·right;rw [<- e];exact .step h1 h2 h3
   ·exact .inl (.step h4 h2 e)
  ·exact .inr h4
theorem q7C {a b c:Nat} (h:¬ AvP E a b) (k:¬ AvP E b c):¬ AvP E a c:=λ h2=>by
 rcases q95 (b:=b) h2 with h3 | h3
 ·exact k h3
 ·exact h h3
theorem q8n (T:TreeP n E par) {a b:Nat} (hb:b<n) (h:¬ AvP E a b):a<=b:=by
 apply Classical.byContradiction;intro h2;exact h (T.av_tree b hb λ k=>by have:=T.anc_le k hb;omega)
theorem q8m (T:TreeP n E par) (S:EarlyP 1 n E par s) (N:q0G n par s D) {a w:Nat} (h0:0<w) (hw:w<n) (h:¬ AvP E a w) (hne:a≠w):¬ AvP E a (D w):=by
 have hle:=q8n T hw h;have hDw:=q8J T S N w h0 hw;have hDl:=T.anc_le hDw hw;have h2:a<=D w:=by
  apply Classical.byContradiction;intro h3;exact h (q6j T S N w h0 hw a (by omega) (by omega))
 intro h3;have:=q66 h3;exact h (T.av_down h3 hDw hw (by omega))
end Go.Proofs.YtfoggldjjnabcaaGreatDoor
