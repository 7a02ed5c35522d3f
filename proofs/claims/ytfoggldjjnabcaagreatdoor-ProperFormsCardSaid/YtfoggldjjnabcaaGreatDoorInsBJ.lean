/- The helpers of ofInstr: arith's Args, ints, constType, copyType. -/
import Derived.Test.YtfoggldjjnabcaaGreatDoorChkDJ
import Derived.Deep.QuietTactic
import Derived.BigQuiet
import Derived.Test.YtfoggldjjnabcaaGreatDoorInfBJ
import Derived.Laws.Rows
import Derived.Laws.ResultCell
import Derived.StillTailTactics
namespace Go.Proofs.YtfoggldjjnabcaaGreatDoor
open Go.ChangeShapes Go.WideShapes Go.RowKit Go.Deep
set_option linter.unusedVariables false
def arity (op:Int):Int:=if op=2∨op=14 then 1 else if 3≤op∧op≤13 then 2 else 0
def known (op:Int):Bool:=decide (2≤op∧op≤14)
theorem args_any (op:Int) (w:World) :
    Calls Tryz.prog 152 #[.int .i64 op] w fun e w'=>e=.returned (.tuple #[.int .i64 (arity op),.bool (known op)])∧w=w':=by
  by_cases h:2≤op∧op≤14
  · (obtain rfl | rfl | rfl | rfl | rfl| rfl| rfl| rfl| rfl| rfl| rfl | rfl | rfl:op=2∨op=3∨op=4∨op=5∨op=6∨op=7∨op=8∨op=9∨op=10∨op=11∨op=12∨op=13∨op=14:=by omega);all_goals
      (go_enter Tryz.func152,Tryz.ntmps152);(go_wp2);(go_ret2);exact ⟨rfl,rfl⟩
  · (have e1:arity op=0:=by unfold arity;rw [if_neg (by omega),if_neg (by omega)]);(have e2:known op=false:=by unfold known;simp;omega);rw [e1,e2];clear e1 e2;(have h2:(op == 2)=false:=by simp;omega);(have h3:(op == 3)=false:=by simp;omega);(have h4:(op == 4)=false:=by simp;omega);(have h5:(op == 5)=false:=by simp;omega);have h6:(op == 6)=false:=by simp;omega
    (have h7:(op == 7)=false:=by simp;omega);(have h8:(op == 8)=false:=by simp;omega);(have h9:(op == 9)=false:=by simp;omega);(have h10:(op == 10)=false:=by simp;omega);(have h11:(op == 11)=false:=by simp;omega);(have h12:(op == 12)=false:=by simp;omega);(have h13:(op == 13)=false:=by simp;omega);(have h14:(op == 14)=false:=by simp;omega);clear h
    (go_enter Tryz.func152,Tryz.ntmps152);(go_wp2);(go_ret2);exact ⟨rfl,rfl⟩
theorem mkInts_any (n:Nat) (hn:n≤1000000) (w:World) :
    Calls Tryz.prog 153 #[.int .i64 n] w fun e w'=>(∃ c,e=.returned (.slice (some ⟨w.heap.size,0,none⟩) n c)∧SL w' 1 RInt (some ⟨w.heap.size,0,none⟩) c (List.replicate n 1))∧Below w.heap.size w w':=by
  have hmk:=run_make_row' (P:=Tryz.prog) 27 3 (.int .i64 0) 8 Tryz.underlying27 Tryz.info3 rfl .i64 .i64 n (by omega) (by omega);(go_enter Tryz.func153,Tryz.ntmps153);(go_wp2_with fail);clear hmk;have hr:=World.rowIs_made w (.int .i64 0) n 3;have hb:Below w.heap.size w (w.alloc (.cells (madeCells #[.int .i64 0] n) 3)):=(Below.refl _ _).alloc (Nat.le_refl _) _;generalize w.alloc (.cells (madeCells #[.int .i64 0] n) 3)=w1 at *
  go_loopw [9] (fun i wr=>∃ k:Nat,k≤n∧i=.int .i64 k∧Below w.heap.size w wr∧wr.rowIs w.heap.size 3 n (fun j=>if j<k then .int .i64 1 else .int .i64 0)) (fun i _=>n - (intOf i).toNat)
  case atStart=>exact ⟨0,Nat.zero_le _,rfl,hb,hr.congr (fun j _=>(if_neg (Nat.not_lt_zero j)).symm)⟩
  case round =>
    obtain ⟨k,hk,rfl,hbw,hrw⟩:=hrel;have hlw:=hrw.lt
    by_cases hlt:k<n
    · have hc:=hrw.cell hlt;rw [if_neg (Nat.lt_irrefl k)] at hc;have hf:=hrw.frozen k;(have hk0:(0:Int)≤k:=by omega);have hk1:(k:Int)<n:=by omega
      have hset:(wr.setCell ⟨w.heap.size,k,none⟩ (.int .i64 1)).rowIs w.heap.size 3 n (fun j=>if j<k+1 then .int .i64 1 else .int .i64 0):=(hrw.set k _).congr (fun j _=>by
        by_cases e:j=k
        · rw [if_pos e,if_pos (by omega)]
        · rw [if_neg e]
          by_cases e2:j<k
          · rw [if_pos e2,if_pos (by omega)]
          · rw [if_neg e2,if_neg (by omega)])
      go_wp2_with fail
      go_roundw
      case rel=>exact ⟨k+1,by omega,by go_num,hbw.setCell (Nat.le_refl _) _,hset⟩
      case measure=>simp [intOf];omega
    · (obtain rfl:k=n:=by omega);(go_wp2_with fail);(go_ret);refine ⟨⟨_,rfl,?_,?_,fun _=>⟨_,_,rfl,fun i x hi=>?_⟩⟩,hbw⟩
      · rw [List.length_replicate];exact Nat.le_refl _
      · exact ⟨by unfold maxLen;omega,fun e=>by cases e⟩
      · obtain ⟨h1,h2⟩:=List.getElem?_eq_some_iff.1 hi;rw [List.length_replicate] at h1;rw [List.getElem_replicate] at h2;subst h2;rw [Nat.mul_one,Nat.zero_add];exact ⟨by rw [hrw.cell h1,if_pos h1],by unfold I64;omega⟩
theorem keptTwo (w:World) (o o':Obj):Kept w ((w.alloc o).alloc o'):=(kept_alloc w o).trans (kept_alloc _ o')
def qm (f:FunD) (x:InsD):Int:=if isAtB x.dst f.regs.length=true∧reg f.regs x.dst=2∧(x.imm=0∨x.imm=1) then 2 else 1
theorem constType_any (f:FunD) (x:InsD) (vf vx:Value) (w:World) (hf:VFun w vf f) (hx:VIns w vx x) :
    Calls Tryz.prog 149 #[vf,vx] w fun e w'=>e=.returned (.int .i64 (qm f x))∧Below w.heap.size w w':=by
  obtain ⟨Ar,cr,Ab,cb,rfl,hr,hbs,hp64,hr64⟩:=hf;obtain ⟨A,c,rfl,hxa,ho64,hd64,hi64,hf64⟩:=hx;have hrl:=hr.len;cases hat:isAtB x.dst f.regs.length
  · (have HT:Hid (qm f x=1):=Lib.hid (by unfold qm;rw [hat];exact if_neg (fun h=>by cases h.1)));have HA:=Lib.hid hat;clear hat;(go_enter Tryz.func149,Tryz.ntmps149);(go_wp2_with fail);refine (qq _ _ _).mono ?_;rintro e w' ⟨rfl,rfl⟩;rw [HA.out];go_wp2_with fail
    (go_ret);exact ⟨by rw [HT.out];rfl,((Below.refl _ w).alloc (Nat.le_refl _) _).alloc (by simp) _⟩
  · have h01:0≤x.dst∧x.dst<f.regs.length:=of_decide_eq_true hat;obtain ⟨h0,h1⟩:=h01;obtain ⟨k,hk⟩:=Int.eq_ofNat_of_zero_le h0;(have hkl:k<f.regs.length:=by omega);obtain ⟨b,o,y,rfl,hy,hyc,hy64⟩:=hr.int hkl;have HR:Hid (reg f.regs x.dst=y):=Lib.hid (reg_of hk hy.out);have HA:=Lib.hid hat;clear hat;rw [hk] at h0 h1 hd64
    have HKK:=Lib.hid hk;have hyc':=keptTwo w (.cells #[.int .i64 f.params,.int .i64 f.result,.slice (some ⟨b,o,none⟩) f.regs.length cr,.slice Ab f.blocks.length cb] 30) (.cells #[.int .i64 x.op,.int .i64 x.dst,.slice A x.args.length c,.int .i64 x.imm,.int .i64 x.fn] 53) _ _ hyc;obtain ⟨op,dst,args,imm,fn⟩:=x;dsimp only at *;subst hk;clear hyc;have hB:Below w.heap.size w ((w.alloc (.cells #[.int .i64 f.params,.int .i64 f.result,.slice (some ⟨b,o,none⟩) f.regs.length cr,.slice Ab f.blocks.length cb] 30)).alloc (.cells #[.int .i64 op,.int .i64 k,.slice A args.length c,.int .i64 imm,.int .i64 fn] 53)):=((Below.refl _ w).alloc (Nat.le_refl _) _).alloc (by simp) _;have HB:=Lib.hid hB;clear hB
    by_cases hy2:y=2
    · have hyb:(y == 2)=true:=by simp [hy2]
      by_cases hi0:imm=0
      · (have hib:(imm == 0)=true:=by simp [hi0]);(have HT:Hid (qm f ⟨op,k,args,imm,fn⟩=2):=Lib.hid (if_pos ⟨HA.out,by rw [HR.out];exact hy2,.inl hi0⟩));clear hy2 hi0;(go_enter Tryz.func149,Tryz.ntmps149);(go_wp2_with fail);refine (qq _ _ _).mono ?_;rintro e w' ⟨rfl,rfl⟩;rw [HA.out];go_wp2_with fail
        (go_ret);exact ⟨by rw [HT.out];rfl,HB.out⟩
      · have hib:(imm == 0)=false:=by simp [hi0]
        by_cases hi1:imm=1
        · (have hic:(imm == 1)=true:=by simp [hi1]);(have HT:Hid (qm f ⟨op,k,args,imm,fn⟩=2):=Lib.hid (if_pos ⟨HA.out,by rw [HR.out];exact hy2,.inr hi1⟩));clear hy2 hi0 hi1;(go_enter Tryz.func149,Tryz.ntmps149);(go_wp2_with fail);refine (qq _ _ _).mono ?_;rintro e w' ⟨rfl,rfl⟩;rw [HA.out];go_wp2_with fail
          (go_ret);exact ⟨by rw [HT.out];rfl,HB.out⟩
        · (have hic:(imm == 1)=false:=by simp [hi1]);have HT:Hid (qm f ⟨op,k,args,imm,fn⟩=1):=Lib.hid (if_neg (fun h=>by exact h.2.2.elim hi0 hi1));clear hy2 hi0 hi1;(go_enter Tryz.func149,Tryz.ntmps149);(go_wp2_with fail);refine (qq _ _ _).mono ?_;rintro e w' ⟨rfl,rfl⟩;rw [HA.out];go_wp2_with fail
          (go_ret);exact ⟨by rw [HT.out];rfl,HB.out⟩
    · (have hyb:(y == 2)=false:=by simp [hy2]);(have HT:Hid (qm f ⟨op,k,args,imm,fn⟩=1):=Lib.hid (if_neg (fun h=>by have:=h.2.1;rw [HR.out] at this;exact hy2 this)));clear hy2;(go_enter Tryz.func149,Tryz.ntmps149);(go_wp2_with fail);refine (qq _ _ _).mono ?_;rintro e w' ⟨rfl,rfl⟩;rw [HA.out];go_wp2_with fail
      (go_ret);exact ⟨by rw [HT.out];rfl,HB.out⟩
def copyT (f:FunD) (x:InsD):Int:=match x.args with
  | []=>1
  | a::_=>if isAtB a f.regs.length=true then reg f.regs a else 1
theorem copyType_any (f:FunD) (x:InsD) (vf vx:Value) (w:World) (hf:VFun w vf f) (hx:VIns w vx x) :
    Calls Tryz.prog 150 #[vf,vx] w fun e w'=>e=.returned (.int .i64 (copyT f x))∧Below w.heap.size w w':=by
  obtain ⟨Ar,cr,Ab,cb,rfl,hr,hbs,hp64,hr64⟩:=hf;obtain ⟨A,c,rfl,hxa,ho64,hd64,hi64,hf64⟩:=hx;have hrl:=hr.len;have hal:=hxa.len;obtain ⟨op,dst,args,imm,fn⟩:=x;dsimp only at *;obtain ⟨wa,hwa,hsa,hka,hba,hca,-⟩:=named w #[.int .i64 f.params,.int .i64 f.result,.slice Ar f.regs.length cr,.slice Ab f.blocks.length cb] 30;obtain ⟨w1,hw1,hs1,hk1,hb1,hc1,-⟩:=named wa #[.int .i64 op,.int .i64 dst,.slice A args.length c,.int .i64 imm,.int .i64 fn] 53;rw [hsa] at hc1
  have HB:Hid (Below w.heap.size w w1):=Lib.hid (hba.trans (hb1.mono (by omega)));have hK:=hka.trans hk1;have q2:w1.cell? ⟨w.heap.size,2,none⟩=some (.slice Ar f.regs.length cr):=hk1 _ _ (hca 2 _ rfl);have p2:w1.cell? ⟨w.heap.size+1,2,none⟩=some (.slice A args.length c):=hc1 2 _ rfl;have HW:Hid ((w.alloc (.cells #[.int .i64 f.params,.int .i64 f.result,.slice Ar f.regs.length cr,.slice Ab f.blocks.length cb] 30)).alloc (.cells #[.int .i64 op,.int .i64 dst,.slice A args.length c,.int .i64 imm,.int .i64 fn] 53)=w1):=Lib.hid (by rw [hw1,hwa]);clear hwa hw1 hsa hs1 hka hk1 hba hb1 hca hc1;have hisAt:∀ (a b:Int) (j:Nat),Calls Tryz.prog 101 #[.int .i64 a,.int .i64 b] (w1.drewN j) fun e w'=>e=.returned (.bool (isAtB a b))∧w'=w1.drewN j:=fun a b j=>(qq a b _).mono fun e w' h=>⟨h.1,h.2.symm⟩;have HI:=Lib.hid hisAt;clear hisAt
  cases args with
  | nil =>
    have HW':Hid ((w.alloc (.cells #[.int .i64 f.params,.int .i64 f.result,.slice Ar f.regs.length cr,.slice Ab f.blocks.length cb] 30)).alloc (.cells #[.int .i64 op,.int .i64 dst,.slice A 0 c,.int .i64 imm,.int .i64 fn] 53)=w1):=HW;clear HW;have HW:=HW';(go_enter Tryz.func150,Tryz.ntmps150);(go_wp2_with fail);rw [HW.out];simp only [List.length_nil] at p2;(go_quiet (fail));go_wp2_with fail
    (go_ret);exact ⟨rfl,below_drewN HB.out _⟩
  | cons a l =>
    obtain ⟨ba,oa,a',rfl,ha,hac,ha64⟩:=hxa.int (k:=0) (by simp);obtain rfl:a=a':=Option.some.inj ha.out;have hac:=hK _ _ hac;rw [Nat.add_zero] at hac;(have hl0:0<(a::l).length:=by simp);(have hl1:(0:Int)<((a::l).length:Int):=by omega);clear hxa ha;cases hat:isAtB a f.regs.length
    · (have HT:Hid (copyT f ⟨op,dst,a::l,imm,fn⟩=1):=Lib.hid (by show (if isAtB a f.regs.length=true then reg f.regs a else 1)=1;rw [hat];rfl));(have HA:=Lib.hid (fun j=>by have:=HI.out a f.regs.length j;rw [hat] at this;exact this));clear hat;generalize (a::l).length=n at *;(go_enter Tryz.func150,Tryz.ntmps150);(go_wp2_with fail);rw [HW.out];(go_quiet ((go_at_call 101;exact Calls.quiet_of_same (HA.out _))));go_wp2_with fail
      (go_ret);exact ⟨by rw [HT.out];rfl,below_drewN HB.out _⟩
    · obtain ⟨h0,h1⟩:0≤a∧a<f.regs.length:=of_decide_eq_true hat;obtain ⟨k,rfl⟩:=Int.eq_ofNat_of_zero_le h0;(have hkl:k<f.regs.length:=by omega);obtain ⟨b,o,y,rfl,hy,hyc,hy64⟩:=hr.int hkl;have hyc:=hK _ _ hyc;(have HT:Hid (copyT f ⟨op,dst,(k:Int)::l,imm,fn⟩=y):=Lib.hid (by show (if isAtB (k:Int) f.regs.length=true then reg f.regs k else 1)=y;rw [hat,if_pos rfl];exact reg_of rfl hy.out));(have HA:=Lib.hid (fun j=>by have:=HI.out (k:Int) f.regs.length j;rw [hat] at this;exact this));clear hat;generalize ((k:Int)::l).length=n at *
      (go_enter Tryz.func150,Tryz.ntmps150);(go_wp2_with fail);rw [HW.out];(go_quiet ((go_at_call 101;exact Calls.quiet_of_same (HA.out _))));(go_wp2_with fail);(go_quiet (fail));(go_wp2_with fail);(go_ret);exact ⟨by rw [HT.out];rfl,below_drewN (below_drewN HB.out _) _⟩
theorem qC {P:Program} {fn:Func} {p u:Tmp} {ty:TypeId} (h:fn.results=#[.cell p ty,.tmp u]) (tmps:Array Value) (w:World) (g:Nat) (t:TypeId) (cs:Array Value) (fr:Nat × Nat) (d:TypeDesc)
    (hp:tmps.getD p undef=.pointer (some ⟨g,0,none⟩)) (hg:w.heap[g]?=some (.cells cs t fr))
    (hu:P.underlying ty=some d) (hd:(match d with | .struct _ | .array _ _=>true | _=>false)=true) (hi:(P.info? ty).map (·.size)=some cs.size) :
    (results fn tmps).run P w=.ok (.tuple #[.agg cs,tmps.getD u undef]) w:=by
  (have hp':tmps[p]?.getD undef=.pointer (some ⟨g,0,none⟩):=by simpa using hp);rw [results_cell_tmp h];simp [hp',asAddr,run_loadVar_row w g t ty cs fr d hg hu hd hi,Result.andThen]
def VAsk (w:World) (v:Value) (many:Int) (ts:List Int) (d:Int):Prop:=∃ A c,v=.agg #[.int .i64 many,.slice A ts.length c,.int .i64 d]∧SL w 1 RInt A c ts∧I64 many∧I64 d
set_option maxRecDepth 100000 in
theorem asks_any (d:Int) (A:Option Addr) (n c:Nat) (w:World) :
    Calls Tryz.prog 148 #[.int .i64 d,.slice A n c] w fun e w'=>e=.returned (.agg #[.int .i64 n,.slice A n c,.int .i64 d])∧Below w.heap.size w w':=by
  (go_enter Tryz.func148,Tryz.ntmps148);(go_wp2_with fail);refine bodyPost_ret (results_cell_row rfl _ _ w.heap.size 204 #[.int .i64 n,.slice A n c,.int .i64 d] (0,0) _ (by rfl) (heap_alloc_new w _) Tryz.underlying204 (by rfl) (by kernel_rfl)) rfl ?_;exact ⟨rfl,(Below.refl _ w).alloc (Nat.le_refl _) _⟩
set_option maxRecDepth 100000 in
theorem askedOfCall_none (m:List FunD) (vm:Value) (n:Int) (w:World) (hm:VMod w vm m) (hn:I64 n) (hat:isAtB n m.length=false) :
    Calls Tryz.prog 151 #[vm,.int .i64 n] w fun e w'=>e=.returned (.tuple #[.agg #[.int .i64 0,.slice none 0 0,.int .i64 0],errV 4])∧Below w.heap.size w w':=by
  obtain ⟨Am,cm,rfl,hms⟩:=hm;have hml:=hms.len;have HA:=Lib.hid hat;clear hat;(go_enter Tryz.func151,Tryz.ntmps151);(go_wp2_with fail);refine (qq _ _ _).mono ?_;rintro e w' ⟨rfl,rfl⟩;rw [HA.out]
  (go_wp2_with fail);refine bodyPost_ret (qC rfl _ _ (w.heap.size+1) 204 #[.int .i64 0,.slice none 0 0,.int .i64 0] (0,0) _ (by rfl) (heap_alloc2_new w _ _) Tryz.underlying204 (by rfl) (by kernel_rfl)) rfl ?_;exact ⟨rfl,((Below.refl _ w).alloc (Nat.le_refl _) _).alloc (by simp) _⟩
def qY (g:FunD):Nat:=min g.params.toNat g.regs.length
theorem SL.takeN {α:Type} {w:World} {sz c n:Nat} {R:World→Nat→Nat→α→Prop} {A:Option Addr} {xs:List α} (h:SL w sz R A c xs) (hn:n≤xs.length):SL w sz R A c (xs.take n):=by
  obtain ⟨h1,h2,h3⟩:=h;(refine ⟨by rw [List.length_take];omega,h2,fun hp=>?_⟩);rw [List.length_take] at hp;obtain ⟨b,o,e,hx⟩:=h3 (by omega);refine ⟨b,o,e,fun i x hi=>hx i x ?_⟩;rw [List.getElem?_take] at hi
  split at hi
  · exact hi
  · cases hi
theorem qK {w:World} {g:Nat} {a b c:Value} {t:TypeId} (h:w.heap[g]?=some (.cells #[a,b,c] t (0,0))) (v0 v1 v2:Value) :
    (((w.setCell ⟨g,0,none⟩ v0).setCell ⟨g,1,none⟩ v1).setCell ⟨g,2,none⟩ v2).heap[g]?=some (.cells #[v0,v1,v2] t (0,0)) :=
  qF v2 (qF v1 (qF v0 h))
theorem qA {w:World} {g:Nat} {cs:Array Value} {t:TypeId} (h:w.heap[g]?=some (.cells cs t (0,0))) (i:Nat):w.frozen? ⟨g,i,none⟩=false:=by
  unfold World.frozen?;simp [h]
set_option maxRecDepth 100000 in
set_option maxHeartbeats 4000000 in
theorem askedOfCall_some (m:List FunD) (vm:Value) (k:Nat) (g:FunD) (w0 w:World) (hm0:VMod w0 vm m) (hK0:Kept w0 w) (hg:m[k]?=some g) :
    Calls Tryz.prog 151 #[vm,.int .i64 k] w fun e w'=>(∃ v,e=.returned (.tuple #[v,.nilIface])∧VAsk w0 v g.params (g.regs.take (qY g)) g.result)∧Below w.heap.size w w':=by
  obtain ⟨Am,cm,rfl,hms0⟩:=hm0;have hms:=SFuns.keep hK0 hms0;have hml:=hms.len;have hk:k<m.length:=(List.getElem?_eq_some_iff.1 hg).1;have HA:Hid (isAtB k m.length=true):=Lib.hid (decide_eq_true (by omega));have HG:=Lib.hid hg;clear hg;(have hk1:(k:Int)<m.length:=by omega);obtain ⟨b,o,g',rfl,hx,⟨h0,z0⟩,⟨h1,z1⟩,⟨Ar,cr,h2,z2⟩,Ab,cb,h3,z3⟩:=hms0.at_ hk
  obtain rfl:g=g':=Option.some.inj (HG.out.symm.trans hx.out);have hrl:=z2.len;have hrc:=z2.1;obtain ⟨gp,gr,gs,gb⟩:=g;dsimp only at *;(go_enter Tryz.func151,Tryz.ntmps151);(go_wp2_with fail);refine (qq _ _ _).mono ?_;rintro e w' ⟨rfl,rfl⟩
  rw [HA.out];obtain ⟨wa,hwa,hsa,hka,hba,hca,-⟩:=named w #[.slice (some ⟨b,o,none⟩) m.length cm] 24;obtain ⟨w1,hw1,hs1,hk1',hb1,hc1,-⟩:=named wa #[.int .i64 0,.slice none 0 0,.int .i64 0] 204;have hB1:Below w.heap.size w w1:=hba.trans (hb1.mono (by omega));(have hbk1:w1.heap[wa.heap.size]?=some (.cells #[.int .i64 0,.slice none 0 0,.int .i64 0] 204 (0,0)):=by rw [hw1];exact heap_alloc_new _ _);rw [← hwa,← hw1];rw [hsa] at hc1 hbk1;have q0:w1.cell? ⟨w.heap.size,0,none⟩=some (.slice (some ⟨b,o,none⟩) m.length cm):=hk1' _ _ (hca 0 _ rfl);have r0:w1.cell? ⟨w.heap.size+1,0,none⟩=some (.int .i64 0):=hc1 0 _ rfl
  have r1:w1.cell? ⟨w.heap.size+1,1,none⟩=some (.slice none 0 0):=hc1 1 _ rfl;have r2:w1.cell? ⟨w.heap.size+1,2,none⟩=some (.int .i64 0):=hc1 2 _ rfl;(have hs2:w.heap.size+1<w1.heap.size:=by omega);have hK:=hka.trans hk1';clear hwa hw1 hsa hca hc1 hka hk1' hba hb1 hs1;have h0:=hK _ _ (hK0 _ _ h0);have h1:=hK _ _ (hK0 _ _ h1);have h2:=hK _ _ (hK0 _ _ h2);have h3:=hK _ _ (hK0 _ _ h3)
  by_cases hlow:gp<0
  · cases Ar with
    | none =>
      obtain rfl:cr=0:=z2.2.1.2 rfl;(have hcut:Hid (gs.take (qY ⟨gp,gr,gs,gb⟩)=gs.take (0)):=Lib.hid (by congr 1;unfold qY;dsimp only;omega));(have hcutn:Hid ((gs.take (0)).length=(0)):=Lib.hid (by rw [List.length_take];omega));(go_wp2_with fail);obtain ⟨w2,hw2,hs3,hk2,hb2,hc2,-⟩:=named w1 #[.int .i64 (gp),.int .i64 gr,.slice none gs.length 0,.slice Ab gb.length cb] 30;have hB2:Below w.heap.size w w2:=hB1.trans (hb2.mono hB1.size);have hbk2:w2.heap[w.heap.size+1]?=some (.cells #[.int .i64 0,.slice none 0 0,.int .i64 0] 204 (0,0)):=(hb2.block _ hs2).trans hbk1;rw [← hw2];have g0:w2.cell? ⟨w1.heap.size,0,none⟩=some (.int .i64 (gp)):=hc2 0 _ rfl
      have g1:w2.cell? ⟨w1.heap.size,1,none⟩=some (.int .i64 gr):=hc2 1 _ rfl;have g2:w2.cell? ⟨w1.heap.size,2,none⟩=some (.slice none gs.length 0):=hc2 2 _ rfl;have r0:=hk2 _ _ r0;have r1:=hk2 _ _ r1;have r2:=hk2 _ _ r2;(have hn2:w.heap.size+1<w2.heap.size:=by omega);have f0:=qA hbk2 0;have f1:=qA hbk2 1;have f2:=qA hbk2 2
      clear hw2 hs3 hc2;(go_still_tail 9,(by kernel_rfl));change wpList _ _ _ _ _ w2.drew;(go_wp2_with fail);have hwF:Below w.heap.size w (((w2.setCell ⟨w.heap.size+1,0,none⟩ (.int .i64 (gp))).setCell ⟨w.heap.size+1,1,none⟩ (.slice none (0) 0)).setCell ⟨w.heap.size+1,2,none⟩ (.int .i64 gr)) :=
        ((hB2.setCell (by show _≤w.heap.size+1;omega) _).setCell (by show _≤w.heap.size+1;omega) _).setCell (by show _≤w.heap.size+1;omega) _
      have hbkF:=qK (w:=w2) hbk2 (.int .i64 (gp)) (.slice none (0) 0) (.int .i64 gr);generalize (((w2.setCell ⟨w.heap.size+1,0,none⟩ (.int .i64 (gp))).setCell ⟨w.heap.size+1,1,none⟩ (.slice none (0) 0)).setCell ⟨w.heap.size+1,2,none⟩ (.int .i64 gr))=wF at *;refine bodyPost_ret (qC rfl _ _ (w.heap.size+1) 204 #[.int .i64 (gp),.slice none (0) 0,.int .i64 gr] (0,0) _ (by rfl) hbkF Tryz.underlying204 (by rfl) (by kernel_rfl)) rfl ?_;refine ⟨⟨_,rfl,none,0,?_,?_,z0,z1⟩,hwF.drew⟩
      · rw [hcut.out,hcutn.out]
      · rw [hcut.out];exact z2.takeN (by omega)
    | some a =>
      (have hcut:Hid (gs.take (qY ⟨gp,gr,gs,gb⟩)=gs.take (0)):=Lib.hid (by congr 1;unfold qY;dsimp only;omega));(have hcutn:Hid ((gs.take (0)).length=(0)):=Lib.hid (by rw [List.length_take];omega));(go_wp2_with fail);obtain ⟨w2,hw2,hs3,hk2,hb2,hc2,-⟩:=named w1 #[.int .i64 (gp),.int .i64 gr,.slice (some a) gs.length cr,.slice Ab gb.length cb] 30;have hB2:Below w.heap.size w w2:=hB1.trans (hb2.mono hB1.size);have hbk2:w2.heap[w.heap.size+1]?=some (.cells #[.int .i64 0,.slice none 0 0,.int .i64 0] 204 (0,0)):=(hb2.block _ hs2).trans hbk1;rw [← hw2];have g0:w2.cell? ⟨w1.heap.size,0,none⟩=some (.int .i64 (gp)):=hc2 0 _ rfl;have g1:w2.cell? ⟨w1.heap.size,1,none⟩=some (.int .i64 gr):=hc2 1 _ rfl
      have g2:w2.cell? ⟨w1.heap.size,2,none⟩=some (.slice (some a) gs.length cr):=hc2 2 _ rfl;have r0:=hk2 _ _ r0;have r1:=hk2 _ _ r1;have r2:=hk2 _ _ r2;(have hn2:w.heap.size+1<w2.heap.size:=by omega);have f0:=qA hbk2 0;have f1:=qA hbk2 1;have f2:=qA hbk2 2;clear hw2 hs3 hc2
      (go_still_tail 9,(by kernel_rfl));change wpList _ _ _ _ _ w2.drew;(go_wp2_with fail);have hwF:Below w.heap.size w (((w2.setCell ⟨w.heap.size+1,0,none⟩ (.int .i64 (gp))).setCell ⟨w.heap.size+1,1,none⟩ (.slice (some a) (0) cr)).setCell ⟨w.heap.size+1,2,none⟩ (.int .i64 gr)) :=
        ((hB2.setCell (by show _≤w.heap.size+1;omega) _).setCell (by show _≤w.heap.size+1;omega) _).setCell (by show _≤w.heap.size+1;omega) _
      have hbkF:=qK (w:=w2) hbk2 (.int .i64 (gp)) (.slice (some a) (0) cr) (.int .i64 gr);generalize (((w2.setCell ⟨w.heap.size+1,0,none⟩ (.int .i64 (gp))).setCell ⟨w.heap.size+1,1,none⟩ (.slice (some a) (0) cr)).setCell ⟨w.heap.size+1,2,none⟩ (.int .i64 gr))=wF at *;refine bodyPost_ret (qC rfl _ _ (w.heap.size+1) 204 #[.int .i64 (gp),.slice (some a) (0) cr,.int .i64 gr] (0,0) _ (by rfl) hbkF Tryz.underlying204 (by rfl) (by kernel_rfl)) rfl ?_;refine ⟨⟨_,rfl,(some a),cr,?_,?_,z0,z1⟩,hwF.drew⟩
      · rw [hcut.out,hcutn.out]
      · rw [hcut.out];exact z2.takeN (by omega)
  · obtain ⟨p,rfl⟩:=Int.eq_ofNat_of_zero_le (Int.not_lt.1 hlow);clear hlow
    by_cases hp:p≤gs.length
    · by_cases hp0:0<p
      · (have hp1:(0:Int)<p:=by omega);(have hpc:p≤cr:=by omega);(have hpc1:(p:Int)≤cr:=by omega);obtain ⟨br,or_,xr,rfl,-,-,-⟩:=z2.int (k:=0) (by omega);(have hcut:Hid (gs.take (qY ⟨p,gr,gs,gb⟩)=gs.take (p)):=Lib.hid (by congr 1;unfold qY;dsimp only;omega));(have hcutn:Hid ((gs.take (p)).length=(p)):=Lib.hid (by rw [List.length_take];omega));(go_wp2_with fail);obtain ⟨w2,hw2,hs3,hk2,hb2,hc2,-⟩:=named w1 #[.int .i64 (p),.int .i64 gr,.slice (some ⟨br,or_,none⟩) gs.length cr,.slice Ab gb.length cb] 30;have hB2:Below w.heap.size w w2:=hB1.trans (hb2.mono hB1.size)
        have hbk2:w2.heap[w.heap.size+1]?=some (.cells #[.int .i64 0,.slice none 0 0,.int .i64 0] 204 (0,0)):=(hb2.block _ hs2).trans hbk1;rw [← hw2];have g0:w2.cell? ⟨w1.heap.size,0,none⟩=some (.int .i64 (p)):=hc2 0 _ rfl;have g1:w2.cell? ⟨w1.heap.size,1,none⟩=some (.int .i64 gr):=hc2 1 _ rfl;have g2:w2.cell? ⟨w1.heap.size,2,none⟩=some (.slice (some ⟨br,or_,none⟩) gs.length cr):=hc2 2 _ rfl;have r0:=hk2 _ _ r0;have r1:=hk2 _ _ r1;have r2:=hk2 _ _ r2;have hn2:w.heap.size+1<w2.heap.size:=by omega
        have f0:=qA hbk2 0;have f1:=qA hbk2 1;have f2:=qA hbk2 2;clear hw2 hs3 hc2;(go_still_tail 9,(by kernel_rfl));change wpList _ _ _ _ _ w2.drew;(go_wp2_with fail);have hwF:Below w.heap.size w (((w2.setCell ⟨w.heap.size+1,0,none⟩ (.int .i64 (p))).setCell ⟨w.heap.size+1,1,none⟩ (.slice (some ⟨br,or_,none⟩) (p) cr)).setCell ⟨w.heap.size+1,2,none⟩ (.int .i64 gr)) :=
          ((hB2.setCell (by show _≤w.heap.size+1;omega) _).setCell (by show _≤w.heap.size+1;omega) _).setCell (by show _≤w.heap.size+1;omega) _
        have hbkF:=qK (w:=w2) hbk2 (.int .i64 (p)) (.slice (some ⟨br,or_,none⟩) (p) cr) (.int .i64 gr);generalize (((w2.setCell ⟨w.heap.size+1,0,none⟩ (.int .i64 (p))).setCell ⟨w.heap.size+1,1,none⟩ (.slice (some ⟨br,or_,none⟩) (p) cr)).setCell ⟨w.heap.size+1,2,none⟩ (.int .i64 gr))=wF at *;refine bodyPost_ret (qC rfl _ _ (w.heap.size+1) 204 #[.int .i64 (p),.slice (some ⟨br,or_,none⟩) (p) cr,.int .i64 gr] (0,0) _ (by rfl) hbkF Tryz.underlying204 (by rfl) (by kernel_rfl)) rfl ?_;refine ⟨⟨_,rfl,(some ⟨br,or_,none⟩),cr,?_,?_,z0,z1⟩,hwF.drew⟩
        · rw [hcut.out,hcutn.out]
        · rw [hcut.out];exact z2.takeN (by omega)
      · cases Ar with
        | none =>
          obtain rfl:cr=0:=z2.2.1.2 rfl;(have hcut:Hid (gs.take (qY ⟨p,gr,gs,gb⟩)=gs.take (0)):=Lib.hid (by congr 1;unfold qY;dsimp only;omega));(have hcutn:Hid ((gs.take (0)).length=(0)):=Lib.hid (by rw [List.length_take];omega));(go_wp2_with fail);obtain ⟨w2,hw2,hs3,hk2,hb2,hc2,-⟩:=named w1 #[.int .i64 (p),.int .i64 gr,.slice none gs.length 0,.slice Ab gb.length cb] 30;have hB2:Below w.heap.size w w2:=hB1.trans (hb2.mono hB1.size);have hbk2:w2.heap[w.heap.size+1]?=some (.cells #[.int .i64 0,.slice none 0 0,.int .i64 0] 204 (0,0)):=(hb2.block _ hs2).trans hbk1;rw [← hw2];have g0:w2.cell? ⟨w1.heap.size,0,none⟩=some (.int .i64 (p)):=hc2 0 _ rfl
          have g1:w2.cell? ⟨w1.heap.size,1,none⟩=some (.int .i64 gr):=hc2 1 _ rfl;have g2:w2.cell? ⟨w1.heap.size,2,none⟩=some (.slice none gs.length 0):=hc2 2 _ rfl;have r0:=hk2 _ _ r0;have r1:=hk2 _ _ r1;have r2:=hk2 _ _ r2;(have hn2:w.heap.size+1<w2.heap.size:=by omega);have f0:=qA hbk2 0;have f1:=qA hbk2 1;have f2:=qA hbk2 2
          clear hw2 hs3 hc2;(go_still_tail 9,(by kernel_rfl));change wpList _ _ _ _ _ w2.drew;(go_wp2_with fail);have hwF:Below w.heap.size w (((w2.setCell ⟨w.heap.size+1,0,none⟩ (.int .i64 (p))).setCell ⟨w.heap.size+1,1,none⟩ (.slice none (0) 0)).setCell ⟨w.heap.size+1,2,none⟩ (.int .i64 gr)) :=
            ((hB2.setCell (by show _≤w.heap.size+1;omega) _).setCell (by show _≤w.heap.size+1;omega) _).setCell (by show _≤w.heap.size+1;omega) _
          have hbkF:=qK (w:=w2) hbk2 (.int .i64 (p)) (.slice none (0) 0) (.int .i64 gr);generalize (((w2.setCell ⟨w.heap.size+1,0,none⟩ (.int .i64 (p))).setCell ⟨w.heap.size+1,1,none⟩ (.slice none (0) 0)).setCell ⟨w.heap.size+1,2,none⟩ (.int .i64 gr))=wF at *;refine bodyPost_ret (qC rfl _ _ (w.heap.size+1) 204 #[.int .i64 (p),.slice none (0) 0,.int .i64 gr] (0,0) _ (by rfl) hbkF Tryz.underlying204 (by rfl) (by kernel_rfl)) rfl ?_;refine ⟨⟨_,rfl,none,0,?_,?_,z0,z1⟩,hwF.drew⟩
          · rw [hcut.out,hcutn.out]
          · rw [hcut.out];exact z2.takeN (by omega)
        | some a =>
          (have hcut:Hid (gs.take (qY ⟨p,gr,gs,gb⟩)=gs.take (0)):=Lib.hid (by congr 1;unfold qY;dsimp only;omega));(have hcutn:Hid ((gs.take (0)).length=(0)):=Lib.hid (by rw [List.length_take];omega));(go_wp2_with fail);obtain ⟨w2,hw2,hs3,hk2,hb2,hc2,-⟩:=named w1 #[.int .i64 (p),.int .i64 gr,.slice (some a) gs.length cr,.slice Ab gb.length cb] 30;have hB2:Below w.heap.size w w2:=hB1.trans (hb2.mono hB1.size);have hbk2:w2.heap[w.heap.size+1]?=some (.cells #[.int .i64 0,.slice none 0 0,.int .i64 0] 204 (0,0)):=(hb2.block _ hs2).trans hbk1;rw [← hw2];have g0:w2.cell? ⟨w1.heap.size,0,none⟩=some (.int .i64 (p)):=hc2 0 _ rfl;have g1:w2.cell? ⟨w1.heap.size,1,none⟩=some (.int .i64 gr):=hc2 1 _ rfl
          have g2:w2.cell? ⟨w1.heap.size,2,none⟩=some (.slice (some a) gs.length cr):=hc2 2 _ rfl;have r0:=hk2 _ _ r0;have r1:=hk2 _ _ r1;have r2:=hk2 _ _ r2;(have hn2:w.heap.size+1<w2.heap.size:=by omega);have f0:=qA hbk2 0;have f1:=qA hbk2 1;have f2:=qA hbk2 2;clear hw2 hs3 hc2
          (go_still_tail 9,(by kernel_rfl));change wpList _ _ _ _ _ w2.drew;(go_wp2_with fail);have hwF:Below w.heap.size w (((w2.setCell ⟨w.heap.size+1,0,none⟩ (.int .i64 (p))).setCell ⟨w.heap.size+1,1,none⟩ (.slice (some a) (0) cr)).setCell ⟨w.heap.size+1,2,none⟩ (.int .i64 gr)) :=
            ((hB2.setCell (by show _≤w.heap.size+1;omega) _).setCell (by show _≤w.heap.size+1;omega) _).setCell (by show _≤w.heap.size+1;omega) _
          have hbkF:=qK (w:=w2) hbk2 (.int .i64 (p)) (.slice (some a) (0) cr) (.int .i64 gr);generalize (((w2.setCell ⟨w.heap.size+1,0,none⟩ (.int .i64 (p))).setCell ⟨w.heap.size+1,1,none⟩ (.slice (some a) (0) cr)).setCell ⟨w.heap.size+1,2,none⟩ (.int .i64 gr))=wF at *;refine bodyPost_ret (qC rfl _ _ (w.heap.size+1) 204 #[.int .i64 (p),.slice (some a) (0) cr,.int .i64 gr] (0,0) _ (by rfl) hbkF Tryz.underlying204 (by rfl) (by kernel_rfl)) rfl ?_;refine ⟨⟨_,rfl,(some a),cr,?_,?_,z0,z1⟩,hwF.drew⟩
          · rw [hcut.out,hcutn.out]
          · rw [hcut.out];exact z2.takeN (by omega)
    · have hp1:(gs.length:Int)<p:=by omega
      by_cases hp0:0<gs.length
      · (have hg1:(0:Int)<gs.length:=by omega);(have hpc1:(gs.length:Int)≤cr:=by omega);obtain ⟨br,or_,xr,rfl,-,-,-⟩:=z2.int (k:=0) (by omega);(have hcut:Hid (gs.take (qY ⟨p,gr,gs,gb⟩)=gs.take (gs.length)):=Lib.hid (by congr 1;unfold qY;dsimp only;omega));(have hcutn:Hid ((gs.take (gs.length)).length=(gs.length)):=Lib.hid (by rw [List.length_take];omega));(go_wp2_with fail);obtain ⟨w2,hw2,hs3,hk2,hb2,hc2,-⟩:=named w1 #[.int .i64 (p),.int .i64 gr,.slice (some ⟨br,or_,none⟩) gs.length cr,.slice Ab gb.length cb] 30;have hB2:Below w.heap.size w w2:=hB1.trans (hb2.mono hB1.size);have hbk2:w2.heap[w.heap.size+1]?=some (.cells #[.int .i64 0,.slice none 0 0,.int .i64 0] 204 (0,0)):=(hb2.block _ hs2).trans hbk1
        rw [← hw2];have g0:w2.cell? ⟨w1.heap.size,0,none⟩=some (.int .i64 (p)):=hc2 0 _ rfl;have g1:w2.cell? ⟨w1.heap.size,1,none⟩=some (.int .i64 gr):=hc2 1 _ rfl;have g2:w2.cell? ⟨w1.heap.size,2,none⟩=some (.slice (some ⟨br,or_,none⟩) gs.length cr):=hc2 2 _ rfl;have r0:=hk2 _ _ r0;have r1:=hk2 _ _ r1;have r2:=hk2 _ _ r2;(have hn2:w.heap.size+1<w2.heap.size:=by omega);have f0:=qA hbk2 0
        have f1:=qA hbk2 1;have f2:=qA hbk2 2;clear hw2 hs3 hc2;(go_still_tail 9,(by kernel_rfl));change wpList _ _ _ _ _ w2.drew;(go_wp2_with fail);have hwF:Below w.heap.size w (((w2.setCell ⟨w.heap.size+1,0,none⟩ (.int .i64 (p))).setCell ⟨w.heap.size+1,1,none⟩ (.slice (some ⟨br,or_,none⟩) (gs.length) cr)).setCell ⟨w.heap.size+1,2,none⟩ (.int .i64 gr)) :=
          ((hB2.setCell (by show _≤w.heap.size+1;omega) _).setCell (by show _≤w.heap.size+1;omega) _).setCell (by show _≤w.heap.size+1;omega) _
        have hbkF:=qK (w:=w2) hbk2 (.int .i64 (p)) (.slice (some ⟨br,or_,none⟩) (gs.length) cr) (.int .i64 gr);generalize (((w2.setCell ⟨w.heap.size+1,0,none⟩ (.int .i64 (p))).setCell ⟨w.heap.size+1,1,none⟩ (.slice (some ⟨br,or_,none⟩) (gs.length) cr)).setCell ⟨w.heap.size+1,2,none⟩ (.int .i64 gr))=wF at *;refine bodyPost_ret (qC rfl _ _ (w.heap.size+1) 204 #[.int .i64 (p),.slice (some ⟨br,or_,none⟩) (gs.length) cr,.int .i64 gr] (0,0) _ (by rfl) hbkF Tryz.underlying204 (by rfl) (by kernel_rfl)) rfl ?_;refine ⟨⟨_,rfl,(some ⟨br,or_,none⟩),cr,?_,?_,z0,z1⟩,hwF.drew⟩
        · rw [hcut.out,hcutn.out]
        · rw [hcut.out];exact z2.takeN (by omega)
      · (have hg0:gs.length=0:=by omega);(have hg1:(gs.length:Int)≤0:=by omega);cases Ar with
        | none =>
          obtain rfl:cr=0:=z2.2.1.2 rfl;(have hcut:Hid (gs.take (qY ⟨p,gr,gs,gb⟩)=gs.take (0)):=Lib.hid (by congr 1;unfold qY;dsimp only;omega));(have hcutn:Hid ((gs.take (0)).length=(0)):=Lib.hid (by rw [List.length_take];omega));(go_wp2_with fail);obtain ⟨w2,hw2,hs3,hk2,hb2,hc2,-⟩:=named w1 #[.int .i64 (p),.int .i64 gr,.slice none 0 0,.slice Ab gb.length cb] 30;have hB2:Below w.heap.size w w2:=hB1.trans (hb2.mono hB1.size);have hbk2:w2.heap[w.heap.size+1]?=some (.cells #[.int .i64 0,.slice none 0 0,.int .i64 0] 204 (0,0)):=(hb2.block _ hs2).trans hbk1;rw [← hw2];have g0:w2.cell? ⟨w1.heap.size,0,none⟩=some (.int .i64 (p)):=hc2 0 _ rfl
          have g1:w2.cell? ⟨w1.heap.size,1,none⟩=some (.int .i64 gr):=hc2 1 _ rfl;have g2:w2.cell? ⟨w1.heap.size,2,none⟩=some (.slice none 0 0):=hc2 2 _ rfl;have r0:=hk2 _ _ r0;have r1:=hk2 _ _ r1;have r2:=hk2 _ _ r2;(have hn2:w.heap.size+1<w2.heap.size:=by omega);have f0:=qA hbk2 0;have f1:=qA hbk2 1;have f2:=qA hbk2 2
          clear hw2 hs3 hc2;(go_still_tail 9,(by kernel_rfl));change wpList _ _ _ _ _ w2.drew;(go_wp2_with fail);have hwF:Below w.heap.size w (((w2.setCell ⟨w.heap.size+1,0,none⟩ (.int .i64 (p))).setCell ⟨w.heap.size+1,1,none⟩ (.slice none (0) 0)).setCell ⟨w.heap.size+1,2,none⟩ (.int .i64 gr)) :=
            ((hB2.setCell (by show _≤w.heap.size+1;omega) _).setCell (by show _≤w.heap.size+1;omega) _).setCell (by show _≤w.heap.size+1;omega) _
          have hbkF:=qK (w:=w2) hbk2 (.int .i64 (p)) (.slice none (0) 0) (.int .i64 gr);generalize (((w2.setCell ⟨w.heap.size+1,0,none⟩ (.int .i64 (p))).setCell ⟨w.heap.size+1,1,none⟩ (.slice none (0) 0)).setCell ⟨w.heap.size+1,2,none⟩ (.int .i64 gr))=wF at *;refine bodyPost_ret (qC rfl _ _ (w.heap.size+1) 204 #[.int .i64 (p),.slice none (0) 0,.int .i64 gr] (0,0) _ (by rfl) hbkF Tryz.underlying204 (by rfl) (by kernel_rfl)) rfl ?_;refine ⟨⟨_,rfl,none,0,?_,?_,z0,z1⟩,hwF.drew⟩
          · rw [hcut.out,hcutn.out]
          · rw [hcut.out];exact z2.takeN (by omega)
        | some a =>
          (have hcut:Hid (gs.take (qY ⟨p,gr,gs,gb⟩)=gs.take (0)):=Lib.hid (by congr 1;unfold qY;dsimp only;omega));(have hcutn:Hid ((gs.take (0)).length=(0)):=Lib.hid (by rw [List.length_take];omega));(go_wp2_with fail);obtain ⟨w2,hw2,hs3,hk2,hb2,hc2,-⟩:=named w1 #[.int .i64 (p),.int .i64 gr,.slice (some a) 0 cr,.slice Ab gb.length cb] 30;have hB2:Below w.heap.size w w2:=hB1.trans (hb2.mono hB1.size);have hbk2:w2.heap[w.heap.size+1]?=some (.cells #[.int .i64 0,.slice none 0 0,.int .i64 0] 204 (0,0)):=(hb2.block _ hs2).trans hbk1;rw [← hw2];have g0:w2.cell? ⟨w1.heap.size,0,none⟩=some (.int .i64 (p)):=hc2 0 _ rfl;have g1:w2.cell? ⟨w1.heap.size,1,none⟩=some (.int .i64 gr):=hc2 1 _ rfl
          have g2:w2.cell? ⟨w1.heap.size,2,none⟩=some (.slice (some a) 0 cr):=hc2 2 _ rfl;have r0:=hk2 _ _ r0;have r1:=hk2 _ _ r1;have r2:=hk2 _ _ r2;(have hn2:w.heap.size+1<w2.heap.size:=by omega);have f0:=qA hbk2 0;have f1:=qA hbk2 1;have f2:=qA hbk2 2;clear hw2 hs3 hc2
          (go_still_tail 9,(by kernel_rfl));change wpList _ _ _ _ _ w2.drew;(go_wp2_with fail);have hwF:Below w.heap.size w (((w2.setCell ⟨w.heap.size+1,0,none⟩ (.int .i64 (p))).setCell ⟨w.heap.size+1,1,none⟩ (.slice (some a) (0) cr)).setCell ⟨w.heap.size+1,2,none⟩ (.int .i64 gr)) :=
            ((hB2.setCell (by show _≤w.heap.size+1;omega) _).setCell (by show _≤w.heap.size+1;omega) _).setCell (by show _≤w.heap.size+1;omega) _
          have hbkF:=qK (w:=w2) hbk2 (.int .i64 (p)) (.slice (some a) (0) cr) (.int .i64 gr);generalize (((w2.setCell ⟨w.heap.size+1,0,none⟩ (.int .i64 (p))).setCell ⟨w.heap.size+1,1,none⟩ (.slice (some a) (0) cr)).setCell ⟨w.heap.size+1,2,none⟩ (.int .i64 gr))=wF at *;refine bodyPost_ret (qC rfl _ _ (w.heap.size+1) 204 #[.int .i64 (p),.slice (some a) (0) cr,.int .i64 gr] (0,0) _ (by rfl) hbkF Tryz.underlying204 (by rfl) (by kernel_rfl)) rfl ?_;refine ⟨⟨_,rfl,(some a),cr,?_,?_,z0,z1⟩,hwF.drew⟩
          · rw [hcut.out,hcutn.out]
          · rw [hcut.out];exact z2.takeN (by omega)
end Go.Proofs.YtfoggldjjnabcaaGreatDoor
