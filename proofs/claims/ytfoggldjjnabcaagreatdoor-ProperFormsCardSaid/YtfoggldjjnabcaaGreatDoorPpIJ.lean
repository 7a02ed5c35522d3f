/- The program's eachNamed: it hands each register that is named, and where, to what it is given. -/
import Derived.Test.YtfoggldjjnabcaaGreatDoorPpCJ
import Derived.Test.YtfoggldjjnabcaaGreatDoorLvSJ
import Derived.Test.YtfoggldjjnabcaaGreatDoorChkDJ
import Derived.Test.YtfoggldjjnabcaaGreatDoorLastJ
import Derived.Test.YtfoggldjjnabcaaGreatDoorInsBJ
import Derived.Test.YtfoggldjjnabcaaGreatDoorGrNmJ
import Derived.Test.YtfoggldjjnabcaaGreatDoorGrPJ
import Derived.WalkSpells
import Derived.StillTailTactics
import Derived.Laws.ResultCell
import Derived.Test.YtfoggldjjnabcaaGreatDoorDmPJ
import Derived.Test.YtfoggldjjnabcaaGreatDoorAheadGJ
namespace Go.Proofs.YtfoggldjjnabcaaGreatDoor
open Go.ChangeShapes Go.WideShapes Go.RowKit Go.Deep
set_option linter.unusedVariables false
set_option linter.unusedSimpArgs false
def nmP (f:FunD) (p:PhiD) (al:List Int):List Mk:=al.mapIdx fun n q=>⟨p.args.getD n 0,q,((insB f q.toNat).length:Int)⟩
def nmX (i j:Nat) (args:List Int):List Mk:=args.map fun a=>⟨a,(i:Int),(j:Int)⟩
def nmIp (i:Nat) (l:List InsD):List Mk:=(l.mapIdx fun j x=>nmX i j x.args).flatten
def nmT (i:Nat) (b:BlkD):List Mk:=if 0≤b.term.arg then [⟨b.term.arg,(i:Int),(b.ins.length:Int)⟩] else []
def nmPs (f:FunD) (i:Nat) (l:List PhiD):List Mk:=l.flatMap fun p=>nmP f p (qG f.blocks (i:Int))
def nmKp (f:FunD):List BlkD→Nat→List Mk
  | [],_=>[]
  | b::l,i=>(nmPs f i b.phis++nmIp i b.ins++nmT i b)++nmKp f l (i+1)
def nmL (f:FunD):List Mk:=nmKp f f.blocks 0
theorem nmK_snoc (f:FunD):∀ (l:List BlkD) (i:Nat) (b:BlkD),nmKp f (l++[b]) i=nmKp f l i++(nmPs f (i+l.length) b.phis++nmIp (i+l.length) b.ins++nmT (i+l.length) b)
  | [],i,b=>by simp [nmKp]
  | a::l,i,b=>by
    show (nmPs f i a.phis++nmIp i a.ins++nmT i a)++nmKp f (l++[b]) (i+1)=((nmPs f i a.phis++nmIp i a.ins++nmT i a)++nmKp f l (i+1))++_;rw [nmK_snoc f l (i+1) b,List.length_cons,show i+1+l.length=i+(l.length+1) by omega];simp only [List.append_assoc]
theorem nmK_succ {f:FunD} {k:Nat} {b:BlkD} (h:f.blocks[k]?=some b):nmKp f (f.blocks.take (k+1)) 0=nmKp f (f.blocks.take k) 0++(nmPs f k b.phis++nmIp k b.ins++nmT k b):=by
  have hk:k<f.blocks.length:=(List.getElem?_eq_some_iff.1 h).1;rw [qD h,nmK_snoc,List.length_take,Nat.min_eq_left (by omega),Nat.zero_add]
theorem nmPs_succ {f:FunD} {l:List PhiD} {k i:Nat} {p:PhiD} (h:l[k]?=some p):nmPs f i (l.take (k+1))=nmPs f i (l.take k)++nmP f p (qG f.blocks (i:Int)):=by
  unfold nmPs;rw [qD h,List.flatMap_append];simp
theorem nmP_succ {f:FunD} {p:PhiD} {al:List Int} {k:Nat} {q:Int} (h:al[k]?=some q):nmP f p (al.take (k+1))=nmP f p (al.take k)++[⟨p.args.getD k 0,q,((insB f q.toNat).length:Int)⟩]:=by
  have hk:k<al.length:=(List.getElem?_eq_some_iff.1 h).1;(unfold nmP;rw [qD h,List.mapIdx_append]);simp [List.length_take,Nat.min_eq_left (Nat.le_of_lt hk)]
theorem nmI_succ {l:List InsD} {k i:Nat} {x:InsD} (h:l[k]?=some x):nmIp i (l.take (k+1))=nmIp i (l.take k)++nmX i k x.args:=by
  have hk:k<l.length:=(List.getElem?_eq_some_iff.1 h).1;(unfold nmIp;rw [qD h,List.mapIdx_append,List.flatten_append]);simp [List.length_take,Nat.min_eq_left (Nat.le_of_lt hk)]
theorem nmX_succ {args:List Int} {k i j:Nat} {a:Int} (h:args[k]?=some a):nmX i j (args.take (k+1))=nmX i j (args.take k)++[⟨a,(i:Int),(j:Int)⟩]:=by
  unfold nmX;rw [qD h,List.map_append];rfl
theorem mem_nmK (f:FunD):∀ (l:List BlkD) (i k:Nat) (b:BlkD) (e:Mk),l[k]?=some b→e∈(nmPs f (i+k) b.phis++nmIp (i+k) b.ins++nmT (i+k) b)→e∈nmKp f l i
  | [],i,k,b,e,h,_=>by simp at h
  | a::l,i,0,b,e,h,he=>by
    (have:a=b:=by simpa using h);subst this;exact List.mem_append_left _ he
  | a::l,i,k+1,b,e,h,he=>by
    refine List.mem_append_right _ (mem_nmK f l (i+1) k b e (by simpa using h) ?_);rw [show i+1+k=i+(k+1) by omega];exact he
theorem mem_nmL {f:FunD} {k:Nat} {b:BlkD} {e:Mk} (h:f.blocks[k]?=some b) (he:e∈nmPs f k b.phis∨e∈nmIp k b.ins∨e∈nmT k b):e∈nmL f:=by
  refine mem_nmK f f.blocks 0 k b e h ?_;rw [Nat.zero_add];rcases he with he | he | he
  · exact List.mem_append_left _ (List.mem_append_left _ he)
  · exact List.mem_append_left _ (List.mem_append_right _ he)
  · exact List.mem_append_right _ he
theorem mem_nmP {f:FunD} {i n:Nat} {l:List PhiD} {p:PhiD} {q:Int} (hp:p∈l) (hq:(qG f.blocks (i:Int))[n]?=some q):(⟨p.args.getD n 0,q,((insB f q.toNat).length:Int)⟩:Mk)∈nmPs f i l:=by
  unfold nmPs nmP;refine List.mem_flatMap.2 ⟨p,hp,List.mem_mapIdx.2 ⟨n,(List.getElem?_eq_some_iff.1 hq).1,?_⟩⟩;rw [(List.getElem?_eq_some_iff.1 hq).2]
theorem mem_nmI {i j:Nat} {l:List InsD} {x:InsD} {a:Int} (hx:l[j]?=some x) (ha:a∈x.args):(⟨a,(i:Int),(j:Int)⟩:Mk)∈nmIp i l:=by
  unfold nmIp nmX;refine List.mem_flatten.2 ⟨x.args.map fun a=>(⟨a,(i:Int),(j:Int)⟩:Mk),List.mem_mapIdx.2 ⟨j,(List.getElem?_eq_some_iff.1 hx).1,?_⟩,List.mem_map.2 ⟨a,ha,rfl⟩⟩;rw [(List.getElem?_eq_some_iff.1 hx).2]
structure Vis4 (P:List Mk→World→Prop) (X:Nat→Prop) (Q:Mk→Prop) (cl:FuncId) (c1 c2 c3 c4:Value) (w0:World):Prop where
  en:∀ (args:Array Value) (w:World),(callFunc cl args).run Tryz.prog w=.ok (.enter cl args) w
  low:∀ b,X b→b<w0.heap.size
  keep:∀ l w w',P l w→Below w.heap.size w w'→P l w'
  call:∀ l (e:Mk) w,P l w→FrX X w0 w→Q e→Calls Tryz.prog cl #[.int .i64 e.r,e.v,c1,c2,c3,c4] w fun en w'=>en=.returned (.tuple #[])∧P (l++[e]) w'∧FrX X w w'
set_option maxRecDepth 100000 in
set_option maxHeartbeats 32000000 in
theorem eachNamed_any {P:List Mk→World→Prop} {X:Nat→Prop} {Q:Mk→Prop} {cl:FuncId} {c1 c2 c3 c4:Value} (f:FunD) (vf:Value) (w00 w:World) (V:Vis4 P X Q cl c1 c2 c3 c4 w)
    (hf:VFun w00 vf f) (hK:∀ w',FrX X w w'→Kept w00 w') (hP:P [] w) (hnb:f.blocks.length≤1000)
    (hph:∀ (i:Nat) (b:BlkD),f.blocks[i]?=some b→∀ p∈b.phis,p.args.length=(qG f.blocks (i:Int)).length) (hQ:∀ e∈nmL f,Q e) :
    Calls Tryz.prog 80 #[vf,.func (.func cl) #[] #[c1,c2,c3,c4]] w fun en w'=>en=.returned (.tuple #[])∧P (nmL f) w'∧FrX X w w':=by
  have hf0:=hf;obtain ⟨Ar,cr,Ab,cb,rfl,hr0,hb0,-,-⟩:=hf;have hbl:=hb0.len;have HFB:=Lib.hid hb0;have HK:=Lib.hid hK;have HV:=Lib.hid V;have HP:=Lib.hid hP;have HF:=Lib.hid hf0;have HPH:=Lib.hid hph
  have HQ:=Lib.hid hQ;clear hr0 hb0 V hP hK hf0 hph hQ;(go_enter Tryz.func80,Tryz.ntmps80);(go_upto_region 1 with fail);obtain ⟨w1,hw1,hs1,hk1,hbel1,hc1,-⟩:=named w #[.int .i64 f.params,.int .i64 f.result,.slice Ar f.regs.length cr,.slice Ab f.blocks.length cb] 30;rw [← hw1];obtain ⟨A,hA⟩:∃ A,A=w.heap.size:=⟨_,rfl⟩;rw [← hA] at hc1 ⊢;have f0:w1.cell? ⟨A,0,none⟩=some (.int .i64 f.params):=hc1 0 _ rfl
  have f1:w1.cell? ⟨A,1,none⟩=some (.int .i64 f.result):=hc1 1 _ rfl;have f2:w1.cell? ⟨A,2,none⟩=some (.slice Ar f.regs.length cr):=hc1 2 _ rfl;have f3:w1.cell? ⟨A,3,none⟩=some (.slice Ab f.blocks.length cb):=hc1 3 _ rfl;have HB1:=Lib.hid hbel1;have HAH:=Lib.hid (ahead_any f _ w1 (VFun.keep (fun a v h=>hk1 _ _ (HK.out w (FrX.refl _ _) _ _ h)) HF.out) (by omega));have HA:=Lib.hid hA;clear hw1 hs1 hk1 hbel1 hc1 hA;(go_wp2_with fail);refine HAH.out.mono ?_
  rintro e w2 ⟨⟨VA,GA,rfl,hGA,hgr⟩,hb2⟩;have hAw:A<w1.heap.size:=block_lt_of_cell f0;(have HAW:Hid (w.heap.size≤A∧A<w2.heap.size∧w.heap.size≤GA):=Lib.hid ⟨by rw [HA.out];exact Nat.le_refl _,by have:=hb2.size;omega,by have:=HB1.out.size;omega⟩);have f0:=q6 hb2 _ _ f0;have f1:=q6 hb2 _ _ f1;have f2:=q6 hb2 _ _ f2;have f3:=q6 hb2 _ _ f3;have HB2:Hid (Below w.heap.size w w2):=Lib.hid (HB1.out.trans (hb2.mono HB1.out.size));have HGR:=Lib.hid hgr
  have HF4:Hid (w2.cell? ⟨A,0,none⟩=some (.int .i64 f.params)∧w2.cell? ⟨A,1,none⟩=some (.int .i64 f.result)∧w2.cell? ⟨A,2,none⟩=some (.slice Ar f.regs.length cr)∧w2.cell? ⟨A,3,none⟩=some (.slice Ab f.blocks.length cb)):=Lib.hid ⟨f0,f1,f2,f3⟩;have HP2:Hid (P [] w2):=Lib.hid (HV.out.keep _ _ _ HP.out HB2.out)
  
  have HX:Hid (∀ wr,FrX X w2 wr→FrX X w wr∧(∀ a v,w2.cell? a=some v→¬ X a.block→wr.cell? a=some v)):=Lib.hid (fun wr h =>
    ⟨(FrX.of_below HB2.out).trans h,fun a v ha hn=>(World.cell?_of_block (h.block a.block (block_lt_of_cell ha) hn)).trans ha⟩)
  have HNX:Hid (∀ b,w.heap.size≤b→¬ X b):=Lib.hid (fun b hb hx=>by have:=HV.out.low _ hx;omega)
  have HAD:Hid (∀ q,q<f.blocks.length→∃ A c,VA q=.slice A (qG f.blocks (q:Int)).length c∧∀ wr,FrX X w2 wr→SL wr 1 RInt A c (qG f.blocks (q:Int))):=Lib.hid (fun q hq=>by
    obtain ⟨A',c',hv',hs'⟩:=qx (hgr.own q hq) (aheadL_i64 _ _ (by omega));refine ⟨A',c',hv',fun wr hx=>?_⟩;(obtain ⟨A2,c2,hv2,hs2⟩:=qx (qH (hgr.own q hq) (fun g hg=>hx.block g ((hgr.own q hq).lt g hg).2 (HNX.out g (by have:=((hgr.own q hq).lt g hg).1;have:=HAW.out.2.2;omega)))) (aheadL_i64 _ _ (by omega)));rw [hv'] at hv2;cases hv2
    exact hs2)
  clear hb2 hGA hgr hAw f0 f1 f2 HAH;(go_wp2_with fail);clear f3
  go_loopw [20] (fun i wr=>∃ k:Nat,k≤f.blocks.length∧i=.int .i64 k∧P (nmKp f (f.blocks.take k) 0) wr∧FrX X w2 wr) (fun i _=>f.blocks.length - (intOf i).toNat)
  case atStart=>exact ⟨0,Nat.zero_le _,rfl,HP2.out,FrX.refl _ _⟩
  case round =>
    obtain ⟨q,hq,rfl,hp,hx⟩:=hrel;have HPQ:=Lib.hid hp;have HXQ:=Lib.hid hx;have HXW:=Lib.hid (HX.out _ hx).1;clear hp hx
    by_cases hqt:q<f.blocks.length
    · obtain ⟨bt,ot,kb,rfl,hkb,⟨Ap,cp,p0,s0⟩,⟨Ai,ci,p1,s1⟩,⟨p2,-⟩,⟨p3,-⟩,At,ct,p4,-⟩:=HFB.out.at_ hqt;have hkq:=HK.out _ HXW.out;have p0:=hkq _ _ p0;have p1:=hkq _ _ p1;have p2:=hkq _ _ p2;have p3:=hkq _ _ p3;have p4:=hkq _ _ p4;have HS0:=Lib.hid s0;have HS1:=Lib.hid s1
      have HKB:=Lib.hid hkb.out;have hl0:=s0.len;have hl1:=s1.len;(have hq0:(0:Int)≤q:=by omega);(have hq1:(q:Int)<f.blocks.length:=by omega);obtain ⟨Aq,cq,hVq,hSq⟩:=HAD.out q hqt;have HVQ:=Lib.hid hVq;have HSQ:=Lib.hid hSq;clear s0 s1 hkb hkq hVq hSq
      (go_upto_region 5 with fail);obtain ⟨w3,hw3,hs3,hk3,hbel3,hc3,-⟩:=named wr #[.slice Ap kb.phis.length cp,.slice Ai kb.ins.length ci,.int .i64 kb.term.kind,.int .i64 kb.term.arg,.slice At kb.term.to.length ct] 51;rw [← hw3];obtain ⟨C,hC⟩:∃ C,C=wr.heap.size:=⟨_,rfl⟩;rw [← hC] at hc3 ⊢;have d0:w3.cell? ⟨C,0,none⟩=some (.slice Ap kb.phis.length cp):=hc3 0 _ rfl;have d1:w3.cell? ⟨C,1,none⟩=some (.slice Ai kb.ins.length ci):=hc3 1 _ rfl;have d3:w3.cell? ⟨C,3,none⟩=some (.int .i64 kb.term.arg):=hc3 3 _ rfl
      have HX3:Hid (∀ wz,FrX X w3 wz→FrX X w2 wz∧FrX X w wz∧(∀ a v,w3.cell? a=some v→w.heap.size≤a.block→wz.cell? a=some v)):=Lib.hid (fun wz h=>by
        have h1:=(HXQ.out.trans (FrX.of_below hbel3)).trans h
        exact ⟨h1,(HX.out _ h1).1,fun a v ha hn=>(World.cell?_of_block (h.block a.block (block_lt_of_cell ha) (HNX.out _ hn))).trans ha⟩)
      (have HCW:Hid (w.heap.size≤C):=Lib.hid (by have:=HXW.out.size;omega));have HD3:=Lib.hid (And.intro d1 d3)
      have HP4:Hid (P (nmKp f (f.blocks.take q) 0++nmPs f q (kb.phis.take 0)) w3):=Lib.hid (by
        have h:=HV.out.keep _ _ _ HPQ.out hbel3;rw [List.take_zero];show P (_++[]) w3
        rw [List.append_nil];exact h)
      clear hw3 hs3 hk3 hbel3 hc3 hC p0 p1 p2 p3 p4 d1 d3;(go_wp2_with fail);clear d0
      go_loopw [28] (fun i wz=>∃ j:Nat,j≤kb.phis.length∧i=.int .i64 j∧P (nmKp f (f.blocks.take q) 0++nmPs f q (kb.phis.take j)) wz∧FrX X w3 wz) (fun i _=>kb.phis.length - (intOf i).toNat)
      case atStart=>exact ⟨0,Nat.zero_le _,rfl,HP4.out,FrX.refl _ _⟩
      case round =>
        obtain ⟨j,hj,rfl,hp,hx⟩:=hrel;obtain ⟨hx2,hxw,hxC⟩:=HX3.out _ hx;have HPJ:=Lib.hid hp;have HXJ:=Lib.hid hx;have HXJ2:=Lib.hid hx2;have HXJW:=Lib.hid hxw
        by_cases hjt:j<kb.phis.length
        · obtain ⟨bp,op,pd,rfl,hpd,⟨t0,-⟩,Ag,cg,t1,sg⟩:=HS0.out.at_ hjt;have hkj:=HK.out _ hxw;have t0:=hkj _ _ t0;have t1:=hkj _ _ t1;have HPD:=Lib.hid hpd.out;have HSG:=Lib.hid sg;have HPL:=Lib.hid (HPH.out q kb HKB.out pd (List.mem_of_getElem? hpd.out));have hgl:=sg.len;have hj0:(0:Int)≤j:=by omega
          (have hj1:(j:Int)<kb.phis.length:=by omega);have g0:wr.cell? ⟨GA,q,none⟩=some (.slice Aq (qG f.blocks (q:Int)).length cq):=by
            rw [← HVQ.out];exact (HX.out _ hx2).2 _ _ (HGR.out.row.cell hqt) (HNX.out _ HAW.out.2.2)
          clear hp hx hx2 hxw hxC hpd hkj sg;(go_upto_region 8 with fail);obtain ⟨w4,hw4,hs4,hk4,hbel4,hc4,-⟩:=named wr #[.int .i64 pd.dst,.slice Ag pd.args.length cg] 55;rw [← hw4];obtain ⟨E,hE⟩:∃ E,E=wr.heap.size:=⟨_,rfl⟩;rw [← hE] at hc4 ⊢;have x1:w4.cell? ⟨E,1,none⟩=some (.slice Ag pd.args.length cg):=hc4 1 _ rfl;have g0:=hk4 _ _ g0;have HX1:=Lib.hid x1
          have HEW:Hid (w.heap.size≤E):=Lib.hid (by have:=HXJW.out.size;omega)
          have HX4:Hid (∀ wz,FrX X w4 wz→FrX X w3 wz∧FrX X w2 wz∧FrX X w wz∧(∀ a v,w4.cell? a=some v→w.heap.size≤a.block→wz.cell? a=some v)):=Lib.hid (fun wz h=>by
            have h1:=(HXJ.out.trans (FrX.of_below hbel4)).trans h;obtain ⟨h2,h3,-⟩:=HX3.out _ h1
            exact ⟨h1,h2,h3,fun a v ha hn=>(World.cell?_of_block (h.block a.block (block_lt_of_cell ha) (HNX.out _ hn))).trans ha⟩)
          have HP5:Hid (P ((nmKp f (f.blocks.take q) 0++nmPs f q (kb.phis.take j))++nmP f pd ((qG f.blocks (q:Int)).take 0)) w4):=Lib.hid (by
            have h:=HV.out.keep _ _ _ HPJ.out hbel4;rw [List.take_zero];show P (_++[]) w4
            rw [List.append_nil];exact h)
          have hal:=aheadK_len f.blocks 0 (q:Int);(have hal:(qG f.blocks (q:Int)).length≤1000:=by unfold qG;omega);clear hw4 hs4 hk4 hbel4 hc4 hE t0 t1 x1;(go_wp2_with fail);clear g0
          go_loopw [37] (fun i wy=>∃ n:Nat,n≤(qG f.blocks (q:Int)).length∧i=.int .i64 n∧P ((nmKp f (f.blocks.take q) 0++nmPs f q (kb.phis.take j))++nmP f pd ((qG f.blocks (q:Int)).take n)) wy∧FrX X w4 wy) (fun i _=>(qG f.blocks (q:Int)).length - (intOf i).toNat)
          case atStart=>exact ⟨0,Nat.zero_le _,rfl,HP5.out,FrX.refl _ _⟩
          case round =>
            obtain ⟨n,hn,rfl,hp,hx⟩:=hrel;obtain ⟨hx3,hx2,hxw,hxE⟩:=HX4.out _ hx;have HPN:=Lib.hid hp;have HXN:=Lib.hid hx;have HXNW:=Lib.hid hxw
            by_cases hnt:n<(qG f.blocks (q:Int)).length
            · obtain ⟨ba,oa,xa,rfl,hxa,t2,-⟩:=(HSQ.out wr hx2).at_ hnt;obtain ⟨pa,rfl,hpa⟩:=ah_lt hxa.out;rw [Nat.mul_one] at t2;(obtain ⟨bg,og,ya,rfl,hya,t3,-⟩:=(SInts.keep (HK.out _ hxw) HSG.out).at_ (k:=n) (by have:=HPL.out;omega));rw [Nat.mul_one] at t3;have x1:=hxE _ _ HX1.out HEW.out;obtain ⟨f0,f1,f2,f3⟩:=HF4.out;have f0:=(HX.out _ hx2).2 _ _ f0 (HNX.out _ HAW.out.1);have f1:=(HX.out _ hx2).2 _ _ f1 (HNX.out _ HAW.out.1)
              have f2:=(HX.out _ hx2).2 _ _ f2 (HNX.out _ HAW.out.1);have f3:=(HX.out _ hx2).2 _ _ f3 (HNX.out _ HAW.out.1);(have hn0:(0:Int)≤n:=by omega);(have hn1:(n:Int)<(qG f.blocks (q:Int)).length:=by omega);(have hn2:(n:Int)<pd.args.length:=by have:=HPL.out;omega);have hpk:f.blocks[pa]?=some f.blocks[pa]:=List.getElem?_eq_getElem hpa;obtain ⟨kp,hkp⟩:∃ kp,kp=f.blocks[pa]:=⟨_,rfl⟩;rw [← hkp] at hpk;have HYA:Hid (pd.args.getD n 0=ya∧((insB f ((pa:Nat):Int).toNat).length:Int)=kp.ins.length):=Lib.hid ⟨by rw [List.getD_eq_getElem?_getD,hya.out];rfl,by rw [Int.toNat_natCast,insB_at hpk]⟩
              have HXA:=Lib.hid hxa.out
              have HEO:Hid (∀ W,Below wr.heap.size wr W→Calls Tryz.prog 119 #[.agg #[.int .i64 f.params,.int .i64 f.result,.slice Ar f.regs.length cr,.slice (some ⟨bt,ot,none⟩) f.blocks.length cb],.int .i64 (pa:Int)] W fun e w'=>e=.returned (.agg #[.int .i64 (pa:Int),.int .i64 (kp.ins.length:Int)])∧Below W.heap.size W w'):=Lib.hid (fun W hW =>
                endOf_any f _ W (VFun.keep (fun a v h=>q6 hW _ _ (HK.out _ HXNW.out _ _ h)) HF.out) pa kp hpk)
              have HCL:Hid (∀ W,Below wr.heap.size wr W→Calls Tryz.prog cl #[.int .i64 ya,.agg #[.int .i64 (pa:Int),.int .i64 (kp.ins.length:Int)],c1,c2,c3,c4] W fun en w'=>en=.returned (.tuple #[])∧P ((nmKp f (f.blocks.take q) 0++nmPs f q (kb.phis.take j))++nmP f pd ((qG f.blocks (q:Int)).take (n+1))) w'∧FrX X wr w'):=Lib.hid (fun W hW=>by
                have hqe:(⟨ya,(pa:Int),(kp.ins.length:Int)⟩:Mk)∈nmPs f q kb.phis:=by
                  rw [← HYA.out.1,← HYA.out.2];exact mem_nmP (List.mem_of_getElem? HPD.out) HXA.out
                refine (HV.out.call _ ⟨ya,(pa:Int),(kp.ins.length:Int)⟩ W (HV.out.keep _ _ _ HPN.out hW) (HXNW.out.trans (FrX.of_below hW)) (HQ.out _ (mem_nmL HKB.out (.inl hqe)))).mono ?_;rintro en w' ⟨h1,h2,h3⟩;refine ⟨h1,?_,(FrX.of_below hW).trans h3⟩
                rw [nmP_succ HXA.out,HYA.out.1,HYA.out.2,← List.append_assoc];exact h2)
              clear hp hx hx3 hx2 hxw hxE hxa hya hpk hkp hpa;(go_upto_region 11 with fail);have hS:∀ W,Below wr.heap.size wr W→W.cell? ⟨E,1,none⟩=some (.slice (some ⟨bg,og,none⟩) pd.args.length cg)∧W.cell? ⟨bg,og+n,none⟩=some (.int .i64 ya)∧W.cell? ⟨A,0,none⟩=some (.int .i64 f.params)∧W.cell? ⟨A,1,none⟩=some (.int .i64 f.result)∧W.cell? ⟨A,2,none⟩=some (.slice Ar f.regs.length cr)∧W.cell? ⟨A,3,none⟩=some (.slice (some ⟨bt,ot,none⟩) f.blocks.length cb):=fun W hW =>
                ⟨q6 hW _ _ x1,q6 hW _ _ t3,q6 hW _ _ f0,q6 hW _ _ f1,q6 hW _ _ f2,q6 hW _ _ f3⟩
              have hS0:=hS wr.drew (Below.refl _ wr).drew;have HS:=Lib.hid hS;clear hS t2 t3 x1 f0 f1 f2 f3;refine qI (L:=9) (S:=fun W:World=>W.cell? ⟨E,1,none⟩=some (.slice (some ⟨bg,og,none⟩) pd.args.length cg)∧W.cell? ⟨bg,og+n,none⟩=some (.int .i64 ya)∧W.cell? ⟨A,0,none⟩=some (.int .i64 f.params)∧W.cell? ⟨A,1,none⟩=some (.int .i64 f.result)∧W.cell? ⟨A,2,none⟩=some (.slice Ar f.regs.length cr)∧W.cell? ⟨A,3,none⟩=some (.slice (some ⟨bt,ot,none⟩) f.blocks.length cb)) (by kernel_rfl) (by rfl) (by kernel_rfl) (by kernel_rfl) ?_;change wpAnyH _ _ _ _ _ _ _ _ (World.drew _);refine tk 0 42 hS0 ?_;simp only [Act.put,aS,List.set_cons_zero,List.set_cons_succ];refine tk 1 43 hS0 ?_;simp only [Act.put,aS,List.set_cons_zero,List.set_cons_succ]
              refine tk 2 44 hS0 ?_;simp only [Act.put,aS,List.set_cons_zero,List.set_cons_succ];refine tk 3 45 hS0 ?_;simp only [Act.put,aS,List.set_cons_zero,List.set_cons_succ];refine tk 4 46 hS0 ?_;simp only [Act.put,aS,List.set_cons_zero,List.set_cons_succ];refine tk 5 47 hS0 ?_;simp only [Act.put,aS,List.set_cons_zero,List.set_cons_succ];refine tk 6 48 hS0 ?_
              simp only [Act.put,aS,List.set_cons_zero,List.set_cons_succ];refine tk 7 49 hS0 ?_;simp only [Act.put,aS,List.set_cons_zero,List.set_cons_succ];refine oneH (i:=8) (by kernel_rfl) (fun o ho K' hK=>?_);(simp only [List.getElem?_toArray,List.getElem?_cons_zero,List.getElem?_cons_succ,Option.some.injEq] at ho;subst ho);(go_simp);refine (HEO.out wr.drew (Below.refl _ wr).drew).mono ?_;rintro en w5 ⟨rfl,hb5⟩;have hb5':Below wr.heap.size wr w5:=(Below.refl _ wr).drew.trans hb5
              have HB5:=Lib.hid hb5';(go_wp2_with fail);refine hK.out _ _ (HS.out w5 hb5') ?_;clear hK K' hS0 hb5 hb5';(try simp only [Act.put,aS,List.set_cons_zero,List.set_cons_succ]);refine wpAnyH_done (by kernel_rfl) ?_ _;refine lastH (by decide) (fun o ho K' hK=>?_);(simp only [List.getElem?_toArray,List.getElem?_cons_zero,List.getElem?_cons_succ,Option.some.injEq] at ho;subst ho);go_simp
              rw [HV.out.en,Oper.upon_enter];refine (HCL.out w5 HB5.out).mono ?_;rintro en w6 ⟨rfl,hp6,hf6⟩;have HP6:=Lib.hid hp6;have HF6:=Lib.hid (HXN.out.trans hf6);clear hp6 hf6;(go_wp2_with fail);refine hK.out _ _ ?_;clear hK K'
              go_wp2_with fail
              go_roundw
              case rel=>exact ⟨n+1,by omega,by go_num,HP6.out,HF6.out⟩
              case measure=>simp [intOf];omega
            · obtain rfl:n=(qG f.blocks (q:Int)).length:=by omega
              have HP7:Hid (P (nmKp f (f.blocks.take q) 0++nmPs f q (kb.phis.take (j+1))) wr):=Lib.hid (by
                have h:=HPN.out;rw [List.take_of_length_le (Nat.le_refl _),List.append_assoc,← nmPs_succ HPD.out] at h
                exact h)
              have HX7:=Lib.hid hx3;clear hp hx hx3 hx2 hxw hxE;go_wp2_with fail
              go_roundw
              case rel=>exact ⟨j+1,by omega,by go_num,HP7.out,HX7.out⟩
              case measure=>simp [intOf];omega
        · obtain rfl:j=kb.phis.length:=by omega
          have HP8:Hid (P ((nmKp f (f.blocks.take q) 0++nmPs f q kb.phis)++nmIp q (kb.ins.take 0)) wr):=Lib.hid (by
            have h:=HPJ.out;rw [List.take_of_length_le (Nat.le_refl _)] at h;rw [List.take_zero];show P (_++[]) wr
            rw [List.append_nil];exact h)
          have d1:=hxC _ _ HD3.out.1 HCW.out;obtain ⟨u28,rfl⟩:∃ u,u=wr:=⟨_,rfl⟩;clear hp hx hx2 hxw hxC;(go_wp2_with fail);clear d1
          go_loopw [57] (fun i wz=>∃ j:Nat,j≤kb.ins.length∧i=.int .i64 j∧P ((nmKp f (f.blocks.take q) 0++nmPs f q kb.phis)++nmIp q (kb.ins.take j)) wz∧FrX X w3 wz) (fun i _=>kb.ins.length - (intOf i).toNat)
          case atStart=>exact ⟨0,Nat.zero_le _,rfl,HP8.out,HXJ.out⟩
          case round =>
            obtain ⟨j,hj,rfl,hp,hx⟩:=hrel;obtain ⟨hx2,hxw,hxC⟩:=HX3.out _ hx;have HPJ:=Lib.hid hp;have HXJ:=Lib.hid hx;have HXJ2:=Lib.hid hx2;have HXJW:=Lib.hid hxw
            by_cases hjt:j<kb.ins.length
            · obtain ⟨bp,op,xd,rfl,hxd,⟨t0,-⟩,⟨t1,-⟩,⟨Ag,cg,t2,sg⟩,⟨t3,-⟩,⟨t4,-⟩⟩:=HS1.out.at_ hjt;have hkj:=HK.out _ hxw;have t0:=hkj _ _ t0;have t1:=hkj _ _ t1;have t2:=hkj _ _ t2;have t3:=hkj _ _ t3;have t4:=hkj _ _ t4;have HXD:=Lib.hid hxd.out;have HSG:=Lib.hid sg
              have hgl:=sg.len;(have hj0:(0:Int)≤j:=by omega);(have hj1:(j:Int)<kb.ins.length:=by omega);clear hp hx hx2 hxw hxC hxd hkj sg;(go_upto_region 17 with fail);obtain ⟨w4,hw4,hs4,hk4,hbel4,hc4,-⟩:=named wr #[.int .i64 xd.op,.int .i64 xd.dst,.slice Ag xd.args.length cg,.int .i64 xd.imm,.int .i64 xd.fn] 53;rw [← hw4];obtain ⟨E,hE⟩:∃ E,E=wr.heap.size:=⟨_,rfl⟩;rw [← hE] at hc4 ⊢
              have x2:w4.cell? ⟨E,2,none⟩=some (.slice Ag xd.args.length cg):=hc4 2 _ rfl
              have HX4:Hid (∀ wz,FrX X w4 wz→FrX X w3 wz∧FrX X w wz):=Lib.hid (fun wz h=>by
                have h1:=(HXJ.out.trans (FrX.of_below hbel4)).trans h
                exact ⟨h1,(HX3.out _ h1).2.1⟩)
              have HP5:Hid (P (((nmKp f (f.blocks.take q) 0++nmPs f q kb.phis)++nmIp q (kb.ins.take j))++nmX q j (xd.args.take 0)) w4):=Lib.hid (by
                have h:=HV.out.keep _ _ _ HPJ.out hbel4;rw [List.take_zero];show P (_++[]) w4
                rw [List.append_nil];exact h)
              clear hw4 hs4 hk4 hbel4 hc4 hE t0 t1 t2 t3 t4;(go_wp2_with fail);clear x2
              go_loopw [65] (fun i wy=>∃ n:Nat,n≤xd.args.length∧i=.int .i64 n∧P (((nmKp f (f.blocks.take q) 0++nmPs f q kb.phis)++nmIp q (kb.ins.take j))++nmX q j (xd.args.take n)) wy∧FrX X w4 wy) (fun i _=>xd.args.length - (intOf i).toNat)
              case atStart=>exact ⟨0,Nat.zero_le _,rfl,HP5.out,FrX.refl _ _⟩
              case round =>
                obtain ⟨n,hn,rfl,hp,hx⟩:=hrel;obtain ⟨hx3,hxw⟩:=HX4.out _ hx;have HPN:=Lib.hid hp;have HXN:=Lib.hid hx;have HXNW:=Lib.hid hxw
                by_cases hnt:n<xd.args.length
                · obtain ⟨bg,og,ya,rfl,hya,t3,-⟩:=(SInts.keep (HK.out _ hxw) HSG.out).at_ hnt;rw [Nat.mul_one] at t3;(have hn0:(0:Int)≤n:=by omega);(have hn1:(n:Int)<xd.args.length:=by omega);have HYA:=Lib.hid hya.out;have HCL:=Lib.hid (HV.out.call _ ⟨ya,(q:Int),(j:Int)⟩ wr HPN.out HXNW.out (HQ.out _ (mem_nmL HKB.out (.inr (.inl (mem_nmI HXD.out (List.mem_of_getElem? hya.out)))))));clear hp hx hx3 hxw hya;(go_wp2_with fail);rw [HV.out.en,Oper.upon_enter]
                  refine HCL.out.mono ?_;rintro en w6 ⟨rfl,hp6,hf6⟩;(have HP6:Hid (P (((nmKp f (f.blocks.take q) 0++nmPs f q kb.phis)++nmIp q (kb.ins.take j))++nmX q j (xd.args.take (n+1))) w6):=Lib.hid (by rw [nmX_succ HYA.out,← List.append_assoc];exact hp6));have HF6:=Lib.hid (HXN.out.trans hf6);clear hp6 hf6 t3;go_wp2_with fail
                  go_roundw
                  case rel=>exact ⟨n+1,by omega,by go_num,HP6.out,HF6.out⟩
                  case measure=>simp [intOf];omega
                · obtain rfl:n=xd.args.length:=by omega
                  have HP7:Hid (P ((nmKp f (f.blocks.take q) 0++nmPs f q kb.phis)++nmIp q (kb.ins.take (j+1))) wr):=Lib.hid (by
                    have h:=HPN.out;rw [List.take_of_length_le (Nat.le_refl _),List.append_assoc,← nmI_succ HXD.out] at h
                    exact h)
                  have HX7:=Lib.hid hx3;clear hp hx hx3 hxw;go_wp2_with fail
                  go_roundw
                  case rel=>exact ⟨j+1,by omega,by go_num,HP7.out,HX7.out⟩
                  case measure=>simp [intOf];omega
            · (obtain rfl:j=kb.ins.length:=by omega);have d3:=hxC _ _ HD3.out.2 HCW.out;have HX9:=Lib.hid hx2
              have HPI:Hid (P ((nmKp f (f.blocks.take q) 0++nmPs f q kb.phis)++nmIp q kb.ins) wr):=Lib.hid (by
                have h:=HPJ.out
                rw [List.take_of_length_le (Nat.le_refl _)] at h;exact h)
              by_cases ht:0≤kb.term.arg
              · have HTT:Hid (nmT q kb=[⟨kb.term.arg,(q:Int),(kb.ins.length:Int)⟩]):=Lib.hid (if_pos ht);obtain ⟨f0,f1,f2,f3⟩:=HF4.out;have f0:=(HX.out _ hx2).2 _ _ f0 (HNX.out _ HAW.out.1);have f1:=(HX.out _ hx2).2 _ _ f1 (HNX.out _ HAW.out.1);have f2:=(HX.out _ hx2).2 _ _ f2 (HNX.out _ HAW.out.1);have f3:=(HX.out _ hx2).2 _ _ f3 (HNX.out _ HAW.out.1)
                have HEO:Hid (∀ W,Below wr.heap.size wr W→Calls Tryz.prog 119 #[.agg #[.int .i64 f.params,.int .i64 f.result,.slice Ar f.regs.length cr,.slice (some ⟨bt,ot,none⟩) f.blocks.length cb],.int .i64 (q:Int)] W fun e w'=>e=.returned (.agg #[.int .i64 (q:Int),.int .i64 (kb.ins.length:Int)])∧Below W.heap.size W w'):=Lib.hid (fun W hW =>
                  endOf_any f _ W (VFun.keep (fun a v h=>q6 hW _ _ (HK.out _ HXJW.out _ _ h)) HF.out) q kb HKB.out)
                have HCL:Hid (∀ W,Below wr.heap.size wr W→Calls Tryz.prog cl #[.int .i64 kb.term.arg,.agg #[.int .i64 (q:Int),.int .i64 (kb.ins.length:Int)],c1,c2,c3,c4] W fun en w'=>en=.returned (.tuple #[])∧P (nmKp f (f.blocks.take (q+1)) 0) w'∧FrX X wr w'):=Lib.hid (fun W hW=>by
                  (refine (HV.out.call _ ⟨kb.term.arg,(q:Int),(kb.ins.length:Int)⟩ W (HV.out.keep _ _ _ HPI.out hW) (HXJW.out.trans (FrX.of_below hW)) (HQ.out _ (mem_nmL HKB.out (.inr (.inr (by rw [HTT.out];exact List.mem_singleton.2 rfl)))))).mono ?_);rintro en w' ⟨h1,h2,h3⟩;refine ⟨h1,?_,(FrX.of_below hW).trans h3⟩;rw [nmK_succ HKB.out,HTT.out];simp only [List.append_assoc] at h2 ⊢
                  exact h2)
                have HS:Hid (∀ W,Below wr.heap.size wr W→W.cell? ⟨C,3,none⟩=some (.int .i64 kb.term.arg)∧W.cell? ⟨A,0,none⟩=some (.int .i64 f.params)∧W.cell? ⟨A,1,none⟩=some (.int .i64 f.result)∧W.cell? ⟨A,2,none⟩=some (.slice Ar f.regs.length cr)∧W.cell? ⟨A,3,none⟩=some (.slice (some ⟨bt,ot,none⟩) f.blocks.length cb)):=Lib.hid (fun W hW =>
                  ⟨q6 hW _ _ d3,q6 hW _ _ f0,q6 hW _ _ f1,q6 hW _ _ f2,q6 hW _ _ f3⟩)
                clear hp hx hx2 hxw hxC;(go_upto_region 24 with fail);have hS0:=HS.out wr.drew (Below.refl _ wr).drew;clear d3 f0 f1 f2 f3;refine qI (L:=7) (S:=fun W:World=>W.cell? ⟨C,3,none⟩=some (.int .i64 kb.term.arg)∧W.cell? ⟨A,0,none⟩=some (.int .i64 f.params)∧W.cell? ⟨A,1,none⟩=some (.int .i64 f.result)∧W.cell? ⟨A,2,none⟩=some (.slice Ar f.regs.length cr)∧W.cell? ⟨A,3,none⟩=some (.slice (some ⟨bt,ot,none⟩) f.blocks.length cb)) (by kernel_rfl) (by rfl) (by kernel_rfl) (by kernel_rfl) ?_;change wpAnyH _ _ _ _ _ _ _ _ (World.drew _);refine tk 0 81 hS0 ?_;simp only [Act.put,aS,List.set_cons_zero,List.set_cons_succ];refine tk 1 82 hS0 ?_
                simp only [Act.put,aS,List.set_cons_zero,List.set_cons_succ];refine tk 2 83 hS0 ?_;simp only [Act.put,aS,List.set_cons_zero,List.set_cons_succ];refine tk 3 84 hS0 ?_;simp only [Act.put,aS,List.set_cons_zero,List.set_cons_succ];refine tk 4 85 hS0 ?_;simp only [Act.put,aS,List.set_cons_zero,List.set_cons_succ];refine tk 5 86 hS0 ?_;simp only [Act.put,aS,List.set_cons_zero,List.set_cons_succ]
                refine oneH (i:=6) (by kernel_rfl) (fun o ho K' hK=>?_);(simp only [List.getElem?_toArray,List.getElem?_cons_zero,List.getElem?_cons_succ,Option.some.injEq] at ho;subst ho);(go_simp);refine (HEO.out wr.drew (Below.refl _ wr).drew).mono ?_;rintro en w5 ⟨rfl,hb5⟩;have hb5':Below wr.heap.size wr w5:=(Below.refl _ wr).drew.trans hb5;have HB5:=Lib.hid hb5';(go_wp2_with fail);refine hK.out _ _ (HS.out w5 hb5') ?_
                clear hK K' hS0 hb5 hb5';(try simp only [Act.put,aS,List.set_cons_zero,List.set_cons_succ]);refine wpAnyH_done (by kernel_rfl) ?_ _;refine lastH (by decide) (fun o ho K' hK=>?_);(simp only [List.getElem?_toArray,List.getElem?_cons_zero,List.getElem?_cons_succ,Option.some.injEq] at ho;subst ho);(go_simp);rw [HV.out.en,Oper.upon_enter];refine (HCL.out w5 HB5.out).mono ?_;rintro en w6 ⟨rfl,hp6,hf6⟩
                have HP6:=Lib.hid hp6;have HF6:=Lib.hid (HX9.out.trans hf6);clear hp6 hf6;(go_wp2_with fail);refine hK.out _ _ ?_;clear hK K';go_wp2_with fail
                go_roundw
                case rel=>exact ⟨q+1,by omega,by go_num,HP6.out,HF6.out⟩
                case measure=>simp [intOf];omega
              · have HTT:Hid (nmT q kb=[]):=Lib.hid (if_neg ht)
                have HP6:Hid (P (nmKp f (f.blocks.take (q+1)) 0) wr):=Lib.hid (by
                  have h:=HPI.out;rw [nmK_succ HKB.out,HTT.out,List.append_nil,← List.append_assoc]
                  exact h)
                clear hp hx hx2 hxw hxC;go_wp2_with fail
                go_roundw
                case rel=>exact ⟨q+1,by omega,by go_num,HP6.out,HX9.out⟩
                case measure=>simp [intOf];omega
    · obtain rfl:q=f.blocks.length:=by omega
      have HE:Hid (P (nmL f) wr):=Lib.hid (by
        have h:=HPQ.out;rw [List.take_of_length_le (Nat.le_refl _)] at h
        exact h)
      (go_wp2_with fail);(go_end0);exact ⟨rfl,HE.out,HXW.out⟩
def Fz (w:World) (b:Nat):Prop:=∃ cs t,w.heap[b]?=some (.cells cs t (0,0))
theorem Fz.lt {w:World} {b:Nat} (h:Fz w b):b<w.heap.size:=by obtain ⟨_,_,h⟩:=h;exact qO h
theorem Fz.same {w w':World} {b:Nat} (h:Fz w b) (e:w'.heap[b]?=w.heap[b]?):Fz w' b:=by obtain ⟨cs,t,h⟩:=h;exact ⟨cs,t,e.trans h⟩
theorem Fz.set {w:World} {b:Nat} (h:Fz w b) (g i:Nat) (v:Value):Fz (w.setCell ⟨g,i,none⟩ v) b:=by
  obtain ⟨cs,t,h⟩:=h
  by_cases e:b=g
  · subst e;exact ⟨_,t,qF v h⟩
  · exact ⟨cs,t,(Below.heap_setCell _ _ _ _ e).trans h⟩
theorem Fz.own {w:World} {base n size g:Nat} {e:TypeId} {v:Value} {xs:List Value} (h:w.ownsRow base e size v n xs) (hg:v.ownBlock=some g):Fz w g:=by
  rcases h.2 with ⟨rfl,_⟩ | ⟨g',cap,cur,rfl,_,hh,_⟩
  · cases hg
  · obtain rfl:g'=g:=Option.some.inj hg;exact ⟨_,_,hh⟩
def BG (base:Nat) (w:World) (b:Nat):Prop:=base≤b∧Fz w b
def BF (base:Nat) (u:Value) (w:World) (b:Nat):Prop:=BG base w b∧some b≠u.ownBlock
theorem BG.below {base base':Nat} {w w':World} (h:Below w.heap.size w w') (hb:base'≤base) (b:Nat) (hB:BG base w b):BG base' w' b:=⟨Nat.le_trans hb hB.1,hB.2.same (h.block b hB.2.lt)⟩
def extL (lab:Nat→Nat) (n t:Nat):Nat→Nat:=fun k=>if k<n then lab k else t
theorem extL_old {lab:Nat→Nat} {n t k:Nat} (h:k<n):extL lab n t k=lab k:=if_pos h
theorem extL_new {lab:Nat→Nat} {n t k:Nat} (h:n≤k):extL lab n t k=t:=if_neg (by omega)
def Chg (w w':World) (lab:Nat→Nat) (S:Nat→Prop):Prop:=FrX (fun k=>S (lab k)) w w'
structure LRw (w:World) (K:Nat) (lab:Nat→Nat) (t:Nat) (ty:TypeId) (sz:Nat) (v:Value) (n:Nat) (xs:List Value):Prop where
  own:w.ownsRow K ty sz v n xs
  lb:∀ g,v.ownBlock=some g→lab g=t
section
variable {w w':World} {K t t2 n n' j s sz g cap:Nat} {lab:Nat→Nat} {S:Nat→Prop} {ty:TypeId} {v v' u:Value} {xs xs':List Value}
theorem LRw.nil (w:World) (K:Nat) (lab:Nat→Nat) (t:Nat) (ty:TypeId) (sz:Nat):LRw w K lab t ty sz (.slice none 0 0) 0 []:=⟨World.ownsRow_nil _ _ _ _,fun g hg=>by cases hg⟩
theorem LRw.put (h:LRw w K lab t ty sz (.slice (some ⟨g,0,none⟩) n cap) n xs) (i:Nat) (u:Value):LRw (w.setCell ⟨g,i,none⟩ u) K lab t ty sz (.slice (some ⟨g,0,none⟩) n cap) n (xs.set i u) :=
  ⟨(h.own.stored i u).1,h.lb⟩
theorem Chg.mono {S':Nat→Prop} (h:Chg w w' lab S) (hs:∀ t,S t→S' t):Chg w w' lab S':=FrX.mono h fun k _ hk=>hs _ hk
theorem Chg.trans {w'':World} (h:Chg w w' lab S) (k:Chg w' w'' lab S):Chg w w'' lab S:=FrX.trans h k
theorem Chg.set (S:Nat→Prop) (hg:S (lab g)) (i:Nat) (u:Value):Chg w (w.setCell ⟨g,i,none⟩ u) lab S:=(FrX.refl _ _).setCell (p:=⟨g,i,none⟩) (.inl hg) u
theorem LRw.cell (h:LRw w K lab t ty sz (.slice (some ⟨g,0,none⟩) n cap) n xs) {i:Nat} {u:Value} (hu:xs[i]?=some u) (hi:i<n * sz):w.cell? ⟨g,i,none⟩=some u:=by rw [h.own.cellAt i hi];exact hu
theorem LRw.form (h:LRw w K lab t ty sz v n xs) (hn:0<n):∃ g cap,v=.slice (some ⟨g,0,none⟩) n cap:=by obtain ⟨g,cap,e,-,-⟩:=h.own.form hn;exact ⟨g,cap,e⟩
end
def RdV (w:World) (lab:Nat→Nat) (v:Value) (l:List Int):Prop:=VS w 1 (RIntB fun g=>lab g=0∧Fz w g) v l
theorem RdV.plain {w:World} {lab:Nat→Nat} {v:Value} {l:List Int} (h:RdV w lab v l):VS w 1 RInt v l:=by
  obtain ⟨A,c,e,h1⟩:=h;exact ⟨A,c,e,SL.imp (fun b o x hx=>hx.2) h1⟩
section
variable {α:Type} {f:α→List Value} {sz:Nat}
end
end Go.Proofs.YtfoggldjjnabcaaGreatDoor

namespace Go.Proofs.YtfoggldjjnabcaaGreatDoor
open Go.ChangeShapes Go.WideShapes Go.RowKit Go.Deep
set_option linter.unusedVariables false
section
variable {P:Program} {ops:Array Oper} {Q:Exit→Act→World→Prop} {md:Region.Mode}
def openN (l:Array Bool):Nat:=l.toList.countP fun b=>!b
theorem openN_set {l:Array Bool} {i:Nat} (hi:i<l.size) (h:l.getD i true=false):openN (l.setIfInBounds i true)+1=openN l:=by
  unfold openN;rw [Array.toList_setIfInBounds];(have hl:i<l.toList.length:=by simpa using hi);(have h0:l.toList[i]=false:=by simpa [Array.getD,hi] using h);have:=List.countP_set (p:=fun b=>!b) (l:=l.toList) (i:=i) (a:=true) hl;(have e1:(if (!l.toList[i])=true then 1 else 0)=1:=by rw [h0];rfl);have e2:(if (!true)=true then 1 else 0)=0:=rfl;rw [e1,e2] at this;rw [this]
  (have hp:0<l.toList.countP fun b=>!b:=List.countP_pos_iff.2 ⟨false,by rw [← h0];exact List.getElem_mem hl,rfl⟩);omega
theorem wpAny_inv {I:Array Bool→Act→World→Prop} (hI:∀ l a w,I l a w→l.size=ops.size)
    (h:∀ l a w,I l a w→(Region.ready md ops l=[]→Q .normal a w)∧∀ i∈Region.ready md ops l,wpOp P ops Q i (fun a' w'=>I (l.setIfInBounds i true) a' w') a w) :
    ∀ fuel l a w,I l a w→openN l≤fuel→wpAny P md ops Q fuel l a w
  | 0,l,a,w,hi,hf=>by
    have hr:Region.ready md ops l=[]:=by
      rw [List.eq_nil_iff_forall_not_mem];intro i hm;obtain ⟨h1,o,ho,-⟩:=mem_ready.1 hm;(have hlt:i<l.size:=by rw [hI _ _ _ hi];exact (Array.getElem?_eq_some_iff.1 ho).1);have:=openN_set hlt h1;omega
    exact ⟨hr,(h l a w hi).1 hr⟩
  | fuel+1,l,a,w,hi,hf=>by
    refine ⟨(h l a w hi).1,fun i hm=>?_⟩;obtain ⟨h1,o,ho,-⟩:=mem_ready.1 hm;(have hlt:i<l.size:=by rw [hI _ _ _ hi];exact (Array.getElem?_eq_some_iff.1 ho).1);have:=openN_set hlt h1;exact wpOp_mono (fun a' w' h'=>wpAny_inv hI h fuel _ a' w' h' (by omega)) ((h l a w hi).2 i hm)
theorem wp_region_inv {id:Nat} {a:Act} {w:World} (I:Array Bool→Act→World→Prop) (hm:P.follows .mixedOrders=true) (hI:∀ l a w,I l a w→l.size=ops.size)
    (h:∀ l a w,I l a w→(Region.ready .any ops l=[]→Q .normal a w)∧∀ i∈Region.ready .any ops l,wpOp P ops Q i (fun a' w'=>I (l.setIfInBounds i true) a' w') a w)
    (h0:I (Array.replicate ops.size false) a w.drew):(Code.region id ops true).wp P Q a w:=by
  refine wp_region_any hm (wpAny_inv hI h _ _ _ _ h0 ?_);unfold openN;refine Nat.le_trans (List.countP_le_length) ?_;simp
theorem wpOp_one {i:Nat} {K:Act→World→Prop} {a:Act} {w:World}
    (h:∀ o,ops[i]?=some o→∀ K':Act→World→Prop,RowKit.Hid (∀ a' w',K a' w'→K' a' w')→if Region.wanted o (yielded ops a.tmps)=true then Oper.wp P o a w K' Q else K' (a.put o.dst undef) w) (hlt:i<ops.size):wpOp P ops Q i K a w:=by
  unfold wpOp;rw [Array.getElem?_eq_getElem hlt];have h1:=h ops[i] (Array.getElem?_eq_getElem hlt) K (Lib.hid fun _ _ h=>h);dsimp only
  split
  · rename_i hw;rw [if_pos hw] at h1;exact .inl h1
  · rename_i hw;rw [if_neg hw] at h1;exact h1
theorem qE {l:Array Bool} {i j:Nat} (h:(l.setIfInBounds i true)[j]?=some true) (hij:i≠j):l[j]?=some true:=by
  rw [Array.getElem?_setIfInBounds,if_neg hij] at h;exact h
end
end Go.Proofs.YtfoggldjjnabcaaGreatDoor
