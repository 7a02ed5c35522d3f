/- The program's proper.Form: what it tells. -/
import Derived.Test.YtfoggldjjnabcaaGreatDoorLimJ
import Derived.Test.YtfoggldjjnabcaaGreatDoorSsMJ
import Derived.Test.YtfoggldjjnabcaaGreatDoorDmFJ
import Derived.BigQuiet
import Derived.LaidEql
import Derived.Test.YtfoggldjjnabcaaGreatDoorInfBJ
namespace Go.Proofs.YtfoggldjjnabcaaGreatDoor
open Go.ChangeShapes Go.WideShapes Go.RowKit Go.Deep
set_option linter.unusedVariables false
set_option linter.unusedSimpArgs false
def againB (f:FunD) (j:Nat):Bool:=decide (2≤cntM (evL f) j)
def formE (f:FunD):Int × Int :=
  if 0≤qJ f.blocks.length (fun j=>qv f.blocks j == false) then (6,-1) else
  if 0≤qJ f.regs.length (fun j=>againB f j == true) then (7,qJ f.regs.length (fun j=>againB f j == true)) else
  if 0≤qJ f.regs.length (fun j=>soonB f j == true) then (4,qJ f.regs.length (fun j=>soonB f j == true)) else (0,-1)
noncomputable def qe (m:List FunD) (a:Int):Int × Int :=
  if (modE m).1≠0 then modE m else if 0≤a∧a<m.length then formE (m.getD a.toNat default) else (1,-1)
theorem nmL_ok {m:List FunD} {f:FunD} (h:FunOk m f) (hin:∀ b∈f.blocks,(∀ x∈b.ins,∀ a∈x.args,InR f.regs.length a)∧(b.term.arg=-1∨InR f.regs.length b.term.arg)) :
    ∀ e∈nmL f,(0≤e.r∧e.r<f.regs.length)∧0≤e.b∧e.b<f.blocks.length:=by
  have key:∀ (l:List BlkD) (i:Nat),(∀ k b,l[k]?=some b→f.blocks[i+k]?=some b)→∀ e∈nmKp f l i,(0≤e.r∧e.r<f.regs.length)∧0≤e.b∧e.b<f.blocks.length:=by
    intro l
    induction l with
    | nil=>intro i _ e he;cases he
    | cons b l ih =>
      intro i hl e he;(have hb:f.blocks[i]?=some b:=by have:=hl 0 b rfl;simpa using this);have hil:i<f.blocks.length:=(List.getElem?_eq_some_iff.1 hb).1;have hbm:=List.mem_of_getElem? hb;rcases List.mem_append.1 he with he | he
      · rcases List.mem_append.1 he with he | he
        · rcases List.mem_append.1 he with he | he
          · obtain ⟨p,hp,he⟩:=List.mem_flatMap.1 he;obtain ⟨n,hn,rfl⟩:=List.mem_mapIdx.1 he;obtain ⟨hlen,-,hargs⟩:=h.phis i b hb p hp;(have hn2:n<p.args.length:=by rw [hlen];exact hn);have ha:=hargs _ (List.getElem_mem hn2);have hq:=aheadK_mem f.blocks 0 (i:Int) _ (List.getElem_mem hn);refine ⟨?_,?_⟩
            · show 0≤p.args.getD n 0∧p.args.getD n 0<f.regs.length;rw [List.getD_eq_getElem?_getD,List.getElem?_eq_getElem hn2];exact ha
            · refine ⟨by have:=hq.1;simpa using this,by have:=hq.2;simpa using this⟩
          · obtain ⟨l2,hl2,he⟩:=List.mem_flatten.1 he;obtain ⟨j,hj,rfl⟩:=List.mem_mapIdx.1 hl2;obtain ⟨a,ha,rfl⟩:=List.mem_map.1 he;exact ⟨(hin b hbm).1 _ (List.getElem_mem hj) a ha,by show (0:Int)≤(i:Int)∧(i:Int)<f.blocks.length;omega⟩
        · unfold nmT at he
          split at he
          · rename_i h0;(rw [List.mem_singleton] at he;subst he);rcases (hin b hbm).2 with h1 | h1
            · omega
            · exact ⟨h1,by show (0:Int)≤(i:Int)∧(i:Int)<f.blocks.length;omega⟩
          · cases he
      · refine ih (i+1) (fun k b' hk=>?_) e he;have:=hl (k+1) b' (by simpa using hk);rw [show i+1+k=i+(k+1) by omega];exact this
  exact key f.blocks 0 (fun k b hk=>by rw [Nat.zero_add];exact hk)
theorem mkB_lt (f:FunD):∀ e∈mkL f,e.b<f.blocks.length:=by
  have key:∀ (l:List BlkD) (i n:Nat),i+l.length≤n→∀ e∈mkBs l i,e.b<n:=by
    intro l
    induction l with
    | nil=>intro i n _ e he;cases he
    | cons b l ih =>
      intro i n hn e he;rw [List.length_cons] at hn;rcases List.mem_append.1 he with he | he
      · rcases List.mem_append.1 he with he | he
        · obtain ⟨p,-,rfl⟩:=List.mem_map.1 he;show (i:Int)<n;omega
        · obtain ⟨j,hj,rfl⟩:=List.mem_mapIdx.1 he;show (i:Int)<n;omega
      · exact ih (i+1) n (by omega) e he
  intro e he;rcases List.mem_append.1 he with he | he
  · obtain ⟨r,-,rfl⟩:=List.mem_map.1 he;show (-1:Int)<_;omega
  · exact key f.blocks 0 _ (by omega) e he
theorem fst_lt (f:FunD) (r:Nat):(fstM (evL f) r).b<f.blocks.length:=by
  unfold fstM;cases h:(evL f).find? fun e=>decide (e.r=(r:Int)) with
  | none=>show (-1:Int)<_;omega
  | some e=>exact mkB_lt f e (List.mem_filter.1 (List.mem_of_find?_eq_some h)).1
set_option maxRecDepth 100000 in
set_option maxHeartbeats 16000000 in
theorem form_any (OI:OfIns) (m:List FunD) (a:Int) (vm:Value) (w:World) (hm:VMod w vm m) (hsm:SmallM m) (hG:OfNone w) :
    Calls Tryz.prog 14 #[vm,.int .i64 a] w fun e w'=>(∃ v,e=.returned v∧ErrAt w' v (qe m a))∧Below w.heap.size w w':=by
  have hm0:=hm;obtain ⟨Am,cm,rfl,hms⟩:=hm;have hml:=hms.len;have HM:=Lib.hid hm0;have HMS:=Lib.hid hms;have HSM:=Lib.hid hsm;have HG:=Lib.hid hG;have HOI:=Lib.hid OI;clear hm0 hms hsm hG OI
  (go_enter Tryz.func14,Tryz.ntmps14);(go_upto_region 1 with fail);obtain ⟨w1,hw1,hs1,hk1,hbel1,hc1,-⟩:=named w #[.slice Am m.length cm] 24;rw [← hw1];obtain ⟨N,hN⟩:∃ N,N=w.heap.size:=⟨_,rfl⟩;rw [← hN] at hc1 ⊢;have c0:w1.cell? ⟨N,0,none⟩=some (.slice Am m.length cm):=hc1 0 _ rfl;have HB1:=Lib.hid hbel1;have HMO:=Lib.hid (module_any HOI.out m _ w1 (VMod.keep hk1 HM.out) (lim_of_small HSM.out))
  clear hw1 hs1 hk1 hbel1 hc1 hN;(go_wp2_with fail);refine HMO.out.mono ?_;rintro e w2 ⟨⟨ve,rfl,he⟩,hb2⟩;have c0:=q6 hb2 _ _ c0;have HB2:Hid (Below w.heap.size w w2):=Lib.hid (HB1.out.trans (hb2.mono HB1.out.size));have HER:=Lib.hid he;clear hb2 HMO he
  by_cases hp:(modE m).1=0
  · obtain rfl:=HER.out.nil hp;have HP:=Lib.hid hp;(have HFA:Hid (qe m a=if 0≤a∧a<m.length then formE (m.getD a.toNat default) else (1,-1)):=Lib.hid (by unfold qe;rw [if_neg (by simp [hp])]));clear hp
    by_cases ha:0≤a∧a<m.length
    · obtain ⟨n,rfl⟩:=Int.eq_ofNat_of_zero_le ha.1;(have hnl:n<m.length:=by omega);obtain ⟨bb,oo,f,rfl,hx,⟨h0,z0⟩,⟨h1,z1⟩,⟨Ar,cr,h2,z2⟩,Ab,cb,h3,z3⟩:=(SFuns.keep (q6 HB2.out) HMS.out).at_ hnl;(have HFA2:Hid (qe m ((n:Nat):Int)=formE f):=Lib.hid (by rw [HFA.out,if_pos ha,Int.toNat_natCast,List.getD_eq_getElem?_getD,hx.out];rfl));have hfm:=List.mem_of_getElem? hx.out;have HFO:=Lib.hid ((proper_ok HP.out).2 f hfm);have hf0:funE m f=0:=(proper_iff.1 HP.out).2 f hfm;obtain ⟨-,hbk⟩:=funE_zero.1 hf0;have HIN:Hid (∀ b∈f.blocks,(∀ x∈b.ins,∀ a∈x.args,InR f.regs.length a)∧(b.term.arg=-1∨InR f.regs.length b.term.arg)):=Lib.hid (fun b hb=>⟨fun x hx=>(ins_dst ((blockE_zero.1 (hbk b hb)).2.1 x hx)).1,term_arg (blockE_zero.1 (hbk b hb)).2.2⟩)
      have hV2:VFun w2 (.agg #[.int .i64 f.params,.int .i64 f.result,.slice Ar f.regs.length cr,.slice Ab f.blocks.length cb]) f:=⟨Ar,cr,Ab,cb,rfl,z2,z3,z0,z1⟩;have HV2:=Lib.hid hV2;(have hnb:f.blocks.length≤1000:=by have:=HFO.out.nb;omega);(have hnr:f.regs.length≤300:=by have:=HFO.out.nr;omega);have hfx:∀ W,Below w2.heap.size w2 W→W.cell? ⟨N,0,none⟩=some (.slice (some ⟨bb,oo,none⟩) m.length cm)∧W.cell? ⟨bb,oo+n * 4,none⟩=some (.int .i64 f.params)∧W.cell? ⟨bb,oo+n * 4+1,none⟩=some (.int .i64 f.result)∧W.cell? ⟨bb,oo+n * 4+2,none⟩=some (.slice Ar f.regs.length cr)∧W.cell? ⟨bb,oo+n * 4+3,none⟩=some (.slice Ab f.blocks.length cb):=fun W hW =>
        ⟨q6 hW _ _ c0,q6 hW _ _ h0,q6 hW _ _ h1,q6 hW _ _ h2,q6 hW _ _ h3⟩
      have HFX:=Lib.hid hfx;(have hn0:(0:Int)≤n:=by omega);(have hn1:(n:Int)<m.length:=by omega);clear z0 z1 z2 z3 hx hfm hf0 hbk hV2 hfx ha hnl;have HRE:=Lib.hid (reached_any f _ w2 HV2.out hnb);(go_wp2_with fail);refine HRE.out.mono ?_;rintro e w3 ⟨⟨HR,rfl,hHR,hrow⟩,hb3⟩;obtain ⟨c0,h0,h1,h2,h3⟩:=HFX.out w3 hb3
      have HB3:=Lib.hid hb3;have HCO:=Lib.hid (containsB_any f.blocks.length HR f.blocks.length (fun j=>qv f.blocks j) false w3 hrow (by omega));clear hb3 hrow hHR HRE;(go_wp2_with fail);refine HCO.out.mono ?_;rintro e w3' ⟨rfl,rfl⟩
      by_cases hun:0≤qJ f.blocks.length (fun j=>qv f.blocks j == false)
      · (have HE:Hid (formE f=(6,-1)):=Lib.hid (by unfold formE;rw [if_pos hun]));generalize qJ f.blocks.length (fun j=>qv f.blocks j == false)=q1 at *;have hd1:decide (0≤q1)=true:=decide_eq_true hun;clear c0 h0 h1 h2 h3 hun;(go_wp2_with fail);(go_ret);exact ⟨⟨_,rfl,by rw [HFA2.out,HE.out];exact .inr (.inl ⟨by show (6:Int)≠0;decide,rfl,rfl⟩)⟩,HB2.out.trans (HB3.out.mono HB2.out.size)⟩
      have HUN:=Lib.hid hun;obtain ⟨q1,hq1⟩:∃ q1,q1=qJ f.blocks.length (fun j=>qv f.blocks j == false):=⟨_,rfl⟩;rw [← hq1] at hun ⊢;have hd1:decide (0≤q1)=false:=decide_eq_false hun;have HV3:=Lib.hid (VFun.keep (q6 HB3.out) HV2.out);have HW3:Hid (Below w.heap.size w w3'):=Lib.hid (HB2.out.trans (HB3.out.mono HB2.out.size));have HMA:=Lib.hid (madeAgain_any f _ w3' HV3.out hnr (HG.out.keep (q6 HW3.out)));clear hun hq1 HCO;go_wp2_with fail
      refine HMA.out.mono ?_;rintro e w4 ⟨⟨GA,rfl,hGA,hrow⟩,hb4⟩;have HB4:Hid (Below w2.heap.size w2 w4):=Lib.hid (HB3.out.trans (hb4.mono HB3.out.size));obtain ⟨c0,h0,h1,h2,h3⟩:=HFX.out w4 HB4.out;have HIX:=Lib.hid (indexB_any f.regs.length GA f.regs.length (fun j=>againB f j) true w4 hrow (by omega));clear hb4 hrow hGA HMA;(go_wp2_with fail);refine HIX.out.mono ?_;rintro e w4' ⟨rfl,rfl⟩
      by_cases hag:0≤qJ f.regs.length (fun j=>againB f j == true)
      · (have HE:Hid (formE f=(7,qJ f.regs.length (fun j=>againB f j == true))):=Lib.hid (by unfold formE;rw [if_neg (by have:=HUN.out;omega),if_pos hag]));generalize qJ f.regs.length (fun j=>againB f j == true)=q2 at *;have hd2:decide (0≤q2)=true:=decide_eq_true hag;have HAG:=Lib.hid hag;clear c0 h0 h1 h2 h3;(go_wp2_with fail);(go_ret);exact ⟨⟨_,rfl,by rw [HFA2.out,HE.out];exact .inr (.inr ⟨by show (7:Int)≠0;decide,HAG.out,w4'.heap.size,rfl,by simp,by simp⟩)⟩,(HB2.out.trans (HB4.out.mono HB2.out.size)).alloc (HB2.out.trans (HB4.out.mono HB2.out.size)).size _⟩
      have HAG:=Lib.hid hag;obtain ⟨q2,hq2⟩:∃ q2,q2=qJ f.regs.length (fun j=>againB f j == true):=⟨_,rfl⟩;rw [← hq2] at hag ⊢;have hd2:decide (0≤q2)=false:=decide_eq_false hag;have HV4:=Lib.hid (VFun.keep (q6 HB4.out) HV2.out);have HW4:Hid (Below w.heap.size w w4'):=Lib.hid (HB2.out.trans (HB4.out.mono HB2.out.size));have HSO:=Lib.hid (namedTooSoon_any f _ w4' HV4.out hnr hnb (HG.out.keep (q6 HW4.out)) (fun i b hb p hp=>(HFO.out.phis i b hb p hp).1) (nmL_ok HFO.out HIN.out) (fst_lt f));clear hq2 HIX;go_wp2_with fail
      refine HSO.out.mono ?_;rintro e w5 ⟨⟨GS,rfl,hGS,hrow⟩,hb5⟩;have HB5:Hid (Below w2.heap.size w2 w5):=Lib.hid (HB4.out.trans (hb5.mono HB4.out.size));have HIX:=Lib.hid (indexB_any f.regs.length GS f.regs.length (fun j=>soonB f j) true w5 hrow (by omega));clear hb5 hrow hGS HSO c0 h0 h1 h2 h3;(go_wp2_with fail);refine HIX.out.mono ?_;rintro e w5' ⟨rfl,rfl⟩;have HW5:Hid (Below w.heap.size w w5'):=Lib.hid (HB2.out.trans (HB5.out.mono HB2.out.size))
      by_cases hso:0≤qJ f.regs.length (fun j=>soonB f j == true)
      · (have HE:Hid (formE f=(4,qJ f.regs.length (fun j=>soonB f j == true))):=Lib.hid (by unfold formE;rw [if_neg (by have:=HUN.out;omega),if_neg (by have:=HAG.out;omega),if_pos hso]));generalize qJ f.regs.length (fun j=>soonB f j == true)=q3 at *;have hd3:decide (0≤q3)=true:=decide_eq_true hso;have HSS:=Lib.hid hso;(go_wp2_with fail);(go_ret);exact ⟨⟨_,rfl,by rw [HFA2.out,HE.out];exact .inr (.inr ⟨by show (4:Int)≠0;decide,HSS.out,w5'.heap.size,rfl,by simp,by simp⟩)⟩,HW5.out.alloc HW5.out.size _⟩
      · (have HE:Hid (formE f=(0,-1)):=Lib.hid (by unfold formE;rw [if_neg (by have:=HUN.out;omega),if_neg (by have:=HAG.out;omega),if_neg hso]));generalize qJ f.regs.length (fun j=>soonB f j == true)=q3 at *;have hd3:decide (0≤q3)=false:=decide_eq_false hso;(go_wp2_with fail);(go_ret);exact ⟨⟨_,rfl,by rw [HFA2.out,HE.out];exact .inl ⟨rfl,rfl⟩⟩,HW5.out⟩
    · have HFA2:Hid (qe m a=(1,-1)):=Lib.hid (HFA.out.trans (if_neg ha))
      by_cases ha0:a<0
      · have hd:decide (a<0)=true:=decide_eq_true ha0;clear ha;(go_wp2_with fail);(go_ret);exact ⟨⟨_,rfl,by rw [HFA2.out];exact .inr (.inl ⟨by show (1:Int)≠0;decide,rfl,rfl⟩)⟩,HB2.out⟩
      · (have ha1:(m.length:Int)≤a:=by omega);have hd:decide (a<0)=false:=decide_eq_false ha0;clear ha;(go_wp2_with fail);(go_ret);exact ⟨⟨_,rfl,by rw [HFA2.out];exact .inr (.inl ⟨by show (1:Int)≠0;decide,rfl,rfl⟩)⟩,HB2.out⟩
  · obtain ⟨t,x,rfl⟩:=HER.out.iface hp;have HFA:Hid (qe m a=modE m):=Lib.hid (if_pos hp);clear hp;(go_wp2_with fail);(go_ret);exact ⟨⟨_,rfl,by rw [HFA.out];exact HER.out⟩,HB2.out⟩
end Go.Proofs.YtfoggldjjnabcaaGreatDoor

namespace Go.Proofs.YtfoggldjjnabcaaGreatDoor
section
variable {P:Program} (w:World)
theorem run_equalIn_iface_int (d:Nat) {ti tn:TypeId} {ms:Array (String × TypeId)} {i:TypeInfo} {k:IntKind} (a b:Int)
    (hi:P.underlying ti=some (.interface ms)) (hn:P.underlying tn=some (.int k)) (hinfo:P.info? tn=some i) (hcomp:i.comparable=true) :
    (Op.equalIn (d+2) ti (.iface tn (.int k a)) (.iface tn (.int k b))).run P w=.ok (a == b) w:=by
  simp [Op.equalIn,run_underlying hi,run_underlying hn,typeInfo,hinfo,hcomp]
theorem run_eql_iface_int {ti tn:TypeId} {ms:Array (String × TypeId)} {i:TypeInfo} {k:IntKind} (a b:Int)
    (hi:P.underlying ti=some (.interface ms)) (hn:P.underlying tn=some (.int k)) (hinfo:P.info? tn=some i) (hcomp:i.comparable=true) :
    (binOp .eql ti (.iface tn (.int k a)) (.iface tn (.int k b))).run P w=.ok (.bool (a == b)) w:=by
  simp only [binOp];simp [Op.equal,Op.maxDepth,run_equalIn_iface_int w 9998 a b hi hn hinfo hcomp]
end
end Go.Proofs.YtfoggldjjnabcaaGreatDoor

namespace Go.Proofs.YtfoggldjjnabcaaGreatDoor
open Go.ChangeShapes Go.WideShapes Go.RowKit Go.Deep
set_option linter.unusedVariables false
theorem codeInfo:Tryz.prog.info? 39=some ((Tryz.prog.info? 39).get!):=by kernel_rfl
theorem codeComp:((Tryz.prog.info? 39).get!).comparable=true:=by kernel_rfl
theorem eqlErr (x y:Int) (w:World):(binOp .eql 32 (.iface 39 (.int .i64 x)) (.iface 39 (.int .i64 y))).run Tryz.prog w=.ok (.bool (x == y)) w :=
  run_eql_iface_int w x y Tryz.underlying32 Tryz.underlying39 codeInfo codeComp
end Go.Proofs.YtfoggldjjnabcaaGreatDoor
