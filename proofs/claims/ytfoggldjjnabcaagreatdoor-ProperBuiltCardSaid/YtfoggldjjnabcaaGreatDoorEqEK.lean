/- The program's proper.Form: what it tells. -/
import Derived.Test.YtfoggldjjnabcaaGreatDoorModAK
import Derived.Test.YtfoggldjjnabcaaGreatDoorLimK
import Derived.Test.YtfoggldjjnabcaaGreatDoorPrpK
import Derived.Test.YtfoggldjjnabcaaGreatDoorPpBK
import Derived.BigQuiet
import Derived.LaidEql
set_option linter.unusedVariables false
set_option linter.unusedSimpArgs false
namespace Go.Proofs.YtfoggldjjnabcaaGreatDoor
open Go.ChangeShapes Go.WideShapes Go.RowKit Go.Deep
def yv (f:qB) (j:Nat):Bool:=decide (2<=vN (evL f) j)
def yK (f:qB):Int × Int :=
 if 0<=qs f.blocks.length (λ j=>qI f.blocks j == false) then (6,-1) else
 if 0<=qs f.regs.length (λ j=>yv f j == true) then (7,qs f.regs.length (λ j=>yv f j == true)) else
 if 0<=qs f.regs.length (λ j=>jf f j == true) then (4,qs f.regs.length (λ j=>jf f j == true)) else (0,-1)
noncomputable def yD (m:List qB) (a:Int):Int × Int :=
 if (jV m).1≠0 then jV m else if 0<=a/\a<m.length then yK (m.getD a.toNat default) else (1,-1)
theorem qAa {m:List qB} {f:qB} (h:q2H m f) (tx:∀ b∈f.blocks,(∀ x∈b.ins,∀ a∈x.args,InR f.regs.length a)/\(b.term.arg=-1\/InR f.regs.length b.term.arg)) :
  ∀ e∈nmL f,(0<=e.r/\e.r<f.regs.length)/\0<=e.b/\e.b<f.blocks.length:=by
 have key:∀ (l:List qE) (i:Nat),(∀ k b,l[k]?=some b->f.blocks[i+k]?=some b)->∀ e∈vt f l i,(0<=e.r/\e.r<f.regs.length)/\0<=e.b/\e.b<f.blocks.length:=by
  intro l
  induction l with
  | nil=>intro i _ e he;cases he
  | cons b l ih =>
   intro i hl e he;(have hb:f.blocks[i]?=some b:=by have:=hl 0 b rfl;simpa using this);have hil:i<f.blocks.length:=(Jk hb).1;have tC:=Jz hb;rcases List.mem_append.1 he with he | he
   ·rcases List.mem_append.1 he with he | he
    ·rcases List.mem_append.1 he with he | he
     ·obtain ⟨p,hp,he⟩:=List.mem_flatMap.1 he;obtain ⟨n,hn,rfl⟩:=List.mem_mapIdx.1 he;obtain ⟨wT,-,hargs⟩:=h.phis i b hb p hp;(have tr:n<p.args.length:=by rw [wT];exact hn);have ha:=hargs _ (List.getElem_mem tr);have hq:=qw f.blocks 0 (i:Int) _ (List.getElem_mem hn);refine ⟨?_,?_⟩
      ·show 0<=p.args.getD n 0/\p.args.getD n 0<f.regs.length;rw [JJ,Jq tr];exact ha
      ·refine ⟨by have:=hq.1;simpa using this,by have:=hq.2;simpa using this⟩
     ·obtain ⟨l2,tP,he⟩:=List.mem_flatten.1 he;obtain ⟨j,hj,rfl⟩:=List.mem_mapIdx.1 tP;obtain ⟨a,ha,rfl⟩:=List.mem_map.1 he;exact ⟨(tx b tC).1 _ (List.getElem_mem hj) a ha,by show (0:Int)<=(i:Int)/\(i:Int)<f.blocks.length;omega⟩
    ·unfold nmT at he
     split at he
     ·rename_i h0;(rw [List.mem_singleton] at he;subst he);rcases (tx b tC).2 with h1 | h1
      ·omega
      ·exact ⟨h1,by show (0:Int)<=(i:Int)/\(i:Int)<f.blocks.length;omega⟩
     ·cases he
   ·refine ih (i+1) (λ k b' hk=>?_) e he;have:=hl (k+1) b' (by simpa using hk);rw [show i+1+k=i+(k+1) by omega];exact this
 exact key f.blocks 0 (λ k b hk=>by rw [Nat.zero_add];exact hk)
theorem qAf (f:qB):∀ e∈mkL f,e.b<f.blocks.length:=by
 have key:∀ (l:List qE) (i n:Nat),i+l.length<=n->∀ e∈y9 l i,e.b<n:=by
  intro l
  induction l with
  | nil=>intro i n _ e he;cases he
  | cons b l ih =>
   intro i n hn e he;rw [List.length_cons] at hn;rcases List.mem_append.1 he with he | he
   ·rcases List.mem_append.1 he with he | he
    ·obtain ⟨p,-,rfl⟩:=List.mem_map.1 he;show (i:Int)<n;omega
    ·obtain ⟨j,hj,rfl⟩:=List.mem_mapIdx.1 he;show (i:Int)<n;omega
   ·exact ih (i+1) n (by omega) e he
 intro e he;rcases List.mem_append.1 he with he | he
 ·obtain ⟨r,-,rfl⟩:=List.mem_map.1 he;show (-1:Int)<_;omega
 ·exact key f.blocks 0 _ (by omega) e he
theorem qAm (f:qB) (r:Nat):(yy (evL f) r).b<f.blocks.length:=by
 unfold yy;cases h:(evL f).find? λ e=>decide (e.r=(r:Int)) with
 | none=>show (-1:Int)<_;omega
 | some e=>exact qAf f e (List.mem_filter.1 (List.mem_of_find?_eq_some h)).1
set_option maxRecDepth 100000 in
set_option maxHeartbeats 16000000 in
theorem q0x (OI:kQ) (m:List qB) (a:Int) (vm:Value) (w:World) (hm:VMod w vm m) (tg:yF m) (hG:OfNone w) :
  Calls Tryz.prog 14 #[vm,.int .i64 a] w λ e w'=>(∃ v,e=.returned v/\ErrAt w' v (yD m a))/\Below w.heap.size w w':=by
 have tu:=hm;obtain ⟨Am,cm,rfl,wR⟩:=hm;have hml:=wR.len;have HM:=Jj tu;have sb:=Jj wR;have tY:=Jj tg;have HG:=Jj hG;have tZ:=Jj OI;clear tu wR tg hG OI
 (go_enter Tryz.func14,Tryz.ntmps14);(go_upto_region 1 with fail);obtain ⟨w1,tf,tO,tw,wk,wV,-⟩:=named w #[.slice Am m.length cm] 24;rw [<- tf];obtain ⟨N,hN⟩:∃ N,N=w.heap.size:=⟨_,rfl⟩;rw [<- hN] at wV ⊢;have c0:w1.cell? ⟨N,0,none⟩=some (.slice Am m.length cm):=wV 0 _ rfl;have tN:=Jj wk;have tJ:=Jj (xi tZ.out m _ w1 (VMod.keep tw HM.out) (jX tY.out))
 clear tf tO tw wk wV hN;(go_wp2_with fail);refine tJ.out.mono ?_;rintro e w2 ⟨⟨ve,rfl,he⟩,wY⟩;have c0:=q7 wY _ _ c0;have wh:Hid (Below w.heap.size w w2):=Jj (tN.out.trans (wY.mono tN.out.size));have td:=Jj he;clear wY tJ he
 by_cases hp:(jV m).1=0
 ·obtain rfl:=td.out.nil hp;have HP:=Jj hp;(have wO:Hid (yD m a=if 0<=a/\a<m.length then yK (m.getD a.toNat default) else (1,-1)):=Jj (by unfold yD;rw [if_neg (by simp [hp])]));clear hp
  by_cases ha:0<=a/\a<m.length
  ·obtain ⟨n,rfl⟩:=Int.eq_ofNat_of_zero_le ha.1;(have tp:n<m.length:=by omega);obtain ⟨bb,oo,f,rfl,hx,⟨h0,z0⟩,⟨h1,z1⟩,⟨Ar,cr,h2,z2⟩,Ab,cb,h3,z3⟩:=(SFuns.keep (q7 wh.out) sb.out).at_ tp;(have wj:Hid (yD m ((n:Nat):Int)=yK f):=Jj (by rw [wO.out,if_pos ha,Int.toNat_natCast,JJ,hx.out];rfl));have wU:=Jz hx.out;have wM:=Jj ((q1i HP.out).2 f wU);have tB:zh m f=0:=(proper_iff.1 HP.out).2 f wU;obtain ⟨-,wW⟩:=funE_zero.1 tB;have sc:Hid (∀ b∈f.blocks,(∀ x∈b.ins,∀ a∈x.args,InR f.regs.length a)/\(b.term.arg=-1\/InR f.regs.length b.term.arg)):=Jj (λ b hb=>⟨λ x hx=>(q2h ((blockE_zero.1 (wW b hb)).2.1 x hx)).1,q0X (blockE_zero.1 (wW b hb)).2.2⟩)
   have hV2:VFun w2 (.agg #[.int .i64 f.params,.int .i64 f.result,.slice Ar f.regs.length cr,.slice Ab f.blocks.length cb]) f:=⟨Ar,cr,Ab,cb,rfl,z2,z3,z0,z1⟩;have ta:=Jj hV2;(have tq:f.blocks.length<=1000:=by have:=wM.out.nb;omega);(have tm:f.regs.length<=300:=by have:=wM.out.nr;omega);have tz:∀ W,Below w2.heap.size w2 W->W.cell? ⟨N,0,none⟩=some (.slice (some ⟨bb,oo,none⟩) m.length cm)/\W.cell? ⟨bb,oo+n * 4,none⟩=some (.int .i64 f.params)/\W.cell? ⟨bb,oo+n * 4+1,none⟩=some (.int .i64 f.result)/\W.cell? ⟨bb,oo+n * 4+2,none⟩=some (.slice Ar f.regs.length cr)/\W.cell? ⟨bb,oo+n * 4+3,none⟩=some (.slice Ab f.blocks.length cb):=λ W hW =>
    ⟨q7 hW _ _ c0,q7 hW _ _ h0,q7 hW _ _ h1,q7 hW _ _ h2,q7 hW _ _ h3⟩
   have tL:=Jj tz;(have hn0:(0:Int)<=n:=by omega);(have hn1:(n:Int)<m.length:=by omega);clear z0 z1 z2 z3 hx wU tB wW hV2 tz ha tp;have tH:=Jj (j3 f _ w2 ta.out tq);(go_wp2_with fail);refine tH.out.mono ?_;rintro e w3 ⟨⟨HR,rfl,hHR,wg⟩,wX⟩;obtain ⟨c0,h0,h1,h2,h3⟩:=tL.out w3 wX
   have ww:=Jj wX;have tM:=Jj (q1W f.blocks.length HR f.blocks.length (λ j=>qI f.blocks j) false w3 wg (by omega));clear wX wg hHR tH;(go_wp2_with fail);refine tM.out.mono ?_;rintro e w3' ⟨rfl,rfl⟩
   by_cases wl:0<=qs f.blocks.length (λ j=>qI f.blocks j == false)
   ·(have HE:Hid (yK f=(6,-1)):=Jj (by unfold yK;rw [if_pos wl]));generalize qs f.blocks.length (λ j=>qI f.blocks j == false)=q1 at *;have tS:decide (0<=q1)=true:=decide_eq_true wl;clear c0 h0 h1 h2 h3 wl;(go_wp2_with fail);(go_ret);exact ⟨⟨_,rfl,by rw [wj.out,HE.out];exact .inr (.inl ⟨by show (6:Int)≠0;decide,rfl,rfl⟩)⟩,wh.out.trans (ww.out.mono wh.out.size)⟩
   have tc:=Jj wl;obtain ⟨q1,tj⟩:∃ q1,q1=qs f.blocks.length (λ j=>qI f.blocks j == false):=⟨_,rfl⟩;rw [<- tj] at wl ⊢;have tS:decide (0<=q1)=false:=decide_eq_false wl;have tW:=Jj (VFun.keep (q7 ww.out) ta.out);have tU:Hid (Below w.heap.size w w3'):=Jj (wh.out.trans (ww.out.mono wh.out.size));have tK:=Jj (q1R f _ w3' tW.out tm (HG.out.keep (q7 tU.out)));clear wl tj tM;go_wp2_with fail
   refine tK.out.mono ?_;rintro e w4 ⟨⟨GA,rfl,hGA,wg⟩,tE⟩;have wm:Hid (Below w2.heap.size w2 w4):=Jj (ww.out.trans (tE.mono ww.out.size));obtain ⟨c0,h0,h1,h2,h3⟩:=tL.out w4 wm.out;have wJ:=Jj (xp f.regs.length GA f.regs.length (λ j=>yv f j) true w4 wg (by omega));clear tE wg hGA tK;(go_wp2_with fail);refine wJ.out.mono ?_;rintro e w4' ⟨rfl,rfl⟩
   by_cases wu:0<=qs f.regs.length (λ j=>yv f j == true)
   ·(have HE:Hid (yK f=(7,qs f.regs.length (λ j=>yv f j == true))):=Jj (by unfold yK;rw [if_neg (by have:=tc.out;omega),if_pos wu]));generalize qs f.regs.length (λ j=>yv f j == true)=q2 at *;have tR:decide (0<=q2)=true:=decide_eq_true wu;have wQ:=Jj wu;clear c0 h0 h1 h2 h3;(go_wp2_with fail);(go_ret);exact ⟨⟨_,rfl,by rw [wj.out,HE.out];exact .inr (.inr ⟨by show (7:Int)≠0;decide,wQ.out,w4'.heap.size,rfl,by simp,by simp⟩)⟩,(wh.out.trans (wm.out.mono wh.out.size)).alloc (wh.out.trans (wm.out.mono wh.out.size)).size _⟩
   have wQ:=Jj wu;obtain ⟨q2,th⟩:∃ q2,q2=qs f.regs.length (λ j=>yv f j == true):=⟨_,rfl⟩;rw [<- th] at wu ⊢;have tR:decide (0<=q2)=false:=decide_eq_false wu;have tV:=Jj (VFun.keep (q7 wm.out) ta.out);have tT:Hid (Below w.heap.size w w4'):=Jj (wh.out.trans (wm.out.mono wh.out.size));have tG:=Jj (ka f _ w4' tV.out tm tq (HG.out.keep (q7 tT.out)) (λ i b hb p hp=>(wM.out.phis i b hb p hp).1) (qAa wM.out sc.out) (qAm f));clear th wJ;go_wp2_with fail
   refine tG.out.mono ?_;rintro e w5 ⟨⟨GS,rfl,hGS,wg⟩,tD⟩;have sd:Hid (Below w2.heap.size w2 w5):=Jj (wm.out.trans (tD.mono wm.out.size));have wJ:=Jj (xp f.regs.length GS f.regs.length (λ j=>jf f j) true w5 wg (by omega));clear tD wg hGS tG c0 h0 h1 h2 h3;(go_wp2_with fail);refine wJ.out.mono ?_;rintro e w5' ⟨rfl,rfl⟩;have wZ:Hid (Below w.heap.size w w5'):=Jj (wh.out.trans (sd.out.mono wh.out.size))
   by_cases wv:0<=qs f.regs.length (λ j=>jf f j == true)
   ·(have HE:Hid (yK f=(4,qs f.regs.length (λ j=>jf f j == true))):=Jj (by unfold yK;rw [if_neg (by have:=tc.out;omega),if_neg (by have:=wQ.out;omega),if_pos wv]));generalize qs f.regs.length (λ j=>jf f j == true)=q3 at *;have tQ:decide (0<=q3)=true:=decide_eq_true wv;have tX:=Jj wv;(go_wp2_with fail);(go_ret);exact ⟨⟨_,rfl,by rw [wj.out,HE.out];exact .inr (.inr ⟨by show (4:Int)≠0;decide,tX.out,w5'.heap.size,rfl,by simp,by simp⟩)⟩,wZ.out.alloc wZ.out.size _⟩
   ·(have HE:Hid (yK f=(0,-1)):=Jj (by unfold yK;rw [if_neg (by have:=tc.out;omega),if_neg (by have:=wQ.out;omega),if_neg wv]));generalize qs f.regs.length (λ j=>jf f j == true)=q3 at *;have tQ:decide (0<=q3)=false:=decide_eq_false wv;(go_wp2_with fail);(go_ret);exact ⟨⟨_,rfl,by rw [wj.out,HE.out];exact .inl ⟨rfl,rfl⟩⟩,wZ.out⟩
  ·have wj:Hid (yD m a=(1,-1)):=Jj (wO.out.trans (if_neg ha))
   by_cases tF:a<0
   ·have hd:decide (a<0)=true:=decide_eq_true tF;clear ha;(go_wp2_with fail);(go_ret);exact ⟨⟨_,rfl,by rw [wj.out];exact .inr (.inl ⟨by show (1:Int)≠0;decide,rfl,rfl⟩)⟩,wh.out⟩
   ·(have ha1:(m.length:Int)<=a:=by omega);have hd:decide (a<0)=false:=decide_eq_false tF;clear ha;(go_wp2_with fail);(go_ret);exact ⟨⟨_,rfl,by rw [wj.out];exact .inr (.inl ⟨by show (1:Int)≠0;decide,rfl,rfl⟩)⟩,wh.out⟩
 ·obtain ⟨t,x,rfl⟩:=td.out.iface hp;have wO:Hid (yD m a=jV m):=Jj (if_pos hp);clear hp;(go_wp2_with fail);(go_ret);exact ⟨⟨_,rfl,by rw [wO.out];exact td.out⟩,wh.out⟩
section
variable {P:Program} (w:World)
theorem jm (d:Nat) {ti tn:TypeId} {ms:Array (String × TypeId)} {i:TypeInfo} {k:IntKind} (a b:Int)
  (hi:P.underlying ti=some (.interface ms)) (hn:P.underlying tn=some (.int k)) (wg:P.info? tn=some i) (wh:i.comparable=true) :
  (Op.equalIn (d+2) ti (.iface tn (.int k a)) (.iface tn (.int k b))).run P w=.ok (a == b) w:=by
 simp [Op.equalIn,run_underlying hi,run_underlying hn,typeInfo,wg,wh]
theorem k6 {ti tn:TypeId} {ms:Array (String × TypeId)} {i:TypeInfo} {k:IntKind} (a b:Int)
  (hi:P.underlying ti=some (.interface ms)) (hn:P.underlying tn=some (.int k)) (wg:P.info? tn=some i) (wh:i.comparable=true) :
  (binOp .eql ti (.iface tn (.int k a)) (.iface tn (.int k b))).run P w=.ok (.bool (a == b)) w:=by
 simp only [binOp];simp [Op.equal,Op.maxDepth,jm w 9998 a b hi hn wg wh]
end
end Go.Proofs.YtfoggldjjnabcaaGreatDoor

namespace Go.Proofs.YtfoggldjjnabcaaGreatDoor
open Go.ChangeShapes Go.WideShapes Go.RowKit Go.Deep
theorem q8v:Tryz.prog.info? 39=some ((Tryz.prog.info? 39).get!):=by kernel_rfl
theorem q8w:((Tryz.prog.info? 39).get!).comparable=true:=by kernel_rfl
theorem qAo (x y:Int) (w:World):(binOp .eql 32 (.iface 39 (.int .i64 x)) (.iface 39 (.int .i64 y))).run Tryz.prog w=.ok (.bool (x == y)) w :=
 k6 w x y Tryz.underlying32 Tryz.underlying39 q8v q8w
end Go.Proofs.YtfoggldjjnabcaaGreatDoor
