/- The program's closed frontier of a register. -/
import Derived.Test.YtfoggldjjnabcaaGreatDoorModAK
import Derived.Test.YtfoggldjjnabcaaGreatDoorSsVK
import Derived.Test.YtfoggldjjnabcaaGreatDoorSsIK
import Derived.Test.YtfoggldjjnabcaaGreatDoorDmAK
import Derived.Test.YtfoggldjjnabcaaGreatDoorGrYK
import Derived.Test.YtfoggldjjnabcaaGreatDoorGrNK
import Derived.Deep.AppendLies
import Derived.Test.YtfoggldjjnabcaaGreatDoorPpBK
import Derived.Test.YtfoggldjjnabcaaGreatDoorLtDK
set_option linter.unusedVariables false
set_option linter.unusedSimpArgs false
namespace Go.Proofs.YtfoggldjjnabcaaGreatDoor
open Go.ChangeShapes Go.WideShapes Go.RowKit Go.Deep
section
variable {fr:Nat->List Nat} {mk:Nat->Bool} {n:Nat}
structure ClS (fr:Nat->List Nat) (mk:Nat->Bool) (n:Nat) (I:Nat->Bool) (op:List Nat):Prop where
 snd:∀ b,I b=true->b<n/\ClG fr mk n b
 ops:∀ x∈op,x<n/\(mk x=true\/I x=true)
 all:∀ x,x<n->(mk x=true\/I x=true)->x∈op\/∀ b∈fr x,I b=true
structure ClR (fr:Nat->List Nat) (mk:Nat->Bool) (n:Nat) (I:Nat->Bool) (op:List Nat) (l i:Nat):Prop where
 snd:∀ b,I b=true->b<n/\ClG fr mk n b
 ops:∀ x∈op,x<n/\(mk x=true\/I x=true)
 all:∀ x,x<n->(mk x=true\/I x=true)->x∈op\/(∀ b∈fr x,I b=true)\/x=l
 lt:l<n
 ml:mk l=true\/I l=true
 done:∀ b∈(fr l).take i,I b=true
theorem ClS.pop {I:Nat->Bool} {op:List Nat} {l:Nat} (h:ClS fr mk n I (op++[l])):ClR fr mk n I op l 0:=by
 refine ⟨h.snd,λ x hx=>h.ops x (List.mem_append_left _ hx),λ x hx hm=>?_,(h.ops l (by simp)).1,(h.ops l (by simp)).2,λ b hb=>by simp at hb⟩;rcases h.all x hx hm with h1 | h1
 ·rcases List.mem_append.1 h1 with h2 | h2
  ·exact .inl h2
  ·exact .inr (.inr (List.mem_singleton.1 h2))
 ·exact .inr (.inl h1)
theorem ClR.all_ {I:Nat->Bool} {op:List Nat} {l i:Nat} (h:ClR fr mk n I op l i) (hi:(fr l).length<=i):ClS fr mk n I op:=by
 refine ⟨h.snd,h.ops,λ x hx hm=>?_⟩;rcases h.all x hx hm with h1 | h1 | h1
 ·exact .inl h1
 ·exact .inr h1
 ·subst h1;exact .inr λ b hb=>h.done b (by rwa [List.take_of_length_le hi])
theorem ClR.skip {I:Nat->Bool} {op:List Nat} {l i b:Nat} (h:ClR fr mk n I op l i) (hb:(fr l)[i]?=some b) (hI:I b=true):ClR fr mk n I op l (i+1):=by
 refine ⟨h.snd,h.ops,h.all,h.lt,h.ml,λ c hc=>?_⟩;rw [qG hb,List.mem_append,List.mem_singleton] at hc;rcases hc with hc | rfl
 ·exact h.done c hc
 ·exact hI
theorem ClR.mark {I:Nat->Bool} {op:List Nat} {l i b:Nat} (wO:∀ a,∀ x∈fr a,x<n) (h:ClR fr mk n I op l i) (hb:(fr l)[i]?=some b):ClR fr mk n (λ x=>if x=b then true else I x) (op++[b]) l (i+1):=by
 have td:=Jz hb;(have wZ:∀ x,I x=true->(if x=b then true else I x)=true:=λ x hx=>by by_cases e:x=b <;> simp [e,hx]);refine ⟨λ c hc=>?_,λ x hx=>?_,λ x hx hm=>?_,h.lt,h.ml.imp id (wZ l),λ c hc=>?_⟩
 ·by_cases e:c=b
  ·subst e;refine ⟨wO l c td,?_⟩;rcases h.ml with hm | hm
   ·exact .of h.lt hm td
   ·exact .on h.lt (h.snd l hm).2 td
  ·rw [if_neg e] at hc;exact h.snd c hc
 ·rw [List.mem_append,List.mem_singleton] at hx;rcases hx with hx | rfl
  ·exact ⟨(h.ops x hx).1,(h.ops x hx).2.imp id (wZ x)⟩
  ·exact ⟨wO l x td,.inr (if_pos rfl)⟩
 ·by_cases e:x=b
  ·subst e;exact .inl (by simp)
  ·rw [if_neg e] at hm;rcases h.all x hx hm with h1 | h1 | h1
   ·exact .inl (List.mem_append_left _ h1)
   ·exact .inr (.inl λ c hc=>wZ c (h1 c hc))
   ·exact .inr (.inr h1)
 ·rw [qG hb,List.mem_append,List.mem_singleton] at hc;rcases hc with hc | rfl
  ·exact wZ c (h.done c hc)
  ·exact if_pos rfl
theorem ClS.start {mks:List Nat} (hm:∀ x∈mks,x<n):ClS fr (λ x=>decide (x∈mks)) n (λ _=>false) mks :=
 ⟨λ b hb=>by simp at hb,λ x hx=>⟨hm x hx,.inl (decide_eq_true hx)⟩,λ x hx h=>by
  rcases h with h | h
  ·exact .inl (of_decide_eq_true h)
  ·simp at h⟩
theorem ClS.end_ {I:Nat->Bool} (wO:∀ a,∀ x∈fr a,x<n) (h:ClS fr mk n I []) (b:Nat):I b=clC fr mk n b:=by
 rw [Bool.eq_iff_iff,q0P (λ b=>wO b)];refine ⟨λ hb=>(h.snd b hb).2,λ hc=>?_⟩
 induction hc with
 | of hx hm hb =>
  rcases h.all _ hx (.inl hm) with h1 | h1
  ·cases h1
  ·exact h1 _ hb
 | on hx hc hb ih =>
  rcases h.all _ hx (.inr ih) with h1 | h1
  ·cases h1
  ·exact h1 _ hb
def msC (n:Nat) (I:Nat->Bool) (op:List Nat):Nat:=op.length+2 * (n - q4D n I)
theorem q8L {I:Nat->Bool} {op:List Nat} {b:Nat} (hb:b<n) (hI:I b=false):msC n (λ x=>if x=b then true else I x) (op++[b])<msC n I op:=by
 (have h1:=q2t (n:=n) (b:=b) (o:=I) (o':=λ x=>if x=b then true else I x) (λ x hx=>by by_cases e:x=b <;> simp [e,hx]) hb hI (if_pos rfl));have h2:=q61 n (λ x=>if x=b then true else I x);unfold msC;rw [List.length_append];simp only [List.length_cons,List.length_nil];omega
theorem qAd (I:Nat->Bool) (op:List Nat):msC n I op<=op.length+2 * n:=by unfold msC;omega
theorem q5o (I:Nat->Bool) (op:List Nat):op.length<=msC n I op:=by unfold msC;omega
end
def qBO (fr:Nat->List Nat) (mks:List Nat) (n:Nat) (w:World) (e:Ending) (w':World):Prop :=
 (∃ Q,e=.returned (.slice (some ⟨Q,0,none⟩) n n)/\w.heap.size<=Q/\w'.rowIs Q 4 n (λ x=>.bool (clC fr (λ x=>decide (x∈mks)) n x)))/\Below w.heap.size w w'
set_option maxRecDepth 100000 in
set_option maxHeartbeats 16000000 in
theorem q5G (n:Nat) (fr:Nat->List Nat) (mks:List Nat) (Af:Option Addr) (cf:Nat) (vm:Value) (w:World) (hf:SL w 1 RRow Af cf ((List.range n).map λ a=>zs (fr a))) (hm:VS w 1 RInt vm (zs mks))
  (hn:n<=1000) (hml:mks.length<=1000000) (wO:∀ a,∀ x∈fr a,x<n) (tP:∀ x∈mks,x<n) :
  Calls Tryz.prog 58 #[.slice Af n cf,vm] w (qBO fr mks n w):=by
 obtain ⟨i0,hi,tM,tL,tK⟩:=info_parts Tryz.info3;have HI:=Jj (And.intro hi (And.intro tM (And.intro tL tK)));clear hi tM tL tK;have tQ:=hm;obtain ⟨Am,cm,rfl,-⟩:=hm;have HF:=Jj hf;have HM:=Jj tQ;have tH:=Jj wO;have sn:=Jj tP
 have hmk_:=run_make_row' (P:=Tryz.prog) 64 4 (.bool false) 1 Tryz.underlying64 Tryz.info4 rfl .i64 .i64 n (by omega) (by omega);have tJ:(zs mks).length=mks.length:=qg mks;clear hf tQ wO tP;(go_enter Tryz.func58,Tryz.ntmps58);(go_upto_region 2 with fail);clear hmk_;obtain ⟨Q,hQ⟩:∃ Q,Q=w.heap.size:=⟨_,rfl⟩;obtain ⟨w1,wU⟩:∃ w1,w1=w.alloc (.cells (madeCells #[.bool false] n) 4):=⟨_,rfl⟩;have tw:Below w.heap.size w w1:=by rw [wU];exact (J5 _ _).alloc (J4 _) _
 (have tC:Hid (w1.rowIs Q 4 n (λ x=>.bool false)):=Jj (by rw [wU,hQ];exact World.rowIs_made w (.bool false) n 4));have tg:=Jj tw;(have HQ:Hid (w.heap.size=Q/\Q<w1.heap.size):=Jj ⟨hQ.symm,by rw [wU,hQ];simp⟩);rw [<- wU,<- hQ];clear wU hQ tw;(go_wp2_with fail);have tT:Calls Tryz.prog 49 #[.slice Am mks.length cm] w1 (q5Y (zs mks) w1):=by
  have h:=zj (zs mks) _ w1 (VInts.keep (q7 tg.out) HM.out) (by omega)
  rwa [tJ] at h
 refine tT.mono ?_;clear tT;rintro e w2 ⟨⟨vo,rfl,ho⟩,tf⟩;rw [tJ] at ho;have wY:Hid (w2.rowIs Q 4 n (λ x=>.bool false)):=Jj (tC.out.of_block (tf.block Q HQ.out.2));have ss:Hid (Below w.heap.size w w2):=Jj (tg.out.trans (tf.mono tg.out.size));have sm:Hid (w2.ownsRow w1.heap.size 3 1 vo mks.length ((zs mks).map (Value.int .i64))):=Jj ho;have tx:=Jj tf.size;clear ho tf
 (go_wp2_with fail);go_loopg [6] (msC n (λ _=>false) mks) (λ gk s6 wq=>∃ (I:Nat->Bool) (op:List Nat),gk=msC n I op/\ClS fr (λ x=>decide (x∈mks)) n I op/\wq.rowIs Q 4 n (λ x=>.bool (I x))/\wq.ownsRow w1.heap.size 3 1 s6 op.length ((zs op).map (Value.int .i64))/\Below w.heap.size w wq/\w1.heap.size<=wq.heap.size/\msC n I op<=2000000)
 case atStart=>exact ⟨_,mks,rfl,ClS.start sn.out,wY.out,sm.out,ss.out,tx.out,by have:=qAd (n:=n) (λ _=>false) mks;omega⟩
 case round =>
  obtain ⟨I,op,tq,tc,wg,wk,wl,ww,wM⟩:=hrel;have sp:=Jj tq;have sq:=Jj tc;have tX:=Jj wg;have sb:=Jj wl;have sf:=Jj ww;have tY:=Jj wM;rcases List.eq_nil_or_concat op with he | ⟨op',l,he⟩
  ·subst he;obtain ⟨A6,c6,rfl⟩:=qX wk;clear tq tc wg wk wl ww wM;(go_wp2_with fail);(go_ret);exact ⟨⟨Q,rfl,by rw [<- HQ.out.1];exact J4 _,tX.out.congr λ x _=>by rw [sq.out.end_ tH.out x]⟩,sb.out⟩
  ·rw [List.concat_eq_append] at he;subst he;obtain ⟨g,cap,rfl,wv,tu,hcm,wJ,wW⟩:=q0L wk;(have tS:(op'++[l]).length=op'.length+1:=by simp);have hgK:=(wk.lt g rfl).1;have hR:=tc.pop;have tR:=hR.lt;have HR:=Jj hR;have tE:=Jj wW
   (have tm:op'.length<=2000000:=by have:=q5o (n:=n) I (op'++[l]);omega);(have tF:Hid (msC n I op'+1<=msC n I (op'++[l])):=Jj (by unfold msC;rw [tS];omega));obtain ⟨lo,ta⟩:∃ lo,op'.length=lo:=⟨_,rfl⟩;have tZ:=Jj ta;rw [ta] at wv tu wJ tm;have ew:IntKind.i64.wrap (lo:Int)=(lo:Int):=Go.IntWalk.i64_in _ (by omega);(have q0:(0:Int)<=lo:=by omega);(have q1:(lo:Int)<(lo:Int)+1:=by omega);obtain ⟨bf,of_,rw_,hAf,tN,Ar,ar,wV,th⟩:=HF.out.at_ (k:=l) (by simp;exact tR)
   have tO:=(q7 wl) _ _ wV;(obtain rfl:zs (fr l)=rw_:=by have h:=tN.out;rw [List.getElem?_map,List.getElem?_range tR] at h;exact J3 h);subst hAf;rw [qg,Nat.mul_one] at tO;(have hll0:(0:Int)<=l:=by omega);(have hll1:(l:Int)<n:=by omega);have tr:=th.len;rw [qg] at tr;have si:=Jj th
   have hFL:(fr l).length<=9223372036854775807:=tr;rw [ta];clear tq tc wg wk wl ww wM hR wW tS ta tN th tr wV;(go_wp2_with (simp only [ew,wJ]));clear wJ wv tO
   go_loopw [6,34] (λ s6 s34 wq=>∃ (I':Nat->Bool) (op2:List Nat) (j:Nat),j<=(fr l).length/\s34=.int .i64 (j:Int)/\ClR fr (λ x=>decide (x∈mks)) n I' op2 l j/\wq.rowIs Q 4 n (λ x=>.bool (I' x))/\wq.ownsRow w1.heap.size 3 1 s6 op2.length ((zs op2).map (Value.int .i64))/\Below w.heap.size w wq/\w1.heap.size<=wq.heap.size/\msC n I' op2<=msC n I op') (λ _ s34 _=>(fr l).length - (intOf s34).toNat)
   case atStart=>exact ⟨I,op',0,Nat.zero_le _,rfl,HR.out,tX.out,by have h:=tE.out;rw [tZ.out] at h;rw [tZ.out];exact h,sb.out,sf.out,J4 _⟩
   case round =>
    obtain ⟨I',op2,j,hj,rfl,hR,wg,wk,wl,ww,wM⟩:=hrel;have tD:=Jj hR;have wR:=Jj wg;have wm:=Jj wk;have wT:=Jj wl;have wQ:=Jj ww;have wj:=Jj wM
    by_cases sd:j<(fr l).length
    ·(obtain ⟨bx,ox,x,hA,hx,hxc,-⟩:=(SInts.keep (q7 wl) si.out).int (k:=j) (by rw [qg];exact sd));obtain ⟨b,hb,rfl⟩:=jD hx.out;have tU:=tH.out l b (Jz hb);(have hb0:(0:Int)<=b:=by omega);(have tw:(b:Int)<n:=by omega);subst hA;have tj:=wg.cell tU;have sc:=wg.frozen b;have HB:=Jj hb
     clear hR wg wk wl ww wM hx hb;cases hI:I' b
     ·rw [hI] at tj;have tG:=Jj hI;(have hop2:op2.length<=2000000:=by have h1:=q5o (n:=n) I' op2;have:=wj.out;have:=tF.out;have:=tY.out;omega);obtain ⟨A6,c6,rfl⟩:=qX wm.out;obtain ⟨wS,hwS⟩:∃ wS,wS=wr.setCell ⟨Q,b,none⟩ (.bool true):=⟨_,rfl⟩;(have tW:Hid (wS.rowIs Q 4 n (λ x=>.bool (if x=b then true else I' x))):=Jj (by rw [hwS];exact (wR.out.set b (.bool true)).congr λ x hx=>by by_cases e:x=b <;> simp [e]));(have tz:Hid (wS.ownsRow w1.heap.size 3 1 (.slice A6 op2.length c6) op2.length ((zs op2).map (Value.int .i64))):=Jj (by rw [hwS];exact ownsRow_setCell_below wm.out (a:=⟨Q,b,none⟩) HQ.out.2 _));(have tB:Hid (Below w.heap.size w wS):=Jj (by rw [hwS];exact wT.out.setCell (by show w.heap.size<=Q;rw [HQ.out.1];exact J4 _) _));have tV:Hid (w1.heap.size<=wS.heap.size):=Jj (by rw [hwS];simpa using wQ.out)
      clear hI;(go_upto_region 11 with fail);rw [<- hwS];clear hwS tj sc;go_wp2_with (at_builtin;refine wpList_append_lies _ rfl (.tmp 46) (.tmp 48) 27 rfl w1.heap.size 3 i0 (.int .i64 0) 1 8 Tryz.underlying27 HI.out.1 HI.out.2.1 HI.out.2.2.1 HI.out.2.2.2 rfl (by decide) _ _ _ rfl (tz.out.alloc _) ⟨wS.heap.size,0,none⟩ 1 1 [.int .i64 (b:Int)] rfl rfl ?e1 ?e2 (by decide) ?e3 ?e4 ?e5 (wS.heap.size+1) ?e6 ?_)
      case e1=>exact qm wS _ _ rfl
      case e2=>exact ints_oneCell .i64 [(b:Int)]
      case e3=>unfold maxLen;omega
      case e4=>omega
      case e5=>have:=tV.out;simp;omega
      case e6=>simp
      intro g7 cap7 w7 wu wh wX tp;have sk:=Jj wu;(have sr:Hid (Below w.heap.size w w7):=Jj ((tB.out.alloc tB.out.size _).grown wh (by have:=tB.out.size;simp;omega) (λ k hk=>by have h1:=(tz.out.lt k hk).1;have:=tg.out.size;omega)));(have sj:Hid (w7.rowIs Q 4 n (λ x=>.bool (if x=b then true else I' x))):=Jj ((tW.out.alloc _).of_block (wh.block Q (by have:=tW.out.lt;simp;omega) (λ e=>by have h1:=(tz.out.lt Q e.symm).1;have:=HQ.out.2;omega))));(have sh:Hid (w1.heap.size<=w7.heap.size):=Jj (by have:=wh.size;have:=tV.out;simp at this ⊢;simp at *;omega));clear wu wh wX tp;go_wp2_with fail
      go_roundw
      case rel=>exact ⟨_,op2++[b],j+1,by omega,by go_num,tD.out.mark tH.out HB.out,sj.out,by rw [yG,List.map_append,List.length_append];exact sk.out,sr.out,sh.out,by have:=q8L (n:=n) (op:=op2) tU tG.out;have:=wj.out;omega⟩
      case measure=>simp [intOf];omega
     ·rw [hI] at tj;have tG:=Jj hI;clear hI;go_wp2_with fail
      go_roundw
      case rel=>exact ⟨I',op2,j+1,by omega,by go_num,tD.out.skip HB.out tG.out,wR.out,wm.out,wT.out,wQ.out,wj.out⟩
      case measure=>simp [intOf];omega
    ·clear hR wg wk wl ww wM;(go_wp2_with fail);go_roundg (msC n I' op2)
     case rel=>exact ⟨I',op2,rfl,tD.out.all_ (by omega),wR.out,wm.out,wT.out,wQ.out,by have:=wj.out;have:=tF.out;have:=tY.out;omega⟩
     case measure=>have:=wj.out;have:=tF.out;have:=sp.out;omega
end Go.Proofs.YtfoggldjjnabcaaGreatDoor

namespace Go.Proofs.YtfoggldjjnabcaaGreatDoor
open Go.ChangeShapes Go.WideShapes Go.RowKit Go.Deep
theorem Gri.put {w:World} {G K n t:Nat} {V:Nat->Value} {L:Nat->List Int} (h:Gri w G K n V L) {u:Value} {l:List Int} (hu:w.ownsRow K 3 1 u l.length (l.map (Value.int .i64))) (ha:∀ i,i<n->(V i).ownBlock=none\/(V i).ownBlock≠u.ownBlock) :
  Gri (w.setCell ⟨G,t,none⟩ u) G K n (qM V t u) (qM L t l):=by
 refine ⟨(h.row.set t u).congr λ v _=>by unfold qM;rfl,λ i hi=>?_,λ i j hi hj tJ=>?_,h.lt⟩
 ·by_cases e:i=t
  ·subst e;rw [qF,qF];exact ownsRow_setCell_below hu (a:=⟨G,i,none⟩) h.lt _
  ·rw [q8 _ _ e,q8 _ _ e];exact ownsRow_setCell_below (h.own i hi) (a:=⟨G,t,none⟩) h.lt _
 ·by_cases ei:i=t
  ·(subst ei;rw [qF]);rw [q8 _ _ (Ne.symm tJ)];cases hb:u.ownBlock with
   | none=>exact .inl rfl
   | some b =>
    right;rcases ha j hj with h1 | h1
    ·rw [h1];intro e;cases e
    ·rw [hb] at h1;exact Ne.symm h1
  ·rw [q8 _ _ ei]
   by_cases ej:j=t
   ·subst ej;rw [qF];exact ha i hi
   ·rw [q8 _ _ ej];exact h.apart i j hi hj tJ
def kK (bs:List qE) (i:Nat):List qN:=(bs.getD i default).ins
def mqI (k r:Nat) (l:List qN):List Nat:=l.filterMap λ x=>if x.dst=(r:Int) then some k else none
def mqL (bs:List qE) (k r:Nat):List Nat:=0::(List.range k).flatMap λ i=>mqI i r (kK bs i)
def mqJ (bs:List qE) (k j r:Nat):List Nat:=mqL bs k r++mqI k r ((kK bs k).take j)
theorem q5w {bs:List qE} {k:Nat} {b:qE} (h:bs[k]?=some b):kK bs k=b.ins:=by unfold kK;rw [JJ,h];rfl
theorem q8M (bs:List qE) (k r:Nat):mqJ bs k 0 r=mqL bs k r:=by unfold mqJ mqI;simp
theorem q9n (bs:List qE) (k r:Nat) {j:Nat} (h:(kK bs k).length<=j):mqJ bs k j r=mqL bs (k+1) r:=by
 unfold mqJ mqL;rw [List.take_of_length_le h,List.range_succ,List.flatMap_append];simp
theorem q8N {bs:List qE} {k j:Nat} {x:qN} (h:(kK bs k)[j]?=some x) (r:Nat):mqJ bs k (j+1) r=mqJ bs k j r++(if x.dst=(r:Int) then [k] else []):=by
 unfold mqJ mqI;rw [qG h,List.filterMap_append,List.append_assoc];congr 2
 by_cases e:x.dst=(r:Int) <;> simp [e]
theorem q5q (k r:Nat) (l:List qN):(mqI k r l).length<=l.length:=by unfold mqI;exact List.length_filterMap_le _ _
theorem q9o {k r:Nat} {l:List qN} {x:Nat} (h:x∈mqI k r l):x=k/\∃ y∈l,y.dst=(r:Int):=by
 unfold mqI at h;rw [List.mem_filterMap] at h;obtain ⟨y,hy,e⟩:=h
 split at e
 ·rename_i hd;cases e;exact ⟨rfl,y,hy,hd⟩
 ·cases e
theorem q5p {bs:List qE} (hl:∀ b∈bs,b.ins.length<=1000) (r:Nat):∀ k,(mqL bs k r).length<=1000 * k+1:=by
 intro k
 induction k with
 | zero=>simp [mqL]
 | succ k ih =>
  have h1:=q5q k r (kK bs k);have h2:(kK bs k).length<=1000:=by
   unfold kK;rw [JJ];cases hb:bs[k]? with
   | none=>exact Nat.zero_le _
   | some b=>exact hl b (Jz hb)
  (have h3:mqL bs (k+1) r=mqL bs k r++mqI k r (kK bs k):=by unfold mqL;rw [List.range_succ,List.flatMap_append];simp);rw [h3,List.length_append];omega
theorem mqL_mem {bs:List qE} {k r x:Nat}:x∈mqL bs k r↔x=0\/(x<k/\∃ y∈kK bs x,y.dst=(r:Int)):=by
 unfold mqL;rw [List.mem_cons,List.mem_flatMap];constructor
 ·rintro (h | ⟨i,hi,h⟩)
  ·exact .inl h
  ·obtain ⟨rfl,h2⟩:=q9o h;exact .inr ⟨List.mem_range.1 hi,h2⟩
 ·rintro (h | ⟨h1,y,hy,hd⟩)
  ·exact .inl h
  ·refine .inr ⟨x,List.mem_range.2 h1,?_⟩;unfold mqI;rw [List.mem_filterMap];exact ⟨y,hy,by rw [if_pos hd]⟩
def qBJ (bs:List qE) (R:Nat) (w:World) (e:Ending) (w':World):Prop :=
 (∃ G K V,e=.returned (.slice (some ⟨G,0,none⟩) R R)/\w.heap.size<=G/\Gri w' G K R V (λ r=>zs (mqL bs bs.length r)))/\Below w.heap.size w w'
def mq0 (i r:Nat):List Int:=if r<i then [0] else []
set_option maxRecDepth 100000 in
set_option maxHeartbeats 16000000 in
theorem q2e (f:qB) (v:Value) (w:World) (hv:VFun w v f) (hn:f.blocks.length<=1000) (hR:f.regs.length<=1000) (hl:∀ b∈f.blocks,b.ins.length<=1000/\∀ x∈b.ins,x.dst<f.regs.length) :
  Calls Tryz.prog 57 #[v] w (qBJ f.blocks f.regs.length w):=by
 obtain ⟨i0,hi,tB,tz,tx⟩:=info_parts Tryz.info3;have HI:=Jj (And.intro hi (And.intro tB (And.intro tz tx)));clear hi tB tz tx;obtain ⟨Ar,cr,A,c,rfl,-,tM,-,-⟩:=hv;have su:=Jj tM;have HL:=Jj hl;clear tM hl;have tU:=run_make_row' (P:=Tryz.prog) 65 27 (.slice none 0 0) 24 Tryz.underlying65 Tryz.info27 rfl .i64 .i64 f.regs.length (by omega) (by omega);go_enter Tryz.func57,Tryz.ntmps57
 (go_upto_region 1 with fail);obtain ⟨w1,tE,tH,tZ,ww,tm,-⟩:=named w #[.int .i64 f.params,.int .i64 f.result,.slice Ar f.regs.length cr,.slice A f.blocks.length c] 30;rw [<- tE];have c2:w1.cell? ⟨w.heap.size,2,none⟩=some (.slice Ar f.regs.length cr):=tm 2 _ rfl;have c3:w1.cell? ⟨w.heap.size,3,none⟩=some (.slice A f.blocks.length c):=tm 3 _ rfl;have wR:=Jj ww;have HS1:=Jj tH;obtain ⟨N,hN⟩:∃ N,N=w.heap.size:=⟨_,rfl⟩;have HNN:=Jj hN
 rw [<- hN] at c2 c3 ⊢;clear tE tH ww tm tZ hN;(go_upto_region 2 with fail);clear tU c2;obtain ⟨G,hG⟩:∃ G,G=w1.heap.size:=⟨_,rfl⟩;obtain ⟨w2,wT⟩:∃ w2,w2=w1.alloc (.cells (madeCells #[.slice none 0 0] f.regs.length) 27):=⟨_,rfl⟩;(have tN:Below w1.heap.size w1 w2:=by rw [wT];exact (J5 _ _).alloc (J4 _) _);(have sm:Hid (Gri w2 G (G+1) f.regs.length (λ _=>.slice none 0 0) (mq0 0)):=Jj (by rw [wT,hG];exact (Gri.made w1 w1.heap.size (w1.heap.size+1) f.regs.length rfl (by omega)).congr λ i _=>by unfold mq0;rw [if_neg (by omega)]));have sB:Hid (Below w1.heap.size w1 w2):=Jj tN
 (have wW:Hid (G=w1.heap.size/\w2.heap.size=G+1):=Jj ⟨hG,by rw [wT,hG];simp⟩);have ss:=Jj c3;rw [<- wT,<- hG];clear wT hG tN c3;go_wp2_with fail
 go_loopw [15] (λ s15 wq=>∃ (i:Nat) (V:Nat->Value),i<=f.regs.length/\s15=.int .i64 (i:Int)/\Gri wq G (G+1) f.regs.length V (mq0 i)/\Below w1.heap.size w1 wq) (λ s15 _=>f.regs.length - (intOf s15).toNat)
 case atStart=>exact ⟨0,_,Nat.zero_le _,rfl,sm.out,sB.out⟩
 case round =>
  obtain ⟨i,V,hi,rfl,hg,hb⟩:=hrel;have HG:=Jj hg;have HB:=Jj hb
  by_cases sc:i<f.regs.length
  ·(have hi0:(0:Int)<=i:=by omega);(have hi1:(i:Int)<f.regs.length:=by omega);have d1:=hg.row.cell sc;have d2:=hg.row.frozen i;have sd:=hg.row.lt;obtain ⟨wA,hwA⟩:∃ wA,wA=wr.alloc (.cells #[.int .i64 0] 3):=⟨_,rfl⟩;(have sp:Hid (Gri wA G (G+1) f.regs.length V (mq0 i)):=Jj (by rw [hwA];exact hg.alloc _));have sw:Hid (Below w1.heap.size w1 wA):=Jj (by rw [hwA];exact hb.alloc hb.size _)
   have sh:Hid (wA.ownsRow (G+1) 3 1 (.slice (some ⟨wr.heap.size,0,none⟩) 1 1) 1 [.int .i64 0]):=Jj (by
    rw [hwA]
    exact ⟨rfl,.inr ⟨wr.heap.size,1,#[.int .i64 0],rfl,by omega,heap_alloc_new wr _,J4 _,by unfold maxLen;omega,rfl,rfl⟩⟩)
   have sC:Hid (∀ j,j<f.regs.length->(V j).ownBlock=none\/(V j).ownBlock≠(Value.slice (some ⟨wr.heap.size,0,none⟩) 1 1).ownBlock):=Jj (λ j hj=>q0c (hg.own j hj) (J4 _));have sf:Hid ((wr.setCell ⟨G,i,none⟩ (.slice (some ⟨wr.heap.size,0,none⟩) 1 1)).alloc (.cells #[.int .i64 0] 3)=wA.setCell ⟨G,i,none⟩ (.slice (some ⟨wr.heap.size,0,none⟩) 1 1)):=Jj (by rw [hwA,World.setCell_alloc_past _ _ _ _ sd]);clear hg hb hwA;go_wp2_with fail
   go_roundw
   case rel =>
    rw [sf.out];(refine ⟨i+1,_,by omega,by go_num,(sp.out.put (t:=i) (l:=[0]) sh.out sC.out).congr λ r hr=>?_,sw.out.setCell (p:=⟨G,i,none⟩) (by show w1.heap.size<=G;rw [wW.out.1];exact J4 _) _⟩);unfold qM mq0
    by_cases e:r=i
    ·subst e;rw [if_pos rfl,if_pos (show r<r+1 by omega)]
    ·rw [if_neg e]
     by_cases h:r<i
     ·rw [if_pos h,if_pos (show r<i+1 by omega)]
     ·rw [if_neg h,if_neg (show ¬ r<i+1 by omega)]
   case measure=>simp [intOf];omega
  ·(have sr:Hid (Gri wr G (G+1) f.regs.length V (λ r=>zs (mqL f.blocks 0 r))):=Jj (hg.congr λ r hr=>by unfold mq0;rw [if_pos (by omega)];simp [mqL,zs]));have c3:wr.cell? ⟨N,3,none⟩=some (.slice A f.blocks.length c):=(q7 hb) _ _ ss.out;clear hg hb HG;go_wp2_with fail
   go_loopw [26] (λ s26 wq=>∃ (k:Nat) (V:Nat->Value),k<=f.blocks.length/\s26=.int .i64 (k:Int)/\Gri wq G (G+1) f.regs.length V (λ r=>zs (mqL f.blocks k r))/\Below w1.heap.size w1 wq) (λ s26 _=>f.blocks.length - (intOf s26).toNat)
   case atStart=>exact ⟨0,V,Nat.zero_le _,rfl,sr.out,HB.out⟩
   case round =>
    obtain ⟨k,V,hk,rfl,hg,hb⟩:=hrel;have HG:=Jj hg;have HB:=Jj hb
    by_cases tV:k<f.blocks.length
    ·have wm:Below w.heap.size w wr:=wR.out.trans (hb.mono wR.out.size);obtain ⟨b,o,kb,rfl,tf,⟨Ap,cp,wO,-⟩,⟨Ai,ci,wQ,tF⟩,⟨td,-⟩,⟨tq,-⟩,⟨At,ct,wY,-⟩⟩:=su.out.at_ tV;have wO:=(q7 wm) _ _ wO;have wQ:=(q7 wm) _ _ wQ;have td:=(q7 wm) _ _ td;have tq:=(q7 wm) _ _ tq;have wY:=(q7 wm) _ _ wY;obtain ⟨hil,hid_⟩:=HL.out _ (Jz tf.out);have sk:=Jj hid_
     have tQ:=Jj (q5w tf.out);have si:=Jj tF;clear hg hb tf tF hid_ wm;(go_upto_region 10 with fail);clear wO wQ td tq wY;obtain ⟨w3,tD,tS,tY,wl,tL,-⟩:=named wr #[.slice Ap kb.phis.length cp,.slice Ai kb.ins.length ci,.int .i64 kb.term.kind,.int .i64 kb.term.arg,.slice At kb.term.to.length ct] 51;rw [<- tD];have d1:w3.cell? ⟨wr.heap.size,1,none⟩=some (.slice Ai kb.ins.length ci):=tL 1 _ rfl;have sq:Hid (Gri w3 G (G+1) f.regs.length V (λ r=>zs (mqJ f.blocks k 0 r))):=Jj ((HG.out.below wl).congr λ r _=>by rw [q8M])
     have sy:Hid (Below w1.heap.size w1 w3):=Jj (HB.out.trans (wl.mono HB.out.size));clear tD tS tY wl tL;(go_wp2_with fail);clear d1
     go_loopw [34] (λ s34 wq=>∃ (j:Nat) (V:Nat->Value),j<=kb.ins.length/\s34=.int .i64 (j:Int)/\Gri wq G (G+1) f.regs.length V (λ r=>zs (mqJ f.blocks k j r))/\Below w1.heap.size w1 wq) (λ s34 _=>kb.ins.length - (intOf s34).toNat)
     case atStart=>exact ⟨0,V,Nat.zero_le _,rfl,sq.out,sy.out⟩
     case round =>
      obtain ⟨j,V,hj,rfl,hg,hb⟩:=hrel;have wm:Below w.heap.size w wr:=wR.out.trans (hb.mono wR.out.size);have HG:=Jj hg;have HB:=Jj hb
      by_cases sb:j<kb.ins.length
      ·obtain ⟨bi,oi,x,rfl,hx,⟨h0,-⟩,⟨h1,-⟩,⟨Aa,ca,h2,-⟩,⟨h3,-⟩,⟨h4,-⟩⟩:=(SInss.keep (q7 wm) si.out).at_ sb;have tR:=sk.out x (Jz hx.out);(have tr:=Jj (q8N (bs:=f.blocks) (k:=k) (j:=j) (x:=x) (by rw [tQ.out];exact hx.out)));clear hg hb hx wm;(go_upto_region 13 with fail);clear h0 h1 h2 h3 h4;obtain ⟨w4,tC,tG,tX,wk,tK,-⟩:=named wr #[.int .i64 x.op,.int .i64 x.dst,.slice Aa x.args.length ca,.int .i64 x.imm,.int .i64 x.fn] 53;rw [<- tC];have d1:w4.cell? ⟨wr.heap.size,1,none⟩=some (.int .i64 x.dst):=tK 1 _ rfl
       have wU:Hid (Gri w4 G (G+1) f.regs.length V (λ r=>zs (mqJ f.blocks k j r))):=Jj (HG.out.below wk);have wX:Hid (Below w1.heap.size w1 w4):=Jj (HB.out.trans (wk.mono HB.out.size));obtain ⟨N8,hN8⟩:∃ N8,N8=wr.heap.size:=⟨_,rfl⟩;(have wJ:Hid (G<N8/\N8<w4.heap.size/\wr.heap.size=N8):=Jj ⟨by rw [hN8];exact HG.out.row.lt,by rw [tG,hN8];omega,hN8.symm⟩);rw [<- hN8] at d1 ⊢;clear tC tG tX wk tK hN8
       by_cases hd:0<=x.dst
       ·obtain ⟨q,hq⟩:∃ q:Nat,x.dst=(q:Int):=⟨x.dst.toNat,by omega⟩;rw [hq] at d1 tR hd tr;(have hqR:q<f.regs.length:=by omega);(have hq0:(0:Int)<=q:=by omega);have wM:=wU.out.row.cell hqR;have wh:=wU.out.own q hqR;obtain ⟨Av,cv,hVq⟩:=qX wh;have tc:(mqJ f.blocks k j q).length<=1100000:=by
         have h1:=q5p (bs:=f.blocks) (λ b hb=>(HL.out b hb).1) q k;have h2:=q5q k q ((kK f.blocks k).take j);unfold mqJ;rw [List.length_append];(have h3:((kK f.blocks k).take j).length<=j:=by simp;omega);omega
        rw [qg] at wh hVq;obtain ⟨lq,ta⟩:∃ lq,(mqJ f.blocks k j q).length=lq:=⟨_,rfl⟩;have tP:=Jj ta;rw [ta] at wh hVq tc;(have tu:Hid (∀ g,(Value.slice Av lq cv).ownBlock=some g->G+1<=g/\g<N8):=Jj (λ g hg=>by have h:=(HG.out.own q hqR).lt g (by rw [hVq];exact hg);rw [<- wJ.out.2.2];exact h));have tO:=Jj hVq;rw [hVq] at wM wh;have sj:=Jj wh;clear hq wh ta hVq
        (go_upto_region 14 with fail);have hS0:w4.drew.cell? ⟨N8,1,none⟩=some (.int .i64 (q:Int))/\w4.drew.cell? ⟨G,q,none⟩=some (.slice Av lq cv):=⟨d1,wM⟩;clear d1 wM;refine qS (L:=12) (S:=λ w':World=>w'.cell? ⟨N8,1,none⟩=some (.int .i64 (q:Int))/\w'.cell? ⟨G,q,none⟩=some (.slice Av lq cv)) (by kernel_rfl) (by rfl) (by kernel_rfl) (by kernel_rfl) ?_;change wpAnyH _ _ _ _ _ _ _ _ (World.drew _);refine tk 0 41 hS0 ?_;simp only [J6,aS,J1,J2];refine tk 1 42 hS0 ?_;simp only [J6,aS,J1,J2]
        refine tk 2 43 hS0 ?_;simp only [J6,aS,J1,J2];refine tk 3 44 hS0 ?_;simp only [J6,aS,J1,J2];refine tk 4 45 hS0 ?_;simp only [J6,aS,J1,J2];refine tk 5 46 hS0 ?_;simp only [J6,aS,J1,J2];refine tk 6 47 hS0 ?_
        simp only [J6,aS,J1,J2];refine tk 7 48 hS0 ?_;simp only [J6,aS,J1,J2];refine tk 8 49 hS0 ?_;simp only [J6,aS,J1,J2];refine zk (i:=9) (by kernel_rfl) (λ o ho K' hK=>?_);(simp only [JZ,JX,JY,J0] at ho;subst ho);(go_simp);have wV:Below w4.heap.size w4 (w4.alloc (.cells #[.int .i64 (k:Int)] 3)).drew:=((J5 _ w4).alloc (J4 _) _).drew
        (refine hK.out _ _ ⟨(wV.cell (p:=⟨N8,1,none⟩) wJ.out.2.1).trans hS0.1,(wV.cell (p:=⟨G,q,none⟩) (by have:=wJ.out;show G<_;omega)).trans hS0.2⟩ ?_);clear hK K';refine zk (i:=10) (by kernel_rfl) (λ o ho K' hK=>?_);(simp only [JZ,JX,JY,J0] at ho;subst ho);refine step_append_lies _ (by rfl) _ _ _ (by rfl) (G+1) 3 i0 (.int .i64 0) 1 8 Tryz.underlying27 HI.out.1 HI.out.2.1 HI.out.2.2.1 HI.out.2.2.2 rfl (by decide) (.slice Av lq cv) _ _ (by rfl) (sj.out.alloc _)
         ⟨w4.heap.size,0,none⟩ 1 1 [.int .i64 (k:Int)] (by rfl) (by rfl) (zE _ #[.int .i64 (k:Int)] _ (by simp)) (by simp [Value.oneCell']) (by decide) (by unfold maxLen;omega) (by have:=wJ.out;simp;omega) (by have:=wJ.out;simp;omega) (w4.heap.size+1) (by simp) ?_
        intro g' cap w7 wu wg wv wZ;have HST2:=Jj wg.size;(have tp:∀ y,y<=N8->(∀ g,(Value.slice Av lq cv).ownBlock=some g->g≠y)->w7.heap[y]?=w4.heap[y]?:=λ y hy tT=>(wg.block y (by have:=wJ.out;simp;omega) (λ e=>tT y e.symm rfl)).trans (wV.block y (by have:=wJ.out;omega)));(have hG7:w7.heap[G]?=w4.heap[G]?:=tp G (by have:=wJ.out;omega) (λ g hg e=>by have:=(tu.out g hg).1;omega));(have hN7:w7.heap[N8]?=w4.heap[N8]?:=tp N8 (J4 _) (λ g hg e=>by have:=(tu.out g hg).2;omega));have hS7:w7.cell? ⟨N8,1,none⟩=some (.int .i64 (q:Int))/\w7.cell? ⟨G,q,none⟩=some (.slice Av lq cv):=⟨(JK (a:=⟨N8,1,none⟩) hN7).trans hS0.1,(JK (a:=⟨G,q,none⟩) hG7).trans hS0.2⟩;have th:w7.frozen? ⟨G,q,none⟩=false:=(World.frozen?_of_block (a:=⟨G,q,none⟩) hG7).trans (wU.out.row.frozen q);have wj:w7.ownsRow (G+1) 3 1 (.slice (some ⟨g',0,none⟩) ((zs (mqJ f.blocks k j q)).length+1) cap) ((zs (mqJ f.blocks k j q)).length+1) ((zs (mqJ f.blocks k j q)).map (Value.int .i64)++[.int .i64 (k:Int)]):=by rw [qg,tP.out];exact wu
        have tg:=(Gri.push (L:=λ r=>zs (mqJ f.blocks k j r)) ((wU.out.alloc (.cells #[.int .i64 (k:Int)] 3)).drewN 1) hqR wj (by show World.grownBy _ w7 (V q).ownBlock;rw [tO.out];exact wg) (by show (V q).ownBlock=_\/_;rw [tO.out];simpa using wv)).congr (L':=λ r=>zs (mqJ f.blocks k (j+1) r)) (λ r _=>by
         rw [tr.out r]
         by_cases e:r=q
         ·subst e;simp [zs]
         ·rw [if_neg e,if_neg (by omega),List.append_nil])
        rw [qg,tP.out] at tg;have sn:=Jj tg;(have sx:Hid (Below w1.heap.size w1 w7):=Jj (((wX.out.alloc wX.out.size (.cells #[.int .i64 (k:Int)] 3)).drew).grown wg (by have:=wX.out.size;simp;omega) (λ g hg=>by have:=(tu.out g hg).1;have:=wW.out;omega)));refine hK.out _ _ hS7 ?_;clear hK K' tg wj wu wg wv wZ wV tp hG7 hN7;(try simp only [J6,aS,J1,J2]);refine tk 11 52 hS7 ?_;simp only [J6,aS,J1,J2];refine wpAnyH_done (by kernel_rfl) ?_ _
        refine vL (by decide) (λ o ho K' hK=>?_);(simp only [JZ,JX,JY,J0] at ho;subst ho);have tj:=hS7.2;(go_simp);refine hK.out _ _ ?_;clear hK K' hS7 hS0 tj th;go_wp2_with fail
        go_roundw
        case rel=>exact ⟨j+1,_,by omega,by go_num,sn.out,sx.out.setCell (p:=⟨G,q,none⟩) (by show w1.heap.size<=G;rw [wW.out.1];exact J4 _) _⟩
        case measure=>simp [intOf];omega
       ·have tw:=Jj (wU.out.congr (L':=λ r=>zs (mqJ f.blocks k (j+1) r)) (λ r _=>by rw [tr.out r,if_neg (by omega),List.append_nil]));go_wp2_with fail
        go_roundw
        case rel=>exact ⟨j+1,V,by omega,by go_num,tw.out,wX.out⟩
        case measure=>simp [intOf];omega
      ·(have tw:=Jj (hg.congr (L':=λ r=>zs (mqL f.blocks (k+1) r)) (λ r _=>by rw [q9n f.blocks k r (by rw [tQ.out];omega)])));clear hg hb wm;go_wp2_with fail
       go_roundw
       case rel=>exact ⟨k+1,V,by omega,by go_num,tw.out,HB.out⟩
       case measure=>simp [intOf];omega
    ·(have tW:k=f.blocks.length:=by omega);subst tW;clear hg hb;(go_wp2_with fail);(go_ret);exact ⟨⟨G,G+1,V,rfl,by rw [wW.out.1];exact wR.out.size,HG.out⟩,wR.out.trans (HB.out.mono wR.out.size)⟩
theorem Gri.frX {w w4 w':World} {G K n t:Nat} {V:Nat->Value} {L:Nat->List Int} (h:Gri w4 G K n V L) (ht:t<n) (hf:FrX (λ b=>b=G) w w4) (hK:w.heap.size<=K) {g cap m:Nat} {o:Obj} (hg:(w4.alloc o).grownBy w' (V t).ownBlock):FrX (λ b=>b=G) w (w'.setCell ⟨G,t,none⟩ (.slice (some ⟨g,0,none⟩) m cap)) :=
 ((hf.alloc o).grown hg (λ b hb=>.inr (by have:=((h.own t ht).lt b hb).1;omega))).setCell (.inl rfl) _
def qBB (bs:List qE) (w:World) (e:Ending) (w':World):Prop :=
 (∃ G K V,e=.returned (.slice (some ⟨G,0,none⟩) bs.length bs.length)/\w.heap.size<=G/\Gri w' G K bs.length V (λ b=>zs (raL bs bs.length b)))/\Below w.heap.size w w'
set_option maxRecDepth 100000 in
set_option maxHeartbeats 8000000 in
theorem kU (f:qB) (v:Value) (w:World) (hv:VFun w v f) (hn:f.blocks.length<=1000):Calls Tryz.prog 95 #[v] w (qBB f.blocks w):=by
 have tc:=hv;obtain ⟨i0,hi,tw,tu,tr⟩:=info_parts Tryz.info3;have HI:=Jj (And.intro hi (And.intro tw (And.intro tu tr)));clear hi tw tu tr;obtain ⟨Ar,cr,A,c,rfl,-,-,-,-⟩:=hv;have HV:=Jj tc;(go_enter Tryz.func95,Tryz.ntmps95);(go_upto_region 1 with fail);obtain ⟨w1,tx,tz,tj,wm,wT,-⟩:=named w #[.int .i64 f.params,.int .i64 f.result,.slice Ar f.regs.length cr,.slice A f.blocks.length c] 30
 rw [<- tx];have c0:w1.cell? ⟨w.heap.size,0,none⟩=some (.int .i64 f.params):=wT 0 _ rfl;have c1:w1.cell? ⟨w.heap.size,1,none⟩=some (.int .i64 f.result):=wT 1 _ rfl;have c2:w1.cell? ⟨w.heap.size,2,none⟩=some (.slice Ar f.regs.length cr):=wT 2 _ rfl;have c3:w1.cell? ⟨w.heap.size,3,none⟩=some (.slice A f.blocks.length c):=wT 3 _ rfl;have HC:=Jj (And.intro c0 (And.intro c1 (And.intro c2 c3)));have sh:=Jj wm;have wY:=Jj tz;have HN:=Jj (jt f _ w1 (VFun.keep tj tc) (by omega))
 clear tx tz wm wT tc tj;(go_wp2_with fail);refine HN.out.mono ?_;rintro e w2 ⟨⟨V1,G1,rfl,hG1,tm⟩,wW⟩;have tq:Hid (Below w1.heap.size w1 w2):=Jj wW;have hG1l:G1<w2.heap.size:=tm.row.lt;(have tK:=Jj (tm.reads (by omega) (λ i hi x hx=>by obtain ⟨q,hq,rfl⟩:=y4 hx;have:=zD f.blocks i q hq;unfold I64;omega)));have tP:=run_make_row' (P:=Tryz.prog) 65 27 (.slice none 0 0) 24 Tryz.underlying65 Tryz.info27 rfl .i64 .i64 f.blocks.length (by omega) (by omega);have tC:∀ i,w2.cell? ⟨w.heap.size,i,none⟩=w1.cell? ⟨w.heap.size,i,none⟩:=λ i=>wW.cell (p:=⟨w.heap.size,i,none⟩) (by have:=wY.out;show w.heap.size<_;omega)
 (have hN2:w.heap.size<w2.heap.size:=by have:=wW.size;have:=wY.out;omega);clear c0 c1 c2 c3 hG1 tm wW HN;(go_upto_region 3 with fail);clear tP;obtain ⟨G,hG⟩:∃ G,G=w2.heap.size:=⟨_,rfl⟩;obtain ⟨w4,wM⟩:∃ w4,w4=w2.alloc (.cells (madeCells #[.slice none 0 0] f.blocks.length) 27):=⟨_,rfl⟩;(have wV:Below w2.heap.size w2 w4:=by rw [wM];exact (J5 _ _).alloc (J4 _) _);(have tX:Hid (∀ K,G<K->Gri w4 G K f.blocks.length (λ _=>.slice none 0 0) (λ _=>[])):=Jj (λ K hK=>by rw [wM];exact Gri.made w2 G K _ hG hK));have hG4:G<w4.heap.size:=by rw [wM,hG];simp
 have sf:Hid (Below w1.heap.size w1 w4):=Jj (tq.out.trans (wV.mono tq.out.size));(have tJ:Hid (w1.heap.size<=G/\w2.heap.size=G):=Jj ⟨by rw [hG];exact tq.out.size,hG.symm⟩);have wX:=Jj wV;have wZ:Hid (G1<G):=Jj (by omega);have wR:∀ i,w4.cell? ⟨w.heap.size,i,none⟩=w1.cell? ⟨w.heap.size,i,none⟩:=λ i=>(wV.cell (p:=⟨w.heap.size,i,none⟩) hN2).trans (tC i);have c0:=(wR 0).trans HC.out.1;have c1:=(wR 1).trans HC.out.2.1;have c2:=(wR 2).trans HC.out.2.2.1;have c3:=(wR 3).trans HC.out.2.2.2
 (have wv:Hid (Below w.heap.size w w4):=Jj (sh.out.trans (sf.out.mono (by have:=wY.out;omega))));have tF:=Jj (j3 f _ w4 (VFun.keep (q7 wv.out) HV.out) hn);rw [<- wM,<- hG];clear wM hG tC wR wV hN2;(go_wp2_with fail);refine tF.out.mono ?_;rintro e w6 ⟨⟨R,rfl,hR,td⟩,wj⟩;(have tE:=(tX.out w6.heap.size (by have:=wj.size;omega)).of_blocks (w':=w6) (wj.block G hG4) (λ g h1 h2=>by have:=wj.size;omega));have tZ:=Jj (tE.congr (L':=λ b=>zs (raL f.blocks 0 b)) λ i _=>rfl)
 have tR:=Jj td;have tT:Hid (G<R):=Jj (by omega)
 have HN6:Hid (SL w6 1 RRow (some ⟨G1,0,none⟩) f.blocks.length ((List.range f.blocks.length).map λ i=>zs (nxF f.blocks i))):=Jj (by
  have wu:Kept w2 w6:=(q7 wX.out).trans (q7 wj)
  exact SL.keep wu (RRow.keep wu) tK.out)
 have tN:Hid (Below w.heap.size w w6):=Jj (wv.out.trans (wj.mono wv.out.size));have hR6:R<w6.heap.size:=td.lt
 have tH:Hid (∀ w',FrX (λ b=>b=G) w6 w'->SL w' 1 RRow (some ⟨G1,0,none⟩) f.blocks.length ((List.range f.blocks.length).map λ i=>zs (nxF f.blocks i))):=Jj (λ w' hf=>by
  have wu:Below w2.heap.size w2 w':=(wX.out.trans (wj.mono wX.out.size)).trans (hf.below (by have:=wX.out.size;have:=wj.size;omega) (λ b hb=>by have:=tJ.out.2;omega))
  exact SL.keep (q7 wu) (RRow.keep (q7 wu)) tK.out)
 (have wJ:Hid (w.heap.size<=G/\G<w6.heap.size):=Jj (by have:=tJ.out.1;have:=wY.out;have:=wj.size;omega));clear tE td wj hR c0 c1 c2 c3 tF;go_wp2_with fail
 go_loopw [17] (λ s17 wq=>∃ (k:Nat) (V:Nat->Value),k<=f.blocks.length/\s17=.int .i64 (k:Int)/\Gri wq G w6.heap.size f.blocks.length V (λ b=>zs (raL f.blocks k b))/\FrX (λ b=>b=G) w6 wq) (λ s17 _=>f.blocks.length - (intOf s17).toNat)
 case atStart=>exact ⟨0,_,Nat.zero_le _,rfl,tZ.out,FrX.refl _ _⟩
 case round =>
  obtain ⟨k,V,hk,rfl,hg,wh⟩:=hrel;obtain ⟨wo,rfl⟩:∃ wo,wo=wr:=⟨wr,rfl⟩;have HG:=Jj hg;have tL:=Jj wh
  by_cases th:k<f.blocks.length
  ·(have xr:=(tR.out.of_block (wh.block R hR6 (by have:=tT.out;omega))).cell th);(have hk0:(0:Int)<=k:=by omega);(have tj:(k:Int)<f.blocks.length:=by omega);cases ww:qI f.blocks k
   ·have tU:=Jj (hg.congr (L':=λ b=>zs (raL f.blocks (k+1) b)) λ b _=>by rw [q9V ww]);rw [ww] at xr;clear hg wh ww;go_wp2_with fail
    go_roundw
    case rel=>exact ⟨k+1,V,by omega,by go_num,tU.out,tL.out⟩
    case measure=>simp [intOf];omega
   ·rw [ww] at xr;have tS:=Jj ww;(obtain ⟨bg,og,l,wU,hl,tp⟩:=(tH.out wo wh).at_ (k:=k) (by simp;exact th));simp only [J0,Addr.mk.injEq,and_true] at wU;obtain ⟨rfl,rfl⟩:=wU;have tg:l=zs (nxF f.blocks k):=(qu _ hl.out).1;subst tg;obtain ⟨A2,c2,hcA,hslA⟩:=tp;have hcA:wo.cell? ⟨G1,k,none⟩=some (.slice A2 (nxF f.blocks k).length c2):=by rw [Nat.mul_one,Nat.zero_add,qg] at hcA;exact hcA
    have sc:Hid (∀ w',FrX (λ b=>b=G) w6 w'->w'.cell? ⟨G1,k,none⟩=some (.slice A2 (nxF f.blocks k).length c2)):=Jj (λ w' hf=>by
     (have:=hf.block G1 (by have:=wJ.out;have:=wZ.out;omega) (by have:=wZ.out;omega));have h2:=wh.block G1 (by have:=wJ.out;have:=wZ.out;omega) (by have:=wZ.out;omega)
     exact (JK (a:=⟨G1,k,none⟩) (this.trans h2.symm)).trans hcA)
    (have hnl:(nxF f.blocks k).length<=f.blocks.length:=by unfold nxF;split;exact xI _ _;simp);have tY:=Jj (hg.congr (L':=λ b=>zs (raJ f.blocks k 0 b)) λ b _=>by rw [q7w]);clear hg wh ww hslA hl;(go_upto_region 8 with fail);clear hcA
    go_loopw [29] (λ s29 wq=>∃ (j:Nat) (V:Nat->Value),j<=(nxF f.blocks k).length/\s29=.int .i64 (j:Int)/\Gri wq G w6.heap.size f.blocks.length V (λ b=>zs (raJ f.blocks k j b))/\FrX (λ b=>b=G) w6 wq) (λ s29 _=>(nxF f.blocks k).length - (intOf s29).toNat)
    case atStart=>exact ⟨0,V,Nat.zero_le _,rfl,tY.out,tL.out⟩
    case round =>
     obtain ⟨j,V2,hj,rfl,hg,wh⟩:=hrel;have ta:=Jj hg;have tM:=Jj wh
     by_cases tQ:j<(nxF f.blocks k).length
     ·(obtain ⟨bg,og,l,wU,hl,tp⟩:=(tH.out wr wh).at_ (k:=k) (by simp;exact th));simp only [J0,Addr.mk.injEq,and_true] at wU;obtain ⟨rfl,rfl⟩:=wU;have tg:l=zs (nxF f.blocks k):=(qu _ hl.out).1;subst tg;obtain ⟨A3,c3,hcA3,hslA⟩:=tp;have hcA4:=sc.out wr wh;rw [Nat.mul_one,Nat.zero_add,qg] at hcA3;rw [hcA3] at hcA4
      simp only [J0,Value.slice.injEq] at hcA4;obtain ⟨rfl,-,rfl⟩:=hcA4;(obtain ⟨bt,ot,x,rfl,hx,tO,-⟩:=hslA.int (k:=j) (by rw [qg];exact tQ));obtain ⟨t,ht,rfl⟩:=jD hx.out;have wO:t<f.blocks.length:=zD f.blocks k t (Jz ht);(have hj0:(0:Int)<=j:=by omega);(have hj1:(j:Int)<(nxF f.blocks k).length:=by omega);(have ht0:(0:Int)<=t:=by omega);have ht1:(t:Int)<f.blocks.length:=by omega
      have tf:=hg.row.cell wO;have wQ:=hg.row.frozen t;have tB:=hg.own t wO;have tG:=Jj tB;have HT:=Jj ht;have hll:(zs (raJ f.blocks k j t)).length<=2000:=by
       (rw [qg];unfold raJ);have:=q5j f.blocks k t;rw [List.length_append]
       split <;> simp <;> omega
      have hz6:=wh.size;clear hg wh hx ht hl hcA3 hslA tB;go_wp2_with (at_builtin;refine wpList_append_lies _ rfl (.tmp 38) (.tmp 40) 27 rfl w6.heap.size 3 i0 (.int .i64 0) 1 8 Tryz.underlying27 HI.out.1 HI.out.2.1 HI.out.2.2.1 HI.out.2.2.2 rfl (by decide) (V2 t) _ _ rfl (tG.out.alloc _) ⟨wr.heap.size,0,none⟩ 1 1 [.int .i64 (k:Int)] rfl rfl ?e1 ?e2 ?e0 ?e3 ?e4 ?e5 (wr.heap.size+1) ?e6 ?_)
      case e1=>exact qm wr _ _ rfl
      case e2=>exact ints_oneCell .i64 [(k:Int)]
      case e0=>omega
      case e3=>unfold maxLen;omega
      case e4=>omega
      case e5=>simp;omega
      case e6=>simp
      intro g cap w7 wk wg wl hlt7;have tD:=Gri.push (ta.out.alloc _) wO wk wg (by simpa using wl)
      have tV:=Jj (tD.congr (L':=λ b=>zs (raJ f.blocks k (j+1) b)) λ b _=>by
       show (if b=t then zs (raJ f.blocks k j t)++[(k:Int)] else zs (raJ f.blocks k j b))=_;rw [<- q7x HT.out b]
       by_cases e:b=t
       ·rw [if_pos e,if_pos e,yG]
       ·rw [if_neg e,if_neg e])
      have sb:=Jj (ta.out.frX wO tM.out (J4 _) wg (g:=g) (cap:=cap) (m:=(zs (raJ f.blocks k j t)).length+1));(have hG7:w7.heap[G]?=(wr.alloc (.cells #[.int .i64 (k:Int)] 3)).heap[G]?:=wg.block _ (by have:=wJ.out;simp;omega) (λ e=>by have:=(tG.out.lt _ e.symm).1;have:=wJ.out;omega));have hrow7:=(JK (a:=⟨G,t,none⟩) hG7).trans ((ta.out.row.alloc _).cell wO);have hfr7:=(World.frozen?_of_block (a:=⟨G,t,none⟩) hG7).trans ((ta.out.row.alloc _).frozen t);clear tD wk wg wl hG7 tf wQ tO;go_wp2_with fail
      go_roundw
      case rel=>exact ⟨j+1,_,by omega,by go_num,tV.out,sb.out⟩
      case measure=>simp [intOf];omega
     ·have tW:=Jj (hg.congr (L':=λ b=>zs (raL f.blocks (k+1) b)) λ b _=>by rw [q9W tS.out (by omega)]);clear hg wh;go_wp2_with fail
      go_roundw
      case rel=>exact ⟨k+1,V2,by omega,by go_num,tW.out,tM.out⟩
      case measure=>simp [intOf];omega
  ·(have wu:k=f.blocks.length:=by omega);subst wu;(have sd:Hid (Below w.heap.size w wo):=Jj (tN.out.trans (wh.below tN.out.size (λ y hy=>by have:=wJ.out;omega))));clear hg wh;(go_wp2_with fail);(go_ret);exact ⟨⟨G,_,V,rfl,wJ.out.1,HG.out⟩,sd.out⟩
end Go.Proofs.YtfoggldjjnabcaaGreatDoor
