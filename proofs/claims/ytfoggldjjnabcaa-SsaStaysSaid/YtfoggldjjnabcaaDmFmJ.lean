/- The program's closed frontier of a register. -/
import Derived.Test.YtfoggldjjnabcaaSpecJ
import Derived.Test.YtfoggldjjnabcaaAheadJ
import Derived.Test.YtfoggldjjnabcaaInfBJ
import Derived.Test.YtfoggldjjnabcaaGrYJ
import Derived.Test.YtfoggldjjnabcaaGrNmJ
import Derived.Deep.AppendLies
import Derived.Test.YtfoggldjjnabcaaGrMJ
namespace Go.Proofs.Ytfoggldjjnabcaa
open Go.ChangeShapes Go.WideShapes Go.RowKit Go.Deep
set_option linter.unusedVariables false
set_option linter.unusedSimpArgs false
section
variable {fr:Nat→List Nat} {mk:Nat→Bool} {n:Nat}
structure ClS (fr:Nat→List Nat) (mk:Nat→Bool) (n:Nat) (I:Nat→Bool) (op:List Nat):Prop where
  snd:∀ b,I b=true→b<n∧ClG fr mk n b
  ops:∀ x∈op,x<n∧(mk x=true∨I x=true)
  all:∀ x,x<n→(mk x=true∨I x=true)→x∈op∨∀ b∈fr x,I b=true
structure ClR (fr:Nat→List Nat) (mk:Nat→Bool) (n:Nat) (I:Nat→Bool) (op:List Nat) (l i:Nat):Prop where
  snd:∀ b,I b=true→b<n∧ClG fr mk n b
  ops:∀ x∈op,x<n∧(mk x=true∨I x=true)
  all:∀ x,x<n→(mk x=true∨I x=true)→x∈op∨(∀ b∈fr x,I b=true)∨x=l
  lt:l<n
  ml:mk l=true∨I l=true
  done:∀ b∈(fr l).take i,I b=true
theorem ClS.pop {I:Nat→Bool} {op:List Nat} {l:Nat} (h:ClS fr mk n I (op++[l])):ClR fr mk n I op l 0:=by
  refine ⟨h.snd,fun x hx=>h.ops x (List.mem_append_left _ hx),fun x hx hm=>?_,(h.ops l (by simp)).1,(h.ops l (by simp)).2,fun b hb=>by simp at hb⟩;rcases h.all x hx hm with h1 | h1
  · rcases List.mem_append.1 h1 with h2 | h2
    · exact .inl h2
    · exact .inr (.inr (List.mem_singleton.1 h2))
  · exact .inr (.inl h1)
theorem ClR.all_ {I:Nat→Bool} {op:List Nat} {l i:Nat} (h:ClR fr mk n I op l i) (hi:(fr l).length≤i):ClS fr mk n I op:=by
  refine ⟨h.snd,h.ops,fun x hx hm=>?_⟩;rcases h.all x hx hm with h1 | h1 | h1
  · exact .inl h1
  · exact .inr h1
  · subst h1;exact .inr fun b hb=>h.done b (by rwa [List.take_of_length_le hi])
theorem ClR.skip {I:Nat→Bool} {op:List Nat} {l i b:Nat} (h:ClR fr mk n I op l i) (hb:(fr l)[i]?=some b) (hI:I b=true):ClR fr mk n I op l (i+1):=by
  refine ⟨h.snd,h.ops,h.all,h.lt,h.ml,fun c hc=>?_⟩;rw [qC hb,List.mem_append,List.mem_singleton] at hc;rcases hc with hc | rfl
  · exact h.done c hc
  · exact hI
theorem ClR.mark {I:Nat→Bool} {op:List Nat} {l i b:Nat} (hfr:∀ a,∀ x∈fr a,x<n) (h:ClR fr mk n I op l i) (hb:(fr l)[i]?=some b):ClR fr mk n (fun x=>if x=b then true else I x) (op++[b]) l (i+1):=by
  have hbm:=List.mem_of_getElem? hb;(have hup:∀ x,I x=true→(if x=b then true else I x)=true:=fun x hx=>by by_cases e:x=b <;> simp [e,hx]);refine ⟨fun c hc=>?_,fun x hx=>?_,fun x hx hm=>?_,h.lt,h.ml.imp id (hup l),fun c hc=>?_⟩
  · by_cases e:c=b
    · subst e;refine ⟨hfr l c hbm,?_⟩;rcases h.ml with hm | hm
      · exact .of h.lt hm hbm
      · exact .on h.lt (h.snd l hm).2 hbm
    · rw [if_neg e] at hc;exact h.snd c hc
  · rw [List.mem_append,List.mem_singleton] at hx;rcases hx with hx | rfl
    · exact ⟨(h.ops x hx).1,(h.ops x hx).2.imp id (hup x)⟩
    · exact ⟨hfr l x hbm,.inr (if_pos rfl)⟩
  · by_cases e:x=b
    · subst e;exact .inl (by simp)
    · rw [if_neg e] at hm;rcases h.all x hx hm with h1 | h1 | h1
      · exact .inl (List.mem_append_left _ h1)
      · exact .inr (.inl fun c hc=>hup c (h1 c hc))
      · exact .inr (.inr h1)
  · rw [qC hb,List.mem_append,List.mem_singleton] at hc;rcases hc with hc | rfl
    · exact hup c (h.done c hc)
    · exact if_pos rfl
theorem ClS.start {mks:List Nat} (hm:∀ x∈mks,x<n):ClS fr (fun x=>decide (x∈mks)) n (fun _=>false) mks :=
  ⟨fun b hb=>by simp at hb,fun x hx=>⟨hm x hx,.inl (decide_eq_true hx)⟩,fun x hx h=>by
    rcases h with h | h
    · exact .inl (of_decide_eq_true h)
    · simp at h⟩
theorem ClS.end_ {I:Nat→Bool} (hfr:∀ a,∀ x∈fr a,x<n) (h:ClS fr mk n I []) (b:Nat):I b=clC fr mk n b:=by
  rw [Bool.eq_iff_iff,clC_iff (fun b=>hfr b)];refine ⟨fun hb=>(h.snd b hb).2,fun hc=>?_⟩
  induction hc with
  | of hx hm hb =>
    rcases h.all _ hx (.inl hm) with h1 | h1
    · cases h1
    · exact h1 _ hb
  | on hx hc hb ih =>
    rcases h.all _ hx (.inr ih) with h1 | h1
    · cases h1
    · exact h1 _ hb
def msC (n:Nat) (I:Nat→Bool) (op:List Nat):Nat:=op.length+2 * (n - cntF n I)
theorem msC_mark {I:Nat→Bool} {op:List Nat} {b:Nat} (hb:b<n) (hI:I b=false):msC n (fun x=>if x=b then true else I x) (op++[b])<msC n I op:=by
  (have h1:=cntF_lt (n:=n) (b:=b) (o:=I) (o':=fun x=>if x=b then true else I x) (fun x hx=>by by_cases e:x=b <;> simp [e,hx]) hb hI (if_pos rfl));have h2:=cntF_le n (fun x=>if x=b then true else I x);unfold msC;rw [List.length_append];simp only [List.length_cons,List.length_nil];omega
theorem msC_le (I:Nat→Bool) (op:List Nat):msC n I op≤op.length+2 * n:=by unfold msC;omega
theorem msC_len (I:Nat→Bool) (op:List Nat):op.length≤msC n I op:=by unfold msC;omega
end
def ToldCs (fr:Nat→List Nat) (mks:List Nat) (n:Nat) (w:World) (e:Ending) (w':World):Prop :=
  (∃ Q,e=.returned (.slice (some ⟨Q,0,none⟩) n n)∧w.heap.size≤Q∧w'.rowIs Q 4 n (fun x=>.bool (clC fr (fun x=>decide (x∈mks)) n x)))∧Below w.heap.size w w'
set_option maxRecDepth 100000 in
set_option maxHeartbeats 16000000 in
theorem closed_any (n:Nat) (fr:Nat→List Nat) (mks:List Nat) (Af:Option Addr) (cf:Nat) (vm:Value) (w:World) (hf:SL w 1 RRow Af cf ((List.range n).map fun a=>zs (fr a))) (hm:VS w 1 RInt vm (zs mks))
    (hn:n≤1000) (hml:mks.length≤1000000) (hfr:∀ a,∀ x∈fr a,x<n) (hmk:∀ x∈mks,x<n) :
    Calls Try.prog 37 #[.slice Af n cf,vm] w (ToldCs fr mks n w):=by
  obtain ⟨i0,hi,hz0,hz1,hz2⟩:=info_parts Try.info3;have HI:=Lib.hid (And.intro hi (And.intro hz0 (And.intro hz1 hz2)));clear hi hz0 hz1 hz2;have hm0:=hm;obtain ⟨Am,cm,rfl,-⟩:=hm;have HF:=Lib.hid hf;have HM:=Lib.hid hm0;have HFR:=Lib.hid hfr;have HMK:=Lib.hid hmk
  have hmk_:=run_make_row' (P:=Try.prog) 59 4 (.bool false) 1 Try.underlying59 Try.info4 rfl .i64 .i64 n (by omega) (by omega);have hzl:(zs mks).length=mks.length:=qP mks;clear hf hm0 hfr hmk;(go_enter Try.func37,Try.ntmps37);(go_upto_region 2 with fail);clear hmk_;obtain ⟨Q,hQ⟩:∃ Q,Q=w.heap.size:=⟨_,rfl⟩;obtain ⟨w1,hw1⟩:∃ w1,w1=w.alloc (.cells (madeCells #[.bool false] n) 4):=⟨_,rfl⟩;have hb1:Below w.heap.size w w1:=by rw [hw1];exact (Below.refl _ _).alloc (Nat.le_refl _) _
  (have HROW:Hid (w1.rowIs Q 4 n (fun x=>.bool false)):=Lib.hid (by rw [hw1,hQ];exact World.rowIs_made w (.bool false) n 4));have HB1:=Lib.hid hb1;(have HQ:Hid (w.heap.size=Q∧Q<w1.heap.size):=Lib.hid ⟨hQ.symm,by rw [hw1,hQ];simp⟩);rw [← hw1,← hQ];clear hw1 hQ hb1;(go_wp2_with fail);have hcl:Calls Try.prog 26 #[.slice Am mks.length cm] w1 (ToldC_ (zs mks) w1):=by
    have h:=qt (zs mks) _ w1 (VInts.keep (q6 HB1.out) HM.out) (by omega)
    rwa [hzl] at h
  refine hcl.mono ?_;clear hcl;rintro e w2 ⟨⟨vo,rfl,ho⟩,hb2⟩;rw [hzl] at ho;have HROW2:Hid (w2.rowIs Q 4 n (fun x=>.bool false)):=Lib.hid (HROW.out.of_block (hb2.block Q HQ.out.2));have HB2:Hid (Below w.heap.size w w2):=Lib.hid (HB1.out.trans (hb2.mono HB1.out.size));have HO2:Hid (w2.ownsRow w1.heap.size 3 1 vo mks.length ((zs mks).map (Value.int .i64))):=Lib.hid ho;have HZ12:=Lib.hid hb2.size;clear ho hb2
  (go_wp2_with fail);go_loopg [6] (msC n (fun _=>false) mks) (fun gk s6 wq=>∃ (I:Nat→Bool) (op:List Nat),gk=msC n I op∧ClS fr (fun x=>decide (x∈mks)) n I op∧wq.rowIs Q 4 n (fun x=>.bool (I x))∧wq.ownsRow w1.heap.size 3 1 s6 op.length ((zs op).map (Value.int .i64))∧Below w.heap.size w wq∧w1.heap.size≤wq.heap.size∧msC n I op≤2000000)
  case atStart=>exact ⟨_,mks,rfl,ClS.start HMK.out,HROW2.out,HO2.out,HB2.out,HZ12.out,by have:=msC_le (n:=n) (fun _=>false) mks;omega⟩
  case round =>
    obtain ⟨I,op,hgk,hcs,hrow,how,hbw,hzw,hms⟩:=hrel;have HGK:=Lib.hid hgk;have HCS:=Lib.hid hcs;have HRW:=Lib.hid hrow;have HBW:=Lib.hid hbw;have HZW:=Lib.hid hzw;have HMS:=Lib.hid hms;rcases List.eq_nil_or_concat op with he | ⟨op',l,he⟩
    · subst he;obtain ⟨A6,c6,rfl⟩:=qL how;clear hgk hcs hrow how hbw hzw hms;(go_wp2_with fail);(go_ret);exact ⟨⟨Q,rfl,by rw [← HQ.out.1];exact Nat.le_refl _,HRW.out.congr fun x _=>by rw [HCS.out.end_ HFR.out x]⟩,HBW.out⟩
    · rw [List.concat_eq_append] at he;subst he;obtain ⟨g,cap,rfl,hcell,hcap,hcm,hrun,hpop⟩:=own_pop how;(have hl0:(op'++[l]).length=op'.length+1:=by simp);have hgK:=(how.lt g rfl).1;have hR:=hcs.pop;have hln:=hR.lt;have HR:=Lib.hid hR;have HPOP:=Lib.hid hpop
      (have hopl:op'.length≤2000000:=by have:=msC_len (n:=n) I (op'++[l]);omega);(have HM1:Hid (msC n I op'+1≤msC n I (op'++[l])):=Lib.hid (by unfold msC;rw [hl0];omega));obtain ⟨lo,hlo⟩:∃ lo,op'.length=lo:=⟨_,rfl⟩;have HLO:=Lib.hid hlo;rw [hlo] at hcell hcap hrun hopl;have ew:IntKind.i64.wrap (lo:Int)=(lo:Int):=Go.IntWalk.i64_in _ (by omega);(have q0:(0:Int)≤lo:=by omega);(have q1:(lo:Int)<(lo:Int)+1:=by omega);obtain ⟨bf,of_,rw_,hAf,hrx,Ar,ar,hrc0,hrs⟩:=HF.out.at_ (k:=l) (by simp;exact hln)
      have hrc:=(q6 hbw) _ _ hrc0;(obtain rfl:zs (fr l)=rw_:=by have h:=hrx.out;rw [List.getElem?_map,List.getElem?_range hln] at h;exact Option.some.inj h);subst hAf;rw [qP,Nat.mul_one] at hrc;(have hll0:(0:Int)≤l:=by omega);(have hll1:(l:Int)<n:=by omega);have hfl:=hrs.len;rw [qP] at hfl;have HRS:=Lib.hid hrs
      have hFL:(fr l).length≤9223372036854775807:=hfl;rw [hlo];clear hgk hcs hrow how hbw hzw hms hR hpop hl0 hlo hrx hrs hfl hrc0;(go_wp2_with (simp only [ew,hrun]));clear hrun hcell hrc
      go_loopw [6,34] (fun s6 s34 wq=>∃ (I':Nat→Bool) (op2:List Nat) (j:Nat),j≤(fr l).length∧s34=.int .i64 (j:Int)∧ClR fr (fun x=>decide (x∈mks)) n I' op2 l j∧wq.rowIs Q 4 n (fun x=>.bool (I' x))∧wq.ownsRow w1.heap.size 3 1 s6 op2.length ((zs op2).map (Value.int .i64))∧Below w.heap.size w wq∧w1.heap.size≤wq.heap.size∧msC n I' op2≤msC n I op') (fun _ s34 _=>(fr l).length - (intOf s34).toNat)
      case atStart=>exact ⟨I,op',0,Nat.zero_le _,rfl,HR.out,HRW.out,by have h:=HPOP.out;rw [HLO.out] at h;rw [HLO.out];exact h,HBW.out,HZW.out,Nat.le_refl _⟩
      case round =>
        obtain ⟨I',op2,j,hj,rfl,hR,hrow,how,hbw,hzw,hms⟩:=hrel;have HR2:=Lib.hid hR;have HRW2:=Lib.hid hrow;have HOW2:=Lib.hid how;have HBW2:=Lib.hid hbw;have HZW2:=Lib.hid hzw;have HMS2:=Lib.hid hms
        by_cases hjl:j<(fr l).length
        · (obtain ⟨bx,ox,x,hA,hx,hxc,-⟩:=(SInts.keep (q6 hbw) HRS.out).int (k:=j) (by rw [qP];exact hjl));obtain ⟨b,hb,rfl⟩:=zs_at hx.out;have hbn:=HFR.out l b (List.mem_of_getElem? hb);(have hb0:(0:Int)≤b:=by omega);(have hb1:(b:Int)<n:=by omega);subst hA;have hrb:=hrow.cell hbn;have hrf:=hrow.frozen b;have HB:=Lib.hid hb
          clear hR hrow how hbw hzw hms hx hb;cases hI:I' b
          · rw [hI] at hrb;have HIB:=Lib.hid hI;(have hop2:op2.length≤2000000:=by have h1:=msC_len (n:=n) I' op2;have:=HMS2.out;have:=HM1.out;have:=HMS.out;omega);obtain ⟨A6,c6,rfl⟩:=qL HOW2.out;obtain ⟨wS,hwS⟩:∃ wS,wS=wr.setCell ⟨Q,b,none⟩ (.bool true):=⟨_,rfl⟩;(have HSR:Hid (wS.rowIs Q 4 n (fun x=>.bool (if x=b then true else I' x))):=Lib.hid (by rw [hwS];exact (HRW2.out.set b (.bool true)).congr fun x hx=>by by_cases e:x=b <;> simp [e]));(have HSO:Hid (wS.ownsRow w1.heap.size 3 1 (.slice A6 op2.length c6) op2.length ((zs op2).map (Value.int .i64))):=Lib.hid (by rw [hwS];exact ownsRow_setCell_below HOW2.out (a:=⟨Q,b,none⟩) HQ.out.2 _));(have HSB:Hid (Below w.heap.size w wS):=Lib.hid (by rw [hwS];exact HBW2.out.setCell (by show w.heap.size≤Q;rw [HQ.out.1];exact Nat.le_refl _) _));have HSZ:Hid (w1.heap.size≤wS.heap.size):=Lib.hid (by rw [hwS];simpa using HZW2.out)
            clear hI;(go_upto_region 11 with fail);rw [← hwS];clear hwS hrb hrf;go_wp2_with (at_builtin;refine wpList_append_lies _ rfl (.tmp 46) (.tmp 48) 28 rfl w1.heap.size 3 i0 (.int .i64 0) 1 8 Try.underlying28 HI.out.1 HI.out.2.1 HI.out.2.2.1 HI.out.2.2.2 rfl (by decide) _ _ _ rfl (HSO.out.alloc _) ⟨wS.heap.size,0,none⟩ 1 1 [.int .i64 (b:Int)] rfl rfl ?e1 ?e2 (by decide) ?e3 ?e4 ?e5 (wS.heap.size+1) ?e6 ?_)
            case e1=>exact qR wS _ _ rfl
            case e2=>exact ints_oneCell .i64 [(b:Int)]
            case e3=>unfold maxLen;omega
            case e4=>omega
            case e5=>have:=HSZ.out;simp;omega
            case e6=>simp
            intro g7 cap7 w7 hown7 hgrow7 hloc7 hlt7;have HO7:=Lib.hid hown7;(have HB7:Hid (Below w.heap.size w w7):=Lib.hid ((HSB.out.alloc HSB.out.size _).grown hgrow7 (by have:=HSB.out.size;simp;omega) (fun k hk=>by have h1:=(HSO.out.lt k hk).1;have:=HB1.out.size;omega)));(have HR7:Hid (w7.rowIs Q 4 n (fun x=>.bool (if x=b then true else I' x))):=Lib.hid ((HSR.out.alloc _).of_block (hgrow7.block Q (by have:=HSR.out.lt;simp;omega) (fun e=>by have h1:=(HSO.out.lt Q e.symm).1;have:=HQ.out.2;omega))));(have HZ7:Hid (w1.heap.size≤w7.heap.size):=Lib.hid (by have:=hgrow7.size;have:=HSZ.out;simp at this ⊢;simp at *;omega));clear hown7 hgrow7 hloc7 hlt7;go_wp2_with fail
            go_roundw
            case rel=>exact ⟨_,op2++[b],j+1,by omega,by go_num,HR2.out.mark HFR.out HB.out,HR7.out,by rw [zs_snoc,List.map_append,List.length_append];exact HO7.out,HB7.out,HZ7.out,by have:=msC_mark (n:=n) (op:=op2) hbn HIB.out;have:=HMS2.out;omega⟩
            case measure=>simp [intOf];omega
          · rw [hI] at hrb;have HIB:=Lib.hid hI;clear hI;go_wp2_with fail
            go_roundw
            case rel=>exact ⟨I',op2,j+1,by omega,by go_num,HR2.out.skip HB.out HIB.out,HRW2.out,HOW2.out,HBW2.out,HZW2.out,HMS2.out⟩
            case measure=>simp [intOf];omega
        · clear hR hrow how hbw hzw hms;(go_wp2_with fail);go_roundg (msC n I' op2)
          case rel=>exact ⟨I',op2,rfl,HR2.out.all_ (by omega),HRW2.out,HOW2.out,HBW2.out,HZW2.out,by have:=HMS2.out;have:=HM1.out;have:=HMS.out;omega⟩
          case measure=>have:=HMS2.out;have:=HM1.out;have:=HGK.out;omega
end Go.Proofs.Ytfoggldjjnabcaa

namespace Go.Proofs.Ytfoggldjjnabcaa
open Go.ChangeShapes Go.WideShapes Go.RowKit Go.Deep
set_option linter.unusedVariables false
set_option linter.unusedSimpArgs false
theorem Gri.put {w:World} {G K n t:Nat} {V:Nat→Value} {L:Nat→List Int} (h:Gri w G K n V L) {u:Value} {l:List Int} (hu:w.ownsRow K 3 1 u l.length (l.map (Value.int .i64))) (ha:∀ i,i<n→(V i).ownBlock=none∨(V i).ownBlock≠u.ownBlock) :
    Gri (w.setCell ⟨G,t,none⟩ u) G K n (updF V t u) (updF L t l):=by
  refine ⟨(h.row.set t u).congr fun v _=>by unfold updF;rfl,fun i hi=>?_,fun i j hi hj hij=>?_,h.lt⟩
  · by_cases e:i=t
    · subst e;rw [qB,qB];exact ownsRow_setCell_below hu (a:=⟨G,i,none⟩) h.lt _
    · rw [q7 _ _ e,q7 _ _ e];exact ownsRow_setCell_below (h.own i hi) (a:=⟨G,t,none⟩) h.lt _
  · by_cases ei:i=t
    · (subst ei;rw [qB]);rw [q7 _ _ (Ne.symm hij)];cases hb:u.ownBlock with
      | none=>exact .inl rfl
      | some b =>
        right;rcases ha j hj with h1 | h1
        · rw [h1];intro e;cases e
        · rw [hb] at h1;exact Ne.symm h1
    · rw [q7 _ _ ei]
      by_cases ej:j=t
      · subst ej;rw [qB];exact ha i hi
      · rw [q7 _ _ ej];exact h.apart i j hi hj hij
def insA (bs:List BlkD) (i:Nat):List InsD:=(bs.getD i default).ins
def mqI (k r:Nat) (l:List InsD):List Nat:=l.filterMap fun x=>if x.dst=(r:Int) then some k else none
def mqL (bs:List BlkD) (k r:Nat):List Nat:=0::(List.range k).flatMap fun i=>mqI i r (insA bs i)
def mqJ (bs:List BlkD) (k j r:Nat):List Nat:=mqL bs k r++mqI k r ((insA bs k).take j)
theorem insA_at {bs:List BlkD} {k:Nat} {b:BlkD} (h:bs[k]?=some b):insA bs k=b.ins:=by unfold insA;rw [List.getD_eq_getElem?_getD,h];rfl
theorem mqJ_zero (bs:List BlkD) (k r:Nat):mqJ bs k 0 r=mqL bs k r:=by unfold mqJ mqI;simp
theorem mqJ_all (bs:List BlkD) (k r:Nat) {j:Nat} (h:(insA bs k).length≤j):mqJ bs k j r=mqL bs (k+1) r:=by
  unfold mqJ mqL;rw [List.take_of_length_le h,List.range_succ,List.flatMap_append];simp
theorem mqJ_succ {bs:List BlkD} {k j:Nat} {x:InsD} (h:(insA bs k)[j]?=some x) (r:Nat):mqJ bs k (j+1) r=mqJ bs k j r++(if x.dst=(r:Int) then [k] else []):=by
  unfold mqJ mqI;rw [qC h,List.filterMap_append,List.append_assoc];congr 2
  by_cases e:x.dst=(r:Int) <;> simp [e]
theorem mqI_len (k r:Nat) (l:List InsD):(mqI k r l).length≤l.length:=by unfold mqI;exact List.length_filterMap_le _ _
theorem mqI_mem {k r:Nat} {l:List InsD} {x:Nat} (h:x∈mqI k r l):x=k∧∃ y∈l,y.dst=(r:Int):=by
  unfold mqI at h;rw [List.mem_filterMap] at h;obtain ⟨y,hy,e⟩:=h
  split at e
  · rename_i hd;cases e;exact ⟨rfl,y,hy,hd⟩
  · cases e
theorem mqL_len {bs:List BlkD} (hl:∀ b∈bs,b.ins.length≤1000) (r:Nat):∀ k,(mqL bs k r).length≤1000 * k+1:=by
  intro k
  induction k with
  | zero=>simp [mqL]
  | succ k ih =>
    have h1:=mqI_len k r (insA bs k);have h2:(insA bs k).length≤1000:=by
      unfold insA;rw [List.getD_eq_getElem?_getD];cases hb:bs[k]? with
      | none=>exact Nat.zero_le _
      | some b=>exact hl b (List.mem_of_getElem? hb)
    (have h3:mqL bs (k+1) r=mqL bs k r++mqI k r (insA bs k):=by unfold mqL;rw [List.range_succ,List.flatMap_append];simp);rw [h3,List.length_append];omega
theorem mqL_mem {bs:List BlkD} {k r x:Nat}:x∈mqL bs k r↔x=0∨(x<k∧∃ y∈insA bs x,y.dst=(r:Int)):=by
  unfold mqL;rw [List.mem_cons,List.mem_flatMap];constructor
  · rintro (h | ⟨i,hi,h⟩)
    · exact .inl h
    · obtain ⟨rfl,h2⟩:=mqI_mem h;exact .inr ⟨List.mem_range.1 hi,h2⟩
  · rintro (h | ⟨h1,y,hy,hd⟩)
    · exact .inl h
    · refine .inr ⟨x,List.mem_range.2 h1,?_⟩;unfold mqI;rw [List.mem_filterMap];exact ⟨y,hy,by rw [if_pos hd]⟩
def ToldMk (bs:List BlkD) (R:Nat) (w:World) (e:Ending) (w':World):Prop :=
  (∃ G K V,e=.returned (.slice (some ⟨G,0,none⟩) R R)∧w.heap.size≤G∧Gri w' G K R V (fun r=>zs (mqL bs bs.length r)))∧Below w.heap.size w w'
def mq0 (i r:Nat):List Int:=if r<i then [0] else []
set_option maxRecDepth 100000 in
set_option maxHeartbeats 16000000 in
theorem makersOf_any (f:FunD) (v:Value) (w:World) (hv:VFun w v f) (hn:f.blocks.length≤1000) (hR:f.regs.length≤1000) (hl:∀ b∈f.blocks,b.ins.length≤1000∧∀ x∈b.ins,x.dst<f.regs.length) :
    Calls Try.prog 36 #[v] w (ToldMk f.blocks f.regs.length w):=by
  obtain ⟨i0,hi,hz0,hz1,hz2⟩:=info_parts Try.info3;have HI:=Lib.hid (And.intro hi (And.intro hz0 (And.intro hz1 hz2)));clear hi hz0 hz1 hz2;obtain ⟨Ar,cr,A,c,rfl,-,hbs,-,-⟩:=hv;have HBS:=Lib.hid hbs;have HL:=Lib.hid hl;clear hbs hl;have hmk:=run_make_row' (P:=Try.prog) 60 28 (.slice none 0 0) 24 Try.underlying60 Try.info28 rfl .i64 .i64 f.regs.length (by omega) (by omega);go_enter Try.func36,Try.ntmps36
  (go_upto_region 1 with fail);obtain ⟨w1,hw1,hs1,hk1,hbel1,hc1,-⟩:=named w #[.int .i64 f.params,.int .i64 f.result,.slice Ar f.regs.length cr,.slice A f.blocks.length c] 31;rw [← hw1];have c2:w1.cell? ⟨w.heap.size,2,none⟩=some (.slice Ar f.regs.length cr):=hc1 2 _ rfl;have c3:w1.cell? ⟨w.heap.size,3,none⟩=some (.slice A f.blocks.length c):=hc1 3 _ rfl;have HB1:=Lib.hid hbel1;have HS1:=Lib.hid hs1;obtain ⟨N,hN⟩:∃ N,N=w.heap.size:=⟨_,rfl⟩;have HNN:=Lib.hid hN
  rw [← hN] at c2 c3 ⊢;clear hw1 hs1 hbel1 hc1 hk1 hN;(go_upto_region 2 with fail);clear hmk c2;obtain ⟨G,hG⟩:∃ G,G=w1.heap.size:=⟨_,rfl⟩;obtain ⟨w2,hw2⟩:∃ w2,w2=w1.alloc (.cells (madeCells #[.slice none 0 0] f.regs.length) 28):=⟨_,rfl⟩;(have hb2:Below w1.heap.size w1 w2:=by rw [hw2];exact (Below.refl _ _).alloc (Nat.le_refl _) _);(have HGR:Hid (Gri w2 G (G+1) f.regs.length (fun _=>.slice none 0 0) (mq0 0)):=Lib.hid (by rw [hw2,hG];exact (Gri.made w1 w1.heap.size (w1.heap.size+1) f.regs.length rfl (by omega)).congr fun i _=>by unfold mq0;rw [if_neg (by omega)]));have HB2:Hid (Below w1.heap.size w1 w2):=Lib.hid hb2
  (have HGS:Hid (G=w1.heap.size∧w2.heap.size=G+1):=Lib.hid ⟨hG,by rw [hw2,hG];simp⟩);have HC3:=Lib.hid c3;rw [← hw2,← hG];clear hw2 hG hb2 c3;go_wp2_with fail
  go_loopw [15] (fun s15 wq=>∃ (i:Nat) (V:Nat→Value),i≤f.regs.length∧s15=.int .i64 (i:Int)∧Gri wq G (G+1) f.regs.length V (mq0 i)∧Below w1.heap.size w1 wq) (fun s15 _=>f.regs.length - (intOf s15).toNat)
  case atStart=>exact ⟨0,_,Nat.zero_le _,rfl,HGR.out,HB2.out⟩
  case round =>
    obtain ⟨i,V,hi,rfl,hg,hb⟩:=hrel;have HG:=Lib.hid hg;have HB:=Lib.hid hb
    by_cases him:i<f.regs.length
    · (have hi0:(0:Int)≤i:=by omega);(have hi1:(i:Int)<f.regs.length:=by omega);have d1:=hg.row.cell him;have d2:=hg.row.frozen i;have hgl:=hg.row.lt;obtain ⟨wA,hwA⟩:∃ wA,wA=wr.alloc (.cells #[.int .i64 0] 3):=⟨_,rfl⟩;(have HGA:Hid (Gri wA G (G+1) f.regs.length V (mq0 i)):=Lib.hid (by rw [hwA];exact hg.alloc _));have HBA:Hid (Below w1.heap.size w1 wA):=Lib.hid (by rw [hwA];exact hb.alloc hb.size _)
      have HUA:Hid (wA.ownsRow (G+1) 3 1 (.slice (some ⟨wr.heap.size,0,none⟩) 1 1) 1 [.int .i64 0]):=Lib.hid (by
        rw [hwA]
        exact ⟨rfl,.inr ⟨wr.heap.size,1,#[.int .i64 0],rfl,by omega,heap_alloc_new wr _,Nat.le_refl _,by unfold maxLen;omega,rfl,rfl⟩⟩)
      have HAP:Hid (∀ j,j<f.regs.length→(V j).ownBlock=none∨(V j).ownBlock≠(Value.slice (some ⟨wr.heap.size,0,none⟩) 1 1).ownBlock):=Lib.hid (fun j hj=>own_ne (hg.own j hj) (Nat.le_refl _));have HWN:Hid ((wr.setCell ⟨G,i,none⟩ (.slice (some ⟨wr.heap.size,0,none⟩) 1 1)).alloc (.cells #[.int .i64 0] 3)=wA.setCell ⟨G,i,none⟩ (.slice (some ⟨wr.heap.size,0,none⟩) 1 1)):=Lib.hid (by rw [hwA,World.setCell_alloc_past _ _ _ _ hgl]);clear hg hb hwA;go_wp2_with fail
      go_roundw
      case rel =>
        rw [HWN.out];(refine ⟨i+1,_,by omega,by go_num,(HGA.out.put (t:=i) (l:=[0]) HUA.out HAP.out).congr fun r hr=>?_,HBA.out.setCell (p:=⟨G,i,none⟩) (by show w1.heap.size≤G;rw [HGS.out.1];exact Nat.le_refl _) _⟩);unfold updF mq0
        by_cases e:r=i
        · subst e;rw [if_pos rfl,if_pos (show r<r+1 by omega)]
        · rw [if_neg e]
          by_cases h:r<i
          · rw [if_pos h,if_pos (show r<i+1 by omega)]
          · rw [if_neg h,if_neg (show ¬ r<i+1 by omega)]
      case measure=>simp [intOf];omega
    · (have HG0:Hid (Gri wr G (G+1) f.regs.length V (fun r=>zs (mqL f.blocks 0 r))):=Lib.hid (hg.congr fun r hr=>by unfold mq0;rw [if_pos (by omega)];simp [mqL,zs]));have c3:wr.cell? ⟨N,3,none⟩=some (.slice A f.blocks.length c):=(q6 hb) _ _ HC3.out;clear hg hb HG;go_wp2_with fail
      go_loopw [26] (fun s26 wq=>∃ (k:Nat) (V:Nat→Value),k≤f.blocks.length∧s26=.int .i64 (k:Int)∧Gri wq G (G+1) f.regs.length V (fun r=>zs (mqL f.blocks k r))∧Below w1.heap.size w1 wq) (fun s26 _=>f.blocks.length - (intOf s26).toNat)
      case atStart=>exact ⟨0,V,Nat.zero_le _,rfl,HG0.out,HB.out⟩
      case round =>
        obtain ⟨k,V,hk,rfl,hg,hb⟩:=hrel;have HG:=Lib.hid hg;have HB:=Lib.hid hb
        by_cases hkl:k<f.blocks.length
        · have hwb:Below w.heap.size w wr:=HB1.out.trans (hb.mono HB1.out.size);obtain ⟨b,o,kb,rfl,hkb,⟨Ap,cp,hphi,-⟩,⟨Ai,ci,hins,hsi⟩,⟨hkd,-⟩,⟨har,-⟩,⟨At,ct,hto,-⟩⟩:=HBS.out.at_ hkl;have hphi:=(q6 hwb) _ _ hphi;have hins:=(q6 hwb) _ _ hins;have hkd:=(q6 hwb) _ _ hkd;have har:=(q6 hwb) _ _ har;have hto:=(q6 hwb) _ _ hto;obtain ⟨hil,hid_⟩:=HL.out _ (List.mem_of_getElem? hkb.out);have HID:=Lib.hid hid_
          have HIA:=Lib.hid (insA_at hkb.out);have HSI:=Lib.hid hsi;clear hg hb hkb hsi hid_ hwb;(go_upto_region 10 with fail);clear hphi hins hkd har hto;obtain ⟨w3,hw3,hs3,hk3,hbel3,hc3,-⟩:=named wr #[.slice Ap kb.phis.length cp,.slice Ai kb.ins.length ci,.int .i64 kb.term.kind,.int .i64 kb.term.arg,.slice At kb.term.to.length ct] 43;rw [← hw3];have d1:w3.cell? ⟨wr.heap.size,1,none⟩=some (.slice Ai kb.ins.length ci):=hc3 1 _ rfl;have HG3:Hid (Gri w3 G (G+1) f.regs.length V (fun r=>zs (mqJ f.blocks k 0 r))):=Lib.hid ((HG.out.below hbel3).congr fun r _=>by rw [mqJ_zero])
          have HB3:Hid (Below w1.heap.size w1 w3):=Lib.hid (HB.out.trans (hbel3.mono HB.out.size));clear hw3 hs3 hk3 hbel3 hc3;(go_wp2_with fail);clear d1
          go_loopw [34] (fun s34 wq=>∃ (j:Nat) (V:Nat→Value),j≤kb.ins.length∧s34=.int .i64 (j:Int)∧Gri wq G (G+1) f.regs.length V (fun r=>zs (mqJ f.blocks k j r))∧Below w1.heap.size w1 wq) (fun s34 _=>kb.ins.length - (intOf s34).toNat)
          case atStart=>exact ⟨0,V,Nat.zero_le _,rfl,HG3.out,HB3.out⟩
          case round =>
            obtain ⟨j,V,hj,rfl,hg,hb⟩:=hrel;have hwb:Below w.heap.size w wr:=HB1.out.trans (hb.mono HB1.out.size);have HG:=Lib.hid hg;have HB:=Lib.hid hb
            by_cases hjl:j<kb.ins.length
            · obtain ⟨bi,oi,x,rfl,hx,⟨h0,-⟩,⟨h1,-⟩,⟨Aa,ca,h2,-⟩,⟨h3,-⟩,⟨h4,-⟩⟩:=(SInss.keep (q6 hwb) HSI.out).at_ hjl;have hxd:=HID.out x (List.mem_of_getElem? hx.out);(have HST:=Lib.hid (mqJ_succ (bs:=f.blocks) (k:=k) (j:=j) (x:=x) (by rw [HIA.out];exact hx.out)));clear hg hb hx hwb;(go_upto_region 13 with fail);clear h0 h1 h2 h3 h4;obtain ⟨w4,hw4,hs4,hk4,hbel4,hc4,-⟩:=named wr #[.int .i64 x.op,.int .i64 x.dst,.slice Aa x.args.length ca,.int .i64 x.imm,.int .i64 x.fn] 45;rw [← hw4];have d1:w4.cell? ⟨wr.heap.size,1,none⟩=some (.int .i64 x.dst):=hc4 1 _ rfl
              have HG4:Hid (Gri w4 G (G+1) f.regs.length V (fun r=>zs (mqJ f.blocks k j r))):=Lib.hid (HG.out.below hbel4);have HB4:Hid (Below w1.heap.size w1 w4):=Lib.hid (HB.out.trans (hbel4.mono HB.out.size));obtain ⟨N8,hN8⟩:∃ N8,N8=wr.heap.size:=⟨_,rfl⟩;(have HN8:Hid (G<N8∧N8<w4.heap.size∧wr.heap.size=N8):=Lib.hid ⟨by rw [hN8];exact HG.out.row.lt,by rw [hs4,hN8];omega,hN8.symm⟩);rw [← hN8] at d1 ⊢;clear hw4 hs4 hk4 hbel4 hc4 hN8
              by_cases hd:0≤x.dst
              · obtain ⟨q,hq⟩:∃ q:Nat,x.dst=(q:Int):=⟨x.dst.toNat,by omega⟩;rw [hq] at d1 hxd hd HST;(have hqR:q<f.regs.length:=by omega);(have hq0:(0:Int)≤q:=by omega);have hrow:=HG4.out.row.cell hqR;have howr:=HG4.out.own q hqR;obtain ⟨Av,cv,hVq⟩:=qL howr;have hlen:(mqJ f.blocks k j q).length≤1100000:=by
                  have h1:=mqL_len (bs:=f.blocks) (fun b hb=>(HL.out b hb).1) q k;have h2:=mqI_len k q ((insA f.blocks k).take j);unfold mqJ;rw [List.length_append];(have h3:((insA f.blocks k).take j).length≤j:=by simp;omega);omega
                rw [qP] at howr hVq;obtain ⟨lq,hlq⟩:∃ lq,(mqJ f.blocks k j q).length=lq:=⟨_,rfl⟩;have HLQ:=Lib.hid hlq;rw [hlq] at howr hVq hlen;(have HNE:Hid (∀ g,(Value.slice Av lq cv).ownBlock=some g→G+1≤g∧g<N8):=Lib.hid (fun g hg=>by have h:=(HG.out.own q hqR).lt g (by rw [hVq];exact hg);rw [← HN8.out.2.2];exact h));have HVQ:=Lib.hid hVq;rw [hVq] at hrow howr;have HOW:=Lib.hid howr;clear hq howr hlq hVq
                (go_upto_region 14 with fail);have hS0:w4.drew.cell? ⟨N8,1,none⟩=some (.int .i64 (q:Int))∧w4.drew.cell? ⟨G,q,none⟩=some (.slice Av lq cv):=⟨d1,hrow⟩;clear d1 hrow;refine qI (L:=12) (S:=fun w':World=>w'.cell? ⟨N8,1,none⟩=some (.int .i64 (q:Int))∧w'.cell? ⟨G,q,none⟩=some (.slice Av lq cv)) (by kernel_rfl) (by rfl) (by kernel_rfl) (by kernel_rfl) ?_;change wpAnyH _ _ _ _ _ _ _ _ (World.drew _);refine tk 0 41 hS0 ?_;simp only [Act.put,aS,List.set_cons_zero,List.set_cons_succ];refine tk 1 42 hS0 ?_;simp only [Act.put,aS,List.set_cons_zero,List.set_cons_succ]
                refine tk 2 43 hS0 ?_;simp only [Act.put,aS,List.set_cons_zero,List.set_cons_succ];refine tk 3 44 hS0 ?_;simp only [Act.put,aS,List.set_cons_zero,List.set_cons_succ];refine tk 4 45 hS0 ?_;simp only [Act.put,aS,List.set_cons_zero,List.set_cons_succ];refine tk 5 46 hS0 ?_;simp only [Act.put,aS,List.set_cons_zero,List.set_cons_succ];refine tk 6 47 hS0 ?_
                simp only [Act.put,aS,List.set_cons_zero,List.set_cons_succ];refine tk 7 48 hS0 ?_;simp only [Act.put,aS,List.set_cons_zero,List.set_cons_succ];refine tk 8 49 hS0 ?_;simp only [Act.put,aS,List.set_cons_zero,List.set_cons_succ];refine oneH (i:=9) (by kernel_rfl) (fun o ho K' hK=>?_);(simp only [List.getElem?_toArray,List.getElem?_cons_zero,List.getElem?_cons_succ,Option.some.injEq] at ho;subst ho);(go_simp);have hb8:Below w4.heap.size w4 (w4.alloc (.cells #[.int .i64 (k:Int)] 3)).drew:=((Below.refl _ w4).alloc (Nat.le_refl _) _).drew
                (refine hK.out _ _ ⟨(hb8.cell (p:=⟨N8,1,none⟩) HN8.out.2.1).trans hS0.1,(hb8.cell (p:=⟨G,q,none⟩) (by have:=HN8.out;show G<_;omega)).trans hS0.2⟩ ?_);clear hK K';refine oneH (i:=10) (by kernel_rfl) (fun o ho K' hK=>?_);(simp only [List.getElem?_toArray,List.getElem?_cons_zero,List.getElem?_cons_succ,Option.some.injEq] at ho;subst ho);refine step_append_lies _ (by rfl) _ _ _ (by rfl) (G+1) 3 i0 (.int .i64 0) 1 8 Try.underlying28 HI.out.1 HI.out.2.1 HI.out.2.2.1 HI.out.2.2.2 rfl (by decide) (.slice Av lq cv) _ _ (by rfl) (HOW.out.alloc _)
                  ⟨w4.heap.size,0,none⟩ 1 1 [.int .i64 (k:Int)] (by rfl) (by rfl) (qf _ #[.int .i64 (k:Int)] _ (by simp)) (by simp [Value.oneCell']) (by decide) (by unfold maxLen;omega) (by have:=HN8.out;simp;omega) (by have:=HN8.out;simp;omega) (w4.heap.size+1) (by simp) ?_
                intro g' cap w7 hown7 hgrow7 hloc7 hlt7;have HST2:=Lib.hid hgrow7.size;(have hb7:∀ y,y≤N8→(∀ g,(Value.slice Av lq cv).ownBlock=some g→g≠y)→w7.heap[y]?=w4.heap[y]?:=fun y hy hne=>(hgrow7.block y (by have:=HN8.out;simp;omega) (fun e=>hne y e.symm rfl)).trans (hb8.block y (by have:=HN8.out;omega)));(have hG7:w7.heap[G]?=w4.heap[G]?:=hb7 G (by have:=HN8.out;omega) (fun g hg e=>by have:=(HNE.out g hg).1;omega));(have hN7:w7.heap[N8]?=w4.heap[N8]?:=hb7 N8 (Nat.le_refl _) (fun g hg e=>by have:=(HNE.out g hg).2;omega));have hS7:w7.cell? ⟨N8,1,none⟩=some (.int .i64 (q:Int))∧w7.cell? ⟨G,q,none⟩=some (.slice Av lq cv):=⟨(World.cell?_of_block (a:=⟨N8,1,none⟩) hN7).trans hS0.1,(World.cell?_of_block (a:=⟨G,q,none⟩) hG7).trans hS0.2⟩;have hfz7:w7.frozen? ⟨G,q,none⟩=false:=(World.frozen?_of_block (a:=⟨G,q,none⟩) hG7).trans (HG4.out.row.frozen q);have hown7':w7.ownsRow (G+1) 3 1 (.slice (some ⟨g',0,none⟩) ((zs (mqJ f.blocks k j q)).length+1) cap) ((zs (mqJ f.blocks k j q)).length+1) ((zs (mqJ f.blocks k j q)).map (Value.int .i64)++[.int .i64 (k:Int)]):=by rw [qP,HLQ.out];exact hown7
                have hgp:=(Gri.push (L:=fun r=>zs (mqJ f.blocks k j r)) ((HG4.out.alloc (.cells #[.int .i64 (k:Int)] 3)).drewN 1) hqR hown7' (by show World.grownBy _ w7 (V q).ownBlock;rw [HVQ.out];exact hgrow7) (by show (V q).ownBlock=_∨_;rw [HVQ.out];simpa using hloc7)).congr (L':=fun r=>zs (mqJ f.blocks k (j+1) r)) (fun r _=>by
                  rw [HST.out r]
                  by_cases e:r=q
                  · subst e;simp [zs]
                  · rw [if_neg e,if_neg (by omega),List.append_nil])
                rw [qP,HLQ.out] at hgp;have HGP:=Lib.hid hgp;(have HB7:Hid (Below w1.heap.size w1 w7):=Lib.hid (((HB4.out.alloc HB4.out.size (.cells #[.int .i64 (k:Int)] 3)).drew).grown hgrow7 (by have:=HB4.out.size;simp;omega) (fun g hg=>by have:=(HNE.out g hg).1;have:=HGS.out;omega)));refine hK.out _ _ hS7 ?_;clear hK K' hgp hown7' hown7 hgrow7 hloc7 hlt7 hb8 hb7 hG7 hN7;(try simp only [Act.put,aS,List.set_cons_zero,List.set_cons_succ]);refine tk 11 52 hS7 ?_;simp only [Act.put,aS,List.set_cons_zero,List.set_cons_succ];refine wpAnyH_done (by kernel_rfl) ?_ _
                refine lastH (by decide) (fun o ho K' hK=>?_);(simp only [List.getElem?_toArray,List.getElem?_cons_zero,List.getElem?_cons_succ,Option.some.injEq] at ho;subst ho);have hcp7:=hS7.2;(go_simp);refine hK.out _ _ ?_;clear hK K' hS7 hS0 hcp7 hfz7;go_wp2_with fail
                go_roundw
                case rel=>exact ⟨j+1,_,by omega,by go_num,HGP.out,HB7.out.setCell (p:=⟨G,q,none⟩) (by show w1.heap.size≤G;rw [HGS.out.1];exact Nat.le_refl _) _⟩
                case measure=>simp [intOf];omega
              · have HGN:=Lib.hid (HG4.out.congr (L':=fun r=>zs (mqJ f.blocks k (j+1) r)) (fun r _=>by rw [HST.out r,if_neg (by omega),List.append_nil]));go_wp2_with fail
                go_roundw
                case rel=>exact ⟨j+1,V,by omega,by go_num,HGN.out,HB4.out⟩
                case measure=>simp [intOf];omega
            · (have HGN:=Lib.hid (hg.congr (L':=fun r=>zs (mqL f.blocks (k+1) r)) (fun r _=>by rw [mqJ_all f.blocks k r (by rw [HIA.out];omega)])));clear hg hb hwb;go_wp2_with fail
              go_roundw
              case rel=>exact ⟨k+1,V,by omega,by go_num,HGN.out,HB.out⟩
              case measure=>simp [intOf];omega
        · (have hkk:k=f.blocks.length:=by omega);subst hkk;clear hg hb;(go_wp2_with fail);(go_ret);exact ⟨⟨G,G+1,V,rfl,by rw [HGS.out.1];exact HB1.out.size,HG.out⟩,HB1.out.trans (HB.out.mono HB1.out.size)⟩
set_option maxRecDepth 100000 in
set_option maxHeartbeats 4000000 in
theorem reached_any (f:FunD) (v:Value) (w:World) (hv:VFun w v f) (hn:f.blocks.length≤1000) :
    Calls Try.prog 23 #[v] w (ToldR_ f.blocks w):=by
  have hv0:=hv;obtain ⟨Ar,cr,A,c,rfl,hr,hb,hp64,hr64⟩:=hv;have hmk:=run_make_row' (P:=Try.prog) 59 4 (.bool false) 1 Try.underlying59 Try.info4 rfl .i64 .i64 f.blocks.length (by omega) (by omega);clear hr hb hp64 hr64;(go_enter Try.func23,Try.ntmps23);(go_upto_region 2 with fail);clear hmk;obtain ⟨w1,hw1,hs1,hk1,hbel1,hc1,-⟩:=named w #[.int .i64 f.params,.int .i64 f.result,.slice Ar f.regs.length cr,.slice A f.blocks.length c] 31;rw [← hw1]
  have hrow:=World.rowIs_made w1 (.bool false) f.blocks.length 4;have hk2:Kept w1 (w1.alloc (.cells (madeCells #[.bool false] f.blocks.length) 4)):=qN _ _;have c0:=hk2 _ _ (hc1 0 _ rfl);have c1:=hk2 _ _ (hc1 1 _ rfl);have c2:=hk2 _ _ (hc1 2 _ rfl);have c3:=hk2 _ _ (hc1 3 _ rfl);have hb2:Below w.heap.size w (w1.alloc (.cells (madeCells #[.bool false] f.blocks.length) 4)):=hbel1.alloc (by omega) _;(have hz2:(w1.alloc (.cells (madeCells #[.bool false] f.blocks.length) 4)).heap.size=w1.heap.size+1:=by simp);obtain ⟨H,hH⟩:∃ H,H=w1.heap.size:=⟨_,rfl⟩
  rw [hs1] at hH;rw [hs1,← hH] at hrow hz2;rw [← hH];generalize w1.alloc (.cells (madeCells #[.bool false] f.blocks.length) 4)=w2 at *;have HO:=Lib.hid (order_any f _ w2 (VFun.keep (hk1.trans hk2) hv0) hn);have HB2:=Lib.hid hb2;have HH:Hid (w.heap.size≤H):=Lib.hid (by omega);have HZ:=Lib.hid hz2;have HROW:=Lib.hid hrow
  clear hw1 hs1 hbel1 hc1 hv0 hk1 hk2 hb2 hz2 hrow hH;(go_wp2_with fail);refine HO.out.mono ?_;rintro e w3 ⟨⟨vo,rfl,hown⟩,hb3⟩;(obtain ⟨Ao,co,rfl,hso⟩:=slB_of_own (B:=fun b=>w2.heap.size≤b) (xs:=zs (qK f.blocks)) (by rw [qP];exact hown) (fun x hx=>by obtain ⟨q,hq,rfl⟩:=zs_mem hx;have:=orderF_lt hq;unfold I64;omega) (fun g h1 _=>h1));rw [qP];have hlen:=orderF_len f.blocks;have HB3:Hid (Below w.heap.size w w3):=Lib.hid (HB2.out.trans (hb3.mono HB2.out.size));have hrow3:w3.rowIs H 4 f.blocks.length (fun x=>.bool (tookB (qK f.blocks) 0 x)):=(HROW.out.of_block (hb3.block H HROW.out.lt)).congr fun x _=>by simp [tookB]
  have HSO:=Lib.hid hso;clear hown hb3 hso c0 c1 c2 c3;go_wp2_with fail
  go_loopw [13] (fun i wr=>∃ k:Nat,k≤(qK f.blocks).length∧i=.int .i64 k∧wr.rowIs H 4 f.blocks.length (fun x=>.bool (tookB (qK f.blocks) k x))∧BB w3.heap.size H w3 wr) (fun i _=>(qK f.blocks).length - (intOf i).toNat)
  case atStart=>exact ⟨0,Nat.zero_le _,rfl,hrow3,BB.refl _ _ _⟩
  case round =>
    obtain ⟨k,hk,rfl,hrw,hbb⟩:=hrel;have HBB:=Lib.hid hbb;(have hso:=SIntsB.go (B:=fun b=>w2.heap.size≤b∧b<w3.heap.size) (B':=fun b=>w2.heap.size≤b) (w:=w3) (w':=wr) (fun a v hb ha=>(World.cell?_of_block (hbb.block a.block (by have:=hb.2;omega) (by have:=HZ.out;have:=hb.1;omega))).trans ha) (fun b hb=>hb.1) (SIntsB.lt HSO.out));clear hbb
    by_cases hlt:k<(qK f.blocks).length
    · (obtain ⟨b,o,x,rfl,hx,-,hxc,-⟩:=hso.at_ (k:=k) (by rw [qP];exact hlt));obtain ⟨q,hq,rfl⟩:=zs_at hx.out;have hqn:q<f.blocks.length:=orderF_lt (List.mem_of_getElem? hq);(have hxc:wr.cell? ⟨b,o+k,none⟩=some (.int .i64 (q:Int)):=by rw [Nat.mul_one] at hxc;exact hxc);(have hq0:(0:Int)≤q:=by omega);(have hq1:(q:Int)<f.blocks.length:=by omega);have hcell:=hrw.cell hqn;have hfr:=hrw.frozen q;have HRW:=Lib.hid ((hrw.set q (.bool true)).congr (g:=fun x=>.bool (tookB (qK f.blocks) (k+1) x)) fun x _=>by rw [takesB_succ hq];by_cases e:x=q <;> simp [e])
      clear hrw hq hso;go_wp2_with fail
      go_roundw
      case rel=>exact ⟨k+1,by omega,by go_num,HRW.out,HBB.out.setCell (.inl rfl) _⟩
      case measure=>simp [intOf];omega
    · have HRW:=Lib.hid (hrw.congr (g:=fun x=>.bool (qE f.blocks x)) fun x _=>by rw [takesB_all (by omega)]);clear hrw hso;(go_wp2_with fail);(go_ret);exact ⟨⟨H,rfl,HH.out,HRW.out⟩,HB3.out.trans (HBB.out.below HB3.out.size HH.out)⟩
structure BGr (w:World) (G D0 n:Nat) (M:Nat→Nat→Bool):Prop where
  row:w.rowIs G 59 n (fun a=>.slice (some ⟨D0+a,0,none⟩) n n)
  cells:∀ a,a<n→w.rowIs (D0+a) 4 n (fun b=>.bool (M a b))
  lt:G<D0
theorem BGr.congr {w:World} {G D0 n:Nat} {M M':Nat→Nat→Bool} (h:BGr w G D0 n M) (he:∀ a b,a<n→b<n→M a b=M' a b):BGr w G D0 n M' :=
  ⟨h.row,fun a ha=>(h.cells a ha).congr fun b hb=>by rw [he a b ha hb],h.lt⟩
theorem BGr.of_blocks {w w':World} {G D0 n:Nat} {M:Nat→Nat→Bool} (h:BGr w G D0 n M) (hb:∀ y,G≤y→y<D0+n→w'.heap[y]?=w.heap[y]?):BGr w' G D0 n M :=
  ⟨h.row.of_block (hb G (Nat.le_refl _) (by have:=h.lt;omega)),fun a ha=>(h.cells a ha).of_block (hb _ (by have:=h.lt;omega) (by omega)),h.lt⟩
theorem BGr.set {w:World} {G D0 n:Nat} {M:Nat→Nat→Bool} (h:BGr w G D0 n M) (q b:Nat) (x:Bool):BGr (w.setCell ⟨D0+q,b,none⟩ (.bool x)) G D0 n (fun a b'=>if a=q∧b'=b then x else M a b'):=by
  have hs:∀ y,y≠D0+q→(w.setCell ⟨D0+q,b,none⟩ (.bool x)).heap[y]?=w.heap[y]?:=fun y hy=>Below.heap_setCell _ _ _ _ hy;have hlt:=h.lt;refine ⟨h.row.of_block (hs G (by omega)),fun a ha=>?_,hlt⟩
  by_cases e:a=q
  · subst e;exact ((h.cells a ha).set b (.bool x)).congr fun b' _=>by by_cases e2:b'=b <;> simp [e2]
  · exact ((h.cells a ha).of_block (hs _ (by omega))).congr fun b' _=>by simp [e]
def LayB (w4:World) (G n j:Nat) (wq:World):Prop :=
  wq.heap.size=G+1+j∧wq.rowIs G 59 n (fun a=>if a<j then .slice (some ⟨G+1+a,0,none⟩) n n else .slice none 0 0)∧(∀ a,a<j→wq.rowIs (G+1+a) 4 n (fun _=>.bool false))∧FrX (fun b=>b=G) w4 wq
theorem LayB.step {w4 wq:World} {G n j:Nat} (h:LayB w4 G n j wq):LayB w4 G n (j+1) ((wq.setCell ⟨G,j,none⟩ (.slice (some ⟨wq.heap.size,0,none⟩) n n)).alloc (.cells (madeCells #[.bool false] n) 4)):=by
  obtain ⟨h1,h2,h3,h4⟩:=h;have hs:∀ y,y≠G→(wq.setCell ⟨G,j,none⟩ (.slice (some ⟨wq.heap.size,0,none⟩) n n)).heap[y]?=wq.heap[y]?:=fun y hy=>Below.heap_setCell _ _ _ _ hy;(have hz:(wq.setCell ⟨G,j,none⟩ (.slice (some ⟨wq.heap.size,0,none⟩) n n)).heap.size=wq.heap.size:=by simp);have hnew:=heap_alloc_new (wq.setCell ⟨G,j,none⟩ (.slice (some ⟨wq.heap.size,0,none⟩) n n)) (.cells (madeCells #[.bool false] n) 4);refine ⟨by simp;omega,?_,fun a ha=>?_,(h4.setCell (.inl rfl) _).alloc _⟩
  · refine ((h2.set j _).of_block (Below.heap_alloc _ _ _ (by have:=h2.lt;omega))).congr fun a _=>?_
    by_cases e:a=j
    · subst e;simp only [if_true];rw [if_pos (by omega),h1]
    · simp only [if_neg e]
      by_cases e2:a<j
      · rw [if_pos e2,if_pos (by omega)]
      · rw [if_neg e2,if_neg (by omega)]
  · by_cases e:a=j
    · subst e;(have e:G+1+a=(wq.setCell ⟨G,a,none⟩ (.slice (some ⟨wq.heap.size,0,none⟩) n n)).heap.size:=by omega);rw [← e] at hnew;exact ⟨_,hnew,size_madeCells _ _,fun i hi=>by simp [madeCells,hi,Nat.mod_one]⟩
    · exact (h3 a (by omega)).of_block ((Below.heap_alloc _ _ _ (by omega)).trans (hs _ (by omega)))
theorem LayB.all {w4 wq:World} {G n:Nat} (h:LayB w4 G n n wq):BGr wq G (G+1) n (fun _ _=>false) :=
  ⟨h.2.1.congr fun a ha=>by rw [if_pos ha],h.2.2.1,by omega⟩
end Go.Proofs.Ytfoggldjjnabcaa
