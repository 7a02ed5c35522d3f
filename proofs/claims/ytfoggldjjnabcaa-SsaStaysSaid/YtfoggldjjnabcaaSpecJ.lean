/- A region that draws its order, whose last operation waits for all others: the others first, in whatever order, with a condition on the world that need not hold behind the last one. Over any program. -/
import Derived.OrdersHeld
import Derived.RegionTactic
import Derived.Lib.Hide
import Derived.Test.YtfoggldjjnabcaaModAJ
import Derived.Test.YtfoggldjjnabcaaGrNmJ
import Derived.Test.YtfoggldjjnabcaaInfBJ
import Derived.Test.YtfoggldjjnabcaaLabJ
import Derived.Deep.AppendLies
namespace Go.Proofs.Ytfoggldjjnabcaa
open Go
set_option linter.unusedVariables false
section
variable {P:Program} {ops:Array Oper} {Q:Exit→Act→World→Prop} {md:Region.Mode} {S:World→Prop}
def downB (md:Region.Mode) (ops:Array Oper):Bool :=
  (List.range ops.size).all fun i=>((ops[i]?).map fun o=>o.after.all fun e=>!Region.binds md e || decide (e.on<i)).getD true
def feedsB (md:Region.Mode) (ops:Array Oper) (L:Nat):Bool :=
  (List.range L).all fun i=>(List.range (L+1)).any fun j=>decide (i<j) && ((ops[j]?).map fun o=>o.after.any fun e=>Region.binds md e && decide (e.on=i)).getD false
theorem downB_spec (h:downB md ops=true) {i:Nat} {o:Oper} (ho:ops[i]?=some o):∀ e∈o.after,Region.binds md e=true→e.on<i:=by
  intro e he hb;unfold downB at h;have hi:i<ops.size:=(Array.getElem?_eq_some_iff.1 ho).1;have h1:=List.all_eq_true.1 h i (List.mem_range.2 hi);rw [ho] at h1;simp only [Option.map_some,Option.getD_some,Array.all_eq_true_iff_forall_mem] at h1;have h2:=h1 e he;simpa [hb] using h2
theorem feedsB_spec {L:Nat} (h:feedsB md ops L=true) {i:Nat} (hi:i<L):∃ j o e,i<j∧j≤L∧ops[j]?=some o∧e∈o.after∧Region.binds md e=true∧e.on=i:=by
  unfold feedsB at h;have h1:=List.all_eq_true.1 h i (List.mem_range.2 hi);obtain ⟨j,hj,h2⟩:=List.any_eq_true.1 h1;rw [Bool.and_eq_true] at h2;obtain ⟨h3,h4⟩:=h2;cases ho:ops[j]? with
  | none=>rw [ho] at h4;simp at h4
  | some o =>
    rw [ho] at h4;simp only [Option.map_some,Option.getD_some,Array.any_eq_true'] at h4;obtain ⟨e,he,hb⟩:=h4;rw [Bool.and_eq_true] at hb;exact ⟨j,o,e,of_decide_eq_true h3,by have:=List.mem_range.1 hj;omega,ho,he,hb.1,of_decide_eq_true hb.2⟩
def Closed (md:Region.Mode) (ops:Array Oper) (listed:Array Bool):Prop :=
  ∀ i o,ops[i]?=some o→listed.getD i true=true→∀ e∈o.after,Region.binds md e=true→listed.getD e.on false=true
theorem getD_two {l:Array Bool} {i:Nat} (h:i<l.size) (a b:Bool):l.getD i a=l.getD i b:=by
  simp [Array.getD,h]
theorem getD_set_self {l:Array Bool} {i:Nat} (h:i<l.size) (d:Bool):(l.setIfInBounds i true).getD i d=true:=by
  simp [Array.getD,h]
theorem Closed.set {listed:Array Bool} (hc:Closed md ops listed) (hs:listed.size=ops.size) {i:Nat} (hi:i∈Region.ready md ops listed):Closed md ops (listed.setIfInBounds i true):=by
  intro j o ho hj e he hb
  by_cases hji:j=i
  · subst hji;obtain ⟨_,o',ho',hall⟩:=mem_ready.1 hi;rw [ho] at ho';cases ho';exact getD_set_true (hall e he hb)
  · rw [getD_set_ne true (Ne.symm hji)] at hj;exact getD_set_true (hc j o ho hj e he hb)
theorem all_of_last {L:Nat} {listed:Array Bool} (hsz:ops.size=L+1) (hs:listed.size=ops.size) (hf:feedsB md ops L=true) (hc:Closed md ops listed) (hL:L∈Region.ready md ops listed):∀ i,i<L→listed.getD i true=true:=by
  have key:∀ n i,L - i≤n→i<L→listed.getD i true=true:=by
    intro n
    induction n with
    | zero=>intro i h1 h2;omega
    | succ n ih =>
      intro i h1 h2;obtain ⟨j,o,e,hij,hjL,ho,he,hb,hei⟩:=feedsB_spec hf h2;have h3:listed.getD e.on false=true:=by
        by_cases hj:j=L
        · subst hj;obtain ⟨_,o',ho',hall⟩:=mem_ready.1 hL;rw [ho] at ho';cases ho';exact hall e he hb
        · exact hc j o ho (ih j (by omega) (by omega)) e he hb
      rw [hei] at h3;rw [getD_two (by omega) true false];exact h3
  exact fun i hi=>key (L - i) i (Nat.le_refl _) hi
theorem ready_some {L:Nat} {listed:Array Bool} (hsz:ops.size=L+1) (hs:listed.size=ops.size) (hd:downB md ops=true) (hL:listed.getD L true=false):Region.ready md ops listed≠[]:=by
  have key:∀ n i,i≤n→i≤L→listed.getD i true=false→∃ k,k∈Region.ready md ops listed:=by
    intro n
    induction n with
    | zero =>
      intro i h1 h2 h3;(obtain rfl:i=0:=by omega);have ho:ops[0]?=some ops[0]:=Array.getElem?_eq_getElem (by omega);exact ⟨0,mem_ready.2 ⟨h3,_,ho,fun e he hb=>absurd (downB_spec hd ho e he hb) (by omega)⟩⟩
    | succ n ih =>
      intro i h1 h2 h3;have ho:ops[i]?=some ops[i]:=Array.getElem?_eq_getElem (by omega)
      by_cases hall:∀ e∈ops[i].after,Region.binds md e=true→listed.getD e.on false=true
      · exact ⟨i,mem_ready.2 ⟨h3,_,ho,hall⟩⟩
      · simp only [Classical.not_forall] at hall;obtain ⟨e,he,hb,hno⟩:=hall;have hlt:=downB_spec hd ho e he hb;refine ih e.on (by omega) (by omega) ?_;rw [getD_two (by omega) true false];simpa using hno
  obtain ⟨k,hk⟩:=key L L (Nat.le_refl _) (Nat.le_refl _) hL;intro h0;rw [h0] at hk;cases hk
def LastQ (P:Program) (ops:Array Oper) (Q:Exit→Act→World→Prop) (L:Nat):Exit→Act→World→Prop
  | .normal,a,w=>wpOp P ops Q L (Q .normal) a w
  | e,a,w=>Q e a w
theorem upon_last {L:Nat} {o:Oper} {a:Act} {K:Act→World→Prop} {r:Result Next} (h:o.upon P a K (LastQ P ops Q L) r):o.upon P a K Q r:=by
  cases r with
  | ok n w' =>
    cases n <;> simp only [Oper.upon] at h ⊢ <;> exact h
  | halt x w'=>cases x <;> simp only [Oper.upon] at h ⊢ <;> exact h
theorem wpOp_last {L i:Nat} {K:Act→World→Prop} {a:Act} {w:World} (h:wpOp P ops (LastQ P ops Q L) i K a w):wpOp P ops Q i K a w:=by
  unfold wpOp at *
  split
  · rename_i ho;simp only [ho] at h;exact h
  · rename_i o ho;simp only [ho] at h
    split
    · rename_i hw;simp only [hw,if_true] at h;exact h.imp (fun h=>by unfold Oper.wp at *;exact upon_last h) (fun h=>⟨h.1,h.2⟩)
    · rename_i hw;simp only [hw] at h;exact h
theorem wpAny_last {L:Nat} (hsz:ops.size=L+1) (hd:downB md ops=true) (hf:feedsB md ops L=true) :
    ∀ (fuel:Nat) (listed:Array Bool) (a:Act) (w:World),listed.size=ops.size→Closed md ops listed→listed.getD L true=false →
      wpAnyH P md ops (LastQ P ops Q L) S fuel (listed.setIfInBounds L true) a w→wpAny P md ops Q (fuel+1) listed a w:=by
  intro fuel
  induction fuel with
  | zero =>
    intro listed a w hs hc hL H;refine ⟨fun h0=>absurd h0 (ready_some hsz hs hd hL),fun i hi=>?_⟩
    by_cases hiL:i=L
    · subst hiL;exact wpOp_mono (fun a' w' h'=>⟨H.1,h'⟩) (show wpOp P ops Q i (Q .normal) a w from H.2)
    · have:=ready_mono hi hiL;rw [H.1] at this;cases this
  | succ fuel ih =>
    intro listed a w hs hc hL H;refine ⟨fun h0=>absurd h0 (ready_some hsz hs hd hL),fun i hi=>?_⟩
    by_cases hiL:i=L
    · subst hiL;have hall:=all_of_last hsz hs hf hc hi;have hr:Region.ready md ops (listed.setIfInBounds i true)=[]:=by
        rw [List.eq_nil_iff_forall_not_mem];intro k hk;obtain ⟨h0,o,ho,_⟩:=mem_ready.1 hk;have hkl:k<ops.size:=(Array.getElem?_eq_some_iff.1 ho).1
        by_cases hki:k=i
        · subst hki;rw [getD_set_self (by omega)] at h0;cases h0
        · rw [getD_set_ne true (Ne.symm hki),hall k (by omega)] at h0;cases h0
      exact wpOp_mono (fun a' w' h'=>wpAny_done hr h' _) (show wpOp P ops Q i (Q .normal) a w from H.1 hr)
    · have h1:=wpOp_last (H.2 i (ready_mono hi hiL));refine wpOp_mono (fun a' w' h'=>ih (listed.setIfInBounds i true) a' w' (by simpa using hs) (hc.set hs hi) ?_ ?_) h1
      · rw [getD_set_ne true hiL];exact hL
      · rw [Array.setIfInBounds_comm _ _ hiL];exact h'.2
theorem qI {id L:Nat} {a:Act} {w:World} (hm:P.follows .mixedOrders=true) (hsz:ops.size=L+1) (hd:downB .any ops=true) (hf:feedsB .any ops L=true)
    (h:wpAnyH P .any ops (LastQ P ops Q L) S L ((Array.replicate ops.size false).setIfInBounds L true) a { w with drawn:=w.drawn+1 }):(Code.region id ops true).wp P Q a w:=by
  refine wp_region_any hm ?_;have h2:=wpAny_last (md:=.any) (Q:=Q) (S:=S) hsz hd hf L (Array.replicate ops.size false) a { w with drawn:=w.drawn+1 } (by simp) (fun i o ho hi=>?_) (by simp [Array.getD,hsz]) h
  · rwa [← hsz] at h2
  · have hlt:=(Array.getElem?_eq_some_iff.1 ho).1;simp [Array.getD,hlt] at hi
theorem takeH {i:Nat} (d:Option Tmp) {v:Value} {fuel:Nat} {listed:Array Bool} {a:Act} {w:World} (hd:(ops[i]?).map (·.dst)=some d)
    (hs:Region.noSelect ops=true) (hf:Region.free md ops listed i=true) (hr:(Region.ready md ops listed).contains i=true)
    (hQ:∀ c a w,Q (.panic c) (a.put d v) w→Q (.panic c) a w) (hS:S w) (hy:∀ o,ops[i]?=some o→YieldsIf P ops S o v a)
    (h:wpAnyH P md ops Q S fuel (listed.setIfInBounds i true) (a.put d v) w):wpAnyH P md ops Q S (fuel+1) listed a w:=by
  cases ho:ops[i]? with
  | none=>rw [ho] at hd;cases hd
  | some o =>
    rw [ho] at hd;obtain rfl:=Option.some.inj hd;exact wpAnyH_take ho hs hf hr hQ (hy o ho) hS h
theorem oneH {i:Nat} {fuel:Nat} {listed:Array Bool} {a:Act} {w:World} (hr:Region.ready md ops listed=[i])
    (h:∀ o,ops[i]?=some o→∀ K:Act→World→Prop,RowKit.Hid (∀ a' w',S w'→wpAnyH P md ops Q S fuel (listed.setIfInBounds i true) a' w'→K a' w')→if Region.wanted o (yielded ops a.tmps)=true then Oper.wp P o a w K Q else K (a.put o.dst undef) w) :
    wpAnyH P md ops Q S (fuel+1) listed a w:=by
  refine wpAnyH_all hr (by simp) fun k hk=>?_;obtain rfl:=List.mem_singleton.1 hk;unfold wpOp
  split
  · rename_i ho;(have:k∈Region.ready md ops listed:=by rw [hr];simp);obtain ⟨_,o,ho',_⟩:=mem_ready.1 this;rw [ho] at ho';cases ho'
  · rename_i o ho;have:=h o ho (fun a' w'=>S w'∧wpAnyH P md ops Q S fuel (listed.setIfInBounds k true) a' w') (Lib.hid (fun a' w' h1 h2=>⟨h1,h2⟩))
    split
    · rename_i hw;rw [if_pos hw] at this;exact .inl this
    · rename_i hw;rw [if_neg hw] at this;exact this
theorem lastH {L:Nat} {a:Act} {w:World} (hL:L<ops.size)
    (h:∀ o,ops[L]?=some o→∀ K:Act→World→Prop,RowKit.Hid (∀ a' w',Q .normal a' w'→K a' w')→if Region.wanted o (yielded ops a.tmps)=true then Oper.wp P o a w K Q else K (a.put o.dst undef) w):LastQ P ops Q L .normal a w:=by
  show wpOp P ops Q L (Q .normal) a w;have ho:ops[L]?=some ops[L]:=Array.getElem?_eq_getElem hL;have:=h _ ho (Q .normal) (Lib.hid (fun a' w' h1=>h1));unfold wpOp;simp only [ho]
  split
  · rename_i hw;rw [if_pos hw] at this;exact .inl this
  · rename_i hw;rw [if_neg hw] at this;exact this
end
theorem tk {P:Program} {ops:Array Oper} {Q:Exit→Act→World→Prop} {md:Region.Mode} {S:World→Prop} (i:Nat) (d:Tmp) {v:Value} {fuel:Nat} {listed:Array Bool} {a:Act} {w:World} (hS:S w) (h:wpAnyH P md ops Q S fuel (listed.setIfInBounds i true) (a.put (some d) v) w)
    (hy:∀ o,ops[i]?=some o→YieldsIf P ops S o v a:=by intro o ho;simp only [List.getElem?_toArray,List.getElem?_cons_zero,List.getElem?_cons_succ,Option.some.injEq] at ho;subst ho;refine Or.inl ⟨by rfl,fun w' hSw=>?_⟩;(try dsimp only at hSw);go_simp;try with_reducible rfl)
    (hd:(ops[i]?).map (·.dst)=some (some d):=by rfl) (hs:Region.noSelect ops=true:=by kernel_rfl) (hf:Region.free md ops listed i=true:=by kernel_rfl) (hr:(Region.ready md ops listed).contains i=true:=by kernel_rfl)
    (hQ:∀ c a w,Q (.panic c) (a.put (some d) v) w→Q (.panic c) a w:=by exact fun _ _ _ h=>h):wpAnyH P md ops Q S (fuel+1) listed a w :=
  takeH (some d) hd hs hf hr hQ hS hy h
theorem aS {α:Type} (l:List α) (i:Nat) (a:α):l.toArray.setIfInBounds i a=(l.set i a).toArray:=List.setIfInBounds_toArray ..
theorem aT {α:Type} (l:List α) (i:Nat):l.toArray[i]?=l[i]?:=List.getElem?_toArray ..
end Go.Proofs.Ytfoggldjjnabcaa

namespace Go.Proofs.Ytfoggldjjnabcaa
open Go.ChangeShapes Go.WideShapes Go.RowKit Go.Deep
set_option linter.unusedVariables false
set_option linter.unusedSimpArgs false
def atV (l:List Int) (a:Int):Int:=l.getD a.toNat 0
def verL (l xs:List Int):List Int:=xs.map (atV l)
theorem verL_succ {l xs:List Int} {i:Nat} {x:Int} (h:xs[i]?=some x):verL l (xs.take (i+1))=verL l (xs.take i)++[atV l x]:=by
  unfold verL;rw [qC h,List.map_append];rfl
def ToldVo (l xs:List Int) (w:World) (e:Ending) (w':World):Prop :=
  (∃ v,e=.returned v∧w'.ownsRow w.heap.size 3 1 v xs.length ((verL l xs).map (Value.int .i64)))∧Below w.heap.size w w'
set_option maxRecDepth 100000 in
set_option maxHeartbeats 4000000 in
theorem versions_any (xs l:List Int) (vx vl:Value) (w:World) (hx:VS w 1 RInt vx xs) (hl:VS w 1 RInt vl l) (hin:∀ a∈xs,0≤a∧a<l.length) (hn:xs.length≤1000) :
    Calls Try.prog 55 #[vx,vl] w (ToldVo l xs w):=by
  obtain ⟨i0,hi,hz0,hz1,hz2⟩:=info_parts Try.info3;have HI:=Lib.hid (And.intro hi (And.intro hz0 (And.intro hz1 hz2)));clear hi hz0 hz1 hz2;obtain ⟨A,c,rfl,hs⟩:=hx;obtain ⟨Al,cl,rfl,hsl⟩:=hl;have HS:=Lib.hid hs;have HL:=Lib.hid hsl;have HN:=Lib.hid hin;have hll:=hsl.len
  clear hs hsl hin;(go_enter Try.func55,Try.ntmps55);go_wp2_with fail
  go_loopw [5,10] (fun s5 s10 wr=>∃ (i:Nat) (vo:Value),i≤xs.length∧s10=.int .i64 (i:Int)∧s5=vo∧wr.ownsRow w.heap.size 3 1 vo i ((verL l (xs.take i)).map (Value.int .i64))∧Below w.heap.size w wr) (fun _ s10 _=>xs.length - (intOf s10).toNat)
  case atStart=>exact ⟨0,_,Nat.zero_le _,rfl,rfl,World.ownsRow_nil _ _ _ _,Below.refl _ _⟩
  case round =>
    obtain ⟨i,vo,hi,rfl,rfl,hown,hbr⟩:=hrel;have HOW:=Lib.hid hown;have HBR:=Lib.hid hbr
    by_cases him:i<xs.length
    · obtain ⟨bt,ot,x,rfl,hx,hxc,-⟩:=(SInts.keep (q6 hbr) HS.out).int him;have hxi:=HN.out x (List.mem_of_getElem? hx.out);obtain ⟨q,rfl⟩:∃ q:Nat,x=q:=⟨x.toNat,by omega⟩;(have hq:q<l.length:=by omega);(have hq0:(0:Int)≤q:=by omega);(have hq1:(q:Int)<l.length:=by omega);obtain ⟨bl,ol,y,rfl,hy,hyc,-⟩:=(SInts.keep (q6 hbr) HL.out).int hq
      have HYV:Hid (verL l (xs.take (i+1))=verL l (xs.take i)++[y]):=Lib.hid (by
        rw [verL_succ hx.out];unfold atV;rw [Int.toNat_natCast,List.getD_eq_getElem?_getD,hy.out];rfl)
      clear hxi hx hown hbr hy;go_wp2_with (at_builtin;refine wpList_append_lies _ rfl (.tmp 14) (.tmp 19) 28 rfl w.heap.size 3 i0 (.int .i64 0) 1 8 Try.underlying28 HI.out.1 HI.out.2.1 HI.out.2.2.1 HI.out.2.2.2 rfl (by decide) _ _ _ rfl (HOW.out.alloc _) ⟨wr.heap.size,0,none⟩ 1 1 [.int .i64 y] rfl rfl ?e1 ?e2 (by decide) ?e3 ?e4 ?e5 (wr.heap.size+1) ?e6 ?_)
      case e1=>exact qR wr _ _ rfl
      case e2=>exact ints_oneCell .i64 [y]
      case e3=>unfold maxLen;omega
      case e4=>omega
      case e5=>have:=HBR.out.size;simp;omega
      case e6=>simp
      intro g cap w6 hown6 hgrow6 hloc6 hlt6;(have HB6:Hid (Below w.heap.size w w6):=Lib.hid ((HBR.out.alloc HBR.out.size _).grown hgrow6 (by have:=HBR.out.size;simp;omega) (fun g' hg'=>(HOW.out.lt g' hg').1)));have HO6:=Lib.hid hown6;clear hown6 hgrow6 hloc6 hlt6;go_wp2_with fail
      go_roundw
      case rel=>exact ⟨i+1,_,by omega,by go_num,rfl,by rw [HYV.out,List.map_append];exact HO6.out,HB6.out⟩
      case measure=>simp [intOf];omega
    · have hii:xs.take i=xs:=List.take_of_length_le (by omega);(have hil:i=xs.length:=by omega);subst hil;clear hown hbr;(go_wp2_with fail);(go_ret);exact ⟨⟨_,rfl,by have h:=HOW.out;rwa [hii] at h⟩,HBR.out⟩
def ToldEn (p:Int) (n:Nat) (w:World) (e:Ending) (w':World):Prop :=
  (∃ G,e=.returned (.slice (some ⟨G,0,none⟩) n n)∧w.heap.size≤G∧w'.rowIs G 3 n (fun r=>.int .i64 (if (r:Int)<p then (r:Int) else -1)))∧Below w.heap.size w w'
def enR (p:Int) (j r:Nat):Int:=if r<j then (if (r:Int)<p then (r:Int) else -1) else 0
theorem enR_zero (p:Int) (r:Nat):enR p 0 r=0:=by unfold enR;rw [if_neg (by omega)]
theorem enR_step (p:Int) (j r:Nat):(if r=j then (if (j:Int)<p then (j:Int) else -1) else enR p j r)=enR p (j+1) r:=by
  unfold enR
  by_cases e:r=j
  · subst e;rw [if_pos rfl,if_pos (show r<r+1 by omega)]
  · rw [if_neg e]
    by_cases h:r<j
    · rw [if_pos h,if_pos (show r<j+1 by omega)]
    · rw [if_neg h,if_neg (show ¬ r<j+1 by omega)]
set_option maxRecDepth 100000 in
set_option maxHeartbeats 4000000 in
theorem entered_any (f:FunD) (v:Value) (w:World) (hv:VFun w v f) (hn:f.regs.length≤1000):Calls Try.prog 41 #[v] w (ToldEn f.params f.regs.length w):=by
  obtain ⟨Ar,cr,A,c,rfl,-,-,-,-⟩:=hv;have hmk:=run_make_row' (P:=Try.prog) 28 3 (.int .i64 0) 8 Try.underlying28 Try.info3 rfl .i64 .i64 f.regs.length (by omega) (by omega);(go_enter Try.func41,Try.ntmps41);(go_upto_region 1 with fail);obtain ⟨w1,hw1,hs1,hk1,hbel1,hc1,-⟩:=named w #[.int .i64 f.params,.int .i64 f.result,.slice Ar f.regs.length cr,.slice A f.blocks.length c] 31;rw [← hw1];have c0:w1.cell? ⟨w.heap.size,0,none⟩=some (.int .i64 f.params):=hc1 0 _ rfl;have c2:w1.cell? ⟨w.heap.size,2,none⟩=some (.slice Ar f.regs.length cr):=hc1 2 _ rfl;have HB1:=Lib.hid hbel1
  have HS1:=Lib.hid hs1;obtain ⟨N,hN⟩:∃ N,N=w.heap.size:=⟨_,rfl⟩;have HNN:=Lib.hid hN;rw [← hN] at c0 c2 ⊢;clear hw1 hs1 hbel1 hc1 hk1 hN;(go_upto_region 2 with fail);clear hmk c2;obtain ⟨Q,hQ⟩:∃ Q,Q=w1.heap.size:=⟨_,rfl⟩;obtain ⟨w2,hw2⟩:∃ w2,w2=w1.alloc (.cells (madeCells #[.int .i64 0] f.regs.length) 3):=⟨_,rfl⟩
  (have hb2:Below w1.heap.size w1 w2:=by rw [hw2];exact (Below.refl _ _).alloc (Nat.le_refl _) _);have hrow:w2.rowIs Q 3 f.regs.length (fun x=>.int .i64 (enR f.params 0 x)):=by
    rw [hw2,hQ];exact (World.rowIs_made w1 (.int .i64 0) f.regs.length 3).congr fun i _=>by rw [enR_zero]
  have HB12:=Lib.hid hb2;have HC0:=Lib.hid c0;(have HQ:Hid (w.heap.size≤Q∧N<Q∧Q=w1.heap.size):=Lib.hid ⟨by rw [hQ];exact HB1.out.size,by rw [hQ,HNN.out];have:=HS1.out;omega,hQ⟩);rw [← hw2,← hQ];clear hw2 hQ c0;go_wp2_with fail
  go_loopw [11] (fun s11 wr=>∃ i:Nat,i≤f.regs.length∧s11=.int .i64 (i:Int)∧wr.rowIs Q 3 f.regs.length (fun x=>.int .i64 (enR f.params i x))∧Below w1.heap.size w1 wr) (fun s11 _=>f.regs.length - (intOf s11).toNat)
  case atStart=>exact ⟨0,Nat.zero_le _,rfl,hrow,HB12.out⟩
  case round =>
    obtain ⟨i,hi,rfl,hr,hbr⟩:=hrel;have c0:wr.cell? ⟨N,0,none⟩=some (.int .i64 f.params):=(q6 hbr) _ _ HC0.out
    by_cases him:i<f.regs.length
    · (have hi0:(0:Int)≤i:=by omega);(have hi1:(i:Int)<f.regs.length:=by omega);have d1:=hr.cell him;have d2:=hr.frozen i;have HR:=Lib.hid hr;have HBR:=Lib.hid hbr;(have HQN:Hid (N≠Q):=Lib.hid (by have:=HQ.out;omega));have hcN:∀ u,(wr.setCell ⟨Q,i,none⟩ u).cell? ⟨N,0,none⟩=some (.int .i64 f.params):=fun u=>by
        rw [World.cell?_setCell_other _ _ _ _ (fun e=>HQN.out (by injection e with e1 _ _;exact e1.symm))];exact c0
      have hcN':=hcN (.int .i64 (-1));have hsz:∀ u,(wr.setCell ⟨Q,i,none⟩ u).cell? ⟨Q,i,none⟩=some u:=fun u=>World.cell?_setCell_same _ _ _ d1;have hsz':=hsz (.int .i64 (-1));(have hfz':(wr.setCell ⟨Q,i,none⟩ (.int .i64 (-1))).frozen? ⟨Q,i,none⟩=false:=by rw [World.frozen?_setCell];exact d2);clear hr hbr hcN hsz
      by_cases hp:(i:Int)<f.params
      · go_wp2_with fail
        go_roundw
        case rel =>
          refine ⟨i+1,by omega,by go_num,((HR.out.set i (.int .i64 (-1))).set i (.int .i64 i)).congr fun x hx=>?_,?_⟩
          · have h:=enR_step f.params i x;rw [if_pos hp] at h;rw [← h]
            by_cases e:x=i <;> simp [e]
          · exact (HBR.out.setCell (p:=⟨Q,i,none⟩) (by show w1.heap.size≤Q;rw [HQ.out.2.2];exact Nat.le_refl _) _).setCell (p:=⟨Q,i,none⟩) (by show w1.heap.size≤Q;rw [HQ.out.2.2];exact Nat.le_refl _) _
        case measure=>simp [intOf];omega
      · go_wp2_with fail
        go_roundw
        case rel =>
          refine ⟨i+1,by omega,by go_num,(HR.out.set i (.int .i64 (-1))).congr fun x hx=>?_,?_⟩
          · have h:=enR_step f.params i x;rw [if_neg hp] at h;rw [← h]
            by_cases e:x=i <;> simp [e]
          · exact HBR.out.setCell (p:=⟨Q,i,none⟩) (by show w1.heap.size≤Q;rw [HQ.out.2.2];exact Nat.le_refl _) _
        case measure=>simp [intOf];omega
    · have hbr':=Lib.hid hbr;have hr':=Lib.hid hr;clear hbr hr;(go_wp2_with fail);(go_ret);refine ⟨⟨Q,rfl,HQ.out.1,hr'.out.congr fun x hx=>?_⟩,HB1.out.trans (hbr'.out.mono HB1.out.size)⟩;unfold enR;rw [if_pos (by omega)]
def zrK (p:Int) (M:Nat→Bool) (j:Nat):List Nat:=(List.range j).filter fun r=>decide (p≤(r:Int)) && M r
theorem zrK_zero {p:Int} (M:Nat→Bool) {j:Nat} (h:(j:Int)≤p):zrK p M j=[]:=by
  unfold zrK;rw [List.filter_eq_nil_iff];intro r hr;rw [List.mem_range] at hr;(have:decide (p≤(r:Int))=false:=by rw [decide_eq_false_iff_not];omega);rw [this];simp
theorem zrK_succ {p:Int} {M:Nat→Bool} {j:Nat} (h:p≤(j:Int)):zrK p M (j+1)=zrK p M j++(if M j=true then [j] else []):=by
  unfold zrK;rw [List.range_succ,List.filter_append];have:decide (p≤(j:Int))=true:=decide_eq_true h;cases hm:M j <;> simp [this,hm]
theorem zrK_len (p:Int) (M:Nat→Bool) (j:Nat):(zrK p M j).length≤j:=by
  unfold zrK;have:=List.length_filter_le (fun r:Nat=>decide (p≤(r:Int)) && M r) (List.range j);simpa using this
def zC (r:Nat):List Value:=[.int .i64 1,.int .i64 (r:Int),.slice none 0 0,.int .i64 0,.int .i64 0]
def zI (r:Nat):InsD:=⟨1,(r:Int),[],0,0⟩
def zCs (l:List Nat):List Value:=l.flatMap zC
theorem zCs_snoc (l:List Nat) (r:Nat):zCs (l++[r])=zCs l++zC r:=by unfold zCs;simp
theorem zCs_rows (B:Nat→Prop) (w:World):∀ (l:List Nat),(∀ r∈l,r≤1000000)→Rows 5 (CIns B w) (l.map zI) (zCs l)
  | [],_=>rfl
  | r::l,h=>⟨zC r,zCs l,rfl,rfl,⟨none,0,rfl,⟨Nat.le_refl _,⟨by unfold maxLen;omega,fun _=>rfl⟩,fun hp=>absurd hp (by simp [zI])⟩,by unfold I64 zI;simp,by have:=h r List.mem_cons_self;unfold I64 zI;simp;omega,by unfold I64 zI;simp,by unfold I64 zI;simp⟩,zCs_rows B w l fun x hx=>h x (List.mem_cons_of_mem _ hx)⟩
def ToldZo (p:Int) (M:Nat→Bool) (n:Nat) (w:World) (e:Ending) (w':World):Prop :=
  (∃ v,e=.returned v∧w'.ownsRow w.heap.size 45 5 v (zrK p M n).length (zCs (zrK p M n)))∧Below w.heap.size w w'
set_option maxRecDepth 100000 in
set_option maxHeartbeats 4000000 in
theorem zerosOf_any (f:FunD) (v:Value) (w:World) (G:Nat) (M:Nat→Bool) (hv:VFun w v f) (hG:w.rowIs G 4 f.regs.length (fun r=>.bool (M r))) (hn:f.regs.length≤1000) (hp:0≤f.params∧f.params≤f.regs.length) :
    Calls Try.prog 16 #[v,.slice (some ⟨G,0,none⟩) f.regs.length f.regs.length] w (ToldZo f.params M f.regs.length w):=by
  obtain ⟨i0,hi,hz0,hz1,hz2⟩:=info_parts Try.info45;have HI:=Lib.hid (And.intro hi (And.intro hz0 (And.intro hz1 hz2)));clear hi hz0 hz1 hz2;obtain ⟨Ar,cr,A,c,rfl,-,-,-,-⟩:=hv;obtain ⟨p,hpp⟩:∃ p:Nat,f.params=(p:Int):=⟨f.params.toNat,by omega⟩;rw [hpp] at hp ⊢;(have hp1:p≤f.regs.length:=by omega);have HG:=Lib.hid hG;clear hp hpp hG
  (go_enter Try.func16,Try.ntmps16);(go_upto_region 1 with fail);obtain ⟨w1,hw1,hs1,hk1,hbel1,hc1,-⟩:=named w #[.int .i64 p,.int .i64 f.result,.slice Ar f.regs.length cr,.slice A f.blocks.length c] 31;rw [← hw1];have c0:w1.cell? ⟨w.heap.size,0,none⟩=some (.int .i64 p):=hc1 0 _ rfl;have c2:w1.cell? ⟨w.heap.size,2,none⟩=some (.slice Ar f.regs.length cr):=hc1 2 _ rfl;have HB1:=Lib.hid hbel1;have HC2:=Lib.hid c2;obtain ⟨N,hN⟩:∃ N,N=w.heap.size:=⟨_,rfl⟩
  rw [← hN] at c0 c2 ⊢;have HC2:=Lib.hid c2;rw [hN] at HC2;have HNN:=Lib.hid hN;clear hw1 hs1 hbel1 hc1 hk1 hN;go_wp2_with fail
  go_loopw [5,6] (fun s5 s6 wr=>∃ (i:Nat) (vo:Value),p≤i∧i≤f.regs.length∧s6=.int .i64 (i:Int)∧s5=vo∧wr.ownsRow w1.heap.size 45 5 vo (zrK p M i).length (zCs (zrK p M i))∧Below w1.heap.size w1 wr) (fun _ s6 _=>f.regs.length - (intOf s6).toNat)
  case atStart=>exact ⟨p,_,Nat.le_refl _,hp1,rfl,rfl,by rw [zrK_zero M (Int.le_refl _)];exact World.ownsRow_nil _ _ _ _,Below.refl _ _⟩
  case round =>
    obtain ⟨i,vo,hpi,hi,rfl,rfl,hown,hbr⟩:=hrel;have HOW:=Lib.hid hown;have HBR:=Lib.hid hbr;have c2:wr.cell? ⟨N,2,none⟩=some (.slice Ar f.regs.length cr):=by rw [HNN.out];exact (q6 hbr) _ _ HC2.out
    by_cases him:i<f.regs.length
    · (have hi0:(0:Int)≤i:=by omega);(have hi1:(i:Int)<f.regs.length:=by omega);have dg:=(HG.out.of_block ((HB1.out.trans (hbr.mono HB1.out.size)).block G HG.out.lt)).cell him;have hzl:=zrK_len p M i;have HZS:=Lib.hid (zrK_succ (p:=(p:Int)) (M:=M) (j:=i) (by omega));clear hown hbr;cases hm:M i
      · rw [hm] at dg HZS;go_wp2_with fail
        go_roundw
        case rel=>exact ⟨i+1,_,by omega,by omega,by go_num,rfl,by rw [HZS.out];simpa using HOW.out,HBR.out⟩
        case measure=>simp [intOf];omega
      · rw [hm] at dg HZS;go_wp2_with (at_builtin;refine wpList_append_lies _ rfl (.tmp 20) (.tmp 23) 41 rfl w1.heap.size 45 i0 (.agg #[.int .i64 0,.int .i64 0,.slice none 0 0,.int .i64 0,.int .i64 0]) 5 56 Try.underlying41 HI.out.1 HI.out.2.1 HI.out.2.2.1 HI.out.2.2.2 (by rfl) (by decide) _ _ _ rfl (HOW.out.alloc _) ⟨wr.heap.size,0,none⟩ 1 1 (zC i) rfl rfl ?c1 ?c2 (by omega) ?c3 ?c4 ?c5 (wr.heap.size+1) ?c6 ?_)
        case c1=>exact fun j u h=>h
        case c2=>intro x hx;simp only [zC,List.mem_cons,List.not_mem_nil,or_false] at hx;rcases hx with rfl | rfl | rfl | rfl | rfl <;> rfl
        case c3=>unfold maxLen;omega
        case c4=>omega
        case c5=>have:=HBR.out.size;simp;omega
        intro g cap w6 hown6 hgrow6 hloc6 hlt6;(have HB6:Hid (Below w1.heap.size w1 w6):=Lib.hid ((HBR.out.alloc HBR.out.size _).grown hgrow6 (by have:=HBR.out.size;simp;omega) (fun g' hg'=>(HOW.out.lt g' hg').1)));have HO6:=Lib.hid hown6;clear hown6 hgrow6 hloc6 hlt6;go_wp2_with fail
        go_roundw
        case rel=>exact ⟨i+1,_,by omega,by omega,by go_num,rfl,by rw [HZS.out,if_pos trivial,zCs_snoc,List.length_append];exact HO6.out,HB6.out⟩
        case measure=>simp [intOf];omega
    · (have hil:i=f.regs.length:=by omega);subst hil;clear hown hbr;(go_wp2_with fail);(go_ret);exact ⟨⟨_,rfl,z8 HOW.out HB1.out.size⟩,HB1.out.trans (HBR.out.mono HB1.out.size)⟩
def qo (l:List BlkD):Nat:=(l.map fun b=>b.phis.length+b.ins.length).sum
theorem items_succ {l:List BlkD} {i:Nat} {b:BlkD} (h:l[i]?=some b):qo (l.take (i+1))=qo (l.take i)+(b.phis.length+b.ins.length):=by
  unfold qo;rw [qC h,List.map_append,List.sum_append];simp
set_option maxRecDepth 100000 in
set_option maxHeartbeats 4000000 in
theorem isLarge_any (f:FunD) (v:Value) (w:World) (hv:VFun w v f) (hn:f.blocks.length≤1000) (hb:∀ b∈f.blocks,b.phis.length≤1000∧b.ins.length≤1000) :
    Calls Try.prog 19 #[v] w fun e w'=>e=.returned (.bool (decide (256<f.blocks.length+qo f.blocks) || decide (256<f.regs.length)))∧Below w.heap.size w w':=by
  obtain ⟨Ar,cr,A,c,rfl,hr,hbs,-,-⟩:=hv;have hrl:=hr.len;have HBS:=Lib.hid hbs;have HL:=Lib.hid hb;clear hr hbs hb
  have HIL:Hid (∀ i,i≤f.blocks.length→qo (f.blocks.take i)≤2000 * i):=Lib.hid (fun i=>by
    induction i with
    | zero=>intro _;simp [qo]
    | succ i ih =>
      intro hi;have hx:f.blocks[i]?=some f.blocks[i]:=List.getElem?_eq_getElem (by omega);have h1:=HL.out _ (List.mem_of_getElem? hx);rw [items_succ hx];have:=ih (by omega)
      omega)
  (go_enter Try.func19,Try.ntmps19);(go_upto_region 1 with fail);obtain ⟨w1,hw1,hs1,hk1,hbel1,hc1,-⟩:=named w #[.int .i64 f.params,.int .i64 f.result,.slice Ar f.regs.length cr,.slice A f.blocks.length c] 31;rw [← hw1];have c2:w1.cell? ⟨w.heap.size,2,none⟩=some (.slice Ar f.regs.length cr):=hc1 2 _ rfl;have c3:w1.cell? ⟨w.heap.size,3,none⟩=some (.slice A f.blocks.length c):=hc1 3 _ rfl;have HB1:=Lib.hid hbel1;obtain ⟨N,hN⟩:∃ N,N=w.heap.size:=⟨_,rfl⟩;rw [← hN] at c2 c3 ⊢
  have HC2:=Lib.hid c2;clear hw1 hs1 hbel1 hc1 hk1 hN;go_wp2_with fail
  go_loopw [3,12] (fun s3 s12 wr=>∃ i:Nat,i≤f.blocks.length∧s12=.int .i64 (i:Int)∧s3=.int .i64 ((f.blocks.length+qo (f.blocks.take i):Nat):Int)∧Below w1.heap.size w1 wr) (fun _ s12 _=>f.blocks.length - (intOf s12).toNat)
  case atStart=>exact ⟨0,Nat.zero_le _,rfl,by simp [qo],Below.refl _ _⟩
  case round =>
    obtain ⟨i,hi,rfl,rfl,hbr⟩:=hrel;have HBR:=Lib.hid hbr;have hil:=HIL.out i hi
    by_cases him:i<f.blocks.length
    · obtain ⟨b,o,kb,rfl,hkb,⟨Ap,cp,hphi,-⟩,⟨Ai,ci,hins,-⟩,⟨hkd,-⟩,⟨har,-⟩,⟨At,ct,hto,-⟩⟩:=(SBlks.keep (q6 (HB1.out.trans (hbr.mono HB1.out.size))) HBS.out).at_ him;have hkl:=HL.out _ (List.mem_of_getElem? hkb.out);have HIS:=Lib.hid (items_succ hkb.out);clear hbr hkb;(go_upto_region 5 with fail);clear hphi hins hkd har hto;obtain ⟨w3,hw3,hs3,hk3,hbel3,hc3,-⟩:=named wr #[.slice Ap kb.phis.length cp,.slice Ai kb.ins.length ci,.int .i64 kb.term.kind,.int .i64 kb.term.arg,.slice At kb.term.to.length ct] 43;rw [← hw3];have d0:w3.cell? ⟨wr.heap.size,0,none⟩=some (.slice Ap kb.phis.length cp):=hc3 0 _ rfl
      have d1:w3.cell? ⟨wr.heap.size,1,none⟩=some (.slice Ai kb.ins.length ci):=hc3 1 _ rfl;have HB3:=Lib.hid hbel3;clear hw3 hs3 hk3 hbel3 hc3;generalize qo (f.blocks.take i)=q at *;go_wp2_with fail
      go_roundw
      case rel=>exact ⟨i+1,by omega,by go_num,by rw [HIS.out];go_num,HBR.out.trans (HB3.out.mono HBR.out.size)⟩
      case measure=>simp [intOf];omega
    · (have hil:i=f.blocks.length:=by omega);subst hil;have c2:wr.cell? ⟨N,2,none⟩=some (.slice Ar f.regs.length cr):=(q6 hbr) _ _ HC2.out;clear hbr;have HB:Hid (Below w.heap.size w wr):=Lib.hid (HB1.out.trans (HBR.out.mono HB1.out.size));rw [List.take_length] at *
      by_cases h1:256<f.blocks.length+qo f.blocks
      · (have h1':(256:Int)<((f.blocks.length+qo f.blocks:Nat):Int):=by omega);have HD:Hid (decide (256<f.blocks.length+qo f.blocks)=true):=Lib.hid (decide_eq_true h1);clear h1;(go_wp2_with fail);(go_ret);exact ⟨by rw [HD.out];simp,HB.out⟩
      · (have h1':¬ (256:Int)<((f.blocks.length+qo f.blocks:Nat):Int):=by omega);have HD:Hid (decide (256<f.blocks.length+qo f.blocks)=false):=Lib.hid (decide_eq_false h1);clear h1;(go_wp2_with fail);(go_ret);exact ⟨by rw [HD.out];simp;rw [Bool.eq_iff_iff];simp only [Bool.or_eq_true,decide_eq_true_eq];omega,HB.out⟩
def ToldVe (w:World) (K P:Nat) (v:Value) (ts:List Int) (t:Int) (e:Ending) (w':World):Prop :=
  e=.returned (.int .i64 (ts.length:Int))∧∃ v',w'.cell? ⟨P,2,none⟩=some v'∧(∀ i,i≠2→w'.cell? ⟨P,i,none⟩=w.cell? ⟨P,i,none⟩)∧(∀ i,w'.frozen? ⟨P,i,none⟩=w.frozen? ⟨P,i,none⟩) ∧
    w'.ownsRow K 3 1 v' (ts.length+1) ((ts++[t]).map (Value.int .i64))∧(∀ g,v'.ownBlock=some g→v.ownBlock=some g∨w.heap.size≤g)∧FrX (fun y=>y=P∨v.ownBlock=some y) w w'
set_option maxRecDepth 100000 in
set_option maxHeartbeats 8000000 in
theorem version_any (w:World) (K P Nb old:Nat) (v:Value) (ts regs:List Int) (t:Int) (Ar:Option Addr) (cr:Nat) (hP:P<w.heap.size) (hK:K≤w.heap.size) (hc7:w.cell? ⟨P,2,none⟩=some v) (hc2:w.cell? ⟨Nb,2,none⟩=some (.slice Ar regs.length cr)) (hNP:Nb≠P)
    (hf:∀ i,w.frozen? ⟨P,i,none⟩=false) (hr:SL w 1 RInt Ar cr regs) (hold:regs[old]?=some t) (hrl:regs.length≤100000) (ho:w.ownsRow K 3 1 v ts.length (ts.map (Value.int .i64))) (hvP:v.ownBlock≠some P) (hts:ts.length≤1000000)
    (hrP:∀ g o,Ar=some ⟨g,o,none⟩→v.ownBlock≠some g) (hvN:v.ownBlock≠some Nb) :
    Calls Try.prog 38 #[.int .i64 (old:Int),.pointer (some ⟨P,0,none⟩),.pointer (some ⟨Nb,0,none⟩)] w (ToldVe w K P v ts t):=by
  have hol:old<regs.length:=(List.getElem?_eq_some_iff.1 hold).1;obtain ⟨gr,og,x,rfl,hx,hxc⟩:=hr.at_ hol;(obtain rfl:t=x:=by have:=hold.symm.trans hx.out;injection this);have hgr:gr<w.heap.size:=block_lt_of_cell hxc.1;have hnb:Nb<w.heap.size:=block_lt_of_cell hc2;have hct:=hxc.1;rw [Nat.mul_one] at hct;(have ho0:(0:Int)≤old:=by omega);have ho1:(old:Int)<regs.length:=by omega
  obtain ⟨Av,cv,rfl⟩:=qL ho;have hgv:=hrP gr og rfl;have HOW:=Lib.hid ho;have HVP:=Lib.hid hvP;have HVN:=Lib.hid hvN;have HGV:=Lib.hid hgv;have HPW:=Lib.hid hP;have HGW:=Lib.hid (And.intro hgr hnb);have HF:=Lib.hid hf
  have HTL:=Lib.hid hts;have HKW:=Lib.hid hK;obtain ⟨i0,hi0,hz0,hz1,hz2⟩:=info_parts Try.info3;have HI0:=Lib.hid (And.intro hi0 (And.intro hz0 (And.intro hz1 hz2)));have hS:∀ w':World,(∀ y,y=P∨y=gr∨y=Nb→w'.heap[y]?=w.heap[y]?)→w'.cell? ⟨P,2,none⟩=some (.slice Av ts.length cv)∧w'.cell? ⟨Nb,2,none⟩=some (.slice (some ⟨gr,og,none⟩) regs.length cr)∧w'.cell? ⟨gr,og+old,none⟩=some (.int .i64 t):=fun w' hb =>
    ⟨(World.cell?_of_block (a:=⟨P,2,none⟩) (hb P (.inl rfl))).trans hc7,(World.cell?_of_block (a:=⟨Nb,2,none⟩) (hb Nb (.inr (.inr rfl)))).trans hc2,(World.cell?_of_block (a:=⟨gr,og+old,none⟩) (hb gr (.inr (.inl rfl)))).trans hct⟩
  have HSS:=Lib.hid hS;clear hi0 hz0 hz1 hz2 hx hxc hold ho hvP hgv hP hgr hf hrP hr hts hK hvN hnb;(go_enter Try.func38,Try.ntmps38);(go_upto_region 1 with fail);have hS0:=hS w.drew (fun _ _=>rfl);clear hS hc7 hc2 hct;refine qI (L:=10) (S:=fun w':World=>w'.cell? ⟨P,2,none⟩=some (.slice Av ts.length cv)∧w'.cell? ⟨Nb,2,none⟩=some (.slice (some ⟨gr,og,none⟩) regs.length cr)∧w'.cell? ⟨gr,og+old,none⟩=some (.int .i64 t)) (by kernel_rfl) (by rfl) (by kernel_rfl) (by kernel_rfl) ?_;change wpAnyH _ _ _ _ _ _ _ _ (World.drew _);refine tk 0 5 hS0 ?_
  simp only [Act.put,aS,List.set_cons_zero,List.set_cons_succ];refine tk 1 6 hS0 ?_;simp only [Act.put,aS,List.set_cons_zero,List.set_cons_succ];refine tk 2 7 hS0 ?_;simp only [Act.put,aS,List.set_cons_zero,List.set_cons_succ];refine tk 3 8 hS0 ?_;simp only [Act.put,aS,List.set_cons_zero,List.set_cons_succ];refine tk 4 9 hS0 ?_;simp only [Act.put,aS,List.set_cons_zero,List.set_cons_succ]
  refine tk 5 10 hS0 ?_;simp only [Act.put,aS,List.set_cons_zero,List.set_cons_succ];refine tk 6 11 hS0 ?_;simp only [Act.put,aS,List.set_cons_zero,List.set_cons_succ];refine oneH (i:=7) (by kernel_rfl) (fun o ho K' hK=>?_);(simp only [List.getElem?_toArray,List.getElem?_cons_zero,List.getElem?_cons_succ,Option.some.injEq] at ho;subst ho);(go_simp);have hb8:Below w.heap.size w (w.alloc (.cells #[.int .i64 t] 3)).drew:=((Below.refl _ w).alloc (Nat.le_refl _) _).drew;refine hK.out _ _ (HSS.out _ fun y hy=>hb8.block y (by have:=HPW.out;have:=HGW.out;rcases hy with h | h | h <;> omega)) ?_
  clear hK K';refine oneH (i:=8) (by kernel_rfl) (fun o ho K' hK=>?_);(simp only [List.getElem?_toArray,List.getElem?_cons_zero,List.getElem?_cons_succ,Option.some.injEq] at ho;subst ho);refine step_append_lies _ (by rfl) _ _ _ (by rfl) K 3 i0 (.int .i64 0) 1 8 Try.underlying28 HI0.out.1 HI0.out.2.1 HI0.out.2.2.1 HI0.out.2.2.2 rfl (by decide) (.slice Av ts.length cv) _ _ (by rfl) (HOW.out.alloc _)
    ⟨w.heap.size,0,none⟩ 1 1 [.int .i64 t] (by rfl) (by rfl) (qf _ #[.int .i64 t] _ (by simp)) (by simp [Value.oneCell']) (by decide) (by have:=HTL.out;unfold maxLen;omega) (by have:=HTL.out;have:=HKW.out;simp;omega) (by have:=HKW.out;simp;omega) (w.heap.size+1) (by simp) ?_
  intro g' cap w7 hown7 hgrow7 hloc7 hlt7;have hgd:GroD w w7 (.slice Av ts.length cv) (.slice (some ⟨g',0,none⟩) (ts.length+1) cap):=groD_drew (qU hgrow7 hloc7);have hno:∀ y,y=P∨y=gr∨y=Nb→(Value.slice Av ts.length cv).ownBlock≠some y:=fun y hy e=>by
    rcases hy with rfl | rfl | rfl
    · exact HVP.out e
    · exact HGV.out e
    · exact HVN.out e
  (have hb7:∀ y,y=P∨y=gr∨y=Nb→w7.heap[y]?=w.heap[y]?:=fun y hy=>hgd.block y (by have:=HPW.out;have:=HGW.out;rcases hy with h | h | h <;> omega) (hno y hy));have hS7:=HSS.out w7 hb7;have hfz7:w7.frozen? ⟨P,2,none⟩=false:=(World.frozen?_of_block (a:=⟨P,2,none⟩) (hb7 P (.inl rfl))).trans (HF.out 2);have HB7:=Lib.hid hb7;have HGD:=Lib.hid hgd;have HO7:=Lib.hid hown7;refine hK.out _ _ hS7 ?_;clear hK K' hgd hown7 hgrow7 hloc7 hlt7 hno hb8;try simp only [Act.put,aS,List.set_cons_zero,List.set_cons_succ]
  refine tk 9 14 hS7 ?_;simp only [Act.put,aS,List.set_cons_zero,List.set_cons_succ];refine wpAnyH_done (by kernel_rfl) ?_ _;refine lastH (by decide) (fun o ho K' hK=>?_);(simp only [List.getElem?_toArray,List.getElem?_cons_zero,List.getElem?_cons_succ,Option.some.injEq] at ho;subst ho);have hcp7:=hS7.1;(go_simp);refine hK.out _ _ ?_;clear hK K' hS7 hS0
  obtain ⟨w8,hw8⟩:∃ w8,w8=w7.setCell ⟨P,2,none⟩ (.slice (some ⟨g',0,none⟩) (ts.length+1) cap):=⟨_,rfl⟩;rw [← hw8];(have h8:∀ y,y≠P→w8.heap[y]?=w7.heap[y]?:=fun y hy=>by rw [hw8];exact Below.heap_setCell _ _ _ _ hy);(have hc7:w8.cell? ⟨P,2,none⟩=some (.slice (some ⟨g',0,none⟩) (ts.length+1) cap):=by rw [hw8];exact World.cell?_setCell_same _ _ _ hcp7);have htl:=HTL.out;have hown:∀ y,(Value.slice (some ⟨g',0,none⟩) (ts.length+1) cap).ownBlock=some y→y≠P:=fun y hy e=>by
    subst e;rcases HGD.out.own y hy with h | h
    · exact HVP.out h
    · have:=HPW.out;omega
  have HR:Hid (ToldVe w K P (.slice Av ts.length cv) ts t (.returned (.int .i64 (ts.length:Int))) w8):=Lib.hid ⟨rfl,_,hc7,fun i hi=>by
      (rw [hw8,World.cell?_setCell_other _ _ _ _ (fun e=>hi (by injection e with _ e2 _;exact e2.symm))]);exact World.cell?_of_block (a:=⟨P,i,none⟩) (HB7.out P (.inl rfl)),fun i=>by
      rw [hw8,World.frozen?_setCell];exact World.frozen?_of_block (a:=⟨P,i,none⟩) (HB7.out P (.inl rfl)),by
      rw [List.map_append];exact qD HO7.out (fun y hy=>h8 y (hown y hy)),HGD.out.own,by
      rw [hw8]
      exact (HGD.out.fr (X:=fun y=>y=P∨(Value.slice Av ts.length cv).ownBlock=some y) (FrX.refl _ _) (fun y hy=>.inl (.inr hy))).setCell (p:=⟨P,2,none⟩) (.inl (.inl rfl)) _⟩
  clear hw8 hown h8 hb7 hfz7 hcp7;(go_wp2_with fail);(go_ret);exact HR.out
end Go.Proofs.Ytfoggldjjnabcaa

namespace Go.Proofs.Ytfoggldjjnabcaa
open Go.RowKit
set_option linter.unusedVariables false
def qS:List Int→Int
  | []=>0
  | x::r=>if x=0 then qS r else x
theorem firstE_append (a b:List Int):qS (a++b)=if qS a=0 then qS b else qS a:=by
  induction a with
  | nil=>simp [qS]
  | cons x r ih =>
    simp only [List.cons_append,qS]
    by_cases h:x=0
    · simp only [if_pos h,ih]
    · simp only [if_neg h]
theorem firstE_snoc {l:List Int} {k:Nat} {x:Int} (h:l[k]?=some x) (h0:qS (l.take k)=0):qS (l.take (k+1))=x:=by
  rw [qC h,firstE_append,if_pos h0];simp only [qS]
  split <;> simp_all
theorem firstE_stop {l:List Int} {k:Nat} {x:Int} (h:l[k]?=some x) (h0:qS (l.take k)=0) (hx:x≠0):qS l=x:=by
  have e:l=l.take (k+1)++l.drop (k+1):=(List.take_append_drop _ _).symm;rw [e,firstE_append,firstE_snoc h h0,if_neg hx]
theorem firstE_zero {l:List Int}:qS l=0↔∀ x∈l,x=0:=by
  induction l with
  | nil=>simp [qS]
  | cons x r ih =>
    simp only [qS,List.mem_cons,forall_eq_or_imp]
    by_cases h:x=0
    · simp [h,ih]
    · simp [h]
theorem map_at {α β:Type} {l:List α} {k:Nat} {x:α} (f:α→β) (h:l[k]?=some x):(l.map f)[k]?=some (f x):=by rw [List.getElem?_map,h];rfl
theorem map_take {α β:Type} (l:List α) (k:Nat) (f:α→β):(l.map f).take k=(l.take k).map f:=List.map_take.symm
def reg (regs:List Int) (r:Int):Int:=regs.getD r.toNat 0
def qj (bs:List BlkD):Nat:=(bs.map fun b=>b.phis.length+b.ins.length).sum
def withinB (f:FunD):Bool:=decide (1≤f.blocks.length∧f.blocks.length≤64∧f.regs.length≤256∧f.blocks.length+qj f.blocks≤256)
def isTy (t:Int):Bool:=decide (t=1∨t=2)
def typedB (f:FunD):Bool:=f.regs.all isTy && decide (0≤f.params∧f.params≤8∧f.params≤f.regs.length) && decide (f.result=0∨f.result=1∨f.result=2)
def tosB (t:TermD):Bool :=
  if t.kind=1 then decide (t.to.length=1) else if t.kind=2 then decide (t.to.length=2) && decide (t.to.getD 0 0≠t.to.getD 1 0) else if t.kind=3 then decide (t.to.length=0) else false
def toB (n:Nat) (x:Int):Bool:=decide (x≠0∧0≤x∧x<n)
def shapeB (n:Nat) (t:TermD):Bool:=tosB t && t.to.all (toB n)
def endsWellB (f:FunD):Bool:=f.blocks.all fun b=>shapeB f.blocks.length b.term
def meetK (bs:List BlkD):List BlkD→Nat→Bool
  | [],_=>true
  | b::r,i=>b.phis.all (fun p=>decide (p.args.length=(qF bs i).length)) && meetK bs r (i+1)
def meetB (f:FunD):Bool:=meetK f.blocks f.blocks 0
def outerE (f:FunD):Int:=if withinB f then (if typedB f then (if endsWellB f && meetB f then 0 else 6) else 3) else 5
def areAtB (l:List Int) (n:Int):Bool:=l.all fun a=>decide (0≤a∧a<n)
def phiE (f:FunD) (p:PhiD):Int :=
  if decide (0≤p.dst∧p.dst<f.regs.length) && areAtB p.args f.regs.length then (if p.args.all fun a=>decide (reg f.regs a=reg f.regs p.dst) then 0 else 3) else 4
def wantOf (f:FunD) (t:TermD):Int:=if t.kind=2 then 2 else if t.kind=3 then f.result else 0
def termE (f:FunD) (t:TermD):Int :=
  if wantOf f t=0 then (if t.arg=-1 then 0 else 3) else if 0≤t.arg∧t.arg<f.regs.length then (if reg f.regs t.arg=wantOf f t then 0 else 3) else 4
theorem itemsK_step {bs:List BlkD} {k:Nat} {b:BlkD} (h:bs[k]?=some b):qj (bs.take (k+1))=qj (bs.take k)+(b.phis.length+b.ins.length):=by
  unfold qj;rw [qC h];simp
theorem all_step {α:Type} {l:List α} {k:Nat} {x:α} {p:α→Bool} (h:l[k]?=some x) (h0:(l.take k).all p=true):(l.take (k+1)).all p=p x:=by
  rw [qC h,List.all_append,h0];simp
theorem all_stop {α:Type} {l:List α} {k:Nat} {x:α} {p:α→Bool} (h:l[k]?=some x) (hx:p x=false):l.all p=false:=by
  rw [List.all_eq_false];exact ⟨x,List.mem_of_getElem? h,by simp [hx]⟩
theorem all_done {α:Type} {l:List α} {k:Nat} {p:α→Bool} (h:(l.take k).all p=true) (hk:l.length≤k):l.all p=true:=by rwa [List.take_of_length_le hk] at h
theorem meetK_append (bs l r:List BlkD) (i:Nat):meetK bs (l++r) i=(meetK bs l i && meetK bs r (i+l.length)):=by
  induction l generalizing i with
  | nil=>simp [meetK]
  | cons b l ih=>simp only [List.cons_append,meetK,ih,List.length_cons,Bool.and_assoc];congr 3;omega
def meetUp (bs:List BlkD) (k:Nat):Bool:=meetK bs (bs.take k) 0
theorem meetUp_step {bs:List BlkD} {k:Nat} {b:BlkD} (h:bs[k]?=some b) (h0:meetUp bs k=true):meetUp bs (k+1)=b.phis.all (fun p=>decide (p.args.length=(qF bs k).length)):=by
  have hk:k<bs.length:=(List.getElem?_eq_some_iff.1 h).1;unfold meetUp at h0 ⊢;rw [qC h,meetK_append,h0,List.length_take,Nat.min_eq_left (by omega),Nat.zero_add];simp [meetK]
theorem meetUp_stop {bs:List BlkD} {k:Nat} {b:BlkD} (h:bs[k]?=some b) (hb:b.phis.all (fun p=>decide (p.args.length=(qF bs k).length))=false):meetK bs bs 0=false:=by
  have hk:k<bs.length:=(List.getElem?_eq_some_iff.1 h).1;have e:bs=bs.take (k+1)++bs.drop (k+1):=(List.take_append_drop _ _).symm;have h2:meetK bs (bs.take (k+1)) 0=false:=by
    rw [qC h,meetK_append,List.length_take,Nat.min_eq_left (by omega),Nat.zero_add];simp only [meetK,hb,Bool.false_and,Bool.and_false]
  have h3:meetK bs (bs.take (k+1)++bs.drop (k+1)) 0=false:=by rw [meetK_append,h2];rfl
  rwa [← e] at h3
theorem meetUp_done {bs:List BlkD} {k:Nat} (h:meetUp bs k=true) (hk:bs.length≤k):meetK bs bs 0=true:=by unfold meetUp at h;rwa [List.take_of_length_le hk] at h
theorem reg_of {regs:List Int} {r:Int} {x:Int} {k:Nat} (hr:r=k) (h:regs[k]?=some x):reg regs r=x:=by
  subst hr;rw [reg,Int.toNat_natCast,List.getD_eq_getElem?_getD,h];rfl
end Go.Proofs.Ytfoggldjjnabcaa
