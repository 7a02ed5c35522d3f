/- Trim's smaller functions: a block's instructions in new memory. -/
import Derived.Test.YtfoggldjjnabcaaLabJ
import Derived.Test.YtfoggldjjnabcaaSpVJ
import Derived.Test.YtfoggldjjnabcaaGrNmJ
import Derived.Test.YtfoggldjjnabcaaDmTJ
import Derived.Test.YtfoggldjjnabcaaChkEJ
import Derived.Shelf.Spec.SlicesGrow
import Derived.Test.YtfoggldjjnabcaaChecked
import Derived.Laws.AppendOwnNone
import Derived.Deep.AppendLies
import Derived.Laws.OwnMore
import Derived.WalkSpells
import Derived.Test.YtfoggldjjnabcaaSpecJ
namespace Go.Proofs.Ytfoggldjjnabcaa
open Go.ChangeShapes Go.WideShapes Go.RowKit Go.Deep
set_option linter.unusedVariables false
theorem rows_len_ {α:Type} {sz:Nat} {F:α→List Value→Prop}:∀ {l:List α} {cs:List Value},Rows sz F l cs→cs.length=l.length * sz
  | [],cs,h=>by rw [show cs=[] from h];simp
  | x::l,cs,⟨c,r,e,h1,_,h3⟩=>by rw [e,List.length_append,h1,rows_len_ h3,List.length_cons,Nat.succ_mul];omega
theorem cins_of {w:World} {b o:Nat} {x:InsD} (h:RIns w b o x):∃ cs,cs.length=5∧CIns (fun _=>True) w x cs∧(∀ j u,cs[j]?=some u→w.cell? ⟨b,o+j,none⟩=some u)∧∀ u∈cs,u.oneCell'=true:=by
  obtain ⟨⟨h0,g0⟩,⟨h1,g1⟩,⟨A,c,h2,hs⟩,⟨h3,g3⟩,⟨h4,g4⟩⟩:=h;refine ⟨[.int .i64 x.op,.int .i64 x.dst,.slice A x.args.length c,.int .i64 x.imm,.int .i64 x.fn],rfl,⟨A,c,rfl,SL.imp (fun b o y hy=>⟨trivial,hy⟩) hs,g0,g1,g3,g4⟩,fun j u hu=>?_,fun u hu=>?_⟩
  · match j,hu with
    | 0,hu=>obtain rfl:=Option.some.inj hu;exact h0
    | 1,hu=>obtain rfl:=Option.some.inj hu;exact h1
    | 2,hu=>obtain rfl:=Option.some.inj hu;exact h2
    | 3,hu=>obtain rfl:=Option.some.inj hu;exact h3
    | 4,hu=>obtain rfl:=Option.some.inj hu;exact h4
  · simp only [List.mem_cons,List.not_mem_nil,or_false] at hu;rcases hu with rfl | rfl | rfl | rfl | rfl <;> rfl
theorem ins_news {w:World} {b:Nat}:∀ (xs:List InsD) (o:Nat),(∀ i x,xs[i]?=some x→RIns w b (o+i * 5) x) →
    ∃ cs,Rows 5 (CIns (fun _=>True) w) xs cs∧(∀ j u,cs[j]?=some u→w.cell? ⟨b,o+j,none⟩=some u)∧∀ u∈cs,u.oneCell'=true
  | [],o,_=>⟨[],rfl,fun j u h=>by simp at h,fun u h=>by simp at h⟩
  | x::xs,o,h=>by
    obtain ⟨c,hl,hc,hcell,hone⟩:=cins_of (by simpa using h 0 x rfl);(obtain ⟨cs,hr,hcell2,hone2⟩:=ins_news xs (o+5) (fun i y hy=>by have:=h (i+1) y (by simpa using hy);rwa [show o+(i+1) * 5=o+5+i * 5 by omega] at this));refine ⟨c++cs,⟨c,cs,rfl,hl,hc,hr⟩,fun j u hu=>?_,fun u hu=>?_⟩
    · by_cases hj:j<5
      · rw [List.getElem?_append_left (by omega)] at hu;exact hcell j u hu
      · rw [List.getElem?_append_right (by omega),hl] at hu;have:=hcell2 (j - 5) u hu
        rwa [show o+5+(j - 5)=o+j by omega] at this
    · rcases List.mem_append.1 hu with hu | hu
      · exact hone u hu
      · exact hone2 u hu
def ToldCI (xs:List InsD) (w:World) (e:Ending) (w':World):Prop :=
  (∃ v cs,e=.returned v∧w'.ownsRow w.heap.size 45 5 v xs.length cs∧Rows 5 (CIns (fun b=>b<w.heap.size) w') xs cs)∧Below w.heap.size w w'
set_option maxRecDepth 100000 in
theorem cloneIns_any (xs:List InsD) (v:Value) (w:World) (hv:VS w 5 RIns v xs) (hn:xs.length≤1000):Calls Try.prog 46 #[v] w (ToldCI xs w):=by
  obtain ⟨A,c,rfl,hs⟩:=hv;cases A with
  | none =>
    obtain rfl:xs=[]:=by
      rcases Nat.eq_zero_or_pos xs.length with h0 | h0
      · exact List.length_eq_zero_iff.1 h0
      · obtain ⟨b,o,e,_⟩:=hs.2.2 h0;cases e
    obtain rfl:c=0:=hs.2.1.2 rfl;clear hs;have heq:=Lib.run_eql_slice_nil (P:=Try.prog) w 41 45 none 0 0 0 0 Try.underlying41;(go_enter Try.func46,Try.ntmps46);(go_wp2_with (simp only [heq,Option.isNone]));(go_ret);exact ⟨⟨_,[],rfl,World.ownsRow_nil _ _ _ _,rfl⟩,Below.refl _ _⟩
  | some ad =>
    have heq:=Lib.run_eql_slice_nil (P:=Try.prog) w 41 45 (some ad) xs.length c 0 0 Try.underlying41;obtain ⟨i5,p1,p2,p3,p4⟩:=info_parts Try.info45;have hown:(w.alloc (.cells #[] 45)).ownsRow w.heap.size 45 5 (.slice (some ⟨w.heap.size,0,none⟩) 0 0) 0 [] :=
      ⟨rfl,.inr ⟨w.heap.size,0,#[],rfl,Nat.le_refl _,heap_alloc_new w _,Nat.le_refl _,Nat.zero_le _,rfl,rfl⟩⟩
    obtain ⟨cs,hrows,hcells,hone⟩:∃ cs,Rows 5 (CIns (fun _=>True) w) xs cs∧(∀ j u,cs[j]?=some u→w.cell? (ad.add j)=some u)∧∀ u∈cs,u.oneCell'=true:=by
      rcases Nat.eq_zero_or_pos xs.length with h0 | h0
      · obtain rfl:xs=[]:=List.length_eq_zero_iff.1 h0;exact ⟨[],rfl,fun j u h=>by simp at h,fun u h=>by simp at h⟩
      · obtain ⟨b,o,e,hx⟩:=hs.2.2 h0;obtain rfl:=Option.some.inj e;obtain ⟨cs,h1,h2,h3⟩:=ins_news xs o hx;exact ⟨cs,h1,fun j u hu=>by rw [show (⟨b,o,none⟩:Addr).add j=⟨b,o+j,none⟩ by unfold Addr.add;split <;> simp_all];exact h2 j u hu,h3⟩
    obtain ⟨v',w',hr,h2,h3,_,h5⟩:=run_append_own_at (P:=Try.prog) (w.alloc (.cells #[] 45)) w.heap.size 41 41 45 i5 _ 5 56 Try.underlying41 p1 p2 p3 p4 (by rfl) (by decide) _ 0 [] hown ad xs.length c
      cs (rows_len_ hrows) (fun j u hu=>qN w _ _ _ (hcells j u hu)) hone (by unfold maxLen;omega) (by omega) (by simp)
    rw [Nat.zero_add,List.nil_append] at h2;(have hB:Below w.heap.size w w':=((Below.refl w.heap.size w).alloc (Nat.le_refl _) (.cells #[] 45)).grown h3 (by simp) (fun k hk=>by have:=Option.some.inj (show some w.heap.size=some k from hk);omega));have hrows':Rows 5 (CIns (fun b=>b<w.heap.size) w') xs cs:=hrows.imp fun x c hx=>CIns.go (KeptB.of (q6 hB)) (fun b hb=>hb.2) (CIns.lt hx);have HF:=Lib.hid (And.intro h2 (And.intro hrows' hB));clear h2 h3 h5 hB hown p1 p2 p3 p4 hs hrows hcells hone hrows';(go_enter Try.func46,Try.ntmps46);(go_wp2_with (first | (at_builtin;refine wpList_append_runs rfl (.tmp 5) (.tmp 6) 41 41 rfl _ _ rfl rfl hr ?_) | simp only [heq,Option.isNone]));(go_ret);exact ⟨⟨v',cs,rfl,HF.out.1,HF.out.2.1⟩,HF.out.2.2⟩
def ToldI_ (xs:List InsD) (w:World) (e:Ending) (w':World):Prop :=
  (∃ A c,e=.returned (.slice A xs.length c)∧SL w' 5 (RInsB (BG w.heap.size w')) A c xs)∧Below w.heap.size w w'
theorem setG_mid {cs r:List Value} {a b c d e v:Value} {k:Nat} (h:cs.length=k * 5):(cs++([a,b,c,d,e]++r)).set (k * 5+2) v=(cs++[a,b,v,d,e])++r:=by
  rw [List.set_append_right _ _ (by omega),show k * 5+2 - cs.length=2 by omega,List.append_assoc];rfl
theorem get_mid {cs r:List Value} {a b c d e:Value} {k:Nat} (h:cs.length=k * 5):(cs++([a,b,c,d,e]++r))[k * 5+2]?=some c:=by
  rw [List.getElem?_append_right (by omega),show k * 5+2 - cs.length=2 by omega];rfl
set_option maxRecDepth 100000 in
set_option maxHeartbeats 8000000 in
theorem insOf_any (xs:List InsD) (v:Value) (w:World) (hv:VS w 5 RIns v xs) (hn:xs.length≤1000) (ha:∀ x∈xs,x.args.length≤1000):Calls Try.prog 28 #[v] w (ToldI_ xs w):=by
  have HC:=Lib.hid (cloneIns_any xs v w hv hn);have HAL:=Lib.hid ha;obtain ⟨A,c,rfl,-⟩:=hv;clear ha;(go_enter Try.func28,Try.ntmps28);(go_wp2_with fail);refine HC.out.mono ?_;rintro e w1 ⟨⟨vc,cs,rfl,ho,hr⟩,hb1⟩;have hvc:∃ A' c',vc=.slice A' xs.length c':=by
    rcases ho.2 with ⟨e,h0⟩ | ⟨g,c',cur,e,_⟩
    · exact ⟨none,0,by rw [e,h0]⟩
    · exact ⟨_,_,e⟩
  obtain ⟨A',c',rfl⟩:=hvc;have HB1:=Lib.hid hb1;have HO1:=Lib.hid ho;have HR1:=Lib.hid hr;clear hb1 ho hr HC;go_wp2_with fail
  go_loopw [9] (fun i wr=>∃ (k:Nat) (cs1 cs2:List Value),k≤xs.length∧i=.int .i64 k∧Below w.heap.size w wr∧wr.ownsRow w.heap.size 45 5 (.slice A' xs.length c') xs.length (cs1++cs2) ∧
    Rows 5 (CIns (BF w.heap.size (.slice A' xs.length c') wr) wr) (xs.take k) cs1∧Rows 5 (CIns (fun b=>b<w.heap.size) wr) (xs.drop k) cs2) (fun i _=>xs.length - (intOf i).toNat)
  case atStart=>exact ⟨0,[],cs,Nat.zero_le _,rfl,HB1.out,HO1.out,rfl,HR1.out⟩
  case round =>
    obtain ⟨k,cs1,cs2,hk,rfl,hb,ho,hr1,hr2⟩:=hrel;have HB:=Lib.hid hb;have HO:=Lib.hid ho;have HR:=Lib.hid hr1
    by_cases hlt:k<xs.length
    · obtain ⟨x,hx⟩:∃ x,xs[k]?=some x:=⟨_,List.getElem?_eq_getElem hlt⟩;have hd:xs.drop k=x::xs.drop (k+1):=by
        obtain ⟨_,rfl⟩:=List.getElem?_eq_some_iff.1 hx;exact List.drop_eq_getElem_cons hlt
      rw [hd] at hr2;obtain ⟨c0,r,rfl,-,⟨Ax,cx,rfl,hax,g0,g1,g3,g4⟩,hrr⟩:=hr2;obtain ⟨g,cap,hform,hg1,hg2⟩:=ho.form (by omega);cases hform;(have hl1:cs1.length=k * 5:=by have:=rows_len_ hr1;rw [List.length_take,Nat.min_eq_left (by omega)] at this;exact this);have hc2:=ho.cellAt (k * 5+2) (by omega);rw [get_mid hl1] at hc2;have hf2:=ho.frozenAt (k * 5+2);have hk0:(0:Int)≤k:=by omega
      (have hk1:(k:Int)<xs.length:=by omega);have hxl:=HAL.out x (List.mem_of_getElem? hx);have HCL:=Lib.hid (qt x.args (.slice Ax x.args.length cx) wr ⟨Ax,cx,rfl,SL.imp RIntB.plain hax⟩ (by omega));have HX:=Lib.hid hx
      have H64:Hid (∀ y∈x.args,I64 y):=Lib.hid (fun y hy=>by
        obtain ⟨j,hj⟩:=List.getElem?_of_mem hy;obtain ⟨_,_,h4⟩:=hax;obtain ⟨b',o',e',hr'⟩:=h4 (by have:=(List.getElem?_eq_some_iff.1 hj).1;omega)
        exact (hr' j y hj).2.2)
      have HI:=Lib.hid (And.intro g0 (And.intro g1 (And.intro g3 g4)));have HL1:=Lib.hid hl1;have HRR:=Lib.hid hrr;clear hb ho hr1 hd hax g0 g1 g3 g4 hx hrr hl1;(go_wp2_with fail);refine HCL.out.mono ?_;rintro e w2 ⟨⟨va,rfl,hoa⟩,hb2⟩;obtain ⟨A2,c2,rfl,hs2⟩:=slG_of_own hoa H64.out (base':=wr.heap.size) (Nat.le_refl _);have hown2:=qD (w':=w2) HO.out (fun g hg=>hb2.block g (HO.out.lt g hg).2)
      have hcell2:w2.cell? ⟨g,k * 5+2,none⟩=some (.slice Ax x.args.length cx):=(hb2.cell (p:=⟨g,k * 5+2,none⟩) hg2).trans hc2;have hfree2:w2.frozen? ⟨g,k * 5+2,none⟩=false:=(hb2.frozen (p:=⟨g,k * 5+2,none⟩) hg2).trans hf2;have hst:=(hown2.stored (k * 5+2) (.slice A2 x.args.length c2)).1;rw [setG_mid HL1.out] at hst;have hset:∀ b,b≠g→(w2.setCell ⟨g,k * 5+2,none⟩ (.slice A2 x.args.length c2)).heap[b]?=w2.heap[b]?:=fun b hb=>Below.heap_setCell _ _ _ _ hb;have hrn:Rows 5 (CIns (BF w.heap.size (.slice (some ⟨g,0,none⟩) xs.length c') (w2.setCell ⟨g,k * 5+2,none⟩ (.slice A2 x.args.length c2))) (w2.setCell ⟨g,k * 5+2,none⟩ (.slice A2 x.args.length c2))) (xs.take (k+1)) (cs1++[.int .i64 x.op,.int .i64 x.dst,.slice A2 x.args.length c2,.int .i64 x.imm,.int .i64 x.fn]):=by
        rw [qC HX.out];(refine rows_grow (F:=CIns) (fun _ _ _ _ _ _ h1 h2 h3=>CIns.go h1 h2 h3) HR.out (fun b hb hne=>(hset b (fun e=>hne (by rw [e];rfl))).trans (hb2.block b hb)) (.inl rfl) rfl ?_);refine ⟨A2,c2,rfl,?_,HI.out.1,HI.out.2.1,HI.out.2.2.1,HI.out.2.2.2⟩;exact SIntsB.go (B:=BG wr.heap.size w2) (fun a v hb ha=>(World.cell?_of_block (hset a.block (fun e=>by have:=hb.1;omega))).trans ha) (fun b hb=>⟨⟨by have:=HB.out.size;have:=hb.1;omega,hb.2.set _ _ _⟩,fun e=>by have:b=g:=Option.some.inj e;have:=hb.1;omega⟩) hs2
      (have hrr2:Rows 5 (CIns (fun b=>b<w.heap.size) (w2.setCell ⟨g,k * 5+2,none⟩ (.slice A2 x.args.length c2))) (xs.drop (k+1)) r:=HRR.out.imp fun y d hy=>CIns.go (B:=fun b=>b<w.heap.size) (fun a v hb ha=>(World.cell?_of_block ((hset a.block (fun e=>by omega)).trans (hb2.block a.block (by have:=HB.out.size;omega)))).trans ha) (fun b hb=>hb) hy);(have HBN:Hid (Below w.heap.size w (w2.setCell ⟨g,k * 5+2,none⟩ (.slice A2 x.args.length c2))):=Lib.hid ((HB.out.trans (hb2.mono HB.out.size)).setCell (by show w.heap.size≤g;exact hg1) _));have HST:=Lib.hid hst;have HRN:=Lib.hid hrn;have HRR2:=Lib.hid hrr2;clear hoa hb2 hs2 hown2 hst hset hrn hrr2 hc2 hf2 HCL;go_wp2_with fail
      go_roundw
      case rel=>exact ⟨k+1,_,r,by omega,by go_num,HBN.out,HST.out,HRN.out,HRR2.out⟩
      case measure=>simp [intOf];omega
    · have hkk:xs.take k=xs:=List.take_of_length_le (by omega);have hdd:xs.drop k=[]:=List.drop_eq_nil_of_le (by omega);rw [hkk] at hr1;rw [hdd] at hr2;obtain rfl:cs2=[]:=hr2;rw [List.append_nil] at ho;have hrd:=hr1.reads (R:=RInsB (BG w.heap.size wr)) ho (fun g o x c hg hb hx hc hcell=>CIns.reads ⟨hb,Fz.own ho hg⟩ (CIns.go (fun _ _ _ h=>h) (fun b hb=>hb.1) hx) hcell);obtain ⟨Ar,cr,hu,hrs⟩:=hrd;cases hu
      have HRS:=Lib.hid hrs;clear hb ho hr1 hrs hkk hdd;(go_wp2_with fail);(go_ret);exact ⟨⟨_,_,rfl,HRS.out⟩,HB.out⟩
set_option linter.unusedSimpArgs false
theorem fun_cells {w:World} {b o:Nat} {f:FunD} (h:RFun w b o f):∃ cs:List Value,cs.length=4∧(∀ j u,cs[j]?=some u→w.cell? ⟨b,o+j,none⟩=some u)∧(∀ u∈cs,u.oneCell'=true) ∧
    ∀ W b' o',Kept w W→(∀ j u,cs[j]?=some u→W.cell? ⟨b',o'+j,none⟩=some u)→RFun W b' o' f:=by
  obtain ⟨⟨h0,g0⟩,⟨h1,g1⟩,⟨Ar,cr,h2,g2⟩,Ab,cb,h3,g3⟩:=h;refine ⟨[.int .i64 f.params,.int .i64 f.result,.slice Ar f.regs.length cr,.slice Ab f.blocks.length cb],rfl,fun j u hu=>?_,fun u hu=>?_,fun W b' o' hk hc=>?_⟩
  · match j,hu with
    | 0,hu=>obtain rfl:=Option.some.inj hu;exact h0
    | 1,hu=>obtain rfl:=Option.some.inj hu;exact h1
    | 2,hu=>obtain rfl:=Option.some.inj hu;exact h2
    | 3,hu=>obtain rfl:=Option.some.inj hu;exact h3
  · simp only [List.mem_cons,List.not_mem_nil,or_false] at hu;rcases hu with rfl | rfl | rfl | rfl <;> rfl
  · exact ⟨⟨hc 0 _ rfl,g0⟩,⟨hc 1 _ rfl,g1⟩,⟨Ar,cr,hc 2 _ rfl,SInts.keep hk g2⟩,Ab,cb,hc 3 _ rfl,SBlks.keep hk g3⟩
theorem funs_cells {w:World} {b:Nat}:∀ (xs:List FunD) (o:Nat),(∀ i x,xs[i]?=some x→RFun w b (o+i * 4) x) →
    ∃ cs:List Value,cs.length=xs.length * 4∧(∀ j u,cs[j]?=some u→w.cell? ⟨b,o+j,none⟩=some u)∧(∀ u∈cs,u.oneCell'=true) ∧
      ∀ (i:Nat) (f:FunD),xs[i]?=some f→∀ W b' o',Kept w W→(∀ j u,j<4→cs[i * 4+j]?=some u→W.cell? ⟨b',o'+j,none⟩=some u)→RFun W b' o' f
  | [],o,_=>⟨[],rfl,fun j u h=>by simp at h,fun u h=>by simp at h,fun i f h=>by simp at h⟩
  | x::xs,o,h=>by
    obtain ⟨c,hl,hcell,hone,hrd⟩:=fun_cells (by simpa using h 0 x rfl);(obtain ⟨cs,hl2,hcell2,hone2,hrd2⟩:=funs_cells xs (o+4) (fun i y hy=>by have:=h (i+1) y (by simpa using hy);rwa [show o+(i+1) * 4=o+4+i * 4 by omega] at this));refine ⟨c++cs,by rw [List.length_append,hl,hl2,List.length_cons];omega,fun j u hu=>?_,fun u hu=>?_,fun i f hf W b' o' hk hc=>?_⟩
    · by_cases hj:j<4
      · rw [List.getElem?_append_left (by omega)] at hu;exact hcell j u hu
      · rw [List.getElem?_append_right (by omega),hl] at hu;have:=hcell2 (j - 4) u hu
        rwa [show o+4+(j - 4)=o+j by omega] at this
    · rcases List.mem_append.1 hu with hu | hu
      · exact hone u hu
      · exact hone2 u hu
    · cases i with
      | zero =>
        (obtain rfl:x=f:=by simpa using hf);(refine hrd W b' o' hk fun j u hu=>hc j u (by have:=(List.getElem?_eq_some_iff.1 hu).1;omega) ?_);rw [Nat.zero_mul,Nat.zero_add,List.getElem?_append_left (by have:=(List.getElem?_eq_some_iff.1 hu).1;omega)];exact hu
      | succ i =>
        refine hrd2 i f (by simpa using hf) W b' o' hk fun j u hj hu=>hc j u hj ?_;rw [List.getElem?_append_right (by omega),hl,show (i+1) * 4+j - 4=i * 4+j by omega];exact hu
def ToldCf (xs:List FunD) (w:World) (e:Ending) (w':World):Prop :=
  (∃ g c cs,e=.returned (.slice (some ⟨g,0,none⟩) xs.length c)∧w'.ownsRow w.heap.size 31 4 (.slice (some ⟨g,0,none⟩) xs.length c) xs.length cs ∧
    ∀ (i:Nat) (f:FunD),xs[i]?=some f→∀ W b' o',Kept w W→(∀ j u,j<4→cs[i * 4+j]?=some u→W.cell? ⟨b',o'+j,none⟩=some u)→RFun W b' o' f)∧Below w.heap.size w w'
set_option maxRecDepth 100000 in
theorem cloneFuns_any (xs:List FunD) (ad:Addr) (c:Nat) (w:World) (hs:SL w 4 RFun (some ad) c xs) (hx0:0<xs.length) (hn:xs.length≤1000):Calls Try.prog 32 #[.slice (some ad) xs.length c] w (ToldCf xs w):=by
  have heq:=Lib.run_eql_slice_nil (P:=Try.prog) w 22 31 (some ad) xs.length c 0 0 Try.underlying22;obtain ⟨i5,p1,p2,p3,p4⟩:=info_parts Try.info31;have hown:(w.alloc (.cells #[] 31)).ownsRow w.heap.size 31 4 (.slice (some ⟨w.heap.size,0,none⟩) 0 0) 0 [] :=
    ⟨rfl,.inr ⟨w.heap.size,0,#[],rfl,Nat.le_refl _,heap_alloc_new w _,Nat.le_refl _,Nat.zero_le _,rfl,rfl⟩⟩
  obtain ⟨b,o,e,hx⟩:=hs.2.2 hx0;obtain rfl:=Option.some.inj e;obtain ⟨cs,hlen,hcells,hone,hrd⟩:=funs_cells xs o hx;obtain ⟨v',w',hr,h2,h3,_,h5⟩:=run_append_own_at (P:=Try.prog) (w.alloc (.cells #[] 31)) w.heap.size 22 22 31 i5 _ 4 64 Try.underlying22 p1 p2 p3 p4 (by rfl) (by decide) _ 0 [] hown ⟨b,o,none⟩ xs.length c
    cs hlen (fun j u hu=>by rw [show (⟨b,o,none⟩:Addr).add j=⟨b,o+j,none⟩ by unfold Addr.add;split <;> simp_all];exact qN w _ _ _ (hcells j u hu)) hone (by unfold maxLen;omega) (by omega) (by simp)
  rw [Nat.zero_add,List.nil_append] at h2;(have hB:Below w.heap.size w w':=((Below.refl w.heap.size w).alloc (Nat.le_refl _) (.cells #[] 31)).grown h3 (by simp) (fun k hk=>by have:=Option.some.inj (show some w.heap.size=some k from hk);omega));obtain ⟨g,cap,rfl,-,-⟩:=h2.form hx0;have HF:=Lib.hid (And.intro h2 (And.intro hrd hB));clear h2 h3 h5 hB hown p1 p2 p3 p4 hs hcells hone hrd hx;(go_enter Try.func32,Try.ntmps32);(go_wp2_with (first | (at_builtin;refine wpList_append_runs rfl (.tmp 5) (.tmp 6) 22 22 rfl _ _ rfl rfl hr ?_) | simp only [heq,Option.isNone]));(go_ret);exact ⟨⟨g,cap,cs,rfl,HF.out.1,HF.out.2.1⟩,HF.out.2.2⟩
def ToldWi (m:List FunD) (n:Nat) (f:FunD) (w:World) (e:Ending) (w':World):Prop :=
  (∃ (G:Nat) (A:Nat→Nat→Bool),e=.returned (.tuple #[.slice (some ⟨G,0,none⟩) f.blocks.length f.blocks.length,.nilIface])∧w.heap.size≤G∧BG1 w' G f.blocks.length f.regs.length A∧∀ b r,A b r=true↔Want f.blocks false b r)∧Below w.heap.size w w'
set_option maxRecDepth 100000 in
set_option maxHeartbeats 8000000 in
theorem wantedIn_any (m:List FunD) (n:Nat) (f:FunD) (vm vf:Value) (w:World) (hm:VMod w vm m) (hf:VFun w vf f) (hn:n<m.length) (hsm:SmallM (m.set n f)) (hP:Proper (m.set n f)) :
    Calls Try.prog 14 #[vm,.int .i64 (n:Int),vf] w (ToldWi m n f w):=by
  have hf0:=hf;obtain ⟨Am,cm,rfl,hms⟩:=hm;obtain ⟨Ar,cr,Ab,cb,rfl,-,-,-,-⟩:=hf;(obtain ⟨ad,hAd⟩:∃ ad,Am=some ad:=by obtain ⟨b,o,x,e,-,-⟩:=hms.at_ hn;exact ⟨_,e⟩);subst hAd;(have hml:m.length≤40:=by have:=hsm.1;rwa [List.length_set] at this);have HMS:=Lib.hid hms;have HF:=Lib.hid hf0;have HSM:=Lib.hid hsm
  have HP:=Lib.hid hP;(have hn0:(0:Int)≤n:=by omega);(have hn1:(n:Int)<m.length:=by omega);clear hms hf0 hsm hP;(go_enter Try.func14,Try.ntmps14);(go_upto_region 1 with fail);obtain ⟨w1,hw1⟩:∃ w1,w1=(w.alloc (.cells #[.slice (some ad) m.length cm] 24)).alloc (.cells #[.int .i64 f.params,.int .i64 f.result,.slice Ar f.regs.length cr,.slice Ab f.blocks.length cb] 31):=⟨_,rfl⟩;(have hb1:Below w.heap.size w w1:=by rw [hw1];exact ((Below.refl _ w).alloc (Nat.le_refl _) _).alloc (by simp) _);have b0:w1.heap[w.heap.size]?=some (.cells #[.slice (some ad) m.length cm] 24):=by rw [hw1];exact row_old w _ _
  (have b1:w1.heap[w.heap.size+1]?=some (.cells #[.int .i64 f.params,.int .i64 f.result,.slice Ar f.regs.length cr,.slice Ab f.blocks.length cb] 31):=by rw [hw1];simpa using heap_alloc_new (w.alloc _) _);(have hs1:w1.heap.size=w.heap.size+2:=by rw [hw1];simp);obtain ⟨N,hN⟩:∃ N,N=w.heap.size:=⟨_,rfl⟩;rw [← hw1];rw [← hN] at b0 b1 hs1 ⊢;have c0:=q5 b0 0;have HB1:=Lib.hid hb1;have HBB:=Lib.hid b1;have HS1:Hid (w1.heap.size=N+2∧N=w.heap.size):=Lib.hid ⟨hs1,hN⟩
  clear hw1 hb1 b0 b1 hs1 hN;have HCF:=Lib.hid (cloneFuns_any m ad cm w1 (SFuns.keep (q6 HB1.out) HMS.out) (by omega) (by omega));(go_upto_region 2 with (go_at_call 32;refine HCF.out.mono ?_;rintro e w2 ⟨⟨g,c,cs,rfl,ho2,hrd⟩,hb2⟩;have HO2:=Lib.hid ho2;have HRD:=Lib.hid hrd;have HB2:=Lib.hid hb2;clear ho2 hrd hb2));clear c0;obtain ⟨N8,hN8⟩:∃ N8,N8=w2.heap.size:=⟨_,rfl⟩;obtain ⟨w3,hw3⟩:∃ w3,w3=w2.alloc (.cells #[.slice (some ⟨g,0,none⟩) m.length c] 24):=⟨_,rfl⟩;(have hb3:Below w2.heap.size w2 w3:=by rw [hw3];exact (Below.refl _ _).alloc (Nat.le_refl _) _);(have b8:w3.heap[N8]?=some (.cells #[.slice (some ⟨g,0,none⟩) m.length c] 24):=by rw [hw3,hN8];exact heap_alloc_new _ _);have ho3:w3.ownsRow w1.heap.size 31 4 (.slice (some ⟨g,0,none⟩) m.length c) m.length cs:=by rw [hw3];exact HO2.out.alloc _
  have hgl:=HO2.out.lt g rfl;(have hN3:=(hb3.block (N+1) (by have:=HS1.out;have:=HB2.out.size;omega)).trans ((HB2.out.block (N+1) (by have:=HS1.out;omega)).trans HBB.out));(have HG8:Hid (g<N8∧N+1<g∧N8<w3.heap.size∧w2.heap.size=N8):=Lib.hid (by have:=HS1.out;have h:=qg b8;omega));have e0:=q5 hN3 0;have e1:=q5 hN3 1;have e2:=q5 hN3 2;have e3:=q5 hN3 3;have d8:=q5 b8 0;have hcl:=ho3.1
  have hg0:=ho3.cellAt (n * 4) (by omega);have hg1:=ho3.cellAt (n * 4+1) (by omega);have hg2:=ho3.cellAt (n * 4+2) (by omega);have hg3:=ho3.cellAt (n * 4+3) (by omega);rw [List.getElem?_eq_getElem (by omega)] at hg0 hg1 hg2 hg3;have hf0:=ho3.frozenAt (n * 4);have hf1:=ho3.frozenAt (n * 4+1);have hf2:=ho3.frozenAt (n * 4+2);have hf3:=ho3.frozenAt (n * 4+3)
  have HO3:=Lib.hid ho3;have HB3:Hid (Below w1.heap.size w1 w3):=Lib.hid (HB2.out.trans (hb3.mono HB2.out.size));have HB8:=Lib.hid b8;have HK12:=Lib.hid (q6 HB3.out);rw [← hw3,← hN8];clear hw3 hN8 hb3 b8 ho3 hN3 hgl;(go_upto_region 3 with fail);have s1:=(HO3.out.stored (n * 4) (.int .i64 f.params)).1;have s2:=(s1.stored (n * 4+1) (.int .i64 f.result)).1
  have s3:=(s2.stored (n * 4+2) (.slice Ar f.regs.length cr)).1;have s4:=(s3.stored (n * 4+3) (.slice Ab f.blocks.length cb)).1;have hgw:=(HO3.out.lt g rfl).1;have hB4:Below w1.heap.size w1 ((((w3.setCell ⟨g,n * 4,none⟩ (.int .i64 f.params)).setCell ⟨g,n * 4+1,none⟩ (.int .i64 f.result)).setCell ⟨g,n * 4+2,none⟩ (.slice Ar f.regs.length cr)).setCell ⟨g,n * 4+3,none⟩ (.slice Ab f.blocks.length cb)) :=
    (((HB3.out.setCell (p:=⟨g,n * 4,none⟩) hgw _).setCell (p:=⟨g,n * 4+1,none⟩) hgw _).setCell (p:=⟨g,n * 4+2,none⟩) hgw _).setCell (p:=⟨g,n * 4+3,none⟩) hgw _
  have h84:((((w3.setCell ⟨g,n * 4,none⟩ (.int .i64 f.params)).setCell ⟨g,n * 4+1,none⟩ (.int .i64 f.result)).setCell ⟨g,n * 4+2,none⟩ (.slice Ar f.regs.length cr)).setCell ⟨g,n * 4+3,none⟩ (.slice Ab f.blocks.length cb)).heap[N8]?=w3.heap[N8]? :=
    (Below.heap_setCell _ _ _ _ (by show N8≠g;have:=HG8.out;omega)).trans ((Below.heap_setCell _ _ _ _ (by show N8≠g;have:=HG8.out;omega)).trans ((Below.heap_setCell _ _ _ _ (by show N8≠g;have:=HG8.out;omega)).trans (Below.heap_setCell _ _ _ _ (by show N8≠g;have:=HG8.out;omega))))
  clear s1 s2 s3 hg0 hg1 hg2 hg3 hf0 hf1 hf2 hf3 e0 e1 e2 e3;generalize ((((w3.setCell ⟨g,n * 4,none⟩ (.int .i64 f.params)).setCell ⟨g,n * 4+1,none⟩ (.int .i64 f.result)).setCell ⟨g,n * 4+2,none⟩ (.slice Ar f.regs.length cr)).setCell ⟨g,n * 4+3,none⟩ (.slice Ab f.blocks.length cb))=w4 at *;have hBw:Below w.heap.size w w4:=HB1.out.trans (hB4.mono HB1.out.size);have HBW:=Lib.hid hBw;have d8:=q5 (h84.trans HB8.out) 0
  have HVM:Hid (VMod w4 (.agg #[.slice (some ⟨g,0,none⟩) m.length c]) (m.set n f)):=Lib.hid (by
    have hmc:m.length≤c∧c≤maxLen:=by
      rcases s4.2 with ⟨h1,-⟩ | ⟨g',c',cur,h1,-,-,h2,h3,-,-⟩
      · simp at h1
      · simp only [Value.slice.injEq] at h1;obtain ⟨-,-,rfl⟩:=h1;exact ⟨h2,h3⟩
    (refine ⟨some ⟨g,0,none⟩,c,by rw [List.length_set],by rw [List.length_set];exact hmc.1,⟨hmc.2,fun e=>by cases e⟩,fun _=>⟨g,0,rfl,fun i x hi=>?_⟩⟩);(have hil:i<m.length:=by have:=(List.getElem?_eq_some_iff.1 hi).1;rwa [List.length_set] at this);rw [List.getElem?_set] at hi;rw [Nat.zero_add]
    by_cases e:n=i
    · subst e;rw [if_pos rfl,if_pos hn] at hi;obtain rfl:=Option.some.inj hi;obtain ⟨Ar',cr',Ab',cb',he,g1,g2,g3,g4⟩:=HF.out;simp only [Value.agg.injEq,Array.mk.injEq,List.cons.injEq,Value.slice.injEq,and_true,true_and] at he;obtain ⟨⟨rfl,rfl⟩,rfl,rfl⟩:=he;refine ⟨⟨?_,g3⟩,⟨?_,g4⟩,⟨Ar,cr,?_,SInts.keep (q6 hBw) g1⟩,Ab,cb,?_,SBlks.keep (q6 hBw) g2⟩
      · rw [s4.cellAt _ (by omega)];simp [List.getElem?_set];omega
      · rw [s4.cellAt _ (by omega)];simp [List.getElem?_set];omega
      · rw [s4.cellAt _ (by omega)];simp [List.getElem?_set];omega
      · rw [s4.cellAt _ (by omega)];simp [List.getElem?_set];omega
    · rw [if_neg e] at hi
      have h:=HRD.out i x hi w4 g (i * 4) (q6 hB4) (fun j u hj hu=>by
        rw [s4.cellAt _ (by omega),List.getElem?_set,if_neg (by omega),List.getElem?_set,if_neg (by omega),List.getElem?_set,if_neg (by omega),List.getElem?_set,if_neg (by omega)];exact hu)
      exact h)
  have HLV:=Lib.hid (live_any (m.set n f) (n:Int) _ w4 HVM.out HSM.out);clear s4 hgw hB4 h84 hBw hcl
  go_wp2_with (go_at_call 33;refine HLV.out.mono ?_;rintro e w5 ⟨⟨va,vb,ve,rfl,hh⟩,hb5⟩;obtain ⟨rfl,k,f',G3,G4,A,E,hnk,hf',rfl,rfl,hG3,-,hA,-,hAW,-,-⟩:ve=.nilIface∧∃ (k:Nat) (f':FunD) (G3 G4:Nat) (A E:Nat→Nat→Bool),(n:Int)=(k:Int)∧(m.set n f)[k]?=some f'∧va=.slice (some ⟨G3,0,none⟩) f'.blocks.length f'.blocks.length∧vb=.slice (some ⟨G4,0,none⟩) f'.blocks.length f'.blocks.length∧w4.heap.size≤G3∧G3+f'.blocks.length<G4∧BG1 w5 G3 f'.blocks.length f'.regs.length A∧BG1 w5 G4 f'.blocks.length f'.regs.length E∧(∀ b r,A b r=true↔Want f'.blocks false b r)∧(∀ b r,E b r=true↔Want f'.blocks true b r)∧LvOk f':=(by
      rcases hh with ⟨-,-,⟨h1,-⟩ | ⟨-,h1,-⟩⟩ | ⟨-,h1,h2⟩
      · exact absurd HP.out h1
      · exact absurd (show (0:Int)≤n∧(n:Int)<((m.set n f).length:Int) from ⟨by omega,by rw [List.length_set];omega⟩) h1
      · exact ⟨h1,h2⟩);have hff:f'=f:=(by
      have hk:n=k:=(by omega);rw [← hk,List.getElem?_set,if_pos rfl,if_pos hn] at hf'
      exact (Option.some.inj hf').symm);subst hff;have HR:=Lib.hid (And.intro hG3 (And.intro hA (And.intro hAW hb5)));clear hh hb5 hG3 hA hAW hf' hnk)
  (go_ret2);exact ⟨⟨G3,A,rfl,by have:=HR.out.1;have:=HBW.out.size;omega,HR.out.2.1,HR.out.2.2.1⟩,HBW.out.trans (HR.out.2.2.2.mono HBW.out.size)⟩
set_option maxRecDepth 100000 in
set_option maxHeartbeats 4000000 in
theorem hasPhi_any (f:FunD) (v:Value) (w:World) (hv:VFun w v f) :
    Calls Try.prog 31 #[v] w fun e w'=>e=.returned (.bool (!f.blocks.all fun b=>decide (b.phis.length=0)))∧Below w.heap.size w w':=by
  obtain ⟨Ar,cr,A,c,rfl,hr,hb,-,-⟩:=hv;have hbl:=hb.len;(go_enter Try.func31,Try.ntmps31);(go_wp2_with fail);obtain ⟨w1,hw1,hs1,hk1,hbel1,hc1,-⟩:=named w #[.int .i64 f.params,.int .i64 f.result,.slice Ar f.regs.length cr,.slice A f.blocks.length c] 31;rw [← hw1];clear hw1 hc1;have hs1:w.heap.size<w1.heap.size:=by omega
  go_loopw [8] (fun i wr=>∃ k:Nat,k≤f.blocks.length∧i=.int .i64 k∧Hid ((f.blocks.take k).all (fun b=>decide (b.phis.length=0))=true)∧Below w1.heap.size w1 wr) (fun i _=>f.blocks.length - (intOf i).toNat)
  case atStart=>exact ⟨0,Nat.zero_le _,rfl,Lib.hid rfl,Below.refl _ _⟩
  case round =>
    obtain ⟨k,hk,rfl,hi,hbel⟩:=hrel;have hs:=hbel.size;have hkw:Kept w1 wr:=q6 hbel;have hB:Below w.heap.size w wr:=hbel1.trans (hbel.mono (by omega))
    by_cases hlt:k<f.blocks.length
    · obtain ⟨b,o,kb,rfl,hkb,⟨Ap,cp,hphi,hphis⟩,⟨Ai,ci,hins,hinss⟩,⟨hkd,-⟩,⟨har,-⟩,⟨At,ct,hto,htos⟩⟩:=(SBlks.keep (hk1.trans hkw) hb).at_ hlt;have hpl:=hphis.len
      by_cases hp:0<kb.phis.length
      · (go_wp2_with fail);(go_ret);exact ⟨by rw [all_stop hkb.out (decide_eq_false (by omega))];rfl,hB.alloc (by omega) _⟩
      · go_wp2_with fail
        go_roundw
        case rel=>exact ⟨k+1,by omega,by go_num,Lib.hid (by rw [all_step hkb.out hi.out];exact decide_eq_true (by omega)),hbel.alloc (by omega) _⟩
        case measure=>simp [intOf];omega
    · have hd:=all_done hi.out (Nat.le_of_not_lt hlt);have HD:=Lib.hid hd;clear hd;(go_wp2_with fail);(go_ret);exact ⟨by rw [HD.out];rfl,hB⟩
set_option maxRecDepth 100000 in
set_option maxHeartbeats 4000000 in
theorem plain_all (OI:OfIns) (m:List FunD) (vm:Value) (w:World) (hm:VMod w vm m) (hlim:∀ f∈m,Lim f) :
    Calls Try.prog 13 #[vm] w fun e w'=>(∃ v,e=.returned v∧ErrAt w' v (plainE m))∧Below w.heap.size w w':=by
  have hm0:=hm;obtain ⟨Am,cm,rfl,hms⟩:=hm;have hml:=hms.len;(go_enter Try.func13,Try.ntmps13);(go_wp2_with fail);obtain ⟨w1,hw1,hs1,hk1,hB1,hc1,-⟩:=named w #[.slice Am m.length cm] 24;rw [← hw1];have q0:w1.cell? ⟨w.heap.size,0,none⟩=some (.slice Am m.length cm):=hc1 0 _ rfl;have hs1:w.heap.size<w1.heap.size:=by omega
  clear hw1 hc1;refine (module_any OI m _ _ (VMod.keep hk1 hm0) hlim).mono ?_;rintro e w2 ⟨⟨ve,rfl,he⟩,hb2⟩;have hB2:Below w.heap.size w w2:=hB1.trans (hb2.mono hB1.size);have hk2:=q6 hb2;have q0:=hk2 _ _ q0
  by_cases hp:(modE m).1=0
  · obtain rfl:=he.nil hp;have HPL:Hid (plainE m=plainK m 0):=Lib.hid (if_pos hp);clear hp he;go_wp2_with fail
    go_loopw [14] (fun i wr=>∃ k:Nat,k≤m.length∧i=.int .i64 k∧Below w2.heap.size w2 wr∧Hid (plainK m 0=plainK (m.drop k) k)) (fun i _=>m.length - (intOf i).toNat)
    case atStart=>exact ⟨0,Nat.zero_le _,rfl,Below.refl _ _,Lib.hid rfl⟩
    case round =>
      obtain ⟨k,hk,rfl,hbel,HPK⟩:=hrel;have hkw:Kept w2 wr:=q6 hbel;have hB:Below w.heap.size w wr:=hB2.trans (hbel.mono hB2.size)
      by_cases hlt:k<m.length
      · obtain ⟨bb,oo,f,rfl,hx,⟨h0,z0⟩,⟨h1,z1⟩,⟨Ar,cr,h2,z2⟩,Ab,cb,h3,z3⟩:=(SFuns.keep ((hk1.trans hk2).trans hkw) hms).at_ hlt;(go_wp2_with fail);obtain ⟨wn,hwn,hsn,hkn,hbn,-,-⟩:=named wr #[.int .i64 f.params,.int .i64 f.result,.slice Ar f.regs.length cr,.slice Ab f.blocks.length cb] 31;have hbn':Below w2.heap.size w2 wn:=hbel.trans (hbn.mono hbel.size);have hBn:Below w.heap.size w wn:=hB.trans (hbn.mono hB.size);rw [← hwn];clear hwn hsn;refine (hasPhi_any f _ _ ⟨Ar,cr,Ab,cb,rfl,SInts.keep hkn z2,SBlks.keep hkn z3,z0,z1⟩).mono ?_;rintro e w7 ⟨rfl,hb7⟩
        have hb7':Below w2.heap.size w2 w7:=hbn'.trans (hb7.mono hbn'.size);have hB7:Below w.heap.size w w7:=hBn.trans (hb7.mono hBn.size)
        have HDR:Hid (plainK (m.drop k) k=if noPhi f then plainK (m.drop (k+1)) (k+1) else (6,(k:Int))):=Lib.hid (by
          have hd:m.drop k=f::m.drop (k+1):=by
            obtain ⟨hl,he⟩:=List.getElem?_eq_some_iff.1 hx.out;rw [← he];exact List.drop_eq_getElem_cons hl
          rw [hd];rfl)
        cases hnp:(f.blocks.all fun b=>decide (b.phis.length=0))
        · have HE:Hid (plainE m=(6,(k:Int))):=Lib.hid (by
            have h0:noPhi f=false:=hnp
            rw [HPL.out,HPK.out,HDR.out,h0];rfl)
          clear hnp;(go_wp2_with fail);(go_ret);exact ⟨⟨_,rfl,by rw [HE.out];exact .inr (.inr ⟨by show (6:Int)≠0;decide,by show (0:Int)≤k;omega,w7.heap.size,rfl,by simp,by simp⟩)⟩,hB7.alloc hB7.size _⟩
        · have HN:Hid (plainK m 0=plainK (m.drop (k+1)) (k+1)):=Lib.hid (by
            have h0:noPhi f=true:=hnp
            rw [HPK.out,HDR.out,h0];rfl)
          clear hnp;go_wp2_with fail
          go_roundw
          case rel=>exact ⟨k+1,by omega,by go_num,hb7',HN⟩
          case measure=>simp [intOf];omega
      · have HE:Hid (plainE m=(0,-1)):=Lib.hid (by
          rw [HPL.out,HPK.out,List.drop_eq_nil_of_le (by omega)];rfl)
        (go_wp2_with fail);(go_ret);exact ⟨⟨_,rfl,by rw [HE.out];exact .inl ⟨rfl,rfl⟩⟩,hB⟩
  · have HE:Hid (plainE m=modE m):=Lib.hid (if_neg hp);have HER:=Lib.hid he;obtain ⟨t,x,hv⟩:=he.iface hp;subst hv;clear hp he;(go_wp2_with fail);(go_ret);exact ⟨⟨_,rfl,by rw [HE.out];exact HER.out⟩,hB2⟩
end Go.Proofs.Ytfoggldjjnabcaa

namespace Go.Proofs.Ytfoggldjjnabcaa
open Go.Shelf
def grw_renI:Go.Shelf.Ren:=⟨fun | 4=>34 | n=>n,fun | 25=>45 | 22=>41 | 0=>0 | 3=>3 | 4=>4 | 9=>9 | 20=>20 | n=>n,fun | n=>n⟩
theorem grwI:Go.Proofs.Lays8.n4 Try.prog grw_renI:={
  mixed:=by kernel_rfl,
  f4:=⟨Try.f34.name,by decide,Try.func34.trans (congrArg some (by kernel_rfl))⟩,
  t0:=Try.underlying0,a0:=Try.isAgg0,z0:=Try.sizeOf0,v0:=Try.zeroValue0,
  t3:=Try.underlying3,a3:=Try.isAgg3,z3:=Try.sizeOf3,v3:=Try.zeroValue3,
  t4:=Try.underlying4,a4:=Try.isAgg4,z4:=Try.sizeOf4,v4:=Try.zeroValue4,
  t9:=Try.underlying9,a9:=Try.isAgg9,z9:=Try.sizeOf9,v9:=Try.zeroValue9,
  t20:=Try.underlying20,a20:=Try.isAgg20,z20:=Try.sizeOf20,v20:=Try.zeroValue20,
  t22:=Try.underlying41,a22:=Try.isAgg41,z22:=Try.sizeOf41,v22:=Try.zeroValue41 }
end Go.Proofs.Ytfoggldjjnabcaa

namespace Go.Proofs.Ytfoggldjjnabcaa
open Go.ChangeShapes Go.WideShapes Go.RowKit Go.Deep
set_option linter.unusedVariables false
theorem append_empty {w:World} {base:Nat} {t ty e:TypeId} {i:TypeInfo} {size:Nat} (ht:Try.prog.underlying t=some (.slice e)) (hi:Try.prog.info? e=some i) {v:Value} {n:Nat} {xs:List Value} (hown:w.ownsRow base e size v n xs) (A:Option Addr) (c:Nat) :
    (Builtin.append_ #[t,t] ty #[v,.slice A 0 c]).run Try.prog w=.ok v w:=by
  cases A with
  | none =>
    rcases hown.2 with ⟨rfl,rfl⟩ | ⟨g,cap,cur,rfl,_,_,hnc,_⟩
    · simp [Builtin.append_,run_underlying ht,sizeOf,typeInfo,hi,Builtin.lenOf,Builtin.firstCells]
    · simp [Builtin.append_,run_underlying ht,sizeOf,typeInfo,hi,Builtin.lenOf,Builtin.firstCells,hnc,storeCells]
  | some a =>
    rcases hown.2 with ⟨rfl,rfl⟩ | ⟨g,cap,cur,rfl,_,_,hnc,_⟩
    · simp [Builtin.append_,run_underlying ht,sizeOf,typeInfo,hi,Builtin.lenOf,Builtin.firstCells,loadCells,loadCellsFrom]
    · simp [Builtin.append_,run_underlying ht,sizeOf,typeInfo,hi,Builtin.lenOf,Builtin.firstCells,hnc,storeCells,loadCells,loadCellsFrom]
theorem append_runQ {w:World} {base:Nat} {t ty e:TypeId} {i:TypeInfo} {z:Value} {size bytes:Nat} (ht:Try.prog.underlying t=some (.slice e)) (hi:Try.prog.info? e=some i) (hz:i.zero=some z) (hsize:i.size=size) (hby:i.bytes=bytes) (hzs:z.cells.size=size) (hsz:0<size)
    {v:Value} {n:Nat} {xs:List Value} (hown:w.ownsRow base e size v n xs) {A:Option Addr} {m c:Nat} {news:List Value} (hl:news.length=m * size)
    (hA:∀ a,A=some a→∀ j u,news[j]?=some u→w.cell? (a.add j)=some u) (hA0:0<m→A≠none) (h1:∀ u∈news,u.oneCell'=true) (h63:n+m≤maxLen) (hbytes:(n+m) * bytes≤140737488355328) (hbase:base≤w.heap.size) :
    ∃ v' w',(Builtin.append_ #[t,t] ty #[v,.slice A m c]).run Try.prog w=.ok v' w'∧w'.ownsRow base e size v' (n+m) (xs++news)∧w.grownBy w' v.ownBlock∧(v'.ownBlock=v.ownBlock∨v'.ownBlock=some w.heap.size):=by
  by_cases hm:m=0
  · subst hm;have hn:news=[]:=List.eq_nil_of_length_eq_zero (by omega);subst hn;exact ⟨v,w,append_empty ht hi hown A c,by rw [List.append_nil];exact hown,⟨rfl,rfl,rfl,Nat.le_refl _,fun _ _ _=>rfl⟩,.inl rfl⟩
  · cases A with
    | none=>exact absurd rfl (hA0 (by omega))
    | some a =>
      obtain ⟨g,cap,w',hr,h2,h3,h4,-⟩:=run_append_lies w t ty base e i z size bytes ht hi hz hsize hby hzs hsz v n xs hown a m c news hl (hA a rfl) h1 (by omega) h63 hbytes hbase _ rfl;refine ⟨_,w',hr,h2,h3,?_⟩;rcases h4 with h4 | h4
      · exact .inl (by rw [h4];rfl)
      · exact .inr (by rw [h4];rfl)
end Go.Proofs.Ytfoggldjjnabcaa

namespace Go.Proofs.Ytfoggldjjnabcaa
open Go.ChangeShapes Go.WideShapes Go.RowKit Go.Deep Go.Shelf
set_option linter.unusedVariables false
set_option linter.unusedSimpArgs false
theorem zeroCells_sizeI (z:Array Value) (n:Nat):(Builtin.zeroCells z n).size=n * z.size:=by
  unfold Builtin.zeroCells;simp
theorem growI_any (n:Nat) (hn:n≤1000000) (w:World) :
    Calls Try.prog 34 #[.slice none 0 0,.int .i64 n] w fun e w'=>∃ v,e=.returned v∧w'.ownsRow w.heap.size 45 5 v 0 []∧Below w.heap.size w w':=by
  rcases Nat.eq_zero_or_pos n with rfl | hp
  · refine Calls.mono (Any8.slices_Grow_room grwI none 0 0 0 w (Nat.le_refl _) (by omega) (by omega) (by omega)) ?_;rintro e w' ⟨rfl,rfl⟩;exact ⟨_,rfl,World.ownsRow_nil _ _ _ _,Below.refl _ _⟩
  · obtain ⟨i0,hi0,hz0,hz1,hz2⟩:=info_parts Try.info45;(refine Calls.mono (Any8.slices_Grow_grow grwI i0 (.agg #[.int .i64 0,.int .i64 0,.slice none 0 0,.int .i64 0,.int .i64 0]) hi0 hz0 (by rw [hz1];omega) none 0 0 n [] w (Nat.le_refl _) (by omega) (by rw [hz2];omega) (by omega) (by simp) (fun _=>rfl) (fun a h=>by cases h)) ?_);rintro e w' ⟨rfl,rfl⟩;have h1:0+n≤grownCap w (0+n) 0 45:=grownCap_ge w _ _ _;(have h2:=grownCap_le_maxLen w (0+n) 0 45 (by unfold maxLen;omega));refine ⟨_,rfl,⟨rfl,.inr ⟨w.heap.size,_,_,rfl,Nat.le_refl _,heap_alloc_new w.drew _,Nat.zero_le _,h2,?_,by simp⟩⟩,((Below.refl _ w).drew).alloc (Nat.le_refl _) _⟩;rw [Array.size_append,Array.size_append,zeroCells_sizeI,zeroCells_sizeI];show (0+(0+n - 0) * 5+(grownCap w (0+n) 0 45 - (0+n)) * 5)=grownCap w (0+n) 0 45 * 5;omega
structure SrcI (w:World) (v:Value) (n:Nat) (cs:List Value):Prop where
  shape:∃ A c,v=.slice A n c∧(∀ a,A=some a→∀ j u,cs[j]?=some u→w.cell? (a.add j)=some u)∧(0<n→A≠none)
  len:cs.length=n * 5
  one:∀ u∈cs,u.oneCell'=true
theorem SrcI.keep {w w':World} {v:Value} {n:Nat} {cs:List Value} (h:SrcI w v n cs) (hb:Below w.heap.size w w'):SrcI w' v n cs:=by
  obtain ⟨⟨A,c,e,h1,h2⟩,h3,h4⟩:=h;exact ⟨⟨A,c,e,fun a ha j u hu=>(q6 hb) _ _ (h1 a ha j u hu),h2⟩,h3,h4⟩
def preN (L:Nat→Nat):Nat→Nat
  | 0=>0
  | k+1=>preN L k+L k
def preC (C:Nat→List Value):Nat→List Value
  | 0=>[]
  | k+1=>preC C k++C k
theorem preN_mono (L:Nat→Nat) {a b:Nat} (h:a≤b):preN L a≤preN L b:=by
  induction h with
  | refl=>exact Nat.le_refl _
  | step _ ih=>show _≤preN L _+L _;omega
def ToldCc (L:Nat→Nat) (C:Nat→List Value) (n:Nat) (w:World) (e:Ending) (w':World):Prop:=(∃ v,e=.returned v∧w'.ownsRow w.heap.size 45 5 v (preN L n) (preC C n))∧Below w.heap.size w w'
set_option maxRecDepth 100000 in
set_option maxHeartbeats 8000000 in
theorem concatI_any {w:World} {g n:Nat} {ety:TypeId} {U:Nat→Value} {L:Nat→Nat} {C:Nat→List Value} (hr:w.rowIs g ety n U) (hp:∀ d,d<n→SrcI w (U d) (L d) (C d)) (hn:n≤16) (ht:preN L n≤100000) :
    Calls Try.prog 15 #[.slice (some ⟨g,0,none⟩) n n] w (ToldCc L C n w):=by
  have HR:=Lib.hid hr;have HP:=Lib.hid hp;have HT:=Lib.hid ht;clear hr hp ht;(go_enter Try.func15,Try.ntmps15);(go_wp2_with fail);go_loop [3,11] (fun s i=>∃ j:Nat,j≤n∧i=.int .i64 j∧∃ q:Nat,s=.int .i64 q∧Hid (q=preN L j)) (fun _ i=>n - (intOf i).toNat)
  case atStart=>exact ⟨0,Nat.zero_le _,rfl,0,rfl,Lib.hid rfl⟩
  case round =>
    obtain ⟨j,hj,rfl,q,rfl,hq⟩:=hrel
    by_cases hjn:j<n
    · obtain ⟨⟨A,c,hU,-,-⟩,-,-⟩:=HP.out j hjn;have hc:=HR.out.cell hjn;rw [hU] at hc;have hl:preN L (j+1)=preN L j+L j:=rfl;have hle:preN L (j+1)≤100000:=Nat.le_trans (preN_mono L hjn) HT.out;(have hq1:(q:Int)+(L j:Int)≤100000:=by have:=hq.out;omega);have HN:Hid (q+L j=preN L (j+1)):=Lib.hid (by rw [hl,← hq.out]);(have hnn:¬ ((q:Int)+(L j:Int)<0):=by omega);have dnn:decide ((q:Int)+(L j:Int)<0)=false:=decide_eq_false hnn
      (have hj0:(0:Int)≤j:=by omega);(have hj1:(j:Int)<n:=by omega);clear hl hle hU hq;generalize L j=lj at *;(go_wp2_with fail);go_round
      case rel=>exact ⟨j+1,hjn,by go_num,q+lj,by go_num,HN⟩
      case measure=>simp [intOf];omega
    · (obtain rfl:j=n:=by omega);(have HQ:Hid (q≤100000):=Lib.hid (by rw [hq.out];exact HT.out));clear hq hj hjn;(go_wp2_with fail);(refine (growI_any q (by have:=HQ.out;omega) w).mono ?_);rintro e w1 ⟨v,rfl,hown,hb1⟩;have HO:=Lib.hid hown;have HB:=Lib.hid hb1;clear hown hb1
      (go_wp2_with fail);clear HQ
      go_loopw [6,27] (fun sv i wr=>∃ k:Nat,k≤j∧i=.int .i64 k∧∃ v2,sv=v2∧Hid (wr.ownsRow w.heap.size 45 5 v2 (preN L k) (preC C k))∧Hid (Below w.heap.size w wr)) (fun _ i _=>j - (intOf i).toNat)
      case atStart=>exact ⟨0,Nat.zero_le _,rfl,v,rfl,HO,HB⟩
      case round =>
        obtain ⟨k,hk,rfl,v2,hv2,HOr,HBr⟩:=hrel;obtain rfl:=hv2.symm
        by_cases hkj:k<j
        · obtain ⟨⟨A,c,hU,hA1,hA2⟩,hcl,hone⟩:=(HP.out k hkj).keep HBr.out;have hc:=(World.cell?_of_block (a:=⟨g,k,none⟩) (HBr.out.block g HR.out.lt)).trans (HR.out.cell hkj);rw [hU] at hc;have hle:preN L (k+1)≤100000:=Nat.le_trans (preN_mono L hkj) HT.out;(have hk0:(0:Int)≤k:=by omega);(have hk1:(k:Int)<j:=by omega);obtain ⟨i0,hi0,hz0,hz1,hz2⟩:=info_parts Try.info45;have hrunX:∀ ty,∃ v' w',(Builtin.append_ #[41,41] ty #[v2,.slice A (L k) c]).run Try.prog wr=.ok v' w'∧w'.ownsRow w.heap.size 45 5 v' (preN L k+L k) (preC C k++C k)∧wr.grownBy w' v2.ownBlock∧(v'.ownBlock=v2.ownBlock∨v'.ownBlock=some wr.heap.size):=fun ty =>
            append_runQ (ty:=ty) Try.underlying41 hi0 hz0 hz1 hz2 (by rfl) (by decide) HOr.out hcl hA1 hA2 hone (by show preN L (k+1)≤_;unfold maxLen;omega) (by have h:preN L k+L k≤100000:=hle;omega) HBr.out.size
          obtain ⟨v',w8,hrun,ho8,hg8,-⟩:=hrunX 41;have HO8:Hid (w8.ownsRow w.heap.size 45 5 v' (preN L (k+1)) (preC C (k+1))):=Lib.hid ho8;have HB8:Hid (Below w.heap.size w w8):=Lib.hid (HBr.out.grown hg8 HBr.out.size (fun y hy=>(HOr.out.lt y hy).1));clear hU hA1 hA2 hcl hone hle hi0 hz0 hz1 hz2 hrunX ho8 hg8;generalize L k=lk at *;go_wp2_with (at_builtin;refine Lib.wpList_append_run _ rfl _ _ _ _ rfl _ _ rfl rfl _ _ hrun ?_)
          go_roundw
          case rel=>exact ⟨k+1,hkj,by go_num,_,rfl,HO8,HB8⟩
          case measure=>simp [intOf];omega
        · (obtain rfl:k=j:=by omega);(go_wp2_with fail);(go_ret);exact ⟨⟨_,rfl,HOr.out⟩,HBr.out⟩
end Go.Proofs.Ytfoggldjjnabcaa
