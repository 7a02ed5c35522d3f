/- Rows of a call's own. No condition. -/
import Derived.Test.YtfoggldjjnabcaaModAJ
import Derived.Deep.AppendLies
import Derived.Deep.OwnRows
import Derived.Deep.DeepCutAuto
import Derived.Test.YtfoggldjjnabcaaDmTJ
import Derived.Laws.OwnMore
namespace Go.Proofs.Ytfoggldjjnabcaa
open Go.ChangeShapes Go.WideShapes Go.RowKit Go.Deep
set_option linter.unusedVariables false
theorem qD {w w':World} {base n size:Nat} {e:TypeId} {v:Value} {xs:List Value} (h:w.ownsRow base e size v n xs) (hb:∀ g,v.ownBlock=some g→w'.heap[g]?=w.heap[g]?):w'.ownsRow base e size v n xs:=by
  obtain ⟨h1,h2⟩:=h;refine ⟨h1,?_⟩;rcases h2 with h2 | ⟨g,c,cur,rfl,h3,h4,h5⟩
  · exact .inl h2
  · exact .inr ⟨g,c,cur,rfl,h3,(hb g rfl).trans h4,h5⟩
theorem qL {w:World} {K n size:Nat} {e:TypeId} {v:Value} {xs:List Value} (h:w.ownsRow K e size v n xs):∃ A c,v=.slice A n c:=by
  rcases h.2 with ⟨rfl,h0⟩ | ⟨g,c,cur,rfl,-⟩
  · exact ⟨none,0,by rw [h0]⟩
  · exact ⟨_,_,rfl⟩
theorem z8 {w:World} {base base' n size:Nat} {e:TypeId} {v:Value} {xs:List Value} (h:w.ownsRow base e size v n xs) (hk:base'≤base):w.ownsRow base' e size v n xs:=by
  obtain ⟨h1,h2 | ⟨g,cap,cur,rfl,hb,h3⟩⟩:=h
  · exact ⟨h1,.inl h2⟩
  · exact ⟨h1,.inr ⟨g,cap,cur,rfl,Nat.le_trans hk hb,h3⟩⟩
structure GroD (w w':World) (v v':Value):Prop where
  os:w'.os=w.os
  tape:w'.tape=w.tape
  output:w'.output=w.output
  size:w.heap.size≤w'.heap.size
  block:∀ k,k<w.heap.size→v.ownBlock≠some k→w'.heap[k]?=w.heap[k]?
  own:∀ g,v'.ownBlock=some g→v.ownBlock=some g∨w.heap.size≤g
theorem qU {w w1:World} {o:Obj} {v:Value} {g n cap:Nat} (hg:(w.alloc o).grownBy w1 v.ownBlock) (hl:v.ownBlock=some g∨g=w.heap.size+1):GroD w w1 v (.slice (some ⟨g,0,none⟩) n cap) :=
  ⟨hg.os,hg.tape,hg.output,Nat.le_trans (by simp) hg.size,fun k hk hv=>(hg.block k (by simp;omega) (fun e=>hv e.symm)).trans (Below.heap_alloc _ _ _ hk),
   fun x hx=>by
    obtain rfl:g=x:=Option.some.inj hx;rcases hl with h | h
    · exact .inl h
    · exact .inr (by omega)⟩
theorem groD_drew {w w1:World} {v v':Value} (h:GroD w.drew w1 v v'):GroD w w1 v v':=⟨h.os,h.tape,h.output,h.size,h.block,h.own⟩
theorem groD_store (w:World) {g n cap j:Nat} (u:Value):GroD w (w.setCell ⟨g,j,none⟩ u) (.slice (some ⟨g,0,none⟩) n cap) (.slice (some ⟨g,0,none⟩) n cap) :=
  ⟨rfl,rfl,rfl,by simp,fun k hk hv=>Below.heap_setCell _ _ _ _ (fun e=>hv (by show some g=some k;exact congrArg some e.symm)),fun x hx=>.inl hx⟩
theorem GroD.fr {w w':World} {v v':Value} (h:GroD w w' v v') {X:Nat→Prop} {a:World} (ha:FrX X a w) (hv:∀ g,v.ownBlock=some g→X g∨a.heap.size≤g):FrX X a w' :=
  ⟨h.os.trans ha.os,h.tape.trans ha.tape,h.output.trans ha.output,Nat.le_trans ha.size h.size,fun k hk hx=>(h.block k (Nat.lt_of_lt_of_le hk ha.size) (fun e=>by
    rcases hv k e with h2 | h2
    · exact hx h2
    · omega)).trans (ha.block k hk hx)⟩
structure RowD where
  ty:TypeId
  size:Nat
  len:Nat
  xs:List Value
def OwnD (w:World) (K:Nat) (v:Value) (t:RowD):Prop:=w.ownsRow K t.ty t.size v t.len t.xs
structure PoolD (w:World) (K m:Nat) (U:Nat→Value) (T:Nat→RowD):Prop where
  own:∀ i,i<m→OwnD w K (U i) (T i)
  ap:∀ i j,i<m→j<m→i≠j→(U i).ownBlock=none∨(U i).ownBlock≠(U j).ownBlock
theorem PoolD.congr {w:World} {K m:Nat} {U U':Nat→Value} {T T':Nat→RowD} (h:PoolD w K m U T) (hu:∀ i,i<m→U i=U' i) (ht:∀ i,i<m→T i=T' i):PoolD w K m U' T' :=
  ⟨fun i hi=>by rw [← hu i hi,← ht i hi];exact h.own i hi,fun i j hi hj hij=>by rw [← hu i hi,← hu j hj];exact h.ap i j hi hj hij⟩
theorem PoolD.go {w w':World} {K m:Nat} {U:Nat→Value} {T:Nat→RowD} (h:PoolD w K m U T) (hb:∀ k,K≤k→k<w.heap.size→w'.heap[k]?=w.heap[k]?):PoolD w' K m U T :=
  ⟨fun i hi=>qD (h.own i hi) fun g hg=>hb g ((h.own i hi).lt g hg).1 ((h.own i hi).lt g hg).2,h.ap⟩
theorem PoolD.gro {w w':World} {K m t:Nat} {U:Nat→Value} {T:Nat→RowD} {v':Value} {r:RowD} (h:PoolD w K m U T) (ht:t<m) (hg:GroD w w' (U t) v') (ho:OwnD w' K v' r):PoolD w' K m (updF U t v') (updF T t r):=by
  have key:∀ i,i<m→i≠t→(U i).ownBlock=none∨(U i).ownBlock≠v'.ownBlock:=fun i hi hit=>by
    cases hb:(U i).ownBlock with
    | none=>exact .inl rfl
    | some b =>
      right;intro e;rcases hg.own b e.symm with h1 | h1
      · rcases h.ap i t hi ht hit with h2 | h2
        · rw [h2] at hb;cases hb
        · exact h2 (hb.trans h1.symm)
      · have:=((h.own i hi).lt b hb).2;omega
  refine ⟨fun i hi=>?_,fun i j hi hj hij=>?_⟩
  · by_cases e:i=t
    · subst e;rw [qB,qB];exact ho
    · rw [q7 _ _ e,q7 _ _ e];refine qD (h.own i hi) fun g hgi=>hg.block g ((h.own i hi).lt g hgi).2 fun e2=>?_;rcases h.ap i t hi ht e with h2 | h2
      · rw [h2] at hgi;cases hgi
      · exact h2 (hgi.trans e2.symm)
  · by_cases ei:i=t
    · subst ei;rw [qB,q7 _ _ (Ne.symm hij)];rcases key j hj (Ne.symm hij) with h1 | h1
      · cases hv:v'.ownBlock with
        | none=>exact .inl rfl
        | some b=>right;rw [h1];intro e;cases e
      · exact .inr (Ne.symm h1)
    · rw [q7 _ _ ei]
      by_cases ej:j=t
      · subst ej;rw [qB];exact key i hi ei
      · rw [q7 _ _ ej];exact h.ap i j hi hj hij
theorem PoolD.more {w:World} {K m:Nat} {U:Nat→Value} {T:Nat→RowD} (h:PoolD w K m U T) (ty:TypeId) (size:Nat):PoolD w K (m+1) (updF U m (.slice none 0 0)) (updF T m ⟨ty,size,0,[]⟩):=by
  refine ⟨fun i hi=>?_,fun i j hi hj hij=>?_⟩
  · by_cases e:i=m
    · subst e;rw [qB,qB];exact World.ownsRow_nil _ _ _ _
    · rw [q7 _ _ e,q7 _ _ e];exact h.own i (by omega)
  · by_cases ei:i=m
    · subst ei;rw [qB];exact .inl rfl
    · rw [q7 _ _ ei]
      by_cases ej:j=m
      · (subst ej;rw [qB]);cases hb:(U i).ownBlock with
        | none=>exact .inl rfl
        | some b=>right;intro e;cases e
      · rw [q7 _ _ ej];exact h.ap i j (by omega) (by omega) hij
theorem own_cellD {w:World} {K n:Nat} {e:TypeId} {v:Value} {xs:List Value} (h:w.ownsRow K e 1 v n xs) {i:Nat} (hi:i<n):∃ g cap u,v=.slice (some ⟨g,0,none⟩) n cap∧xs[i]?=some u∧w.cell? ⟨g,i,none⟩=some u∧w.frozen? ⟨g,i,none⟩=false∧K≤g∧g<w.heap.size:=by
  obtain ⟨g,cap,rfl⟩:∃ g cap,v=.slice (some ⟨g,0,none⟩) n cap:=by
    rcases h.2 with ⟨_,h2⟩ | ⟨g,cap,cur,h2,_⟩
    · omega
    · exact ⟨g,cap,h2⟩
  have hl:=h.1;(have hx:i<xs.length:=by omega);refine ⟨g,cap,xs[i],rfl,List.getElem?_eq_getElem hx,?_,h.frozenAt i,(h.lt g rfl).1,(h.lt g rfl).2⟩;rw [h.cellAt i (by omega)];exact List.getElem?_eq_getElem hx
theorem map_range_snoc {α:Type} (f:Nat→α) (k:Nat) (x:α):((List.range k).map f++[x])=(List.range (k+1)).map (updF f k x):=by
  rw [List.range_succ,List.map_append,List.map_singleton,qB];(congr 1);exact List.map_congr_left fun v hv=>(q7 _ _ (by have:=List.mem_range.1 hv;omega)).symm
theorem map_range_set {α:Type} (f:Nat→α) (k j:Nat) (x:α):((List.range k).map f).set j x=(List.range k).map (updF f j x):=by
  apply List.ext_getElem?;intro i
  by_cases hik:i<k
  · by_cases e:i=j
    · subst e;simp [hik,updF]
    · simp [hik,updF,e,Ne.symm e]
  · simp [hik]
theorem qX {α:Type} (f:Nat→α) {k i:Nat} {x:α} (h:((List.range k).map f)[i]?=some x):x=f i∧i<k:=by
  rw [List.getElem?_map] at h;obtain ⟨q,hq,rfl⟩:=Option.map_eq_some_iff.1 h;obtain ⟨hl,rfl⟩:=List.getElem?_eq_some_iff.1 hq;simp at hl ⊢;exact hl
theorem cell_one_new_ (w:World) (x:Value) (t:TypeId):∀ j u,[x][j]?=some u→((w.alloc (.cells #[x] t)).drew).cell? ((⟨w.heap.size,0,none⟩:Addr).add j)=some u:=by
  intro j u hj;(have:j=0:=by have:=(List.getElem?_eq_some_iff.1 hj).1;simp at this;omega);subst this;simp at hj;subst hj;exact q5 (heap_alloc_new w (.cells #[x] t)) 0
def isAtB (a:Int) (n:Int):Bool:=decide (0≤a∧a<n)
def endsB (l:List Int) (n:Int):Bool:=l.getLast? == some n
structure Grid (w:World) (G n:Nat) (V:Nat→Value) (L:Nat→List Int):Prop where
  row:w.rowIs G 28 n V
  own:∀ i,i<n→w.ownsRow (G+1) 3 1 (V i) (L i).length ((L i).map (Value.int .i64))
  apart:∀ i j,i<n→j<n→i≠j→(V i).ownBlock=none∨(V i).ownBlock≠(V j).ownBlock
theorem Grid.congr {w:World} {G n:Nat} {V:Nat→Value} {L L':Nat→List Int} (h:Grid w G n V L) (e:∀ i,i<n→L i=L' i):Grid w G n V L' :=
  ⟨h.row,fun i hi=>by rw [← e i hi];exact h.own i hi,h.apart⟩
theorem Grid.alloc {w:World} {G n:Nat} {V:Nat→Value} {L:Nat→List Int} (h:Grid w G n V L) (o:Obj):Grid (w.alloc o) G n V L :=
  ⟨h.row.alloc o,fun i hi=>(h.own i hi).alloc o,h.apart⟩
theorem Grid.made (w:World) (G n:Nat) (hG:G=w.heap.size):Grid (w.alloc (.cells (madeCells #[.slice none 0 0] n) 28)) G n (fun _=>.slice none 0 0) (fun _=>[]):=by
  subst hG;exact ⟨World.rowIs_made w _ n _,fun i _=>World.ownsRow_nil _ _ _ _,fun i j _ _ _=>.inl rfl⟩
theorem Grid.push {w w3:World} {G n:Nat} {V:Nat→Value} {L:Nat→List Int} (h:Grid w G n V L) {t:Nat} (ht:t<n) {g cap:Nat} {x:Int}
    (hown:w3.ownsRow (G+1) 3 1 (.slice (some ⟨g,0,none⟩) ((L t).length+1) cap) ((L t).length+1) ((L t).map (Value.int .i64)++[.int .i64 x]))
    (hgrow:w.grownBy w3 (V t).ownBlock) (hloc:(V t).ownBlock=some g∨g=w.heap.size) :
    Grid (w3.setCell ⟨G,t,none⟩ (.slice (some ⟨g,0,none⟩) ((L t).length+1) cap)) G n (fun j=>if j=t then .slice (some ⟨g,0,none⟩) ((L t).length+1) cap else V j) (fun j=>if j=t then L t++[x] else L j):=by
  (have hblk:w3.heap[G]?=w.heap[G]?:=hgrow.block G h.row.lt (fun e=>by have:=((h.own t ht).lt G e.symm).1;omega));have hrow3:w3.rowIs G 28 n V:=h.row.of_block hblk;refine ⟨hrow3.set t _,fun j hj=>?_,fun i j hi hj hij=>?_⟩
  · by_cases e:j=t
    · subst e;simp only [if_true];(have:=ownsRow_setCell_below hown (a:=⟨G,j,none⟩) (by show G<G+1;omega) (.slice (some ⟨g,0,none⟩) ((L j).length+1) cap));simpa using this
    · simp only [if_neg e];exact ownsRow_setCell_below ((h.own j hj).kept hgrow (h.apart j t hj ht e)) (a:=⟨G,t,none⟩) (by show G<G+1;omega) _
  · have key:∀ j,j<n→j≠t→(V j).ownBlock=none∨(V j).ownBlock≠some g:=fun j hj hjt=>by
      rcases hloc with e | e
      · rw [← e];exact h.apart j t hj ht hjt
      · cases hb:(V j).ownBlock with
        | none=>exact .inl rfl
        | some b=>right;intro e2;have:=((h.own j hj).lt b hb).2;simp at e2;omega
    by_cases ei:i=t
    · subst ei;simp only [if_true,if_neg (Ne.symm hij)];right;rcases key j hj (Ne.symm hij) with e | e
      · rw [e];simp [Value.ownBlock]
      · intro e2;exact e (e2.symm.trans rfl)
    · by_cases ej:j=t
      · subst ej;simp only [if_true,if_neg ei];exact key i hi ei
      · simp only [if_neg ei,if_neg ej];exact h.apart i j hi hj hij
theorem Try.info28:(Try.prog.info? 28).map (fun i=>(i.zero,i.size,i.bytes))=some (some (.slice none 0 0),1,24):=by kernel_rfl
def LJ (bs:List BlkD) (k:Nat) (t:List Int) (i:Nat):List Int:=qF (bs.take k) i++(if hasTo i t then [(k:Int)] else [])
theorem LJ_nil (bs:List BlkD) (k i:Nat):LJ bs k [] i=qF (bs.take k) i:=by simp [LJ,hasTo]
theorem LJ_all {bs:List BlkD} {k:Nat} {x:BlkD} (i:Nat) (h:bs[k]?=some x):LJ bs k x.term.to i=qF (bs.take (k+1)) i:=(aheadL_step i h).symm
theorem LJ_ends (bs:List BlkD) (k:Nat) (t:List Int) (i:Nat):endsB (LJ bs k t i) k=hasTo i t:=by
  unfold LJ endsB;cases h:hasTo i t
  · simp only [if_neg Bool.false_ne_true,List.append_nil];rw [beq_eq_false_iff_ne];intro e;have hm:=List.mem_of_getLast? e;have:=qu (bs.take k) 0 i _ hm;simp at this;omega
  · simp
theorem LJ_len (bs:List BlkD) (k:Nat) (t:List Int) (i:Nat):(LJ bs k t i).length≤bs.length+1:=by
  unfold LJ;have:=aheadK_len (bs.take k) 0 i;rw [List.length_append,qF];have h2:(bs.take k).length≤bs.length:=by simp;omega
  split <;> simp <;> omega
theorem LJ_i64 (bs:List BlkD) (k:Nat) (t:List Int) (i:Nat) (hk:k≤1000000) (h:bs.length≤1000000):∀ x∈LJ bs k t i,I64 x:=by
  intro x hx;unfold LJ at hx;rcases List.mem_append.1 hx with hx | hx
  · exact aheadL_i64 _ _ (by simp;omega) x hx
  · split at hx
    · rw [List.mem_singleton.1 hx];unfold I64;omega
    · simp at hx
theorem LJ_out {bs:List BlkD} {k:Nat} {t:List Int} {j:Nat} {x:Int} (hx:t[j]?=some x) (i:Nat) (h:x≠i):LJ bs k (t.take j) i=LJ bs k (t.take (j+1)) i:=by
  unfold LJ;rw [hasTo_step _ hx,beq_eq_false_iff_ne.2 h,Bool.or_false]
theorem LJ_again {bs:List BlkD} {k:Nat} {t:List Int} {j:Nat} {x:Int} (hx:t[j]?=some x) (i:Nat) (h:hasTo x (t.take j)=true):LJ bs k (t.take j) i=LJ bs k (t.take (j+1)) i:=by
  by_cases e:x=i
  · unfold LJ;rw [hasTo_step _ hx,← e,h];rfl
  · exact LJ_out hx i e
theorem LJ_new {bs:List BlkD} {k:Nat} {t:List Int} {j:Nat} {q:Nat} (hx:t[j]?=some (q:Int)) (i:Nat) (h:hasTo q (t.take j)=false) :
    (if i=q then LJ bs k (t.take j) q++[(k:Int)] else LJ bs k (t.take j) i)=LJ bs k (t.take (j+1)) i:=by
  by_cases e:i=q
  · subst e;rw [if_pos rfl];unfold LJ;rw [hasTo_step _ hx,h];simp
  · rw [if_neg e,LJ_out hx i (fun e2=>e (by omega))]
def RRow (w:World) (b o:Nat) (xs:List Int):Prop:=CS w b o 1 RInt xs
def rows (bs:List BlkD):List (List Int):=(List.range bs.length).map fun i=>qF bs (i:Nat)
theorem rows_len (bs:List BlkD):(rows bs).length=bs.length:=by simp [rows]
theorem rows_at {bs:List BlkD} {k:Nat} {x:List Int} (h:(rows bs)[k]?=some x):x=qF bs k:=by
  unfold rows at h;rw [List.getElem?_map] at h;obtain ⟨i,hi,rfl⟩:=Option.map_eq_some_iff.1 h;obtain ⟨hl,rfl⟩:=List.getElem?_eq_some_iff.1 hi;simp
theorem RRow.keep {w w':World} (h:Kept w w') (b o:Nat) (x:List Int) (hv:RRow w b o x):RRow w' b o x:=CS.keep h (RInt.keep h) hv
theorem Grid.reads {w:World} {G:Nat} {V:Nat→Value} {bs:List BlkD} (h:Grid w G bs.length V (fun i=>qF bs i)) (hn:bs.length≤1000000):SL w 1 RRow (some ⟨G,0,none⟩) bs.length (rows bs):=by
  (refine ⟨by rw [rows_len];omega,⟨by unfold maxLen;omega,fun e=>by cases e⟩,fun _=>⟨G,0,rfl,fun i x hi=>?_⟩⟩);(have hl:i<bs.length:=by have:=(List.getElem?_eq_some_iff.1 hi).1;rwa [rows_len] at this);rw [rows_at hi,Nat.mul_one,Nat.zero_add];obtain ⟨A,c,e,hs⟩:=qV (h.own i hl) (aheadL_i64 _ _ (by omega));exact ⟨A,c,(h.row.cell hl).trans (congrArg some e),hs⟩
end Go.Proofs.Ytfoggldjjnabcaa

namespace Go.Proofs.Ytfoggldjjnabcaa
set_option linter.unusedVariables false
def mkW (w:Int) (S:Nat→Bool) (t:Nat):Nat→Bool:=if (t:Int)=w then S else mark S t
def fromA (nx:Nat→List Nat) (w:Int) (S:Nat→Bool) (a:Nat):Nat→Bool:=if S a=true then (nx a).foldl (mkW w) S else S
def fromR (nx:Nat→List Nat) (w:Int) (n:Nat) (S:Nat→Bool):Nat→Bool:=(List.range n).foldl (fromA nx w) S
def fromN (nx:Nat→List Nat) (w:Int) (n b:Nat):Nat→Nat→Bool
  | 0=>mark ql b
  | i+1=>fromR nx w n (fromN nx w n b i)
def nxW (nx:Nat→List Nat) (w:Int) (a:Nat):List Nat:=(nx a).filter fun t:Nat=>decide ((t:Int)≠w)
theorem nxW_mem {nx:Nat→List Nat} {w:Int} {a t:Nat}:t∈nxW nx w a↔t∈nx a∧(t:Int)≠w:=by
  unfold nxW;rw [List.mem_filter];simp
theorem mkW_of {w:Int} {S:Nat→Bool} {t x:Nat} (h:S x=true):mkW w S t x=true:=by
  unfold mkW;split
  · exact h
  · exact mark_of h
theorem foldW_of {w:Int} {l:List Nat}:∀ {S:Nat→Bool} {x:Nat},S x=true→l.foldl (mkW w) S x=true:=by
  induction l with
  | nil=>exact fun h=>h
  | cons t l ih=>exact fun h=>ih (mkW_of h)
theorem foldW_mem {w:Int} {l:List Nat}:∀ {S:Nat→Bool} {t:Nat},t∈l→(t:Int)≠w→l.foldl (mkW w) S t=true:=by
  induction l with
  | nil=>intro S t h;cases h
  | cons y l ih =>
    intro S t h hw;rcases List.mem_cons.1 h with rfl | h
    · rw [List.foldl_cons];exact foldW_of (by unfold mkW;rw [if_neg hw];exact mark_same _ _)
    · exact ih h hw
theorem foldW_inv {w:Int} {l:List Nat}:∀ {S:Nat→Bool} {x:Nat},l.foldl (mkW w) S x=true→S x=true∨(x∈l∧(x:Int)≠w):=by
  induction l with
  | nil=>exact fun h=>.inl h
  | cons y l ih =>
    intro S x h;rcases ih h with h1 | ⟨h1,h2⟩
    · unfold mkW at h1
      split at h1
      · exact .inl h1
      · rename_i hne;rcases mark_cases h1 with rfl | h1
        · exact .inr ⟨by simp,hne⟩
        · exact .inl h1
    · exact .inr ⟨by simp [h1],h2⟩
theorem fromA_of {nx:Nat→List Nat} {w:Int} {S:Nat→Bool} {a x:Nat} (h:S x=true):fromA nx w S a x=true:=by
  unfold fromA;split
  · exact foldW_of h
  · exact h
theorem foldA_of {nx:Nat→List Nat} {w:Int} {l:List Nat}:∀ {S:Nat→Bool} {x:Nat},S x=true→l.foldl (fromA nx w) S x=true:=by
  induction l with
  | nil=>exact fun h=>h
  | cons t l ih=>exact fun h=>ih (fromA_of h)
theorem foldA_mem {nx:Nat→List Nat} {w:Int} {l:List Nat}:∀ {S:Nat→Bool} {a t:Nat},a∈l→S a=true→t∈nx a→(t:Int)≠w→l.foldl (fromA nx w) S t=true:=by
  induction l with
  | nil=>intro S a t h;cases h
  | cons y l ih =>
    intro S a t h hs ht hw;rcases List.mem_cons.1 h with rfl | h
    · rw [List.foldl_cons];exact foldA_of (by unfold fromA;rw [if_pos hs];exact foldW_mem ht hw)
    · exact ih h (fromA_of hs) ht hw
theorem foldA_inv {nx:Nat→List Nat} {w:Int} {p:Nat→Prop} {l:List Nat}:(∀ a t,a∈l→p a→t∈nx a→(t:Int)≠w→p t)→∀ {S:Nat→Bool},(∀ x,S x=true→p x)→∀ x,l.foldl (fromA nx w) S x=true→p x:=by
  induction l with
  | nil=>exact fun _ _ h=>h
  | cons y l ih =>
    intro hp S h;refine ih (fun a t ha=>hp a t (by simp [ha])) fun x hx=>?_;unfold fromA at hx
    split at hx
    · rename_i hy;rcases foldW_inv hx with h1 | ⟨h1,h2⟩
      · exact h x h1
      · exact hp y x (by simp) (h y hy) h1 h2
    · exact h x hx
def ClosedG (nx:Nat→List Nat) (w:Int) (n:Nat) (S:Nat→Bool):Prop:=∀ a t,a<n→S a=true→t∈nx a→(t:Int)≠w→S t=true
theorem unseen_less {n:Nat} {S S':Nat→Bool} (h:∀ x,S x=true→S' x=true) {t:Nat} (ht:t<n) (h1:S t=false) (h2:S' t=true):qQ n S'+1≤qQ n S:=by
  rw [unseen_mark h1 ht];have:qQ n S'≤qQ n (mark S t):=unseen_mono fun x hx=>by
    rcases mark_cases hx with rfl | hx
    · exact h2
    · exact h x hx
  omega
theorem from_step {nx:Nat→List Nat} {n:Nat} (hnx:∀ x,∀ t∈nx x,t<n) {w:Int} {b:Nat} (hb:b<n):∀ i:Nat,ClosedG nx w n (fromN nx w n b i)∨qQ n (fromN nx w n b i)+i+1≤n:=by
  intro i
  induction i with
  | zero =>
    right;have h:=unseen_mark (S:=ql) (b:=b) rfl hb;have h2:=unseen_le n ql;show qQ n (mark ql b)+0+1≤n;omega
  | succ i ih =>
    generalize hS:fromN nx w n b i=S at ih;(have hS':fromN nx w n b (i+1)=fromR nx w n S:=by rw [← hS];rfl);rw [hS']
    by_cases hc:ClosedG nx w n S
    · left;have hup:∀ x,fromR nx w n S x=true→S x=true :=
        foldA_inv (p:=fun x=>S x=true) (fun a t ha hs ht hw=>hc a t (List.mem_range.1 ha) hs ht hw) (fun x hx=>hx)
      intro a t ha hs ht hw;exact foldA_of (hc a t ha (hup a hs) ht hw)
    · rcases ih with ih | ih
      · exact absurd ih hc
      · right;have:∃ a t,a<n∧S a=true∧t∈nx a∧(t:Int)≠w∧S t=false:=by
          apply Classical.byContradiction;intro h;apply hc;intro a t ha hs ht hw;cases h2:S t
          · exact absurd ⟨a,t,ha,hs,ht,hw,h2⟩ h
          · rfl
        obtain ⟨a,t,ha,hs,ht,hw,h2⟩:=this;have:=unseen_less (S:=S) (S':=fromR nx w n S) (fun x hx=>foldA_of hx) (hnx a t ht) h2 (foldA_mem (List.mem_range.2 ha) hs ht hw);omega
theorem fromN_of {nx:Nat→List Nat} {w:Int} {n b:Nat}:∀ i:Nat,fromN nx w n b i b=true
  | 0=>mark_same _ _
  | i+1=>foldA_of (fromN_of i)
theorem fromN_reach {nx:Nat→List Nat} {w:Int} {n b:Nat}:∀ (i x:Nat),fromN nx w n b i x=true→Reach (nxW nx w) b x
  | 0,x,h=>by
    rcases mark_cases h with rfl | h
    · exact .refl
    · cases h
  | i+1,x,h=>foldA_inv (p:=Reach (nxW nx w) b) (fun a t _ ha ht hw=>.step ha (nxW_mem.2 ⟨ht,hw⟩)) (fun y hy=>fromN_reach i y hy) x h
theorem fromN_iff {nx:Nat→List Nat} {n:Nat} (hnx:∀ x,∀ t∈nx x,t<n) {w:Int} {b:Nat} (hb:b<n) (x:Nat):fromN nx w n b n x=true↔Reach (nxW nx w) b x:=by
  refine ⟨fromN_reach n x,fun h=>?_⟩;rcases from_step hnx (w:=w) hb n with hc | hc
  · have hlt:∀ y,Reach (nxW nx w) b y→y<n:=fun y hy=>by
      cases hy with
      | refl=>exact hb
      | step _ h=>exact hnx _ _ (nxW_mem.1 h).1
    induction h with
    | refl=>exact fromN_of n
    | step h1 h2 ih=>exact hc _ _ (hlt _ h1) ih (nxW_mem.1 h2).1 (nxW_mem.1 h2).2
  · omega
theorem nxW_any (nx:Nat→List Nat) (w:Int) (hw:w<0):nxW nx w=nx:=by
  (funext a);unfold nxW;rw [List.filter_eq_self];intro t _;simp;omega
theorem fromN_reachB {nx:Nat→List Nat} {n:Nat} (hnx:∀ x,∀ t∈nx x,t<n) (hn:0<n) (x:Nat):fromN nx (-1) n 0 n x=reachB nx n x:=by
  have h1:=fromN_iff hnx (w:=-1) (b:=0) hn x;rw [nxW_any nx (-1) (by omega),← orderL_mem hnx (by omega)] at h1;unfold reachB;rw [Bool.eq_iff_iff,decide_eq_true_iff];exact h1
end Go.Proofs.Ytfoggldjjnabcaa

namespace Go.Proofs.Ytfoggldjjnabcaa
open Go.ChangeShapes Go.WideShapes Go.RowKit Go.Deep
set_option linter.unusedVariables false
def nxF (bs:List BlkD) (a:Nat):List Nat:=match bs[a]? with
  | some b=>nextN bs.length b.term.to
  | none=>[]
theorem nxF_at {bs:List BlkD} {a:Nat} {b:BlkD} (h:bs[a]?=some b):nxF bs a=nextN bs.length b.term.to:=by unfold nxF;rw [h]
theorem qe (bs:List BlkD):∀ x,∀ t∈nxF bs x,t<bs.length:=fun x t ht=>by
  unfold nxF at ht
  split at ht
  · exact (nextN_mem.1 ht).1
  · cases ht
theorem nxF_mem {bs:List BlkD} {a t:Nat} {b:BlkD} (h:bs[a]?=some b):t∈nxF bs a↔t<bs.length∧(t:Int)∈b.term.to:=by
  rw [nxF_at h];exact nextN_mem
def zs (l:List Nat):List Int:=l.map fun q:Nat=>(q:Int)
theorem qP (l:List Nat):(zs l).length=l.length:=by simp [zs]
theorem zs_at {l:List Nat} {i:Nat} {x:Int} (h:(zs l)[i]?=some x):∃ q:Nat,l[i]?=some q∧x=q:=by
  unfold zs at h;rw [List.getElem?_map] at h;obtain ⟨q,hq,rfl⟩:=Option.map_eq_some_iff.1 h;exact ⟨q,hq,rfl⟩
theorem zs_snoc (l:List Nat) (q:Nat):zs (l++[q])=zs l++[(q:Int)]:=by simp [zs]
theorem zs_mem {l:List Nat} {x:Int} (h:x∈zs l):∃ q∈l,x=(q:Int):=by
  unfold zs at h;obtain ⟨q,hq,rfl⟩:=List.mem_map.1 h;exact ⟨q,hq,rfl⟩
def qE (bs:List BlkD) (x:Nat):Bool:=reachB (nxF bs) bs.length x
def qK (bs:List BlkD):List Nat:=orderL (nxF bs) bs.length
def numB (r:Nat→Bool) (i:Nat):Int:=if r i=true then (((List.range i).countP r:Nat):Int) else -1
theorem countP_range_succ (r:Nat→Bool) (k:Nat):(List.range (k+1)).countP r=(List.range k).countP r+(if r k=true then 1 else 0):=by
  rw [List.range_succ,List.countP_append];simp [List.countP_cons]
theorem countP_range_le (r:Nat→Bool) (k:Nat):(List.range k).countP r≤k:=by
  have:=List.countP_le_length (p:=r) (l:=List.range k);simpa using this
theorem numB_i64 (r:Nat→Bool) {i:Nat} (h:i≤1000000):I64 (numB r i):=by
  have:=countP_range_le r i;unfold numB I64;split <;> omega
def keepA (r:Nat→Bool):List Int→List Int→List Int
  | a::rs,x::xs=>(if r a.toNat=true then [x] else [])++keepA r rs xs
  | _,_=>[]
def argsT (r:Nat→Bool) (ahead args:List Int):List Int:=if args.length=ahead.length then keepA r ahead args else args
def phiT (r:Nat→Bool) (ahead:List Int) (p:PhiD):PhiD:=⟨p.dst,argsT r ahead p.args⟩
def toT (r:Nat→Bool) (n:Nat) (t:Int):Int:=if 0≤t∧t<n then numB r t.toNat else t
def blkT (bs:List BlkD) (r:Nat→Bool) (i:Nat) (b:BlkD):BlkD :=
  ⟨b.phis.map (phiT r (qF bs i)),b.ins,⟨b.term.kind,b.term.arg,b.term.to.map (toT r bs.length)⟩⟩
def blksK (bs:List BlkD) (r:Nat→Bool) (k:Nat):List BlkD:=(bs.zipIdx.take k).filterMap fun p=>if r p.2=true then some (blkT bs r p.2 p.1) else none
def blksT (bs:List BlkD):List BlkD:=blksK bs (qE bs) bs.length
def trimF (f:FunD):FunD:=⟨f.params,f.result,f.regs,blksT f.blocks⟩
theorem blksK_succ {bs:List BlkD} {r:Nat→Bool} {k:Nat} {b:BlkD} (h:bs[k]?=some b):blksK bs r (k+1)=blksK bs r k++(if r k=true then [blkT bs r k b] else []):=by
  (have hz:bs.zipIdx[k]?=some (b,k):=by simp [List.getElem?_zipIdx,h]);unfold blksK;rw [qC hz,List.filterMap_append];congr 1
  by_cases hr:r k=true
  · simp [hr]
  · simp [hr]
theorem blksK_zero (bs:List BlkD) (r:Nat→Bool):blksK bs r 0=[]:=by simp [blksK]
theorem keepA_snoc {r:Nat→Bool}:∀ {rs xs:List Int} {k:Nat} {a x:Int},rs[k]?=some a→xs[k]?=some x→keepA r (rs.take (k+1)) (xs.take (k+1))=keepA r (rs.take k) (xs.take k)++(if r a.toNat=true then [x] else [])
  | [],_,_,_,_,h,_=>by simp at h
  | _::_,[],_,_,_,_,h=>by simp at h
  | y::rs,z::xs,0,a,x,h1,h2=>by
    simp at h1 h2;subst h1;subst h2;simp [keepA]
  | y::rs,z::xs,k+1,a,x,h1,h2=>by
    have ih:=keepA_snoc (r:=r) (rs:=rs) (xs:=xs) (k:=k) (a:=a) (x:=x) (by simpa using h1) (by simpa using h2);simp only [List.take_succ_cons,keepA,ih,List.append_assoc]
theorem keepA_len (r:Nat→Bool):∀ (rs xs:List Int),(keepA r rs xs).length≤xs.length
  | [],_=>by simp [keepA]
  | _::_,[]=>by simp [keepA]
  | a::rs,x::xs=>by have:=keepA_len r rs xs;simp only [keepA,List.length_append,List.length_cons];split <;> simp <;> omega
theorem keepA_mem {r:Nat→Bool} {y:Int}:∀ {rs xs:List Int},y∈keepA r rs xs→y∈xs
  | [],_,h=>by simp [keepA] at h
  | _::_,[],h=>by simp [keepA] at h
  | a::rs,x::xs,h=>by
    simp only [keepA,List.mem_append] at h;rcases h with h | h
    · split at h <;> simp at h;subst h;simp
    · exact List.mem_cons_of_mem _ (keepA_mem h)
theorem argsT_mem {r:Nat→Bool} {ahead args:List Int} {y:Int} (h:y∈argsT r ahead args):y∈args:=by
  unfold argsT at h;split at h
  · exact keepA_mem h
  · exact h
theorem Try.info52:(Try.prog.info? 52).map (fun i=>(i.zero,i.size,i.bytes))=some (some (.agg #[.int .i64 0,.slice none 0 0]),2,32):=by kernel_rfl
theorem Try.info45:(Try.prog.info? 45).map (fun i=>(i.zero,i.size,i.bytes))=some (some (.agg #[.int .i64 0,.int .i64 0,.slice none 0 0,.int .i64 0,.int .i64 0]),5,56):=by kernel_rfl
theorem Try.info43:(Try.prog.info? 43).map (fun i=>(i.zero,i.size,i.bytes))=some (some (.agg #[.slice none 0 0,.slice none 0 0,.int .i64 0,.int .i64 0,.slice none 0 0]),5,88):=by kernel_rfl
theorem Try.info31:(Try.prog.info? 31).map (fun i=>(i.zero,i.size,i.bytes))=some (some (.agg #[.int .i64 0,.int .i64 0,.slice none 0 0,.slice none 0 0]),4,64):=by kernel_rfl
structure Gri (w:World) (G K n:Nat) (V:Nat→Value) (L:Nat→List Int):Prop where
  row:w.rowIs G 28 n V
  own:∀ i,i<n→w.ownsRow K 3 1 (V i) (L i).length ((L i).map (Value.int .i64))
  apart:∀ i j,i<n→j<n→i≠j→(V i).ownBlock=none∨(V i).ownBlock≠(V j).ownBlock
  lt:G<K
theorem Gri.congr {w:World} {G K n:Nat} {V:Nat→Value} {L L':Nat→List Int} (h:Gri w G K n V L) (e:∀ i,i<n→L i=L' i):Gri w G K n V L' :=
  ⟨h.row,fun i hi=>by rw [← e i hi];exact h.own i hi,h.apart,h.lt⟩
theorem Gri.alloc {w:World} {G K n:Nat} {V:Nat→Value} {L:Nat→List Int} (h:Gri w G K n V L) (o:Obj):Gri (w.alloc o) G K n V L :=
  ⟨h.row.alloc o,fun i hi=>(h.own i hi).alloc o,h.apart,h.lt⟩
theorem Gri.drewN {w:World} {G K n:Nat} {V:Nat→Value} {L:Nat→List Int} (h:Gri w G K n V L) (k:Nat):Gri (w.drewN k) G K n V L:=⟨h.row,h.own,h.apart,h.lt⟩
theorem Gri.of_blocks {w w':World} {G K n:Nat} {V:Nat→Value} {L:Nat→List Int} (h:Gri w G K n V L) (hG:w'.heap[G]?=w.heap[G]?) (hK:∀ g,K≤g→g<w.heap.size→w'.heap[g]?=w.heap[g]?):Gri w' G K n V L :=
  ⟨h.row.of_block hG,fun i hi=>qD (h.own i hi) fun g hg=>hK g ((h.own i hi).lt g hg).1 ((h.own i hi).lt g hg).2,h.apart,h.lt⟩
theorem Gri.below {w w':World} {G K n:Nat} {V:Nat→Value} {L:Nat→List Int} (h:Gri w G K n V L) (hb:Below w.heap.size w w'):Gri w' G K n V L :=
  h.of_blocks (hb.block _ h.row.lt) fun g _ hg=>hb.block g hg
theorem Gri.setOther {w:World} {G K n:Nat} {V:Nat→Value} {L:Nat→List Int} (h:Gri w G K n V L) {a:Addr} (h1:G≠a.block) (h2:a.block<K) (v:Value):Gri (w.setCell a v) G K n V L :=
  h.of_blocks (Below.heap_setCell _ _ _ _ h1) fun g hg _=>Below.heap_setCell _ _ _ _ (by omega)
theorem Gri.made (w:World) (G K n:Nat) (hG:G=w.heap.size) (hK:G<K):Gri (w.alloc (.cells (madeCells #[.slice none 0 0] n) 28)) G K n (fun _=>.slice none 0 0) (fun _=>[]):=by
  subst hG;exact ⟨World.rowIs_made w _ n _,fun i _=>World.ownsRow_nil _ _ _ _,fun i j _ _ _=>.inl rfl,hK⟩
theorem Gri.push {w w3:World} {G K n:Nat} {V:Nat→Value} {L:Nat→List Int} (h:Gri w G K n V L) {t:Nat} (ht:t<n) {g cap:Nat} {x:Int}
    (hown:w3.ownsRow K 3 1 (.slice (some ⟨g,0,none⟩) ((L t).length+1) cap) ((L t).length+1) ((L t).map (Value.int .i64)++[.int .i64 x]))
    (hgrow:w.grownBy w3 (V t).ownBlock) (hloc:(V t).ownBlock=some g∨g=w.heap.size) :
    Gri (w3.setCell ⟨G,t,none⟩ (.slice (some ⟨g,0,none⟩) ((L t).length+1) cap)) G K n (fun j=>if j=t then .slice (some ⟨g,0,none⟩) ((L t).length+1) cap else V j) (fun j=>if j=t then L t++[x] else L j):=by
  have hGK:=h.lt;(have hblk:w3.heap[G]?=w.heap[G]?:=hgrow.block G h.row.lt (fun e=>by have:=((h.own t ht).lt G e.symm).1;omega));have hrow3:w3.rowIs G 28 n V:=h.row.of_block hblk;refine ⟨hrow3.set t _,fun j hj=>?_,fun i j hi hj hij=>?_,hGK⟩
  · by_cases e:j=t
    · subst e;simp only [if_true];(have:=ownsRow_setCell_below hown (a:=⟨G,j,none⟩) (by show G<K;omega) (.slice (some ⟨g,0,none⟩) ((L j).length+1) cap));simpa using this
    · simp only [if_neg e];exact ownsRow_setCell_below ((h.own j hj).kept hgrow (h.apart j t hj ht e)) (a:=⟨G,t,none⟩) (by show G<K;omega) _
  · have key:∀ j,j<n→j≠t→(V j).ownBlock=none∨(V j).ownBlock≠some g:=fun j hj hjt=>by
      rcases hloc with e | e
      · rw [← e];exact h.apart j t hj ht hjt
      · cases hb:(V j).ownBlock with
        | none=>exact .inl rfl
        | some b=>right;intro e2;have:=((h.own j hj).lt b hb).2;simp at e2;omega
    by_cases ei:i=t
    · subst ei;simp only [if_true,if_neg (Ne.symm hij)];right;rcases key j hj (Ne.symm hij) with e | e
      · rw [e];simp [Value.ownBlock]
      · intro e2;exact e (e2.symm.trans rfl)
    · by_cases ej:j=t
      · subst ej;simp only [if_true,if_neg ei];exact key i hi ei
      · simp only [if_neg ei,if_neg ej];exact h.apart i j hi hj hij
theorem Gri.reads {w:World} {G K n:Nat} {V:Nat→Value} {L:Nat→List Int} (h:Gri w G K n V L) (hn:n≤1000000) (h64:∀ i,i<n→∀ x∈L i,I64 x):SL w 1 RRow (some ⟨G,0,none⟩) n ((List.range n).map L):=by
  (refine ⟨by simp,⟨by unfold maxLen;omega,fun e=>by cases e⟩,fun _=>⟨G,0,rfl,fun i x hi=>?_⟩⟩);(have hl:i<n:=by have:=(List.getElem?_eq_some_iff.1 hi).1;simpa using this);rw [List.getElem?_map] at hi;obtain ⟨q,hq,rfl⟩:=Option.map_eq_some_iff.1 hi;obtain ⟨_,rfl⟩:=List.getElem?_eq_some_iff.1 hq;rw [Nat.mul_one,Nat.zero_add,List.getElem_range];obtain ⟨A,c,e,hs⟩:=qV (h.own i hl) (h64 i hl);exact ⟨A,c,(h.row.cell hl).trans (congrArg some e),hs⟩
def NX (bs:List BlkD) (k:Nat) (t:List Int) (i:Nat):List Int:=if i<k then zs (nxF bs i) else if i=k then zs (nextN bs.length t) else []
def LastOk (la:Nat→Int) (n k:Nat) (acc:List Nat):Prop:=∀ t,t<n→0≤la t∧la t≤k+1∧(la t=k+1↔t∈acc)
theorem NX_zero (bs:List BlkD) (i:Nat):NX bs 0 [] i=[]:=by unfold NX nextN;simp [zs]
theorem NX_all {bs:List BlkD} {k:Nat} {b:BlkD} (h:bs[k]?=some b) (i:Nat):NX bs k b.term.to i=NX bs (k+1) [] i:=by
  unfold NX
  by_cases h1:i<k
  · rw [if_pos h1,if_pos (by omega)]
  · rw [if_neg h1]
    by_cases h2:i=k
    · subst h2;rw [if_pos rfl,if_pos (by omega),nxF_at h]
    · rw [if_neg h2,if_neg (by omega)]
      by_cases h3:i=k+1
      · rw [if_pos h3];rfl
      · rw [if_neg h3]
theorem NX_end (bs:List BlkD) (i:Nat) (h:i<bs.length):NX bs bs.length [] i=zs (nxF bs i):=by unfold NX;rw [if_pos h]
theorem NX_here (bs:List BlkD) (k:Nat) (t:List Int):NX bs k t k=zs (nextN bs.length t):=by unfold NX;rw [if_neg (by omega),if_pos rfl]
theorem nextN_step {n:Nat} {t:List Int} {j:Nat} {x:Int} (hx:t[j]?=some x):nextN n (t.take (j+1))=addT n (nextN n (t.take j)) x:=by
  rw [qC hx,nextN_snoc]
theorem addT_old {n:Nat} {acc:List Nat} {x:Int} (h:¬ (0≤x∧x<n∧x.toNat ∉ acc)):addT n acc x=acc:=by unfold addT;rw [if_neg h]
theorem addT_new {n:Nat} {acc:List Nat} {q:Nat} (h:q<n) (h2:q ∉ acc):addT n acc (q:Int)=acc++[q]:=by unfold addT;rw [if_pos ⟨by omega,by omega,by simpa using h2⟩];simp
theorem NX_old {bs:List BlkD} {k:Nat} {t:List Int} {j:Nat} {x:Int} (hx:t[j]?=some x) (h:¬ (0≤x∧x<bs.length∧x.toNat ∉ nextN bs.length (t.take j))) (i:Nat):NX bs k (t.take j) i=NX bs k (t.take (j+1)) i:=by
  unfold NX;rw [nextN_step hx,addT_old h]
theorem NX_new {bs:List BlkD} {k:Nat} {t:List Int} {j q:Nat} (hx:t[j]?=some (q:Int)) (hq:q<bs.length) (h:q ∉ nextN bs.length (t.take j)) (i:Nat) :
    (if i=k then NX bs k (t.take j) k++[(q:Int)] else NX bs k (t.take j) i)=NX bs k (t.take (j+1)) i:=by
  by_cases e:i=k
  · subst e;rw [if_pos rfl,NX_here,NX_here,nextN_step hx,addT_new hq h,zs_snoc]
  · rw [if_neg e];unfold NX;rw [if_neg e,if_neg e]
theorem LastOk.old {la:Nat→Int} {n k j:Nat} {t:List Int} {x:Int} (hl:LastOk la n k (nextN n (t.take j))) (hx:t[j]?=some x) (h:¬ (0≤x∧x<n∧x.toNat ∉ nextN n (t.take j))):LastOk la n k (nextN n (t.take (j+1))):=by
  rw [nextN_step hx,addT_old h];exact hl
theorem LastOk.new {la:Nat→Int} {n k j q:Nat} {t:List Int} (hl:LastOk la n k (nextN n (t.take j))) (hx:t[j]?=some (q:Int)) (hq:q<n) (h:q ∉ nextN n (t.take j)):LastOk (fun i=>if i=q then (k:Int)+1 else la i) n k (nextN n (t.take (j+1))):=by
  rw [nextN_step hx,addT_new hq h];intro i hi;obtain ⟨h1,h2,h3⟩:=hl i hi;simp only [List.mem_append,List.mem_singleton]
  by_cases e:i=q
  · simp only [if_pos e];exact ⟨by omega,by omega,by simp [e]⟩
  · simp only [if_neg e];exact ⟨h1,h2,h3.trans (by simp [e])⟩
theorem LastOk.next {la:Nat→Int} {n k:Nat} {acc:List Nat} (hl:LastOk la n k acc):LastOk la n (k+1) (nextN n []):=fun i hi=>by
  obtain ⟨h1,h2,h3⟩:=hl i hi;exact ⟨h1,by push_cast;omega,⟨fun h=>by push_cast at h;omega,fun h=>by simp [nextN] at h⟩⟩
theorem LastOk.start (n:Nat):LastOk (fun _=>0) n 0 (nextN n []):=fun i hi=>⟨by simp,by simp,⟨fun h=>by simp at h,fun h=>by simp [nextN] at h⟩⟩
theorem slB_of_own {w:World} {base:Nat} {v:Value} {xs:List Int} (h:w.ownsRow base 3 1 v xs.length (xs.map (Value.int .i64))) (hx:∀ x∈xs,I64 x) {B:Nat→Prop} (hB:∀ g,base≤g→g<w.heap.size→B g) :
    ∃ A c,v=.slice A xs.length c∧SL w 1 (RIntB B) A c xs:=by
  obtain ⟨A,c,e,hs⟩:=qV h hx;obtain ⟨h1,h2,h3⟩:=hs;refine ⟨A,c,e,h1,h2,fun hp=>?_⟩;obtain ⟨b,o,e2,hr⟩:=h3 hp;(have hl:=h.lt b (by rw [e,e2];rfl));exact ⟨b,o,e2,fun i x hi=>⟨hB b hl.1 hl.2,hr i x hi⟩⟩
end Go.Proofs.Ytfoggldjjnabcaa
