/- The program's nameArgs. -/
import Derived.Test.YtfoggldjjnabcaaDmGJ
import Derived.Test.YtfoggldjjnabcaaGrMJ
import Derived.Test.YtfoggldjjnabcaaGrYJ
import Derived.Test.YtfoggldjjnabcaaAheadJ
import Derived.Test.YtfoggldjjnabcaaLpMJ
namespace Go.Proofs.Ytfoggldjjnabcaa
open Go.ChangeShapes Go.WideShapes Go.RowKit Go.Deep
set_option linter.unusedVariables false
set_option linter.unusedSimpArgs false
def Mv (w w':World) (lab lab':Nat→Nat) (t:Nat):Prop:=∀ y,y<w.heap.size→lab y=t→w'.heap[y]?=w.heap[y]?∧lab' y=t
section
variable {w w':World} {K t sz n:Nat} {lab lab':Nat→Nat} {ty:TypeId} {v:Value} {xs:List Value} {l:List InsD} {ys:List (InsD × Value)} {li:List Int}
theorem LRw.mv (h:LRw w K lab t ty sz v n xs) (hm:Mv w w' lab lab' t):LRw w' K lab' t ty sz v n xs :=
  ⟨qD h.own fun g hg=>(hm g (h.own.lt g hg).2 (h.lb g hg)).1,fun g hg=>(hm g (h.own.lt g hg).2 (h.lb g hg)).2⟩
theorem RdV.mv (h:RdV w lab v li) (hm:Mv w w' lab lab' 0):RdV w' lab' v li:=h.go fun y hy hl=>hm y hy hl
theorem InsO.mv (h:InsO w K lab t v l ys) (hm:Mv w w' lab lab' t) (h0:Mv w w' lab lab' 0):InsO w' K lab' t v l ys:=⟨h.row.mv hm,h.are,fun y hy=>(h.rd y hy).mv h0⟩
end
def entA (p:Int) (R:Nat):List Int:=(List.range R).map fun r:Nat=>if (r:Int)<p then (r:Int) else (-1:Int)
def phAs (F:FunD) (ph:Nat→List Nat) (b:Nat) (al:List Int):Nat→List Int
  | 0=>al
  | k+1=>(phAs F ph b al k).set ((ph b).getD k 0) ((bsO F ph b+k:Nat):Int)
theorem phAs_len (F:FunD) (ph:Nat→List Nat) (b:Nat) (al:List Int):∀ k,(phAs F ph b al k).length=al.length
  | 0=>rfl
  | k+1=>by unfold phAs;rw [List.length_set,phAs_len F ph b al k]
theorem phS_i64 {F:FunD} {ph:Nat→List Nat} {b:Nat} {al:List Int} (h:∀ z∈al,I64 z) (hb:bsO F ph b≤1000000):∀ k,k≤1000→∀ z∈phAs F ph b al k,I64 z
  | 0,_=>h
  | k+1,hk=>by
    intro z hz;unfold phAs at hz;rcases List.mem_or_eq_of_mem_set hz with h1 | h1
    · exact phS_i64 h hb k (by omega) z h1
    · rw [h1];unfold I64;omega
structure NmA (F:FunD) (ph:Nat→List Nat) (AE:Nat→List Int→Prop) (X:Nat→List InsD) (Y:Nat→Int) (A:Nat→Nat→Nat→Int):Prop where
  order:∀ i b,(qK F.blocks)[i]?=some b→b<F.blocks.length∧(0≤nearD F.blocks b→∃ j a:Nat,j<i∧(qK F.blocks)[j]?=some a∧nearD F.blocks b=(a:Int))
  all:∀ b,b<F.blocks.length→b∈qK F.blocks
  few:(qK F.blocks).length≤1000
  ae:∀ b al,AE b al→al.length=F.regs.length∧∀ z∈al,I64 z
  step:∀ b al0,b<F.blocks.length→(if 0≤nearD F.blocks b then AE (nearD F.blocks b).toNat al0 else al0=entA F.params F.regs.length) →
    AE b (alK (phAs F ph b al0 (ph b).length) (insB F b) (outIs F ph b) (outIs F ph b).length)∧(outIs F ph b).mapIdx (nmI (phAs F ph b al0 (ph b).length) (insB F b) (outIs F ph b))=X b ∧
    (if 0≤(blkAt F b).term.arg then atV (alK (phAs F ph b al0 (ph b).length) (insB F b) (outIs F ph b) (outIs F ph b).length) (blkAt F b).term.arg else (blkAt F b).term.arg)=Y b
  phi:∀ (b p r:Nat) (al:List Int),b<F.blocks.length→(p:Int)∈qF F.blocks b→r∈ph b→AE p al→atV al (r:Int)=A b p r
structure NmS (wA wq:World) (K:Nat) (labA lab:Nat→Nat) (F:FunD) (ph:Nat→List Nat) (AE:Nat→List Int→Prop) (X:Nat→List InsD) (Y:Nat→Int) (vB:Value) (PV IV TV:Nat→Value) (G:Nat) (VE:Nat→Value) (dn:List Nat):Prop where
  chg:Chg wA wq labA (fun k=>3≤k)
  ext:∀ y,y<wA.heap.size→lab y=labA y
  rB:LRw wq K lab 3 43 5 vB F.blocks.length ((List.range F.blocks.length).flatMap fun b=>bkC (PV b) (IV b) (blkAt F b).term.kind (if b∈dn then Y b else (blkAt F b).term.arg) (TV b))
  rP:∀ b,b<F.blocks.length→LRw wq K lab (100+2 * b) 52 2 (PV b) (ph b).length ((outPs F ph b).flatMap phC)
  rI:∀ b,b<F.blocks.length→∃ ys,InsO wq K lab (101+2 * b) (IV b) (if b∈dn then X b else outIs F ph b) ys
  rT:∀ b,b<F.blocks.length→RdV wq lab (TV b) (blkAt F b).term.to
  rG:wq.rowIs G 28 F.blocks.length (fun b=>if b∈dn then VE b else .slice none 0 0)
  lG:lab G=20
  rE:∀ b,b<F.blocks.length→b∈dn→∃ al,AE b al∧LRw wq K lab (10000+b) 3 1 (VE b) F.regs.length (al.map (Value.int .i64))
section
variable {wA w w':World} {K:Nat} {labA lab lab':Nat→Nat} {F:FunD} {ph:Nat→List Nat} {AE:Nat→List Int→Prop} {X:Nat→List InsD} {Y:Nat→Int} {vB:Value} {PV IV TV VE:Nat→Value} {G:Nat} {dn:List Nat} {S:Nat→Prop}
theorem NmS.mv (h:NmS wA w K labA lab F ph AE X Y vB PV IV TV G VE dn) (hc:Chg w w' lab S) (hl:∀ y,y<w.heap.size→lab' y=lab y) (hS:∀ k,S k→3≤k) (hn:∀ t,S t→t=40∨(10000≤t∧∀ b∈dn,t≠10000+b)) (hF:F.blocks.length≤500) :
    NmS wA w' K labA lab' F ph AE X Y vB PV IV TV G VE dn:=by
  (have mv:∀ t,¬ S t→Mv w w' lab lab' t:=fun t ht y hy hyt=>⟨hc.block y hy (by rw [hyt];exact ht),by rw [hl y hy];exact hyt⟩);(have no:∀ t,t≠40→t<10000→¬ S t:=fun t h1 h2 e=>by rcases hn t e with h | h <;> omega);have hG:=h.rG.lt;refine ⟨?_,fun y hy=>by rw [hl y (by have:=h.chg.size;omega)];exact h.ext y hy,h.rB.mv (mv 3 (no 3 (by omega) (by omega))),fun b hb=>(h.rP b hb).mv (mv _ (no _ (by omega) (by omega))),fun b hb=>?_,fun b hb=>(h.rT b hb).mv (mv 0 (no 0 (by omega) (by omega))),h.rG.of_block (hc.block G hG (by rw [h.lG];exact no 20 (by omega) (by omega))),by rw [hl G hG];exact h.lG,fun b hb hd=>?_⟩
  · exact ⟨hc.os.trans h.chg.os,hc.tape.trans h.chg.tape,hc.output.trans h.chg.output,Nat.le_trans h.chg.size hc.size,fun y hy hk=>(hc.block y (Nat.lt_of_lt_of_le hy h.chg.size) (fun e=>hk (by have e':=hS _ e;rwa [h.ext y hy] at e'))).trans (h.chg.block y hy hk)⟩
  · obtain ⟨ys,hy⟩:=h.rI b hb;exact ⟨ys,hy.mv (mv _ (no _ (by omega) (by omega))) (mv 0 (no 0 (by omega) (by omega)))⟩
  · obtain ⟨al,h1,h2⟩:=h.rE b hb hd;refine ⟨al,h1,h2.mv (mv _ fun e=>?_)⟩;rcases hn _ e with h3 | h3
    · omega
    · exact h3.2 b hd rfl
theorem NmS.below (h:NmS wA w K labA lab F ph AE X Y vB PV IV TV G VE dn) (hb:Below w.heap.size w w') (hl:∀ y,y<w.heap.size→lab' y=lab y) (hF:F.blocks.length≤500):NmS wA w' K labA lab' F ph AE X Y vB PV IV TV G VE dn :=
  h.mv (S:=fun _=>False) (Chg.of_below hb) hl (fun _ e=>e.elim) (fun _ e=>e.elim) hF
end
theorem rowIs_own {w:World} {K G n:Nat} {ty:TypeId} {V:Nat→Value} (h:w.rowIs G ty n V) (hK:K≤G) (hn:n≤1000000):w.ownsRow K ty 1 (.slice (some ⟨G,0,none⟩) n n) n ((List.range n).map V):=by
  obtain ⟨cs,h1,h2,h3⟩:=h;(refine ⟨by simp,.inr ⟨G,n,cs,rfl,hK,h1,Nat.le_refl _,by unfold maxLen;omega,by omega,?_⟩⟩);apply List.ext_getElem?;intro i
  by_cases hi:i<n
  · rw [List.getElem?_take,if_pos (by omega),Array.getElem?_toList,h3 i hi];simp [hi]
  · rw [List.getElem?_take,if_neg (by omega)];simp [hi]
theorem flat_fun_set {f f':Nat→List Value} {sz b j:Nat} {u:Value} (hf:∀ x,(f x).length=sz) (hj:j<sz) (e:f' b=(f b).set j u) (ne:∀ x,x≠b→f' x=f x):∀ n,b<n→((List.range n).flatMap f).set (b * sz+j) u=(List.range n).flatMap f':=by
  intro n;(have hlen:∀ m,((List.range m).flatMap f).length=m * sz:=fun m=>by rw [flat_len hf];simp);have hlow:∀ m,m≤b→(List.range m).flatMap f'=(List.range m).flatMap f:=fun m hm=>by
    simp only [List.flatMap_def];(congr 1);exact List.map_congr_left fun x hx=>ne x (by have:=List.mem_range.1 hx;omega)
  induction n with
  | zero=>intro h;omega
  | succ n ih =>
    intro hb;rw [List.range_succ,List.flatMap_append,List.flatMap_append,List.flatMap_singleton,List.flatMap_singleton]
    by_cases hbn:b<n
    · rw [List.set_append_left _ _ (by rw [hlen];have:(b+1) * sz≤n * sz:=Nat.mul_le_mul_right _ hbn;rw [Nat.succ_mul] at this;omega),ih hbn,ne n (by omega)]
    · (obtain rfl:b=n:=by omega);(rw [List.set_append_right _ _ (by rw [hlen];omega),hlen,hlow b (Nat.le_refl _),e]);(congr 2);omega
theorem NmS.done {wA w w8:World} {K b gB cB:Nat} {labA lab:Nat→Nat} {F:FunD} {ph:Nat→List Nat} {AE:Nat→List Int→Prop} {X:Nat→List InsD} {Y:Nat→Int} {PV IV TV VE:Nat→Value} {G:Nat} {dn:List Nat} {vat:Value}
    (h:NmS wA w K labA lab F ph AE X Y (.slice (some ⟨gB,0,none⟩) F.blocks.length cB) PV IV TV G VE dn) (hb:b<F.blocks.length) (hbd:b ∉ dn) (hF:F.blocks.length≤500) (hc:Chg w w8 lab (fun k=>k=3∨k=101+2 * b∨k=10000+b))
    (hI:∃ ys,InsO w8 K (extL lab w.heap.size 0) (101+2 * b) (IV b) (X b) ys) (hA:∃ al,AE b al∧LRw w8 K (extL lab w.heap.size 0) (10000+b) 3 1 vat F.regs.length (al.map (Value.int .i64)))
    (hB:(w8.heap[gB]?=(w.setCell ⟨gB,b * 5+3,none⟩ (.int .i64 (Y b))).heap[gB]?)∨(Y b=(blkAt F b).term.arg∧w8.heap[gB]?=w.heap[gB]?)) :
    NmS wA (w8.setCell ⟨G,b,none⟩ vat) K labA (extL lab w.heap.size 0) F ph AE X Y (.slice (some ⟨gB,0,none⟩) F.blocks.length cB) PV IV TV G (updF VE b vat) (dn++[b]):=by
  have hG:=h.rG.lt;(have hl1:extL lab w.heap.size 0 G=20:=by rw [qJ hG];exact h.lG);have c2:Chg w8 (w8.setCell ⟨G,b,none⟩ vat) (extL lab w.heap.size 0) (fun k=>k=20):=Chg.set (fun k=>k=20) hl1 b vat;have c12:Chg w (w8.setCell ⟨G,b,none⟩ vat) lab (fun k=>k=3∨k=101+2 * b∨k=10000+b∨k=20):=(Chg.mono hc fun k e=>by omega).then_ (Chg.mono c2 fun k e=>by omega);(have mv:∀ t,¬ (t=3∨t=101+2 * b∨t=10000+b∨t=20)→Mv w (w8.setCell ⟨G,b,none⟩ vat) lab (extL lab w.heap.size 0) t:=fun t ht y hy hyt=>⟨c12.block y hy (by rw [hyt];exact ht),by rw [qJ hy];exact hyt⟩);(have hmem:∀ x,x∈dn++[b]↔x∈dn∨x=b:=fun x=>by rw [List.mem_append,List.mem_singleton]);have hgB:gB<w.heap.size:=(h.rB.own.lt gB rfl).2;(have hgG:gB≠G:=fun e=>by have h1:=h.rB.lb gB rfl;rw [e,h.lG] at h1;omega);refine ⟨?_,fun y hy=>by rw [qJ (by have:=h.chg.size;omega)];exact h.ext y hy,?_,fun q hq=>(h.rP q hq).mv (mv _ (by omega)),fun q hq=>?_,fun q hq=>(h.rT q hq).mv (mv 0 (by omega)),?_,hl1,fun q hq hd=>?_⟩
  · exact ⟨c12.os.trans h.chg.os,c12.tape.trans h.chg.tape,c12.output.trans h.chg.output,Nat.le_trans h.chg.size c12.size,fun y hy hk=>(c12.block y (Nat.lt_of_lt_of_le hy h.chg.size) (fun e=>hk (by
      have e':lab y=3∨lab y=101+2 * b∨lab y=10000+b∨lab y=20:=e;rw [h.ext y hy] at e';show 3≤labA y
      omega))).trans (h.chg.block y hy hk)⟩
  · have h9:(w8.setCell ⟨G,b,none⟩ vat).heap[gB]?=w8.heap[gB]?:=Below.heap_setCell _ _ _ _ hgG;have hlb:∀ g,(Value.slice (some ⟨gB,0,none⟩) F.blocks.length cB).ownBlock=some g→extL lab w.heap.size 0 g=3:=fun g hg=>by
      rw [qJ (h.rB.own.lt g hg).2];exact h.rB.lb g hg
    have heq:∀ x,x≠b→(if x∈dn++[b] then Y x else (blkAt F x).term.arg)=(if x∈dn then Y x else (blkAt F x).term.arg):=fun x hx=>by
      by_cases hd:x∈dn
      · rw [if_pos hd,if_pos ((hmem x).2 (.inl hd))]
      · rw [if_neg hd,if_neg (fun e=>by rcases (hmem x).1 e with h1 | h1;exact hd h1;exact hx h1)]
    have heb:(if b∈dn++[b] then Y b else (blkAt F b).term.arg)=Y b:=if_pos ((hmem b).2 (.inr rfl));rcases hB with hB | ⟨hY,hB⟩
    · have hp:=h.rB.put (b * 5+3) (.int .i64 (Y b));rw [flat_fun_set (sz:=5) (f:=fun x=>bkC (PV x) (IV x) (blkAt F x).term.kind (if x∈dn then Y x else (blkAt F x).term.arg) (TV x)) (f':=fun x=>bkC (PV x) (IV x) (blkAt F x).term.kind (if x∈dn++[b] then Y x else (blkAt F x).term.arg) (TV x)) (fun _=>rfl) (by omega) (by show bkC _ _ _ (if b∈dn++[b] then Y b else (blkAt F b).term.arg) _=_;rw [heb];rfl) (fun x hx=>by show bkC _ _ _ (if x∈dn++[b] then Y x else (blkAt F x).term.arg) _=_;rw [heq x hx]) _ hb] at hp
      exact ⟨qD hp.own (fun g hg=>by
        obtain rfl:gB=g:=Option.some.inj hg
        exact h9.trans hB),hlb⟩
    · have he:((List.range F.blocks.length).flatMap fun x=>bkC (PV x) (IV x) (blkAt F x).term.kind (if x∈dn++[b] then Y x else (blkAt F x).term.arg) (TV x))=(List.range F.blocks.length).flatMap fun x=>bkC (PV x) (IV x) (blkAt F x).term.kind (if x∈dn then Y x else (blkAt F x).term.arg) (TV x):=by
        simp only [List.flatMap_def];(congr 1);refine List.map_congr_left fun x _=>?_
        by_cases hx:x=b
        · subst hx;rw [heb,if_neg hbd,hY]
        · rw [heq x hx]
      rw [he]
      exact ⟨qD h.rB.own (fun g hg=>by
        obtain rfl:gB=g:=Option.some.inj hg
        exact h9.trans hB),hlb⟩
  · by_cases e:q=b
    · subst e;obtain ⟨ys,hy⟩:=hI;refine ⟨ys,?_⟩;rw [if_pos ((hmem q).2 (.inr rfl))];exact hy.chg0' c2 (by omega) (by omega)
    · obtain ⟨ys,hy⟩:=h.rI q hq;refine ⟨ys,?_⟩;have hm:(if q∈dn++[b] then X q else outIs F ph q)=(if q∈dn then X q else outIs F ph q):=by
        by_cases hd:q∈dn
        · rw [if_pos hd,if_pos ((hmem q).2 (.inl hd))]
        · rw [if_neg hd,if_neg (fun e2=>by rcases (hmem q).1 e2 with h1 | h1;exact hd h1;exact e h1)]
      rw [hm];exact hy.mv (mv _ (by omega)) (mv 0 (by omega))
  · (have hr8:w8.rowIs G 28 F.blocks.length (fun q=>if q∈dn then VE q else .slice none 0 0):=h.rG.of_block (hc.block G hG (by rw [h.lG];omega)));refine (hr8.set b vat).congr fun q hq=>?_
    by_cases e:q=b
    · subst e;simp [updF,hmem]
    · (have hm:(q∈dn++[b])↔q∈dn:=by rw [hmem];exact ⟨fun h1=>h1.resolve_right e,.inl⟩);simp only [hm,q7 _ _ e];simp [e]
  · by_cases e:q=b
    · subst e;obtain ⟨al,h1,h2⟩:=hA;exact ⟨al,h1,by rw [qB];exact h2.chg0 c2 (by omega)⟩
    · have hd':q∈dn:=((hmem q).1 hd).resolve_right e;obtain ⟨al,h1,h2⟩:=h.rE q hq hd';exact ⟨al,h1,by rw [q7 _ _ e];exact h2.mv (mv _ (by omega))⟩
def phF (F:FunD) (ph:Nat→List Nat) (A:Nat→Nat→Nat→Int) (b k:Nat):PhiD:=⟨((bsO F ph b+k:Nat):Int),(qF F.blocks b).map fun p=>A b p.toNat ((ph b).getD k 0)⟩
def phD (y:PhiD × Value):List Value:=[.int .i64 y.1.dst,y.2]
theorem phD_len (y:PhiD × Value):(phD y).length=2:=rfl
structure PhiO (w:World) (K:Nat) (lab:Nat→Nat) (t:Nat) (v:Value) (l:List PhiD) (ys:List (PhiD × Value)):Prop where
  row:LRw w K lab t 52 2 v ys.length (ys.flatMap phD)
  are:ys.map (·.1)=l
  rd:∀ y∈ys,RdV w lab y.2 y.1.args
def ysP (F:FunD) (ph:Nat→List Nat) (A:Nat→Nat→Nat→Int) (b:Nat) (VV:Nat→Value) (i:Nat):List (PhiD × Value) :=
  (List.range (ph b).length).map fun q=>if q<i then (phF F ph A b q,VV q) else (⟨((bsO F ph b+q:Nat):Int),[]⟩,.slice none 0 0)
theorem ysP_zero (F:FunD) (ph:Nat→List Nat) (A:Nat→Nat→Nat→Int) (b:Nat) (VV:Nat→Value):(ysP F ph A b VV 0).flatMap phD=(outPs F ph b).flatMap phC:=by
  unfold ysP outPs;rw [List.flatMap_map,List.flatMap_map]
  rfl
theorem ysP_len (F:FunD) (ph:Nat→List Nat) (A:Nat→Nat→Nat→Int) (b:Nat) (VV:Nat→Value) (i:Nat):(ysP F ph A b VV i).length=(ph b).length:=by unfold ysP;simp
theorem ysP_at {F:FunD} {ph:Nat→List Nat} {A:Nat→Nat→Nat→Int} {b:Nat} {VV:Nat→Value} {i:Nat} (h:i<(ph b).length):(ysP F ph A b VV i)[i]?=some (⟨((bsO F ph b+i:Nat):Int),[]⟩,.slice none 0 0):=by unfold ysP;simp [h]
theorem ysP_set {F:FunD} {ph:Nat→List Nat} {A:Nat→Nat→Nat→Int} {b:Nat} {VV:Nat→Value} {i:Nat} (v:Value):(ysP F ph A b VV i).set i (phF F ph A b i,v)=ysP F ph A b (updF VV i v) (i+1):=by
  unfold ysP;apply List.ext_getElem?;intro q;rw [List.getElem?_set]
  by_cases e:i=q
  · subst e;rw [if_pos rfl]
    by_cases h:i<(ph b).length
    · simp [h,updF]
    · simp [h]
  · rw [if_neg e]
    by_cases h:q<(ph b).length
    · by_cases h1:q<i
      · simp [h,h1,updF,Ne.symm e,Nat.lt_succ_of_lt h1]
      · simp [h,h1,show ¬ q<i+1 by omega]
    · simp [h]
def SP (k:Nat):Prop:=100≤k∧k<10000∧k % 2=0
structure PhS (wA wq:World) (K:Nat) (labB lab:Nat→Nat) (F:FunD) (ph:Nat→List Nat) (A:Nat→Nat→Nat→Int) (PV:Nat→Value) (b:Nat):Prop where
  chg:Chg wA wq labB SP
  ext:∀ y,y<wA.heap.size→lab y=labB y
  old:∀ q,q<b→∃ ys,PhiO wq K lab (100+2 * q) (PV q) ((List.range (ph q).length).map (phF F ph A q)) ys
  new:∀ q,b<q→q<F.blocks.length→LRw wq K lab (100+2 * q) 52 2 (PV q) (ph q).length ((outPs F ph q).flatMap phC)
structure PhI (w:World) (K:Nat) (lab:Nat→Nat) (F:FunD) (ph:Nat→List Nat) (A:Nat→Nat→Nat→Int) (vP:Value) (b:Nat) (VV:Nat→Value) (i:Nat):Prop where
  row:LRw w K lab (100+2 * b) 52 2 vP (ph b).length ((ysP F ph A b VV i).flatMap phD)
  rd:∀ q,q<i→RdV w lab (VV q) (phF F ph A b q).args
section
variable {wA w w':World} {K:Nat} {labB lab lab':Nat→Nat} {F:FunD} {ph:Nat→List Nat} {A:Nat→Nat→Nat→Int} {PV:Nat→Value} {b:Nat} {S:Nat→Prop}
theorem fresh_label (L:Nat→Nat):∀ n,∃ T,20000≤T∧∀ y,y<n→L y<T
  | 0=>⟨20000,Nat.le_refl _,fun y hy=>by omega⟩
  | n+1=>by
    obtain ⟨T,h1,h2⟩:=fresh_label L n;refine ⟨T+L n+1,by omega,fun y hy=>?_⟩
    by_cases e:y=n
    · subst e;omega
    · have:=h2 y (by omega);omega
theorem PhS.mv {T:Nat} (hT:20000≤T) (h:PhS wA w K labB lab F ph A PV b) (hc:Chg w w' lab S) (hl:∀ y,y<w.heap.size→lab y≠T→lab' y=lab y) (he:∀ y,y<wA.heap.size→lab' y=lab y) (hS:∀ k,S k→k=T∨k=100+2 * b) (h40:∀ y,y<wA.heap.size→lab y≠T) (hF:b<F.blocks.length) (hn:F.blocks.length≤500):PhS wA w' K labB lab' F ph A PV b:=by
  have mv:∀ t,t≠T→t≠100+2 * b→Mv w w' lab lab' t:=fun t h1 h2 y hy hyt=>⟨hc.block y hy (by rw [hyt];intro e;rcases hS t e with h | h;exact h1 h;exact h2 h),by rw [hl y hy (by rw [hyt];exact h1)];exact hyt⟩
  refine ⟨⟨hc.os.trans h.chg.os,hc.tape.trans h.chg.tape,hc.output.trans h.chg.output,Nat.le_trans h.chg.size hc.size,fun y hy hk=>(hc.block y (Nat.lt_of_lt_of_le hy h.chg.size) (fun e=>hk (by
      have e':=hS _ e;have h4:=h40 y hy;rw [h.ext y hy] at e' h4;show SP (labB y)
      unfold SP;omega))).trans (h.chg.block y hy hk)⟩,fun y hy=>(he y hy).trans (h.ext y hy),fun q hq=>?_,fun q hq hq2=>(h.new q hq hq2).mv (mv _ (by omega) (by omega))⟩
  obtain ⟨ys,hy⟩:=h.old q hq;exact ⟨ys,hy.row.mv (mv _ (by omega) (by omega)),hy.are,fun y hyy=>(hy.rd y hyy).mv (mv 0 (by omega) (by omega))⟩
end
theorem rB_cell {w:World} {K n g c:Nat} {lab:Nat→Nat} {PV IV TV:Nat→Value} {kd ar:Nat→Int} (h:LRw w K lab 3 43 5 (.slice (some ⟨g,0,none⟩) n c) n ((List.range n).flatMap fun b=>bkC (PV b) (IV b) (kd b) (ar b) (TV b))) {b j:Nat} {u:Value} (hb:b<n) (hj:j<5) (hu:(bkC (PV b) (IV b) (kd b) (ar b) (TV b))[j]?=some u):w.cell? ⟨g,b * 5+j,none⟩=some u:=by
  refine h.cell ?_ (by omega);rw [flat_at (f:=fun b=>bkC (PV b) (IV b) (kd b) (ar b) (TV b)) (sz:=5) (fun _=>rfl) (x:=b) (by simp [hb]) hj];exact hu
def ToldNm (F:FunD) (ph:Nat→List Nat) (X:Nat→List InsD) (Y:Nat→Int) (A:Nat→Nat→Nat→Int) (K:Nat) (lab:Nat→Nat) (vB:Value) (PV IV TV:Nat→Value) (w:World) (e:Ending) (w':World):Prop :=
  e=.returned (.tuple #[])∧Chg w w' lab (fun k=>3≤k)∧∃ lab',(∀ y,y<w.heap.size→lab' y=lab y)∧LRw w' K lab' 3 43 5 vB F.blocks.length ((List.range F.blocks.length).flatMap fun b=>bkC (PV b) (IV b) (blkAt F b).term.kind (Y b) (TV b)) ∧
    (∀ b,b<F.blocks.length→∃ ys,PhiO w' K lab' (100+2 * b) (PV b) ((List.range (ph b).length).map (phF F ph A b)) ys)∧(∀ b,b<F.blocks.length→∃ ys,InsO w' K lab' (101+2 * b) (IV b) (X b) ys)∧(∀ b,b<F.blocks.length→RdV w' lab' (TV b) (blkAt F b).term.to)
set_option maxRecDepth 100000 in
set_option maxHeartbeats 32000000 in
theorem nameArgs_any (wb w:World) (F:FunD) (ph:Nat→List Nat) (AE:Nat→List Int→Prop) (X:Nat→List InsD) (Y:Nat→Int) (A:Nat→Nat→Nat→Int) (K:Nat) (lab:Nat→Nat) (vO vR vB:Value) (PV IV TV:Nat→Value) (YS:Nat→List (InsD × Value)) (Gp Kp:Nat) (Vp:Nat→Value)
    (hN:NmA F ph AE X Y A) (hv:VFun wb vO F) (hp:Gri wb Gp Kp F.blocks.length Vp (fun b=>zs (ph b))) (hb:Below wb.heap.size wb w) (hlow:∀ k,k<wb.heap.size→lab k≤1) (hKw:K≤w.heap.size)
    (hO:OutS w K lab F ph F.blocks.length vB PV IV TV YS)
    (h0:0<F.blocks.length) (hn:F.blocks.length≤500) (hRg:F.regs.length≤1000) (hpar:0≤F.params∧F.params≤F.regs.length)
    (hph:∀ b,b<F.blocks.length→(ph b).length≤300∧∀ r∈ph b,r<F.regs.length) (hl:∀ b∈F.blocks,b.ins.length≤900∧(∀ x∈b.ins,I64 x.dst∧x.dst<F.regs.length∧x.args.length≤1000∧∀ a∈x.args,0≤a∧a<F.regs.length)∧b.term.arg<F.regs.length) :
    Calls Try.prog 20 #[.agg #[.int .i64 F.params,.int .i64 F.result,vR,vB],vO,.slice (some ⟨Gp,0,none⟩) F.blocks.length F.blocks.length] w (ToldNm F ph X Y A K lab vB PV IV TV w):=by
  have hv0:=hv;obtain ⟨Ar,cr,Ab,cb,rfl,hrg,hbk,-,-⟩:=hv;have HV:=Lib.hid hv0;have HBK:=Lib.hid hbk;have HNM:=Lib.hid hN;have HGP:=Lib.hid hp;have HWB:=Lib.hid hb;have HLOW:=Lib.hid hlow;have HKW:=Lib.hid hKw
  have HO:=Lib.hid hO;have HPAR:=Lib.hid hpar;have HPH:=Lib.hid hph;have HL:=Lib.hid hl;obtain ⟨gB,cB,rfl⟩:=hO.rB.form h0;have hmk:=run_make_row' (P:=Try.prog) 60 28 (.slice none 0 0) 24 Try.underlying60 Try.info28 rfl .i64 .i64 F.blocks.length (by omega) (by omega);clear hv0 hrg hbk hN hp hb hlow hKw hO hpar hph hl;(go_enter Try.func20,Try.ntmps20);go_upto_region 1 with fail
  obtain ⟨w1,hw1⟩:∃ w1,w1=(w.alloc (.cells #[.int .i64 F.params,.int .i64 F.result,vR,.slice (some ⟨gB,0,none⟩) F.blocks.length cB] 31)).alloc (.cells #[.int .i64 F.params,.int .i64 F.result,.slice Ar F.regs.length cr,.slice Ab F.blocks.length cb] 31):=⟨_,rfl⟩;(have hbel1:Below w.heap.size w w1:=by rw [hw1];exact ((Below.refl _ w).alloc (Nat.le_refl _) _).alloc (by simp) _);(have b3:w1.heap[w.heap.size]?=some (.cells #[.int .i64 F.params,.int .i64 F.result,vR,.slice (some ⟨gB,0,none⟩) F.blocks.length cB] 31):=by rw [hw1];exact row_old w _ _);(have b4:w1.heap[w.heap.size+1]?=some (.cells #[.int .i64 F.params,.int .i64 F.result,.slice Ar F.regs.length cr,.slice Ab F.blocks.length cb] 31):=by rw [hw1];simpa using heap_alloc_new (w.alloc _) _);(have hs1:w1.heap.size=w.heap.size+2:=by rw [hw1];simp);obtain ⟨N,hN⟩:∃ N,N=w.heap.size:=⟨_,rfl⟩;rw [← hw1];rw [← hN] at b3 b4 hs1 ⊢;have c3:=q5 b4 3
  have HB3:=Lib.hid b3;have HB4:=Lib.hid b4;have HS1:Hid (w1.heap.size=N+2∧N=w.heap.size):=Lib.hid ⟨hs1,hN⟩;have HBL1:=Lib.hid hbel1;clear hw1 hbel1 b3 b4 hs1 hN;(go_upto_region 2 with fail);clear hmk c3;obtain ⟨G,hG⟩:∃ G,G=w1.heap.size:=⟨_,rfl⟩;obtain ⟨w2,hw2⟩:∃ w2,w2=w1.alloc (.cells (madeCells #[.slice none 0 0] F.blocks.length) 28):=⟨_,rfl⟩
  (have hb2:Below w1.heap.size w1 w2:=by rw [hw2];exact (Below.refl _ _).alloc (Nat.le_refl _) _);(have HGR:Hid (w2.rowIs G 28 F.blocks.length (fun _=>.slice none 0 0)):=Lib.hid (by rw [hw2,hG];exact World.rowIs_made w1 _ _ _));(have HGS:Hid (G=N+2∧w2.heap.size=G+1):=Lib.hid ⟨by rw [hG];exact HS1.out.1,by rw [hw2,hG];simp⟩);have HB2:=Lib.hid hb2;have x40:=(q6 hb2) _ _ (q5 HB4.out 0);have x41:=(q6 hb2) _ _ (q5 HB4.out 1);have x42:=(q6 hb2) _ _ (q5 HB4.out 2);have x43:=(q6 hb2) _ _ (q5 HB4.out 3);rw [← hw2,← hG]
  clear hw2 hG hb2;(have HVF:Hid (∀ W,Below w1.heap.size w1 W→VFun W (.agg #[.int .i64 F.params,.int .i64 F.result,.slice Ar F.regs.length cr,.slice Ab F.blocks.length cb]) F):=Lib.hid (fun W hW=>VFun.keep (q6 (HWB.out.trans ((HBL1.out.mono HWB.out.size).trans (hW.mono (by have:=HWB.out.size;have:=HBL1.out.size;omega))))) HV.out));(go_wp2_with fail);refine (nearest_any F _ w2 (HVF.out _ HB2.out) (by omega)).mono ?_;rintro e w3 ⟨⟨H,rfl,hH,hnr,-⟩,hb3⟩;have HB3w:Hid (Below w1.heap.size w1 w3):=Lib.hid (HB2.out.trans (hb3.mono HB2.out.size));(have HGR3:=Lib.hid (HGR.out.of_block (hb3.block G (by have:=HGS.out;omega))));have HNR:=Lib.hid hnr;have HHS:Hid (G<H):=Lib.hid (by have:=HGS.out;omega)
  have x40:=(q6 hb3) _ _ x40;have x41:=(q6 hb3) _ _ x41;have x42:=(q6 hb3) _ _ x42;have x43:=(q6 hb3) _ _ x43;clear hb3 hnr hH;(go_wp2_with fail);refine (order_any F _ w3 (HVF.out _ HB3w.out) (by omega)).mono ?_;rintro e w4 ⟨⟨vO,rfl,ho⟩,hb4⟩;obtain ⟨ln,hln⟩:∃ ln,(qK F.blocks).length=ln:=⟨_,rfl⟩
  rw [hln] at ho;have HLN:=Lib.hid hln;obtain ⟨AO,cO,rfl⟩:=qL ho;have HB4w:Hid (Below w1.heap.size w1 w4):=Lib.hid (HB3w.out.trans (hb4.mono HB3w.out.size));have HGR4:=Lib.hid (HGR3.out.of_block (hb4.block G HGR3.out.lt));have HNR4:=Lib.hid (HNR.out.of_block (hb4.block H HNR.out.lt));have HORD:=Lib.hid ho;(have HOS:Hid (∀ g,(Value.slice AO ln cO).ownBlock=some g→G<g∧g<w4.heap.size):=Lib.hid (fun g hg=>by have h:=ho.lt g hg;have:=HGS.out;have:=HHS.out;have:=HNR.out.lt;omega));have hln1:ln≤1000:=by rw [← hln];exact HNM.out.few
  clear hb4 ho hln x40 x41 x42 x43;obtain ⟨labA,hlabA⟩:∃ labA:Nat→Nat,labA=fun k=>if k<w.heap.size then lab k else if k=G then 20 else 0:=⟨_,rfl⟩;(have hmv:∀ t,Mv w w4 lab labA t:=fun t y hy hl=>⟨(HB4w.out.block y (by have:=HBL1.out.size;omega)).trans (HBL1.out.block y hy),by rw [hlabA];show (if y<w.heap.size then _ else _)=_;rw [if_pos hy];exact hl⟩);have HLA:Hid (labA=fun k=>if k<w.heap.size then lab k else if k=G then 20 else 0):=Lib.hid hlabA;(have HL0:Hid (∀ k,w.heap.size≤k→k≠G→labA k=0):=Lib.hid (fun k h1 h2=>by rw [hlabA];show (if k<w.heap.size then _ else _)=_;rw [if_neg (by omega),if_neg h2]));have HLG:Hid (labA G=20):=Lib.hid (by rw [hlabA];show (if G<w.heap.size then _ else _)=_;rw [if_neg (by have:=HGS.out;have:=HS1.out;omega),if_pos rfl])
  have HN0:Hid (NmS w4 w4 K labA labA F ph AE X Y (.slice (some ⟨gB,0,none⟩) F.blocks.length cB) PV IV TV G (fun _=>.bool false) []):=Lib.hid (by
    refine ⟨FrX.refl _ _,fun _ _=>rfl,(HO.out.rB.mv (hmv 3)),fun b hb=>(HO.out.rP b hb).mv (hmv _),fun b hb=>⟨YS b,(HO.out.rI b hb).mv (hmv _) (hmv 0)⟩,fun b hb=>(HO.out.rT b hb).mv (hmv 0),HGR4.out,HLG.out,fun b hb h=>by cases h⟩)
  (have HWBL:Hid (∀ k,k<wb.heap.size→labA k≤1):=Lib.hid (fun k hk=>by rw [hlabA];show (if k<w.heap.size then _ else _)≤1;rw [if_pos (by have:=HWB.out.size;omega)];exact HLOW.out k hk));(have HWB4:Hid (Below wb.heap.size wb w4):=Lib.hid (HWB.out.trans ((HBL1.out.mono HWB.out.size).trans (HB4w.out.mono (by have:=HWB.out.size;have:=HBL1.out.size;omega)))));(have HXB:Hid (∀ wq,Chg w4 wq labA (fun k=>3≤k)→Below wb.heap.size wb wq∧(∀ y,N≤y→y≠G→y<w4.heap.size→wq.heap[y]?=w4.heap[y]?)):=Lib.hid (fun wq hc=>⟨HWB4.out.trans ⟨hc.os,hc.tape,hc.output,hc.size,fun y hy=>hc.block y (by have:=HWB4.out.size;omega) (by have h1:=HWBL.out y hy;show ¬ 3≤labA y;omega)⟩,fun y h1 h2 h3=>hc.block y h3 (by rw [HL0.out y (by have:=HS1.out;omega) h2];omega)⟩));(have hKw4:K≤w4.heap.size:=by have:=HB4w.out.size;have:=HBL1.out.size;have:=HKW.out;omega);clear hlabA hmv;go_wp2_with fail
  go_loopw [29] (fun s29 wq=>∃ (i:Nat) (lab':Nat→Nat) (VE:Nat→Value),i≤ln∧s29=.int .i64 (i:Int)∧NmS w4 wq K labA lab' F ph AE X Y (.slice (some ⟨gB,0,none⟩) F.blocks.length cB) PV IV TV G VE ((qK F.blocks).take i)) (fun s29 _=>ln - (intOf s29).toNat)
  case atStart=>exact ⟨0,labA,_,Nat.zero_le _,rfl,HN0.out⟩
  case round =>
    obtain ⟨i,lab',VE,hi,rfl,hS⟩:=hrel;have HS:=Lib.hid hS;obtain ⟨hbw,hfx⟩:=HXB.out wr hS.chg;have HBW:=Lib.hid hbw;have HFX:=Lib.hid hfx
    by_cases hil:i<ln
    · obtain ⟨gO,capO,uO,hvO,huO,hcO,-,hKO,hsO⟩:=own_cellD HORD.out hil;(obtain ⟨hAO,-⟩:AO=some ⟨gO,0,none⟩∧cO=capO:=by simpa using hvO);subst hAO;(obtain ⟨b,hbo⟩:∃ b,(qK F.blocks)[i]?=some b:=⟨_,List.getElem?_eq_getElem (by rw [HLN.out];exact hil)⟩);obtain rfl:.int .i64 (b:Int)=uO:=by
        (have h:(((zs (qK F.blocks)).map (Value.int .i64)))[i]?=some (.int .i64 (b:Int)):=by rw [List.getElem?_map,zs,List.getElem?_map,hbo];rfl);rw [h] at huO;exact Option.some.inj huO
      (have hoc:=(World.cell?_of_block (a:=⟨gO,i,none⟩) (hfx gO (by have:=HOS.out gO rfl;have:=HGS.out;omega) (by have:=HOS.out gO rfl;omega) (HOS.out gO rfl).2)).trans hcO);obtain ⟨hbn,hnear⟩:=HNM.out.order i b hbo;(have hb0:(0:Int)≤b:=by omega);(have hb1:(b:Int)<F.blocks.length:=by omega);(have hnc:=(World.cell?_of_block (a:=⟨H,b,none⟩) (hfx H (by have:=HHS.out;have:=HGS.out;omega) (by have:=HHS.out;omega) HNR4.out.lt)).trans (HNR4.out.cell hbn));(have hbN:wr.heap[N+1]?=some (.cells #[.int .i64 F.params,.int .i64 F.result,.slice Ar F.regs.length cr,.slice Ab F.blocks.length cb] 31 (0,0)):=(hfx (N+1) (by omega) (by have:=HGS.out;omega) (by have:=HB4w.out.size;have:=HS1.out;omega)).trans ((HB4w.out.block (N+1) (by have:=HS1.out;omega)).trans HB4.out));(have hbN3:wr.heap[N]?=some (.cells #[.int .i64 F.params,.int .i64 F.result,vR,.slice (some ⟨gB,0,none⟩) F.blocks.length cB] 31 (0,0)):=(hfx N (by omega) (by have:=HGS.out;omega) (by have:=HB4w.out.size;have:=HS1.out;omega)).trans ((HB4w.out.block N (by have:=HS1.out;omega)).trans HB3.out));have x40:=q5 hbN 0;have x41:=q5 hbN 1
      have x42:=q5 hbN 2;have x43:=q5 hbN 3;have HEN:=Lib.hid (entered_any F (.agg #[.int .i64 F.params,.int .i64 F.result,.slice Ar F.regs.length cr,.slice Ab F.blocks.length cb]) wr (VFun.keep (q6 hbw) HV.out) hRg);have HBO:=Lib.hid hbo;have HNE:=Lib.hid hnear;have HBN:=Lib.hid hbN;have HBN3:=Lib.hid hbN3;have HSZ:Hid (w4.heap.size≤wr.heap.size):=Lib.hid hS.chg.size;have hHr:=block_lt_of_cell hnc
      clear hS hbw hfx hvO huO hcO hKO hsO hbo hnear hbN hbN3;(go_upto_if 39 with (go_at_call 41;refine HEN.out.mono ?_;rintro e w5 ⟨⟨G5,rfl,hG5,hr5⟩,hb5⟩;have hnc:=(q6 hb5) _ _ hnc;have HG5:=Lib.hid (And.intro hG5 hr5);have HB5:=Lib.hid hb5;clear hG5 hr5 hb5));clear x40 x41 x42 x43 hoc;have hnc5:=hnc;go_cut [10,29] (fun s10 s29 wc=>∃ (Aat:Option Addr) (cat:Nat) (al0:List Int),s29=.int .i64 (i:Int)∧s10=.slice Aat F.regs.length cat∧wc.ownsRow wr.heap.size 3 1 (.slice Aat F.regs.length cat) F.regs.length (al0.map (Value.int .i64))∧al0.length=F.regs.length∧(∀ z∈al0,I64 z)∧(if 0≤nearD F.blocks b then AE (nearD F.blocks b).toNat al0 else al0=entA F.params F.regs.length)∧Below wr.heap.size wr wc)
      case first =>
        by_cases hnb:0≤nearD F.blocks b
        · obtain ⟨j,a,hji,hja,hna⟩:=HNE.out hnb;(have hdn:a∈(qK F.blocks).take i:=List.mem_of_getElem? (i:=j) (by rw [List.getElem?_take,if_pos hji];exact hja));have han:=(HNM.out.order j a hja).1;(have ha0:(0:Int)≤a:=by omega);(have ha1:(a:Int)<F.blocks.length:=by omega);have hge:=(q6 HB5.out) _ _ (HS.out.rG.cell han);rw [if_pos hdn] at hge;obtain ⟨al,hae,hrow⟩:=HS.out.rE a han hdn;obtain ⟨hal,h64⟩:=HNM.out.ae a al hae
          (have HCLO:=Lib.hid (qt al (VE a) w5 (qV (by rw [hal];exact qD hrow.own (fun g hg=>HB5.out.block g (hrow.own.lt g hg).2)) h64) (by omega)));rw [hna] at hnc5;obtain ⟨Ave,cve,hve⟩:=qL hrow.own;rw [hve] at hge HCLO;have HAE:Hid (AE a al∧al.length=F.regs.length∧∀ z∈al,I64 z):=Lib.hid ⟨hae,hal,h64⟩;have HNA:=Lib.hid hna;clear hae hrow hal h64 hve hja hdn hnb;(go_wp2_with (go_at_call 26;refine HCLO.out.mono ?_;rintro e w6 ⟨⟨v6,rfl,ho6⟩,hb6⟩;rw [HAE.out.2.1] at ho6;obtain ⟨A6,c6,rfl⟩:=qL ho6;have HO6:=Lib.hid ho6;have HB6:=Lib.hid hb6;clear ho6 hb6));go_meet
          exact ⟨A6,c6,al,rfl,rfl,z8 HO6.out HB5.out.size,HAE.out.2.1,HAE.out.2.2,by rw [HNA.out,if_pos ha0,Int.toNat_natCast];exact HAE.out.1,HB5.out.trans (HB6.out.mono HB5.out.size)⟩
        · (have hnb':nearD F.blocks b<0:=by omega);(go_wp2_with fail);(go_meet);refine ⟨some ⟨G5,0,none⟩,F.regs.length,entA F.params F.regs.length,rfl,rfl,?_,by simp [entA],fun z hz=>?_,by rw [if_neg (by omega)],HB5.out⟩
          · have h:=rowIs_own HG5.out.2 HG5.out.1 (by omega);unfold entA;rw [List.map_map];exact h
          · unfold entA at hz;obtain ⟨r,hr,rfl⟩:=List.mem_map.1 hz;rw [List.mem_range] at hr;unfold I64;split <;> omega
      case rest =>
        obtain ⟨Aat,cat,al0,rfl,rfl,ho0,hal0,h640,hst0,hbc⟩:=hcut;obtain ⟨labC,hlabC⟩:∃ labC,labC=extL lab' wr.heap.size (10000+b):=⟨_,rfl⟩;have hbnd:b ∉ (qK F.blocks).take i:=fun hm=>by
          obtain ⟨j,hj⟩:=List.getElem?_of_mem hm;rw [List.getElem?_take] at hj
          split at hj
          · rename_i hji;have h1:=(List.getElem?_eq_some_iff.1 hj);have h2:=(List.getElem?_eq_some_iff.1 HBO.out);obtain ⟨h1l,h1e⟩:=h1;obtain ⟨h2l,h2e⟩:=h2;have:=(List.getElem_inj (orderF_nodup F.blocks)).1 (h1e.trans h2e.symm);omega
          · cases hj
        have HBND:=Lib.hid hbnd;(have HSC:Hid (NmS w4 wc K labA labC F ph AE X Y (.slice (some ⟨gB,0,none⟩) F.blocks.length cB) PV IV TV G VE ((qK F.blocks).take i)):=Lib.hid (HS.out.below hbc (fun y hy=>by rw [hlabC];exact qJ hy) hn));(have HAC:Hid (LRw wc K labC (10000+b) 3 1 (.slice Aat F.regs.length cat) F.regs.length ((phAs F ph b al0 0).map (Value.int .i64))):=Lib.hid ⟨z8 ho0 (by have:=HSZ.out;omega),fun g hg=>by rw [hlabC];exact extL_new (ho0.lt g hg).1⟩);have HA0:=Lib.hid (And.intro hal0 (And.intro h640 hst0));(have HLC:Hid (∀ y,y<wr.heap.size→labC y=lab' y):=Lib.hid (fun y hy=>by rw [hlabC];exact qJ hy));obtain ⟨hpl,hpr⟩:=HPH.out b hbn;have hbso:=bsO_le (fun b hb=>(HPH.out b hb).1) (fun b hb=>(HL.out b hb).1) b (by omega);(have hbs2:bsO F ph b≤700000:=by have:=HPAR.out;omega);obtain ⟨Aq,cq,hVq,hsq⟩:=qV (HGP.out.own b hbn) (fun y hy=>by obtain ⟨x,hx,rfl⟩:=zs_mem hy;have:=hpr x hx;unfold I64;omega)
        obtain ⟨hbwc,hfxc⟩:=HXB.out wc HSC.out.chg;have hrow:=(q6 hbwc) _ _ (HGP.out.row.cell hbn);rw [hVq,qP] at hrow;have HSQ:=Lib.hid hsq;have HPR:=Lib.hid hpr;clear hlabC hbnd ho0 hal0 h640 hst0 hbc hpr hsq hVq hbwc hfxc hbso;(go_wp2_with fail);clear hrow
        go_loopw [53] (fun s53 wq=>∃ k:Nat,k≤(ph b).length∧s53=.int .i64 (k:Int)∧NmS w4 wq K labA labC F ph AE X Y (.slice (some ⟨gB,0,none⟩) F.blocks.length cB) PV IV TV G VE ((qK F.blocks).take i)∧LRw wq K labC (10000+b) 3 1 (.slice Aat F.regs.length cat) F.regs.length ((phAs F ph b al0 k).map (Value.int .i64))) (fun s53 _=>(ph b).length - (intOf s53).toNat)
        case atStart=>exact ⟨0,Nat.zero_le _,rfl,HSC.out,HAC.out⟩
        case round =>
          obtain ⟨k,hk,rfl,hS,hA⟩:=hrel;have HSK:=Lib.hid hS;have HAK:=Lib.hid hA;obtain ⟨hbw,hfx⟩:=HXB.out wr hS.chg;(have hbN3:wr.heap[N]?=some (.cells #[.int .i64 F.params,.int .i64 F.result,vR,.slice (some ⟨gB,0,none⟩) F.blocks.length cB] 31 (0,0)):=(hfx N (by omega) (by have:=HGS.out;omega) (by have:=HB4w.out.size;have:=HS1.out;omega)).trans ((HB4w.out.block N (by have:=HS1.out;omega)).trans HB3.out));have x33:=q5 hbN3 3;have y0:wr.cell? ⟨gB,b * 5,none⟩=some (PV b):=by simpa using rB_cell (b:=b) (j:=0) hS.rB hbn (by omega) rfl
          by_cases hkl:k<(ph b).length
          · (obtain ⟨bq,oq,xq,rfl,hxq,hxc,-⟩:=(SInts.keep (q6 hbw) HSQ.out).int (k:=k) (by rw [qP];exact hkl));obtain ⟨r,hr,rfl⟩:=zs_at hxq.out;have hrR:=HPR.out r (List.mem_of_getElem? hr);(have hr0:(0:Int)≤r:=by omega);(have hr1:(r:Int)<F.regs.length:=by omega);(have hk0:(0:Int)≤k:=by omega);(have hk1:(k:Int)<(ph b).length:=by omega);obtain ⟨gP,cP,hPV⟩:=(hS.rP b hbn).form (by omega);have hP:=hS.rP b hbn
            rw [hPV] at y0 hP;have z0:wr.cell? ⟨gP,k * 2,none⟩=some (.int .i64 ((bsO F ph b+k:Nat):Int)):=by
              (have h:=hP.cell (i:=k * 2+0) (u:=.int .i64 ((bsO F ph b+k:Nat):Int)) (by rw [flat_at phC_len (outPs_at hkl) (by omega)];rfl) (by omega));simpa using h
            obtain ⟨gA,cA,hAat⟩:=hA.form (by omega);(obtain ⟨hAat1,-⟩:Aat=some ⟨gA,0,none⟩∧cat=cA:=by simpa using hAat);subst hAat1;(have hal:(phAs F ph b al0 k).length=F.regs.length:=by rw [phAs_len];exact HA0.out.1);obtain ⟨za,hza⟩:∃ za,(phAs F ph b al0 k)[r]?=some za:=⟨_,List.getElem?_eq_getElem (by omega)⟩;(have a1:wr.cell? ⟨gA,r,none⟩=some (.int .i64 za):=hA.cell (by rw [List.getElem?_map,hza];rfl) (by omega));have a2:wr.frozen? ⟨gA,r,none⟩=false:=hA.own.frozenAt r
            have HST:Hid (phAs F ph b al0 (k+1)=(phAs F ph b al0 k).set r ((bsO F ph b+k:Nat):Int)):=Lib.hid (by
              show (phAs F ph b al0 k).set ((ph b).getD k 0) _=_
              rw [List.getD_eq_getElem?_getD,hr];rfl)
            clear hS hA hbw hfx hbN3 hxq hr hPV hP hAat hal hza;go_wp2_with fail
            go_roundw
            case rel =>
              have hcs:=HAK.out.chgPut r (.int .i64 ((bsO F ph b+k:Nat):Int));refine ⟨k+1,by omega,by go_num,HSK.out.mv hcs (fun _ _=>rfl) (fun q e=>by omega) (fun q e=>.inr ⟨by omega,fun b' hb'=>?_⟩) hn,?_⟩
              · intro e2;(have:b=b':=by omega);subst this;exact HBND.out hb'
              · rw [HST.out,List.map_set];exact HAK.out.put r _
            case measure=>simp [intOf];omega
          · (have hkk:k=(ph b).length:=by omega);subst hkk;(have hbN:=(hfx (N+1) (by omega) (by have:=HGS.out;omega) (by have:=HB4w.out.size;have:=HS1.out;omega)).trans ((HB4w.out.block (N+1) (by have:=HS1.out;omega)).trans HB4.out));have x43:=q5 hbN 3;obtain ⟨bb,ob,kb,hAb,hkb,⟨Ap,cp,k0,-⟩,⟨Ai,ci,k1,hsi⟩,⟨k2,-⟩,⟨k3,-⟩,⟨At,ct,k4,-⟩⟩:=HBK.out.at_ hbn;subst hAb;have k0:=(q6 hbw) _ _ k0;have k1:=(q6 hbw) _ _ k1;have k2:=(q6 hbw) _ _ k2
            have k3:=(q6 hbw) _ _ k3;have k4:=(q6 hbw) _ _ k4;obtain ⟨ys,hI⟩:=hS.rI b hbn;rw [if_neg HBND.out] at hI;obtain ⟨Av,cv,hIV⟩:=qL hI.row.own;have hIl:=hI.len;rw [hIl] at hIV;have hib:insB F b=kb.ins:=qb hkb.out;have hol:(outIs F ph b).length=kb.ins.length:=by unfold outIs;rw [List.length_mapIdx,hib]
            (have hta:(blkAt F b).term.arg=kb.term.arg:=by unfold blkAt;rw [List.getD_eq_getElem?_getD,hkb.out];rfl);obtain ⟨hL1,hL2,hL3⟩:=HL.out kb (List.mem_of_getElem? hkb.out);(have z1:wr.cell? ⟨gB,b * 5+1,none⟩=some (.slice Av (outIs F ph b).length cv):=by rw [← hIV];exact rB_cell (b:=b) (j:=1) hS.rB hbn (by omega) rfl);have z3:wr.cell? ⟨gB,b * 5+3,none⟩=some (.int .i64 kb.term.arg):=by
              have h:=rB_cell (b:=b) (j:=3) hS.rB hbn (by omega) rfl;rw [if_neg HBND.out,hta] at h;exact h
            have hdB:Below wr.heap.size wr wr.drew:=(Below.refl _ wr).drew;have HWR:=Lib.hid (And.intro hS.rB (And.intro (hbw.drew) hI));have hpA:(phAs F ph b al0 (ph b).length).length=F.regs.length:=by rw [phAs_len];exact HA0.out.1
            have HNW:=Lib.hid (nameWithin_any wb wr.drew K gB (b * 5) (101+2 * b) (10000+b) cat Aat labC kb.ins (outIs F ph b) ys (phAs F ph b al0 (ph b).length) kb.term.arg kb.term.arg kb.term.kind Av Ap Ai At cv kb.phis.length cp ci kb.term.to.length ct
              z1 z3 (fun j=>hS.rB.own.frozenAt j) (hS.rB.lb gB rfl) ⟨⟨by rw [← hIV];exact hI.row.own,by rw [← hIV];exact hI.row.lb⟩,hI.are,hI.rd⟩ hsi hbw.drew (fun y hy=>by
                rw [HLC.out y (by have:=hbw.size;have:=HSZ.out;have:=HWB4.out.size;omega),HS.out.ext y (by have:=HWB4.out.size;omega)];exact HWBL.out y hy)
              ⟨by rw [hpA];exact hA.own,by rw [hpA];exact hA.lb⟩ (by omega) ⟨by omega,by omega⟩ hol.symm (by omega) (by omega) (phS_i64 HA0.out.2.1 (by omega) _ (by omega)) (fun x hx=>by
                unfold outIs at hx;obtain ⟨q,hq⟩:=List.getElem?_of_mem hx;rw [List.getElem?_mapIdx] at hq;obtain ⟨x0,hx0,rfl⟩:=Option.map_eq_some_iff.1 hq;rw [hib] at hx0;have h:=hL2 x0 (List.mem_of_getElem? hx0);rw [hpA]
                exact ⟨h.2.2.1,h.2.2.2⟩) (fun q x y hx hy=>by
                unfold outIs at hx;rw [List.getElem?_mapIdx,hib,hy] at hx;obtain rfl:=Option.some.inj hx;have h:=hL2 y (List.mem_of_getElem? hy);have hq:=(List.getElem?_eq_some_iff.1 hy).1;have hd:=dsL_le ((insB F b).take q);rw [List.length_take] at hd;rw [hpA];show I64 (if 0≤y.dst then _ else _)∧(0≤(if 0≤y.dst then _ else _:Int)→_)
                by_cases e:0≤y.dst
                · rw [if_pos e];exact ⟨by unfold I64;omega,fun _=>⟨e,h.2.1⟩⟩
                · rw [if_neg e];exact ⟨h.1,fun e2=>absurd e2 e⟩) (Nat.le_trans hKw4 hS.chg.size) (by rw [hpA];exact hL3))
            have HIX:=Lib.hid (And.intro hib (And.intro hta hIV));have hfG:=hS.rG.frozen b;have hcG:=hS.rG.cell hbn;have HSD:=Lib.hid (hS.below hdB (fun _ _=>rfl) hn);clear hS hA hbw hfx hbN3 hbN hkb hsi hI hIl hL1 hL2 hL3 HWR hol hta hib;(go_upto_region 14 with fail);(go_still_tail 10,(by kernel_rfl));change wpList _ _ _ _ _ wr.drew;rw [hpA] at HNW
            have hlG:=HSD.out.lG;have hGl:=HSD.out.rG.lt;go_wp2_with (go_at_call 42;refine HNW.out.mono ?_;rintro e w8 ⟨rfl,hc8,⟨ys8,hI8⟩,hA8,hB8⟩;have hG8:=hc8.block G hGl (by rw [hlG];omega);have s8:=(World.cell?_of_block (a:=⟨G,b,none⟩) hG8).trans hcG;have t8:=(World.frozen?_of_block (a:=⟨G,b,none⟩) hG8).trans hfG;have HC8:=Lib.hid hc8;have HI8:=Lib.hid hI8;have HA8:=Lib.hid hA8;have HB8:=Lib.hid hB8;clear hc8 hI8 hA8 hB8 hG8)
            go_roundw
            case rel =>
              obtain ⟨q1,q2,q3⟩:=HNM.out.step b al0 hbn HA0.out.2.2;rw [HIX.out.1] at q1 q2 q3;rw [HIX.out.2.1] at q3
              refine ⟨i+1,_,_,by omega,by go_num,by
                rw [qC HBO.out]
                exact HSD.out.done hbn HBND.out hn HC8.out ⟨_,by rw [HIX.out.2.2,← q2];exact HI8.out⟩ ⟨_,q1,by have h:=HA8.out;rw [hpA] at h;exact h⟩ (by
                  rcases HB8.out with ⟨h1,h2⟩ | ⟨h1,h2⟩
                  · left;rw [← q3,if_pos h1];exact h2
                  · right;exact ⟨by rw [← q3,if_neg (by omega),HIX.out.2.1],h2⟩)⟩
            case measure=>simp [intOf];omega
    · (have hii:i=ln:=by omega);subst hii;(have htk:(qK F.blocks).take i=qK F.blocks:=List.take_of_length_le (by rw [HLN.out];exact Nat.le_refl _));rw [htk] at hS;(have hbN:wr.heap[N+1]?=some (.cells #[.int .i64 F.params,.int .i64 F.result,.slice Ar F.regs.length cr,.slice Ab F.blocks.length cb] 31 (0,0)):=(hfx (N+1) (by omega) (by have:=HGS.out;omega) (by have:=HB4w.out.size;have:=HS1.out;omega)).trans ((HB4w.out.block (N+1) (by have:=HS1.out;omega)).trans HB4.out));(have hbN3:wr.heap[N]?=some (.cells #[.int .i64 F.params,.int .i64 F.result,vR,.slice (some ⟨gB,0,none⟩) F.blocks.length cB] 31 (0,0)):=(hfx N (by omega) (by have:=HGS.out;omega) (by have:=HB4w.out.size;have:=HS1.out;omega)).trans ((HB4w.out.block N (by have:=HS1.out;omega)).trans HB3.out));have x40:=q5 hbN 0;have x41:=q5 hbN 1;have x42:=q5 hbN 2
      have x43:=q5 hbN 3;have HAH:=Lib.hid (ahead_any F (.agg #[.int .i64 F.params,.int .i64 F.result,.slice Ar F.regs.length cr,.slice Ab F.blocks.length cb]) wr (VFun.keep (q6 hbw) HV.out) (by omega));have HS':=Lib.hid hS;have HBN3:=Lib.hid hbN3;(have HNL:Hid (lab' N=0):=Lib.hid (by rw [hS.ext N (by have:=HB4w.out.size;have:=HS1.out;omega)];exact HL0.out N (by have:=HS1.out;omega) (by have:=HGS.out;omega)));clear hS hbw hfx hbN hbN3;(go_wp2_with (go_at_call 43;refine HAH.out.mono ?_;rintro e w5 ⟨⟨VA,GA,rfl,hGA,hgr⟩,hb5⟩;have HGA:=Lib.hid (And.intro hGA hgr);have HB5:=Lib.hid hb5;clear hGA hgr hb5));clear x40 x41 x42 x43;obtain ⟨labB,hlabB⟩:∃ labB,labB=extL lab' wr.heap.size 0:=⟨_,rfl⟩
      (have HSB:Hid (NmS w4 w5 K labA labB F ph AE X Y (.slice (some ⟨gB,0,none⟩) F.blocks.length cB) PV IV TV G VE (qK F.blocks)):=Lib.hid (HS'.out.below HB5.out (fun y hy=>by rw [hlabB];exact qJ hy) hn));(have HLB:Hid ((∀ y,y<wr.heap.size→labB y=lab' y)∧∀ y,wr.heap.size≤y→labB y=0):=Lib.hid ⟨fun y hy=>by rw [hlabB];exact qJ hy,fun y hy=>by rw [hlabB];exact extL_new hy⟩);(have HBN5:Hid (w5.heap[N]?=some (.cells #[.int .i64 F.params,.int .i64 F.result,vR,.slice (some ⟨gB,0,none⟩) F.blocks.length cB] 31 (0,0))∧labB N=0):=Lib.hid ⟨(HB5.out.block N (qg HBN3.out)).trans HBN3.out,by rw [HLB.out.1 N (qg HBN3.out)];exact HNL.out⟩);obtain ⟨hbw5,-⟩:=HXB.out w5 HSB.out.chg;have HBW5:=Lib.hid hbw5
      have HW5L:Hid (∀ k,k<wb.heap.size→labB k≤1):=Lib.hid (fun k hk=>by
        have h1:=HWB4.out.size;have h2:=HS'.out.chg.size
        rw [HLB.out.1 k (by omega),HS'.out.ext k (by omega)];exact HWBL.out k hk)
      have HDN:Hid (∀ b,b<F.blocks.length→b∈qK F.blocks):=Lib.hid HNM.out.all;have hP0:PhS w5 w5 K labB labB F ph A PV 0:=⟨FrX.refl _ _,fun _ _=>rfl,fun q hq=>by omega,fun q hq hq2=>HSB.out.rP q hq2⟩;have hR0:LRw w5 K labB (100+2 * 0) 52 2 (PV 0) (ph 0).length ((outPs F ph 0).flatMap phC):=HSB.out.rP 0 h0;have HP0:=Lib.hid (And.intro hP0 hR0);obtain ⟨T,hT1,hT2⟩:=fresh_label labB w5.heap.size;have HT:=Lib.hid (And.intro hT1 hT2);clear hlabB hbw5 hP0 hR0 hT2
      go_loopw [91] (fun s91 wq=>∃ (b:Nat) (lab:Nat→Nat),b≤F.blocks.length∧s91=.int .i64 (b:Int)∧PhS w5 wq K labB lab F ph A PV b∧(b<F.blocks.length→LRw wq K lab (100+2 * b) 52 2 (PV b) (ph b).length ((outPs F ph b).flatMap phC))∧(∀ y,lab y≠T)) (fun s91 _=>F.blocks.length - (intOf s91).toNat)
      case atStart=>exact ⟨0,labB,Nat.zero_le _,rfl,HP0.out.1,fun _=>HP0.out.2,fun y=>by
        by_cases hy:y<w5.heap.size
        · have:=HT.out.2 y hy;omega
        · rw [HLB.out.2 y (by have:=HB5.out.size;omega)];omega⟩
      case round =>
        obtain ⟨b,lab3,hbl,rfl,hS3,hR3,h40⟩:=hrel;have HS3:=Lib.hid hS3;have HR3:=Lib.hid hR3;have H40:=Lib.hid h40
        by_cases hbn:b<F.blocks.length
        · (have hb0:(0:Int)≤b:=by omega);(have hb1:(b:Int)<F.blocks.length:=by omega);have hfx:∀ y,y<w5.heap.size→¬ SP (labB y)→wr.heap[y]?=w5.heap[y]?:=fun y hy hs=>hS3.chg.block y hy hs;have HFX:=Lib.hid hfx;(have hga:=(World.cell?_of_block (a:=⟨GA,b,none⟩) (hfx GA HGA.out.2.row.lt (by rw [HLB.out.2 GA HGA.out.1];unfold SP;omega))).trans (HGA.out.2.row.cell hbn));obtain ⟨AV,cV,hVA⟩:=qL (HGA.out.2.own b hbn);obtain ⟨la,hla⟩:∃ la,(qF F.blocks (b:Nat)).length=la:=⟨_,rfl⟩;(have hla1:la≤500:=by rw [← hla];have:=aheadK_len F.blocks 0 (b:Nat);unfold qF;omega);rw [hVA] at hga
          have HLAA:=Lib.hid hla;have hgp:wr.cell? ⟨Gp,b,none⟩=some (Vp b):=by
            have h1:=HGP.out.row.lt;have h2:=HBW5.out.size;have h3:=HWB4.out.size;exact (World.cell?_of_block (a:=⟨Gp,b,none⟩) (hfx Gp (by omega) (by have h4:=HW5L.out Gp h1;unfold SP;omega))).trans ((q6 HBW5.out) _ _ (HGP.out.row.cell hbn))
          obtain ⟨hpl,hpr⟩:=HPH.out b hbn;(obtain ⟨Aq,cq,hVq,hsq⟩:=qV (HGP.out.own b hbn) (fun y hy=>by obtain ⟨x,hx,rfl⟩:=zs_mem hy;have:=hpr x hx;unfold I64;omega));rw [hVq,qP] at hgp;have HSQ:=Lib.hid hsq;have HPR:=Lib.hid hpr;have HVA:=Lib.hid hVA;have hbso:=bsO_le (fun b hb=>(HPH.out b hb).1) (fun b hb=>(HL.out b hb).1) b (by omega);(have hbs2:bsO F ph b≤700000:=by have:=HPAR.out;omega);have hRb:=hR3 hbn
          (have HI0:Hid (PhI wr K lab3 F ph A (PV b) b (fun _=>.bool false) 0):=Lib.hid ⟨by rw [ysP_zero];exact hRb,fun q hq=>by omega⟩);rw [hla] at hga;clear hS3 hR3 h40 hfx hVA hla hpr hsq hVq hbso hRb;(go_wp2_with fail);clear hga hgp
          go_loopw [101] (fun s101 wq=>∃ (i:Nat) (lab4:Nat→Nat) (VV:Nat→Value),i≤(ph b).length∧s101=.int .i64 (i:Int)∧PhS w5 wq K labB lab4 F ph A PV b∧PhI wq K lab4 F ph A (PV b) b VV i∧(∀ y,lab4 y≠T)) (fun s101 _=>(ph b).length - (intOf s101).toNat)
          case atStart=>exact ⟨0,lab3,_,Nat.zero_le _,rfl,HS3.out,HI0.out,H40.out⟩
          case round =>
            obtain ⟨i,lab4,VV,hi,rfl,hS4,hI4,h44⟩:=hrel;have HS4:=Lib.hid hS4;have HI4:=Lib.hid hI4;have H44:=Lib.hid h44;have hfx:∀ y,y<w5.heap.size→¬ SP (labB y)→wr.heap[y]?=w5.heap[y]?:=fun y hy hs=>hS4.chg.block y hy hs
            by_cases hil:i<(ph b).length
            · (have hbx:Below wb.heap.size wb wr:=HBW5.out.trans ⟨hS4.chg.os,hS4.chg.tape,hS4.chg.output,hS4.chg.size,fun y hy=>hS4.chg.block y (by have:=HBW5.out.size;omega) (by have h4:=HW5L.out y hy;show ¬ SP (labB y);unfold SP;omega)⟩);(obtain ⟨bq,oq,xq,rfl,hxq,hxc,-⟩:=(SInts.keep (q6 hbx) HSQ.out).int (k:=i) (by rw [qP];exact hil));obtain ⟨r,hr,rfl⟩:=zs_at hxq.out;have hrR:=HPR.out r (List.mem_of_getElem? hr);(have hr0:(0:Int)≤r:=by omega);(have hr1:(r:Int)<F.regs.length:=by omega);(have hi0:(0:Int)≤i:=by omega);(have hi1:(i:Int)<(ph b).length:=by omega);have hn3:=q5 ((hfx N (qg HBN5.out.1) (by rw [HBN5.out.2];unfold SP;omega)).trans HBN5.out.1) 3
              have hgBl:=(HSB.out.rB.own.lt gB rfl).2;have y0:wr.cell? ⟨gB,b * 5,none⟩=some (PV b):=by
                have h:=rB_cell (b:=b) (j:=0) HSB.out.rB hbn (by omega) rfl;rw [Nat.add_zero] at h;exact (World.cell?_of_block (a:=⟨gB,b * 5,none⟩) (hfx gB hgBl (by rw [HSB.out.rB.lb gB rfl];unfold SP;omega))).trans h
              obtain ⟨gP,cP,hPV⟩:=hI4.row.form (by omega);rw [hPV] at y0;have HPV:=Lib.hid hPV;have HR:=Lib.hid (List.mem_of_getElem? hr);have HRI:Hid ((ph b).getD i 0=r):=Lib.hid (by rw [List.getD_eq_getElem?_getD,hr];rfl)
              have HJ0:Hid (LRw wr K lab4 (100+2 * b) 52 2 (.slice (some ⟨gP,0,none⟩) (ph b).length cP) (ph b).length (((ysP F ph A b VV i).set i (⟨((bsO F ph b+i:Nat):Int),((qF F.blocks (b:Nat)).take 0).map fun p=>A b p.toNat r⟩,.slice none 0 0)).flatMap phD)):=Lib.hid (by
                have h:=hI4.row;rw [hPV] at h;have he:(ysP F ph A b VV i).set i (⟨((bsO F ph b+i:Nat):Int),((qF F.blocks (b:Nat)).take 0).map fun p=>A b p.toNat r⟩,.slice none 0 0)=ysP F ph A b VV i:=by
                  apply List.ext_getElem?;intro q;rw [List.getElem?_set]
                  by_cases e:i=q
                  · subst e;rw [if_pos rfl,if_pos (by rw [ysP_len];exact hil),ysP_at hil];rfl
                  · rw [if_neg e]
                rw [he];exact h)
              clear hS4 hI4 h44 hfx hbx hxq hr hPV hrR;(go_wp2_with fail);clear hxc hn3 y0;obtain ⟨i0,hi_,hz0_,hz1_,hz2_⟩:=info_parts Try.info3;have HI0_:=Lib.hid (And.intro hi_ (And.intro hz0_ (And.intro hz1_ hz2_)));clear hi_ hz0_ hz1_ hz2_
              go_loopw [116] (fun s116 wq=>∃ (j:Nat) (lab5:Nat→Nat) (v:Value),j≤la∧s116=.int .i64 (j:Int)∧PhS w5 wq K labB lab5 F ph A PV b∧LRw wq K lab5 (100+2 * b) 52 2 (.slice (some ⟨gP,0,none⟩) (ph b).length cP) (ph b).length (((ysP F ph A b VV i).set i (⟨((bsO F ph b+i:Nat):Int),((qF F.blocks (b:Nat)).take j).map fun p=>A b p.toNat r⟩,v)).flatMap phD)∧(∀ q,q<i→RdV wq lab5 (VV q) (phF F ph A b q).args)∧LRw wq K lab5 T 3 1 v j ((((qF F.blocks (b:Nat)).take j).map fun p=>A b p.toNat r).map (Value.int .i64))∧(∀ y,y<w5.heap.size→lab5 y≠T)∧∀ z∈((qF F.blocks (b:Nat)).take j).map fun p=>A b p.toNat r,I64 z) (fun s116 _=>la - (intOf s116).toNat)
              case atStart=>exact ⟨0,lab4,_,Nat.zero_le _,rfl,HS4.out,HJ0.out,HI4.out.rd,LRw.nil _ _ _ _ _ _,fun y _=>H44.out y,fun z hz=>by simp at hz⟩
              case round =>
                obtain ⟨j,lab5,v,hj,rfl,hS5,hR5,hD5,hV5,h45,hz5⟩:=hrel;have HS5:=Lib.hid hS5;have HR5:=Lib.hid hR5;have HD5:=Lib.hid hD5;have HV5:=Lib.hid hV5;have H45:=Lib.hid h45;have HZ5:=Lib.hid hz5
                by_cases hjl:j<la
                · have hfx:∀ y,y<w5.heap.size→¬ SP (labB y)→wr.heap[y]?=w5.heap[y]?:=fun y hy hs=>hS5.chg.block y hy hs;(obtain ⟨gv,cgv,uv,hve,huv,hcv,-,hKv,hsv⟩:=own_cellD (HGA.out.2.own b hbn) (i:=j) (by rw [HLAA.out];exact hjl));rw [HVA.out] at hve;(obtain ⟨hAV,-⟩:AV=some ⟨gv,0,none⟩∧cV=cgv:=by simpa using hve);subst hAV;(obtain ⟨pz,hpz⟩:∃ pz,(qF F.blocks (b:Nat))[j]?=some pz:=⟨_,List.getElem?_eq_getElem (by rw [HLAA.out];exact hjl)⟩);(obtain rfl:.int .i64 pz=uv:=by rw [List.getElem?_map,hpz] at huv;exact Option.some.inj huv);have hpm:=List.mem_of_getElem? hpz;obtain ⟨hp0,hp1⟩:0≤pz∧pz<F.blocks.length:=by have:=qu F.blocks 0 (b:Nat) pz hpm;simp at this;omega
                  obtain ⟨q,rfl⟩:∃ q:Nat,pz=(q:Int):=⟨pz.toNat,by omega⟩;(have hqn:q<F.blocks.length:=by omega);(have hxp:=(World.cell?_of_block (a:=⟨gv,j,none⟩) (hfx gv hsv (by rw [HLB.out.2 gv (by have:=HGA.out.1;omega)];unfold SP;omega))).trans hcv);have hqd:=HDN.out q hqn;have hGl:=HSB.out.rG.lt;have hgc:wr.cell? ⟨G,q,none⟩=some (VE q):=by
                    have h:=HSB.out.rG.cell hqn;rw [if_pos hqd] at h;exact (World.cell?_of_block (a:=⟨G,q,none⟩) (hfx G hGl (by rw [HSB.out.lG];unfold SP;omega))).trans h
                  obtain ⟨al,hae,hle⟩:=HSB.out.rE q hqn hqd;obtain ⟨ge,ce,hVE⟩:=hle.form (by omega);rw [hVE] at hgc hle;obtain ⟨hall,h64⟩:=HNM.out.ae q al hae;obtain ⟨z,hz⟩:∃ z,al[r]?=some z:=⟨_,List.getElem?_eq_getElem (by omega)⟩;have hgel:=(hle.own.lt ge rfl).2;have hgeL:=hle.lb ge rfl;(have hec:wr.cell? ⟨ge,r,none⟩=some (.int .i64 z):=(World.cell?_of_block (a:=⟨ge,r,none⟩) (hfx ge hgel (by rw [hgeL];unfold SP;omega))).trans (hle.cell (by rw [List.getElem?_map,hz];rfl) (by omega)));have HAZ:Hid (A b q r=z∧I64 z):=Lib.hid ⟨by rw [← HNM.out.phi b q r al hbn hpm HR.out hae];unfold atV;rw [Int.toNat_natCast,List.getD_eq_getElem?_getD,hz];rfl,h64 z (List.mem_of_getElem? hz)⟩
                  obtain ⟨Av,cv,rfl⟩:=qL hV5.own;(have hyi:((ysP F ph A b VV i).set i (⟨((bsO F ph b+i:Nat):Int),((qF F.blocks (b:Nat)).take j).map fun p=>A b p.toNat r⟩,.slice Av j cv))[i]?=some (⟨((bsO F ph b+i:Nat):Int),((qF F.blocks (b:Nat)).take j).map fun p=>A b p.toNat r⟩,.slice Av j cv):=by rw [List.getElem?_set,if_pos rfl,if_pos (by rw [ysP_len];exact hil)]);(have hpc:wr.cell? ⟨gP,i * 2+1,none⟩=some (.slice Av j cv):=hR5.cell (by rw [flat_at phD_len hyi (by omega)];rfl) (by omega));have hpf:wr.frozen? ⟨gP,i * 2+1,none⟩=false:=hR5.own.frozenAt _;have HYI:=Lib.hid hyi;have HTK:Hid (((qF F.blocks (b:Nat)).take (j+1)).map (fun p=>A b p.toNat r)=((qF F.blocks (b:Nat)).take j).map (fun p=>A b p.toNat r)++[z]):=Lib.hid (by rw [qC hpz,List.map_append,List.map_singleton,Int.toNat_natCast,HAZ.out.1]);have hgPl:=hR5.own.lt gP rfl;have hgPL:=hR5.lb gP rfl
                  have HBL:Hid (∀ y,y=gP∨y=G∨y=ge→y<wr.heap.size∧(Value.slice Av j cv).ownBlock≠some y):=Lib.hid (fun y hy=>by
                    have hsz:=hS5.chg.size;have hT1:=HT.out.1;(refine ⟨by rcases hy with h | h | h <;> omega,fun e=>?_⟩);have h1:=hV5.lb y e;rcases hy with rfl | rfl | rfl
                    · rw [hgPL] at h1;omega
                    · rw [hS5.ext y hGl,HSB.out.lG] at h1;omega
                    · rw [hS5.ext y hgel,hgeL] at h1;omega)
                  (have hq0:(0:Int)≤q:=by omega);(have hj0:(0:Int)≤j:=by omega);(have hj1:(j:Int)<la:=by omega);clear hS5 hR5 hD5 hV5 h45 hz5 hfx hve huv hcv hpz hpm hqd hae hle hVE hall h64 hz hyi hgPL hgeL;(go_upto_region 27 with fail);have hS0:wr.drew.cell? ⟨gP,i * 2+1,none⟩=some (.slice Av j cv)∧wr.drew.cell? ⟨G,q,none⟩=some (.slice (some ⟨ge,0,none⟩) F.regs.length ce)∧wr.drew.cell? ⟨ge,r,none⟩=some (.int .i64 z):=⟨hpc,hgc,hec⟩;clear hxp;refine qI (L:=16) (S:=fun w':World=>w'.cell? ⟨gP,i * 2+1,none⟩=some (.slice Av j cv)∧w'.cell? ⟨G,q,none⟩=some (.slice (some ⟨ge,0,none⟩) F.regs.length ce)∧w'.cell? ⟨ge,r,none⟩=some (.int .i64 z)) (by kernel_rfl) (by rfl) (by kernel_rfl) (by kernel_rfl) ?_;change wpAnyH _ _ _ _ _ _ _ _ (World.drew _)
                  refine tk 0 120 hS0 ?_;simp only [Act.put,aS,List.set_cons_zero,List.set_cons_succ];refine tk 1 121 hS0 ?_;simp only [Act.put,aS,List.set_cons_zero,List.set_cons_succ];refine tk 2 122 hS0 ?_;simp only [Act.put,aS,List.set_cons_zero,List.set_cons_succ];refine tk 3 123 hS0 ?_;simp only [Act.put,aS,List.set_cons_zero,List.set_cons_succ];refine tk 4 124 hS0 ?_
                  simp only [Act.put,aS,List.set_cons_zero,List.set_cons_succ];refine tk 5 125 hS0 ?_;simp only [Act.put,aS,List.set_cons_zero,List.set_cons_succ];refine tk 6 126 hS0 ?_;simp only [Act.put,aS,List.set_cons_zero,List.set_cons_succ];refine tk 7 127 hS0 ?_;simp only [Act.put,aS,List.set_cons_zero,List.set_cons_succ];refine tk 8 128 hS0 ?_;simp only [Act.put,aS,List.set_cons_zero,List.set_cons_succ]
                  refine tk 9 129 hS0 ?_;simp only [Act.put,aS,List.set_cons_zero,List.set_cons_succ];refine tk 10 130 hS0 ?_;simp only [Act.put,aS,List.set_cons_zero,List.set_cons_succ];refine tk 11 131 hS0 ?_;simp only [Act.put,aS,List.set_cons_zero,List.set_cons_succ];refine oneH (i:=12) (by kernel_rfl) (fun o ho K' hK=>?_);(simp only [List.getElem?_toArray,List.getElem?_cons_zero,List.getElem?_cons_succ,Option.some.injEq] at ho;subst ho);go_simp
                  have hb8:Below wr.heap.size wr (wr.alloc (.cells #[.int .i64 z] 3)).drew:=((Below.refl _ wr).alloc (Nat.le_refl _) _).drew;refine hK.out _ _ ⟨(hb8.cell (p:=⟨gP,i * 2+1,none⟩) (HBL.out gP (.inl rfl)).1).trans hpc,(hb8.cell (p:=⟨G,q,none⟩) (HBL.out G (.inr (.inl rfl))).1).trans hgc,(hb8.cell (p:=⟨ge,r,none⟩) (HBL.out ge (.inr (.inr rfl))).1).trans hec⟩ ?_;clear hK K';refine oneH (i:=13) (by kernel_rfl) (fun o ho K' hK=>?_);(simp only [List.getElem?_toArray,List.getElem?_cons_zero,List.getElem?_cons_succ,Option.some.injEq] at ho;subst ho);refine step_append_lies _ (by rfl) _ _ _ (by rfl) K 3 i0 (.int .i64 0) 1 8 Try.underlying28 HI0_.out.1 HI0_.out.2.1 HI0_.out.2.2.1 HI0_.out.2.2.2 rfl (by decide) (.slice Av j cv) _ _ (by rfl) (HV5.out.own.alloc _)
                    ⟨wr.heap.size,0,none⟩ 1 1 [.int .i64 z] (by rfl) (by rfl) (qf _ #[.int .i64 z] _ (by simp)) (by simp [Value.oneCell']) (by decide) (by unfold maxLen;omega) (by have:=HS5.out.chg.size;have:=HSB.out.chg.size;simp;omega) (by have:=HS5.out.chg.size;have:=HSB.out.chg.size;simp;omega) (wr.heap.size+1) (by simp) ?_
                  intro g' cap w7 hown7 hgrow7 hloc7 hlt7;have hgd:GroD wr w7 (.slice Av j cv) (.slice (some ⟨g',0,none⟩) (j+1) cap):=groD_drew (qU hgrow7 hloc7);have hb7:∀ y,y=gP∨y=G∨y=ge→w7.heap[y]?=wr.heap[y]?:=fun y hy=>hgd.block y (HBL.out y hy).1 (HBL.out y hy).2;have hS7:w7.cell? ⟨gP,i * 2+1,none⟩=some (.slice Av j cv)∧w7.cell? ⟨G,q,none⟩=some (.slice (some ⟨ge,0,none⟩) F.regs.length ce)∧w7.cell? ⟨ge,r,none⟩=some (.int .i64 z):=⟨(World.cell?_of_block (a:=⟨gP,i * 2+1,none⟩) (hb7 gP (.inl rfl))).trans hpc,(World.cell?_of_block (a:=⟨G,q,none⟩) (hb7 G (.inr (.inl rfl)))).trans hgc,(World.cell?_of_block (a:=⟨ge,r,none⟩) (hb7 ge (.inr (.inr rfl)))).trans hec⟩;have hf7:w7.frozen? ⟨gP,i * 2+1,none⟩=false:=(World.frozen?_of_block (a:=⟨gP,i * 2+1,none⟩) (hb7 gP (.inl rfl))).trans hpf;have HGD:=Lib.hid hgd;have HO7:=Lib.hid hown7;refine hK.out _ _ hS7 ?_;clear hK K' hgd hown7 hgrow7 hloc7 hlt7 hb8 hb7 hpc hgc hec hpf
                  (try simp only [Act.put,aS,List.set_cons_zero,List.set_cons_succ]);refine tk 14 134 hS7 ?_;simp only [Act.put,aS,List.set_cons_zero,List.set_cons_succ];refine tk 15 135 hS7 ?_;simp only [Act.put,aS,List.set_cons_zero,List.set_cons_succ];refine wpAnyH_done (by kernel_rfl) ?_ _;refine lastH (by decide) (fun o ho K' hK=>?_);(simp only [List.getElem?_toArray,List.getElem?_cons_zero,List.getElem?_cons_succ,Option.some.injEq] at ho;subst ho);have hcp7:=hS7.1
                  (go_simp);refine hK.out _ _ ?_;clear hK K' hS7 hS0 hf7 hcp7;go_wp2_with fail
                  go_roundw
                  case rel =>
                    have hT1:=HT.out.1;have hc7:Chg wr w7 lab5 (fun k=>k=T):=HV5.out.chgGro HGD.out;have hR7:LRw w7 K (extL lab5 wr.heap.size T) (100+2 * b) 52 2 (.slice (some ⟨gP,0,none⟩) (ph b).length cP) (ph b).length _:=HR5.out.chg hc7 (by omega);(have hV7:=HV5.out.gro (xs':=(((qF F.blocks (b:Nat)).take (j+1)).map fun p=>A b p.toNat r).map (Value.int .i64)) HGD.out (by rw [HTK.out,List.map_append];exact HO7.out));have hcs:=hR7.chgPut (i * 2+1) (.slice (some ⟨g',0,none⟩) (j+1) cap);have hR8:=hR7.put (i * 2+1) (.slice (some ⟨g',0,none⟩) (j+1) cap);rw [flat_set phD_len HYI.out (by omega) (x':=(⟨((bsO F ph b+i:Nat):Int),((qF F.blocks (b:Nat)).take (j+1)).map fun p=>A b p.toNat r⟩,.slice (some ⟨g',0,none⟩) (j+1) cap)) rfl,List.set_set] at hR8;have hcc:Chg wr (w7.setCell ⟨gP,i * 2+1,none⟩ (.slice (some ⟨g',0,none⟩) (j+1) cap)) lab5 (fun k=>k=T∨k=100+2 * b):=(Chg.mono hc7 fun k e=>.inl e).then_ (Chg.mono hcs fun k e=>.inr e);refine ⟨j+1,extL lab5 wr.heap.size T,_,by omega,by go_num,HS5.out.mv hT1 hcc (fun y hy _=>qJ hy) (fun y hy=>qJ (by have:=HS5.out.chg.size;omega)) (fun k e=>e) H45.out hbn hn,hR8,fun q' hq'=>((HD5.out q' hq').chg hc7 (by omega)).chg0 hcs (by omega),hV7.chg0 hcs (by omega),fun y hy=>by rw [qJ (by have:=HS5.out.chg.size;omega)];exact H45.out y hy,fun z' hz'=>?_⟩
                    rw [HTK.out,List.mem_append,List.mem_singleton] at hz';rcases hz' with h1 | h1
                    · exact HZ5.out z' h1
                    · rw [h1];exact HAZ.out.2
                  case measure=>simp [intOf];omega
                · (have hjj:(qF F.blocks (b:Nat)).take j=qF F.blocks (b:Nat):=List.take_of_length_le (by rw [HLAA.out];omega));(have hjl2:j=la:=by omega);subst hjl2;(have hfull:(⟨((bsO F ph b+i:Nat):Int),(qF F.blocks (b:Nat)).map fun p=>A b p.toNat r⟩:PhiD)=phF F ph A b i:=by unfold phF;rw [HRI.out]);rw [hjj] at hR5 hV5 hz5;rw [hfull,ysP_set] at hR5;(have hal:((qF F.blocks (b:Nat)).map fun p=>A b p.toNat r).length=j:=by rw [List.length_map];exact HLAA.out);have HR6:=Lib.hid hR5;have HV6:=Lib.hid hV5
                  have HZ6:=Lib.hid hz5;have HAL:=Lib.hid hal;have HFL:=Lib.hid hfull;clear hS5 hR5 hD5 hV5 h45 hz5 hjj hal hfull;go_wp2_with fail
                  go_roundw
                  case rel =>
                    have hT1:=HT.out.1;refine ⟨i+1,relL lab5 T,updF VV i v,by omega,by go_num,HS5.out.mv hT1 (S:=fun _=>False) (FrX.refl _ _) (fun y hy hne=>if_neg hne) (fun y hy=>if_neg (H45.out y hy)) (fun k e=>e.elim) H45.out hbn hn,⟨by rw [HPV.out];exact HR6.out.rel (by omega),fun q hq=>?_⟩,fun y e=>?_⟩
                    · by_cases e:q=i
                      · subst e;rw [qB];(have h:=RdV.of_own (l:=(qF F.blocks (b:Nat)).map fun p=>A b p.toNat r) (by have h2:=HV6.out.rel0;rw [← HAL.out] at h2;exact h2) HZ6.out);have hf:=congrArg PhiD.args HFL.out;rw [← hf];exact h
                      · rw [q7 _ _ e];exact (HD5.out q (by omega)).rel (by omega)
                    · unfold relL at e
                      split at e
                      · omega
                      · rename_i hne;exact hne e
                  case measure=>simp [intOf];omega
            · (have hii:i=(ph b).length:=by omega);subst hii;clear hS4 hI4 h44 hfx;go_wp2_with fail
              go_roundw
              case rel =>
                refine ⟨b+1,lab4,by omega,by go_num,⟨HS4.out.chg,HS4.out.ext,fun q hq=>?_,fun q h1 h2=>HS4.out.new q (by omega) h2⟩,fun hb2=>HS4.out.new (b+1) (by omega) hb2,H44.out⟩
                by_cases e:q=b
                · subst e;refine ⟨ysP F ph A q VV (ph q).length,by rw [ysP_len];exact HI4.out.row,?_,fun y hy=>?_⟩
                  · unfold ysP;rw [List.map_map];refine List.map_congr_left fun x hx=>?_;show (if x<(ph q).length then _ else _:PhiD × Value).1=_;rw [if_pos (List.mem_range.1 hx)]
                  · unfold ysP at hy;obtain ⟨x,hx,rfl⟩:=List.mem_map.1 hy;rw [if_pos (List.mem_range.1 hx)];exact HI4.out.rd x (List.mem_range.1 hx)
                · exact HS4.out.old q (by omega)
              case measure=>simp [intOf];omega
        · (have hbb:b=F.blocks.length:=by omega);subst hbb;clear hS3 hR3 h40;(go_wp2_with fail);(go_end0);have hsz:=HSB.out.chg.size;have hsz1:=HB4w.out.size;have hsz2:=HBL1.out.size;have hmv:∀ t,¬ SP t→t<10000→Mv w5 wr labB lab3 t:=fun t ht ht2 y hy hyt=>⟨HS3.out.chg.block y hy (by rw [hyt];exact ht),by rw [HS3.out.ext y hy];exact hyt⟩
          have hin:∀ b,b<F.blocks.length→b∈qK F.blocks:=HDN.out;(have hlw:∀ y,y<w.heap.size→labA y=lab y:=fun y hy=>by rw [HLA.out];show (if y<w.heap.size then _ else _)=_;rw [if_pos hy]);have hl5:∀ y,y<w.heap.size→labB y=lab y:=fun y hy=>by
            have h2:=HS'.out.chg.size;rw [HLB.out.1 y (by omega),HS'.out.ext y (by omega)];exact hlw y hy
          refine ⟨rfl,?_,lab3,fun y hy=>by rw [HS3.out.ext y (by omega)];exact hl5 y hy,?_,fun q hq=>HS3.out.old q hq,fun q hq=>?_,fun q hq=>(HSB.out.rT q hq).mv (hmv 0 (by unfold SP;omega) (by omega))⟩
          · (refine ⟨HS3.out.chg.os.trans (HSB.out.chg.os.trans (HB4w.out.os.trans HBL1.out.os)),HS3.out.chg.tape.trans (HSB.out.chg.tape.trans (HB4w.out.tape.trans HBL1.out.tape)),HS3.out.chg.output.trans (HSB.out.chg.output.trans (HB4w.out.output.trans HBL1.out.output)),by have:=HS3.out.chg.size;omega,fun y hy hk=>?_⟩);have hk':¬ 3≤lab y:=hk;exact (HS3.out.chg.block y (by omega) (by show ¬ SP (labB y);rw [hl5 y hy];unfold SP;omega)).trans ((HSB.out.chg.block y (by omega) (by show ¬ 3≤labA y;rw [hlw y hy];exact hk')).trans ((HB4w.out.block y (by omega)).trans (HBL1.out.block y hy)))
          · (have h:=HSB.out.rB.mv (hmv 3 (by unfold SP;omega) (by omega)));have he:((List.range F.blocks.length).flatMap fun b=>bkC (PV b) (IV b) (blkAt F b).term.kind (if b∈qK F.blocks then Y b else (blkAt F b).term.arg) (TV b))=(List.range F.blocks.length).flatMap fun b=>bkC (PV b) (IV b) (blkAt F b).term.kind (Y b) (TV b):=by
              simp only [List.flatMap_def];(congr 1);exact List.map_congr_left fun x hx=>by rw [if_pos (hin x (List.mem_range.1 hx))]
            rw [he] at h;exact h
          · obtain ⟨ys,hy⟩:=HSB.out.rI q hq;rw [if_pos (hin q hq)] at hy;exact ⟨ys,hy.mv (hmv _ (by unfold SP;omega) (by omega)) (hmv 0 (by unfold SP;omega) (by omega))⟩
end Go.Proofs.Ytfoggldjjnabcaa
