/- The program's outline. -/
import Derived.Test.YtfoggldjjnabcaaSpecJ
import Derived.Test.YtfoggldjjnabcaaGrYJ
import Derived.Test.YtfoggldjjnabcaaInfBJ
import Derived.Test.YtfoggldjjnabcaaGrNmJ
import Derived.Test.YtfoggldjjnabcaaAheadJ
import Derived.Test.YtfoggldjjnabcaaInsBJ
import Derived.Deep.RegionHeld3
import Derived.Deep.DeepCutAuto
namespace Go.Proofs.Ytfoggldjjnabcaa
open Go.ChangeShapes Go.WideShapes Go.RowKit Go.Deep
set_option linter.unusedVariables false
set_option linter.unusedSimpArgs false
theorem slice_front {w:World} {A:Option Addr} {c:Nat} {xs:List Int} (h:SL w 1 RInt A c xs) {p:Nat} (hp:p≤xs.length) :
    (∀ W,(Instr.slice 28 (.slice A xs.length c) none (some (.int .i64 (p:Int))) none).run Try.prog W=.ok (.slice A p c) W)∧SL w 1 RInt A c (xs.take p):=by
  obtain ⟨h1,⟨h2,h4⟩,h3⟩:=h;have hA:∀ b:Nat,b=0→A.map (·.add b)=A:=fun b hb=>by
    subst hb;rcases Nat.eq_zero_or_pos xs.length with h0 | h0
    · cases A with
      | none=>rfl
      | some a=>obtain ⟨b,o,s⟩:=a;simp [Addr.add]
    · obtain ⟨b,o,rfl,-⟩:=h3 h0;simp [Addr.add]
  refine ⟨fun W=>?_,by simp;omega,⟨h2,h4⟩,fun hp'=>?_⟩
  · rw [run_slice_h W 28 A xs.length c elem_ints .i64 p (by omega) (by omega),size_int];simp only [Result.andThen,sliced,Int.toNat_natCast,Nat.zero_mul,Nat.sub_zero]
    by_cases e:c=0
    · rw [if_pos e]
    · rw [if_neg e,hA 0 rfl]
  · (obtain ⟨b,o,e,hx⟩:=h3 (by simp at hp';omega));exact ⟨b,o,e,fun i x hi=>hx i x (by rw [List.getElem?_take] at hi;split at hi;exact hi;cases hi)⟩
def rgT (F:FunD) (r:Nat):Int:=F.regs.getD r 0
def oldO (F:FunD) (ph:Nat→List Nat) (b:Nat):List Nat:=ph b++dsL (insB F b)
def oldsO (F:FunD) (ph:Nat→List Nat) (b:Nat):List Nat:=List.range F.params.toNat++(List.range b).flatMap (oldO F ph)
def bsO (F:FunD) (ph:Nat→List Nat) (b:Nat):Nat:=F.params.toNat+((List.range b).flatMap (oldO F ph)).length
def outI (F:FunD) (ph:Nat→List Nat) (b i:Nat) (x:InsD):InsD:=⟨x.op,if 0≤x.dst then ((bsO F ph b+(ph b).length+(dsL ((insB F b).take i)).length:Nat):Int) else x.dst,x.args,x.imm,x.fn⟩
def outIs (F:FunD) (ph:Nat→List Nat) (b:Nat):List InsD:=(insB F b).mapIdx (outI F ph b)
def outPs (F:FunD) (ph:Nat→List Nat) (b:Nat):List Int:=(List.range (ph b).length).map fun k=>((bsO F ph b+k:Nat):Int)
def phC (d:Int):List Value:=[.int .i64 d,.slice none 0 0]
theorem phC_len (d:Int):(phC d).length=2:=rfl
def inC (y:InsD × Value):List Value:=[.int .i64 y.1.op,.int .i64 y.1.dst,y.2,.int .i64 y.1.imm,.int .i64 y.1.fn]
theorem inC_len (y:InsD × Value):(inC y).length=5:=rfl
def bkC (pv iv:Value) (k a:Int) (tv:Value):List Value:=[pv,iv,.int .i64 k,.int .i64 a,tv]
structure InsO (w:World) (K:Nat) (lab:Nat→Nat) (t:Nat) (v:Value) (l:List InsD) (ys:List (InsD × Value)):Prop where
  row:LRw w K lab t 45 5 v ys.length (ys.flatMap inC)
  are:ys.map (·.1)=l
  rd:∀ y∈ys,RdV w lab y.2 y.1.args
structure OutS (w:World) (K:Nat) (lab:Nat→Nat) (F:FunD) (ph:Nat→List Nat) (q:Nat) (vB:Value) (PV IV TV:Nat→Value) (YS:Nat→List (InsD × Value)):Prop where
  rB:LRw w K lab 3 43 5 vB q ((List.range q).flatMap fun b=>bkC (PV b) (IV b) (blkAt F b).term.kind (blkAt F b).term.arg (TV b))
  rP:∀ b,b<q→LRw w K lab (100+2 * b) 52 2 (PV b) (ph b).length ((outPs F ph b).flatMap phC)
  rI:∀ b,b<q→InsO w K lab (101+2 * b) (IV b) (outIs F ph b) (YS b)
  rT:∀ b,b<q→RdV w lab (TV b) (blkAt F b).term.to
theorem InsO.chg {w w':World} {K t t2:Nat} {lab:Nat→Nat} {S:Nat→Prop} {v:Value} {l:List InsD} {ys:List (InsD × Value)} (h:InsO w K lab t v l ys) (hc:Chg w w' lab S) (h0:¬ S 0) (hn:¬ S t):InsO w' K (extL lab w.heap.size t2) t v l ys :=
  ⟨h.row.chg hc hn,h.are,fun y hy=>(h.rd y hy).chg hc h0⟩
theorem OutS.chg {w w':World} {K q t2:Nat} {lab:Nat→Nat} {S:Nat→Prop} {F:FunD} {ph:Nat→List Nat} {vB:Value} {PV IV TV:Nat→Value} {YS:Nat→List (InsD × Value)} (h:OutS w K lab F ph q vB PV IV TV YS) (hc:Chg w w' lab S) (h0:¬ S 0) (h3:¬ S 3) (hn:∀ b,b<q→¬ S (100+2 * b)∧¬ S (101+2 * b)):OutS w' K (extL lab w.heap.size t2) F ph q vB PV IV TV YS :=
  ⟨h.rB.chg hc h3,fun b hb=>(h.rP b hb).chg hc (hn b hb).1,fun b hb=>(h.rI b hb).chg hc h0 (hn b hb).2,fun b hb=>(h.rT b hb).chg hc h0⟩
structure GbC (w:World) (G:Nat) (p res:Int) (vR vB:Value):Prop where
  c0:w.cell? ⟨G,0,none⟩=some (.int .i64 p)
  c1:w.cell? ⟨G,1,none⟩=some (.int .i64 res)
  c2:w.cell? ⟨G,2,none⟩=some vR
  c3:w.cell? ⟨G,3,none⟩=some vB
  fz:∀ i,w.frozen? ⟨G,i,none⟩=false
theorem GbC.of_block {w w':World} {G:Nat} {p res:Int} {vR vB:Value} (h:GbC w G p res vR vB) (hb:w'.heap[G]?=w.heap[G]?):GbC w' G p res vR vB :=
  ⟨(World.cell?_of_block (a:=⟨G,0,none⟩) hb).trans h.c0,(World.cell?_of_block (a:=⟨G,1,none⟩) hb).trans h.c1,(World.cell?_of_block (a:=⟨G,2,none⟩) hb).trans h.c2,(World.cell?_of_block (a:=⟨G,3,none⟩) hb).trans h.c3,fun i=>(World.frozen?_of_block (a:=⟨G,i,none⟩) hb).trans (h.fz i)⟩
theorem GbC.lt {w:World} {G:Nat} {p res:Int} {vR vB:Value} (h:GbC w G p res vR vB):G<w.heap.size:=block_lt_of_cell h.c0
theorem GbC.set3 {w:World} {G:Nat} {p res:Int} {vR vB:Value} (h:GbC w G p res vR vB) (u:Value):GbC (w.setCell ⟨G,3,none⟩ u) G p res vR u:=by
  (have ne:∀ i j:Nat,i≠j→(⟨G,j,none⟩:Addr)≠⟨G,i,none⟩:=fun i j hij e=>hij (by injection e with _ e2 _;exact e2.symm));exact ⟨by rw [World.cell?_setCell_other _ _ _ _ (ne 0 3 (by decide))];exact h.c0,by rw [World.cell?_setCell_other _ _ _ _ (ne 1 3 (by decide))];exact h.c1,by rw [World.cell?_setCell_other _ _ _ _ (ne 2 3 (by decide))];exact h.c2,World.cell?_setCell_same _ _ _ h.c3,fun i=>by rw [World.frozen?_setCell];exact h.fz i⟩
structure OutL (HT:Nat) (w1 w:World) (G:Nat) (lab:Nat→Nat) (F:FunD) (ph:Nat→List Nat) (q:Nat) (vR vB:Value) (PV IV TV:Nat→Value) (YS:Nat→List (InsD × Value)) (l:List Int):Prop where
  bel:Below w1.heap.size w1 w
  low:∀ k,k<w1.heap.size→lab k=if k+1=w1.heap.size then 5 else if k<HT then 7 else 0
  hG:w1.heap.size≤G
  lG:lab G=1
  gb:GbC w G F.params F.result vR vB
  rR:LRw w w1.heap.size lab 2 3 1 vR l.length (l.map (Value.int .i64))
  o:OutS w w1.heap.size lab F ph q vB PV IV TV YS
section
variable {HT:Nat} {w1 w w':World} {G:Nat} {lab:Nat→Nat} {F:FunD} {ph:Nat→List Nat} {q:Nat} {vR vB:Value} {PV IV TV:Nat→Value} {YS:Nat→List (InsD × Value)} {l:List Int} {S:Nat→Prop} {t:Int} {e:Ending}
theorem OutL.size (h:OutL HT w1 w G lab F ph q vR vB PV IV TV YS l):w1.heap.size≤w.heap.size:=h.bel.size
theorem OutL.low0 (h:OutL HT w1 w G lab F ph q vR vB PV IV TV YS l) {k:Nat} (hk:k+1<w1.heap.size):lab k=if k<HT then 7 else 0:=by rw [h.low k (by omega),if_neg (by omega)]
theorem OutL.lowS (h:OutL HT w1 w G lab F ph q vR vB PV IV TV YS l) {k:Nat} (hk:k<w1.heap.size) (h0:¬ S 0) (h5:¬ S 5) (h7:¬ S 7):¬ S (lab k):=by
  rw [h.low k hk];split
  · exact h5
  · split
    · exact h7
    · exact h0
theorem OutL.chg (h:OutL HT w1 w G lab F ph q vR vB PV IV TV YS l) (hc:Chg w w' lab S) (hS:∀ k,S k→k=4∨k=6∨100+2 * q≤k) (t2:Nat):OutL HT w1 w' G (extL lab w.heap.size t2) F ph q vR vB PV IV TV YS l:=by
  have no:∀ k,¬ (k=4∨k=6∨100+2 * q≤k)→¬ S k:=fun k hk e=>hk (hS k e)
  refine ⟨h.bel.trans ⟨hc.os,hc.tape,hc.output,hc.size,fun k hk=>hc.block k (by have:=h.size;omega) (h.lowS hk (no 0 (by omega)) (no 5 (by omega)) (no 7 (by omega)))⟩,fun k hk=>by rw [qJ (by have:=h.size;omega)];exact h.low k hk,h.hG,by rw [qJ h.gb.lt];exact h.lG,
    h.gb.of_block (hc.block G h.gb.lt (by rw [h.lG];exact no 1 (by omega))),h.rR.chg hc (no 2 (by omega)),h.o.chg hc (no 0 (by omega)) (no 3 (by omega)) fun b hb=>⟨no _ (by omega),no _ (by omega)⟩⟩
theorem OutL.below (h:OutL HT w1 w G lab F ph q vR vB PV IV TV YS l) (hb:Below w.heap.size w w') (t2:Nat):OutL HT w1 w' G (extL lab w.heap.size t2) F ph q vR vB PV IV TV YS l :=
  h.chg (S:=fun _=>False) (Chg.of_below hb) (fun _ e=>e.elim) t2
theorem OutL.ver (h:OutL HT w1 w G lab F ph q vR vB PV IV TV YS l) (ht:ToldVe w w1.heap.size G vR l t e w') :
    e=.returned (.int .i64 (l.length:Int))∧∃ vR',OutL HT w1 w' G (extL lab w.heap.size 2) F ph q vR' vB PV IV TV YS (l++[t])∧Chg w w' lab (fun k=>k=1∨k=2):=by
  obtain ⟨he,v',k7,ko,kf,ho,hown,hfr⟩:=ht;have hP:=h.gb.lt
  have hc:Chg w w' lab (fun k=>k=1∨k=2):=FrX.mono hfr (fun y hy hx=>by
    rcases hx with rfl | hx
    · exact .inl h.lG
    · exact .inr (h.rR.lb y hx))
  have c:=h.gb
  refine ⟨he,v',⟨h.bel.trans ⟨hc.os,hc.tape,hc.output,hc.size,fun k hk=>hc.block k (by have:=h.size;omega) (h.lowS (S:=fun k=>k=1∨k=2) hk (by omega) (by omega) (by omega))⟩,fun k hk=>by rw [qJ (by have:=h.size;omega)];exact h.low k hk,h.hG,by rw [qJ hP];exact h.lG,
    ⟨(ko 0 (by decide)).trans c.c0,(ko 1 (by decide)).trans c.c1,k7,(ko 3 (by decide)).trans c.c3,fun i=>(kf i).trans (c.fz i)⟩,⟨by rw [List.length_append];exact ho,fun g hg=>?_⟩,h.o.chg hc (by omega) (by omega) (fun b hb=>⟨by omega,by omega⟩)⟩,hc⟩
  rcases hown g hg with e | e
  · rw [qJ (h.rR.own.lt g e).2];exact h.rR.lb g e
  · exact extL_new e
end
theorem RdV.of_base {w wq:World} {HT:Nat} {lab:Nat→Nat} {v:Value} {l:List Int} (h:VS w 1 (RIntB (BG HT w)) v l) (hb:Below w.heap.size w wq) (hl:∀ k,HT≤k→k<w.heap.size→lab k=0):RdV wq lab v l:=by
  obtain ⟨A,c,e,h1⟩:=h;exact ⟨A,c,e,SL.imp (fun b o x hx=>⟨⟨hl b hx.1.1 (block_lt_of_cell hx.2.1),hx.1.2.same (hb.block b (block_lt_of_cell hx.2.1))⟩,RInt.keep (q6 hb) _ _ _ hx.2⟩) h1⟩
structure CurB (w:World) (K:Nat) (lab:Nat→Nat) (N8 N9:Nat) (B8:Obj) (k a:Int) (tv vp vi:Value) (F:FunD) (ph:Nat→List Nat) (i j m:Nat) (ys:List (InsD × Value)):Prop where
  b8:w.heap[N8]?=some B8
  l8:lab N8=0
  b9:w.heap[N9]?=some (.cells #[vp,vi,.int .i64 k,.int .i64 a,tv] 43 (0,0))
  l9:lab N9=4
  rP:LRw w K lab (100+2 * i) 52 2 vp j (((outPs F ph i).take j).flatMap phC)
  rI:InsO w K lab (101+2 * i) vi ((outIs F ph i).take m) ys
section
variable {w w':World} {K:Nat} {lab:Nat→Nat} {N8 N9:Nat} {B8:Obj} {k a:Int} {tv vp vi v':Value} {F:FunD} {ph:Nat→List Nat} {i j m:Nat} {ys:List (InsD × Value)} {S:Nat→Prop}
theorem CurB.chg (h:CurB w K lab N8 N9 B8 k a tv vp vi F ph i j m ys) (hc:Chg w w' lab S) (hS:∀ k,S k→k=1∨k=2∨k=3∨k=6) (t2:Nat):CurB w' K (extL lab w.heap.size t2) N8 N9 B8 k a tv vp vi F ph i j m ys:=by
  have no:∀ k,¬ (k=1∨k=2∨k=3∨k=6)→¬ S k:=fun k hk e=>hk (hS k e);have hl8:=qg h.b8;have hl9:=qg h.b9;exact ⟨(hc.block N8 hl8 (by rw [h.l8];exact no 0 (by omega))).trans h.b8,by rw [qJ hl8];exact h.l8,(hc.block N9 hl9 (by rw [h.l9];exact no 4 (by omega))).trans h.b9,by rw [qJ hl9];exact h.l9,h.rP.chg hc (no _ (by omega)),h.rI.chg hc (no 0 (by omega)) (no _ (by omega))⟩
theorem CurB.below (h:CurB w K lab N8 N9 B8 k a tv vp vi F ph i j m ys) (hb:Below w.heap.size w w') (t2:Nat):CurB w' K (extL lab w.heap.size t2) N8 N9 B8 k a tv vp vi F ph i j m ys :=
  h.chg (S:=fun _=>False) (Chg.of_below hb) (fun _ e=>e.elim) t2
theorem CurB.pushP {d:Int} (h:CurB w K lab N8 N9 B8 k a tv vp vi F ph i j m ys) (hg:GroD w w' vp v') (hd:(outPs F ph i)[j]?=some d) (ho:w'.ownsRow K 52 2 v' (j+1) ((((outPs F ph i).take j).flatMap phC)++phC d)) :
    CurB (w'.setCell ⟨N9,0,none⟩ v') K (extL lab w.heap.size (100+2 * i)) N8 N9 B8 k a tv v' vi F ph i (j+1) m ys∧Chg w (w'.setCell ⟨N9,0,none⟩ v') lab (fun q=>q=4∨q=100+2 * i):=by
  have hc:=h.rP.chgGro hg;have hl8:=qg h.b8;have hl9:=qg h.b9;(have hl1:extL lab w.heap.size (100+2 * i) N9=4:=by rw [qJ hl9];exact h.l9);have hc2:Chg w' (w'.setCell ⟨N9,0,none⟩ v') (extL lab w.heap.size (100+2 * i)) (fun q=>q=4):=Chg.set _ hl1 0 v';(have hl98:N8≠N9:=fun e=>by have h1:=h.l8;rw [e,h.l9] at h1;omega);(have hb9:=(hc.block N9 hl9 (by rw [h.l9];omega)).trans h.b9);(refine ⟨⟨(Below.heap_setCell _ _ _ _ hl98).trans ((hc.block N8 hl8 (by rw [h.l8];omega)).trans h.b8),by rw [qJ hl8];exact h.l8,qG v' hb9,hl1,(h.rP.gro (n':=j+1) (xs':=((outPs F ph i).take (j+1)).flatMap phC) hg (by rw [qC hd,List.flatMap_append];simpa using ho)).chg0 hc2 (by omega),(h.rI.chg hc (by omega) (by omega)).row.chg0 hc2 (by omega),h.rI.are,fun y hy=>((h.rI.rd y hy).chg hc (by omega)).chg0 hc2 (by omega)⟩,?_⟩);exact (Chg.mono hc fun q e=>.inr e).then_ (Chg.mono hc2 fun q e=>.inl e)
theorem CurB.pushI {x:InsD} {va:Value} (h:CurB w K lab N8 N9 B8 k a tv vp vi F ph i j m ys) (hg:GroD w w' vi v') (hd:(outIs F ph i)[m]?=some x) (hrd:RdV w lab va x.args) (ho:w'.ownsRow K 45 5 v' (ys.length+1) (ys.flatMap inC++inC (x,va))) :
    CurB (w'.setCell ⟨N9,1,none⟩ v') K (extL lab w.heap.size (101+2 * i)) N8 N9 B8 k a tv vp v' F ph i j (m+1) (ys++[(x,va)])∧Chg w (w'.setCell ⟨N9,1,none⟩ v') lab (fun q=>q=4∨q=101+2 * i):=by
  have hc:=h.rI.row.chgGro hg;have hl8:=qg h.b8;have hl9:=qg h.b9;(have hl1:extL lab w.heap.size (101+2 * i) N9=4:=by rw [qJ hl9];exact h.l9);have hc2:Chg w' (w'.setCell ⟨N9,1,none⟩ v') (extL lab w.heap.size (101+2 * i)) (fun q=>q=4):=Chg.set _ hl1 1 v';(have hl98:N8≠N9:=fun e=>by have h1:=h.l8;rw [e,h.l9] at h1;omega);(have hb9:=(hc.block N9 hl9 (by rw [h.l9];omega)).trans h.b9);(refine ⟨⟨(Below.heap_setCell _ _ _ _ hl98).trans ((hc.block N8 hl8 (by rw [h.l8];omega)).trans h.b8),by rw [qJ hl8];exact h.l8,qG v' hb9,hl1,(h.rP.chg hc (by omega)).chg0 hc2 (by omega),(h.rI.row.gro (n':=(ys++[(x,va)]).length) (xs':=(ys++[(x,va)]).flatMap inC) hg (by rw [List.length_append,List.flatMap_append];simpa using ho)).chg0 hc2 (by omega),by rw [List.map_append,h.rI.are,qC hd];rfl,fun y hy=>?_⟩,(Chg.mono hc fun q e=>.inr e).then_ (Chg.mono hc2 fun q e=>.inl e)⟩);rw [List.mem_append,List.mem_singleton] at hy
  rcases hy with hy | rfl
  · exact ((h.rI.rd y hy).chg hc (by omega)).chg0 hc2 (by omega)
  · exact (hrd.chg hc (by omega)).chg0 hc2 (by omega)
end
theorem OutL.push {HT:Nat} {w1 w w':World} {G N8 N9:Nat} {lab:Nat→Nat} {F:FunD} {ph:Nat→List Nat} {q:Nat} {vR vB v' vp vi tv:Value} {PV IV TV:Nat→Value} {YS:Nat→List (InsD × Value)} {l tl:List Int} {ys:List (InsD × Value)} {B8:Obj} {kd ar:Int}
    (h:OutL HT w1 w G lab F ph q vR vB PV IV TV YS l) (hc:CurB w w1.heap.size lab N8 N9 B8 kd ar tv vp vi F ph q (ph q).length (insB F q).length ys) (hT:RdV w lab tv tl) (hk:(blkAt F q).term=⟨kd,ar,tl⟩) (hg:GroD w w' vB v')
    (ho:w'.ownsRow w1.heap.size 43 5 v' (q+1) (((List.range q).flatMap fun b=>bkC (PV b) (IV b) (blkAt F b).term.kind (blkAt F b).term.arg (TV b))++bkC vp vi kd ar tv)) :
    OutL HT w1 (w'.setCell ⟨G,3,none⟩ v') G (extL lab w.heap.size 3) F ph (q+1) vR v' (updF PV q vp) (updF IV q vi) (updF TV q tv) (updF YS q ys) l:=by
  have c1:=h.o.rB.chgGro hg;(have hl1:extL lab w.heap.size 3 G=1:=by rw [qJ h.gb.lt];exact h.lG);have c2:Chg w' (w'.setCell ⟨G,3,none⟩ v') (extL lab w.heap.size 3) (fun k=>k=1):=Chg.set _ hl1 3 v';have c12:Chg w (w'.setCell ⟨G,3,none⟩ v') lab (fun k=>k=3∨k=1):=(Chg.mono c1 fun k e=>.inl e).then_ (Chg.mono c2 fun k e=>.inr e);have hlp:(outPs F ph q).take (ph q).length=outPs F ph q:=List.take_of_length_le (by simp [outPs]);have hli:(outIs F ph q).take (insB F q).length=outIs F ph q:=List.take_of_length_le (by simp [outIs]);have hcp:=hc.rP;have hci:=hc.rI;rw [hlp] at hcp
  rw [hli] at hci;have hpl:(ph q).length=(ph q).length:=rfl;have e2:((List.range q).flatMap fun b=>bkC (PV b) (IV b) (blkAt F b).term.kind (blkAt F b).term.arg (TV b))++bkC vp vi kd ar tv=(List.range (q+1)).flatMap fun b=>bkC (updF PV q vp b) (updF IV q vi b) (blkAt F b).term.kind (blkAt F b).term.arg (updF TV q tv b):=by
    rw [List.range_succ,List.flatMap_append,List.flatMap_singleton,qB,qB,qB,hk];(congr 1);simp only [List.flatMap_def];(congr 1);exact List.map_congr_left fun b hb=>by have:=List.mem_range.1 hb;rw [q7 _ _ (by omega),q7 _ _ (by omega),q7 _ _ (by omega)]
  rw [e2] at ho
  refine ⟨h.bel.trans ⟨c12.os,c12.tape,c12.output,c12.size,fun k hk=>c12.block k (by have:=h.size;omega) (h.lowS (S:=fun k=>k=3∨k=1) hk (by omega) (by omega) (by omega))⟩,fun k hk=>by rw [qJ (by have:=h.size;omega)];exact h.low k hk,h.hG,hl1,
    (h.gb.of_block (c1.block G h.gb.lt (by rw [h.lG];omega))).set3 v',(h.rR.chg c12 (by omega)),⟨(h.o.rB.gro hg ho).chg0 c2 (by omega),fun b hb=>?_,fun b hb=>?_,fun b hb=>?_⟩⟩
  · by_cases e:b=q
    · subst e;rw [qB];exact hcp.chg c12 (by omega)
    · rw [q7 _ _ e];exact (h.o.rP b (by omega)).chg c12 (by omega)
  · by_cases e:b=q
    · subst e;rw [qB,qB];exact hci.chg c12 (by omega) (by omega)
    · rw [q7 _ _ e,q7 _ _ e];exact (h.o.rI b (by omega)).chg c12 (by omega) (by omega)
  · by_cases e:b=q
    · subst e;rw [qB,hk];exact hT.chg c12 (by omega)
    · rw [q7 _ _ e];exact (h.o.rT b (by omega)).chg c12 (by omega)
theorem LRw.re {w:World} {K t sz n:Nat} {lab lab':Nat→Nat} {ty:TypeId} {v:Value} {xs:List Value} (h:LRw w K lab t ty sz v n xs) (hl:∀ y,lab y≠7→lab' y=lab y) (ht:t≠7):LRw w K lab' t ty sz v n xs :=
  ⟨h.own,fun g hg=>(hl g (by rw [h.lb g hg];exact ht)).trans (h.lb g hg)⟩
theorem RdV.re {w:World} {lab lab':Nat→Nat} {v:Value} {l:List Int} (h:RdV w lab v l) (hl:∀ y,lab y≠7→lab' y=lab y):RdV w lab' v l:=h.go fun y _ hy=>⟨rfl,(hl y (by rw [hy];decide)).trans hy⟩
theorem OutS.re {w:World} {K q:Nat} {lab lab':Nat→Nat} {F:FunD} {ph:Nat→List Nat} {vB:Value} {PV IV TV:Nat→Value} {YS:Nat→List (InsD × Value)} (h:OutS w K lab F ph q vB PV IV TV YS) (hl:∀ y,lab y≠7→lab' y=lab y):OutS w K lab' F ph q vB PV IV TV YS :=
  ⟨h.rB.re hl (by decide),fun b hb=>(h.rP b hb).re hl (by omega),fun b hb=>⟨(h.rI b hb).row.re hl (by omega),(h.rI b hb).are,fun y hy=>((h.rI b hb).rd y hy).re hl⟩,fun b hb=>(h.rT b hb).re hl⟩
def ToldOut (HT:Nat) (F:FunD) (ph:Nat→List Nat) (w:World) (e:Ending) (w':World):Prop :=
  ∃ (K:Nat) (lab:Nat→Nat) (vR vB:Value) (PV IV TV:Nat→Value) (YS:Nat→List (InsD × Value)),e=.returned (.agg #[.int .i64 F.params,.int .i64 F.result,vR,vB])∧w.heap.size≤K∧(∀ k,k<w.heap.size→lab k≤1∧(lab k=0→HT≤k))∧Below w.heap.size w w' ∧
    LRw w' K lab 2 3 1 vR ((oldsO F ph F.blocks.length).map (rgT F)).length (((oldsO F ph F.blocks.length).map (rgT F)).map (Value.int .i64))∧OutS w' K lab F ph F.blocks.length vB PV IV TV YS
theorem outPs_at {F:FunD} {ph:Nat→List Nat} {b j:Nat} (h:j<(ph b).length):(outPs F ph b)[j]?=some ((bsO F ph b+j:Nat):Int):=by unfold outPs;simp [h]
theorem outIs_at {F:FunD} {ph:Nat→List Nat} {b j:Nat} {x:InsD} (h:(insB F b)[j]?=some x):(outIs F ph b)[j]?=some (outI F ph b j x):=by unfold outIs;rw [List.getElem?_mapIdx,h];rfl
theorem olds_len (F:FunD) (ph:Nat→List Nat) (b:Nat):(oldsO F ph b).length=bsO F ph b:=by unfold oldsO bsO;rw [List.length_append,List.length_range]
theorem olds_succ (F:FunD) (ph:Nat→List Nat) (b:Nat):oldsO F ph (b+1)=oldsO F ph b++(ph b++dsL (insB F b)):=by unfold oldsO;rw [List.range_succ,List.flatMap_append];simp [oldO]
theorem dsL_le (l:List InsD):(dsL l).length≤l.length:=by unfold dsL;exact List.length_filterMap_le _ _
theorem bsO_le {F:FunD} {ph:Nat→List Nat} (h1:∀ b,b<F.blocks.length→(ph b).length≤300) (h2:∀ b∈F.blocks,b.ins.length≤900):∀ b,b≤F.blocks.length→bsO F ph b≤F.params.toNat+1200 * b:=by
  intro b
  induction b with
  | zero=>intro _;simp [bsO]
  | succ b ih =>
    intro hb;have hx:F.blocks[b]?=some F.blocks[b]:=List.getElem?_eq_getElem (by omega);have h3:=h1 b (by omega);have h4:=h2 _ (List.mem_of_getElem? hx);have h5:=dsL_le (insB F b);rw [qb hx] at h5;(have h6:bsO F ph (b+1)=bsO F ph b+((ph b).length+(dsL (insB F b)).length):=by unfold bsO;rw [List.range_succ,List.flatMap_append];simp [oldO];omega);rw [h6,qb hx];have:=ih (by omega)
    omega
theorem rgT_at {F:FunD} {r:Nat} (h:r<F.regs.length):F.regs[r]?=some (rgT F r):=by unfold rgT;rw [List.getD_eq_getElem?_getD,List.getElem?_eq_getElem h];rfl
def WcO (w1:World) (p:Nat) (F:FunD) (s:Value) (wc:World):Prop :=
  ∃ g v,s=.pointer (some ⟨g,0,none⟩)∧w1.heap.size≤g∧wc.heap[g]?=some (.cells #[.int .i64 (p:Int),.int .i64 F.result,v,.slice none 0 0] 31 (0,0))∧wc.ownsRow w1.heap.size 3 1 v p ((F.regs.take p).map (Value.int .i64))∧v.ownBlock≠some g∧Below w1.heap.size w1 wc
set_option maxRecDepth 100000 in
set_option maxHeartbeats 16000000 in
theorem outline_any (HT:Nat) (F:FunD) (w:World) (ph:Nat→List Nat) (Gp Kp:Nat) (Vp:Nat→Value) (Ar A:Option Addr) (cr c:Nat) (hr:SL w 1 RInt Ar cr F.regs) (hbs:SL w 5 (RBlkB (BG HT w)) A c F.blocks) (hp:Gri w Gp Kp F.blocks.length Vp (fun b=>zs (ph b))) (hpar:0≤F.params∧F.params≤F.regs.length) (hn:F.blocks.length≤500) (hR:F.regs.length≤1000)
    (hph:∀ b,b<F.blocks.length→(ph b).length≤300∧∀ r∈ph b,r<F.regs.length) (hl:∀ b∈F.blocks,b.ins.length≤900∧∀ x∈b.ins,x.dst<F.regs.length) :
    Calls Try.prog 18 #[.agg #[.int .i64 F.params,.int .i64 F.result,.slice Ar F.regs.length cr,.slice A F.blocks.length c],.slice (some ⟨Gp,0,none⟩) F.blocks.length F.blocks.length] w (ToldOut HT F ph w):=by
  have hrl:=hr.len;obtain ⟨i0,hi_,hz0_,hz1_,hz2_⟩:=info_parts Try.info52;have HI:=Lib.hid (And.intro hi_ (And.intro hz0_ (And.intro hz1_ hz2_)));obtain ⟨j0,hj_,hy0_,hy1_,hy2_⟩:=info_parts Try.info45;have HJ:=Lib.hid (And.intro hj_ (And.intro hy0_ (And.intro hy1_ hy2_)));obtain ⟨k0,hk_,hx0_,hx1_,hx2_⟩:=info_parts Try.info43;have HK0:=Lib.hid (And.intro hk_ (And.intro hx0_ (And.intro hx1_ hx2_)));clear hi_ hz0_ hz1_ hz2_ hj_ hy0_ hy1_ hy2_ hk_ hx0_ hx1_ hx2_;obtain ⟨p,hpp⟩:∃ p:Nat,F.params=(p:Int):=⟨F.params.toNat,by omega⟩
  (have hp1:p≤F.regs.length:=by omega);obtain ⟨hsl,hsf⟩:=slice_front hr hp1;have HSF:=Lib.hid hsf;have HR:=Lib.hid hr;have HBS:=Lib.hid hbs;have HPH:=Lib.hid hph;have HL:=Lib.hid hl;have HGP:=Lib.hid hp;have HPP:=Lib.hid hpp
  have hmf:∀ (fn:Fn) (first cap:Array Value) (w:World),(Instr.makeFunc fn first cap).run Try.prog w=.ok (.func fn first cap) w:=fun _ _ _ _=>rfl;have HMF:=Lib.hid hmf;rw [hpp];clear hr hbs hph hl hp hsf hpar hmf;(go_enter Try.func18,Try.ntmps18);(go_upto_region 1 with fail);obtain ⟨w1,hw1⟩:∃ w1,w1=(w.alloc (.cells #[.int .i64 (p:Int),.int .i64 F.result,.slice Ar F.regs.length cr,.slice A F.blocks.length c] 31)).alloc (.cells #[.int .i64 0,.int .i64 0,.slice none 0 0,.slice none 0 0] 31):=⟨_,rfl⟩;(have hb1:Below w.heap.size w w1:=by rw [hw1];exact ((Below.refl _ w).alloc (Nat.le_refl _) _).alloc (by simp) _);have hN0:w1.heap[w.heap.size]?=some (.cells #[.int .i64 (p:Int),.int .i64 F.result,.slice Ar F.regs.length cr,.slice A F.blocks.length c] 31):=by rw [hw1];exact row_old w _ _
  (have hN1:w1.heap[w.heap.size+1]?=some (.cells #[.int .i64 0,.int .i64 0,.slice none 0 0,.slice none 0 0] 31):=by rw [hw1];simpa using heap_alloc_new (w.alloc (.cells #[.int .i64 (p:Int),.int .i64 F.result,.slice Ar F.regs.length cr,.slice A F.blocks.length c] 31)) (.cells #[.int .i64 0,.int .i64 0,.slice none 0 0,.slice none 0 0] 31));(have hs1:w1.heap.size=w.heap.size+2:=by rw [hw1];simp);obtain ⟨N,hN⟩:∃ N,N=w.heap.size:=⟨_,rfl⟩;rw [← hw1];rw [← hN] at hN0 hN1 hs1 ⊢;have HB1:=Lib.hid hb1;have HN0:=Lib.hid hN0;have HN1:=Lib.hid hN1;have HS1:Hid (w1.heap.size=N+2∧N=w.heap.size):=Lib.hid ⟨hs1,hN⟩
  have c0:=q5 hN0 0;have c1:=q5 hN0 1;have c2:=q5 hN0 2
  have HCL:=Lib.hid (show ∀ w':World,Below w1.heap.size w1 w'→Calls Try.prog 26 #[.slice Ar p cr] w' (fun e w2=>(∃ A2 c2,e=.returned (.slice A2 p c2)∧w2.ownsRow w'.heap.size 3 1 (.slice A2 p c2) p ((F.regs.take p).map (Value.int .i64)))∧Below w1.heap.size w1 w2∧Below w'.heap.size w' w2) from fun w' hb=>by
    (have hlen:(F.regs.take p).length=p:=by simp;omega);have h:=qt (F.regs.take p) _ w' ⟨Ar,cr,rfl,SInts.keep (q6 (HB1.out.trans (hb.mono HB1.out.size))) HSF.out⟩ (by omega);rw [hlen] at h;refine h.mono ?_;rintro e w2 ⟨⟨v2,rfl,ho⟩,hb2⟩;rw [hlen] at ho;obtain ⟨A2,c2,rfl⟩:=qL ho;have hbb:Below w1.heap.size w1 w2:=hb.trans (hb2.mono hb.size)
    exact ⟨⟨A2,c2,rfl,ho⟩,hbb,hb2⟩)
  clear hw1 hb1 hN0 hN1 hs1 hN;go_cut [5] (fun s5 wc=>WcO w1 p F s5 wc)
  case first =>
    have hS:∀ w',Below w1.heap.size w1 w'→w'.cell? ⟨N,0,none⟩=some (.int .i64 (p:Int))∧w'.cell? ⟨N,1,none⟩=some (.int .i64 F.result)∧w'.cell? ⟨N,2,none⟩=some (.slice Ar F.regs.length cr) :=
      fun w' h=>⟨q6 h _ _ c0,q6 h _ _ c1,q6 h _ _ c2⟩
    clear c0 c1 c2;go_region_held3 (fun w'=>w'.cell? ⟨N,0,none⟩=some (.int .i64 (p:Int))∧w'.cell? ⟨N,1,none⟩=some (.int .i64 F.result)∧w'.cell? ⟨N,2,none⟩=some (.slice Ar F.regs.length cr))
      (first
        | (refine hS _ ?_;repeat (first | exact Below.refl _ _ | exact hbX | refine Below.drew ?_ | refine Below.setCell ?_ (by first | omega | (simp;done) | (simp;omega)) _ | refine Below.alloc ?_ (by first | omega | exact hbX.size | (simp;done) | (simp;omega)) _)))
      (first
        | (simp only [hsl];done)
        | (go_at_call 26;refine (HCL.out _ (by repeat first | exact Below.refl _ _ | refine Below.drew ?_ | refine Below.alloc ?_ (by first | exact Nat.le_refl _ | (simp;done) | (simp;omega)) _)).mono ?_;rintro e w2 ⟨⟨A2,c2x,rfl,ho2⟩,hbX,hb2⟩;first | (have hx:w2.heap[w1.heap.size]?=some (.cells #[.int .i64 0,.int .i64 0,.slice none 0 0,.slice none 0 0] 31 (0,0)):=(hb2.block w1.heap.size (by simp)).trans (heap_alloc_new w1 _);have x0:=q5 hx 0;have x1:=q5 hx 1;have x2:=q5 hx 2;have x3:=q5 hx 3;have f0:=q8 hx 0;have f1:=q8 hx 1;have f2:=q8 hx 2;have f3:=q8 hx 3;simp at x0 x1 x2 x3) | skip))
    · (go_wp2_with fail);(go_meet);exact ⟨_,_,rfl,hbX.size,heap_alloc_new _ _,World.ownsRow.alloc (z8 ho2 (Nat.le_refl _)) _,fun e=>by have:=(ho2.lt _ e).2;omega,hbX.alloc hbX.size _⟩
    · (go_wp2_with fail);(go_meet);exact ⟨_,_,rfl,Nat.le_refl _,qT hx _ _ _ _,z8 (own_block ho2 (fun x hxo=>qq _ (by have:=(ho2.lt x hxo).1;simp at this;omega) _ _ _ _)) (by simp),fun e=>by have:=(ho2.lt _ e).1;simp at this;omega,(((hbX.setCell (Nat.le_refl _) _).setCell (Nat.le_refl _) _).setCell (Nat.le_refl _) _).setCell (Nat.le_refl _) _⟩
  case rest =>
    obtain ⟨G,vR,rfl,hGw,hgb,hoR,hneR,hbX⟩:=hcut
    have HO0:Hid (OutL HT w1 wc G (fun k=>if k=G then 1 else if k<w1.heap.size then (if k+1=w1.heap.size then 5 else if k<HT then 7 else 0) else 2) F ph 0 vR (.slice none 0 0) (fun _=>.bool false) (fun _=>.bool false) (fun _=>.bool false) (fun _=>[]) ((oldsO F ph 0).map (rgT F))):=Lib.hid (by
      have hl0:(oldsO F ph 0).map (rgT F)=F.regs.take p:=by
        unfold oldsO;rw [HPP.out,Int.toNat_natCast];apply List.ext_getElem?;intro j
        by_cases hj:j<p
        · simp [hj,rgT,List.getElem?_take,List.getD_eq_getElem?_getD,List.getElem?_eq_getElem (show j<F.regs.length by omega)]
        · simp [hj,List.getElem?_take]
      (have hlp:(F.regs.take p).length=p:=by simp;omega);rw [hl0];refine ⟨hbX,fun k hk=>by rw [if_neg (by omega),if_pos hk],hGw,if_pos rfl,⟨by rw [HPP.out];exact q5 hgb 0,q5 hgb 1,q5 hgb 2,q5 hgb 3,q8 hgb⟩,⟨by rw [hlp];exact hoR,fun g hg=>?_⟩,⟨LRw.nil _ _ _ _ _ _,fun b hb=>by omega,fun b hb=>by omega,fun b hb=>by omega⟩⟩
      rw [if_neg (fun e=>hneR (by rw [hg,e])),if_neg (by have:=(hoR.lt g hg).1;omega)])
    have c3:=q6 hbX _ _ (q5 HN0.out 3);have HC3:Hid (w1.cell? ⟨N,3,none⟩=some (.slice A F.blocks.length c)):=Lib.hid (q5 HN0.out 3);have HC2:Hid (w1.cell? ⟨N,2,none⟩=some (.slice Ar F.regs.length cr)):=Lib.hid (q5 HN0.out 2);have hmf:=HMF.out;clear hgb hoR hneR hbX c0 c1 c2;(go_wp2_with (simp only [hmf]));clear hmf c3
    go_loopw [29] (fun s29 wq=>∃ (i:Nat) (lab:Nat→Nat) (vR vB:Value) (PV IV TV:Nat→Value) (YS:Nat→List (InsD × Value)),i≤F.blocks.length∧s29=.int .i64 (i:Int)∧OutL HT w1 wq G lab F ph i vR vB PV IV TV YS ((oldsO F ph i).map (rgT F))) (fun s29 _=>F.blocks.length - (intOf s29).toNat)
    case atStart=>exact ⟨0,_,_,_,_,_,_,_,Nat.zero_le _,rfl,HO0.out⟩
    case round =>
      obtain ⟨i,lab,vR,vB,PV,IV,TV,YS,hi,rfl,hO⟩:=hrel;have HO:=Lib.hid hO
      by_cases hil:i<F.blocks.length
      · (have hi0:(0:Int)≤i:=by omega);(have hi1:(i:Int)<F.blocks.length:=by omega);have hwb:Below w.heap.size w wr:=HB1.out.trans (hO.bel.mono HB1.out.size);obtain ⟨b,o,kb,rfl,hkb,-,⟨Ap,cp,hphi,-⟩,⟨Ai,ci,hins,hsi⟩,⟨hkd,-⟩,⟨har,-⟩,⟨At,ct,hto,hst⟩⟩:=HBS.out.at_ hil;have hphi:=(q6 hwb) _ _ hphi;have hins:=(q6 hwb) _ _ hins;have hkd:=(q6 hwb) _ _ hkd;have har:=(q6 hwb) _ _ har;have hto:=(q6 hwb) _ _ hto
        have hrow:=HGP.out.row.cell hil;obtain ⟨hpl,hpr⟩:=HPH.out i hil;(obtain ⟨Aq,cq,hVq,hsq⟩:=qV (HGP.out.own i hil) (fun y hy=>by obtain ⟨x,hx,rfl⟩:=zs_mem hy;have:=hpr x hx;unfold I64;omega));rw [hVq,qP] at hrow;have HROW:=Lib.hid hrow;obtain ⟨hill,hidl⟩:=HL.out _ (List.mem_of_getElem? hkb.out);have HID:=Lib.hid hidl;have HSQ:=Lib.hid hsq;have HSI:=Lib.hid hsi
        have HST:=Lib.hid hst;have HPR:=Lib.hid hpr;have HKB:=Lib.hid hkb;have HIB:Hid (insB F i=kb.ins):=Lib.hid (qb hkb.out);clear hO hidl hsq hsi hst hpr hkb hVq;(go_upto_region 7 with fail);clear hphi hins hkd har hto;obtain ⟨B8,hB8⟩:∃ B8:Obj,B8=.cells #[.slice Ap kb.phis.length cp,.slice Ai kb.ins.length ci,.int .i64 kb.term.kind,.int .i64 kb.term.arg,.slice At kb.term.to.length ct] 43 (0,0):=⟨_,rfl⟩;obtain ⟨w4,hw4⟩:∃ w4,w4=(wr.alloc (.cells #[.slice Ap kb.phis.length cp,.slice Ai kb.ins.length ci,.int .i64 kb.term.kind,.int .i64 kb.term.arg,.slice At kb.term.to.length ct] 43)).alloc (.cells #[.slice none 0 0,.slice none 0 0,.int .i64 kb.term.kind,.int .i64 kb.term.arg,.slice At kb.term.to.length ct] 43):=⟨_,rfl⟩
        obtain ⟨N8,hN8⟩:∃ N8,N8=wr.heap.size:=⟨_,rfl⟩;obtain ⟨lab4,HO4,HC4⟩:∃ lab4,Hid (OutL HT w1 w4 G lab4 F ph i vR vB PV IV TV YS ((oldsO F ph i++(ph i).take 0).map (rgT F)))∧Hid (CurB w4 w1.heap.size lab4 N8 (N8+1) B8 kb.term.kind kb.term.arg (.slice At kb.term.to.length ct) (.slice none 0 0) (.slice none 0 0) F ph i 0 0 []):=by
          have h1:=HO.out.below ((Below.refl _ wr).alloc (Nat.le_refl _) (.cells #[.slice Ap kb.phis.length cp,.slice Ai kb.ins.length ci,.int .i64 kb.term.kind,.int .i64 kb.term.arg,.slice At kb.term.to.length ct] 43)) 0;have h2:=h1.below ((Below.refl _ _).alloc (Nat.le_refl _) (.cells #[.slice none 0 0,.slice none 0 0,.int .i64 kb.term.kind,.int .i64 kb.term.arg,.slice At kb.term.to.length ct] 43)) 4;refine ⟨_,Lib.hid (by rw [hw4,List.take_zero,List.append_nil];exact h2),Lib.hid ⟨by rw [hw4,hN8,hB8];exact row_old _ _ _,?_,by rw [hw4,hN8];simpa using heap_alloc_new (wr.alloc _) _,?_,by rw [List.take_zero];exact LRw.nil _ _ _ _ _ _,⟨LRw.nil _ _ _ _ _ _,rfl,fun y hy=>by cases hy⟩⟩⟩
          · rw [hN8,qJ (by simp),extL_new (Nat.le_refl _)]
          · rw [hN8,extL_new (by simp)]
        (have hw48:∀ j,w4.cell? ⟨N8,j,none⟩=#[Value.slice Ap kb.phis.length cp,.slice Ai kb.ins.length ci,.int .i64 kb.term.kind,.int .i64 kb.term.arg,.slice At kb.term.to.length ct][j]?:=fun j=>q5 (by have h:=HC4.out.b8;rwa [hB8] at h) j);have HB8:=Lib.hid hB8;have hrow:=(q6 (HB1.out.trans (HO4.out.bel.mono HB1.out.size))) _ _ HROW.out;rw [← hw4,← hN8];clear hw4 hB8 hN8;(go_wp2_with fail);clear hrow
        go_loopw [42] (fun s42 wq=>∃ (j:Nat) (lab:Nat→Nat) (vR vp:Value),j≤(ph i).length∧s42=.int .i64 (j:Int)∧OutL HT w1 wq G lab F ph i vR vB PV IV TV YS ((oldsO F ph i++(ph i).take j).map (rgT F))∧CurB wq w1.heap.size lab N8 (N8+1) B8 kb.term.kind kb.term.arg (.slice At kb.term.to.length ct) vp (.slice none 0 0) F ph i j 0 []) (fun s42 _=>(ph i).length - (intOf s42).toNat)
        case atStart=>exact ⟨0,lab4,vR,_,Nat.zero_le _,rfl,HO4.out,HC4.out⟩
        case round =>
          obtain ⟨j,lab,vR,vp,hj,rfl,hO,hC⟩:=hrel;have HO:=Lib.hid hO;have HC:=Lib.hid hC;have hwb:Below w.heap.size w wr:=HB1.out.trans (hO.bel.mono HB1.out.size)
          by_cases hjl:j<(ph i).length
          · (obtain ⟨bq,oq,xq,rfl,hxq,hxc,-⟩:=(SInts.keep (q6 hwb) HSQ.out).int (k:=j) (by rw [qP];exact hjl));obtain ⟨r,hr,rfl⟩:=zs_at hxq.out;have hrR:=HPR.out r (List.mem_of_getElem? hr);(have hr0:(0:Int)≤r:=by omega);obtain ⟨Av,cv,rfl⟩:=qL hC.rP.own;have b90:=q5 hC.b9 0;have hbs:=bsO_le (fun b hb=>(HPH.out b hb).1) (fun b hb=>(HL.out b hb).1) i hi;rw [HPP.out,Int.toNat_natCast] at hbs;have hol:((oldsO F ph i++(ph i).take j).map (rgT F)).length=bsO F ph i+j:=by rw [List.length_map,List.length_append,olds_len,List.length_take,Nat.min_eq_left hj]
            (have hol2:((oldsO F ph i++(ph i).take j).map (rgT F)).length≤1000000:=by omega);(have HTK:Hid ((oldsO F ph i++(ph i).take j).map (rgT F)++[rgT F r]=(oldsO F ph i++(ph i).take (j+1)).map (rgT F)):=Lib.hid (by rw [qC hr];simp));have HOd:=Lib.hid (HO.out.below ((Below.refl _ wr).drew) 0);have HCd:=Lib.hid (HC.out.below ((Below.refl _ wr).drew) 0);obtain ⟨labd,hlabd⟩:∃ labd,labd=extL lab wr.heap.size 0:=⟨_,rfl⟩;rw [← hlabd] at HOd HCd;have hbx:=HO.out.bel
            have HVE:=Lib.hid (version_any wr.drew w1.heap.size G N r vR _ F.regs (rgT F r) Ar cr HOd.out.gb.lt HOd.out.size HOd.out.gb.c2 ((q6 hbx.drew) _ _ HC2.out) (by have:=HS1.out;omega) HOd.out.gb.fz (SInts.keep (q6 (HB1.out.trans (hbx.mono HB1.out.size)).drew) HR.out) (rgT_at hrR) (by omega) HOd.out.rR.own
              (fun e=>by have h1:=HOd.out.rR.lb G e;rw [HOd.out.lG] at h1;omega) hol2 (fun g o hA e=>by
                have h1:=HOd.out.rR.lb g e;obtain ⟨bz,oz,xz,hAz,-,hz⟩:=HR.out.at_ (k:=r) hrR;have h2:g<w.heap.size:=by
                  rw [hA] at hAz;simp only [Option.some.injEq,Addr.mk.injEq,and_true] at hAz;rw [hAz.1];exact block_lt_of_cell hz.1
                rw [HOd.out.low0 (by have:=HS1.out;omega)] at h1
                split at h1 <;> omega) (fun e=>by
                have h1:=HOd.out.rR.lb N e;rw [HOd.out.low0 (by have:=HS1.out;omega)] at h1
                split at h1 <;> omega))
            have HBP:=Lib.hid hol;have HRR:=Lib.hid hr;clear hO hC hwb hxq hrR hol hbx hlabd hr;(go_upto_region 10 with fail);have hS0:wr.drew.cell? ⟨N8+1,0,none⟩=some (.slice Av j cv):=b90;clear b90 hxc;refine qI (L:=9) (S:=fun w':World=>w'.cell? ⟨N8+1,0,none⟩=some (.slice Av j cv)) (by kernel_rfl) (by rfl) (by kernel_rfl) (by kernel_rfl) ?_;change wpAnyH _ _ _ _ _ _ _ _ (World.drew _);refine tk 0 46 hS0 ?_
            simp only [Act.put,aS,List.set_cons_zero,List.set_cons_succ];refine tk 1 47 hS0 ?_;simp only [Act.put,aS,List.set_cons_zero,List.set_cons_succ];refine tk 2 48 hS0 ?_;simp only [Act.put,aS,List.set_cons_zero,List.set_cons_succ];refine tk 3 49 hS0 ?_;simp only [Act.put,aS,List.set_cons_zero,List.set_cons_succ];refine oneH (i:=4) (by kernel_rfl) (fun o ho K' hK=>?_);simp only [List.getElem?_toArray,List.getElem?_cons_zero,List.getElem?_cons_succ,Option.some.injEq] at ho;subst ho
            (go_simp);refine HVE.out.mono ?_;rintro e w5 hT;obtain ⟨rfl,vR',hO5,hc5⟩:=HOd.out.ver hT;have hC5:=HCd.out.chg hc5 (fun k hk=>by omega) 2;rw [HTK.out] at hO5;rw [HBP.out];have HO5:=Lib.hid hO5;have HC5:=Lib.hid hC5
            have hS5:w5.cell? ⟨N8+1,0,none⟩=some (.slice Av j cv):=q5 hC5.b9 0;clear hT hO5 hC5 hc5 HVE;dsimp only;refine hK.out _ _ hS5 ?_;clear hK K';(try simp only [Act.put,aS,List.set_cons_zero,List.set_cons_succ]);refine tk 5 51 hS5 ?_;simp only [Act.put,aS,List.set_cons_zero,List.set_cons_succ];refine oneH (i:=6) (by kernel_rfl) (fun o ho K' hK=>?_)
            (simp only [List.getElem?_toArray,List.getElem?_cons_zero,List.getElem?_cons_succ,Option.some.injEq] at ho;subst ho);(go_simp);have hb8:Below w5.heap.size w5 (w5.alloc (.cells #[.int .i64 ((bsO F ph i+j:Nat):Int),.slice none 0 0] 52)):=(Below.refl _ w5).alloc (Nat.le_refl _) _;have hn9:=qg HC5.out.b9;refine hK.out _ _ ((hb8.cell (p:=⟨N8+1,0,none⟩) hn9).trans hS5) ?_;clear hK K';refine oneH (i:=7) (by kernel_rfl) (fun o ho K' hK=>?_);(simp only [List.getElem?_toArray,List.getElem?_cons_zero,List.getElem?_cons_succ,Option.some.injEq] at ho;subst ho);refine step_append_lies _ (by rfl) _ _ _ (by rfl) w1.heap.size 52 i0 (.agg #[.int .i64 0,.slice none 0 0]) 2 32 Try.underlying40 HI.out.1 HI.out.2.1 HI.out.2.2.1 HI.out.2.2.2 (by rfl) (by decide) (.slice Av j cv) _ _ (by rfl) (HC5.out.rP.own.alloc _)
              ⟨w5.heap.size,0,none⟩ 1 1 (phC ((bsO F ph i+j:Nat):Int)) (by rfl) (by rfl) (qf _ #[.int .i64 ((bsO F ph i+j:Nat):Int),.slice none 0 0] _ (by simp)) (by simp [phC,Value.oneCell']) (by decide) (by unfold maxLen;omega) (by have:=HO5.out.size;simp;omega) (by have:=HO5.out.size;simp;omega) (w5.heap.size+1) (by simp) ?_
            intro g' cap w7 hown7 hgrow7 hloc7 hlt7;have HGD:Hid (GroD w5 w7 (.slice Av j cv) (.slice (some ⟨g',0,none⟩) (j+1) cap)):=Lib.hid (qU (w:=w5) hgrow7 hloc7);(have hb9:w7.heap[N8+1]?=w5.heap[N8+1]?:=HGD.out.block _ hn9 (fun e=>by have h1:=HC5.out.rP.lb _ e;rw [HC5.out.l9] at h1;omega));have hS7:w7.cell? ⟨N8+1,0,none⟩=some (.slice Av j cv):=(World.cell?_of_block (a:=⟨N8+1,0,none⟩) hb9).trans hS5;have hfz7:w7.frozen? ⟨N8+1,0,none⟩=false:=(World.frozen?_of_block (a:=⟨N8+1,0,none⟩) hb9).trans (q8 HC5.out.b9 0);have HPU:=Lib.hid (HC5.out.pushP HGD.out (outPs_at hjl) hown7);refine hK.out _ _ hS7 ?_;clear hK K' hb8 hown7 hgrow7 hloc7 hlt7 hb9 hn9;try simp only [Act.put,aS,List.set_cons_zero,List.set_cons_succ]
            refine tk 8 54 hS7 ?_;simp only [Act.put,aS,List.set_cons_zero,List.set_cons_succ];refine wpAnyH_done (by kernel_rfl) ?_ _;refine lastH (by decide) (fun o ho K' hK=>?_);(simp only [List.getElem?_toArray,List.getElem?_cons_zero,List.getElem?_cons_succ,Option.some.injEq] at ho;subst ho);(go_simp);refine hK.out _ _ ?_;clear hK K' hS7 hS0 hS5 hfz7;go_wp2_with fail
            go_roundw
            case rel=>exact ⟨j+1,_,_,_,by omega,by go_num,HO5.out.chg HPU.out.2 (fun k hk=>by omega) _,HPU.out.1⟩
            case measure=>simp [intOf];omega
          · have hjj:(ph i).take j=ph i:=List.take_of_length_le (by omega);(have hjl2:j=(ph i).length:=by omega);subst hjl2;(have b81:wr.cell? ⟨N8,1,none⟩=some (.slice Ai kb.ins.length ci):=by have h:=hC.b8;rw [HB8.out] at h;exact q5 h 1);(have HOJ:Hid (OutL HT w1 wr G lab F ph i vR vB PV IV TV YS ((oldsO F ph i++(ph i++dsL (kb.ins.take 0))).map (rgT F))):=Lib.hid (by have h:=hO;rw [hjj] at h;simpa [dsL] using h));clear hO hC hwb;(go_wp2_with fail);clear b81
            go_loopw [59] (fun s59 wq=>∃ (m:Nat) (lab:Nat→Nat) (vR vi:Value) (ys:List (InsD × Value)),m≤kb.ins.length∧s59=.int .i64 (m:Int)∧OutL HT w1 wq G lab F ph i vR vB PV IV TV YS ((oldsO F ph i++(ph i++dsL (kb.ins.take m))).map (rgT F))∧CurB wq w1.heap.size lab N8 (N8+1) B8 kb.term.kind kb.term.arg (.slice At kb.term.to.length ct) vp vi F ph i (ph i).length m ys) (fun s59 _=>kb.ins.length - (intOf s59).toNat)
            case atStart=>exact ⟨0,lab,vR,_,[],Nat.zero_le _,rfl,HOJ.out,HC.out⟩
            case round =>
              obtain ⟨m,lab,vR,vi,ys,hm,rfl,hO,hC⟩:=hrel;have HO:=Lib.hid hO;have HC:=Lib.hid hC;have hwb:Below w.heap.size w wr:=HB1.out.trans (hO.bel.mono HB1.out.size)
              by_cases hml:m<kb.ins.length
              · obtain ⟨bi,oi,x,rfl,hx,-,⟨h0,-⟩,⟨h1,-⟩,⟨Aa,ca,h2,hs2⟩,⟨h3,-⟩,⟨h4,-⟩⟩:=HSI.out.at_ hml;have h0:=(q6 hwb) _ _ h0;have h1:=(q6 hwb) _ _ h1;have h2:=(q6 hwb) _ _ h2;have h3:=(q6 hwb) _ _ h3;have h4:=(q6 hwb) _ _ h4;have hxd:=HID.out x (List.mem_of_getElem? hx.out);have HX:=Lib.hid hx.out;have HXI:Hid ((insB F i)[m]?=some x):=Lib.hid (by rw [HIB.out];exact hx.out)
                have HS2:=Lib.hid hs2;have hbs:=bsO_le (fun b hb=>(HPH.out b hb).1) (fun b hb=>(HL.out b hb).1) i hi;rw [HPP.out,Int.toNat_natCast] at hbs;have hdl:=dsL_le (kb.ins.take m);rw [List.length_take,Nat.min_eq_left hm] at hdl;(have hol:((oldsO F ph i++(ph i++dsL (kb.ins.take m))).map (rgT F)).length=bsO F ph i+(ph i).length+(dsL (kb.ins.take m)).length:=by rw [List.length_map,List.length_append,List.length_append,olds_len];omega);(have hol2:((oldsO F ph i++(ph i++dsL (kb.ins.take m))).map (rgT F)).length≤1000000:=by omega);obtain ⟨N13,hN13⟩:∃ N13,N13=wr.heap.size:=⟨_,rfl⟩;obtain ⟨wB,hwB⟩:∃ wB,wB=wr.alloc (.cells #[.int .i64 x.op,.int .i64 x.dst,.slice Aa x.args.length ca,.int .i64 x.imm,.int .i64 x.fn] 45):=⟨_,rfl⟩
                (have hbB:Below wr.heap.size wr wB:=by rw [hwB];exact (Below.refl _ _).alloc (Nat.le_refl _) _);(have b13:wB.heap[N13]?=some (.cells #[.int .i64 x.op,.int .i64 x.dst,.slice Aa x.args.length ca,.int .i64 x.imm,.int .i64 x.fn] 45 (0,0)):=by rw [hwB,hN13];exact heap_alloc_new _ _);obtain ⟨labB,HOB,HCB,HL13⟩:∃ labB,Hid (OutL HT w1 wB G labB F ph i vR vB PV IV TV YS ((oldsO F ph i++(ph i++dsL (kb.ins.take m))).map (rgT F)))∧Hid (CurB wB w1.heap.size labB N8 (N8+1) B8 kb.term.kind kb.term.arg (.slice At kb.term.to.length ct) vp vi F ph i (ph i).length m ys)∧Hid (labB N13=6) :=
                  ⟨_,Lib.hid (HO.out.below hbB 6),Lib.hid (HC.out.below hbB 6),Lib.hid (by rw [hN13];exact extL_new (Nat.le_refl _))⟩
                have HB13:=Lib.hid b13;have hbx:=HOB.out.bel
                have HVE:Hid (0≤x.dst→Calls Try.prog 38 #[.int .i64 x.dst,.pointer (some ⟨G,0,none⟩),.pointer (some ⟨N,0,none⟩)] wB (ToldVe wB w1.heap.size G vR ((oldsO F ph i++(ph i++dsL (kb.ins.take m))).map (rgT F)) (rgT F x.dst.toNat))):=Lib.hid (fun hd=>by
                  obtain ⟨r,hr⟩:∃ r:Nat,x.dst=(r:Int):=⟨x.dst.toNat,by omega⟩;(have hrR:r<F.regs.length:=by omega);rw [hr,Int.toNat_natCast];exact version_any wB w1.heap.size G N r vR _ F.regs (rgT F r) Ar cr HOB.out.gb.lt HOB.out.size HOB.out.gb.c2 ((q6 hbx) _ _ HC2.out) (by have:=HS1.out;omega) HOB.out.gb.fz (SInts.keep (q6 (HB1.out.trans (hbx.mono HB1.out.size))) HR.out) (rgT_at hrR) (by omega) HOB.out.rR.own
                    (fun e=>by have h1:=HOB.out.rR.lb G e;rw [HOB.out.lG] at h1;omega) hol2 (fun g o hA e=>by
                      have h1:=HOB.out.rR.lb g e;obtain ⟨bz,oz,xz,hAz,-,hz⟩:=HR.out.at_ (k:=r) hrR;have h2:g<w.heap.size:=by
                        rw [hA] at hAz;simp only [Option.some.injEq,Addr.mk.injEq,and_true] at hAz;rw [hAz.1];exact block_lt_of_cell hz.1
                      rw [HOB.out.low0 (by have:=HS1.out;omega)] at h1
                      split at h1 <;> omega) (fun e=>by
                      have h1:=HOB.out.rR.lb N e;rw [HOB.out.low0 (by have:=HS1.out;omega)] at h1
                      split at h1 <;> omega))
                have HBP:=Lib.hid hol;have xd:=q5 b13 1;clear hO hC hwb hol hol2 hdl hbs hbx hx hs2 hbB;(go_upto_region 15 with fail);rw [← hwB,← hN13];clear h0 h1 h2 h3 h4 hwB hN13 b13;(go_upto_if 65 with fail);go_cut [59] (fun s59 wc=>∃ (lab':Nat→Nat) (vR':Value),s59=.int .i64 (m:Int)∧OutL HT w1 wc G lab' F ph i vR' vB PV IV TV YS ((oldsO F ph i++(ph i++dsL (kb.ins.take (m+1)))).map (rgT F))∧CurB wc w1.heap.size lab' N8 (N8+1) B8 kb.term.kind kb.term.arg (.slice At kb.term.to.length ct) vp vi F ph i (ph i).length m ys∧wc.heap[N13]?=some (.cells #[.int .i64 x.op,.int .i64 (outI F ph i m x).dst,.slice Aa x.args.length ca,.int .i64 x.imm,.int .i64 x.fn] 45 (0,0)))
                case first =>
                  by_cases hd:0≤x.dst
                  · have HV:=Lib.hid (HVE.out hd);have HDL:=Lib.hid (dsL_succ HX.out);(have HDD:Hid ((outI F ph i m x).dst=((bsO F ph i+(ph i).length+(dsL (kb.ins.take m)).length:Nat):Int)):=Lib.hid (by show (if 0≤x.dst then _ else _)=_;rw [if_pos hd,HIB.out]));(go_wp2_with (go_at_call 38;refine HV.out.mono ?_;rintro e w5 hT;obtain ⟨rfl,vR',hO5,hc5⟩:=HOB.out.ver hT;have HO5:=Lib.hid hO5;have HC5:=Lib.hid (HCB.out.chg hc5 (fun k hk=>by omega) 2);have hb5:=(hc5.block N13 (qg HB13.out) (by rw [HL13.out];omega)).trans HB13.out;have x5:=q5 hb5 1;have f5:=q8 hb5 1;have HB5:=Lib.hid hb5;have hl5:extL labB wB.heap.size 2 N13=6:=(qJ (qg HB13.out)).trans HL13.out;have HL5:=Lib.hid hl5;clear hT hO5 hc5 hb5 hl5;rw [HBP.out]));(go_meet);have hcs:∀ u,Chg w5 (w5.setCell ⟨N13,1,none⟩ u) (extL labB wB.heap.size 2) (fun k=>k=6):=fun u=>Chg.set (fun k=>k=6) HL5.out 1 u;refine ⟨extL (extL labB wB.heap.size 2) w5.heap.size 0,vR',rfl,?_,HC5.out.chg (hcs _) (fun k hk=>by omega) 0,?_⟩
                    · have h:=HO5.out.chg (hcs (.int .i64 ((bsO F ph i+(ph i).length+(dsL (kb.ins.take m)).length:Nat):Int))) (fun k hk=>by omega) 0;(have e:(oldsO F ph i++(ph i++dsL (kb.ins.take m))).map (rgT F)++[rgT F x.dst.toNat]=(oldsO F ph i++(ph i++dsL (kb.ins.take (m+1)))).map (rgT F):=by rw [HDL.out,if_pos hd];simp);rw [e] at h;exact h
                    · rw [HDD.out];exact qG _ HB5.out
                  · have HDL:=Lib.hid (dsL_succ HX.out);(have HDD:Hid ((outI F ph i m x).dst=x.dst):=Lib.hid (by show (if 0≤x.dst then _ else _)=_;rw [if_neg hd]));(go_wp2_with fail);(go_meet);(refine ⟨labB,vR,rfl,?_,HCB.out,by rw [HDD.out];exact HB13.out⟩);rw [HDL.out,if_neg (show ¬ 0≤x.dst by omega),List.append_nil];exact HOB.out
                case rest =>
                  obtain ⟨lab',vR',rfl,hO,hC,hb13⟩:=hcut;have HO':=Lib.hid hO;have HC':=Lib.hid hC;have hyl:ys.length=m:=by
                    have h:=congrArg List.length hC.rI.are;rw [List.length_map,List.length_take] at h;rw [h,Nat.min_eq_left];unfold outIs;rw [List.length_mapIdx,HIB.out];exact hm
                  have HYL:=Lib.hid hyl;obtain ⟨Av,cv,rfl⟩:=qL hC.rI.row.own;have b91:=q5 hC.b9 1;have f91:=q8 hC.b9 1;have z0:=q5 hb13 0;have z1:=q5 hb13 1;have z2:=q5 hb13 2;have z3:=q5 hb13 3;have z4:=q5 hb13 4
                  (have HRD:Hid (RdV wc lab' (.slice Aa x.args.length ca) (outI F ph i m x).args):=Lib.hid (RdV.of_base (w:=w) ⟨Aa,ca,rfl,HS2.out⟩ (HB1.out.trans (hO.bel.mono HB1.out.size)) (fun k hkT hk=>by rw [hO.low0 (by have:=HS1.out;omega)];exact if_neg (by omega))));have hn9:=qg hC.b9;clear hO hC hb13 HVE hyl;go_wp2_with (at_builtin;refine wpList_append_lies _ rfl (.tmp 72) (.tmp 74) 41 rfl w1.heap.size 45 j0 (.agg #[.int .i64 0,.int .i64 0,.slice none 0 0,.int .i64 0,.int .i64 0]) 5 56 Try.underlying41 HJ.out.1 HJ.out.2.1 HJ.out.2.2.1 HJ.out.2.2.2 (by rfl) (by decide) _ _ _ rfl (HC'.out.rI.row.own.alloc _) ⟨wc.heap.size,0,none⟩ 1 1 (inC (outI F ph i m x,.slice Aa x.args.length ca)) rfl rfl ?c1 ?c2 (by omega) ?c3 ?c4 ?c5 (wc.heap.size+1) ?c6 ?_)
                  case c1=>first | exact fun j u h=>h | exact qf wc _ _ rfl
                  case c2=>intro y hy;simp only [inC,List.mem_cons,List.not_mem_nil,or_false] at hy;rcases hy with rfl | rfl | rfl | rfl | rfl <;> rfl
                  case c3=>have:=HYL.out;unfold maxLen;omega
                  case c4=>have:=HYL.out;omega
                  case c5=>have:=HO'.out.size;simp;omega
                  (try (case c6=>simp));intro g7 cap7 w7 hown7 hgrow7 hloc7 hlt7;have HGD:Hid (GroD wc w7 (.slice Av ys.length cv) (.slice (some ⟨g7,0,none⟩) (ys.length+1) cap7)):=Lib.hid (qU (w:=wc) hgrow7 (by simpa using hloc7));(have hb9:w7.heap[N8+1]?=wc.heap[N8+1]?:=HGD.out.block _ hn9 (fun e=>by have h1:=HC'.out.rI.row.lb _ e;rw [HC'.out.l9] at h1;omega));have y91:=(World.cell?_of_block (a:=⟨N8+1,1,none⟩) hb9).trans b91;have g91:=(World.frozen?_of_block (a:=⟨N8+1,1,none⟩) hb9).trans f91;have HPU:=Lib.hid (HC'.out.pushI HGD.out (outIs_at HXI.out) HRD.out hown7);clear hown7 hgrow7 hloc7 hlt7 hb9 b91 f91 z0 z1 z2 z3 z4;go_wp2_with fail
                  go_roundw
                  case rel=>exact ⟨m+1,_,vR',_,_,by omega,by go_num,HO'.out.chg HPU.out.2 (fun k hk=>by omega) _,HPU.out.1⟩
                  case measure=>simp [intOf];omega
              · have hmm:kb.ins.take m=kb.ins:=List.take_of_length_le (by omega);(have hml2:m=kb.ins.length:=by omega);subst hml2;(have HOK:Hid (OutL HT w1 wr G lab F ph i vR vB PV IV TV YS ((oldsO F ph (i+1)).map (rgT F))):=Lib.hid (by have h:=hO;rw [hmm] at h;rw [olds_succ,HIB.out];exact h));(have HCK:Hid (CurB wr w1.heap.size lab N8 (N8+1) B8 kb.term.kind kb.term.arg (.slice At kb.term.to.length ct) vp vi F ph i (ph i).length (insB F i).length ys):=Lib.hid (by rw [HIB.out];exact hC));(have HRT:Hid (RdV wr lab (.slice At kb.term.to.length ct) kb.term.to):=Lib.hid (RdV.of_base (w:=w) ⟨At,ct,rfl,HST.out⟩ hwb (fun k hkT hk=>by rw [hO.low0 (by have:=HS1.out;omega)];exact if_neg (by omega))));obtain ⟨Avp,cvp,hvp⟩:=qL hC.rP.own;obtain ⟨Avi,cvi,hvi⟩:=qL hC.rI.row.own;obtain ⟨Ab,cb,rfl⟩:=qL hO.o.rB.own
                have z0:=q5 hC.b9 0;have z1:=q5 hC.b9 1;have z2:=q5 hC.b9 2;have z3:=q5 hC.b9 3;have z4:=q5 hC.b9 4;have g3:=hO.gb.c3;have f3:=hO.gb.fz 3;have hGl:=hO.gb.lt;have HTM:Hid ((blkAt F i).term=⟨kb.term.kind,kb.term.arg,kb.term.to⟩):=Lib.hid (by unfold blkAt;rw [List.getD_eq_getElem?_getD,HKB.out.out];rfl)
                subst hvp hvi;clear hO hC hwb HO HC;go_wp2_with (at_builtin;refine wpList_append_lies _ rfl (.tmp 79) (.tmp 81) 29 rfl w1.heap.size 43 k0 (.agg #[.slice none 0 0,.slice none 0 0,.int .i64 0,.int .i64 0,.slice none 0 0]) 5 88 Try.underlying29 HK0.out.1 HK0.out.2.1 HK0.out.2.2.1 HK0.out.2.2.2 (by rfl) (by decide) _ _ _ rfl (HOK.out.o.rB.own.alloc _) ⟨wr.heap.size,0,none⟩ 1 1 (bkC (.slice Avp (ph i).length cvp) (.slice Avi ys.length cvi) kb.term.kind kb.term.arg (.slice At kb.term.to.length ct)) rfl rfl ?c1 ?c2 (by omega) ?c3 ?c4 ?c5 (wr.heap.size+1) ?c6 ?_)
                case c1=>first | exact fun j u h=>h | exact qf wr _ _ rfl
                case c2=>intro y hy;simp only [bkC,List.mem_cons,List.not_mem_nil,or_false] at hy;rcases hy with rfl | rfl | rfl | rfl | rfl <;> rfl
                case c3=>unfold maxLen;omega
                case c4=>omega
                case c5=>have:=HOK.out.size;simp;omega
                (try (case c6=>simp));intro g7 cap7 w7 hown7 hgrow7 hloc7 hlt7;have HGD:Hid (GroD wr w7 (.slice Ab i cb) (.slice (some ⟨g7,0,none⟩) (i+1) cap7)):=Lib.hid (qU (w:=wr) hgrow7 (by simpa using hloc7));(have hbG:w7.heap[G]?=wr.heap[G]?:=HGD.out.block _ hGl (fun e=>by have h1:=HOK.out.o.rB.lb _ e;rw [HOK.out.lG] at h1;omega));have y3:=(World.cell?_of_block (a:=⟨G,3,none⟩) hbG).trans g3;have fy3:=(World.frozen?_of_block (a:=⟨G,3,none⟩) hbG).trans f3;have HPU:=Lib.hid (HOK.out.push HCK.out HRT.out HTM.out HGD.out hown7);clear hown7 hgrow7 hloc7 hlt7 hbG g3 f3 z0 z1 z2 z3 z4;go_wp2_with fail
                go_roundw
                case rel=>exact ⟨i+1,_,vR,_,_,_,_,_,by omega,by go_num,HPU.out⟩
                case measure=>simp [intOf];omega
      · (have hii:i=F.blocks.length:=by omega);subst hii;have g0:=hO.gb.c0;have g1:=hO.gb.c1;have g2:=hO.gb.c2;have g3:=hO.gb.c3;rw [HPP.out] at g0;obtain ⟨A2,c2,hvR⟩:=qL hO.rR.own;obtain ⟨A3,c3,hvB⟩:=qL hO.o.rB.own
        (have hbN:=(hO.bel.block (N+1) (by have:=HS1.out;omega)).trans HN1.out);have y0:=q5 hbN 0;have y1:=q5 hbN 1;have y2:=q5 hbN 2;have y3:=q5 hbN 3;have e0:=q8 hbN 0;have e1:=q8 hbN 1;have e2:=q8 hbN 2;have e3:=q8 hbN 3
        have HBN:=Lib.hid hbN;(have hGN:G≠N+1:=by have:=HS1.out;have:=hO.hG;omega);rw [List.length_map] at hvR;subst hvR hvB;clear hO hbN;(go_wp2_with fail);clear g0 g1 g2 g3 y0 y1 y2 y3 e0 e1 e2 e3;have hbkF:=qT HBN.out (.int .i64 (p:Int)) (.int .i64 F.result) (.slice A2 (oldsO F ph F.blocks.length).length c2) (.slice A3 F.blocks.length c3);have hl5:lab (N+1)=5:=by rw [HO.out.low (N+1) (by have:=HS1.out;omega),if_pos (by have:=HS1.out;omega)]
        have hcF:Chg wr ((((wr.setCell ⟨N+1,0,none⟩ (.int .i64 (p:Int))).setCell ⟨N+1,1,none⟩ (.int .i64 F.result)).setCell ⟨N+1,2,none⟩ (.slice A2 (oldsO F ph F.blocks.length).length c2)).setCell ⟨N+1,3,none⟩ (.slice A3 F.blocks.length c3)) lab (fun k=>k=5) :=
          ((((FrX.refl _ _).setCell (p:=⟨N+1,0,none⟩) (.inl hl5) _).setCell (p:=⟨N+1,1,none⟩) (.inl hl5) _).setCell (p:=⟨N+1,2,none⟩) (.inl hl5) _).setCell (p:=⟨N+1,3,none⟩) (.inl hl5) _
        generalize ((((wr.setCell ⟨N+1,0,none⟩ (.int .i64 (p:Int))).setCell ⟨N+1,1,none⟩ (.int .i64 F.result)).setCell ⟨N+1,2,none⟩ (.slice A2 (oldsO F ph F.blocks.length).length c2)).setCell ⟨N+1,3,none⟩ (.slice A3 F.blocks.length c3))=wF at *;(refine bodyPost_ret (results_cell_row rfl _ _ (N+1) 31 #[.int .i64 (p:Int),.int .i64 F.result,.slice A2 (oldsO F ph F.blocks.length).length c2,.slice A3 F.blocks.length c3] (0,0) _ (by rfl) hbkF Try.underlying31 (by rfl) (by obtain ⟨i,h1,_,h3,_⟩:=info_parts Try.info31;rw [h1];exact congrArg some h3)) rfl ?_);have hre:∀ y:Nat,extL lab wr.heap.size 0 y≠7→(fun k:Nat=>if extL lab wr.heap.size 0 k=7 then 1 else extL lab wr.heap.size 0 k) y=extL lab wr.heap.size 0 y:=fun y hy=>if_neg hy;refine ⟨w1.heap.size,fun k=>if extL lab wr.heap.size 0 k=7 then 1 else extL lab wr.heap.size 0 k,_,_,PV,IV,TV,YS,by rw [HPP.out],HB1.out.size,fun k hk=>?_,?_,(HO.out.rR.chg hcF (by omega)).re hre (by decide),(HO.out.o.chg hcF (by omega) (by omega) (fun b hb=>⟨by omega,by omega⟩)).re hre⟩
        · (have hx:extL lab wr.heap.size 0 k=if k<HT then 7 else 0:=by rw [qJ (by have:=HO.out.size;have:=HB1.out.size;omega)];exact HO.out.low0 (by have:=HS1.out;omega));show (if extL lab wr.heap.size 0 k=7 then 1 else extL lab wr.heap.size 0 k)≤1∧((if extL lab wr.heap.size 0 k=7 then 1 else extL lab wr.heap.size 0 k)=0→HT≤k);rw [hx]
          by_cases e:k<HT
          · rw [if_pos e];simp
          · rw [if_neg e];simp;omega
        · exact HB1.out.trans ((HO.out.bel.mono HB1.out.size).trans ⟨hcF.os,hcF.tape,hcF.output,hcF.size,fun k hk=>hcF.block k (by have:=HO.out.size;have:=HB1.out.size;omega) (by rw [HO.out.low0 (by have:=HS1.out;omega)];split <;> omega)⟩)
end Go.Proofs.Ytfoggldjjnabcaa
