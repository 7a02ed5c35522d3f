/- The program's outline. -/
import Derived.Test.YtfoggldjjnabcaaGreatDoorModAK
import Derived.Test.YtfoggldjjnabcaaGreatDoorSsVK
import Derived.Test.YtfoggldjjnabcaaGreatDoorGrYK
import Derived.Test.YtfoggldjjnabcaaGreatDoorDmAK
import Derived.Test.YtfoggldjjnabcaaGreatDoorGrNK
import Derived.Test.YtfoggldjjnabcaaGreatDoorDmMK
import Derived.Deep.RegionHeld3
import Derived.Deep.DeepCutAuto
set_option linter.unusedVariables false
set_option linter.unusedSimpArgs false
namespace Go.Proofs.YtfoggldjjnabcaaGreatDoor
open Go.ChangeShapes Go.WideShapes Go.RowKit Go.Deep
theorem q3E {w:World} {A:Option Addr} {c:Nat} {xs:List Int} (h:SL w 1 RInt A c xs) {p:Nat} (hp:p<=xs.length) :
  (∀ W,(Instr.slice 27 (.slice A xs.length c) none (some (.int .i64 (p:Int))) none).run Tryz.prog W=.ok (.slice A p c) W)/\SL w 1 RInt A c (xs.take p):=by
 obtain ⟨h1,⟨h2,h4⟩,h3⟩:=h;have hA:∀ b:Nat,b=0->A.map (·.add b)=A:=λ b hb=>by
  subst hb;rcases Nat.eq_zero_or_pos xs.length with h0 | h0
  ·cases A with
   | none=>rfl
   | some a=>obtain ⟨b,o,s⟩:=a;simp [Addr.add]
  ·obtain ⟨b,o,rfl,-⟩:=h3 h0;simp [Addr.add]
 refine ⟨λ W=>?_,by simp;omega,⟨h2,h4⟩,λ sZ=>?_⟩
 ·rw [run_slice_h W 27 A xs.length c ki .i64 p (by omega) (by omega),q0Z];simp only [Result.andThen,sliced,Int.toNat_natCast,Nat.zero_mul,Nat.sub_zero]
  by_cases e:c=0
  ·rw [if_pos e]
  ·rw [if_neg e,hA 0 rfl]
 ·(obtain ⟨b,o,e,hx⟩:=h3 (by simp at sZ;omega));exact ⟨b,o,e,λ i x hi=>hx i x (by rw [List.getElem?_take] at hi;split at hi;exact hi;cases hi)⟩
def rgT (F:qB) (r:Nat):Int:=F.regs.getD r 0
def q3U (F:qB) (ph:Nat->List Nat) (b:Nat):List Nat:=ph b++dsL (qR F b)
def zL (F:qB) (ph:Nat->List Nat) (b:Nat):List Nat:=List.range F.params.toNat++(List.range b).flatMap (q3U F ph)
def bsO (F:qB) (ph:Nat->List Nat) (b:Nat):Nat:=F.params.toNat+((List.range b).flatMap (q3U F ph)).length
def q2V (F:qB) (ph:Nat->List Nat) (b i:Nat) (x:qN):qN:=⟨x.op,if 0<=x.dst then ((bsO F ph b+(ph b).length+(dsL ((qR F b).take i)).length:Nat):Int) else x.dst,x.args,x.imm,x.fn⟩
def qd (F:qB) (ph:Nat->List Nat) (b:Nat):List qN:=(qR F b).mapIdx (q2V F ph b)
def zy (F:qB) (ph:Nat->List Nat) (b:Nat):List Int:=(List.range (ph b).length).map λ k=>((bsO F ph b+k:Nat):Int)
def phC (d:Int):List Value:=[.int .i64 d,.slice none 0 0]
theorem q9d (d:Int):(phC d).length=2:=rfl
def inC (y:qN × Value):List Value:=[.int .i64 y.1.op,.int .i64 y.1.dst,y.2,.int .i64 y.1.imm,.int .i64 y.1.fn]
theorem q0O (y:qN × Value):(inC y).length=5:=rfl
def bkC (pv iv:Value) (k a:Int) (tv:Value):List Value:=[pv,iv,.int .i64 k,.int .i64 a,tv]
structure InsO (w:World) (K:Nat) (lab:Nat->Nat) (t:Nat) (v:Value) (l:List qN) (ys:List (qN × Value)):Prop where
 row:LRw w K lab t 53 5 v ys.length (ys.flatMap inC)
 are:ys.map (·.1)=l
 rd:∀ y∈ys,RdV w lab y.2 y.1.args
structure OutS (w:World) (K:Nat) (lab:Nat->Nat) (F:qB) (ph:Nat->List Nat) (q:Nat) (vB:Value) (PV IV TV:Nat->Value) (YS:Nat->List (qN × Value)):Prop where
 rB:LRw w K lab 3 51 5 vB q ((List.range q).flatMap λ b=>bkC (PV b) (IV b) (qP F b).term.kind (qP F b).term.arg (TV b))
 rP:∀ b,b<q->LRw w K lab (100+2 * b) 55 2 (PV b) (ph b).length ((zy F ph b).flatMap phC)
 rI:∀ b,b<q->InsO w K lab (101+2 * b) (IV b) (qd F ph b) (YS b)
 rT:∀ b,b<q->RdV w lab (TV b) (qP F b).term.to
theorem InsO.chg {w w':World} {K t t2:Nat} {lab:Nat->Nat} {S:Nat->Prop} {v:Value} {l:List qN} {ys:List (qN × Value)} (h:InsO w K lab t v l ys) (hc:Chg w w' lab S) (h0:¬ S 0) (hn:¬ S t):InsO w' K (qk lab w.heap.size t2) t v l ys :=
 ⟨h.row.chg hc hn,h.are,λ y hy=>(h.rd y hy).chg hc h0⟩
theorem OutS.chg {w w':World} {K q t2:Nat} {lab:Nat->Nat} {S:Nat->Prop} {F:qB} {ph:Nat->List Nat} {vB:Value} {PV IV TV:Nat->Value} {YS:Nat->List (qN × Value)} (h:OutS w K lab F ph q vB PV IV TV YS) (hc:Chg w w' lab S) (h0:¬ S 0) (h3:¬ S 3) (hn:∀ b,b<q->¬ S (100+2 * b)/\¬ S (101+2 * b)):OutS w' K (qk lab w.heap.size t2) F ph q vB PV IV TV YS :=
 ⟨h.rB.chg hc h3,λ b hb=>(h.rP b hb).chg hc (hn b hb).1,λ b hb=>(h.rI b hb).chg hc h0 (hn b hb).2,λ b hb=>(h.rT b hb).chg hc h0⟩
structure GbC (w:World) (G:Nat) (p res:Int) (vR vB:Value):Prop where
 c0:w.cell? ⟨G,0,none⟩=some (.int .i64 p)
 c1:w.cell? ⟨G,1,none⟩=some (.int .i64 res)
 c2:w.cell? ⟨G,2,none⟩=some vR
 c3:w.cell? ⟨G,3,none⟩=some vB
 fz:∀ i,w.frozen? ⟨G,i,none⟩=false
theorem GbC.of_block {w w':World} {G:Nat} {p res:Int} {vR vB:Value} (h:GbC w G p res vR vB) (hb:w'.heap[G]?=w.heap[G]?):GbC w' G p res vR vB :=
 ⟨(JK (a:=⟨G,0,none⟩) hb).trans h.c0,(JK (a:=⟨G,1,none⟩) hb).trans h.c1,(JK (a:=⟨G,2,none⟩) hb).trans h.c2,(JK (a:=⟨G,3,none⟩) hb).trans h.c3,λ i=>(World.frozen?_of_block (a:=⟨G,i,none⟩) hb).trans (h.fz i)⟩
theorem GbC.lt {w:World} {G:Nat} {p res:Int} {vR vB:Value} (h:GbC w G p res vR vB):G<w.heap.size:=block_lt_of_cell h.c0
theorem GbC.set3 {w:World} {G:Nat} {p res:Int} {vR vB:Value} (h:GbC w G p res vR vB) (u:Value):GbC (w.setCell ⟨G,3,none⟩ u) G p res vR u:=by
 (have ne:∀ i j:Nat,i≠j->(⟨G,j,none⟩:Addr)≠⟨G,i,none⟩:=λ i j ri e=>ri (by injection e with _ e2 _;exact e2.symm));exact ⟨by rw [World.cell?_setCell_other _ _ _ _ (ne 0 3 (by decide))];exact h.c0,by rw [World.cell?_setCell_other _ _ _ _ (ne 1 3 (by decide))];exact h.c1,by rw [World.cell?_setCell_other _ _ _ _ (ne 2 3 (by decide))];exact h.c2,World.cell?_setCell_same _ _ _ h.c3,λ i=>by rw [World.frozen?_setCell];exact h.fz i⟩
structure OutL (HT:Nat) (w1 w:World) (G:Nat) (lab:Nat->Nat) (F:qB) (ph:Nat->List Nat) (q:Nat) (vR vB:Value) (PV IV TV:Nat->Value) (YS:Nat->List (qN × Value)) (l:List Int):Prop where
 bel:Below w1.heap.size w1 w
 low:∀ k,k<w1.heap.size->lab k=if k+1=w1.heap.size then 5 else if k<HT then 7 else 0
 hG:w1.heap.size<=G
 lG:lab G=1
 gb:GbC w G F.params F.result vR vB
 rR:LRw w w1.heap.size lab 2 3 1 vR l.length (l.map (Value.int .i64))
 o:OutS w w1.heap.size lab F ph q vB PV IV TV YS
section
variable {HT:Nat} {w1 w w':World} {G:Nat} {lab:Nat->Nat} {F:qB} {ph:Nat->List Nat} {q:Nat} {vR vB:Value} {PV IV TV:Nat->Value} {YS:Nat->List (qN × Value)} {l:List Int} {S:Nat->Prop} {t:Int} {e:Ending}
theorem OutL.size (h:OutL HT w1 w G lab F ph q vR vB PV IV TV YS l):w1.heap.size<=w.heap.size:=h.bel.size
theorem OutL.low0 (h:OutL HT w1 w G lab F ph q vR vB PV IV TV YS l) {k:Nat} (hk:k+1<w1.heap.size):lab k=if k<HT then 7 else 0:=by rw [h.low k (by omega),if_neg (by omega)]
theorem OutL.lowS (h:OutL HT w1 w G lab F ph q vR vB PV IV TV YS l) {k:Nat} (hk:k<w1.heap.size) (h0:¬ S 0) (h5:¬ S 5) (h7:¬ S 7):¬ S (lab k):=by
 rw [h.low k hk];split
 ·exact h5
 ·split
  ·exact h7
  ·exact h0
theorem OutL.chg (h:OutL HT w1 w G lab F ph q vR vB PV IV TV YS l) (hc:Chg w w' lab S) (hS:∀ k,S k->k=4\/k=6\/100+2 * q<=k) (t2:Nat):OutL HT w1 w' G (qk lab w.heap.size t2) F ph q vR vB PV IV TV YS l:=by
 have no:∀ k,¬ (k=4\/k=6\/100+2 * q<=k)->¬ S k:=λ k hk e=>hk (hS k e)
 refine ⟨h.bel.trans ⟨hc.os,hc.tape,hc.output,hc.size,λ k hk=>hc.block k (by have:=h.size;omega) (h.lowS hk (no 0 (by omega)) (no 5 (by omega)) (no 7 (by omega)))⟩,λ k hk=>by rw [qT (by have:=h.size;omega)];exact h.low k hk,h.hG,by rw [qT h.gb.lt];exact h.lG,
  h.gb.of_block (hc.block G h.gb.lt (by rw [h.lG];exact no 1 (by omega))),h.rR.chg hc (no 2 (by omega)),h.o.chg hc (no 0 (by omega)) (no 3 (by omega)) λ b hb=>⟨no _ (by omega),no _ (by omega)⟩⟩
theorem OutL.below (h:OutL HT w1 w G lab F ph q vR vB PV IV TV YS l) (hb:Below w.heap.size w w') (t2:Nat):OutL HT w1 w' G (qk lab w.heap.size t2) F ph q vR vB PV IV TV YS l :=
 h.chg (S:=λ _=>False) (Chg.of_below hb) (λ _ e=>e.elim) t2
theorem OutL.ver (h:OutL HT w1 w G lab F ph q vR vB PV IV TV YS l) (ht:q30 w w1.heap.size G vR l t e w') :
  e=.returned (.int .i64 (l.length:Int))/\∃ vR',OutL HT w1 w' G (qk lab w.heap.size 2) F ph q vR' vB PV IV TV YS (l++[t])/\Chg w w' lab (λ k=>k=1\/k=2):=by
 obtain ⟨he,v',k7,ko,kf,ho,tU,rk⟩:=ht;have hP:=h.gb.lt
 have hc:Chg w w' lab (λ k=>k=1\/k=2):=FrX.mono rk (λ y hy hx=>by
  rcases hx with rfl | hx
  ·exact .inl h.lG
  ·exact .inr (h.rR.lb y hx))
 have c:=h.gb
 refine ⟨he,v',⟨h.bel.trans ⟨hc.os,hc.tape,hc.output,hc.size,λ k hk=>hc.block k (by have:=h.size;omega) (h.lowS (S:=λ k=>k=1\/k=2) hk (by omega) (by omega) (by omega))⟩,λ k hk=>by rw [qT (by have:=h.size;omega)];exact h.low k hk,h.hG,by rw [qT hP];exact h.lG,
  ⟨(ko 0 (by decide)).trans c.c0,(ko 1 (by decide)).trans c.c1,k7,(ko 3 (by decide)).trans c.c3,λ i=>(kf i).trans (c.fz i)⟩,⟨by rw [List.length_append];exact ho,λ g hg=>?_⟩,h.o.chg hc (by omega) (by omega) (λ b hb=>⟨by omega,by omega⟩)⟩,hc⟩
 rcases tU g hg with e | e
 ·rw [qT (h.rR.own.lt g e).2];exact h.rR.lb g e
 ·exact ze e
end
theorem RdV.of_base {w wq:World} {HT:Nat} {lab:Nat->Nat} {v:Value} {l:List Int} (h:VS w 1 (RIntB (BG HT w)) v l) (hb:Below w.heap.size w wq) (hl:∀ k,HT<=k->k<w.heap.size->lab k=0):RdV wq lab v l:=by
 obtain ⟨A,c,e,h1⟩:=h;exact ⟨A,c,e,SL.imp (λ b o x hx=>⟨⟨hl b hx.1.1 (block_lt_of_cell hx.2.1),hx.1.2.same (hb.block b (block_lt_of_cell hx.2.1))⟩,RInt.keep (q7 hb) _ _ _ hx.2⟩) h1⟩
structure CurB (w:World) (K:Nat) (lab:Nat->Nat) (N8 N9:Nat) (B8:Obj) (k a:Int) (tv vp vi:Value) (F:qB) (ph:Nat->List Nat) (i j m:Nat) (ys:List (qN × Value)):Prop where
 b8:w.heap[N8]?=some B8
 l8:lab N8=0
 b9:w.heap[N9]?=some (.cells #[vp,vi,.int .i64 k,.int .i64 a,tv] 51 (0,0))
 l9:lab N9=4
 rP:LRw w K lab (100+2 * i) 55 2 vp j (((zy F ph i).take j).flatMap phC)
 rI:InsO w K lab (101+2 * i) vi ((qd F ph i).take m) ys
section
variable {w w':World} {K:Nat} {lab:Nat->Nat} {N8 N9:Nat} {B8:Obj} {k a:Int} {tv vp vi v':Value} {F:qB} {ph:Nat->List Nat} {i j m:Nat} {ys:List (qN × Value)} {S:Nat->Prop}
theorem CurB.chg (h:CurB w K lab N8 N9 B8 k a tv vp vi F ph i j m ys) (hc:Chg w w' lab S) (hS:∀ k,S k->k=1\/k=2\/k=3\/k=6) (t2:Nat):CurB w' K (qk lab w.heap.size t2) N8 N9 B8 k a tv vp vi F ph i j m ys:=by
 have no:∀ k,¬ (k=1\/k=2\/k=3\/k=6)->¬ S k:=λ k hk e=>hk (hS k e);have wW:=zG h.b8;have wV:=zG h.b9;exact ⟨(hc.block N8 wW (by rw [h.l8];exact no 0 (by omega))).trans h.b8,by rw [qT wW];exact h.l8,(hc.block N9 wV (by rw [h.l9];exact no 4 (by omega))).trans h.b9,by rw [qT wV];exact h.l9,h.rP.chg hc (no _ (by omega)),h.rI.chg hc (no 0 (by omega)) (no _ (by omega))⟩
theorem CurB.below (h:CurB w K lab N8 N9 B8 k a tv vp vi F ph i j m ys) (hb:Below w.heap.size w w') (t2:Nat):CurB w' K (qk lab w.heap.size t2) N8 N9 B8 k a tv vp vi F ph i j m ys :=
 h.chg (S:=λ _=>False) (Chg.of_below hb) (λ _ e=>e.elim) t2
theorem CurB.pushP {d:Int} (h:CurB w K lab N8 N9 B8 k a tv vp vi F ph i j m ys) (hg:GroD w w' vp v') (hd:(zy F ph i)[j]?=some d) (ho:w'.ownsRow K 55 2 v' (j+1) ((((zy F ph i).take j).flatMap phC)++phC d)) :
  CurB (w'.setCell ⟨N9,0,none⟩ v') K (qk lab w.heap.size (100+2 * i)) N8 N9 B8 k a tv v' vi F ph i (j+1) m ys/\Chg w (w'.setCell ⟨N9,0,none⟩ v') lab (λ q=>q=4\/q=100+2 * i):=by
 have hc:=h.rP.chgGro hg;have wW:=zG h.b8;have wV:=zG h.b9;(have wX:qk lab w.heap.size (100+2 * i) N9=4:=by rw [qT wV];exact h.l9);have wO:Chg w' (w'.setCell ⟨N9,0,none⟩ v') (qk lab w.heap.size (100+2 * i)) (λ q=>q=4):=Chg.set _ wX 0 v';(have tc:N8≠N9:=λ e=>by have h1:=h.l8;rw [e,h.l9] at h1;omega);(have wM:=(hc.block N9 wV (by rw [h.l9];omega)).trans h.b9);(refine ⟨⟨(JQ _ _ _ _ tc).trans ((hc.block N8 wW (by rw [h.l8];omega)).trans h.b8),by rw [qT wW];exact h.l8,qK v' wM,wX,(h.rP.gro (n':=j+1) (xs':=((zy F ph i).take (j+1)).flatMap phC) hg (by rw [qG hd,List.flatMap_append];simpa using ho)).chg0 wO (by omega),(h.rI.chg hc (by omega) (by omega)).row.chg0 wO (by omega),h.rI.are,λ y hy=>((h.rI.rd y hy).chg hc (by omega)).chg0 wO (by omega)⟩,?_⟩);exact (Chg.mono hc λ q e=>.inr e).then_ (Chg.mono wO λ q e=>.inl e)
theorem CurB.pushI {x:qN} {va:Value} (h:CurB w K lab N8 N9 B8 k a tv vp vi F ph i j m ys) (hg:GroD w w' vi v') (hd:(qd F ph i)[m]?=some x) (sW:RdV w lab va x.args) (ho:w'.ownsRow K 53 5 v' (ys.length+1) (ys.flatMap inC++inC (x,va))) :
  CurB (w'.setCell ⟨N9,1,none⟩ v') K (qk lab w.heap.size (101+2 * i)) N8 N9 B8 k a tv vp v' F ph i j (m+1) (ys++[(x,va)])/\Chg w (w'.setCell ⟨N9,1,none⟩ v') lab (λ q=>q=4\/q=101+2 * i):=by
 have hc:=h.rI.row.chgGro hg;have wW:=zG h.b8;have wV:=zG h.b9;(have wX:qk lab w.heap.size (101+2 * i) N9=4:=by rw [qT wV];exact h.l9);have wO:Chg w' (w'.setCell ⟨N9,1,none⟩ v') (qk lab w.heap.size (101+2 * i)) (λ q=>q=4):=Chg.set _ wX 1 v';(have tc:N8≠N9:=λ e=>by have h1:=h.l8;rw [e,h.l9] at h1;omega);(have wM:=(hc.block N9 wV (by rw [h.l9];omega)).trans h.b9);(refine ⟨⟨(JQ _ _ _ _ tc).trans ((hc.block N8 wW (by rw [h.l8];omega)).trans h.b8),by rw [qT wW];exact h.l8,qK v' wM,wX,(h.rP.chg hc (by omega)).chg0 wO (by omega),(h.rI.row.gro (n':=(ys++[(x,va)]).length) (xs':=(ys++[(x,va)]).flatMap inC) hg (by rw [List.length_append,List.flatMap_append];simpa using ho)).chg0 wO (by omega),by rw [List.map_append,h.rI.are,qG hd];rfl,λ y hy=>?_⟩,(Chg.mono hc λ q e=>.inr e).then_ (Chg.mono wO λ q e=>.inl e)⟩);rw [List.mem_append,List.mem_singleton] at hy
 rcases hy with hy | rfl
 ·exact ((h.rI.rd y hy).chg hc (by omega)).chg0 wO (by omega)
 ·exact (sW.chg hc (by omega)).chg0 wO (by omega)
end
theorem OutL.push {HT:Nat} {w1 w w':World} {G N8 N9:Nat} {lab:Nat->Nat} {F:qB} {ph:Nat->List Nat} {q:Nat} {vR vB v' vp vi tv:Value} {PV IV TV:Nat->Value} {YS:Nat->List (qN × Value)} {l tl:List Int} {ys:List (qN × Value)} {B8:Obj} {kd ar:Int}
  (h:OutL HT w1 w G lab F ph q vR vB PV IV TV YS l) (hc:CurB w w1.heap.size lab N8 N9 B8 kd ar tv vp vi F ph q (ph q).length (qR F q).length ys) (hT:RdV w lab tv tl) (hk:(qP F q).term=⟨kd,ar,tl⟩) (hg:GroD w w' vB v')
  (ho:w'.ownsRow w1.heap.size 51 5 v' (q+1) (((List.range q).flatMap λ b=>bkC (PV b) (IV b) (qP F b).term.kind (qP F b).term.arg (TV b))++bkC vp vi kd ar tv)) :
  OutL HT w1 (w'.setCell ⟨G,3,none⟩ v') G (qk lab w.heap.size 3) F ph (q+1) vR v' (qM PV q vp) (qM IV q vi) (qM TV q tv) (qM YS q ys) l:=by
 have c1:=h.o.rB.chgGro hg;(have wX:qk lab w.heap.size 3 G=1:=by rw [qT h.gb.lt];exact h.lG);have c2:Chg w' (w'.setCell ⟨G,3,none⟩ v') (qk lab w.heap.size 3) (λ k=>k=1):=Chg.set _ wX 3 v';have c12:Chg w (w'.setCell ⟨G,3,none⟩ v') lab (λ k=>k=3\/k=1):=(Chg.mono c1 λ k e=>.inl e).then_ (Chg.mono c2 λ k e=>.inr e);have tW:(zy F ph q).take (ph q).length=zy F ph q:=List.take_of_length_le (by simp [zy]);have rc:(qd F ph q).take (qR F q).length=qd F ph q:=List.take_of_length_le (by simp [qd]);have sD:=hc.rP;have sE:=hc.rI;rw [tW] at sD
 rw [rc] at sE;have sX:(ph q).length=(ph q).length:=rfl;have e2:((List.range q).flatMap λ b=>bkC (PV b) (IV b) (qP F b).term.kind (qP F b).term.arg (TV b))++bkC vp vi kd ar tv=(List.range (q+1)).flatMap λ b=>bkC (qM PV q vp b) (qM IV q vi b) (qP F b).term.kind (qP F b).term.arg (qM TV q tv b):=by
  rw [List.range_succ,List.flatMap_append,List.flatMap_singleton,qF,qF,qF,hk];(congr 1);simp only [List.flatMap_def];(congr 1);exact List.map_congr_left λ b hb=>by have:=List.mem_range.1 hb;rw [q8 _ _ (by omega),q8 _ _ (by omega),q8 _ _ (by omega)]
 rw [e2] at ho
 refine ⟨h.bel.trans ⟨c12.os,c12.tape,c12.output,c12.size,λ k hk=>c12.block k (by have:=h.size;omega) (h.lowS (S:=λ k=>k=3\/k=1) hk (by omega) (by omega) (by omega))⟩,λ k hk=>by rw [qT (by have:=h.size;omega)];exact h.low k hk,h.hG,wX,
  (h.gb.of_block (c1.block G h.gb.lt (by rw [h.lG];omega))).set3 v',(h.rR.chg c12 (by omega)),⟨(h.o.rB.gro hg ho).chg0 c2 (by omega),λ b hb=>?_,λ b hb=>?_,λ b hb=>?_⟩⟩
 ·by_cases e:b=q
  ·subst e;rw [qF];exact sD.chg c12 (by omega)
  ·rw [q8 _ _ e];exact (h.o.rP b (by omega)).chg c12 (by omega)
 ·by_cases e:b=q
  ·subst e;rw [qF,qF];exact sE.chg c12 (by omega) (by omega)
  ·rw [q8 _ _ e,q8 _ _ e];exact (h.o.rI b (by omega)).chg c12 (by omega) (by omega)
 ·by_cases e:b=q
  ·subst e;rw [qF,hk];exact hT.chg c12 (by omega)
  ·rw [q8 _ _ e];exact (h.o.rT b (by omega)).chg c12 (by omega)
theorem LRw.re {w:World} {K t sz n:Nat} {lab lab':Nat->Nat} {ty:TypeId} {v:Value} {xs:List Value} (h:LRw w K lab t ty sz v n xs) (hl:∀ y,lab y≠7->lab' y=lab y) (ht:t≠7):LRw w K lab' t ty sz v n xs :=
 ⟨h.own,λ g hg=>(hl g (by rw [h.lb g hg];exact ht)).trans (h.lb g hg)⟩
theorem RdV.re {w:World} {lab lab':Nat->Nat} {v:Value} {l:List Int} (h:RdV w lab v l) (hl:∀ y,lab y≠7->lab' y=lab y):RdV w lab' v l:=h.go λ y _ hy=>⟨rfl,(hl y (by rw [hy];decide)).trans hy⟩
theorem OutS.re {w:World} {K q:Nat} {lab lab':Nat->Nat} {F:qB} {ph:Nat->List Nat} {vB:Value} {PV IV TV:Nat->Value} {YS:Nat->List (qN × Value)} (h:OutS w K lab F ph q vB PV IV TV YS) (hl:∀ y,lab y≠7->lab' y=lab y):OutS w K lab' F ph q vB PV IV TV YS :=
 ⟨h.rB.re hl (by decide),λ b hb=>(h.rP b hb).re hl (by omega),λ b hb=>⟨(h.rI b hb).row.re hl (by omega),(h.rI b hb).are,λ y hy=>((h.rI b hb).rd y hy).re hl⟩,λ b hb=>(h.rT b hb).re hl⟩
def qAD (HT:Nat) (F:qB) (ph:Nat->List Nat) (w:World) (e:Ending) (w':World):Prop :=
 ∃ (K:Nat) (lab:Nat->Nat) (vR vB:Value) (PV IV TV:Nat->Value) (YS:Nat->List (qN × Value)),e=.returned (.agg #[.int .i64 F.params,.int .i64 F.result,vR,vB])/\w.heap.size<=K/\(∀ k,k<w.heap.size->lab k<=1/\(lab k=0->HT<=k))/\Below w.heap.size w w' /\
  LRw w' K lab 2 3 1 vR ((zL F ph F.blocks.length).map (rgT F)).length (((zL F ph F.blocks.length).map (rgT F)).map (Value.int .i64))/\OutS w' K lab F ph F.blocks.length vB PV IV TV YS
theorem q3R {F:qB} {ph:Nat->List Nat} {b j:Nat} (h:j<(ph b).length):(zy F ph b)[j]?=some ((bsO F ph b+j:Nat):Int):=by unfold zy;simp [h]
theorem q0d {F:qB} {ph:Nat->List Nat} {b j:Nat} {x:qN} (h:(qR F b)[j]?=some x):(qd F ph b)[j]?=some (q2V F ph b j x):=by unfold qd;rw [List.getElem?_mapIdx,h];rfl
theorem olds_len (F:qB) (ph:Nat->List Nat) (b:Nat):(zL F ph b).length=bsO F ph b:=by unfold zL bsO;rw [List.length_append,List.length_range]
theorem q6f (F:qB) (ph:Nat->List Nat) (b:Nat):zL F ph (b+1)=zL F ph b++(ph b++dsL (qR F b)):=by unfold zL;rw [List.range_succ,List.flatMap_append];simp [q3U]
theorem xv (l:List qN):(dsL l).length<=l.length:=by unfold dsL;exact List.length_filterMap_le _ _
theorem q1A {F:qB} {ph:Nat->List Nat} (h1:∀ b,b<F.blocks.length->(ph b).length<=300) (h2:∀ b∈F.blocks,b.ins.length<=900):∀ b,b<=F.blocks.length->bsO F ph b<=F.params.toNat+1200 * b:=by
 intro b
 induction b with
 | zero=>intro _;simp [bsO]
 | succ b ih =>
  intro hb;have hx:F.blocks[b]?=some F.blocks[b]:=Jq (by omega);have h3:=h1 b (by omega);have h4:=h2 _ (Jz hx);have h5:=xv (qR F b);rw [qe hx] at h5;(have h6:bsO F ph (b+1)=bsO F ph b+((ph b).length+(dsL (qR F b)).length):=by unfold bsO;rw [List.range_succ,List.flatMap_append];simp [q3U];omega);rw [h6,qe hx];have:=ih (by omega)
  omega
theorem q7r {F:qB} {r:Nat} (h:r<F.regs.length):F.regs[r]?=some (rgT F r):=by unfold rgT;rw [JJ,Jq h];rfl
def WcO (w1:World) (p:Nat) (F:qB) (s:Value) (wc:World):Prop :=
 ∃ g v,s=.pointer (some ⟨g,0,none⟩)/\w1.heap.size<=g/\wc.heap[g]?=some (.cells #[.int .i64 (p:Int),.int .i64 F.result,v,.slice none 0 0] 30 (0,0))/\wc.ownsRow w1.heap.size 3 1 v p ((F.regs.take p).map (Value.int .i64))/\v.ownBlock≠some g/\Below w1.heap.size w1 wc
set_option maxRecDepth 100000 in
set_option maxHeartbeats 16000000 in
theorem q3Q (HT:Nat) (F:qB) (w:World) (ph:Nat->List Nat) (Gp Kp:Nat) (Vp:Nat->Value) (Ar A:Option Addr) (cr c:Nat) (hr:SL w 1 RInt Ar cr F.regs) (th:SL w 5 (RBlkB (BG HT w)) A c F.blocks) (hp:Gri w Gp Kp F.blocks.length Vp (λ b=>zs (ph b))) (tT:0<=F.params/\F.params<=F.regs.length) (hn:F.blocks.length<=500) (hR:F.regs.length<=1000)
  (sx:∀ b,b<F.blocks.length->(ph b).length<=300/\∀ r∈ph b,r<F.regs.length) (hl:∀ b∈F.blocks,b.ins.length<=900/\∀ x∈b.ins,x.dst<F.regs.length) :
  Calls Tryz.prog 24 #[.agg #[.int .i64 F.params,.int .i64 F.result,.slice Ar F.regs.length cr,.slice A F.blocks.length c],.slice (some ⟨Gp,0,none⟩) F.blocks.length F.blocks.length] w (qAD HT F ph w):=by
 have hrl:=hr.len;obtain ⟨i0,hi_,hz0_,hz1_,hz2_⟩:=info_parts Tryz.info55;have HI:=Jj (And.intro hi_ (And.intro hz0_ (And.intro hz1_ hz2_)));obtain ⟨j0,hj_,hy0_,hy1_,hy2_⟩:=info_parts Tryz.info53;have HJ:=Jj (And.intro hj_ (And.intro hy0_ (And.intro hy1_ hy2_)));obtain ⟨k0,hk_,hx0_,hx1_,hx2_⟩:=info_parts Tryz.info51;have tO:=Jj (And.intro hk_ (And.intro hx0_ (And.intro hx1_ hx2_)));clear hi_ hz0_ hz1_ hz2_ hj_ hy0_ hy1_ hy2_ hk_ hx0_ hx1_ hx2_;obtain ⟨p,sw⟩:∃ p:Nat,F.params=(p:Int):=⟨F.params.toNat,by omega⟩
 (have sY:p<=F.regs.length:=by omega);obtain ⟨sV,sr⟩:=q3E hr sY;have rv:=Jj sr;have HR:=Jj hr;have rO:=Jj th;have sd:=Jj sx;have HL:=Jj hl;have sK:=Jj hp;have tr:=Jj sw
 have tB:∀ (fn:Fn) (first cap:Array Value) (w:World),(Instr.makeFunc fn first cap).run Tryz.prog w=.ok (.func fn first cap) w:=λ _ _ _ _=>rfl;have rH:=Jj tB;rw [sw];clear hr th sx hl hp sr tT tB;(go_enter Tryz.func24,Tryz.ntmps24);(go_upto_region 1 with fail);obtain ⟨w1,tm⟩:∃ w1,w1=(w.alloc (.cells #[.int .i64 (p:Int),.int .i64 F.result,.slice Ar F.regs.length cr,.slice A F.blocks.length c] 30)).alloc (.cells #[.int .i64 0,.int .i64 0,.slice none 0 0,.slice none 0 0] 30):=⟨_,rfl⟩;(have sG:Below w.heap.size w w1:=by rw [tm];exact ((J5 _ w).alloc (J4 _) _).alloc (by simp) _);have hN0:w1.heap[w.heap.size]?=some (.cells #[.int .i64 (p:Int),.int .i64 F.result,.slice Ar F.regs.length cr,.slice A F.blocks.length c] 30):=by rw [tm];exact xG w _ _
 (have hN1:w1.heap[w.heap.size+1]?=some (.cells #[.int .i64 0,.int .i64 0,.slice none 0 0,.slice none 0 0] 30):=by rw [tm];simpa using heap_alloc_new (w.alloc (.cells #[.int .i64 (p:Int),.int .i64 F.result,.slice Ar F.regs.length cr,.slice A F.blocks.length c] 30)) (.cells #[.int .i64 0,.int .i64 0,.slice none 0 0,.slice none 0 0] 30));(have tR:w1.heap.size=w.heap.size+2:=by rw [tm];simp);obtain ⟨N,hN⟩:∃ N,N=w.heap.size:=⟨_,rfl⟩;rw [<- tm];rw [<- hN] at hN0 hN1 tR ⊢;have wk:=Jj sG;have sf:=Jj hN0;have rF:=Jj hN1;have wm:Hid (w1.heap.size=N+2/\N=w.heap.size):=Jj ⟨tR,hN⟩
 have c0:=q6 hN0 0;have c1:=q6 hN0 1;have c2:=q6 hN0 2
 have rM:=Jj (show ∀ w':World,Below w1.heap.size w1 w'->Calls Tryz.prog 49 #[.slice Ar p cr] w' (λ e w2=>(∃ A2 c2,e=.returned (.slice A2 p c2)/\w2.ownsRow w'.heap.size 3 1 (.slice A2 p c2) p ((F.regs.take p).map (Value.int .i64)))/\Below w1.heap.size w1 w2/\Below w'.heap.size w' w2) from λ w' hb=>by
  (have tC:(F.regs.take p).length=p:=by simp;omega);have h:=zj (F.regs.take p) _ w' ⟨Ar,cr,rfl,SInts.keep (q7 (wk.out.trans (hb.mono wk.out.size))) rv.out⟩ (by omega);rw [tC] at h;refine h.mono ?_;rintro e w2 ⟨⟨v2,rfl,ho⟩,tN⟩;rw [tC] at ho;obtain ⟨A2,c2,rfl⟩:=qX ho;have rl:Below w1.heap.size w1 w2:=hb.trans (tN.mono hb.size)
  exact ⟨⟨A2,c2,rfl,ho⟩,rl,tN⟩)
 clear tm sG hN0 hN1 tR hN;go_cut [5] (λ s5 wc=>WcO w1 p F s5 wc)
 case first =>
  have hS:∀ w',Below w1.heap.size w1 w'->w'.cell? ⟨N,0,none⟩=some (.int .i64 (p:Int))/\w'.cell? ⟨N,1,none⟩=some (.int .i64 F.result)/\w'.cell? ⟨N,2,none⟩=some (.slice Ar F.regs.length cr) :=
   λ w' h=>⟨q7 h _ _ c0,q7 h _ _ c1,q7 h _ _ c2⟩
  clear c0 c1 c2;go_region_held3 (λ w'=>w'.cell? ⟨N,0,none⟩=some (.int .i64 (p:Int))/\w'.cell? ⟨N,1,none⟩=some (.int .i64 F.result)/\w'.cell? ⟨N,2,none⟩=some (.slice Ar F.regs.length cr))
   (first
    | (refine hS _ ?_;repeat (first | exact J5 _ _ | exact hbX | refine Below.drew ?_ | refine Below.setCell ?_ (by first | omega | (simp;done) | (simp;omega)) _ | refine Below.alloc ?_ (by first | omega | exact hbX.size | (simp;done) | (simp;omega)) _)))
   (first
    | (simp only [sV];done)
    | (go_at_call 49;refine (rM.out _ (by repeat first | exact J5 _ _ | refine Below.drew ?_ | refine Below.alloc ?_ (by first | exact J4 _ | (simp;done) | (simp;omega)) _)).mono ?_;rintro e w2 ⟨⟨A2,c2x,rfl,tx⟩,hbX,tN⟩;first | (have hx:w2.heap[w1.heap.size]?=some (.cells #[.int .i64 0,.int .i64 0,.slice none 0 0,.slice none 0 0] 30 (0,0)):=(tN.block w1.heap.size (by simp)).trans (heap_alloc_new w1 _);have x0:=q6 hx 0;have x1:=q6 hx 1;have x2:=q6 hx 2;have x3:=q6 hx 3;have f0:=qA hx 0;have f1:=qA hx 1;have f2:=qA hx 2;have f3:=qA hx 3;simp at x0 x1 x2 x3) | skip))
  ·(go_wp2_with fail);(go_meet);exact ⟨_,_,rfl,hbX.size,heap_alloc_new _ _,World.ownsRow.alloc (zw tx (J4 _)) _,λ e=>by have:=(tx.lt _ e).2;omega,hbX.alloc hbX.size _⟩
  ·(go_wp2_with fail);(go_meet);exact ⟨_,_,rfl,J4 _,qp hx _ _ _ _,zw (jJ tx (λ x sQ=>zb _ (by have:=(tx.lt x sQ).1;simp at this;omega) _ _ _ _)) (by simp),λ e=>by have:=(tx.lt _ e).1;simp at this;omega,(((hbX.setCell (J4 _) _).setCell (J4 _) _).setCell (J4 _) _).setCell (J4 _) _⟩
 case rest =>
  obtain ⟨G,vR,rfl,hGw,tp,hoR,hneR,hbX⟩:=hcut
  have rD:Hid (OutL HT w1 wc G (λ k=>if k=G then 1 else if k<w1.heap.size then (if k+1=w1.heap.size then 5 else if k<HT then 7 else 0) else 2) F ph 0 vR (.slice none 0 0) (λ _=>.bool false) (λ _=>.bool false) (λ _=>.bool false) (λ _=>[]) ((zL F ph 0).map (rgT F))):=Jj (by
   have rg:(zL F ph 0).map (rgT F)=F.regs.take p:=by
    unfold zL;rw [tr.out,Int.toNat_natCast];apply List.ext_getElem?;intro j
    by_cases hj:j<p
    ·simp [hj,rgT,List.getElem?_take,JJ,Jq (show j<F.regs.length by omega)]
    ·simp [hj,List.getElem?_take]
   (have tW:(F.regs.take p).length=p:=by simp;omega);rw [rg];refine ⟨hbX,λ k hk=>by rw [if_neg (by omega),if_pos hk],hGw,if_pos rfl,⟨by rw [tr.out];exact q6 tp 0,q6 tp 1,q6 tp 2,q6 tp 3,qA tp⟩,⟨by rw [tW];exact hoR,λ g hg=>?_⟩,⟨LRw.nil _ _ _ _ _ _,λ b hb=>by omega,λ b hb=>by omega,λ b hb=>by omega⟩⟩
   rw [if_neg (λ e=>hneR (by rw [hg,e])),if_neg (by have:=(hoR.lt g hg).1;omega)])
  have c3:=q7 hbX _ _ (q6 sf.out 3);have HC3:Hid (w1.cell? ⟨N,3,none⟩=some (.slice A F.blocks.length c)):=Jj (q6 sf.out 3);have sO:Hid (w1.cell? ⟨N,2,none⟩=some (.slice Ar F.regs.length cr)):=Jj (q6 sf.out 2);have tB:=rH.out;clear tp hoR hneR hbX c0 c1 c2;(go_wp2_with (simp only [tB]));clear tB c3
  go_loopw [29] (λ s29 wq=>∃ (i:Nat) (lab:Nat->Nat) (vR vB:Value) (PV IV TV:Nat->Value) (YS:Nat->List (qN × Value)),i<=F.blocks.length/\s29=.int .i64 (i:Int)/\OutL HT w1 wq G lab F ph i vR vB PV IV TV YS ((zL F ph i).map (rgT F))) (λ s29 _=>F.blocks.length - (intOf s29).toNat)
  case atStart=>exact ⟨0,_,_,_,_,_,_,_,Nat.zero_le _,rfl,rD.out⟩
  case round =>
   obtain ⟨i,lab,vR,vB,PV,IV,TV,YS,hi,rfl,hO⟩:=hrel;have HO:=Jj hO
   by_cases tL:i<F.blocks.length
   ·(have hi0:(0:Int)<=i:=by omega);(have hi1:(i:Int)<F.blocks.length:=by omega);have wl:Below w.heap.size w wr:=wk.out.trans (hO.bel.mono wk.out.size);obtain ⟨b,o,kb,rfl,tK,-,⟨Ap,cp,ta,-⟩,⟨Ai,ci,tf,sq⟩,⟨tX,-⟩,⟨sb,-⟩,⟨At,ct,tQ,sn⟩⟩:=rO.out.at_ tL;have ta:=(q7 wl) _ _ ta;have tf:=(q7 wl) _ _ tf;have tX:=(q7 wl) _ _ tX;have sb:=(q7 wl) _ _ sb;have tQ:=(q7 wl) _ _ tQ
    have wQ:=sK.out.row.cell tL;obtain ⟨sX,tS⟩:=sd.out i tL;(obtain ⟨Aq,cq,hVq,sp⟩:=ql (sK.out.own i tL) (λ y hy=>by obtain ⟨x,hx,rfl⟩:=y4 hy;have:=tS x hx;unfold I64;omega));rw [hVq,qg] at wQ;have sc:=Jj wQ;obtain ⟨hill,tD⟩:=HL.out _ (Jz tK.out);have rL:=Jj tD;have rt:=Jj sp;have ru:=Jj sq
    have rq:=Jj sn;have rA:=Jj tS;have rK:=Jj tK;have tJ:Hid (qR F i=kb.ins):=Jj (qe tK.out);clear hO tD sp sq sn tS tK hVq;(go_upto_region 7 with fail);clear ta tf tX sb tQ;obtain ⟨B8,hB8⟩:∃ B8:Obj,B8=.cells #[.slice Ap kb.phis.length cp,.slice Ai kb.ins.length ci,.int .i64 kb.term.kind,.int .i64 kb.term.arg,.slice At kb.term.to.length ct] 51 (0,0):=⟨_,rfl⟩;obtain ⟨w4,tu⟩:∃ w4,w4=(wr.alloc (.cells #[.slice Ap kb.phis.length cp,.slice Ai kb.ins.length ci,.int .i64 kb.term.kind,.int .i64 kb.term.arg,.slice At kb.term.to.length ct] 51)).alloc (.cells #[.slice none 0 0,.slice none 0 0,.int .i64 kb.term.kind,.int .i64 kb.term.arg,.slice At kb.term.to.length ct] 51):=⟨_,rfl⟩
    obtain ⟨N8,hN8⟩:∃ N8,N8=wr.heap.size:=⟨_,rfl⟩;obtain ⟨lab4,sI,sN⟩:∃ lab4,Hid (OutL HT w1 w4 G lab4 F ph i vR vB PV IV TV YS ((zL F ph i++(ph i).take 0).map (rgT F)))/\Hid (CurB w4 w1.heap.size lab4 N8 (N8+1) B8 kb.term.kind kb.term.arg (.slice At kb.term.to.length ct) (.slice none 0 0) (.slice none 0 0) F ph i 0 0 []):=by
     have h1:=HO.out.below ((J5 _ wr).alloc (J4 _) (.cells #[.slice Ap kb.phis.length cp,.slice Ai kb.ins.length ci,.int .i64 kb.term.kind,.int .i64 kb.term.arg,.slice At kb.term.to.length ct] 51)) 0;have h2:=h1.below ((J5 _ _).alloc (J4 _) (.cells #[.slice none 0 0,.slice none 0 0,.int .i64 kb.term.kind,.int .i64 kb.term.arg,.slice At kb.term.to.length ct] 51)) 4;refine ⟨_,Jj (by rw [tu,List.take_zero,List.append_nil];exact h2),Jj ⟨by rw [tu,hN8,hB8];exact xG _ _ _,?_,by rw [tu,hN8];simpa using heap_alloc_new (wr.alloc _) _,?_,by rw [List.take_zero];exact LRw.nil _ _ _ _ _ _,⟨LRw.nil _ _ _ _ _ _,rfl,λ y hy=>by cases hy⟩⟩⟩
     ·rw [hN8,qT (by simp),ze (J4 _)]
     ·rw [hN8,ze (by simp)]
    (have hw48:∀ j,w4.cell? ⟨N8,j,none⟩=#[Value.slice Ap kb.phis.length cp,.slice Ai kb.ins.length ci,.int .i64 kb.term.kind,.int .i64 kb.term.arg,.slice At kb.term.to.length ct][j]?:=λ j=>q6 (by have h:=sN.out.b8;rwa [hB8] at h) j);have rS:=Jj hB8;have wQ:=(q7 (wk.out.trans (sI.out.bel.mono wk.out.size))) _ _ sc.out;rw [<- tu,<- hN8];clear tu hB8 hN8;(go_wp2_with fail);clear wQ
    go_loopw [42] (λ s42 wq=>∃ (j:Nat) (lab:Nat->Nat) (vR vp:Value),j<=(ph i).length/\s42=.int .i64 (j:Int)/\OutL HT w1 wq G lab F ph i vR vB PV IV TV YS ((zL F ph i++(ph i).take j).map (rgT F))/\CurB wq w1.heap.size lab N8 (N8+1) B8 kb.term.kind kb.term.arg (.slice At kb.term.to.length ct) vp (.slice none 0 0) F ph i j 0 []) (λ s42 _=>(ph i).length - (intOf s42).toNat)
    case atStart=>exact ⟨0,lab4,vR,_,Nat.zero_le _,rfl,sI.out,sN.out⟩
    case round =>
     obtain ⟨j,lab,vR,vp,hj,rfl,hO,hC⟩:=hrel;have HO:=Jj hO;have HC:=Jj hC;have wl:Below w.heap.size w wr:=wk.out.trans (hO.bel.mono wk.out.size)
     by_cases sy:j<(ph i).length
     ·(obtain ⟨bq,oq,xq,rfl,sm,sR,-⟩:=(SInts.keep (q7 wl) rt.out).int (k:=j) (by rw [qg];exact sy));obtain ⟨r,hr,rfl⟩:=jD sm.out;have hrR:=rA.out r (Jz hr);(have hr0:(0:Int)<=r:=by omega);obtain ⟨Av,cv,rfl⟩:=qX hC.rP.own;have b90:=q6 hC.b9 0;have th:=q1A (λ b hb=>(sd.out b hb).1) (λ b hb=>(HL.out b hb).1) i hi;rw [tr.out,Int.toNat_natCast] at th;have tw:((zL F ph i++(ph i).take j).map (rgT F)).length=bsO F ph i+j:=by rw [List.length_map,List.length_append,olds_len,List.length_take,Nat.min_eq_left hj]
      (have wR:((zL F ph i++(ph i).take j).map (rgT F)).length<=1000000:=by omega);(have rp:Hid ((zL F ph i++(ph i).take j).map (rgT F)++[rgT F r]=(zL F ph i++(ph i).take (j+1)).map (rgT F)):=Jj (by rw [qG hr];simp));have ww:=Jj (HO.out.below ((J5 _ wr).drew) 0);have sL:=Jj (HC.out.below ((J5 _ wr).drew) 0);obtain ⟨labd,wU⟩:∃ labd,labd=qk lab wr.heap.size 0:=⟨_,rfl⟩;rw [<- wU] at ww sL;have tg:=HO.out.bel
      have tE:=Jj (ky wr.drew w1.heap.size G N r vR _ F.regs (rgT F r) Ar cr ww.out.gb.lt ww.out.size ww.out.gb.c2 ((q7 tg.drew) _ _ sO.out) (by have:=wm.out;omega) ww.out.gb.fz (SInts.keep (q7 (wk.out.trans (tg.mono wk.out.size)).drew) HR.out) (q7r hrR) (by omega) ww.out.rR.own
       (λ e=>by have h1:=ww.out.rR.lb G e;rw [ww.out.lG] at h1;omega) wR (λ g o hA e=>by
        have h1:=ww.out.rR.lb g e;obtain ⟨bz,oz,xz,hAz,-,hz⟩:=HR.out.at_ (k:=r) hrR;have h2:g<w.heap.size:=by
         rw [hA] at hAz;simp only [J0,Addr.mk.injEq,and_true] at hAz;rw [hAz.1];exact block_lt_of_cell hz.1
        rw [ww.out.low0 (by have:=wm.out;omega)] at h1
        split at h1 <;> omega) (λ e=>by
        have h1:=ww.out.rR.lb N e;rw [ww.out.low0 (by have:=wm.out;omega)] at h1
        split at h1 <;> omega))
      have sj:=Jj tw;have HRR:=Jj hr;clear hO hC wl sm hrR tw tg wU hr;(go_upto_region 10 with fail);have hS0:wr.drew.cell? ⟨N8+1,0,none⟩=some (.slice Av j cv):=b90;clear b90 sR;refine qS (L:=9) (S:=λ w':World=>w'.cell? ⟨N8+1,0,none⟩=some (.slice Av j cv)) (by kernel_rfl) (by rfl) (by kernel_rfl) (by kernel_rfl) ?_;change wpAnyH _ _ _ _ _ _ _ _ (World.drew _);refine tk 0 46 hS0 ?_
      simp only [J6,aS,J1,J2];refine tk 1 47 hS0 ?_;simp only [J6,aS,J1,J2];refine tk 2 48 hS0 ?_;simp only [J6,aS,J1,J2];refine tk 3 49 hS0 ?_;simp only [J6,aS,J1,J2];refine zk (i:=4) (by kernel_rfl) (λ o ho K' hK=>?_);simp only [JZ,JX,JY,J0] at ho;subst ho
      (go_simp);refine tE.out.mono ?_;rintro e w5 hT;obtain ⟨rfl,vR',hO5,tq⟩:=ww.out.ver hT;have hC5:=sL.out.chg tq (λ k hk=>by omega) 2;rw [rp.out] at hO5;rw [sj.out];have tG:=Jj hO5;have wZ:=Jj hC5
      have hS5:w5.cell? ⟨N8+1,0,none⟩=some (.slice Av j cv):=q6 hC5.b9 0;clear hT hO5 hC5 tq tE;dsimp only;refine hK.out _ _ hS5 ?_;clear hK K';(try simp only [J6,aS,J1,J2]);refine tk 5 51 hS5 ?_;simp only [J6,aS,J1,J2];refine zk (i:=6) (by kernel_rfl) (λ o ho K' hK=>?_)
      (simp only [JZ,JX,JY,J0] at ho;subst ho);(go_simp);have sF:Below w5.heap.size w5 (w5.alloc (.cells #[.int .i64 ((bsO F ph i+j:Nat):Int),.slice none 0 0] 55)):=(J5 _ w5).alloc (J4 _) _;have tz:=zG wZ.out.b9;refine hK.out _ _ ((sF.cell (p:=⟨N8+1,0,none⟩) tz).trans hS5) ?_;clear hK K';refine zk (i:=7) (by kernel_rfl) (λ o ho K' hK=>?_);(simp only [JZ,JX,JY,J0] at ho;subst ho);refine step_append_lies _ (by rfl) _ _ _ (by rfl) w1.heap.size 55 i0 (.agg #[.int .i64 0,.slice none 0 0]) 2 32 Tryz.underlying48 HI.out.1 HI.out.2.1 HI.out.2.2.1 HI.out.2.2.2 (by rfl) (by decide) (.slice Av j cv) _ _ (by rfl) (wZ.out.rP.own.alloc _)
       ⟨w5.heap.size,0,none⟩ 1 1 (phC ((bsO F ph i+j:Nat):Int)) (by rfl) (by rfl) (zE _ #[.int .i64 ((bsO F ph i+j:Nat):Int),.slice none 0 0] _ (by simp)) (by simp [phC,Value.oneCell']) (by decide) (by unfold maxLen;omega) (by have:=tG.out.size;simp;omega) (by have:=tG.out.size;simp;omega) (w5.heap.size+1) (by simp) ?_
      intro g' cap w7 wh wg wj wJ;have wY:Hid (GroD w5 w7 (.slice Av j cv) (.slice (some ⟨g',0,none⟩) (j+1) cap)):=Jj (qq (w:=w5) wg wj);(have wM:w7.heap[N8+1]?=w5.heap[N8+1]?:=wY.out.block _ tz (λ e=>by have h1:=wZ.out.rP.lb _ e;rw [wZ.out.l9] at h1;omega));have hS7:w7.cell? ⟨N8+1,0,none⟩=some (.slice Av j cv):=(JK (a:=⟨N8+1,0,none⟩) wM).trans hS5;have tZ:w7.frozen? ⟨N8+1,0,none⟩=false:=(World.frozen?_of_block (a:=⟨N8+1,0,none⟩) wM).trans (qA wZ.out.b9 0);have tj:=Jj (wZ.out.pushP wY.out (q3R sy) wh);refine hK.out _ _ hS7 ?_;clear hK K' sF wh wg wj wJ wM tz;try simp only [J6,aS,J1,J2]
      refine tk 8 54 hS7 ?_;simp only [J6,aS,J1,J2];refine wpAnyH_done (by kernel_rfl) ?_ _;refine vL (by decide) (λ o ho K' hK=>?_);(simp only [JZ,JX,JY,J0] at ho;subst ho);(go_simp);refine hK.out _ _ ?_;clear hK K' hS7 hS0 hS5 tZ;go_wp2_with fail
      go_roundw
      case rel=>exact ⟨j+1,_,_,_,by omega,by go_num,tG.out.chg tj.out.2 (λ k hk=>by omega) _,tj.out.1⟩
      case measure=>simp [intOf];omega
     ·have rh:(ph i).take j=ph i:=List.take_of_length_le (by omega);(have tY:j=(ph i).length:=by omega);subst tY;(have b81:wr.cell? ⟨N8,1,none⟩=some (.slice Ai kb.ins.length ci):=by have h:=hC.b8;rw [rS.out] at h;exact q6 h 1);(have rC:Hid (OutL HT w1 wr G lab F ph i vR vB PV IV TV YS ((zL F ph i++(ph i++dsL (kb.ins.take 0))).map (rgT F))):=Jj (by have h:=hO;rw [rh] at h;simpa [dsL] using h));clear hO hC wl;(go_wp2_with fail);clear b81
      go_loopw [59] (λ s59 wq=>∃ (m:Nat) (lab:Nat->Nat) (vR vi:Value) (ys:List (qN × Value)),m<=kb.ins.length/\s59=.int .i64 (m:Int)/\OutL HT w1 wq G lab F ph i vR vB PV IV TV YS ((zL F ph i++(ph i++dsL (kb.ins.take m))).map (rgT F))/\CurB wq w1.heap.size lab N8 (N8+1) B8 kb.term.kind kb.term.arg (.slice At kb.term.to.length ct) vp vi F ph i (ph i).length m ys) (λ s59 _=>kb.ins.length - (intOf s59).toNat)
      case atStart=>exact ⟨0,lab,vR,_,[],Nat.zero_le _,rfl,rC.out,HC.out⟩
      case round =>
       obtain ⟨m,lab,vR,vi,ys,hm,rfl,hO,hC⟩:=hrel;have HO:=Jj hO;have HC:=Jj hC;have wl:Below w.heap.size w wr:=wk.out.trans (hO.bel.mono wk.out.size)
       by_cases r9:m<kb.ins.length
       ·obtain ⟨bi,oi,x,rfl,hx,-,⟨h0,-⟩,⟨h1,-⟩,⟨Aa,ca,h2,ss⟩,⟨h3,-⟩,⟨h4,-⟩⟩:=ru.out.at_ r9;have h0:=(q7 wl) _ _ h0;have h1:=(q7 wl) _ _ h1;have h2:=(q7 wl) _ _ h2;have h3:=(q7 wl) _ _ h3;have h4:=(q7 wl) _ _ h4;have hxd:=rL.out x (Jz hx.out);have HX:=Jj hx.out;have rm:Hid ((qR F i)[m]?=some x):=Jj (by rw [tJ.out];exact hx.out)
        have rx:=Jj ss;have th:=q1A (λ b hb=>(sd.out b hb).1) (λ b hb=>(HL.out b hb).1) i hi;rw [tr.out,Int.toNat_natCast] at th;have sB:=xv (kb.ins.take m);rw [List.length_take,Nat.min_eq_left hm] at sB;(have tw:((zL F ph i++(ph i++dsL (kb.ins.take m))).map (rgT F)).length=bsO F ph i+(ph i).length+(dsL (kb.ins.take m)).length:=by rw [List.length_map,List.length_append,List.length_append,olds_len];omega);(have wR:((zL F ph i++(ph i++dsL (kb.ins.take m))).map (rgT F)).length<=1000000:=by omega);obtain ⟨N13,hN13⟩:∃ N13,N13=wr.heap.size:=⟨_,rfl⟩;obtain ⟨wB,hwB⟩:∃ wB,wB=wr.alloc (.cells #[.int .i64 x.op,.int .i64 x.dst,.slice Aa x.args.length ca,.int .i64 x.imm,.int .i64 x.fn] 53):=⟨_,rfl⟩
        (have hbB:Below wr.heap.size wr wB:=by rw [hwB];exact (J5 _ _).alloc (J4 _) _);(have b13:wB.heap[N13]?=some (.cells #[.int .i64 x.op,.int .i64 x.dst,.slice Aa x.args.length ca,.int .i64 x.imm,.int .i64 x.fn] 53 (0,0)):=by rw [hwB,hN13];exact heap_alloc_new _ _);obtain ⟨labB,wu,sM,tH⟩:∃ labB,Hid (OutL HT w1 wB G labB F ph i vR vB PV IV TV YS ((zL F ph i++(ph i++dsL (kb.ins.take m))).map (rgT F)))/\Hid (CurB wB w1.heap.size labB N8 (N8+1) B8 kb.term.kind kb.term.arg (.slice At kb.term.to.length ct) vp vi F ph i (ph i).length m ys)/\Hid (labB N13=6) :=
         ⟨_,Jj (HO.out.below hbB 6),Jj (HC.out.below hbB 6),Jj (by rw [hN13];exact ze (J4 _))⟩
        have wT:=Jj b13;have tg:=wu.out.bel
        have tE:Hid (0<=x.dst->Calls Tryz.prog 59 #[.int .i64 x.dst,.pointer (some ⟨G,0,none⟩),.pointer (some ⟨N,0,none⟩)] wB (q30 wB w1.heap.size G vR ((zL F ph i++(ph i++dsL (kb.ins.take m))).map (rgT F)) (rgT F x.dst.toNat))):=Jj (λ hd=>by
         obtain ⟨r,hr⟩:∃ r:Nat,x.dst=(r:Int):=⟨x.dst.toNat,by omega⟩;(have hrR:r<F.regs.length:=by omega);rw [hr,Int.toNat_natCast];exact ky wB w1.heap.size G N r vR _ F.regs (rgT F r) Ar cr wu.out.gb.lt wu.out.size wu.out.gb.c2 ((q7 tg) _ _ sO.out) (by have:=wm.out;omega) wu.out.gb.fz (SInts.keep (q7 (wk.out.trans (tg.mono wk.out.size))) HR.out) (q7r hrR) (by omega) wu.out.rR.own
          (λ e=>by have h1:=wu.out.rR.lb G e;rw [wu.out.lG] at h1;omega) wR (λ g o hA e=>by
           have h1:=wu.out.rR.lb g e;obtain ⟨bz,oz,xz,hAz,-,hz⟩:=HR.out.at_ (k:=r) hrR;have h2:g<w.heap.size:=by
            rw [hA] at hAz;simp only [J0,Addr.mk.injEq,and_true] at hAz;rw [hAz.1];exact block_lt_of_cell hz.1
           rw [wu.out.low0 (by have:=wm.out;omega)] at h1
           split at h1 <;> omega) (λ e=>by
           have h1:=wu.out.rR.lb N e;rw [wu.out.low0 (by have:=wm.out;omega)] at h1
           split at h1 <;> omega))
        have sj:=Jj tw;have xd:=q6 b13 1;clear hO hC wl tw wR sB th tg hx ss hbB;(go_upto_region 15 with fail);rw [<- hwB,<- hN13];clear h0 h1 h2 h3 h4 hwB hN13 b13;(go_upto_if 65 with fail);go_cut [59] (λ s59 wc=>∃ (lab':Nat->Nat) (vR':Value),s59=.int .i64 (m:Int)/\OutL HT w1 wc G lab' F ph i vR' vB PV IV TV YS ((zL F ph i++(ph i++dsL (kb.ins.take (m+1)))).map (rgT F))/\CurB wc w1.heap.size lab' N8 (N8+1) B8 kb.term.kind kb.term.arg (.slice At kb.term.to.length ct) vp vi F ph i (ph i).length m ys/\wc.heap[N13]?=some (.cells #[.int .i64 x.op,.int .i64 (q2V F ph i m x).dst,.slice Aa x.args.length ca,.int .i64 x.imm,.int .i64 x.fn] 53 (0,0)))
        case first =>
         by_cases hd:0<=x.dst
         ·have HV:=Jj (tE.out hd);have sh:=Jj (q45 HX.out);(have si:Hid ((q2V F ph i m x).dst=((bsO F ph i+(ph i).length+(dsL (kb.ins.take m)).length:Nat):Int)):=Jj (by show (if 0<=x.dst then _ else _)=_;rw [if_pos hd,tJ.out]));(go_wp2_with (go_at_call 59;refine HV.out.mono ?_;rintro e w5 hT;obtain ⟨rfl,vR',hO5,tq⟩:=wu.out.ver hT;have tG:=Jj hO5;have wZ:=Jj (sM.out.chg tq (λ k hk=>by omega) 2);have tM:=(tq.block N13 (zG wT.out) (by rw [tH.out];omega)).trans wT.out;have x5:=q6 tM 1;have f5:=qA tM 1;have rU:=Jj tM;have td:qk labB wB.heap.size 2 N13=6:=(qT (zG wT.out)).trans tH.out;have rJ:=Jj td;clear hT hO5 tq tM td;rw [sj.out]));(go_meet);have sC:∀ u,Chg w5 (w5.setCell ⟨N13,1,none⟩ u) (qk labB wB.heap.size 2) (λ k=>k=6):=λ u=>Chg.set (λ k=>k=6) rJ.out 1 u;refine ⟨qk (qk labB wB.heap.size 2) w5.heap.size 0,vR',rfl,?_,wZ.out.chg (sC _) (λ k hk=>by omega) 0,?_⟩
          ·have h:=tG.out.chg (sC (.int .i64 ((bsO F ph i+(ph i).length+(dsL (kb.ins.take m)).length:Nat):Int))) (λ k hk=>by omega) 0;(have e:(zL F ph i++(ph i++dsL (kb.ins.take m))).map (rgT F)++[rgT F x.dst.toNat]=(zL F ph i++(ph i++dsL (kb.ins.take (m+1)))).map (rgT F):=by rw [sh.out,if_pos hd];simp);rw [e] at h;exact h
          ·rw [si.out];exact qK _ rU.out
         ·have sh:=Jj (q45 HX.out);(have si:Hid ((q2V F ph i m x).dst=x.dst):=Jj (by show (if 0<=x.dst then _ else _)=_;rw [if_neg hd]));(go_wp2_with fail);(go_meet);(refine ⟨labB,vR,rfl,?_,sM.out,by rw [si.out];exact wT.out⟩);rw [sh.out,if_neg (show ¬ 0<=x.dst by omega),List.append_nil];exact wu.out
        case rest =>
         obtain ⟨lab',vR',rfl,hO,hC,wv⟩:=hcut;have sJ:=Jj hO;have tP:=Jj hC;have sk:ys.length=m:=by
          have h:=congrArg List.length hC.rI.are;rw [List.length_map,List.length_take] at h;rw [h,Nat.min_eq_left];unfold qd;rw [List.length_mapIdx,tJ.out];exact hm
         have sH:=Jj sk;obtain ⟨Av,cv,rfl⟩:=qX hC.rI.row.own;have b91:=q6 hC.b9 1;have f91:=qA hC.b9 1;have z0:=q6 wv 0;have z1:=q6 wv 1;have z2:=q6 wv 2;have z3:=q6 wv 3;have z4:=q6 wv 4
         (have rz:Hid (RdV wc lab' (.slice Aa x.args.length ca) (q2V F ph i m x).args):=Jj (RdV.of_base (w:=w) ⟨Aa,ca,rfl,rx.out⟩ (wk.out.trans (hO.bel.mono wk.out.size)) (λ k hkT hk=>by rw [hO.low0 (by have:=wm.out;omega)];exact if_neg (by omega))));have tz:=zG hC.b9;clear hO hC wv tE sk;go_wp2_with (at_builtin;refine wpList_append_lies _ rfl (.tmp 72) (.tmp 74) 49 rfl w1.heap.size 53 j0 (.agg #[.int .i64 0,.int .i64 0,.slice none 0 0,.int .i64 0,.int .i64 0]) 5 56 Tryz.underlying49 HJ.out.1 HJ.out.2.1 HJ.out.2.2.1 HJ.out.2.2.2 (by rfl) (by decide) _ _ _ rfl (tP.out.rI.row.own.alloc _) ⟨wc.heap.size,0,none⟩ 1 1 (inC (q2V F ph i m x,.slice Aa x.args.length ca)) rfl rfl ?c1 ?c2 (by omega) ?c3 ?c4 ?c5 (wc.heap.size+1) ?c6 ?_)
         case c1=>first | exact λ j u h=>h | exact zE wc _ _ rfl
         case c2=>intro y hy;simp only [inC,List.mem_cons,List.not_mem_nil,or_false] at hy;rcases hy with rfl | rfl | rfl | rfl | rfl <;> rfl
         case c3=>have:=sH.out;unfold maxLen;omega
         case c4=>have:=sH.out;omega
         case c5=>have:=sJ.out.size;simp;omega
         (try (case c6=>simp));intro g7 cap7 w7 wh wg wj wJ;have wY:Hid (GroD wc w7 (.slice Av ys.length cv) (.slice (some ⟨g7,0,none⟩) (ys.length+1) cap7)):=Jj (qq (w:=wc) wg (by simpa using wj));(have wM:w7.heap[N8+1]?=wc.heap[N8+1]?:=wY.out.block _ tz (λ e=>by have h1:=tP.out.rI.row.lb _ e;rw [tP.out.l9] at h1;omega));have y91:=(JK (a:=⟨N8+1,1,none⟩) wM).trans b91;have g91:=(World.frozen?_of_block (a:=⟨N8+1,1,none⟩) wM).trans f91;have tj:=Jj (tP.out.pushI wY.out (q0d rm.out) rz.out wh);clear wh wg wj wJ wM b91 f91 z0 z1 z2 z3 z4;go_wp2_with fail
         go_roundw
         case rel=>exact ⟨m+1,_,vR',_,_,by omega,by go_num,sJ.out.chg tj.out.2 (λ k hk=>by omega) _,tj.out.1⟩
         case measure=>simp [intOf];omega
       ·have r8:kb.ins.take m=kb.ins:=List.take_of_length_le (by omega);(have tV:m=kb.ins.length:=by omega);subst tV;(have tF:Hid (OutL HT w1 wr G lab F ph i vR vB PV IV TV YS ((zL F ph (i+1)).map (rgT F))):=Jj (by have h:=hO;rw [r8] at h;rw [q6f,tJ.out];exact h));(have rN:Hid (CurB wr w1.heap.size lab N8 (N8+1) B8 kb.term.kind kb.term.arg (.slice At kb.term.to.length ct) vp vi F ph i (ph i).length (qR F i).length ys):=Jj (by rw [tJ.out];exact hC));(have ry:Hid (RdV wr lab (.slice At kb.term.to.length ct) kb.term.to):=Jj (RdV.of_base (w:=w) ⟨At,ct,rfl,rq.out⟩ wl (λ k hkT hk=>by rw [hO.low0 (by have:=wm.out;omega)];exact if_neg (by omega))));obtain ⟨Avp,cvp,sS⟩:=qX hC.rP.own;obtain ⟨Avi,cvi,sU⟩:=qX hC.rI.row.own;obtain ⟨Ab,cb,rfl⟩:=qX hO.o.rB.own
        have z0:=q6 hC.b9 0;have z1:=q6 hC.b9 1;have z2:=q6 hC.b9 2;have z3:=q6 hC.b9 3;have z4:=q6 hC.b9 4;have g3:=hO.gb.c3;have f3:=hO.gb.fz 3;have hGl:=hO.gb.lt;have rn:Hid ((qP F i).term=⟨kb.term.kind,kb.term.arg,kb.term.to⟩):=Jj (by unfold qP;rw [JJ,rK.out.out];rfl)
        subst sS sU;clear hO hC wl HO HC;go_wp2_with (at_builtin;refine wpList_append_lies _ rfl (.tmp 79) (.tmp 81) 28 rfl w1.heap.size 51 k0 (.agg #[.slice none 0 0,.slice none 0 0,.int .i64 0,.int .i64 0,.slice none 0 0]) 5 88 Tryz.underlying28 tO.out.1 tO.out.2.1 tO.out.2.2.1 tO.out.2.2.2 (by rfl) (by decide) _ _ _ rfl (tF.out.o.rB.own.alloc _) ⟨wr.heap.size,0,none⟩ 1 1 (bkC (.slice Avp (ph i).length cvp) (.slice Avi ys.length cvi) kb.term.kind kb.term.arg (.slice At kb.term.to.length ct)) rfl rfl ?c1 ?c2 (by omega) ?c3 ?c4 ?c5 (wr.heap.size+1) ?c6 ?_)
        case c1=>first | exact λ j u h=>h | exact zE wr _ _ rfl
        case c2=>intro y hy;simp only [bkC,List.mem_cons,List.not_mem_nil,or_false] at hy;rcases hy with rfl | rfl | rfl | rfl | rfl <;> rfl
        case c3=>unfold maxLen;omega
        case c4=>omega
        case c5=>have:=tF.out.size;simp;omega
        (try (case c6=>simp));intro g7 cap7 w7 wh wg wj wJ;have wY:Hid (GroD wr w7 (.slice Ab i cb) (.slice (some ⟨g7,0,none⟩) (i+1) cap7)):=Jj (qq (w:=wr) wg (by simpa using wj));(have hbG:w7.heap[G]?=wr.heap[G]?:=wY.out.block _ hGl (λ e=>by have h1:=tF.out.o.rB.lb _ e;rw [tF.out.lG] at h1;omega));have y3:=(JK (a:=⟨G,3,none⟩) hbG).trans g3;have fy3:=(World.frozen?_of_block (a:=⟨G,3,none⟩) hbG).trans f3;have tj:=Jj (tF.out.push rN.out ry.out rn.out wY.out wh);clear wh wg wj wJ hbG g3 f3 z0 z1 z2 z3 z4;go_wp2_with fail
        go_roundw
        case rel=>exact ⟨i+1,_,vR,_,_,_,_,_,by omega,by go_num,tj.out⟩
        case measure=>simp [intOf];omega
   ·(have rj:i=F.blocks.length:=by omega);subst rj;have g0:=hO.gb.c0;have g1:=hO.gb.c1;have g2:=hO.gb.c2;have g3:=hO.gb.c3;rw [tr.out] at g0;obtain ⟨A2,c2,hvR⟩:=qX hO.rR.own;obtain ⟨A3,c3,hvB⟩:=qX hO.o.rB.own
    (have hbN:=(hO.bel.block (N+1) (by have:=wm.out;omega)).trans rF.out);have y0:=q6 hbN 0;have y1:=q6 hbN 1;have y2:=q6 hbN 2;have y3:=q6 hbN 3;have e0:=qA hbN 0;have e1:=qA hbN 1;have e2:=qA hbN 2;have e3:=qA hbN 3
    have rQ:=Jj hbN;(have hGN:G≠N+1:=by have:=wm.out;have:=hO.hG;omega);rw [List.length_map] at hvR;subst hvR hvB;clear hO hbN;(go_wp2_with fail);clear g0 g1 g2 g3 y0 y1 y2 y3 e0 e1 e2 e3;have hbkF:=qp rQ.out (.int .i64 (p:Int)) (.int .i64 F.result) (.slice A2 (zL F ph F.blocks.length).length c2) (.slice A3 F.blocks.length c3);have td:lab (N+1)=5:=by rw [HO.out.low (N+1) (by have:=wm.out;omega),if_pos (by have:=wm.out;omega)]
    have hcF:Chg wr ((((wr.setCell ⟨N+1,0,none⟩ (.int .i64 (p:Int))).setCell ⟨N+1,1,none⟩ (.int .i64 F.result)).setCell ⟨N+1,2,none⟩ (.slice A2 (zL F ph F.blocks.length).length c2)).setCell ⟨N+1,3,none⟩ (.slice A3 F.blocks.length c3)) lab (λ k=>k=5) :=
     ((((FrX.refl _ _).setCell (p:=⟨N+1,0,none⟩) (.inl td) _).setCell (p:=⟨N+1,1,none⟩) (.inl td) _).setCell (p:=⟨N+1,2,none⟩) (.inl td) _).setCell (p:=⟨N+1,3,none⟩) (.inl td) _
    generalize ((((wr.setCell ⟨N+1,0,none⟩ (.int .i64 (p:Int))).setCell ⟨N+1,1,none⟩ (.int .i64 F.result)).setCell ⟨N+1,2,none⟩ (.slice A2 (zL F ph F.blocks.length).length c2)).setCell ⟨N+1,3,none⟩ (.slice A3 F.blocks.length c3))=wF at *;(refine bodyPost_ret (results_cell_row rfl _ _ (N+1) 30 #[.int .i64 (p:Int),.int .i64 F.result,.slice A2 (zL F ph F.blocks.length).length c2,.slice A3 F.blocks.length c3] (0,0) _ (by rfl) hbkF Tryz.underlying30 (by rfl) (by obtain ⟨i,h1,_,h3,_⟩:=info_parts Tryz.info30;rw [h1];exact congrArg some h3)) rfl ?_);have su:∀ y:Nat,qk lab wr.heap.size 0 y≠7->(λ k:Nat=>if qk lab wr.heap.size 0 k=7 then 1 else qk lab wr.heap.size 0 k) y=qk lab wr.heap.size 0 y:=λ y hy=>if_neg hy;refine ⟨w1.heap.size,λ k=>if qk lab wr.heap.size 0 k=7 then 1 else qk lab wr.heap.size 0 k,_,_,PV,IV,TV,YS,by rw [tr.out],wk.out.size,λ k hk=>?_,?_,(HO.out.rR.chg hcF (by omega)).re su (by decide),(HO.out.o.chg hcF (by omega) (by omega) (λ b hb=>⟨by omega,by omega⟩)).re su⟩
    ·(have hx:qk lab wr.heap.size 0 k=if k<HT then 7 else 0:=by rw [qT (by have:=HO.out.size;have:=wk.out.size;omega)];exact HO.out.low0 (by have:=wm.out;omega));show (if qk lab wr.heap.size 0 k=7 then 1 else qk lab wr.heap.size 0 k)<=1/\((if qk lab wr.heap.size 0 k=7 then 1 else qk lab wr.heap.size 0 k)=0->HT<=k);rw [hx]
     by_cases e:k<HT
     ·rw [if_pos e];simp
     ·rw [if_neg e];simp;omega
    ·exact wk.out.trans ((HO.out.bel.mono wk.out.size).trans ⟨hcF.os,hcF.tape,hcF.output,hcF.size,λ k hk=>hcF.block k (by have:=HO.out.size;have:=wk.out.size;omega) (by rw [HO.out.low0 (by have:=wm.out;omega)];split <;> omega)⟩)
end Go.Proofs.YtfoggldjjnabcaaGreatDoor
