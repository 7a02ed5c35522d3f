/- The program's come: a block that is reached is given a place. -/
import Derived.Test.YtfoggldjjnabcaaGreatDoorModAK
import Derived.Test.YtfoggldjjnabcaaGreatDoorDmPK
set_option linter.unusedVariables false
set_option linter.unusedSimpArgs false
namespace Go.Proofs.YtfoggldjjnabcaaGreatDoor
open Go.ChangeShapes Go.WideShapes Go.RowKit Go.Deep
def jx (op:List (Int × Nat)):List Value:=op.flatMap λ e=>[.int .i64 e.1,.int .i64 (e.2:Int)]
def tvU (vb vf va vo:Value) (V:Nat->Value):Nat->Value:=λ i=>if i=0 then vb else if i=1 then vf else if i=2 then va else if i=3 then vo else V (i - 4)
def tvT (k:Nat) (bl:Nat->Nat) (frm:Nat->Int) (V:Nat->Value) (ah:Nat->List Nat) (op:List (Int × Nat)):Nat->RowD:=λ i =>
 if i=0 then ⟨3,1,k,(List.range k).map λ v=>.int .i64 (bl v:Int)⟩
 else if i=1 then ⟨3,1,k,(List.range k).map λ v=>.int .i64 (frm v)⟩
 else if i=2 then ⟨27,1,k,(List.range k).map V⟩
 else if i=3 then ⟨185,2,op.length,jx op⟩
 else ⟨3,1,(ah (i - 4)).length,(zs (ah (i - 4))).map (Value.int .i64)⟩
structure TvM (w:World) (B P K n k:Nat) (vb vf va vo:Value) (V:Nat->Value) (bl:Nat->Nat) (frm:Nat->Int) (ah:Nat->List Nat) (pl:Nat->Int) (op:List (Int × Nat)):Prop where
 box:w.heap[B]?=some (.cells #[vb,vf,va] 147)
 plr:w.rowIs P 3 n (λ b=>.int .i64 (pl b))
 pool:PoolD w K (k+4) (tvU vb vf va vo V) (tvT k bl frm V ah op)
 lt:B<K/\P<K/\B≠P
theorem TvM.rb {w:World} {B P K n k:Nat} {vb vf va vo:Value} {V:Nat->Value} {bl:Nat->Nat} {frm:Nat->Int} {ah:Nat->List Nat} {pl:Nat->Int} {op:List (Int × Nat)} (h:TvM w B P K n k vb vf va vo V bl frm ah pl op):w.ownsRow K 3 1 vb k ((List.range k).map λ v=>.int .i64 (bl v:Int)):=h.pool.own 0 (by omega)
theorem TvM.rf {w:World} {B P K n k:Nat} {vb vf va vo:Value} {V:Nat->Value} {bl:Nat->Nat} {frm:Nat->Int} {ah:Nat->List Nat} {pl:Nat->Int} {op:List (Int × Nat)} (h:TvM w B P K n k vb vf va vo V bl frm ah pl op):w.ownsRow K 3 1 vf k ((List.range k).map λ v=>.int .i64 (frm v)):=h.pool.own 1 (by omega)
theorem TvM.ra {w:World} {B P K n k:Nat} {vb vf va vo:Value} {V:Nat->Value} {bl:Nat->Nat} {frm:Nat->Int} {ah:Nat->List Nat} {pl:Nat->Int} {op:List (Int × Nat)} (h:TvM w B P K n k vb vf va vo V bl frm ah pl op):w.ownsRow K 27 1 va k ((List.range k).map V):=h.pool.own 2 (by omega)
theorem TvM.ro {w:World} {B P K n k:Nat} {vb vf va vo:Value} {V:Nat->Value} {bl:Nat->Nat} {frm:Nat->Int} {ah:Nat->List Nat} {pl:Nat->Int} {op:List (Int × Nat)} (h:TvM w B P K n k vb vf va vo V bl frm ah pl op):w.ownsRow K 185 2 vo op.length (jx op):=h.pool.own 3 (by omega)
theorem TvM.rV {w:World} {B P K n k:Nat} {vb vf va vo:Value} {V:Nat->Value} {bl:Nat->Nat} {frm:Nat->Int} {ah:Nat->List Nat} {pl:Nat->Int} {op:List (Int × Nat)} (h:TvM w B P K n k vb vf va vo V bl frm ah pl op) {v:Nat} (hv:v<k):w.ownsRow K 3 1 (V v) (ah v).length ((zs (ah v)).map (Value.int .i64)):=by
 have:=h.pool.own (v+4) (by omega);unfold q7P tvU tvT at this;simpa using this
theorem TvM.go {w w':World} {B P K n k:Nat} {vb vf va vo:Value} {V:Nat->Value} {bl:Nat->Nat} {frm:Nat->Int} {ah:Nat->List Nat} {pl:Nat->Int} {op:List (Int × Nat)} (h:TvM w B P K n k vb vf va vo V bl frm ah pl op) (hb:Below w.heap.size w w'):TvM w' B P K n k vb vf va vo V bl frm ah pl op :=
 ⟨(hb.block B (Array.getElem?_eq_some_iff.1 h.box).1).trans h.box,h.plr.of_block (hb.block P h.plr.lt),h.pool.go λ g _ hg=>hb.block g hg,h.lt⟩
theorem TvM.grow {w w1:World} {B P K n k:Nat} {vb vf va vo:Value} {V:Nat->Value} {bl:Nat->Nat} {frm:Nat->Int} {ah:Nat->List Nat} {pl:Nat->Int} {op:List (Int × Nat)} (h:TvM w B P K n k vb vf va vo V bl frm ah pl op)
  {t:Nat} {v':Value} {r:RowD} (ht:t<k+4) (hg:GroD w w1 (tvU vb vf va vo V t) v') (ho:q7P w1 K v' r) :
  w1.heap[B]?=some (.cells #[vb,vf,va] 147)/\w1.rowIs P 3 n (λ b=>.int .i64 (pl b))/\PoolD w1 K (k+4) (qM (tvU vb vf va vo V) t v') (qM (tvT k bl frm V ah op) t r):=by
 have wY:=h.lt;have hl:=(h.pool.own t ht).lt;exact ⟨(hg.block B (Array.getElem?_eq_some_iff.1 h.box).1 (λ e=>by have:=(hl B e).1;omega)).trans h.box,h.plr.of_block (hg.block P h.plr.lt (λ e=>by have:=(hl P e).1;omega)),h.pool.gro ht hg ho⟩
theorem q2c (f:Nat->Nat) (k x:Nat):((List.range k).map (λ v=>Value.int .i64 (f v:Int))++[.int .i64 (x:Int)])=(List.range (k+1)).map λ v=>.int .i64 ((qM f k x v:Nat):Int):=by
 rw [ym];exact List.map_congr_left λ v _=>by unfold qM;split <;> rfl
theorem q2d (f:Nat->Int) (k:Nat) (x:Int):((List.range k).map (λ v=>Value.int .i64 (f v))++[.int .i64 x])=(List.range (k+1)).map λ v=>.int .i64 (qM f k x v):=by
 rw [ym];exact List.map_congr_left λ v _=>by unfold qM;split <;> rfl
theorem q17 {k:Nat} {vb vf va vo v0 v1 v2:Value} {V:Nat->Value} :
  ∀ i,i<k+1+4->qM (qM (qM (qM (tvU vb vf va vo V) 0 v0) 1 v1) 2 v2) (k+4) (.slice none 0 0) i=tvU v0 v1 v2 vo (qM V k (.slice none 0 0)) i:=by
 intro i hi;rcases Nat.lt_or_ge i 4 with h | h
 ·rcases (by omega:i=0\/i=1\/i=2\/i=3) with rfl | rfl | rfl | rfl <;> simp [qM,tvU] <;> omega
 ·obtain ⟨j,rfl⟩:∃ j,i=j+4:=⟨i - 4,by omega⟩
  by_cases e:j=k
  ·subst e;simp [qM,tvU]
  ·simp [qM,tvU,e]
theorem q5F {k:Nat} {V:Nat->Value} {bl:Nat->Nat} {frm:Nat->Int} {ah:Nat->List Nat} {op:List (Int × Nat)} {et:Nat} {ef:Int} :
  ∀ i,i<k+1+4->qM (qM (qM (qM (tvT k bl frm V ah op) 0 ⟨3,1,k+1,(List.range (k+1)).map λ v=>.int .i64 ((qM bl k et v:Nat):Int)⟩) 1 ⟨3,1,k+1,(List.range (k+1)).map λ v=>.int .i64 (qM frm k ef v)⟩) 2 ⟨27,1,k+1,(List.range (k+1)).map (qM V k (.slice none 0 0))⟩) (k+4) ⟨3,1,0,[]⟩ i =
   tvT (k+1) (qM bl k et) (qM frm k ef) (qM V k (.slice none 0 0)) (qM ah k []) op i:=by
 intro i hi;rcases Nat.lt_or_ge i 4 with h | h
 ·rcases (by omega:i=0\/i=1\/i=2\/i=3) with rfl | rfl | rfl | rfl <;> simp [qM,tvT] <;> omega
 ·obtain ⟨j,rfl⟩:∃ j,i=j+4:=⟨i - 4,by omega⟩
  by_cases e:j=k
  ·subst e;simp [qM,tvT,zs]
  ·simp [qM,tvT,e]
def q6C (m:Nat) (U:Nat->Value) (b:Nat):Prop:=∀ i,i<m->(U i).ownBlock≠some b
structure FrD (B m m':Nat) (U U':Nat->Value) (w w':World):Prop where
 os:w'.os=w.os
 tape:w'.tape=w.tape
 output:w'.output=w.output
 size:w.heap.size<=w'.heap.size
 block:∀ b,b<w.heap.size->b≠B->q6C m U b->w'.heap[b]?=w.heap[b]?/\q6C m' U' b
theorem FrD.trans {B m m' m'':Nat} {U U' U'':Nat->Value} {a b c:World} (h:FrD B m m' U U' a b) (k:FrD B m' m'' U' U'' b c):FrD B m m'' U U'' a c :=
 ⟨k.os.trans h.os,k.tape.trans h.tape,k.output.trans h.output,Nat.le_trans h.size k.size,λ i hi hb hf=>by
  obtain ⟨h1,h2⟩:=h.block i hi hb hf;obtain ⟨h3,h4⟩:=k.block i (Nat.lt_of_lt_of_le hi h.size) hb h2
  exact ⟨h3.trans h1,h4⟩⟩
theorem FrD.of_below {B m:Nat} {U:Nat->Value} {w w':World} (h:Below w.heap.size w w'):FrD B m m U U w w':=⟨h.os,h.tape,h.output,h.size,λ b hb _ hf=>⟨h.block b hb,hf⟩⟩
theorem FrD.gro {B m t:Nat} {U:Nat->Value} {v':Value} {w w':World} (ht:t<m) (hg:GroD w w' (U t) v'):FrD B m m U (qM U t v') w w' :=
 ⟨hg.os,hg.tape,hg.output,hg.size,λ b hb _ hf=>⟨hg.block b hb (hf t ht),λ i hi e=>by
  by_cases ei:i=t
  ·subst ei;rw [qF] at e;rcases hg.own b e with h1 | h1
   ·exact hf i hi h1
   ·omega
  ·rw [q8 _ _ ei] at e;exact hf i hi e⟩⟩
theorem FrD.set {B m i:Nat} {U:Nat->Value} (w:World) (v:Value):FrD B m m U U w (w.setCell ⟨B,i,none⟩ v) :=
 ⟨rfl,rfl,rfl,by simp,λ b _ hb hf=>⟨JQ _ _ _ _ hb,hf⟩⟩
theorem FrD.drew {B m m':Nat} {U U':Nat->Value} {w w':World} (h:FrD B m m' U U' w w'):FrD B m m' U U' w w'.drew:=⟨h.os,h.tape,h.output,h.size,h.block⟩
theorem FrD.congr {B m m':Nat} {U U' U'':Nat->Value} {w w':World} (h:FrD B m m' U U' w w') (he:∀ i,i<m'->U'' i=U' i):FrD B m m' U U'' w w' :=
 ⟨h.os,h.tape,h.output,h.size,λ b hb hB hf=>⟨(h.block b hb hB hf).1,λ i hi=>by rw [he i hi];exact (h.block b hb hB hf).2 i hi⟩⟩
theorem FrD.more {B m:Nat} {U:Nat->Value} (w:World):FrD B m (m+1) U (qM U m (.slice none 0 0)) w w :=
 ⟨rfl,rfl,rfl,J4 _,λ b _ _ hf=>⟨rfl,λ i hi e=>by
  by_cases ei:i=m
  ·subst ei;rw [qF] at e;cases e
  ·rw [q8 _ _ ei] at e;exact hf i (by omega) e⟩⟩
def qBP (B P K n k:Nat) (vb vf va vo:Value) (V:Nat->Value) (bl:Nat->Nat) (frm:Nat->Int) (ah:Nat->List Nat) (pl:Nat->Int) (op:List (Int × Nat)) (ef:Int) (et:Nat) (w:World) (e:Ending) (w':World):Prop :=
 ∃ vb' vf' va',e=.returned (.int .i64 (k:Int))/\TvM w' B P K n (k+1) vb' vf' va' vo (qM V k (.slice none 0 0)) (qM bl k et) (qM frm k ef) (qM ah k []) pl op /\
  FrD B (k+4) (k+1+4) (tvU vb vf va vo V) (tvU vb' vf' va' vo (qM V k (.slice none 0 0))) w w'
set_option maxRecDepth 100000 in
set_option maxHeartbeats 8000000 in
theorem q8u (B P K n k:Nat) (vb vf va vo:Value) (V:Nat->Value) (bl:Nat->Nat) (frm:Nat->Int) (ah:Nat->List Nat) (pl:Nat->Int) (op:List (Int × Nat)) (ef:Int) (et:Nat) (w:World)
  (h:TvM w B P K n k vb vf va vo V bl frm ah pl op) (hk:k<=1000000) (hK:K<=w.heap.size) :
  Calls Tryz.prog 128 #[.pointer (some ⟨B,0,none⟩),.agg #[.int .i64 ef,.int .i64 (et:Int)]] w (qBP B P K n k vb vf va vo V bl frm ah pl op ef et w):=by
 obtain ⟨i0,hi,wW,wV,wU⟩:=info_parts Tryz.info3;have HI:=Jj (And.intro hi (And.intro wW (And.intro wV wU)));clear hi wW wV wU;obtain ⟨i1,hi,wW,wV,wU⟩:=info_parts Tryz.info27;have HJ:=Jj (And.intro hi (And.intro wW (And.intro wV wU)));clear hi wW wV wU;have tm:=Jj h;clear h;go_enter Tryz.func128,Tryz.ntmps128
 (go_upto_region 1 with fail);obtain ⟨w1,tP,tR,tS,wm,tB,-⟩:=named w #[.int .i64 ef,.int .i64 (et:Int)] 185;rw [<- tP];obtain ⟨N,hN⟩:∃ N,N=w.heap.size:=⟨_,rfl⟩;have hBw:B<w.heap.size:=(Array.getElem?_eq_some_iff.1 tm.out.box).1;have wX:=tm.out.go wm;obtain ⟨Ab,c0,rfl⟩:∃ A c,vb=.slice A k c:=by
  rcases wX.rb.2 with ⟨h1,h2⟩ | ⟨g,cap,cur,h1,-⟩
  ·exact ⟨_,_,by rw [h1,h2]⟩
  ·exact ⟨_,_,h1⟩
 have tK:=Jj wX;have wY:=tm.out.lt;have tp:=Jj (And.intro wY hBw);have tW:Hid (N≠B):=Jj (by omega);(have tJ:Hid (∀ i,i<k+4->(tvU (.slice Ab k c0) vf va vo V i).ownBlock≠some N/\(tvU (.slice Ab k c0) vf va vo V i).ownBlock≠some B):=Jj (λ i hi=>⟨λ e=>by have:=((tm.out.pool.own i hi).lt N e).2;omega,λ e=>by have:=((tm.out.pool.own i hi).lt B e).1;omega⟩));have tw:Hid (FrD B (k+4) (k+4) (tvU (.slice Ab k c0) vf va vo V) (tvU (.slice Ab k c0) vf va vo V) w w1):=Jj (FrD.of_below wm);have tQ:w1.cell? ⟨B,0,none⟩=some (.slice Ab k c0):=q6 wX.box 0;have cb:=tQ;have ce:w1.cell? ⟨N,1,none⟩=some (.int .i64 (et:Int)):=by rw [hN];exact tB 1 _ rfl
 (have ce0:w1.cell? ⟨N,0,none⟩=some (.int .i64 ef):=by rw [hN];exact tB 0 _ rfl);have tN:=Jj ce0;have wh:Hid (B<w1.heap.size/\N<w1.heap.size):=Jj (by omega);have wJ:Hid ((Value.slice Ab k c0).ownBlock≠some B):=Jj (tJ.out 0 (by omega)).2;have wM:Hid ((Value.slice Ab k c0).ownBlock≠some N):=Jj (tJ.out 0 (by omega)).1;(have tr:Hid (w1.frozen? ⟨B,0,none⟩=false):=Jj (by unfold World.frozen?;simp [wX.box]));(have hKw:K<=w1.heap.size:=by omega);rw [<- hN];clear tP tR tS wm tB wX ce0 wY hN
 (go_upto_region 2 with fail);clear tQ;refine qS (L:=11) (S:=λ w'=>w'.cell? ⟨B,0,none⟩=some (.slice Ab k c0)/\w'.cell? ⟨N,1,none⟩=some (.int .i64 (et:Int))) (by kernel_rfl) (by rfl) (by kernel_rfl) (by kernel_rfl) ?_;change wpAnyH _ _ _ _ _ _ _ _ (World.drew _);have hS:∀ w',Below w1.heap.size w1 w'->w'.cell? ⟨B,0,none⟩=some (.slice Ab k c0)/\w'.cell? ⟨N,1,none⟩=some (.int .i64 (et:Int)):=λ w' h=>⟨q7 h _ _ cb,q7 h _ _ ce⟩;have hS0:=hS w1.drew (J5 _ _).drew;clear cb ce;refine tk 0 11 hS0 ?_;simp only [J6,aS,J1,J2]
 refine tk 1 12 hS0 ?_;simp only [J6,aS,J1,J2];refine tk 2 13 hS0 ?_;simp only [J6,aS,J1,J2];refine tk 3 14 hS0 ?_;simp only [J6,aS,J1,J2];refine tk 4 15 hS0 ?_;simp only [J6,aS,J1,J2];refine tk 5 16 hS0 ?_
 simp only [J6,aS,J1,J2];refine tk 6 17 hS0 ?_;simp only [J6,aS,J1,J2];refine zk (i:=7) (by kernel_rfl) (λ o ho K' hK=>?_);(simp only [JZ,JX,JY,J0] at ho;subst ho);(go_simp);have td:Below w1.heap.size w1 (w1.alloc (.cells #[.int .i64 (et:Int)] 3)).drew:=((J5 _ w1).alloc (J4 _) _).drew;refine hK.out _ _ (hS _ td) ?_;clear hK K'
 refine zk (i:=8) (by kernel_rfl) (λ o ho K' hK=>?_);(simp only [JZ,JX,JY,J0] at ho;subst ho);refine step_append_lies _ (by rfl) _ _ _ (by rfl) K 3 i0 (.int .i64 0) 1 8 Tryz.underlying27 HI.out.1 HI.out.2.1 HI.out.2.2.1 HI.out.2.2.2 rfl (by decide) (.slice Ab k c0) k _ (by rfl) ((tK.out.rb).alloc _)
  ⟨w1.heap.size,0,none⟩ 1 1 [.int .i64 (et:Int)] (by rfl) (by rfl) (v7 _ _ _) (by intro u hu;rw [List.mem_singleton.1 hu];rfl) (by decide) (by unfold maxLen;omega) (by omega) (by simp;omega) (w1.heap.size+1) (by simp) ?_
 intro g cap wC hownC hgrowC hlocC hltC;have wg:Hid (GroD w1 wC (.slice Ab k c0) (.slice (some ⟨g,0,none⟩) (k+1) cap)):=Jj (yC (qq (w:=w1.drew) hgrowC hlocC));have th:=Jj hownC;(have hSC:wC.cell? ⟨B,0,none⟩=some (.slice Ab k c0)/\wC.cell? ⟨N,1,none⟩=some (.int .i64 (et:Int)):=⟨(JK (a:=⟨B,0,none⟩) (wg.out.block B (by have:=wh.out;omega) (wJ.out))).trans hS0.1,(JK (a:=⟨N,1,none⟩) (wg.out.block N (by have:=wh.out;omega) (wM.out))).trans hS0.2⟩);(have xf:wC.frozen? ⟨B,0,none⟩=false:=(World.frozen?_of_block (a:=⟨B,0,none⟩) (wg.out.block B (by have:=wh.out;omega) (wJ.out))).trans tr.out);have xc:=hSC.1;refine hK.out _ _ hSC ?_;clear hK K' hgrowC hlocC hownC;simp only [J6,aS,J1,J2]
 refine tk 9 20 hSC ?_;simp only [J6,aS,J1,J2];refine tk 10 21 hSC ?_;simp only [J6,aS,J1,J2];refine wpAnyH_done (by kernel_rfl) ?_ _;refine vL (by decide) (λ o ho K' hK=>?_);(simp only [JZ,JX,JY,J0] at ho;subst ho);(go_simp);refine hK.out _ _ ?_
 clear hK K' hSC hS0 hS xc xf;(go_upto_region 3 with fail);(obtain ⟨g1,g2,g3⟩:=tK.out.grow (t:=0) (r:=⟨3,1,k+1,(List.range (k+1)).map λ v=>.int .i64 ((qM bl k et v:Nat):Int)⟩) (by omega) wg.out (by show wC.ownsRow _ _ _ _ _ _;rw [<- q2c];exact th.out));have hPB:P≠B:=λ e=>tp.out.1.2.2 e.symm;have wk:∀ b,b≠B->(wC.setCell ⟨B,0,none⟩ (.slice (some ⟨g,0,none⟩) (k+1) cap)).heap[b]?=wC.heap[b]?:=λ b hb=>JQ _ _ _ _ hb;have wj:(wC.setCell ⟨B,0,none⟩ (.slice (some ⟨g,0,none⟩) (k+1) cap)).heap[B]?=some (.cells #[.slice (some ⟨g,0,none⟩) (k+1) cap,vf,va] 147):=qK (i:=0) (.slice (some ⟨g,0,none⟩) (k+1) cap) g1;have wR:=Jj (g2.of_block (wk P hPB));(have wQ:PoolD (wC.setCell ⟨B,0,none⟩ (.slice (some ⟨g,0,none⟩) (k+1) cap)) K (k+4) _ _:=g3.go λ b hb _=>wk b (by have:=tp.out;omega));have wZ:=(tw.out.trans (FrD.gro (B:=B) (t:=0) (by omega) wg.out)).trans (FrD.set (i:=0) wC (.slice (some ⟨g,0,none⟩) (k+1) cap))
 (have ta:(wC.setCell ⟨B,0,none⟩ (.slice (some ⟨g,0,none⟩) (k+1) cap)).cell? ⟨N,0,none⟩=some (.int .i64 ef):=(JK (a:=⟨N,0,none⟩) ((wk N (by have:=wh.out;have:=tW.out;omega)).trans (wg.out.block N wh.out.2 wM.out))).trans tN.out);(have hsz3:w1.heap.size<=(wC.setCell ⟨B,0,none⟩ (.slice (some ⟨g,0,none⟩) (k+1) cap)).heap.size:=by have:=wg.out.size;simpa using this);have wv:∀ i,i<k+4->(qM (tvU (.slice Ab k c0) vf va vo V) 0 (.slice (some ⟨g,0,none⟩) (k+1) cap) i).ownBlock≠some N/\(qM (tvU (.slice Ab k c0) vf va vo V) 0 (.slice (some ⟨g,0,none⟩) (k+1) cap) i).ownBlock≠some B:=λ i hi=>by
  by_cases e:i=0
  ·subst e;rw [qF]
   exact ⟨λ e=>by
    rcases wg.out.own N e with h | h
    ·exact wM.out h
    ·have:=wh.out;omega,λ e=>by
    rcases wg.out.own B e with h | h
    ·exact wJ.out h
    ·have:=wh.out;omega⟩
  ·rw [q8 _ _ e];exact tJ.out i hi
 generalize wC.setCell ⟨B,0,none⟩ (.slice (some ⟨g,0,none⟩) (k+1) cap)=w3 at *;have tx:=Jj wj;have tf:=Jj wQ;have tu:=Jj wZ;have tH:=Jj wv;(have wu:Hid (B<w3.heap.size/\N<w3.heap.size):=Jj (by have:=wh.out;omega));have tC:Hid (w3.ownsRow K 3 1 vf k ((List.range k).map λ v=>.int .i64 (frm v))):=Jj (wQ.own 1 (by omega));have ww:Hid (vf.ownBlock≠some B):=Jj (wv 1 (by omega)).2;have tj:Hid (vf.ownBlock≠some N):=Jj (wv 1 (by omega)).1
 (have tq:Hid (w3.frozen? ⟨B,1,none⟩=false):=Jj (by unfold World.frozen?;simp [wj]));have cb:w3.cell? ⟨B,1,none⟩=some vf:=q6 wj 1;have ce:=ta;clear wg th g1 g2 g3 wk wj wQ wZ ta wv hltC td;(have hKw3:K<=w3.heap.size:=by omega);generalize tV:Value.slice (some ⟨g,0,none⟩) (k+1) cap=v0 at *;clear tV;refine qS (L:=11) (S:=λ w'=>w'.cell? ⟨B,1,none⟩=some vf/\w'.cell? ⟨N,0,none⟩=some (.int .i64 ef)) (by kernel_rfl) (by rfl) (by kernel_rfl) (by kernel_rfl) ?_;change wpAnyH _ _ _ _ _ _ _ _ (World.drew _)
 have hS:∀ w',Below w3.heap.size w3 w'->w'.cell? ⟨B,1,none⟩=some vf/\w'.cell? ⟨N,0,none⟩=some (.int .i64 ef):=λ w' h=>⟨q7 h _ _ cb,q7 h _ _ ce⟩;have hS0:=hS w3.drew (J5 _ _).drew;clear cb ce;refine tk 0 22 hS0 ?_;simp only [J6,aS,J1,J2];refine tk 1 23 hS0 ?_;simp only [J6,aS,J1,J2];refine tk 2 24 hS0 ?_;simp only [J6,aS,J1,J2]
 refine tk 3 25 hS0 ?_;simp only [J6,aS,J1,J2];refine tk 4 26 hS0 ?_;simp only [J6,aS,J1,J2];refine tk 5 27 hS0 ?_;simp only [J6,aS,J1,J2];refine tk 6 28 hS0 ?_;simp only [J6,aS,J1,J2];refine zk (i:=7) (by kernel_rfl) (λ o ho K' hK=>?_)
 (simp only [JZ,JX,JY,J0] at ho;subst ho);(go_simp);have td:Below w3.heap.size w3 (w3.alloc (.cells #[.int .i64 ef] 3)).drew:=((J5 _ w3).alloc (J4 _) _).drew;refine hK.out _ _ (hS _ td) ?_;clear hK K';refine zk (i:=8) (by kernel_rfl) (λ o ho K' hK=>?_);(simp only [JZ,JX,JY,J0] at ho;subst ho);refine step_append_lies _ (by rfl) _ _ _ (by rfl) K 3 i0 (.int .i64 0) 1 8 Tryz.underlying27 HI.out.1 HI.out.2.1 HI.out.2.2.1 HI.out.2.2.2 rfl (by decide) vf k _ (by rfl) ((tC.out).alloc _)
  ⟨w3.heap.size,0,none⟩ 1 1 [.int .i64 ef] (by rfl) (by rfl) (v7 _ _ _) (by intro u hu;rw [List.mem_singleton.1 hu];rfl) (by decide) (by unfold maxLen;omega) (by omega) (by simp;omega) (w3.heap.size+1) (by simp) ?_
 intro g cap wC hownC hgrowC hlocC hltC;have wg:Hid (GroD w3 wC vf (.slice (some ⟨g,0,none⟩) (k+1) cap)):=Jj (yC (qq (w:=w3.drew) hgrowC hlocC));have th:=Jj hownC;(have hSC:wC.cell? ⟨B,1,none⟩=some vf/\wC.cell? ⟨N,0,none⟩=some (.int .i64 ef):=⟨(JK (a:=⟨B,1,none⟩) (wg.out.block B (by have:=wu.out;omega) (ww.out))).trans hS0.1,(JK (a:=⟨N,0,none⟩) (wg.out.block N (by have:=wu.out;omega) (tj.out))).trans hS0.2⟩);(have xf:wC.frozen? ⟨B,1,none⟩=false:=(World.frozen?_of_block (a:=⟨B,1,none⟩) (wg.out.block B (by have:=wu.out;omega) (ww.out))).trans tq.out);have xc:=hSC.1;refine hK.out _ _ hSC ?_;clear hK K' hgrowC hlocC hownC;simp only [J6,aS,J1,J2]
 refine tk 9 31 hSC ?_;simp only [J6,aS,J1,J2];refine tk 10 32 hSC ?_;simp only [J6,aS,J1,J2];refine wpAnyH_done (by kernel_rfl) ?_ _;refine vL (by decide) (λ o ho K' hK=>?_);(simp only [JZ,JX,JY,J0] at ho;subst ho);(go_simp);refine hK.out _ _ ?_
 clear hK K' hSC hS0 hS xc xf;(go_upto_region 4 with fail);have wY:=tp.out;have hblkB:=wg.out.block B wu.out.1 ww.out;have hbxB:wC.heap[B]?=some (.cells #[v0,vf,va] 147):=hblkB.trans tx.out;(have hplB:=wR.out.of_block (wg.out.block P (wR.out.lt) (λ e=>by have:=(tC.out.lt P e).1;omega)));(have hpoB:=tf.out.gro (t:=1) (r:=⟨3,1,k+1,(List.range (k+1)).map λ v=>.int .i64 (qM frm k ef v)⟩) (by omega) wg.out (by show wC.ownsRow _ _ _ _ _ _;rw [<- q2d];exact th.out));have wk:∀ b,b≠B->(wC.setCell ⟨B,1,none⟩ (.slice (some ⟨g,0,none⟩) (k+1) cap)).heap[b]?=wC.heap[b]?:=λ b hb=>JQ _ _ _ _ hb;have wl:(wC.setCell ⟨B,1,none⟩ (.slice (some ⟨g,0,none⟩) (k+1) cap)).heap[B]?=some (.cells #[v0,.slice (some ⟨g,0,none⟩) (k+1) cap,va] 147):=qK (i:=1) (.slice (some ⟨g,0,none⟩) (k+1) cap) hbxB
 have tg:=Jj (hplB.of_block (wk P hPB));have wO:PoolD (wC.setCell ⟨B,1,none⟩ (.slice (some ⟨g,0,none⟩) (k+1) cap)) K (k+4) _ _:=hpoB.go λ b hb _=>wk b (by omega);have tM:=Jj ((tu.out.trans (FrD.gro (B:=B) (t:=1) (by omega) wg.out)).trans (FrD.set (i:=1) wC (.slice (some ⟨g,0,none⟩) (k+1) cap)));(have hsz5:w3.heap.size<=(wC.setCell ⟨B,1,none⟩ (.slice (some ⟨g,0,none⟩) (k+1) cap)).heap.size:=by have:=wg.out.size;simpa using this);clear wg th wk hltC td hblkB hbxB hplB hpoB wR tf tu tx tC ww tj tq tH tw tK tr wJ wM;generalize wC.setCell ⟨B,1,none⟩ (.slice (some ⟨g,0,none⟩) (k+1) cap)=w5 at *;generalize tU:Value.slice (some ⟨g,0,none⟩) (k+1) cap=v1 at *;clear tU;have tF:=Jj wO
 have tO:=Jj wl;have tD:Hid (w5.ownsRow K 27 1 va k ((List.range k).map V)):=Jj (wO.own 2 (by omega));have tT:w5.cell? ⟨B,2,none⟩=some va:=q6 wl 2;(have hKw5:K<=w5.heap.size:=by omega);(have wT:Hid (B<w5.heap.size/\B<K):=Jj (by have:=wu.out;omega));clear wO wl wY;go_wp2_with (at_builtin;refine wpList_append_lies _ rfl (.tmp 37) (.tmp 38) 65 rfl K 27 i1 (.slice none 0 0) 1 24 Tryz.underlying65 HJ.out.1 HJ.out.2.1 HJ.out.2.2.1 HJ.out.2.2.2 rfl (by decide) va _ _ rfl (tD.out.alloc _) ⟨w5.heap.size,0,none⟩ 1 1 [.slice none 0 0] rfl rfl ?e1 ?e2 ?e0 ?e3 ?e4 ?e5 (w5.heap.size+1) ?e6 ?_)
 case e1=>exact v7 w5 _ _
 case e2=>intro u hu;rw [List.mem_singleton.1 hu];rfl
 case e0=>omega
 case e3=>unfold maxLen;omega
 case e4=>omega
 case e5=>simp;omega
 case e6=>simp
 intro g cap wD hownD hgrowD hlocD hltD;have wg:Hid (GroD w5 wD va (.slice (some ⟨g,0,none⟩) (k+1) cap)):=Jj (qq (w:=w5) hgrowD hlocD);(have hbxD:wD.heap[B]?=some (.cells #[v0,v1,va] 147):=(wg.out.block B wT.out.1 (λ e=>by have:=(tD.out.lt B e).1;have:=wT.out;omega)).trans tO.out);(have hfz:wD.frozen? ⟨B,2,none⟩=false:=by unfold World.frozen?;simp [hbxD]);have tT:wD.cell? ⟨B,2,none⟩=some va:=q6 hbxD 2;(have tG:=Jj (tg.out.of_block (wg.out.block P (tg.out.lt) (λ e=>by have:=(tD.out.lt P e).1;have:=tp.out;omega))));(have tE:=Jj (tF.out.gro (t:=2) (r:=⟨27,1,k+1,(List.range (k+1)).map (qM V k (.slice none 0 0))⟩) (by omega) wg.out (by show wD.ownsRow _ _ _ _ _ _;rw [<- ym];exact hownD)));have tL:=Jj ((tM.out.trans (FrD.gro (B:=B) (t:=2) (by omega) wg.out)).trans (FrD.set (i:=2) wD (.slice (some ⟨g,0,none⟩) (k+1) cap)));have tX:=Jj hbxD
 clear hownD hgrowD hlocD hltD hbxD wg;(go_wp2_with fail);(go_ret);have wk:∀ b,b≠B->(wD.setCell ⟨B,2,none⟩ (.slice (some ⟨g,0,none⟩) (k+1) cap)).heap[b]?=wD.heap[b]?:=λ b hb=>JQ _ _ _ _ hb;have tc:(wD.setCell ⟨B,2,none⟩ (.slice (some ⟨g,0,none⟩) (k+1) cap)).heap[B]?=some (.cells #[v0,v1,.slice (some ⟨g,0,none⟩) (k+1) cap] 147):=qK (i:=2) (.slice (some ⟨g,0,none⟩) (k+1) cap) tX.out;(have tz:PoolD (wD.setCell ⟨B,2,none⟩ (.slice (some ⟨g,0,none⟩) (k+1) cap)) K (k+4) _ _:=tE.out.go λ b hb _=>wk b (by have:=wT.out;omega));refine ⟨v0,v1,.slice (some ⟨g,0,none⟩) (k+1) cap,rfl,⟨tc,tG.out.of_block (wk P hPB),?_,tp.out.1⟩,?_⟩
 ·have h8:=tz.more 3 1;rw [show k+4+1=k+1+4 by omega] at h8;exact h8.congr q17 q5F
 ·have h8:=tL.out.trans (FrD.more (m:=k+4) _);rw [show k+4+1=k+1+4 by omega] at h8;exact h8.congr λ i hi=>(q17 i hi).symm
end Go.Proofs.YtfoggldjjnabcaaGreatDoor
