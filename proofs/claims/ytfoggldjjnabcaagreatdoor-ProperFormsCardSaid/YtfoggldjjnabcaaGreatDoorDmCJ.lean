/- The program's come: a block that is reached is given a place. -/
import Derived.Test.YtfoggldjjnabcaaGreatDoorDmPJ
namespace Go.Proofs.YtfoggldjjnabcaaGreatDoor
open Go.ChangeShapes Go.WideShapes Go.RowKit Go.Deep
set_option linter.unusedVariables false
def flatE (op:List (Int × Nat)):List Value:=op.flatMap fun e=>[.int .i64 e.1,.int .i64 (e.2:Int)]
def tvU (vb vf va vo:Value) (V:Nat→Value):Nat→Value:=fun i=>if i=0 then vb else if i=1 then vf else if i=2 then va else if i=3 then vo else V (i - 4)
def tvT (k:Nat) (bl:Nat→Nat) (frm:Nat→Int) (V:Nat→Value) (ah:Nat→List Nat) (op:List (Int × Nat)):Nat→RowD:=fun i =>
  if i=0 then ⟨3,1,k,(List.range k).map fun v=>.int .i64 (bl v:Int)⟩
  else if i=1 then ⟨3,1,k,(List.range k).map fun v=>.int .i64 (frm v)⟩
  else if i=2 then ⟨27,1,k,(List.range k).map V⟩
  else if i=3 then ⟨185,2,op.length,flatE op⟩
  else ⟨3,1,(ah (i - 4)).length,(zs (ah (i - 4))).map (Value.int .i64)⟩
structure TvM (w:World) (B P K n k:Nat) (vb vf va vo:Value) (V:Nat→Value) (bl:Nat→Nat) (frm:Nat→Int) (ah:Nat→List Nat) (pl:Nat→Int) (op:List (Int × Nat)):Prop where
  box:w.heap[B]?=some (.cells #[vb,vf,va] 147)
  plr:w.rowIs P 3 n (fun b=>.int .i64 (pl b))
  pool:PoolD w K (k+4) (tvU vb vf va vo V) (tvT k bl frm V ah op)
  lt:B<K∧P<K∧B≠P
theorem TvM.rb {w:World} {B P K n k:Nat} {vb vf va vo:Value} {V:Nat→Value} {bl:Nat→Nat} {frm:Nat→Int} {ah:Nat→List Nat} {pl:Nat→Int} {op:List (Int × Nat)} (h:TvM w B P K n k vb vf va vo V bl frm ah pl op):w.ownsRow K 3 1 vb k ((List.range k).map fun v=>.int .i64 (bl v:Int)):=h.pool.own 0 (by omega)
theorem TvM.rf {w:World} {B P K n k:Nat} {vb vf va vo:Value} {V:Nat→Value} {bl:Nat→Nat} {frm:Nat→Int} {ah:Nat→List Nat} {pl:Nat→Int} {op:List (Int × Nat)} (h:TvM w B P K n k vb vf va vo V bl frm ah pl op):w.ownsRow K 3 1 vf k ((List.range k).map fun v=>.int .i64 (frm v)):=h.pool.own 1 (by omega)
theorem TvM.ra {w:World} {B P K n k:Nat} {vb vf va vo:Value} {V:Nat→Value} {bl:Nat→Nat} {frm:Nat→Int} {ah:Nat→List Nat} {pl:Nat→Int} {op:List (Int × Nat)} (h:TvM w B P K n k vb vf va vo V bl frm ah pl op):w.ownsRow K 27 1 va k ((List.range k).map V):=h.pool.own 2 (by omega)
theorem TvM.ro {w:World} {B P K n k:Nat} {vb vf va vo:Value} {V:Nat→Value} {bl:Nat→Nat} {frm:Nat→Int} {ah:Nat→List Nat} {pl:Nat→Int} {op:List (Int × Nat)} (h:TvM w B P K n k vb vf va vo V bl frm ah pl op):w.ownsRow K 185 2 vo op.length (flatE op):=h.pool.own 3 (by omega)
theorem TvM.rV {w:World} {B P K n k:Nat} {vb vf va vo:Value} {V:Nat→Value} {bl:Nat→Nat} {frm:Nat→Int} {ah:Nat→List Nat} {pl:Nat→Int} {op:List (Int × Nat)} (h:TvM w B P K n k vb vf va vo V bl frm ah pl op) {v:Nat} (hv:v<k):w.ownsRow K 3 1 (V v) (ah v).length ((zs (ah v)).map (Value.int .i64)):=by
  have:=h.pool.own (v+4) (by omega);unfold OwnD tvU tvT at this;simpa using this
theorem TvM.go {w w':World} {B P K n k:Nat} {vb vf va vo:Value} {V:Nat→Value} {bl:Nat→Nat} {frm:Nat→Int} {ah:Nat→List Nat} {pl:Nat→Int} {op:List (Int × Nat)} (h:TvM w B P K n k vb vf va vo V bl frm ah pl op) (hb:Below w.heap.size w w'):TvM w' B P K n k vb vf va vo V bl frm ah pl op :=
  ⟨(hb.block B (Array.getElem?_eq_some_iff.1 h.box).1).trans h.box,h.plr.of_block (hb.block P h.plr.lt),h.pool.go fun g _ hg=>hb.block g hg,h.lt⟩
theorem TvM.grow {w w1:World} {B P K n k:Nat} {vb vf va vo:Value} {V:Nat→Value} {bl:Nat→Nat} {frm:Nat→Int} {ah:Nat→List Nat} {pl:Nat→Int} {op:List (Int × Nat)} (h:TvM w B P K n k vb vf va vo V bl frm ah pl op)
    {t:Nat} {v':Value} {r:RowD} (ht:t<k+4) (hg:GroD w w1 (tvU vb vf va vo V t) v') (ho:OwnD w1 K v' r) :
    w1.heap[B]?=some (.cells #[vb,vf,va] 147)∧w1.rowIs P 3 n (fun b=>.int .i64 (pl b))∧PoolD w1 K (k+4) (updF (tvU vb vf va vo V) t v') (updF (tvT k bl frm V ah op) t r):=by
  have hlt:=h.lt;have hl:=(h.pool.own t ht).lt;exact ⟨(hg.block B (Array.getElem?_eq_some_iff.1 h.box).1 (fun e=>by have:=(hl B e).1;omega)).trans h.box,h.plr.of_block (hg.block P h.plr.lt (fun e=>by have:=(hl P e).1;omega)),h.pool.gro ht hg ho⟩
theorem map_snoc_nat (f:Nat→Nat) (k x:Nat):((List.range k).map (fun v=>Value.int .i64 (f v:Int))++[.int .i64 (x:Int)])=(List.range (k+1)).map fun v=>.int .i64 ((updF f k x v:Nat):Int):=by
  rw [map_range_snoc];exact List.map_congr_left fun v _=>by unfold updF;split <;> rfl
theorem map_snoc_int (f:Nat→Int) (k:Nat) (x:Int):((List.range k).map (fun v=>Value.int .i64 (f v))++[.int .i64 x])=(List.range (k+1)).map fun v=>.int .i64 (updF f k x v):=by
  rw [map_range_snoc];exact List.map_congr_left fun v _=>by unfold updF;split <;> rfl
theorem come_rowsU {k:Nat} {vb vf va vo v0 v1 v2:Value} {V:Nat→Value} :
    ∀ i,i<k+1+4→updF (updF (updF (updF (tvU vb vf va vo V) 0 v0) 1 v1) 2 v2) (k+4) (.slice none 0 0) i=tvU v0 v1 v2 vo (updF V k (.slice none 0 0)) i:=by
  intro i hi;rcases Nat.lt_or_ge i 4 with h | h
  · rcases (by omega:i=0∨i=1∨i=2∨i=3) with rfl | rfl | rfl | rfl <;> simp [updF,tvU] <;> omega
  · obtain ⟨j,rfl⟩:∃ j,i=j+4:=⟨i - 4,by omega⟩
    by_cases e:j=k
    · subst e;simp [updF,tvU]
    · simp [updF,tvU,e]
theorem come_rowsT {k:Nat} {V:Nat→Value} {bl:Nat→Nat} {frm:Nat→Int} {ah:Nat→List Nat} {op:List (Int × Nat)} {et:Nat} {ef:Int} :
    ∀ i,i<k+1+4→updF (updF (updF (updF (tvT k bl frm V ah op) 0 ⟨3,1,k+1,(List.range (k+1)).map fun v=>.int .i64 ((updF bl k et v:Nat):Int)⟩) 1 ⟨3,1,k+1,(List.range (k+1)).map fun v=>.int .i64 (updF frm k ef v)⟩) 2 ⟨27,1,k+1,(List.range (k+1)).map (updF V k (.slice none 0 0))⟩) (k+4) ⟨3,1,0,[]⟩ i =
      tvT (k+1) (updF bl k et) (updF frm k ef) (updF V k (.slice none 0 0)) (updF ah k []) op i:=by
  intro i hi;rcases Nat.lt_or_ge i 4 with h | h
  · rcases (by omega:i=0∨i=1∨i=2∨i=3) with rfl | rfl | rfl | rfl <;> simp [updF,tvT] <;> omega
  · obtain ⟨j,rfl⟩:∃ j,i=j+4:=⟨i - 4,by omega⟩
    by_cases e:j=k
    · subst e;simp [updF,tvT,zs]
    · simp [updF,tvT,e]
def FreeD (m:Nat) (U:Nat→Value) (b:Nat):Prop:=∀ i,i<m→(U i).ownBlock≠some b
structure FrD (B m m':Nat) (U U':Nat→Value) (w w':World):Prop where
  os:w'.os=w.os
  tape:w'.tape=w.tape
  output:w'.output=w.output
  size:w.heap.size≤w'.heap.size
  block:∀ b,b<w.heap.size→b≠B→FreeD m U b→w'.heap[b]?=w.heap[b]?∧FreeD m' U' b
theorem FrD.trans {B m m' m'':Nat} {U U' U'':Nat→Value} {a b c:World} (h:FrD B m m' U U' a b) (k:FrD B m' m'' U' U'' b c):FrD B m m'' U U'' a c :=
  ⟨k.os.trans h.os,k.tape.trans h.tape,k.output.trans h.output,Nat.le_trans h.size k.size,fun i hi hb hf=>by
    obtain ⟨h1,h2⟩:=h.block i hi hb hf;obtain ⟨h3,h4⟩:=k.block i (Nat.lt_of_lt_of_le hi h.size) hb h2
    exact ⟨h3.trans h1,h4⟩⟩
theorem FrD.of_below {B m:Nat} {U:Nat→Value} {w w':World} (h:Below w.heap.size w w'):FrD B m m U U w w':=⟨h.os,h.tape,h.output,h.size,fun b hb _ hf=>⟨h.block b hb,hf⟩⟩
theorem FrD.gro {B m t:Nat} {U:Nat→Value} {v':Value} {w w':World} (ht:t<m) (hg:GroD w w' (U t) v'):FrD B m m U (updF U t v') w w' :=
  ⟨hg.os,hg.tape,hg.output,hg.size,fun b hb _ hf=>⟨hg.block b hb (hf t ht),fun i hi e=>by
    by_cases ei:i=t
    · subst ei;rw [qB] at e;rcases hg.own b e with h1 | h1
      · exact hf i hi h1
      · omega
    · rw [q9 _ _ ei] at e;exact hf i hi e⟩⟩
theorem FrD.set {B m i:Nat} {U:Nat→Value} (w:World) (v:Value):FrD B m m U U w (w.setCell ⟨B,i,none⟩ v) :=
  ⟨rfl,rfl,rfl,by simp,fun b _ hb hf=>⟨Below.heap_setCell _ _ _ _ hb,hf⟩⟩
theorem FrD.drew {B m m':Nat} {U U':Nat→Value} {w w':World} (h:FrD B m m' U U' w w'):FrD B m m' U U' w w'.drew:=⟨h.os,h.tape,h.output,h.size,h.block⟩
theorem FrD.congr {B m m':Nat} {U U' U'':Nat→Value} {w w':World} (h:FrD B m m' U U' w w') (he:∀ i,i<m'→U'' i=U' i):FrD B m m' U U'' w w' :=
  ⟨h.os,h.tape,h.output,h.size,fun b hb hB hf=>⟨(h.block b hb hB hf).1,fun i hi=>by rw [he i hi];exact (h.block b hb hB hf).2 i hi⟩⟩
theorem FrD.more {B m:Nat} {U:Nat→Value} (w:World):FrD B m (m+1) U (updF U m (.slice none 0 0)) w w :=
  ⟨rfl,rfl,rfl,Nat.le_refl _,fun b _ _ hf=>⟨rfl,fun i hi e=>by
    by_cases ei:i=m
    · subst ei;rw [qB] at e;cases e
    · rw [q9 _ _ ei] at e;exact hf i (by omega) e⟩⟩
def ToldCo (B P K n k:Nat) (vb vf va vo:Value) (V:Nat→Value) (bl:Nat→Nat) (frm:Nat→Int) (ah:Nat→List Nat) (pl:Nat→Int) (op:List (Int × Nat)) (ef:Int) (et:Nat) (w:World) (e:Ending) (w':World):Prop :=
  ∃ vb' vf' va',e=.returned (.int .i64 (k:Int))∧TvM w' B P K n (k+1) vb' vf' va' vo (updF V k (.slice none 0 0)) (updF bl k et) (updF frm k ef) (updF ah k []) pl op ∧
    FrD B (k+4) (k+1+4) (tvU vb vf va vo V) (tvU vb' vf' va' vo (updF V k (.slice none 0 0))) w w'
set_option maxRecDepth 100000 in
set_option maxHeartbeats 8000000 in
theorem come_any (B P K n k:Nat) (vb vf va vo:Value) (V:Nat→Value) (bl:Nat→Nat) (frm:Nat→Int) (ah:Nat→List Nat) (pl:Nat→Int) (op:List (Int × Nat)) (ef:Int) (et:Nat) (w:World)
    (h:TvM w B P K n k vb vf va vo V bl frm ah pl op) (hk:k≤1000000) (hK:K≤w.heap.size) :
    Calls Tryz.prog 128 #[.pointer (some ⟨B,0,none⟩),.agg #[.int .i64 ef,.int .i64 (et:Int)]] w (ToldCo B P K n k vb vf va vo V bl frm ah pl op ef et w):=by
  obtain ⟨i0,hi,hz0,hz1,hz2⟩:=info_parts Tryz.info3;have HI:=Lib.hid (And.intro hi (And.intro hz0 (And.intro hz1 hz2)));clear hi hz0 hz1 hz2;obtain ⟨i1,hi,hz0,hz1,hz2⟩:=info_parts Tryz.info27;have HJ:=Lib.hid (And.intro hi (And.intro hz0 (And.intro hz1 hz2)));clear hi hz0 hz1 hz2;have HMM:=Lib.hid h;clear h;go_enter Tryz.func128,Tryz.ntmps128
  (go_upto_region 1 with fail);obtain ⟨w1,hw1,hs1,hk1,hbel1,hc1,-⟩:=named w #[.int .i64 ef,.int .i64 (et:Int)] 185;rw [← hw1];obtain ⟨N,hN⟩:∃ N,N=w.heap.size:=⟨_,rfl⟩;have hBw:B<w.heap.size:=(Array.getElem?_eq_some_iff.1 HMM.out.box).1;have hm1:=HMM.out.go hbel1;obtain ⟨Ab,c0,rfl⟩:∃ A c,vb=.slice A k c:=by
    rcases hm1.rb.2 with ⟨h1,h2⟩ | ⟨g,cap,cur,h1,-⟩
    · exact ⟨_,_,by rw [h1,h2]⟩
    · exact ⟨_,_,h1⟩
  have HM1:=Lib.hid hm1;have hlt:=HMM.out.lt;have HLT:=Lib.hid (And.intro hlt hBw);have HNB:Hid (N≠B):=Lib.hid (by omega);(have HNL:Hid (∀ i,i<k+4→(tvU (.slice Ab k c0) vf va vo V i).ownBlock≠some N∧(tvU (.slice Ab k c0) vf va vo V i).ownBlock≠some B):=Lib.hid (fun i hi=>⟨fun e=>by have:=((HMM.out.pool.own i hi).lt N e).2;omega,fun e=>by have:=((HMM.out.pool.own i hi).lt B e).1;omega⟩));have HFR1:Hid (FrD B (k+4) (k+4) (tvU (.slice Ab k c0) vf va vo V) (tvU (.slice Ab k c0) vf va vo V) w w1):=Lib.hid (FrD.of_below hbel1);have hb0:w1.cell? ⟨B,0,none⟩=some (.slice Ab k c0):=q7 hm1.box 0;have cb:=hb0;have ce:w1.cell? ⟨N,1,none⟩=some (.int .i64 (et:Int)):=by rw [hN];exact hc1 1 _ rfl
  (have ce0:w1.cell? ⟨N,0,none⟩=some (.int .i64 ef):=by rw [hN];exact hc1 0 _ rfl);have HCE0:=Lib.hid ce0;have HLT0:Hid (B<w1.heap.size∧N<w1.heap.size):=Lib.hid (by omega);have HNO0:Hid ((Value.slice Ab k c0).ownBlock≠some B):=Lib.hid (HNL.out 0 (by omega)).2;have HNN0:Hid ((Value.slice Ab k c0).ownBlock≠some N):=Lib.hid (HNL.out 0 (by omega)).1;(have HFZ0:Hid (w1.frozen? ⟨B,0,none⟩=false):=Lib.hid (by unfold World.frozen?;simp [hm1.box]));(have hKw:K≤w1.heap.size:=by omega);rw [← hN];clear hw1 hs1 hk1 hbel1 hc1 hm1 ce0 hlt hN
  (go_upto_region 2 with fail);clear hb0;refine qI (L:=11) (S:=fun w'=>w'.cell? ⟨B,0,none⟩=some (.slice Ab k c0)∧w'.cell? ⟨N,1,none⟩=some (.int .i64 (et:Int))) (by kernel_rfl) (by rfl) (by kernel_rfl) (by kernel_rfl) ?_;change wpAnyH _ _ _ _ _ _ _ _ (World.drew _);have hS:∀ w',Below w1.heap.size w1 w'→w'.cell? ⟨B,0,none⟩=some (.slice Ab k c0)∧w'.cell? ⟨N,1,none⟩=some (.int .i64 (et:Int)):=fun w' h=>⟨q6 h _ _ cb,q6 h _ _ ce⟩;have hS0:=hS w1.drew (Below.refl _ _).drew;clear cb ce;refine tk 0 11 hS0 ?_;simp only [Act.put,aS,List.set_cons_zero,List.set_cons_succ]
  refine tk 1 12 hS0 ?_;simp only [Act.put,aS,List.set_cons_zero,List.set_cons_succ];refine tk 2 13 hS0 ?_;simp only [Act.put,aS,List.set_cons_zero,List.set_cons_succ];refine tk 3 14 hS0 ?_;simp only [Act.put,aS,List.set_cons_zero,List.set_cons_succ];refine tk 4 15 hS0 ?_;simp only [Act.put,aS,List.set_cons_zero,List.set_cons_succ];refine tk 5 16 hS0 ?_
  simp only [Act.put,aS,List.set_cons_zero,List.set_cons_succ];refine tk 6 17 hS0 ?_;simp only [Act.put,aS,List.set_cons_zero,List.set_cons_succ];refine oneH (i:=7) (by kernel_rfl) (fun o ho K' hK=>?_);(simp only [List.getElem?_toArray,List.getElem?_cons_zero,List.getElem?_cons_succ,Option.some.injEq] at ho;subst ho);(go_simp);have hb8:Below w1.heap.size w1 (w1.alloc (.cells #[.int .i64 (et:Int)] 3)).drew:=((Below.refl _ w1).alloc (Nat.le_refl _) _).drew;refine hK.out _ _ (hS _ hb8) ?_;clear hK K'
  refine oneH (i:=8) (by kernel_rfl) (fun o ho K' hK=>?_);(simp only [List.getElem?_toArray,List.getElem?_cons_zero,List.getElem?_cons_succ,Option.some.injEq] at ho;subst ho);refine step_append_lies _ (by rfl) _ _ _ (by rfl) K 3 i0 (.int .i64 0) 1 8 Tryz.underlying27 HI.out.1 HI.out.2.1 HI.out.2.2.1 HI.out.2.2.2 rfl (by decide) (.slice Ab k c0) k _ (by rfl) ((HM1.out.rb).alloc _)
    ⟨w1.heap.size,0,none⟩ 1 1 [.int .i64 (et:Int)] (by rfl) (by rfl) (qo _ _ _) (by intro u hu;rw [List.mem_singleton.1 hu];rfl) (by decide) (by unfold maxLen;omega) (by omega) (by simp;omega) (w1.heap.size+1) (by simp) ?_
  intro g cap wC hownC hgrowC hlocC hltC;have HGR:Hid (GroD w1 wC (.slice Ab k c0) (.slice (some ⟨g,0,none⟩) (k+1) cap)):=Lib.hid (groD_drew (qu (w:=w1.drew) hgrowC hlocC));have HOC:=Lib.hid hownC;(have hSC:wC.cell? ⟨B,0,none⟩=some (.slice Ab k c0)∧wC.cell? ⟨N,1,none⟩=some (.int .i64 (et:Int)):=⟨(World.cell?_of_block (a:=⟨B,0,none⟩) (HGR.out.block B (by have:=HLT0.out;omega) (HNO0.out))).trans hS0.1,(World.cell?_of_block (a:=⟨N,1,none⟩) (HGR.out.block N (by have:=HLT0.out;omega) (HNN0.out))).trans hS0.2⟩);(have xf:wC.frozen? ⟨B,0,none⟩=false:=(World.frozen?_of_block (a:=⟨B,0,none⟩) (HGR.out.block B (by have:=HLT0.out;omega) (HNO0.out))).trans HFZ0.out);have xc:=hSC.1;refine hK.out _ _ hSC ?_;clear hK K' hgrowC hlocC hownC;simp only [Act.put,aS,List.set_cons_zero,List.set_cons_succ]
  refine tk 9 20 hSC ?_;simp only [Act.put,aS,List.set_cons_zero,List.set_cons_succ];refine tk 10 21 hSC ?_;simp only [Act.put,aS,List.set_cons_zero,List.set_cons_succ];refine wpAnyH_done (by kernel_rfl) ?_ _;refine lastH (by decide) (fun o ho K' hK=>?_);(simp only [List.getElem?_toArray,List.getElem?_cons_zero,List.getElem?_cons_succ,Option.some.injEq] at ho;subst ho);(go_simp);refine hK.out _ _ ?_
  clear hK K' hSC hS0 hS xc xf;(go_upto_region 3 with fail);(obtain ⟨g1,g2,g3⟩:=HM1.out.grow (t:=0) (r:=⟨3,1,k+1,(List.range (k+1)).map fun v=>.int .i64 ((updF bl k et v:Nat):Int)⟩) (by omega) HGR.out (by show wC.ownsRow _ _ _ _ _ _;rw [← map_snoc_nat];exact HOC.out));have hPB:P≠B:=fun e=>HLT.out.1.2.2 e.symm;have hs3:∀ b,b≠B→(wC.setCell ⟨B,0,none⟩ (.slice (some ⟨g,0,none⟩) (k+1) cap)).heap[b]?=wC.heap[b]?:=fun b hb=>Below.heap_setCell _ _ _ _ hb;have hbox3:(wC.setCell ⟨B,0,none⟩ (.slice (some ⟨g,0,none⟩) (k+1) cap)).heap[B]?=some (.cells #[.slice (some ⟨g,0,none⟩) (k+1) cap,vf,va] 147):=qF (i:=0) (.slice (some ⟨g,0,none⟩) (k+1) cap) g1;have HPL3:=Lib.hid (g2.of_block (hs3 P hPB));(have hpo3:PoolD (wC.setCell ⟨B,0,none⟩ (.slice (some ⟨g,0,none⟩) (k+1) cap)) K (k+4) _ _:=g3.go fun b hb _=>hs3 b (by have:=HLT.out;omega));have hfr3:=(HFR1.out.trans (FrD.gro (B:=B) (t:=0) (by omega) HGR.out)).trans (FrD.set (i:=0) wC (.slice (some ⟨g,0,none⟩) (k+1) cap))
  (have hce3:(wC.setCell ⟨B,0,none⟩ (.slice (some ⟨g,0,none⟩) (k+1) cap)).cell? ⟨N,0,none⟩=some (.int .i64 ef):=(World.cell?_of_block (a:=⟨N,0,none⟩) ((hs3 N (by have:=HLT0.out;have:=HNB.out;omega)).trans (HGR.out.block N HLT0.out.2 HNN0.out))).trans HCE0.out);(have hsz3:w1.heap.size≤(wC.setCell ⟨B,0,none⟩ (.slice (some ⟨g,0,none⟩) (k+1) cap)).heap.size:=by have:=HGR.out.size;simpa using this);have hnn3:∀ i,i<k+4→(updF (tvU (.slice Ab k c0) vf va vo V) 0 (.slice (some ⟨g,0,none⟩) (k+1) cap) i).ownBlock≠some N∧(updF (tvU (.slice Ab k c0) vf va vo V) 0 (.slice (some ⟨g,0,none⟩) (k+1) cap) i).ownBlock≠some B:=fun i hi=>by
    by_cases e:i=0
    · subst e;rw [qB]
      exact ⟨fun e=>by
        rcases HGR.out.own N e with h | h
        · exact HNN0.out h
        · have:=HLT0.out;omega,fun e=>by
        rcases HGR.out.own B e with h | h
        · exact HNO0.out h
        · have:=HLT0.out;omega⟩
    · rw [q9 _ _ e];exact HNL.out i hi
  generalize wC.setCell ⟨B,0,none⟩ (.slice (some ⟨g,0,none⟩) (k+1) cap)=w3 at *;have HBX3:=Lib.hid hbox3;have HPO3:=Lib.hid hpo3;have HFR3:=Lib.hid hfr3;have HNL3:=Lib.hid hnn3;(have HLT1:Hid (B<w3.heap.size∧N<w3.heap.size):=Lib.hid (by have:=HLT0.out;omega));have HVF:Hid (w3.ownsRow K 3 1 vf k ((List.range k).map fun v=>.int .i64 (frm v))):=Lib.hid (hpo3.own 1 (by omega));have HNO1:Hid (vf.ownBlock≠some B):=Lib.hid (hnn3 1 (by omega)).2;have HNN1:Hid (vf.ownBlock≠some N):=Lib.hid (hnn3 1 (by omega)).1
  (have HFZ1:Hid (w3.frozen? ⟨B,1,none⟩=false):=Lib.hid (by unfold World.frozen?;simp [hbox3]));have cb:w3.cell? ⟨B,1,none⟩=some vf:=q7 hbox3 1;have ce:=hce3;clear HGR HOC g1 g2 g3 hs3 hbox3 hpo3 hfr3 hce3 hnn3 hltC hb8;(have hKw3:K≤w3.heap.size:=by omega);generalize HV0:Value.slice (some ⟨g,0,none⟩) (k+1) cap=v0 at *;clear HV0;refine qI (L:=11) (S:=fun w'=>w'.cell? ⟨B,1,none⟩=some vf∧w'.cell? ⟨N,0,none⟩=some (.int .i64 ef)) (by kernel_rfl) (by rfl) (by kernel_rfl) (by kernel_rfl) ?_;change wpAnyH _ _ _ _ _ _ _ _ (World.drew _)
  have hS:∀ w',Below w3.heap.size w3 w'→w'.cell? ⟨B,1,none⟩=some vf∧w'.cell? ⟨N,0,none⟩=some (.int .i64 ef):=fun w' h=>⟨q6 h _ _ cb,q6 h _ _ ce⟩;have hS0:=hS w3.drew (Below.refl _ _).drew;clear cb ce;refine tk 0 22 hS0 ?_;simp only [Act.put,aS,List.set_cons_zero,List.set_cons_succ];refine tk 1 23 hS0 ?_;simp only [Act.put,aS,List.set_cons_zero,List.set_cons_succ];refine tk 2 24 hS0 ?_;simp only [Act.put,aS,List.set_cons_zero,List.set_cons_succ]
  refine tk 3 25 hS0 ?_;simp only [Act.put,aS,List.set_cons_zero,List.set_cons_succ];refine tk 4 26 hS0 ?_;simp only [Act.put,aS,List.set_cons_zero,List.set_cons_succ];refine tk 5 27 hS0 ?_;simp only [Act.put,aS,List.set_cons_zero,List.set_cons_succ];refine tk 6 28 hS0 ?_;simp only [Act.put,aS,List.set_cons_zero,List.set_cons_succ];refine oneH (i:=7) (by kernel_rfl) (fun o ho K' hK=>?_)
  (simp only [List.getElem?_toArray,List.getElem?_cons_zero,List.getElem?_cons_succ,Option.some.injEq] at ho;subst ho);(go_simp);have hb8:Below w3.heap.size w3 (w3.alloc (.cells #[.int .i64 ef] 3)).drew:=((Below.refl _ w3).alloc (Nat.le_refl _) _).drew;refine hK.out _ _ (hS _ hb8) ?_;clear hK K';refine oneH (i:=8) (by kernel_rfl) (fun o ho K' hK=>?_);(simp only [List.getElem?_toArray,List.getElem?_cons_zero,List.getElem?_cons_succ,Option.some.injEq] at ho;subst ho);refine step_append_lies _ (by rfl) _ _ _ (by rfl) K 3 i0 (.int .i64 0) 1 8 Tryz.underlying27 HI.out.1 HI.out.2.1 HI.out.2.2.1 HI.out.2.2.2 rfl (by decide) vf k _ (by rfl) ((HVF.out).alloc _)
    ⟨w3.heap.size,0,none⟩ 1 1 [.int .i64 ef] (by rfl) (by rfl) (qo _ _ _) (by intro u hu;rw [List.mem_singleton.1 hu];rfl) (by decide) (by unfold maxLen;omega) (by omega) (by simp;omega) (w3.heap.size+1) (by simp) ?_
  intro g cap wC hownC hgrowC hlocC hltC;have HGR:Hid (GroD w3 wC vf (.slice (some ⟨g,0,none⟩) (k+1) cap)):=Lib.hid (groD_drew (qu (w:=w3.drew) hgrowC hlocC));have HOC:=Lib.hid hownC;(have hSC:wC.cell? ⟨B,1,none⟩=some vf∧wC.cell? ⟨N,0,none⟩=some (.int .i64 ef):=⟨(World.cell?_of_block (a:=⟨B,1,none⟩) (HGR.out.block B (by have:=HLT1.out;omega) (HNO1.out))).trans hS0.1,(World.cell?_of_block (a:=⟨N,0,none⟩) (HGR.out.block N (by have:=HLT1.out;omega) (HNN1.out))).trans hS0.2⟩);(have xf:wC.frozen? ⟨B,1,none⟩=false:=(World.frozen?_of_block (a:=⟨B,1,none⟩) (HGR.out.block B (by have:=HLT1.out;omega) (HNO1.out))).trans HFZ1.out);have xc:=hSC.1;refine hK.out _ _ hSC ?_;clear hK K' hgrowC hlocC hownC;simp only [Act.put,aS,List.set_cons_zero,List.set_cons_succ]
  refine tk 9 31 hSC ?_;simp only [Act.put,aS,List.set_cons_zero,List.set_cons_succ];refine tk 10 32 hSC ?_;simp only [Act.put,aS,List.set_cons_zero,List.set_cons_succ];refine wpAnyH_done (by kernel_rfl) ?_ _;refine lastH (by decide) (fun o ho K' hK=>?_);(simp only [List.getElem?_toArray,List.getElem?_cons_zero,List.getElem?_cons_succ,Option.some.injEq] at ho;subst ho);(go_simp);refine hK.out _ _ ?_
  clear hK K' hSC hS0 hS xc xf;(go_upto_region 4 with fail);have hlt:=HLT.out;have hblkB:=HGR.out.block B HLT1.out.1 HNO1.out;have hbxB:wC.heap[B]?=some (.cells #[v0,vf,va] 147):=hblkB.trans HBX3.out;(have hplB:=HPL3.out.of_block (HGR.out.block P (HPL3.out.lt) (fun e=>by have:=(HVF.out.lt P e).1;omega)));(have hpoB:=HPO3.out.gro (t:=1) (r:=⟨3,1,k+1,(List.range (k+1)).map fun v=>.int .i64 (updF frm k ef v)⟩) (by omega) HGR.out (by show wC.ownsRow _ _ _ _ _ _;rw [← map_snoc_int];exact HOC.out));have hs3:∀ b,b≠B→(wC.setCell ⟨B,1,none⟩ (.slice (some ⟨g,0,none⟩) (k+1) cap)).heap[b]?=wC.heap[b]?:=fun b hb=>Below.heap_setCell _ _ _ _ hb;have hbox5:(wC.setCell ⟨B,1,none⟩ (.slice (some ⟨g,0,none⟩) (k+1) cap)).heap[B]?=some (.cells #[v0,.slice (some ⟨g,0,none⟩) (k+1) cap,va] 147):=qF (i:=1) (.slice (some ⟨g,0,none⟩) (k+1) cap) hbxB
  have HPL5:=Lib.hid (hplB.of_block (hs3 P hPB));have hpo5:PoolD (wC.setCell ⟨B,1,none⟩ (.slice (some ⟨g,0,none⟩) (k+1) cap)) K (k+4) _ _:=hpoB.go fun b hb _=>hs3 b (by omega);have HFR5:=Lib.hid ((HFR3.out.trans (FrD.gro (B:=B) (t:=1) (by omega) HGR.out)).trans (FrD.set (i:=1) wC (.slice (some ⟨g,0,none⟩) (k+1) cap)));(have hsz5:w3.heap.size≤(wC.setCell ⟨B,1,none⟩ (.slice (some ⟨g,0,none⟩) (k+1) cap)).heap.size:=by have:=HGR.out.size;simpa using this);clear HGR HOC hs3 hltC hb8 hblkB hbxB hplB hpoB HPL3 HPO3 HFR3 HBX3 HVF HNO1 HNN1 HFZ1 HNL3 HFR1 HM1 HFZ0 HNO0 HNN0;generalize wC.setCell ⟨B,1,none⟩ (.slice (some ⟨g,0,none⟩) (k+1) cap)=w5 at *;generalize HV1:Value.slice (some ⟨g,0,none⟩) (k+1) cap=v1 at *;clear HV1;have HPO5:=Lib.hid hpo5
  have HBX5:=Lib.hid hbox5;have HVA:Hid (w5.ownsRow K 27 1 va k ((List.range k).map V)):=Lib.hid (hpo5.own 2 (by omega));have hba:w5.cell? ⟨B,2,none⟩=some va:=q7 hbox5 2;(have hKw5:K≤w5.heap.size:=by omega);(have HLT5:Hid (B<w5.heap.size∧B<K):=Lib.hid (by have:=HLT1.out;omega));clear hpo5 hbox5 hlt;go_wp2_with (at_builtin;refine wpList_append_lies _ rfl (.tmp 37) (.tmp 38) 65 rfl K 27 i1 (.slice none 0 0) 1 24 Tryz.underlying65 HJ.out.1 HJ.out.2.1 HJ.out.2.2.1 HJ.out.2.2.2 rfl (by decide) va _ _ rfl (HVA.out.alloc _) ⟨w5.heap.size,0,none⟩ 1 1 [.slice none 0 0] rfl rfl ?e1 ?e2 ?e0 ?e3 ?e4 ?e5 (w5.heap.size+1) ?e6 ?_)
  case e1=>exact qo w5 _ _
  case e2=>intro u hu;rw [List.mem_singleton.1 hu];rfl
  case e0=>omega
  case e3=>unfold maxLen;omega
  case e4=>omega
  case e5=>simp;omega
  case e6=>simp
  intro g cap wD hownD hgrowD hlocD hltD;have HGR:Hid (GroD w5 wD va (.slice (some ⟨g,0,none⟩) (k+1) cap)):=Lib.hid (qu (w:=w5) hgrowD hlocD);(have hbxD:wD.heap[B]?=some (.cells #[v0,v1,va] 147):=(HGR.out.block B HLT5.out.1 (fun e=>by have:=(HVA.out.lt B e).1;have:=HLT5.out;omega)).trans HBX5.out);(have hfz:wD.frozen? ⟨B,2,none⟩=false:=by unfold World.frozen?;simp [hbxD]);have hba:wD.cell? ⟨B,2,none⟩=some va:=q7 hbxD 2;(have HPLD:=Lib.hid (HPL5.out.of_block (HGR.out.block P (HPL5.out.lt) (fun e=>by have:=(HVA.out.lt P e).1;have:=HLT.out;omega))));(have HPOD:=Lib.hid (HPO5.out.gro (t:=2) (r:=⟨27,1,k+1,(List.range (k+1)).map (updF V k (.slice none 0 0))⟩) (by omega) HGR.out (by show wD.ownsRow _ _ _ _ _ _;rw [← map_range_snoc];exact hownD)));have HFRD:=Lib.hid ((HFR5.out.trans (FrD.gro (B:=B) (t:=2) (by omega) HGR.out)).trans (FrD.set (i:=2) wD (.slice (some ⟨g,0,none⟩) (k+1) cap)));have HBD:=Lib.hid hbxD
  clear hownD hgrowD hlocD hltD hbxD HGR;(go_wp2_with fail);(go_ret);have hs3:∀ b,b≠B→(wD.setCell ⟨B,2,none⟩ (.slice (some ⟨g,0,none⟩) (k+1) cap)).heap[b]?=wD.heap[b]?:=fun b hb=>Below.heap_setCell _ _ _ _ hb;have hbox7:(wD.setCell ⟨B,2,none⟩ (.slice (some ⟨g,0,none⟩) (k+1) cap)).heap[B]?=some (.cells #[v0,v1,.slice (some ⟨g,0,none⟩) (k+1) cap] 147):=qF (i:=2) (.slice (some ⟨g,0,none⟩) (k+1) cap) HBD.out;(have hpo7:PoolD (wD.setCell ⟨B,2,none⟩ (.slice (some ⟨g,0,none⟩) (k+1) cap)) K (k+4) _ _:=HPOD.out.go fun b hb _=>hs3 b (by have:=HLT5.out;omega));refine ⟨v0,v1,.slice (some ⟨g,0,none⟩) (k+1) cap,rfl,⟨hbox7,HPLD.out.of_block (hs3 P hPB),?_,HLT.out.1⟩,?_⟩
  · have h8:=hpo7.more 3 1;rw [show k+4+1=k+1+4 by omega] at h8;exact h8.congr come_rowsU come_rowsT
  · have h8:=HFRD.out.trans (FrD.more (m:=k+4) _);rw [show k+4+1=k+1+4 by omega] at h8;exact h8.congr fun i hi=>(come_rowsU i hi).symm
end Go.Proofs.YtfoggldjjnabcaaGreatDoor
